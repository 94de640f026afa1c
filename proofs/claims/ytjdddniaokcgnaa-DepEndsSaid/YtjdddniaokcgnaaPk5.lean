/-
  The machine, the program's functions and the laws' arithmetic: part 5 of 6.
-/
import Derived.Test.YtjdddniaokcgnaaPk4
set_option linter.unusedVariables false
set_option linter.unusedSimpArgs false
namespace Go.Proofs.Ytjdddniaokcgnaa
noncomputable section
open Go Go.RowKit
set_option linter.unusedVariables false
set_option maxRecDepth 100000
set_option maxHeartbeats 2000000
def Ct (a_g : Aj) (x3 : List (Int)) : (Bool × Int × List (Int)) → Option (LR (Bool × Int × List (Int)) (Bool × List (Int))) :=
  fun ((b7, i8, l9) : (Bool × Int × List (Int))) => (bif (decide ((i8 : Int) < ((x3.drop ((1 : Int)).toNat).length : Int))) then (Option.bind (α := (Bool × List (Int))) (Ci (A8 i8 (x3.drop ((1 : Int)).toNat).length) (Ci (A8 ((x3.drop ((1 : Int)).toNat).getD (i8).toNat (0 : Int)) a_g.Pred.length) ((Dr l9 (a_g.Pred.getD (((x3.drop ((1 : Int)).toNat).getD (i8).toNat (0 : Int))).toNat [])).bind fun x16 => (Ci (l9.length = x16.2.length) (Ci (A8 ((x3.drop ((1 : Int)).toNat).getD (i8).toNat (0 : Int)) x16.2.length) (bif ((x16.1 : Int) != (x16.2.getD (((x3.drop ((1 : Int)).toNat).getD (i8).toNat (0 : Int))).toNat (0 : Int))) then (Ci (A8 ((x3.drop ((1 : Int)).toNat).getD (i8).toNat (0 : Int)) x16.2.length) (some ((true, (x16.2.set (((x3.drop ((1 : Int)).toNat).getD (i8).toNat (0 : Int))).toNat x16.1))))) else (some ((b7, x16.2))))))))) (fun x20 => (match x20 with | (b12, l13) => (some (.next (b12, (Bi (i8 + (1 : Int))), l13)))))) else (some (.done (b7, l9))))
def Hj (a_g : Aj) (l1 : List (Int)) : (Bool × Int × List (Int)) → Option (LR (Bool × Int × List (Int)) (Bool × List (Int))) :=
  fun ((b25, i26, l27) : (Bool × Int × List (Int))) => (bif (decide ((i26 : Int) < ((l1.drop ((1 : Int)).toNat).length : Int))) then (Option.bind (α := (Bool × List (Int))) (Ci (A8 i26 (l1.drop ((1 : Int)).toNat).length) (Ci (A8 ((l1.drop ((1 : Int)).toNat).getD (i26).toNat (0 : Int)) a_g.Pred.length) ((Dr l27 (a_g.Pred.getD (((l1.drop ((1 : Int)).toNat).getD (i26).toNat (0 : Int))).toNat [])).bind fun x34 => (Ci (l27.length = x34.2.length) (Ci (A8 ((l1.drop ((1 : Int)).toNat).getD (i26).toNat (0 : Int)) x34.2.length) (bif ((x34.1 : Int) != (x34.2.getD (((l1.drop ((1 : Int)).toNat).getD (i26).toNat (0 : Int))).toNat (0 : Int))) then (Ci (A8 ((l1.drop ((1 : Int)).toNat).getD (i26).toNat (0 : Int)) x34.2.length) (some ((true, (x34.2.set (((l1.drop ((1 : Int)).toNat).getD (i26).toNat (0 : Int))).toNat x34.1))))) else (some ((b25, x34.2))))))))) (fun x38 => (match x38 with | (b30, l31) => (some (.next (b30, (Bi (i26 + (1 : Int))), l31)))))) else (some (.done (b25, l27))))
def De (a_g : Aj) : (List (Int) × List (Int)) → Option (LR (List (Int) × List (Int)) (List (Int))) :=
  fun (s_ : (List (Int) × List (Int))) => match s_ with | (l1, l2) => (Ci (0 ≤ (1 : Int) ∧ (1 : Int) ≤ (l1.length : Int)) ((Ay (S := (Bool × Int × List (Int))) (X := (Bool × List (Int))) (Hj a_g l1) (false, (0 : Int), l2)).bind (fun x40 => (match x40 with | (b28, l29) => (bif b28 then (some (.next (l1, l29))) else (some (.done l29)))))))
def Q162 (l1 : List (Int)) := (l1.drop ((1 : Int)).toNat)
def Q163 (x3 : List (Int)) := (x3.drop ((1 : Int)).toNat)
def Q182 := (fun n_ => Ch n_ [2, 13, 21])
def T0 (x4 : List (Int)) (a_root : Int) := (x4.set (a_root).toNat (-1 : Int))
def Pa (l1 : List (Int)) : AV := (.int .i64 ((Q162 l1).length : Int))
def Pd (x3 : List (Int)) : AV := (.int .i64 ((Q163 x3).length : Int))
def Nl (x3 : List (Int)) (i8 : Int) := ((Q163 x3).getD (i8).toNat (0 : Int))
def Q170 (l11 : List (Int)) := (fun i => Ac (l11.getD i (0 : Int)))
def Q171 (l27 : List (Int)) := (fun i => Ac (l27.getD i (0 : Int)))
def Q172 (l29 : List (Int)) := (fun i => Ac (l29.getD i (0 : Int)))
def Nx (l1 : List (Int)) (i26 : Int) := ((Q162 l1).getD (i26).toNat (0 : Int))
def Iw (x3 : List (Int)) : AV := (AV.list 1 Ac (0 : Int) x3 (.own 13))
def Lp (l1 : List (Int)) : AV := (AV.list 1 Ac (0 : Int) l1 (.own 13))
def Q168 (x16 : (Int × List (Int))) := (fun i => Ac (x16.2.getD i (0 : Int)))
def Q169 (x34 : (Int × List (Int))) := (fun i => Ac (x34.2.getD i (0 : Int)))
def Ng (l1 : List (Int)) : AV := (AV.list 1 Ac (0 : Int) (Q162 l1) .none)
def Ny (x3 : List (Int)) : AV := (AV.list 1 Ac (0 : Int) (Q163 x3) .none)
def Q167 : AV := (AV.list 1 Ac (0 : Int) ([] : List Int) .exact)
def F7 (a_g : Aj) : List AV := [(AV.list 1 eLI64 [] a_g.Succ .none), (AV.list 1 eLI64 [] a_g.Pred .none)]
def Q180 (a_g : Aj) (l1 : List (Int)) (l27 : List (Int)) : List (Nat × Own) := [(2, .row 26 (F7 a_g)), (13, .tok 1 3 l1.length), (21, .arr 1 3 l27.length (Q171 l27))]
def Q179 (a_g : Aj) (x3 : List (Int)) (l9 : List (Int)) : List (Nat × Own) := [(2, .row 26 (F7 a_g)), (13, .tok 1 3 x3.length), (21, .arr 1 3 l9.length (fun i => Ac (l9.getD i (0 : Int))))]
def Q181 (a_g : Aj) (l1 : List (Int)) (l2 : List (Int)) : List (Nat × Own) := [(2, .row 26 (F7 a_g)), (13, .tok 1 3 l1.length), (21, .arr 1 3 l2.length (fun i => Ac (l2.getD i (0 : Int))))]
def Q183 := (⟨[(4, (AV.list 1 Ac (0 : Int) ([] : List Int) (.own 6004)))], [(6004, .tok 1 3 (([] : List Int).length))], []⟩ : St)
def Fm (a_g : Aj) (a_root : Int) : Option (List (Int)) :=
  ((Ki (S := (List (Int) × List (Int))) (X := List (Int)) ((D4 a_g a_root).bind fun x3 => (bif (((x3.length : Int) : Int) == (0 : Int)) then (some (.done ([] : List Int))) else ((Dc ([(-2 : Int)] : List (Int)) (a_g.Succ.length : Int)).bind fun x4 => (Ci (A8 a_root x4.length) (Ci (0 ≤ (1 : Int) ∧ (1 : Int) ≤ (x3.length : Int)) ((Ay (S := (Bool × Int × List (Int))) (X := (Bool × List (Int))) (Ct a_g x3) (false, (0 : Int), (x4.set (a_root).toNat (-1 : Int)))).bind (fun x22 => (match x22 with | (b10, l11) => (bif b10 then (some (.next (x3, l11))) else (some (.done l11))))))))))) (De a_g)).bind (fun x42 => ((some x42))))
theorem P3 (a_g : Aj) (a_root : Int) (r : List (Int)) (h : Fm a_g a_root = some r) : Spec Try.prog 19 [(.agg (A7 a_g)), (.int .i64 a_root)] [] (AV.list 1 Ac (0 : Int) r (.own 20000)) [(20000, .tok 1 3 r.length)] := by
  refine Ap (fn := Try.f19) Try.func19 rfl rfl (by kernel_rfl) (fun Γ hn hΓ => ?_); have hq : RgQ Try.prog Γ 52 [] := ⟨hn, mix, hΓ⟩; unfold Fm at h; refine B9 [] [(4, Q167)] ⟨[(1, (.int .i64 a_root)), (2, (.ptr 2 0))], [(2, .row 26 (F7 a_g))], []⟩ [(AVle (.slice 0 0 (fun _ => []) .exact) Q167)] hq ⟨Di, trivial⟩ ?_; obtain ⟨x42, hx42, h⟩ := bind_some h; refine Mn (S := (List (Int) × List (Int))) (X := List (Int)) (fun (s_ : (List (Int) × List (Int))) => match s_ with | (l1, l2) => 0) (fun (s_ : (List (Int) × List (Int))) => match s_ with | (l1, l2) => (⟨[(2, (.ptr 2 0)), (5, (Lp l1)), (6, (.vsl 21 l2.length))], (Q181 a_g l1 l2), []⟩ : St)) _ _ (fun (r_ : List (Int)) (e : Exit) (st : St) => e = .ret ∧ Kb Try.prog Try.f19.results.toList [] (AV.list 1 Ac (0 : Int) r_ (.own 20000)) [(20000, .tok 1 3 r_.length)] e st) ?_ ?_ hx42 ?_
  · clear h hx42; intro y h; obtain ⟨x3, hx3, h⟩ := bind_some h; refine B9 [⟨[], [(20000, 13)], (AV.list 1 Ac (0 : Int) x3 (.own 20000)), [(20000, .tok 1 3 x3.length)], []⟩] [] ⟨[(1, (.int .i64 a_root)), (2, (.ptr 2 0)), (5, (Iw x3))], [(2, .row 26 (F7 a_g)), (13, .tok 1 3 x3.length)], []⟩ [(Spec Try.prog 33 [(.agg (A7 a_g)), (.int .i64 a_root)] [] (AV.list 1 Ac (0 : Int) x3 (.own 20000)) [(20000, .tok 1 3 x3.length)])] hq ⟨(La a_g a_root x3 hx3), trivial⟩ ?_; refine Ae ?_; refine As ⟨[(1, (.int .i64 a_root)), (2, (.ptr 2 0)), (5, (Iw x3)), (16, (.bool (((x3.length : Int) : Int) == (0 : Int))))], [(2, .row 26 (F7 a_g)), (13, .tok 1 3 x3.length)], []⟩ hq ?_; refine Ai (((x3.length : Int) : Int) == (0 : Int)) (by kernel_rfl) (fun hb => ?_) (fun hb => ?_)
    · replace h := Ar hb h; clear hb; refine B9 [] [(4, Q167)] ⟨[(4, Q167)], [], []⟩ [(AVle (.slice 0 0 (fun _ => []) .exact) Q167)] hq ⟨Di, trivial⟩ ?_; refine Af (st' := Q183) (Le.trans (E3 (st' := ⟨[(4, Q167)], [], []⟩) [4] [] hq) (Le.trans (Lj (t := 4) (nm := 6004) (sz' := 1) (fun i => Ac (([] : List Int).getD i (0 : Int))) 3 rfl rfl (.inl ⟨rfl, rfl⟩) (fun h_ => absurd h_ (by decide))) (E3 (st' := Q183) [4] [6004] hq))) ?_; refine Aq ?_; refine Aw ?_; obtain rfl := OI h; exact ⟨(by intro l hh; cases hh), rfl, ⟨.inl rfl, [(6004, 20000)], by kernel_rfl⟩⟩
    · replace h := Au hb h; clear hb; refine Ag ?_; refine Aa ?_; obtain ⟨x4, hx4, h⟩ := bind_some h; refine B9 [⟨[], [(20000, 21)], (.vsl 20000 x4.length), [(20000, .arr 1 3 x4.length (fun i => Ac (x4.getD i (0 : Int))))], []⟩] [(17, (AV.list 1 Ac (0 : Int) ([(-2 : Int)] : List (Int)) .exact))] ⟨[(1, (.int .i64 a_root)), (2, (.ptr 2 0)), (5, (Iw x3)), (6, (.vsl 21 x4.length))], [(2, .row 26 (F7 a_g)), (13, .tok 1 3 x3.length), (21, .arr 1 3 x4.length (fun i => Ac (x4.getD i (0 : Int))))], []⟩ [(AVle (.slice 1 1 (fun i => ([[(.int .i64 (-2 : Int))]] : List (List AV)).getD i []) .exact) (AV.list 1 Ac (0 : Int) ([(-2 : Int)] : List (Int)) .exact)), (Spec Try.prog 34 [(AV.list 1 Ac (0 : Int) ([(-2 : Int)] : List (Int)) .none), (.int .i64 (a_g.Succ.length : Int))] [] (.vsl 20000 x4.length) [(20000, .arr 1 3 x4.length (fun i => Ac (x4.getD i (0 : Int))))])] hq ⟨(E4 rfl (fun i hi => Ea (e := Ac) (d := (0 : Int)) ([(-2 : Int)] : List (Int)) i hi)), (Jm ([(-2 : Int)] : List (Int)) (a_g.Succ.length : Int) x4 hx4), trivial⟩ ?_; obtain ⟨hc5, h⟩ := Ab h; refine B9 [] [] ⟨[(2, (.ptr 2 0)), (5, (Iw x3)), (6, (.vsl 21 x4.length))], [(2, .row 26 (F7 a_g)), (13, .tok 1 3 x3.length), (21, .arr 1 3 x4.length (fun i_ => AV.eraseAll Q182 ((Fc (fun i => Ac (x4.getD i (0 : Int))) (a_root).toNat 0 [(.int .i64 (-1 : Int))]) i_)))], []⟩ [(A8 a_root x4.length), (x4.length = x4.length)] hq ⟨hc5, rfl, trivial⟩ ?_; refine Af (Le.trans (Cw (st' := ⟨[(2, (.ptr 2 0)), (5, (Iw x3)), (6, (.vsl 21 x4.length))], [(2, .row 26 (F7 a_g)), (13, .tok 1 3 x3.length), (21, .arr 1 3 x4.length (fun i => Ac ((T0 x4 a_root).getD i (0 : Int))))], []⟩) (TmpsLe.refl _) (.same (.same (.arr (Bx (List.length_set ..).symm (fun k_ hk_ => (congrArg (AV.eraseAll Q182) ((Gs (fun _ _ => rfl) (Hg hc5) rfl) k_ hk_)).trans rfl)) .nil)))) (B1 (congrArg (fun k_ : Nat => (⟨[(2, (.ptr 2 0)), (5, (Iw x3)), (6, (.vsl 21 k_))], [(2, .row 26 (F7 a_g)), (13, .tok 1 3 x3.length), (21, .arr 1 3 k_ (fun i => Ac ((T0 x4 a_root).getD i (0 : Int))))], []⟩ : St)) (show x4.length = (T0 x4 a_root).length from (List.length_set ..).symm)))) ?_; refine Ae ?_; refine Mm ?_; refine Aa ?_; refine As ⟨[(2, (.ptr 2 0)), (5, (Iw x3)), (6, (.vsl 21 (T0 x4 a_root).length)), (7, (.bool false))], [(2, .row 26 (F7 a_g)), (13, .tok 1 3 x3.length), (21, .arr 1 3 ((T0 x4 a_root).length) (fun i => Ac ((T0 x4 a_root).getD i (0 : Int))))], []⟩ hq ?_; refine Ae ?_; obtain ⟨hc6, h⟩ := Ab h; refine B9 [] [(26, (Ny x3))] ⟨[(2, (.ptr 2 0)), (5, (Iw x3)), (6, (.vsl 21 (T0 x4 a_root).length)), (7, (.bool false)), (26, (Ny x3)), (27, (Pd x3)), (28, (.int .i64 (0 : Int)))], [(2, .row 26 (F7 a_g)), (13, .tok 1 3 x3.length), (21, .arr 1 3 ((T0 x4 a_root).length) (fun i => Ac ((T0 x4 a_root).getD i (0 : Int))))], []⟩ [(0 ≤ (1 : Int) ∧ (1 : Int) ≤ (x3.length : Int)), (AVle (.slice 1 (x3.length - ((1 : Int)).toNat) (fun i => Ac (x3.getD (((1 : Int)).toNat + i) (0 : Int))) .none) (Ny x3))] hq ⟨hc6, av_drop, trivial⟩ ?_; refine Ak ?_; refine Af (st' := (fun ((b7, i8, l9) : (Bool × Int × List (Int))) => (⟨[(2, (.ptr 2 0)), (5, (Iw x3)), (6, (.vsl 21 l9.length)), (7, (.bool b7)), (26, (Ny x3)), (27, (Pd x3)), (28, (.int .i64 i8))], (Q179 a_g x3 l9), []⟩ : St)) (false, (0 : Int), (T0 x4 a_root))) (Le.refl _ _) ?_; obtain ⟨x22, hx22, h⟩ := bind_some h; refine Bf (fun ((b7, i8, l9) : (Bool × Int × List (Int))) => (⟨[(2, (.ptr 2 0)), (5, (Iw x3)), (6, (.vsl 21 l9.length)), (7, (.bool b7)), (26, (Ny x3)), (27, (Pd x3)), (28, (.int .i64 i8))], (Q179 a_g x3 l9), []⟩ : St)) _ (fun ((b10, l11) : (Bool × List (Int))) (e : Exit) (st : St) => e = (.exit 0) ∧ Le Γ st (⟨[(2, (.ptr 2 0)), (5, (Iw x3)), (6, (.vsl 21 l11.length)), (7, (.bool b10))], [(2, .row 26 (F7 a_g)), (13, .tok 1 3 x3.length), (21, .arr 1 3 l11.length (Q170 l11))], []⟩ : St)) ?_ hx22 ?_
      · rintro ⟨b7, i8, l9⟩ y h; unfold Ct at h; refine As ⟨[(2, (.ptr 2 0)), (5, (Iw x3)), (6, (.vsl 21 l9.length)), (7, (.bool b7)), (26, (Ny x3)), (27, (Pd x3)), (28, (.int .i64 i8)), (29, (.bool (decide ((i8 : Int) < ((Q163 x3).length : Int)))))], (Q179 a_g x3 l9), []⟩ hq ?_; refine Ae ?_; refine Ai (decide ((i8 : Int) < ((Q163 x3).length : Int))) (by kernel_rfl) (fun hb => ?_) (fun hb => ?_)
        · replace h := Ar hb h; clear hb; refine Ag ?_; refine Aa ?_; refine Ae ?_; obtain ⟨x20, hx20, h⟩ := bind_some h; refine Gv (fun ((b12, l13) : (Bool × List (Int))) (e : Exit) (st : St) => e = .normal ∧ Le Γ st (⟨[(2, (.ptr 2 0)), (5, (Iw x3)), (6, (.vsl 21 l13.length)), (7, (.bool b12)), (26, (Ny x3)), (27, (Pd x3)), (28, (.int .i64 i8))], [(2, .row 26 (F7 a_g)), (13, .tok 1 3 x3.length), (21, .arr 1 3 l13.length (fun i => Ac (l13.getD i (0 : Int))))], []⟩ : St)) hx20 ?_ ?_
          · clear h hx20; intro y h; refine Ak ?_; obtain ⟨hc14, h⟩ := Ab h; refine B9 [] [] ⟨[(2, (.ptr 2 0)), (5, (Iw x3)), (6, (.vsl 21 l9.length)), (7, (.bool b7)), (9, (.int .i64 (Nl x3 i8))), (26, (Ny x3)), (27, (Pd x3)), (28, (.int .i64 i8))], (Q179 a_g x3 l9), []⟩ [(A8 i8 (Q163 x3).length)] hq ⟨hc14, trivial⟩ ?_; obtain ⟨hc15, h⟩ := Ab h; obtain ⟨x16, hx16, h⟩ := bind_some h; obtain ⟨hc17, h⟩ := Ab h; refine B9 [⟨[(21, 34000)], [], (.int .i64 x16.1), [(34000, .arr 1 3 x16.2.length (Q168 x16))], []⟩] [] ⟨[(2, (.ptr 2 0)), (5, (Iw x3)), (6, (.vsl 21 l9.length)), (7, (.bool b7)), (9, (.int .i64 (Nl x3 i8))), (10, (.int .i64 x16.1)), (26, (Ny x3)), (27, (Pd x3)), (28, (.int .i64 i8))], [(2, .row 26 (F7 a_g)), (13, .tok 1 3 x3.length), (21, .arr 1 3 x16.2.length (Q168 x16))], []⟩ [(A8 (Nl x3 i8) a_g.Pred.length), (Spec Try.prog 35 [(.vsl 34000 l9.length), (AV.list 1 Ac (0 : Int) (a_g.Pred.getD ((Nl x3 i8)).toNat []) .none)] [(34000, .arr 1 3 l9.length (fun i => Ac (l9.getD i (0 : Int))))] (.int .i64 x16.1) [(34000, .arr 1 3 x16.2.length (Q168 x16))])] hq ⟨hc15, (I9 l9 (a_g.Pred.getD ((Nl x3 i8)).toNat []) x16 hx16), trivial⟩ ?_; refine Af (B1 (congrArg (fun k_ : Nat => (⟨[(2, (.ptr 2 0)), (5, (Iw x3)), (6, (.vsl 21 k_)), (7, (.bool b7)), (9, (.int .i64 (Nl x3 i8))), (10, (.int .i64 x16.1)), (26, (Ny x3)), (27, (Pd x3)), (28, (.int .i64 i8))], [(2, .row 26 (F7 a_g)), (13, .tok 1 3 x3.length), (21, .arr 1 3 x16.2.length (Q168 x16))], []⟩ : St)) (show l9.length = x16.2.length from hc17))) ?_; obtain ⟨hc18, h⟩ := Ab h; refine B9 [] [] ⟨[(2, (.ptr 2 0)), (5, (Iw x3)), (6, (.vsl 21 x16.2.length)), (7, (.bool b7)), (9, (.int .i64 (Nl x3 i8))), (10, (.int .i64 x16.1)), (26, (Ny x3)), (27, (Pd x3)), (28, (.int .i64 i8)), (44, (.bool ((x16.1 : Int) != (x16.2.getD ((Nl x3 i8)).toNat (0 : Int)))))], [(2, .row 26 (F7 a_g)), (13, .tok 1 3 x3.length), (21, .arr 1 3 x16.2.length (Q168 x16))], []⟩ [(A8 (Nl x3 i8) x16.2.length), (x16.2.length = x16.2.length)] hq ⟨hc18, rfl, trivial⟩ ?_; refine Ai ((x16.1 : Int) != (x16.2.getD ((Nl x3 i8)).toNat (0 : Int))) (by kernel_rfl) (fun hb => ?_) (fun hb => ?_)
            · replace h := Ar hb h; clear hb; obtain ⟨hc19, h⟩ := Ab h; refine rg [] [] ⟨[(2, (.ptr 2 0)), (5, (Iw x3)), (6, (.vsl 21 x16.2.length)), (7, (.bool true)), (26, (Ny x3)), (27, (Pd x3)), (28, (.int .i64 i8))], [(2, .row 26 (F7 a_g)), (13, .tok 1 3 x3.length), (21, .arr 1 3 x16.2.length (fun i_ => AV.eraseAll Q182 ((Fc (Q168 x16) ((Nl x3 i8)).toNat 0 [(.int .i64 x16.1)]) i_)))], []⟩ [(A8 (Nl x3 i8) x16.2.length), (x16.2.length = x16.2.length)] hq ⟨hc19, rfl, trivial⟩ ?_; refine An ?_; obtain rfl := OI h; exact ⟨rfl, Le.trans (Le.trans (Cw (st' := ⟨[(2, (.ptr 2 0)), (5, (Iw x3)), (6, (.vsl 21 x16.2.length)), (7, (.bool true)), (26, (Ny x3)), (27, (Pd x3)), (28, (.int .i64 i8))], [(2, .row 26 (F7 a_g)), (13, .tok 1 3 x3.length), (21, .arr 1 3 x16.2.length (fun i => Ac ((x16.2.set ((Nl x3 i8)).toNat x16.1).getD i (0 : Int))))], []⟩) (TmpsLe.refl _) (.same (.same (.arr (Bx (List.length_set ..).symm (fun k_ hk_ => (congrArg (AV.eraseAll Q182) ((Gs (fun _ _ => rfl) (Hg hc19) rfl) k_ hk_)).trans rfl)) .nil)))) (B1 (congrArg (fun k_ : Nat => (⟨[(2, (.ptr 2 0)), (5, (Iw x3)), (6, (.vsl 21 k_)), (7, (.bool true)), (26, (Ny x3)), (27, (Pd x3)), (28, (.int .i64 i8))], [(2, .row 26 (F7 a_g)), (13, .tok 1 3 x3.length), (21, .arr 1 3 k_ (fun i => Ac ((x16.2.set ((Nl x3 i8)).toNat x16.1).getD i (0 : Int))))], []⟩ : St)) (show x16.2.length = (x16.2.set ((Nl x3 i8)).toNat x16.1).length from (List.length_set ..).symm)))) (Le.refl _ _)⟩
            · replace h := Au hb h; clear hb; refine Ag ?_; refine An ?_; obtain rfl := OI h; exact ⟨rfl, E3 [2, 5, 6, 7, 26, 27, 28] [2, 13, 21] hq⟩
          · clear hx20; rcases x20 with ⟨b12, l13⟩; rintro e st' ⟨rfl, hl21⟩; refine Aa ?_; refine Af hl21 ?_; refine M8 ⟨[(2, (.ptr 2 0)), (5, (Iw x3)), (6, (.vsl 21 l13.length)), (7, (.bool b12)), (26, (Ny x3)), (27, (Pd x3)), (28, (.int .i64 (Bi (i8 + (1 : Int)))))], [(2, .row 26 (F7 a_g)), (13, .tok 1 3 x3.length), (21, .arr 1 3 l13.length (fun i => Ac (l13.getD i (0 : Int))))], []⟩ hq ?_; obtain rfl := OI h; exact ⟨rfl, Le.refl _ _⟩
        · replace h := Au hb h; clear hb; refine Bg ?_; refine A4 ?_; obtain rfl := OI h; exact ⟨(by intro hh; cases hh), rfl, E3 [2, 5, 6, 7] [2, 13, 21] hq⟩
      · clear hx22; rcases x22 with ⟨b10, l11⟩; rintro e st' ⟨rfl, hl23⟩; refine A0 ?_; refine Aa ?_; refine Af hl23 ?_; refine Ae ?_; refine As ⟨[(2, (.ptr 2 0)), (5, (Iw x3)), (6, (.vsl 21 l11.length)), (50, (.bool b10))], [(2, .row 26 (F7 a_g)), (13, .tok 1 3 x3.length), (21, .arr 1 3 l11.length (Q170 l11))], []⟩ hq ?_; refine Ai b10 (by kernel_rfl) (fun hb => ?_) (fun hb => ?_)
        · replace h := Ar hb h; clear hb; refine F5 ?_; refine Gi ?_; obtain rfl := OI h; exact ⟨rfl, rfl, E3 [2, 5, 6] [2, 13, 21] hq⟩
        · replace h := Au hb h; clear hb; refine Ag ?_; refine Aa ?_; refine As ⟨[(4, (.vsl 21 l11.length))], [(21, .arr 1 3 l11.length (Q170 l11))], []⟩ hq ?_; refine Af (Le.trans (Fb (nm := 21) (sz := 1) (n := l11.length) (e := 3) (f := (Q170 l11)) (g := (Q170 l11)) rfl ⟨rfl, trivial⟩ (fun _ _ => rfl) (by rw [hΓ]; rfl)) (B1 (st' := ⟨[(4, (AV.list 1 Ac (0 : Int) l11 (.own 21)))], [(21, .tok 1 3 l11.length)], []⟩) (by kernel_rfl))) ?_; refine Aq ?_; obtain rfl := OI h; exact ⟨(by intro l hh; cases hh), rfl, ⟨.inl rfl, [(21, 20000)], by kernel_rfl⟩⟩
  · clear h hx42; rintro ⟨l1, l2⟩ y rest hf h; obtain rfl := OI hf; clear hf; unfold De at h; refine Ae ?_; refine Ag ?_; refine Aa ?_; refine As ⟨[(2, (.ptr 2 0)), (5, (Lp l1)), (6, (.vsl 21 l2.length)), (7, (.bool false))], (Q181 a_g l1 l2), []⟩ hq ?_; refine Ae ?_; obtain ⟨hc24, h⟩ := Ab h; refine B9 [] [(26, (Ng l1))] ⟨[(2, (.ptr 2 0)), (5, (Lp l1)), (6, (.vsl 21 l2.length)), (7, (.bool false)), (26, (Ng l1)), (27, (Pa l1)), (28, (.int .i64 (0 : Int)))], (Q181 a_g l1 l2), []⟩ [(0 ≤ (1 : Int) ∧ (1 : Int) ≤ (l1.length : Int)), (AVle (.slice 1 (l1.length - ((1 : Int)).toNat) (fun i => Ac (l1.getD (((1 : Int)).toNat + i) (0 : Int))) .none) (Ng l1))] hq ⟨hc24, av_drop, trivial⟩ ?_; refine Ak ?_; refine Af (st' := (fun ((b25, i26, l27) : (Bool × Int × List (Int))) => (⟨[(2, (.ptr 2 0)), (5, (Lp l1)), (6, (.vsl 21 l27.length)), (7, (.bool b25)), (26, (Ng l1)), (27, (Pa l1)), (28, (.int .i64 i26))], (Q180 a_g l1 l27), []⟩ : St)) (false, (0 : Int), l2)) (Le.refl _ _) ?_; obtain ⟨x40, hx40, h⟩ := bind_some h; refine Bf (fun ((b25, i26, l27) : (Bool × Int × List (Int))) => (⟨[(2, (.ptr 2 0)), (5, (Lp l1)), (6, (.vsl 21 l27.length)), (7, (.bool b25)), (26, (Ng l1)), (27, (Pa l1)), (28, (.int .i64 i26))], (Q180 a_g l1 l27), []⟩ : St)) _ (fun ((b28, l29) : (Bool × List (Int))) (e : Exit) (st : St) => e = (.exit 0) ∧ Le Γ st (⟨[(2, (.ptr 2 0)), (5, (Lp l1)), (6, (.vsl 21 l29.length)), (7, (.bool b28))], [(2, .row 26 (F7 a_g)), (13, .tok 1 3 l1.length), (21, .arr 1 3 l29.length (Q172 l29))], []⟩ : St)) ?_ hx40 ?_
    · rintro ⟨b25, i26, l27⟩ y h; unfold Hj at h; refine As ⟨[(2, (.ptr 2 0)), (5, (Lp l1)), (6, (.vsl 21 l27.length)), (7, (.bool b25)), (26, (Ng l1)), (27, (Pa l1)), (28, (.int .i64 i26)), (29, (.bool (decide ((i26 : Int) < ((Q162 l1).length : Int)))))], (Q180 a_g l1 l27), []⟩ hq ?_; refine Ae ?_; refine Ai (decide ((i26 : Int) < ((Q162 l1).length : Int))) (by kernel_rfl) (fun hb => ?_) (fun hb => ?_)
      · replace h := Ar hb h; clear hb; refine Ag ?_; refine Aa ?_; refine Ae ?_; obtain ⟨x38, hx38, h⟩ := bind_some h; refine Gv (fun ((b30, l31) : (Bool × List (Int))) (e : Exit) (st : St) => e = .normal ∧ Le Γ st (⟨[(2, (.ptr 2 0)), (5, (Lp l1)), (6, (.vsl 21 l31.length)), (7, (.bool b30)), (26, (Ng l1)), (27, (Pa l1)), (28, (.int .i64 i26))], [(2, .row 26 (F7 a_g)), (13, .tok 1 3 l1.length), (21, .arr 1 3 l31.length (fun i => Ac (l31.getD i (0 : Int))))], []⟩ : St)) hx38 ?_ ?_
        · clear h hx38; intro y h; refine Ak ?_; obtain ⟨hc32, h⟩ := Ab h; refine B9 [] [] ⟨[(2, (.ptr 2 0)), (5, (Lp l1)), (6, (.vsl 21 l27.length)), (7, (.bool b25)), (9, (.int .i64 (Nx l1 i26))), (26, (Ng l1)), (27, (Pa l1)), (28, (.int .i64 i26))], (Q180 a_g l1 l27), []⟩ [(A8 i26 (Q162 l1).length)] hq ⟨hc32, trivial⟩ ?_; obtain ⟨hc33, h⟩ := Ab h; obtain ⟨x34, hx34, h⟩ := bind_some h; obtain ⟨hc35, h⟩ := Ab h; refine B9 [⟨[(21, 34000)], [], (.int .i64 x34.1), [(34000, .arr 1 3 x34.2.length (Q169 x34))], []⟩] [] ⟨[(2, (.ptr 2 0)), (5, (Lp l1)), (6, (.vsl 21 l27.length)), (7, (.bool b25)), (9, (.int .i64 (Nx l1 i26))), (10, (.int .i64 x34.1)), (26, (Ng l1)), (27, (Pa l1)), (28, (.int .i64 i26))], [(2, .row 26 (F7 a_g)), (13, .tok 1 3 l1.length), (21, .arr 1 3 x34.2.length (Q169 x34))], []⟩ [(A8 (Nx l1 i26) a_g.Pred.length), (Spec Try.prog 35 [(.vsl 34000 l27.length), (AV.list 1 Ac (0 : Int) (a_g.Pred.getD ((Nx l1 i26)).toNat []) .none)] [(34000, .arr 1 3 l27.length (Q171 l27))] (.int .i64 x34.1) [(34000, .arr 1 3 x34.2.length (Q169 x34))])] hq ⟨hc33, (I9 l27 (a_g.Pred.getD ((Nx l1 i26)).toNat []) x34 hx34), trivial⟩ ?_; refine Af (B1 (congrArg (fun k_ : Nat => (⟨[(2, (.ptr 2 0)), (5, (Lp l1)), (6, (.vsl 21 k_)), (7, (.bool b25)), (9, (.int .i64 (Nx l1 i26))), (10, (.int .i64 x34.1)), (26, (Ng l1)), (27, (Pa l1)), (28, (.int .i64 i26))], [(2, .row 26 (F7 a_g)), (13, .tok 1 3 l1.length), (21, .arr 1 3 x34.2.length (Q169 x34))], []⟩ : St)) (show l27.length = x34.2.length from hc35))) ?_; obtain ⟨hc36, h⟩ := Ab h; refine B9 [] [] ⟨[(2, (.ptr 2 0)), (5, (Lp l1)), (6, (.vsl 21 x34.2.length)), (7, (.bool b25)), (9, (.int .i64 (Nx l1 i26))), (10, (.int .i64 x34.1)), (26, (Ng l1)), (27, (Pa l1)), (28, (.int .i64 i26)), (44, (.bool ((x34.1 : Int) != (x34.2.getD ((Nx l1 i26)).toNat (0 : Int)))))], [(2, .row 26 (F7 a_g)), (13, .tok 1 3 l1.length), (21, .arr 1 3 x34.2.length (Q169 x34))], []⟩ [(A8 (Nx l1 i26) x34.2.length), (x34.2.length = x34.2.length)] hq ⟨hc36, rfl, trivial⟩ ?_; refine Ai ((x34.1 : Int) != (x34.2.getD ((Nx l1 i26)).toNat (0 : Int))) (by kernel_rfl) (fun hb => ?_) (fun hb => ?_)
          · replace h := Ar hb h; clear hb; obtain ⟨hc37, h⟩ := Ab h; refine rg [] [] ⟨[(2, (.ptr 2 0)), (5, (Lp l1)), (6, (.vsl 21 x34.2.length)), (7, (.bool true)), (26, (Ng l1)), (27, (Pa l1)), (28, (.int .i64 i26))], [(2, .row 26 (F7 a_g)), (13, .tok 1 3 l1.length), (21, .arr 1 3 x34.2.length (fun i_ => AV.eraseAll Q182 ((Fc (Q169 x34) ((Nx l1 i26)).toNat 0 [(.int .i64 x34.1)]) i_)))], []⟩ [(A8 (Nx l1 i26) x34.2.length), (x34.2.length = x34.2.length)] hq ⟨hc37, rfl, trivial⟩ ?_; refine An ?_; obtain rfl := OI h; exact ⟨rfl, Le.trans (Le.trans (Cw (st' := ⟨[(2, (.ptr 2 0)), (5, (Lp l1)), (6, (.vsl 21 x34.2.length)), (7, (.bool true)), (26, (Ng l1)), (27, (Pa l1)), (28, (.int .i64 i26))], [(2, .row 26 (F7 a_g)), (13, .tok 1 3 l1.length), (21, .arr 1 3 x34.2.length (fun i => Ac ((x34.2.set ((Nx l1 i26)).toNat x34.1).getD i (0 : Int))))], []⟩) (TmpsLe.refl _) (.same (.same (.arr (Bx (List.length_set ..).symm (fun k_ hk_ => (congrArg (AV.eraseAll Q182) ((Gs (fun _ _ => rfl) (Hg hc37) rfl) k_ hk_)).trans rfl)) .nil)))) (B1 (congrArg (fun k_ : Nat => (⟨[(2, (.ptr 2 0)), (5, (Lp l1)), (6, (.vsl 21 k_)), (7, (.bool true)), (26, (Ng l1)), (27, (Pa l1)), (28, (.int .i64 i26))], [(2, .row 26 (F7 a_g)), (13, .tok 1 3 l1.length), (21, .arr 1 3 k_ (fun i => Ac ((x34.2.set ((Nx l1 i26)).toNat x34.1).getD i (0 : Int))))], []⟩ : St)) (show x34.2.length = (x34.2.set ((Nx l1 i26)).toNat x34.1).length from (List.length_set ..).symm)))) (Le.refl _ _)⟩
          · replace h := Au hb h; clear hb; refine Ag ?_; refine An ?_; obtain rfl := OI h; exact ⟨rfl, E3 [2, 5, 6, 7, 26, 27, 28] [2, 13, 21] hq⟩
        · clear hx38; rcases x38 with ⟨b30, l31⟩; rintro e st' ⟨rfl, hl39⟩; refine Aa ?_; refine Af hl39 ?_; refine M8 ⟨[(2, (.ptr 2 0)), (5, (Lp l1)), (6, (.vsl 21 l31.length)), (7, (.bool b30)), (26, (Ng l1)), (27, (Pa l1)), (28, (.int .i64 (Bi (i26 + (1 : Int)))))], [(2, .row 26 (F7 a_g)), (13, .tok 1 3 l1.length), (21, .arr 1 3 l31.length (fun i => Ac (l31.getD i (0 : Int))))], []⟩ hq ?_; obtain rfl := OI h; exact ⟨rfl, Le.refl _ _⟩
      · replace h := Au hb h; clear hb; refine Bg ?_; refine A4 ?_; obtain rfl := OI h; exact ⟨(by intro hh; cases hh), rfl, E3 [2, 5, 6, 7] [2, 13, 21] hq⟩
    · clear hx40; rcases x40 with ⟨b28, l29⟩; rintro e st' ⟨rfl, hl41⟩; refine A0 ?_; refine Aa ?_; refine Af hl41 ?_; refine Ae ?_; refine As ⟨[(2, (.ptr 2 0)), (5, (Lp l1)), (6, (.vsl 21 l29.length)), (50, (.bool b28))], [(2, .row 26 (F7 a_g)), (13, .tok 1 3 l1.length), (21, .arr 1 3 l29.length (Q172 l29))], []⟩ hq ?_; refine Ai b28 (by kernel_rfl) (fun hb => ?_) (fun hb => ?_)
      · replace h := Ar hb h; clear hb; refine F5 ?_; refine Gi ?_; obtain rfl := OI h; exact ⟨rfl, rfl, E3 [2, 5, 6] [2, 13, 21] hq⟩
      · replace h := Au hb h; clear hb; refine Ag ?_; refine Aa ?_; refine As ⟨[(4, (.vsl 21 l29.length))], [(21, .arr 1 3 l29.length (Q172 l29))], []⟩ hq ?_; refine Af (Le.trans (Fb (nm := 21) (sz := 1) (n := l29.length) (e := 3) (f := (Q172 l29)) (g := (Q172 l29)) rfl ⟨rfl, trivial⟩ (fun _ _ => rfl) (by rw [hΓ]; rfl)) (B1 (st' := ⟨[(4, (AV.list 1 Ac (0 : Int) l29 (.own 21)))], [(21, .tok 1 3 l29.length)], []⟩) (by kernel_rfl))) ?_; refine Aq ?_; obtain rfl := OI h; exact ⟨(by intro l hh; cases hh), rfl, ⟨.inl rfl, [(21, 20000)], by kernel_rfl⟩⟩
  · clear hx42; rintro e st' ⟨rfl, hk⟩; obtain rfl := OI h; exact hk
def Q184 : AV := (AV.list 1 Ac (0 : Int) ([] : List Int) .exact)
def Q186 := (⟨[(2, (AV.list 1 Ac (0 : Int) ([] : List Int) (.own 6002)))], [(6002, .tok 1 3 (([] : List Int).length))], []⟩ : St)
def Q185 (a_g : Aj) (x1 : (Aj × Int)) : List (Nat × Own) := [(1, .row 26 [(AV.list 1 eLI64 [] a_g.Succ .none), (AV.list 1 eLI64 [] a_g.Pred .none)]), (3, .row 26 [(AV.list 1 eLI64 [] x1.1.Succ .none), (AV.list 1 eLI64 [] x1.1.Pred .none)])]
def Hm (a_g : Aj) : Option (List (Int)) :=
  ((Ey a_g).bind fun x1 => (bif ((x1.2 : Int) != (0 : Int)) then (some ([] : List Int)) else ((C7 x1.1).bind fun x2 => ((Fm x2 (a_g.Succ.length : Int)).bind fun x3 => (some x3)))))
theorem U6 (a_g : Aj) (r : List (Int)) (h : Hm a_g = some r) : Spec Try.prog 21 [(.agg (A7 a_g))] [] (AV.list 1 Ac (0 : Int) r (.own 20000)) [(20000, .tok 1 3 r.length)] := by
  refine Ap (fn := Try.f21) Try.func21 rfl rfl (by kernel_rfl) (fun Γ hn hΓ => ?_); have hq : RgQ Try.prog Γ 18 [] := ⟨hn, mix, hΓ⟩; unfold Hm at h; refine B9 [] [(2, Q184)] ⟨[(1, (.ptr 1 0))], [(1, .row 26 [(AV.list 1 eLI64 [] a_g.Succ .none), (AV.list 1 eLI64 [] a_g.Pred .none)])], []⟩ [(AVle (.slice 0 0 (fun _ => []) .exact) Q184)] hq ⟨Di, trivial⟩ ?_; obtain ⟨x1, hx1, h⟩ := bind_some h; refine B9 [⟨[], [], (.tuple [(.agg (A7 x1.1)), (.int .i64 x1.2)]), [], []⟩] [] ⟨[(1, (.ptr 1 0)), (3, (.ptr 3 0)), (4, (.int .i64 x1.2))], (Q185 a_g x1), []⟩ [(Spec Try.prog 38 [(.agg (A7 a_g))] [] (.tuple [(.agg (A7 x1.1)), (.int .i64 x1.2)]) [])] hq ⟨(Wf a_g x1 hx1), trivial⟩ ?_; refine Ae ?_; refine As ⟨[(1, (.ptr 1 0)), (3, (.ptr 3 0)), (11, (.bool ((x1.2 : Int) != (0 : Int))))], (Q185 a_g x1), []⟩ hq ?_; refine Ai ((x1.2 : Int) != (0 : Int)) (by kernel_rfl) (fun hb => ?_) (fun hb => ?_)
  · replace h := Ar hb h; clear hb; refine B9 [] [(2, Q184)] ⟨[(2, Q184)], [], []⟩ [(AVle (.slice 0 0 (fun _ => []) .exact) Q184)] hq ⟨Di, trivial⟩ ?_; refine Af (st' := Q186) (Le.trans (E3 (st' := ⟨[(2, Q184)], [], []⟩) [2] [] hq) (Le.trans (Lj (t := 2) (nm := 6002) (sz' := 1) (fun i => Ac (([] : List Int).getD i (0 : Int))) 3 rfl rfl (.inl ⟨rfl, rfl⟩) (fun h_ => absurd h_ (by decide))) (E3 (st' := Q186) [2] [6002] hq))) ?_; refine Aq ?_; refine Aw ?_; obtain rfl := OI h; exact ⟨.inl rfl, [(6002, 20000)], by kernel_rfl⟩
  · replace h := Au hb h; clear hb; refine Ag ?_; refine Aa ?_; obtain ⟨x2, hx2, h⟩ := bind_some h; obtain ⟨x3, hx3, h⟩ := bind_some h; refine B9 [⟨[], [], (.agg (A7 x2)), [], []⟩, ⟨[], [(20000, 17)], (AV.list 1 Ac (0 : Int) x3 (.own 20000)), [(20000, .tok 1 3 x3.length)], []⟩] [] ⟨[(2, (AV.list 1 Ac (0 : Int) x3 (.own 17)))], [(17, .tok 1 3 x3.length)], []⟩ [(Spec Try.prog 39 [(.agg (A7 x1.1))] [] (.agg (A7 x2)) []), (Spec Try.prog 19 [(.agg (A7 x2)), (.int .i64 (a_g.Succ.length : Int))] [] (AV.list 1 Ac (0 : Int) x3 (.own 20000)) [(20000, .tok 1 3 x3.length)])] hq ⟨(Hv x1.1 x2 hx2), (P3 x2 (a_g.Succ.length : Int) x3 hx3), trivial⟩ ?_; refine Aq ?_; obtain rfl := OI h; exact ⟨.inl rfl, [(17, 20000)], by kernel_rfl⟩
def Cj (a_tree : List (Int)) (a_on : Int) (a_to : Int) : (Int × List (TDep)) → Option (LR (Int × List (TDep)) (List (TDep) × List (TDep))) :=
  fun (s_ : (Int × List (TDep))) => match s_ with | (i1, l2) => (Ci (A8 a_on a_tree.length) (bif ((i1 : Int) == (a_tree.getD (a_on).toNat (0 : Int))) then (some (.done (l2, l2))) else (Ci (l2.length + ([(⟨i1, a_on, a_to⟩ : TDep)] : List (TDep)).length ≤ room) (Ci (A8 i1 a_tree.length) (some (.next ((a_tree.getD (i1).toNat (0 : Int)), (l2 ++ ([(⟨i1, a_on, a_to⟩ : TDep)] : List (TDep))))))))))
def Jk (a_to : Int) : AV := (.int .i64 a_to)
def Jg := (default : TDep)
def Pr (a_tree : List (Int)) : AV := (AV.list 1 Ac (0 : Int) a_tree .none)
def My (i1 : Int) (a_on : Int) (a_to : Int) := ([(⟨i1, a_on, a_to⟩ : TDep)] : List (TDep))
def Mz (a_to : Int) (a_on : Int) := ([(⟨a_to, a_on, a_to⟩ : TDep)] : List (TDep))
def Q192 (l2 : List (TDep)) : List (Nat × Own) := [(34000, .arr 3 37 l2.length (fun i => Ba (l2.getD i Jg)))]
def Q190 (a_list : List (TDep)) : List (Nat × Own) := [(34000, .arr 3 37 a_list.length (fun i => Ba (a_list.getD i Jg)))]
def Cy (a_list : List (TDep)) (a_tree : List (Int)) (a_on : Int) (a_to : Int) : Option (List (TDep) × List (TDep)) :=
  ((Ki (S := (Int × List (TDep))) (X := (List (TDep) × List (TDep))) (Ci (A8 a_on a_tree.length) (bif ((a_to : Int) == (a_tree.getD (a_on).toNat (0 : Int))) then (some (.done (a_list, a_list))) else (Ci (a_list.length + ([(⟨a_to, a_on, a_to⟩ : TDep)] : List (TDep)).length ≤ room) (Ci (A8 a_to a_tree.length) (some (.next ((a_tree.getD (a_to).toNat (0 : Int)), (a_list ++ ([(⟨a_to, a_on, a_to⟩ : TDep)] : List (TDep)))))))))) (Cj a_tree a_on a_to)).bind (fun x9 => ((some x9))))
theorem L1 (a_list : List (TDep)) (a_tree : List (Int)) (a_on : Int) (a_to : Int) (r : (List (TDep) × List (TDep))) (h : Cy a_list a_tree a_on a_to = some r) : Spec Try.prog 22 [(.vsl 34000 a_list.length), (AV.list 1 Ac (0 : Int) a_tree .none), (.int .i64 a_on), (.int .i64 a_to)] [(34000, .arr 3 37 a_list.length (fun i => Ba (a_list.getD i (default : TDep))))] (.vsl 34000 r.2.length) [(34000, .arr 3 37 r.2.length (fun i => Ba (r.2.getD i (default : TDep))))] := by
  refine Ap (fn := Try.f22) Try.func22 rfl rfl (by kernel_rfl) (fun Γ hn hΓ => ?_); have hq : RgQ Try.prog Γ 29 [(34000, .arr 3 37 a_list.length (fun i => Ba (a_list.getD i (default : TDep))))] := ⟨hn, mix, hΓ⟩; unfold Cy at h; refine B9 [] [(8, (AV.list 3 Ba Jg ([] : List TDep) .exact))] ⟨[(0, (.vsl 34000 a_list.length)), (1, (Pr a_tree)), (2, (.int .i64 a_on)), (3, (Jk a_to))], (Q190 a_list), []⟩ [(AVle (.slice 0 0 (fun _ => []) .exact) (AV.list 3 Ba Jg ([] : List TDep) .exact))] hq ⟨Di, trivial⟩ ?_; obtain ⟨x9, hx9, h⟩ := bind_some h; refine Mn (S := (Int × List (TDep))) (X := (List (TDep) × List (TDep))) (fun (s_ : (Int × List (TDep))) => match s_ with | (i1, l2) => 0) (fun (s_ : (Int × List (TDep))) => match s_ with | (i1, l2) => (⟨[(0, (.vsl 34000 l2.length)), (1, (Pr a_tree)), (2, (.int .i64 a_on)), (3, (Jk a_to)), (9, (.int .i64 i1))], (Q192 l2), []⟩ : St)) _ _ (fun (r_ : (List (TDep) × List (TDep))) (e : Exit) (st : St) => e = .ret ∧ Kb Try.prog Try.f22.results.toList (Q190 a_list) (.vsl 34000 r_.2.length) [(34000, .arr 3 37 r_.2.length (fun i => Ba (r_.2.getD i Jg)))] e st) ?_ ?_ hx9 ?_
  · clear h hx9; intro y h; refine As ⟨[(0, (.vsl 34000 a_list.length)), (1, (Pr a_tree)), (2, (.int .i64 a_on)), (3, (Jk a_to)), (9, (Jk a_to))], (Q190 a_list), []⟩ hq ?_; refine Ae ?_; refine Mm ?_; refine Aa ?_; refine Ae ?_; obtain ⟨hc3, h⟩ := Ab h; refine B9 [] [] ⟨[(0, (.vsl 34000 a_list.length)), (1, (Pr a_tree)), (2, (.int .i64 a_on)), (3, (Jk a_to)), (9, (Jk a_to)), (16, (.bool ((a_to : Int) == (a_tree.getD (a_on).toNat (0 : Int)))))], (Q190 a_list), []⟩ [(A8 a_on a_tree.length)] hq ⟨hc3, trivial⟩ ?_; refine Ai ((a_to : Int) == (a_tree.getD (a_on).toNat (0 : Int))) (by kernel_rfl) (fun hb => ?_) (fun hb => ?_)
    · replace h := Ar hb h; clear hb; refine As ⟨[(8, (.vsl 34000 a_list.length))], (Q190 a_list), []⟩ hq ?_; refine Aq ?_; refine Aw ?_; obtain rfl := OI h; exact ⟨(by intro l hh; cases hh), rfl, ⟨.inl rfl, [(34000, 34000)], by kernel_rfl⟩⟩
    · replace h := Au hb h; clear hb; refine Ag ?_; refine Aa ?_; obtain ⟨hc4, h⟩ := Ab h; refine B9 [] [(23, (AV.list 3 Ba Jg (Mz a_to a_on) .exact))] ⟨[(0, (.vsl 34000 (a_list.length + (Mz a_to a_on).length))), (1, (Pr a_tree)), (2, (.int .i64 a_on)), (3, (Jk a_to)), (9, (Jk a_to))], [(34000, .arr 3 37 (a_list.length + (Mz a_to a_on).length) (fun i_ => AV.eraseAll (fun n_ => Ch n_ [34000]) ((E2 a_list.length (fun i => Ba (a_list.getD i Jg)) (fun i => Ba ((Mz a_to a_on).getD i Jg))) i_)))], []⟩ [(AVle (.slice 3 1 (fun i => ([[(Jk a_to), (.int .i64 a_on), (Jk a_to)]] : List (List AV)).getD i []) .exact) (AV.list 3 Ba Jg (Mz a_to a_on) .exact)), (a_list.length = a_list.length), (a_list.length + (Mz a_to a_on).length ≤ room)] hq ⟨(E4 rfl (fun i hi => Ea (e := Ba) (d := Jg) (Mz a_to a_on) i hi)), rfl, hc4, trivial⟩ ?_; refine Af (Le.trans (Cw (st' := ⟨[(0, (.vsl 34000 (a_list.length + (Mz a_to a_on).length))), (1, (Pr a_tree)), (2, (.int .i64 a_on)), (3, (Jk a_to)), (9, (Jk a_to))], [(34000, .arr 3 37 (a_list.length + (Mz a_to a_on).length) (fun i => Ba ((a_list ++ (Mz a_to a_on)).getD i Jg)))], []⟩) (TmpsLe.refl _) (.arr (Bx (D9 _ _) (fun k_ hk_ => (congrArg (AV.eraseAll (fun n_ => Ch n_ [34000])) ((J2 (fun _ _ => rfl) (fun _ _ => rfl)) k_ hk_)).trans rfl)) .nil)) (B1 (congrArg (fun k_ : Nat => (⟨[(0, (.vsl 34000 k_)), (1, (Pr a_tree)), (2, (.int .i64 a_on)), (3, (Jk a_to)), (9, (Jk a_to))], [(34000, .arr 3 37 k_ (fun i => Ba ((a_list ++ (Mz a_to a_on)).getD i Jg)))], []⟩ : St)) (show (a_list.length + (Mz a_to a_on).length) = (a_list ++ (Mz a_to a_on)).length from (D9 _ _))))) ?_; obtain ⟨hc5, h⟩ := Ab h; refine B9 [] [] ⟨[(0, (.vsl 34000 (a_list ++ (Mz a_to a_on)).length)), (1, (Pr a_tree)), (2, (.int .i64 a_on)), (3, (Jk a_to)), (9, (.int .i64 (a_tree.getD (a_to).toNat (0 : Int))))], [(34000, .arr 3 37 ((a_list ++ (Mz a_to a_on)).length) (fun i => Ba ((a_list ++ (Mz a_to a_on)).getD i Jg)))], []⟩ [(A8 a_to a_tree.length)] hq ⟨hc5, trivial⟩ ?_; refine F5 ?_; obtain rfl := OI h; exact ⟨rfl, rfl, Le.refl _ _⟩
  · clear h hx9; rintro ⟨i1, l2⟩ y rest hf h; obtain rfl := OI hf; clear hf; unfold Cj at h; refine Ae ?_; refine Ag ?_; refine Aa ?_; refine Ae ?_; obtain ⟨hc6, h⟩ := Ab h; refine B9 [] [] ⟨[(0, (.vsl 34000 l2.length)), (1, (Pr a_tree)), (2, (.int .i64 a_on)), (3, (Jk a_to)), (9, (.int .i64 i1)), (16, (.bool ((i1 : Int) == (a_tree.getD (a_on).toNat (0 : Int)))))], (Q192 l2), []⟩ [(A8 a_on a_tree.length)] hq ⟨hc6, trivial⟩ ?_; refine Ai ((i1 : Int) == (a_tree.getD (a_on).toNat (0 : Int))) (by kernel_rfl) (fun hb => ?_) (fun hb => ?_)
    · replace h := Ar hb h; clear hb; refine As ⟨[(8, (.vsl 34000 l2.length))], (Q192 l2), []⟩ hq ?_; refine Aq ?_; refine Aw ?_; obtain rfl := OI h; exact ⟨(by intro l hh; cases hh), rfl, ⟨.inl rfl, [(34000, 34000)], by kernel_rfl⟩⟩
    · replace h := Au hb h; clear hb; refine Ag ?_; refine Aa ?_; obtain ⟨hc7, h⟩ := Ab h; refine B9 [] [(23, (AV.list 3 Ba Jg (My i1 a_on a_to) .exact))] ⟨[(0, (.vsl 34000 (l2.length + (My i1 a_on a_to).length))), (1, (Pr a_tree)), (2, (.int .i64 a_on)), (3, (Jk a_to)), (9, (.int .i64 i1))], [(34000, .arr 3 37 (l2.length + (My i1 a_on a_to).length) (fun i_ => AV.eraseAll (fun n_ => Ch n_ [34000]) ((E2 l2.length (fun i => Ba (l2.getD i Jg)) (fun i => Ba ((My i1 a_on a_to).getD i Jg))) i_)))], []⟩ [(AVle (.slice 3 1 (fun i => ([[(.int .i64 i1), (.int .i64 a_on), (Jk a_to)]] : List (List AV)).getD i []) .exact) (AV.list 3 Ba Jg (My i1 a_on a_to) .exact)), (l2.length = l2.length), (l2.length + (My i1 a_on a_to).length ≤ room)] hq ⟨(E4 rfl (fun i hi => Ea (e := Ba) (d := Jg) (My i1 a_on a_to) i hi)), rfl, hc7, trivial⟩ ?_; refine Af (Le.trans (Cw (st' := ⟨[(0, (.vsl 34000 (l2.length + (My i1 a_on a_to).length))), (1, (Pr a_tree)), (2, (.int .i64 a_on)), (3, (Jk a_to)), (9, (.int .i64 i1))], [(34000, .arr 3 37 (l2.length + (My i1 a_on a_to).length) (fun i => Ba ((l2 ++ (My i1 a_on a_to)).getD i Jg)))], []⟩) (TmpsLe.refl _) (.arr (Bx (D9 _ _) (fun k_ hk_ => (congrArg (AV.eraseAll (fun n_ => Ch n_ [34000])) ((J2 (fun _ _ => rfl) (fun _ _ => rfl)) k_ hk_)).trans rfl)) .nil)) (B1 (congrArg (fun k_ : Nat => (⟨[(0, (.vsl 34000 k_)), (1, (Pr a_tree)), (2, (.int .i64 a_on)), (3, (Jk a_to)), (9, (.int .i64 i1))], [(34000, .arr 3 37 k_ (fun i => Ba ((l2 ++ (My i1 a_on a_to)).getD i Jg)))], []⟩ : St)) (show (l2.length + (My i1 a_on a_to).length) = (l2 ++ (My i1 a_on a_to)).length from (D9 _ _))))) ?_; obtain ⟨hc8, h⟩ := Ab h; refine B9 [] [] ⟨[(0, (.vsl 34000 (l2 ++ (My i1 a_on a_to)).length)), (1, (Pr a_tree)), (2, (.int .i64 a_on)), (3, (Jk a_to)), (9, (.int .i64 (a_tree.getD (i1).toNat (0 : Int))))], [(34000, .arr 3 37 ((l2 ++ (My i1 a_on a_to)).length) (fun i => Ba ((l2 ++ (My i1 a_on a_to)).getD i Jg)))], []⟩ [(A8 i1 a_tree.length)] hq ⟨hc8, trivial⟩ ?_; refine F5 ?_; obtain rfl := OI h; exact ⟨rfl, rfl, Le.refl _ _⟩
  · clear hx9; rintro e st' ⟨rfl, hk⟩; obtain rfl := OI h; exact hk
def Ei (a_g : Aj) (x1 : List (Int)) (i2 : Int) : (Int × List (TDep)) → Option (LR (Int × List (TDep)) (List (TDep))) :=
  fun ((i6, l7) : (Int × List (TDep))) => (bif (decide ((i6 : Int) < ((a_g.Succ.getD (i2).toNat []).length : Int))) then (Ci (A8 i6 (a_g.Succ.getD (i2).toNat []).length) ((Cy l7 x1 i2 ((a_g.Succ.getD (i2).toNat []).getD (i6).toNat (0 : Int))).bind fun x10 => (some (.next ((Bi (i6 + (1 : Int))), x10.2))))) else (some (.done l7)))
def D1 (a_g : Aj) (x1 : List (Int)) : (Int × List (TDep)) → Option (LR (Int × List (TDep)) (List (TDep))) :=
  fun ((i2, l3) : (Int × List (TDep))) => (bif (decide ((i2 : Int) < (a_g.Succ.length : Int))) then (Ci (A8 i2 a_g.Succ.length) ((Ay (S := (Int × List (TDep))) (X := List (TDep)) (Ei a_g x1 i2) ((0 : Int), l3)).bind (fun x11 => ((some (.next ((Bi (i2 + (1 : Int))), x11))))))) else (some (.done l3)))
def Pc (a_g : Aj) (i2 : Int) := (a_g.Succ.getD (i2).toNat [])
def M1 (a_g : Aj) : AV := (AV.list 1 eLI64 [] a_g.Succ .none)
def Og (a_g : Aj) : AV := (.int .i64 (a_g.Succ.length : Int))
def Lv (x1 : List (Int)) : AV := (AV.list 1 Ac (0 : Int) x1 (.own 10))
def Q201 (x15 : List (TDep)) := (fun i => Ba (x15.getD i (default : TDep)))
def Z0 (a_g : Aj) (i2 : Int) : AV := (AV.list 1 Ac (0 : Int) (Pc a_g i2) .none)
def Q203 (x10 : (List (TDep) × List (TDep))) := (fun i => Ba (x10.2.getD i (default : TDep)))
def Tg : AV := (AV.list 3 Ba (default : TDep) ([] : List TDep) .exact)
def Q205 (a_g : Aj) (x1 : List (Int)) : List (Nat × Own) := [(1, .row 26 [(M1 a_g), (AV.list 1 eLI64 [] a_g.Pred .none)]), (10, .tok 1 3 x1.length)]
def Q199 (x1 : List (Int)) (l3 : List (TDep)) : List (Nat × Own) := [(10, .tok 1 3 x1.length), (36004, .arr 3 37 l3.length (fun i => Ba (l3.getD i (default : TDep))))]
def Q200 (x1 : List (Int)) (l7 : List (TDep)) : List (Nat × Own) := [(10, .tok 1 3 x1.length), (36004, .arr 3 37 l7.length (fun i => Ba (l7.getD i (default : TDep))))]
def Q202 := (⟨[(2, (AV.list 3 Ba (default : TDep) ([] : List TDep) (.own 6002)))], [(6002, .tok 3 37 (([] : List TDep).length))], []⟩ : St)
def Q206 (x1 : List (Int)) (a_g : Aj) := (⟨[(3, (Lv x1)), (4, Tg), (15, (M1 a_g)), (16, (Og a_g)), (17, (.int .i64 (0 : Int)))], [(10, .tok 1 3 x1.length)], []⟩ : St)
def Q204 (x1 : List (Int)) (l7 : List (TDep)) (i2 : Int) (a_g : Aj) (i6 : Int) := (⟨[(3, (Lv x1)), (4, (.vsl 36004 l7.length)), (5, (.int .i64 i2)), (15, (M1 a_g)), (16, (Og a_g)), (17, (.int .i64 i2)), (22, (Z0 a_g i2)), (23, (.int .i64 ((Pc a_g i2).length : Int))), (24, (.int .i64 i6))], (Q200 x1 l7), []⟩ : St)
def Fy (a_g : Aj) : Option (List (TDep)) :=
  ((Hm a_g).bind fun x1 => (bif (((x1.length : Int) : Int) == (0 : Int)) then (some ([] : List TDep)) else ((Ay (S := (Int × List (TDep))) (X := List (TDep)) (D1 a_g x1) ((0 : Int), ([] : List TDep))).bind (fun x13 => (((E5 x13).bind fun x15 => (Ci (x13.length = x15.length) (some x15))))))))
theorem Kq (a_g : Aj) (r : List (TDep)) (h : Fy a_g = some r) : Spec Try.prog 10 [(.agg (A7 a_g))] [] (AV.list 3 Ba (default : TDep) r (.own 20000)) [(20000, .tok 3 37 r.length)] := by
  refine Ap (fn := Try.f10) Try.func10 rfl rfl (by kernel_rfl) (fun Γ hn hΓ => ?_); have hq : RgQ Try.prog Γ 38 [] := ⟨hn, mix, hΓ⟩; unfold Fy at h; refine B9 [] [(2, Tg)] ⟨[(1, (.ptr 1 0))], [(1, .row 26 [(M1 a_g), (AV.list 1 eLI64 [] a_g.Pred .none)])], []⟩ [(AVle (.slice 0 0 (fun _ => []) .exact) Tg)] hq ⟨Di, trivial⟩ ?_; obtain ⟨x1, hx1, h⟩ := bind_some h; refine B9 [⟨[], [(20000, 10)], (AV.list 1 Ac (0 : Int) x1 (.own 20000)), [(20000, .tok 1 3 x1.length)], []⟩] [] ⟨[(1, (.ptr 1 0)), (3, (Lv x1))], (Q205 a_g x1), []⟩ [(Spec Try.prog 21 [(.agg (A7 a_g))] [] (AV.list 1 Ac (0 : Int) x1 (.own 20000)) [(20000, .tok 1 3 x1.length)])] hq ⟨(U6 a_g x1 hx1), trivial⟩ ?_; refine Ae ?_; refine As ⟨[(1, (.ptr 1 0)), (3, (Lv x1)), (13, (.bool (((x1.length : Int) : Int) == (0 : Int))))], (Q205 a_g x1), []⟩ hq ?_; refine Ai (((x1.length : Int) : Int) == (0 : Int)) (by kernel_rfl) (fun hb => ?_) (fun hb => ?_)
  · replace h := Ar hb h; clear hb; refine B9 [] [(2, Tg)] ⟨[(2, Tg)], [], []⟩ [(AVle (.slice 0 0 (fun _ => []) .exact) Tg)] hq ⟨Di, trivial⟩ ?_; refine Af (st' := Q202) (Le.trans (E3 (st' := ⟨[(2, Tg)], [], []⟩) [2] [] hq) (Le.trans (Lj (t := 2) (nm := 6002) (sz' := 3) (fun i => Ba (([] : List TDep).getD i (default : TDep))) 37 rfl rfl (.inl ⟨rfl, rfl⟩) (fun h_ => absurd h_ (by decide))) (E3 (st' := Q202) [2] [6002] hq))) ?_; refine Aq ?_; refine Aw ?_; obtain rfl := OI h; exact ⟨.inl rfl, [(6002, 20000)], by kernel_rfl⟩
  · replace h := Au hb h; clear hb; refine Ag ?_; refine Aa ?_; refine B9 [] [(4, Tg)] ⟨[(1, (.ptr 1 0)), (3, (Lv x1)), (4, Tg)], (Q205 a_g x1), []⟩ [(AVle (.slice 0 0 (fun _ => []) .exact) Tg)] hq ⟨Di, trivial⟩ ?_; refine Ae ?_; refine As (Q206 x1 a_g) hq ?_; refine Ak ?_; refine Af (st' := (fun ((i2, l3) : (Int × List (TDep))) => (⟨[(3, (Lv x1)), (4, (.vsl 36004 l3.length)), (15, (M1 a_g)), (16, (Og a_g)), (17, (.int .i64 i2))], (Q199 x1 l3), []⟩ : St)) ((0 : Int), ([] : List TDep))) (Le.trans (E3 (st' := (Q206 x1 a_g)) [3, 4, 15, 16, 17] [10] hq) (Le.trans (le_arr (t := 4) (nm := 36004) (sz' := 3) (fun i => Ba (([] : List TDep).getD i (default : TDep))) 37 rfl rfl) (E3 (st' := ⟨[(3, (Lv x1)), (4, (.vsl 36004 ([] : List TDep).length)), (15, (M1 a_g)), (16, (Og a_g)), (17, (.int .i64 (0 : Int)))], [(10, .tok 1 3 x1.length), (36004, .arr 3 37 (([] : List TDep).length) (fun i => Ba (([] : List TDep).getD i (default : TDep))))], []⟩) [3, 4, 15, 16, 17] [10, 36004] hq))) ?_; obtain ⟨x13, hx13, h⟩ := bind_some h; refine Bf (fun ((i2, l3) : (Int × List (TDep))) => (⟨[(3, (Lv x1)), (4, (.vsl 36004 l3.length)), (15, (M1 a_g)), (16, (Og a_g)), (17, (.int .i64 i2))], (Q199 x1 l3), []⟩ : St)) _ (fun (l4 : List (TDep)) (e : Exit) (st : St) => e = (.exit 0) ∧ Le Γ st (⟨[(4, (.vsl 36004 l4.length))], [(36004, .arr 3 37 l4.length (fun i => Ba (l4.getD i (default : TDep))))], []⟩ : St)) ?_ hx13 ?_
    · rintro ⟨i2, l3⟩ y h; unfold D1 at h; refine As ⟨[(3, (Lv x1)), (4, (.vsl 36004 l3.length)), (15, (M1 a_g)), (16, (Og a_g)), (17, (.int .i64 i2)), (18, (.bool (decide ((i2 : Int) < (a_g.Succ.length : Int)))))], (Q199 x1 l3), []⟩ hq ?_; refine Ae ?_; refine Ai (decide ((i2 : Int) < (a_g.Succ.length : Int))) (by kernel_rfl) (fun hb => ?_) (fun hb => ?_)
      · replace h := Ar hb h; clear hb; refine Ag ?_; refine Aa ?_; refine Ae ?_; refine Ak ?_; obtain ⟨hc5, h⟩ := Ab h; refine B9 [] [] ⟨[(3, (Lv x1)), (4, (.vsl 36004 l3.length)), (5, (.int .i64 i2)), (6, (Z0 a_g i2)), (15, (M1 a_g)), (16, (Og a_g)), (17, (.int .i64 i2))], (Q199 x1 l3), []⟩ [(A8 i2 a_g.Succ.length)] hq ⟨hc5, trivial⟩ ?_; refine As ⟨[(3, (Lv x1)), (4, (.vsl 36004 l3.length)), (5, (.int .i64 i2)), (15, (M1 a_g)), (16, (Og a_g)), (17, (.int .i64 i2)), (22, (Z0 a_g i2)), (23, (.int .i64 ((Pc a_g i2).length : Int))), (24, (.int .i64 (0 : Int)))], (Q199 x1 l3), []⟩ hq ?_; refine Ak ?_; refine Af (st' := (fun ((i6, l7) : (Int × List (TDep))) => (Q204 x1 l7 i2 a_g i6)) ((0 : Int), l3)) (Le.refl _ _) ?_; obtain ⟨x11, hx11, h⟩ := bind_some h; refine Bf (fun ((i6, l7) : (Int × List (TDep))) => (Q204 x1 l7 i2 a_g i6)) _ (fun (l8 : List (TDep)) (e : Exit) (st : St) => e = (.exit 2) ∧ Le Γ st (⟨[(3, (Lv x1)), (4, (.vsl 36004 l8.length)), (15, (M1 a_g)), (16, (Og a_g)), (17, (.int .i64 i2))], [(10, .tok 1 3 x1.length), (36004, .arr 3 37 l8.length (fun i => Ba (l8.getD i (default : TDep))))], []⟩ : St)) ?_ hx11 ?_
        · rintro ⟨i6, l7⟩ y h; unfold Ei at h; refine As ⟨[(3, (Lv x1)), (4, (.vsl 36004 l7.length)), (5, (.int .i64 i2)), (15, (M1 a_g)), (16, (Og a_g)), (17, (.int .i64 i2)), (22, (Z0 a_g i2)), (23, (.int .i64 ((Pc a_g i2).length : Int))), (24, (.int .i64 i6)), (25, (.bool (decide ((i6 : Int) < ((Pc a_g i2).length : Int)))))], (Q200 x1 l7), []⟩ hq ?_; refine Ae ?_; refine Ai (decide ((i6 : Int) < ((Pc a_g i2).length : Int))) (by kernel_rfl) (fun hb => ?_) (fun hb => ?_)
          · replace h := Ar hb h; clear hb; refine Ag ?_; refine Aa ?_; refine Ae ?_; refine Ak ?_; obtain ⟨hc9, h⟩ := Ab h; refine B9 [] [] ⟨[(3, (Lv x1)), (4, (.vsl 36004 l7.length)), (5, (.int .i64 i2)), (8, (.int .i64 ((Pc a_g i2).getD (i6).toNat (0 : Int)))), (15, (M1 a_g)), (16, (Og a_g)), (17, (.int .i64 i2)), (22, (Z0 a_g i2)), (23, (.int .i64 ((Pc a_g i2).length : Int))), (24, (.int .i64 i6))], (Q200 x1 l7), []⟩ [(A8 i6 (Pc a_g i2).length)] hq ⟨hc9, trivial⟩ ?_; obtain ⟨x10, hx10, h⟩ := bind_some h; refine rg [⟨[(36004, 34000)], [], (.vsl 34000 x10.2.length), [(34000, .arr 3 37 x10.2.length (Q203 x10))], []⟩] [] ⟨[(3, (Lv x1)), (4, (.vsl 36004 x10.2.length)), (5, (.int .i64 i2)), (15, (M1 a_g)), (16, (Og a_g)), (17, (.int .i64 i2)), (22, (Z0 a_g i2)), (23, (.int .i64 ((Pc a_g i2).length : Int))), (24, (.int .i64 i6))], [(10, .tok 1 3 x1.length), (36004, .arr 3 37 x10.2.length (Q203 x10))], []⟩ [(Spec Try.prog 22 [(.vsl 34000 l7.length), (AV.list 1 Ac (0 : Int) x1 .none), (.int .i64 i2), (.int .i64 ((Pc a_g i2).getD (i6).toNat (0 : Int)))] [(34000, .arr 3 37 l7.length (fun i => Ba (l7.getD i (default : TDep))))] (.vsl 34000 x10.2.length) [(34000, .arr 3 37 x10.2.length (Q203 x10))])] hq ⟨(L1 l7 x1 i2 ((Pc a_g i2).getD (i6).toNat (0 : Int)) x10 hx10), trivial⟩ ?_; refine An ?_; refine Aa ?_; refine M8 ⟨[(3, (Lv x1)), (4, (.vsl 36004 x10.2.length)), (5, (.int .i64 i2)), (15, (M1 a_g)), (16, (Og a_g)), (17, (.int .i64 i2)), (22, (Z0 a_g i2)), (23, (.int .i64 ((Pc a_g i2).length : Int))), (24, (.int .i64 (Bi (i6 + (1 : Int)))))], [(10, .tok 1 3 x1.length), (36004, .arr 3 37 x10.2.length (Q203 x10))], []⟩ hq ?_; obtain rfl := OI h; exact ⟨rfl, Le.refl _ _⟩
          · replace h := Au hb h; clear hb; refine Bg ?_; refine A4 ?_; obtain rfl := OI h; exact ⟨(by intro hh; cases hh), rfl, E3 [3, 4, 15, 16, 17] [10, 36004] hq⟩
        · clear hx11; rintro e st' ⟨rfl, hl12⟩; refine A0 ?_; refine An ?_; refine Aa ?_; refine Af hl12 ?_; refine M8 ⟨[(3, (Lv x1)), (4, (.vsl 36004 x11.length)), (15, (M1 a_g)), (16, (Og a_g)), (17, (.int .i64 (Bi (i2 + (1 : Int)))))], [(10, .tok 1 3 x1.length), (36004, .arr 3 37 x11.length (fun i => Ba (x11.getD i (default : TDep))))], []⟩ hq ?_; obtain rfl := OI h; exact ⟨rfl, Le.refl _ _⟩
      · replace h := Au hb h; clear hb; refine Bg ?_; refine A4 ?_; obtain rfl := OI h; exact ⟨(by intro hh; cases hh), rfl, E3 [4] [36004] hq⟩
    · clear hx13; rintro e st' ⟨rfl, hl14⟩; refine A0 ?_; refine Aa ?_; refine Af hl14 ?_; obtain ⟨x15, hx15, h⟩ := bind_some h; obtain ⟨hc16, h⟩ := Ab h; refine B9 [⟨[(36004, 34000)], [], (.tuple []), [(34000, .arr 3 37 x15.length (Q201 x15))], []⟩] [] ⟨[(4, (.vsl 36004 x13.length))], [(36004, .arr 3 37 x15.length (Q201 x15))], []⟩ [(Spec Try.prog 23 [(.vsl 34000 x13.length), (.clo 24 [] [])] [(34000, .arr 3 37 x13.length (fun i => Ba (x13.getD i (default : TDep))))] (.tuple []) [(34000, .arr 3 37 x15.length (Q201 x15))])] hq ⟨(L3 x13 x15 hx15), trivial⟩ ?_; refine Af (B1 (congrArg (fun k_ : Nat => (⟨[(4, (.vsl 36004 k_))], [(36004, .arr 3 37 x15.length (Q201 x15))], []⟩ : St)) (show x13.length = x15.length from hc16))) ?_; refine As ⟨[(2, (.vsl 36004 x15.length))], [(36004, .arr 3 37 x15.length (Q201 x15))], []⟩ hq ?_; refine Af (Le.trans (Fb (nm := 36004) (sz := 3) (n := x15.length) (e := 37) (f := (Q201 x15)) (g := (Q201 x15)) rfl ⟨rfl, trivial⟩ (fun _ _ => rfl) (by rw [hΓ]; rfl)) (B1 (st' := ⟨[(2, (AV.list 3 Ba (default : TDep) x15 (.own 36004)))], [(36004, .tok 3 37 x15.length)], []⟩) (by kernel_rfl))) ?_; refine Aq ?_; obtain rfl := OI h; exact ⟨.inl rfl, [(36004, 20000)], by kernel_rfl⟩
def Bw (a_s : List (Int)) (a_v : Int) : Int → Option (LR Int (Unit ⊕ Int)) :=
  fun (i1 : Int) => (bif (decide ((i1 : Int) < (a_s.length : Int))) then (Ci (A8 i1 a_s.length) (bif ((a_v : Int) == (a_s.getD (i1).toNat (0 : Int))) then (some (.done (.inr i1))) else (some (.next (Bi (i1 + (1 : Int))))))) else (some (.done (.inl ()))))
def Z5 (a_s : List (Int)) : AV := (.int .i64 (a_s.length : Int))
def Yy (a_s : List (Int)) : AV := (AV.list 1 Ac (0 : Int) a_s .none)
def Cu (a_s : List (Int)) (a_v : Int) : Option Int :=
  ((Ay (S := Int) (X := (Unit ⊕ Int)) (Bw a_s a_v) (0 : Int)).bind (fun x3 => (match x3 with | (.inl _) => (some (-1 : Int)) | (.inr r5) => (some r5))))
theorem J1 (a_s : List (Int)) (a_v : Int) (r : Int) (h : Cu a_s a_v = some r) : Spec Try.prog 74 [(AV.list 1 Ac (0 : Int) a_s .none), (.int .i64 a_v)] [] (.int .i64 r) [] := by
  refine Ap (fn := Try.f74) Try.func74 rfl rfl (by kernel_rfl) (fun Γ hn hΓ => ?_); have hq : RgQ Try.prog Γ 19 [] := ⟨hn, mix, hΓ⟩; unfold Cu at h; refine As ⟨[(0, (Yy a_s)), (1, (.int .i64 a_v))], [], []⟩ hq ?_; refine Ae ?_; refine As ⟨[(0, (Yy a_s)), (1, (.int .i64 a_v)), (7, (Z5 a_s)), (8, (.int .i64 (0 : Int)))], [], []⟩ hq ?_; refine Ak ?_; refine Af (st' := (fun (i1 : Int) => (⟨[(0, (Yy a_s)), (1, (.int .i64 a_v)), (7, (Z5 a_s)), (8, (.int .i64 i1))], [], []⟩ : St)) (0 : Int)) (Le.refl _ _) ?_; obtain ⟨x3, hx3, h⟩ := bind_some h; refine Bf (fun (i1 : Int) => (⟨[(0, (Yy a_s)), (1, (.int .i64 a_v)), (7, (Z5 a_s)), (8, (.int .i64 i1))], [], []⟩ : St)) _ (fun (x_ : (Unit ⊕ Int)) (e : Exit) (st : St) => match x_ with | (.inl _) => e = (.exit 0) ∧ Le Γ st (⟨[], [], []⟩ : St) | (.inr r_) => e = .ret ∧ Kb Try.prog Try.f74.results.toList [] (.int .i64 r_) [] e st) ?_ hx3 ?_
  · intro i1 y h; unfold Bw at h; refine As ⟨[(0, (Yy a_s)), (1, (.int .i64 a_v)), (7, (Z5 a_s)), (8, (.int .i64 i1)), (9, (.bool (decide ((i1 : Int) < (a_s.length : Int)))))], [], []⟩ hq ?_; refine Ae ?_; refine Ai (decide ((i1 : Int) < (a_s.length : Int))) (by kernel_rfl) (fun hb => ?_) (fun hb => ?_)
    · replace h := Ar hb h; clear hb; refine Ag ?_; refine Aa ?_; refine Ae ?_; refine Ak ?_; refine As ⟨[(0, (Yy a_s)), (1, (.int .i64 a_v)), (5, (.int .i64 i1)), (7, (Z5 a_s)), (8, (.int .i64 i1))], [], []⟩ hq ?_; obtain ⟨hc2, h⟩ := Ab h; refine B9 [] [] ⟨[(0, (Yy a_s)), (1, (.int .i64 a_v)), (5, (.int .i64 i1)), (7, (Z5 a_s)), (8, (.int .i64 i1)), (16, (.bool ((a_v : Int) == (a_s.getD (i1).toNat (0 : Int)))))], [], []⟩ [(A8 i1 a_s.length)] hq ⟨hc2, trivial⟩ ?_; refine Ai ((a_v : Int) == (a_s.getD (i1).toNat (0 : Int))) (by kernel_rfl) (fun hb => ?_) (fun hb => ?_)
      · replace h := Ar hb h; clear hb; refine As ⟨[(4, (.int .i64 i1))], [], []⟩ hq ?_; refine Aq ?_; refine Bl ?_; refine Aw ?_; obtain rfl := OI h; exact ⟨(by intro hh; cases hh), rfl, ⟨.inl rfl, [], by kernel_rfl⟩⟩
      · replace h := Au hb h; clear hb; refine Ag ?_; refine An ?_; refine Aa ?_; refine M8 ⟨[(0, (Yy a_s)), (1, (.int .i64 a_v)), (7, (Z5 a_s)), (8, (.int .i64 (Bi (i1 + (1 : Int)))))], [], []⟩ hq ?_; obtain rfl := OI h; exact ⟨rfl, Le.refl _ _⟩
    · replace h := Au hb h; clear hb; refine Bg ?_; refine A4 ?_; obtain rfl := OI h; exact ⟨(by intro hh; cases hh), rfl, E3 [] [] hq⟩
  · clear hx3; rcases x3 with _ | r5
    · rintro e st' ⟨rfl, hl4⟩; refine A0 ?_; refine Aa ?_; refine Af hl4 ?_; refine As ⟨[(4, (.int .i64 (-1 : Int)))], [], []⟩ hq ?_; refine Aq ?_; obtain rfl := OI h; exact ⟨.inl rfl, [], by kernel_rfl⟩
    · rintro e st' ⟨rfl, hk⟩; refine Bl ?_; refine Aw ?_; obtain rfl := OI h; exact hk
def Q210 (a_at : Int) := ((decide (((0 : Int) : Int) ≤ a_at)) == true)
def Eo (a_tree : List (Int)) (a_at : Int) : Option Bool :=
  (some (bif (decide (((0 : Int) : Int) ≤ a_at)) then (decide ((a_at : Int) < (a_tree.length : Int))) else false))
theorem L5 (a_tree : List (Int)) (a_at : Int) (r : Bool) (h : Eo a_tree a_at = some r) : Spec Try.prog 76 [(AV.list 1 Ac (0 : Int) a_tree .none), (.int .i64 a_at)] [] (.bool r) [] := by
  refine Ap (fn := Try.f76) Try.func76 rfl rfl (by kernel_rfl) (fun Γ hn hΓ => ?_); have hq : RgQ Try.prog Γ 13 [] := ⟨hn, mix, hΓ⟩; unfold Eo at h; refine As ⟨[(0, (AV.list 1 Ac (0 : Int) a_tree .none)), (1, (.int .i64 a_at))], [], []⟩ hq ?_; refine B9 [] [] ⟨[(4, (.bool (bif (decide (((0 : Int) : Int) ≤ a_at)) then (decide ((a_at : Int) < (a_tree.length : Int))) else false)))], [], []⟩ [((Q210 a_at) = true → (Q210 a_at) = true), ((Q210 a_at) = true → (Q210 a_at) = true), ((Q210 a_at) = true → (Q210 a_at) = true), ((decide (((0 : Int) : Int) ≤ a_at)) = true → (Q210 a_at) = true)] hq ⟨(fun hg => hg), (fun hg => hg), (fun hg => hg), gT, trivial⟩ ?_; refine Aq ?_; obtain rfl := OI h; exact ⟨.inl rfl, [], by kernel_rfl⟩
def Ca (a_tree : List (Int)) (a_from : Int) (a_root : Int) : (Int × List (Int)) → Option (LR (Int × List (Int)) (List (Int) ⊕ (Bool × List (Int)))) :=
  fun ((i1, l2) : (Int × List (Int))) => (bif ((i1 : Int) != a_root) then (Ci (A8 i1 l2.length) (bif (((l2.getD (i1).toNat (0 : Int)) : Int) != (0 : Int)) then (Ci (A8 i1 l2.length) (some (.done (.inr ((((l2.getD (i1).toNat (0 : Int)) : Int) != (Bi (a_from + (1 : Int)))), l2))))) else (Ci (A8 i1 a_tree.length) ((Eo a_tree (a_tree.getD (i1).toNat (0 : Int))).bind fun x7 => (bif (!x7) then (some (.done (.inr (false, l2)))) else (Ci (A8 i1 l2.length) (Ci (A8 i1 a_tree.length) (some (.next ((a_tree.getD (i1).toNat (0 : Int)), (l2.set (i1).toNat (Bi (a_from + (1 : Int)))))))))))))) else (some (.done (.inl l2))))
def V1 (a_from : Int) : AV := (.int .i64 (Bi (a_from + (1 : Int))))
def Te (a_tree : List (Int)) : AV := (AV.list 1 Ac (0 : Int) a_tree .none)
def Q214 (l2 : List (Int)) (i1 : Int) (a_from : Int) := (l2.set (i1).toNat (Bi (a_from + (1 : Int))))
def Q212 (l2 : List (Int)) : List (Nat × Own) := [(34001, .arr 1 3 l2.length (fun i => Ac (l2.getD i (0 : Int))))]
def Q213 (a_walks : List (Int)) : List (Nat × Own) := [(34001, .arr 1 3 a_walks.length (fun i => Ac (a_walks.getD i (0 : Int))))]
def Q211 (a_tree : List (Int)) (l2 : List (Int)) (a_root : Int) (a_from : Int) (i1 : Int) : List (Nat × AV) := [(0, (Te a_tree)), (1, (.vsl 34001 l2.length)), (3, (.int .i64 a_root)), (9, (V1 a_from)), (10, (.int .i64 i1))]
def Ho (a_tree : List (Int)) (a_walks : List (Int)) (a_from : Int) (a_root : Int) : Option (Bool × List (Int)) :=
  ((Ay (S := (Int × List (Int))) (X := (List (Int) ⊕ (Bool × List (Int)))) (Ca a_tree a_from a_root) (a_from, a_walks)).bind (fun x10 => (match x10 with | (.inl l3) => (some (true, l3)) | (.inr r12) => (some r12))))
theorem V7 (a_tree : List (Int)) (a_walks : List (Int)) (a_from : Int) (a_root : Int) (r : (Bool × List (Int))) (h : Ho a_tree a_walks a_from a_root = some r) : Spec Try.prog 75 [(AV.list 1 Ac (0 : Int) a_tree .none), (.vsl 34001 a_walks.length), (.int .i64 a_from), (.int .i64 a_root)] [(34001, .arr 1 3 a_walks.length (fun i => Ac (a_walks.getD i (0 : Int))))] (.bool r.1) [(34001, .arr 1 3 r.2.length (fun i => Ac (r.2.getD i (0 : Int))))] := by
  refine Ap (fn := Try.f75) Try.func75 rfl rfl (by kernel_rfl) (fun Γ hn hΓ => ?_); have hq : RgQ Try.prog Γ 43 [(34001, .arr 1 3 a_walks.length (fun i => Ac (a_walks.getD i (0 : Int))))] := ⟨hn, mix, hΓ⟩; unfold Ho at h; refine As ⟨[(0, (Te a_tree)), (1, (.vsl 34001 a_walks.length)), (2, (.int .i64 a_from)), (3, (.int .i64 a_root))], (Q213 a_walks), []⟩ hq ?_; refine As ⟨[(0, (Te a_tree)), (1, (.vsl 34001 a_walks.length)), (2, (.int .i64 a_from)), (3, (.int .i64 a_root)), (9, (V1 a_from))], (Q213 a_walks), []⟩ hq ?_; refine Ae ?_; refine As ⟨[(0, (Te a_tree)), (1, (.vsl 34001 a_walks.length)), (3, (.int .i64 a_root)), (9, (V1 a_from)), (10, (.int .i64 a_from))], (Q213 a_walks), []⟩ hq ?_; refine Ak ?_; refine Af (st' := (fun ((i1, l2) : (Int × List (Int))) => (⟨(Q211 a_tree l2 a_root a_from i1), (Q212 l2), []⟩ : St)) (a_from, a_walks)) (Le.refl _ _) ?_; obtain ⟨x10, hx10, h⟩ := bind_some h; refine Bf (fun ((i1, l2) : (Int × List (Int))) => (⟨(Q211 a_tree l2 a_root a_from i1), (Q212 l2), []⟩ : St)) _ (fun (x_ : (List (Int) ⊕ (Bool × List (Int)))) (e : Exit) (st : St) => match x_ with | (.inl l3) => e = (.exit 0) ∧ Le Γ st (⟨[], [(34001, .arr 1 3 l3.length (fun i => Ac (l3.getD i (0 : Int))))], []⟩ : St) | (.inr r_) => e = .ret ∧ Kb Try.prog Try.f75.results.toList (Q213 a_walks) (.bool r_.1) [(34001, .arr 1 3 r_.2.length (fun i => Ac (r_.2.getD i (0 : Int))))] e st) ?_ hx10 ?_
  · rintro ⟨i1, l2⟩ y h; unfold Ca at h; refine Ae ?_; refine As ⟨[(0, (Te a_tree)), (1, (.vsl 34001 l2.length)), (3, (.int .i64 a_root)), (9, (V1 a_from)), (10, (.int .i64 i1)), (16, (.bool ((i1 : Int) != a_root)))], (Q212 l2), []⟩ hq ?_; refine Ai ((i1 : Int) != a_root) (by kernel_rfl) (fun hb => ?_) (fun hb => ?_)
    · replace h := Ar hb h; clear hb; refine Ag ?_; refine Aa ?_; refine Ae ?_; refine Ak ?_; refine Ae ?_; obtain ⟨hc4, h⟩ := Ab h; refine B9 [] [] ⟨[(0, (Te a_tree)), (1, (.vsl 34001 l2.length)), (3, (.int .i64 a_root)), (9, (V1 a_from)), (10, (.int .i64 i1)), (25, (.bool (((l2.getD (i1).toNat (0 : Int)) : Int) != (0 : Int))))], (Q212 l2), []⟩ [(A8 i1 l2.length), (l2.length = l2.length)] hq ⟨hc4, rfl, trivial⟩ ?_; refine Ai (((l2.getD (i1).toNat (0 : Int)) : Int) != (0 : Int)) (by kernel_rfl) (fun hb => ?_) (fun hb => ?_)
      · replace h := Ar hb h; clear hb; obtain ⟨hc5, h⟩ := Ab h; refine B9 [] [] ⟨[(8, (.bool (((l2.getD (i1).toNat (0 : Int)) : Int) != (Bi (a_from + (1 : Int))))))], (Q212 l2), []⟩ [(A8 i1 l2.length), (l2.length = l2.length)] hq ⟨hc5, rfl, trivial⟩ ?_; refine Aq ?_; refine Aw ?_; refine Bl ?_; refine Aw ?_; obtain rfl := OI h; exact ⟨(by intro hh; cases hh), rfl, ⟨.inl rfl, [(34001, 34001)], by kernel_rfl⟩⟩
      · replace h := Au hb h; clear hb; refine Ag ?_; refine Aa ?_; refine Ae ?_; obtain ⟨hc6, h⟩ := Ab h; obtain ⟨x7, hx7, h⟩ := bind_some h; refine B9 [⟨[], [], (.bool x7), [], []⟩] [] ⟨[(0, (Te a_tree)), (1, (.vsl 34001 l2.length)), (3, (.int .i64 a_root)), (9, (V1 a_from)), (10, (.int .i64 i1)), (38, (.bool (!x7)))], (Q212 l2), []⟩ [(A8 i1 a_tree.length), (Spec Try.prog 76 [(Te a_tree), (.int .i64 (a_tree.getD (i1).toNat (0 : Int)))] [] (.bool x7) [])] hq ⟨hc6, (L5 a_tree (a_tree.getD (i1).toNat (0 : Int)) x7 hx7), trivial⟩ ?_; refine Ai (!x7) (by kernel_rfl) (fun hb => ?_) (fun hb => ?_)
        · replace h := Ar hb h; clear hb; refine As ⟨[(8, (.bool false))], (Q212 l2), []⟩ hq ?_; refine Aq ?_; refine Aw ?_; refine Bl ?_; refine Aw ?_; obtain rfl := OI h; exact ⟨(by intro hh; cases hh), rfl, ⟨.inl rfl, [(34001, 34001)], by kernel_rfl⟩⟩
        · replace h := Au hb h; clear hb; refine Ag ?_; refine Aa ?_; obtain ⟨hc8, h⟩ := Ab h; refine rg [] [] ⟨(Q211 a_tree l2 a_root a_from i1), [(34001, .arr 1 3 l2.length (fun i_ => AV.eraseAll (fun n_ => Ch n_ [34001]) ((Fc (fun i => Ac (l2.getD i (0 : Int))) (i1).toNat 0 [(V1 a_from)]) i_)))], []⟩ [(A8 i1 l2.length), (l2.length = l2.length)] hq ⟨hc8, rfl, trivial⟩ ?_; refine An ?_; refine Aa ?_; refine Af (Le.trans (Cw (st' := ⟨(Q211 a_tree l2 a_root a_from i1), [(34001, .arr 1 3 l2.length (fun i => Ac ((Q214 l2 i1 a_from).getD i (0 : Int))))], []⟩) (TmpsLe.refl _) (.arr (Bx (List.length_set ..).symm (fun k_ hk_ => (congrArg (AV.eraseAll (fun n_ => Ch n_ [34001])) ((Gs (fun _ _ => rfl) (Hg hc8) rfl) k_ hk_)).trans rfl)) .nil)) (B1 (congrArg (fun k_ : Nat => (⟨[(0, (Te a_tree)), (1, (.vsl 34001 k_)), (3, (.int .i64 a_root)), (9, (V1 a_from)), (10, (.int .i64 i1))], [(34001, .arr 1 3 k_ (fun i => Ac ((Q214 l2 i1 a_from).getD i (0 : Int))))], []⟩ : St)) (show l2.length = (Q214 l2 i1 a_from).length from (List.length_set ..).symm)))) ?_; obtain ⟨hc9, h⟩ := Ab h; refine rg [] [] ⟨[(0, (Te a_tree)), (1, (.vsl 34001 (Q214 l2 i1 a_from).length)), (3, (.int .i64 a_root)), (9, (V1 a_from)), (10, (.int .i64 (a_tree.getD (i1).toNat (0 : Int))))], [(34001, .arr 1 3 ((Q214 l2 i1 a_from).length) (fun i => Ac ((Q214 l2 i1 a_from).getD i (0 : Int))))], []⟩ [(A8 i1 a_tree.length)] hq ⟨hc9, trivial⟩ ?_; obtain rfl := OI h; exact ⟨rfl, Le.refl _ _⟩
    · replace h := Au hb h; clear hb; refine Bg ?_; refine A4 ?_; obtain rfl := OI h; exact ⟨(by intro hh; cases hh), rfl, E3 [] [34001] hq⟩
  · clear hx10; rcases x10 with l3 | r12
    · rintro e st' ⟨rfl, hl11⟩; refine A0 ?_; refine Aa ?_; refine Af hl11 ?_; refine As ⟨[(8, (.bool true))], [(34001, .arr 1 3 l3.length (fun i => Ac (l3.getD i (0 : Int))))], []⟩ hq ?_; refine Aq ?_; obtain rfl := OI h; exact ⟨.inl rfl, [(34001, 34001)], by kernel_rfl⟩
    · rintro e st' ⟨rfl, hk⟩; refine Bl ?_; refine Aw ?_; obtain rfl := OI h; exact hk
def C9 (a_tree : List (Int)) (x1 : Int) : (Int × List (Int)) → Option (LR (Int × List (Int)) (Unit ⊕ Bool)) :=
  fun ((i3, l4) : (Int × List (Int))) => (bif (decide ((i3 : Int) < (a_tree.length : Int))) then (Ci (A8 i3 a_tree.length) ((bif ((((a_tree.getD (i3).toNat (0 : Int)) : Int) != (-2 : Int)) == true) then Ho a_tree l4 i3 x1 else some (false, [])).bind fun x6 => (Ci (((((a_tree.getD (i3).toNat (0 : Int)) : Int) != (-2 : Int)) == true) = true → (l4.length = x6.2.length)) (bif (bif (((a_tree.getD (i3).toNat (0 : Int)) : Int) != (-2 : Int)) then (!x6.1) else false) then (some (.done (.inr false))) else (some (.next ((Bi (i3 + (1 : Int))), (bif ((((a_tree.getD (i3).toNat (0 : Int)) : Int) != (-2 : Int)) == true) then x6.2 else l4)))))))) else (some (.done (.inl ()))))
def Js (a_tree : List (Int)) := (a_tree.length : Int)
def Q217 (a_tree : List (Int)) (i3 : Int) := (((a_tree.getD (i3).toNat (0 : Int)) : Int) != (-2 : Int))
def Hw (a_tree : List (Int)) (i3 : Int) := ((Q217 a_tree i3) == true)
def M0 (a_tree : List (Int)) : AV := (AV.list 1 Ac (0 : Int) a_tree .none)
def Zs (a_tree : List (Int)) := (List.replicate ((Js a_tree)).toNat (0 : Int))
def Q220 (l4 : List (Int)) : List (Nat × Own) := [(12, .arr 1 3 l4.length (fun i => Ac (l4.getD i (0 : Int))))]
def Q222 (a_tree : List (Int)) (x1 : Int) (l4 : List (Int)) (i3 : Int) (x6 : (Bool × List (Int))) : List (Nat × AV) := [(0, (M0 a_tree)), (3, (.int .i64 x1)), (4, (.vsl 12 l4.length)), (14, (.int .i64 (Js a_tree))), (15, (.int .i64 i3)), (30, (.bool (bif (Q217 a_tree i3) then (!x6.1) else false)))]
def Gy (a_tree : List (Int)) : Option Bool :=
  ((Cu a_tree (-1 : Int)).bind fun x1 => (bif (decide ((x1 : Int) < (0 : Int))) then (some false) else (Ci (0 ≤ (a_tree.length : Int) ∧ (a_tree.length : Int) ≤ (a_tree.length : Int) ∧ (a_tree.length : Int) ≤ (room : Int)) ((Ay (S := (Int × List (Int))) (X := (Unit ⊕ Bool)) (C9 a_tree x1) ((0 : Int), (List.replicate ((a_tree.length : Int)).toNat (0 : Int)))).bind (fun x8 => (match x8 with | (.inl _) => (some true) | (.inr r10) => (some r10)))))))
theorem Tn (a_tree : List (Int)) (r : Bool) (h : Gy a_tree = some r) : Spec Try.prog 54 [(AV.list 1 Ac (0 : Int) a_tree .none)] [] (.bool r) [] := by
  refine Ap (fn := Try.f54) Try.func54 rfl rfl (by kernel_rfl) (fun Γ hn hΓ => ?_); have hq : RgQ Try.prog Γ 32 [] := ⟨hn, mix, hΓ⟩; unfold Gy at h; refine As ⟨[(0, (M0 a_tree))], [], []⟩ hq ?_; obtain ⟨x1, hx1, h⟩ := bind_some h; refine B9 [⟨[], [], (.int .i64 x1), [], []⟩] [] ⟨[(0, (M0 a_tree)), (3, (.int .i64 x1))], [], []⟩ [(Spec Try.prog 74 [(M0 a_tree), (.int .i64 (-1 : Int))] [] (.int .i64 x1) [])] hq ⟨(J1 a_tree (-1 : Int) x1 hx1), trivial⟩ ?_; refine Ae ?_; refine As ⟨[(0, (M0 a_tree)), (3, (.int .i64 x1)), (9, (.bool (decide ((x1 : Int) < (0 : Int)))))], [], []⟩ hq ?_; refine Ai (decide ((x1 : Int) < (0 : Int))) (by kernel_rfl) (fun hb => ?_) (fun hb => ?_)
  · replace h := Ar hb h; clear hb; refine As ⟨[(2, (.bool false))], [], []⟩ hq ?_; refine Aq ?_; refine Aw ?_; obtain rfl := OI h; exact ⟨.inl rfl, [], by kernel_rfl⟩
  · replace h := Au hb h; clear hb; refine Ag ?_; refine Aa ?_; obtain ⟨hc2, h⟩ := Ab h; refine B9 [] [] ⟨[(0, (M0 a_tree)), (3, (.int .i64 x1)), (4, (.vsl 12 ((Js a_tree)).toNat))], [(12, .arr 1 3 (((Js a_tree)).toNat) (fun i_ => AV.eraseAll (fun n_ => Ch n_ [12]) ((fun _ => [(.int .i64 (0 : Int))]) i_)))], []⟩ [(0 ≤ (Js a_tree) ∧ (Js a_tree) ≤ (Js a_tree) ∧ (Js a_tree) ≤ (room : Int))] hq ⟨hc2, trivial⟩ ?_; refine Af (Le.trans (Cw (st' := ⟨[(0, (M0 a_tree)), (3, (.int .i64 x1)), (4, (.vsl 12 ((Js a_tree)).toNat))], [(12, .arr 1 3 (((Js a_tree)).toNat) (fun i => Ac ((Zs a_tree).getD i (0 : Int))))], []⟩) (TmpsLe.refl _) (.arr (fun k hk => Mf (e := Ac) (d := (0 : Int)) (.cons (AVle.refl _) .nil) _ k (Ml hk)) .nil)) (B1 (congrArg (fun k_ : Nat => (⟨[(0, (M0 a_tree)), (3, (.int .i64 x1)), (4, (.vsl 12 k_))], [(12, .arr 1 3 k_ (fun i => Ac ((Zs a_tree).getD i (0 : Int))))], []⟩ : St)) (show ((Js a_tree)).toNat = (Zs a_tree).length from (List.length_replicate ..).symm)))) ?_; refine Ae ?_; refine As ⟨[(0, (M0 a_tree)), (3, (.int .i64 x1)), (4, (.vsl 12 (Zs a_tree).length)), (14, (.int .i64 (Js a_tree))), (15, (.int .i64 (0 : Int)))], [(12, .arr 1 3 ((Zs a_tree).length) (fun i => Ac ((Zs a_tree).getD i (0 : Int))))], []⟩ hq ?_; refine Ak ?_; refine Af (st' := (fun ((i3, l4) : (Int × List (Int))) => (⟨[(0, (M0 a_tree)), (3, (.int .i64 x1)), (4, (.vsl 12 l4.length)), (14, (.int .i64 (Js a_tree))), (15, (.int .i64 i3))], (Q220 l4), []⟩ : St)) ((0 : Int), (Zs a_tree))) (Le.refl _ _) ?_; obtain ⟨x8, hx8, h⟩ := bind_some h; refine Bf (fun ((i3, l4) : (Int × List (Int))) => (⟨[(0, (M0 a_tree)), (3, (.int .i64 x1)), (4, (.vsl 12 l4.length)), (14, (.int .i64 (Js a_tree))), (15, (.int .i64 i3))], (Q220 l4), []⟩ : St)) _ (fun (x_ : (Unit ⊕ Bool)) (e : Exit) (st : St) => match x_ with | (.inl _) => e = (.exit 0) ∧ Le Γ st (⟨[], [], []⟩ : St) | (.inr r_) => e = .ret ∧ Kb Try.prog Try.f54.results.toList [] (.bool r_) [] e st) ?_ hx8 ?_
    · rintro ⟨i3, l4⟩ y h; unfold C9 at h; refine As ⟨[(0, (M0 a_tree)), (3, (.int .i64 x1)), (4, (.vsl 12 l4.length)), (14, (.int .i64 (Js a_tree))), (15, (.int .i64 i3)), (16, (.bool (decide ((i3 : Int) < (Js a_tree)))))], (Q220 l4), []⟩ hq ?_; refine Ae ?_; refine Ai (decide ((i3 : Int) < (Js a_tree))) (by kernel_rfl) (fun hb => ?_) (fun hb => ?_)
      · replace h := Ar hb h; clear hb; refine Ag ?_; refine Aa ?_; refine Ae ?_; refine Ak ?_; refine As ⟨[(0, (M0 a_tree)), (3, (.int .i64 x1)), (4, (.vsl 12 l4.length)), (5, (.int .i64 i3)), (14, (.int .i64 (Js a_tree))), (15, (.int .i64 i3))], (Q220 l4), []⟩ hq ?_; obtain ⟨hc5, h⟩ := Ab h; obtain ⟨x6, hx6, h⟩ := bind_some h; obtain ⟨hc7, h⟩ := Ab h; refine B9 [⟨[(12, 34001)], [], (.bool x6.1), [(34001, .arr 1 3 x6.2.length (fun i => Ac (x6.2.getD i (0 : Int))))], []⟩] [] ⟨(Q222 a_tree x1 l4 i3 x6), [(12, .arr 1 3 (bif (Hw a_tree i3) then x6.2.length else l4.length) (fun i_ => AV.eraseAll (fun n_ => Ch n_ [12]) ((fun i => bif (Hw a_tree i3) then (fun i => Ac (x6.2.getD i (0 : Int))) i else (fun i => Ac (l4.getD i (0 : Int))) i) i_)))], []⟩ [(A8 i3 a_tree.length), ((Hw a_tree i3) = true → (Hw a_tree i3) = true), ((Hw a_tree i3) = true → (Hw a_tree i3) = true), ((Hw a_tree i3) = true → (Hw a_tree i3) = true), ((Hw a_tree i3) = true → (Hw a_tree i3) = true), ((Hw a_tree i3) = true → (Spec Try.prog 75 [(M0 a_tree), (.vsl 34001 l4.length), (.int .i64 i3), (.int .i64 x1)] [(34001, .arr 1 3 l4.length (fun i => Ac (l4.getD i (0 : Int))))] (.bool x6.1) [(34001, .arr 1 3 x6.2.length (fun i => Ac (x6.2.getD i (0 : Int))))])), ((Hw a_tree i3) = true → (Hw a_tree i3) = true), ((Q217 a_tree i3) = true → (Hw a_tree i3) = true)] hq ⟨hc5, (fun hg => hg), (fun hg => hg), (fun hg => hg), (fun hg => hg), (fun hg => (V7 a_tree l4 i3 x1 x6 (Ar hg hx6))), (fun hg => hg), gT, trivial⟩ ?_; refine Af (Le.trans (Cw (st' := ⟨(Q222 a_tree x1 l4 i3 x6), [(12, .arr 1 3 (bif (Hw a_tree i3) then x6.2.length else l4.length) (fun i => Ac ((bif (Hw a_tree i3) then x6.2 else l4).getD i (0 : Int))))], []⟩) (TmpsLe.refl _) (.arr (Bx bif_len (fun k_ hk_ => (congrArg (AV.eraseAll (fun n_ => Ch n_ [12])) ((fun _ _ => bif_row) k_ hk_)).trans rfl)) .nil)) (Le.trans (B1 (congrArg (fun k_ : Nat => (⟨(Q222 a_tree x1 l4 i3 x6), [(12, .arr 1 3 k_ (fun i => Ac ((bif (Hw a_tree i3) then x6.2 else l4).getD i (0 : Int))))], []⟩ : St)) (show (bif (Hw a_tree i3) then x6.2.length else l4.length) = (bif (Hw a_tree i3) then x6.2 else l4).length from bif_len))) (B1 (congrArg (fun k_ : Nat => (⟨[(0, (M0 a_tree)), (3, (.int .i64 x1)), (4, (.vsl 12 k_)), (14, (.int .i64 (Js a_tree))), (15, (.int .i64 i3)), (30, (.bool (bif (Q217 a_tree i3) then (!x6.1) else false)))], [(12, .arr 1 3 ((bif (Hw a_tree i3) then x6.2 else l4).length) (fun i => Ac ((bif (Hw a_tree i3) then x6.2 else l4).getD i (0 : Int))))], []⟩ : St)) (show l4.length = (bif (Hw a_tree i3) then x6.2 else l4).length from (bif_was hc7)))))) ?_; refine Ai (bif (Q217 a_tree i3) then (!x6.1) else false) (by kernel_rfl) (fun hb => ?_) (fun hb => ?_)
        · replace h := Ar hb h; clear hb; refine As ⟨[(2, (.bool false))], [], []⟩ hq ?_; refine Aq ?_; refine Bl ?_; refine Aw ?_; obtain rfl := OI h; exact ⟨(by intro hh; cases hh), rfl, ⟨.inl rfl, [], by kernel_rfl⟩⟩
        · replace h := Au hb h; clear hb; refine Ag ?_; refine An ?_; refine Aa ?_; refine M8 ⟨[(0, (M0 a_tree)), (3, (.int .i64 x1)), (4, (.vsl 12 (bif (Hw a_tree i3) then x6.2 else l4).length)), (14, (.int .i64 (Js a_tree))), (15, (.int .i64 (Bi (i3 + (1 : Int)))))], [(12, .arr 1 3 ((bif (Hw a_tree i3) then x6.2 else l4).length) (fun i => Ac ((bif (Hw a_tree i3) then x6.2 else l4).getD i (0 : Int))))], []⟩ hq ?_; obtain rfl := OI h; exact ⟨rfl, Le.refl _ _⟩
      · replace h := Au hb h; clear hb; refine Bg ?_; refine A4 ?_; obtain rfl := OI h; exact ⟨(by intro hh; cases hh), rfl, E3 [] [] hq⟩
    · clear hx8; rcases x8 with _ | r10
      · rintro e st' ⟨rfl, hl9⟩; refine A0 ?_; refine Aa ?_; refine Af hl9 ?_; refine As ⟨[(2, (.bool true))], [], []⟩ hq ?_; refine Aq ?_; obtain rfl := OI h; exact ⟨.inl rfl, [], by kernel_rfl⟩
      · rintro e st' ⟨rfl, hk⟩; refine Bl ?_; refine Aw ?_; obtain rfl := OI h; exact hk
def Ew (a_tree : List (Int)) (a_at : Int) : Option Bool :=
  ((Eo a_tree a_at).bind fun x1 => (Ci ((x1 == true) = true → (A8 a_at a_tree.length)) (some (bif x1 then (((a_tree.getD (a_at).toNat (0 : Int)) : Int) != (-2 : Int)) else false))))
theorem Kv (a_tree : List (Int)) (a_at : Int) (r : Bool) (h : Ew a_tree a_at = some r) : Spec Try.prog 55 [(AV.list 1 Ac (0 : Int) a_tree .none), (.int .i64 a_at)] [] (.bool r) [] := by
  refine Ap (fn := Try.f55) Try.func55 rfl rfl (by kernel_rfl) (fun Γ hn hΓ => ?_); have hq : RgQ Try.prog Γ 15 [] := ⟨hn, mix, hΓ⟩; unfold Ew at h; refine As ⟨[(0, (AV.list 1 Ac (0 : Int) a_tree .none)), (1, (.int .i64 a_at))], [], []⟩ hq ?_; obtain ⟨x1, hx1, h⟩ := bind_some h; obtain ⟨hc2, h⟩ := Ab h; refine B9 [⟨[], [], (.bool x1), [], []⟩] [] ⟨[(4, (.bool (bif x1 then (((a_tree.getD (a_at).toNat (0 : Int)) : Int) != (-2 : Int)) else false)))], [], []⟩ [(Spec Try.prog 76 [(AV.list 1 Ac (0 : Int) a_tree .none), (.int .i64 a_at)] [] (.bool x1) []), ((x1 == true) = true → (x1 == true) = true), ((x1 == true) = true → (x1 == true) = true), ((x1 == true) = true → (A8 a_at a_tree.length)), ((x1 == true) = true → (x1 == true) = true), ((x1 == true) = true → (x1 == true) = true), (x1 = true → (x1 == true) = true)] hq ⟨(L5 a_tree a_at x1 hx1), (fun hg => hg), (fun hg => hg), (fun hg => (hc2 hg)), (fun hg => hg), (fun hg => hg), gT, trivial⟩ ?_; refine Aq ?_; obtain rfl := OI h; exact ⟨.inl rfl, [], by kernel_rfl⟩
def Q224 (x1 : Bool) (x2 : Bool) := ((bif x1 then x2 else false) == true)
def Hn (a_tree : List (Int)) (a_a : Int) (a_b : Int) : Option Bool :=
  ((Gy a_tree).bind fun x1 => ((bif (x1 == true) then Ew a_tree a_a else some false).bind fun x2 => ((bif ((bif x1 then x2 else false) == true) then Ew a_tree a_b else some false).bind fun x3 => (some (bif (bif x1 then x2 else false) then x3 else false)))))
theorem Wc (a_tree : List (Int)) (a_a : Int) (a_b : Int) (r : Bool) (h : Hn a_tree a_a a_b = some r) : Spec Try.prog 36 [(AV.list 1 Ac (0 : Int) a_tree .none), (.int .i64 a_a), (.int .i64 a_b)] [] (.bool r) [] := by
  refine Ap (fn := Try.f36) Try.func36 rfl rfl (by kernel_rfl) (fun Γ hn hΓ => ?_); have hq : RgQ Try.prog Γ 19 [] := ⟨hn, mix, hΓ⟩; unfold Hn at h; refine As ⟨[(0, (AV.list 1 Ac (0 : Int) a_tree .none)), (1, (.int .i64 a_a)), (2, (.int .i64 a_b))], [], []⟩ hq ?_; obtain ⟨x1, hx1, h⟩ := bind_some h; obtain ⟨x2, hx2, h⟩ := bind_some h; obtain ⟨x3, hx3, h⟩ := bind_some h; refine B9 [⟨[], [], (.bool x1), [], []⟩, ⟨[], [], (.bool x2), [], []⟩, ⟨[], [], (.bool x3), [], []⟩] [] ⟨[(6, (.bool (bif (bif x1 then x2 else false) then x3 else false)))], [], []⟩ [(Spec Try.prog 54 [(AV.list 1 Ac (0 : Int) a_tree .none)] [] (.bool x1) []), ((x1 == true) = true → (x1 == true) = true), ((x1 == true) = true → (x1 == true) = true), ((x1 == true) = true → (Spec Try.prog 55 [(AV.list 1 Ac (0 : Int) a_tree .none), (.int .i64 a_a)] [] (.bool x2) [])), (x1 = true → (x1 == true) = true), ((Q224 x1 x2) = true → (Q224 x1 x2) = true), ((Q224 x1 x2) = true → (Q224 x1 x2) = true), ((Q224 x1 x2) = true → (Spec Try.prog 55 [(AV.list 1 Ac (0 : Int) a_tree .none), (.int .i64 a_b)] [] (.bool x3) [])), ((bif x1 then x2 else false) = true → (Q224 x1 x2) = true)] hq ⟨(Tn a_tree x1 hx1), (fun hg => hg), (fun hg => hg), (fun hg => (Kv a_tree a_a x2 (Ar hg hx2))), gT, (fun hg => hg), (fun hg => hg), (fun hg => (Kv a_tree a_b x3 (Ar hg hx3))), gT, trivial⟩ ?_; refine Aq ?_; obtain rfl := OI h; exact ⟨.inl rfl, [], by kernel_rfl⟩
def C4 (a_tree : List (Int)) : (Int × List (Bool)) → Option (LR (Int × List (Bool)) (List (Bool))) :=
  fun ((i2, l3) : (Int × List (Bool))) => (bif ((i2 : Int) != (-1 : Int)) then (Ci (A8 i2 l3.length) (Ci (A8 i2 a_tree.length) (some (.next ((a_tree.getD (i2).toNat (0 : Int)), (l3.set (i2).toNat true)))))) else (some (.done l3)))
def C6 (a_tree : List (Int)) (l4 : List (Bool)) : Int → Option (LR Int Int) :=
  fun (i9 : Int) => (Ci (A8 i9 l4.length) (bif (!(l4.getD (i9).toNat false)) then (Ci (A8 i9 a_tree.length) (some (.next (a_tree.getD (i9).toNat (0 : Int))))) else (some (.done i9))))
def Oa (a_tree : List (Int)) : AV := (AV.list 1 Ac (0 : Int) a_tree .none)
def Q226 (a_tree : List (Int)) := (List.replicate ((a_tree.length : Int)).toNat false)
def Q227 (x7 : List (Bool)) : List (Nat × Own) := [(11, .arr 1 4 x7.length (fun i => eB (x7.getD i false)))]
def Q228 (a_tree : List (Int)) (a_b : Int) (l3 : List (Bool)) (i2 : Int) : List (Nat × AV) := [(0, (Oa a_tree)), (2, (.int .i64 a_b)), (7, (.vsl 11 l3.length)), (8, (.int .i64 i2))]
def Fj (a_tree : List (Int)) (a_a : Int) (a_b : Int) : Option Int :=
  (Ci (0 ≤ (a_tree.length : Int) ∧ (a_tree.length : Int) ≤ (a_tree.length : Int) ∧ (a_tree.length : Int) ≤ (room : Int)) ((Ay (S := (Int × List (Bool))) (X := List (Bool)) (C4 a_tree) (a_a, (List.replicate ((a_tree.length : Int)).toNat false))).bind (fun x7 => (((Ay (S := Int) (X := Int) (C6 a_tree x7) a_b).bind (fun x13 => ((some x13))))))))
theorem Y1 (a_tree : List (Int)) (a_a : Int) (a_b : Int) (r : Int) (h : Fj a_tree a_a a_b = some r) : Spec Try.prog 37 [(AV.list 1 Ac (0 : Int) a_tree .none), (.int .i64 a_a), (.int .i64 a_b)] [] (.int .i64 r) [] := by
  refine Ap (fn := Try.f37) Try.func37 rfl rfl (by kernel_rfl) (fun Γ hn hΓ => ?_); have hq : RgQ Try.prog Γ 32 [] := ⟨hn, mix, hΓ⟩; unfold Fj at h; refine As ⟨[(0, (Oa a_tree)), (1, (.int .i64 a_a)), (2, (.int .i64 a_b))], [], []⟩ hq ?_; obtain ⟨hc1, h⟩ := Ab h; refine B9 [] [] ⟨[(0, (Oa a_tree)), (1, (.int .i64 a_a)), (2, (.int .i64 a_b)), (7, (.vsl 11 ((a_tree.length : Int)).toNat))], [(11, .arr 1 4 (((a_tree.length : Int)).toNat) (fun i_ => AV.eraseAll (fun n_ => Ch n_ [11]) ((fun _ => [(.bool false)]) i_)))], []⟩ [(0 ≤ (a_tree.length : Int) ∧ (a_tree.length : Int) ≤ (a_tree.length : Int) ∧ (a_tree.length : Int) ≤ (room : Int))] hq ⟨hc1, trivial⟩ ?_; refine Af (Le.trans (Cw (st' := ⟨[(0, (Oa a_tree)), (1, (.int .i64 a_a)), (2, (.int .i64 a_b)), (7, (.vsl 11 ((a_tree.length : Int)).toNat))], [(11, .arr 1 4 (((a_tree.length : Int)).toNat) (fun i => eB ((Q226 a_tree).getD i false)))], []⟩) (TmpsLe.refl _) (.arr (fun k hk => Mf (e := eB) (d := false) (.cons (AVle.refl _) .nil) _ k (Ml hk)) .nil)) (B1 (congrArg (fun k_ : Nat => (⟨[(0, (Oa a_tree)), (1, (.int .i64 a_a)), (2, (.int .i64 a_b)), (7, (.vsl 11 k_))], [(11, .arr 1 4 k_ (fun i => eB ((Q226 a_tree).getD i false)))], []⟩ : St)) (show ((a_tree.length : Int)).toNat = (Q226 a_tree).length from (List.length_replicate ..).symm)))) ?_; refine Ae ?_; refine As ⟨[(0, (Oa a_tree)), (2, (.int .i64 a_b)), (7, (.vsl 11 (Q226 a_tree).length)), (8, (.int .i64 a_a))], [(11, .arr 1 4 ((Q226 a_tree).length) (fun i => eB ((Q226 a_tree).getD i false)))], []⟩ hq ?_; refine Ak ?_; refine Af (st' := (fun ((i2, l3) : (Int × List (Bool))) => (⟨(Q228 a_tree a_b l3 i2), [(11, .arr 1 4 l3.length (fun i => eB (l3.getD i false)))], []⟩ : St)) (a_a, (Q226 a_tree))) (Le.refl _ _) ?_; obtain ⟨x7, hx7, h⟩ := bind_some h; refine Bf (fun ((i2, l3) : (Int × List (Bool))) => (⟨(Q228 a_tree a_b l3 i2), [(11, .arr 1 4 l3.length (fun i => eB (l3.getD i false)))], []⟩ : St)) _ (fun (l4 : List (Bool)) (e : Exit) (st : St) => e = (.exit 0) ∧ Le Γ st (⟨[(0, (Oa a_tree)), (2, (.int .i64 a_b)), (7, (.vsl 11 l4.length))], [(11, .arr 1 4 l4.length (fun i => eB (l4.getD i false)))], []⟩ : St)) ?_ hx7 ?_
  · rintro ⟨i2, l3⟩ y h; unfold C4 at h; refine Ae ?_; refine As ⟨[(0, (Oa a_tree)), (2, (.int .i64 a_b)), (7, (.vsl 11 l3.length)), (8, (.int .i64 i2)), (14, (.bool ((i2 : Int) != (-1 : Int))))], [(11, .arr 1 4 l3.length (fun i => eB (l3.getD i false)))], []⟩ hq ?_; refine Ai ((i2 : Int) != (-1 : Int)) (by kernel_rfl) (fun hb => ?_) (fun hb => ?_)
    · replace h := Ar hb h; clear hb; refine Ag ?_; refine Aa ?_; refine Ae ?_; refine Ak ?_; obtain ⟨hc5, h⟩ := Ab h; refine rg [] [] ⟨(Q228 a_tree a_b l3 i2), [(11, .arr 1 4 l3.length (fun i_ => AV.eraseAll (fun n_ => Ch n_ [11]) ((Fc (fun i => eB (l3.getD i false)) (i2).toNat 0 [(.bool true)]) i_)))], []⟩ [(A8 i2 l3.length), (l3.length = l3.length)] hq ⟨hc5, rfl, trivial⟩ ?_; refine An ?_; refine Aa ?_; refine Af (Le.trans (Cw (st' := ⟨(Q228 a_tree a_b l3 i2), [(11, .arr 1 4 l3.length (fun i => eB ((l3.set (i2).toNat true).getD i false)))], []⟩) (TmpsLe.refl _) (.arr (Bx (List.length_set ..).symm (fun k_ hk_ => (congrArg (AV.eraseAll (fun n_ => Ch n_ [11])) ((Gs (fun _ _ => rfl) (Hg hc5) rfl) k_ hk_)).trans rfl)) .nil)) (B1 (congrArg (fun k_ : Nat => (⟨[(0, (Oa a_tree)), (2, (.int .i64 a_b)), (7, (.vsl 11 k_)), (8, (.int .i64 i2))], [(11, .arr 1 4 k_ (fun i => eB ((l3.set (i2).toNat true).getD i false)))], []⟩ : St)) (show l3.length = (l3.set (i2).toNat true).length from (List.length_set ..).symm)))) ?_; obtain ⟨hc6, h⟩ := Ab h; refine rg [] [] ⟨[(0, (Oa a_tree)), (2, (.int .i64 a_b)), (7, (.vsl 11 (l3.set (i2).toNat true).length)), (8, (.int .i64 (a_tree.getD (i2).toNat (0 : Int))))], [(11, .arr 1 4 ((l3.set (i2).toNat true).length) (fun i => eB ((l3.set (i2).toNat true).getD i false)))], []⟩ [(A8 i2 a_tree.length)] hq ⟨hc6, trivial⟩ ?_; obtain rfl := OI h; exact ⟨rfl, Le.refl _ _⟩
    · replace h := Au hb h; clear hb; refine Bg ?_; refine A4 ?_; obtain rfl := OI h; exact ⟨(by intro hh; cases hh), rfl, E3 [0, 2, 7] [11] hq⟩
  · clear hx7; rintro e st' ⟨rfl, hl8⟩; refine A0 ?_; refine Aa ?_; refine Af hl8 ?_; refine Ae ?_; refine Ak ?_; refine Af (st' := (fun (i9 : Int) => (⟨[(0, (Oa a_tree)), (2, (.int .i64 i9)), (7, (.vsl 11 x7.length))], (Q227 x7), []⟩ : St)) a_b) (Le.refl _ _) ?_; obtain ⟨x13, hx13, h⟩ := bind_some h; refine Bf (fun (i9 : Int) => (⟨[(0, (Oa a_tree)), (2, (.int .i64 i9)), (7, (.vsl 11 x7.length))], (Q227 x7), []⟩ : St)) _ (fun (i10 : Int) (e : Exit) (st : St) => e = (.exit 2) ∧ Le Γ st (⟨[(2, (.int .i64 i10))], [], []⟩ : St)) ?_ hx13 ?_
    · intro i9 y h; unfold C6 at h; refine Ae ?_; obtain ⟨hc11, h⟩ := Ab h; refine B9 [] [] ⟨[(0, (Oa a_tree)), (2, (.int .i64 i9)), (7, (.vsl 11 x7.length)), (26, (.bool (!(x7.getD (i9).toNat false))))], (Q227 x7), []⟩ [(A8 i9 x7.length), (x7.length = x7.length)] hq ⟨hc11, rfl, trivial⟩ ?_; refine Ai (!(x7.getD (i9).toNat false)) (by kernel_rfl) (fun hb => ?_) (fun hb => ?_)
      · replace h := Ar hb h; clear hb; refine Ag ?_; refine Aa ?_; refine Ak ?_; obtain ⟨hc12, h⟩ := Ab h; refine rg [] [] ⟨[(0, (Oa a_tree)), (2, (.int .i64 (a_tree.getD (i9).toNat (0 : Int)))), (7, (.vsl 11 x7.length))], (Q227 x7), []⟩ [(A8 i9 a_tree.length)] hq ⟨hc12, trivial⟩ ?_; refine An ?_; obtain rfl := OI h; exact ⟨rfl, Le.refl _ _⟩
      · replace h := Au hb h; clear hb; refine Bg ?_; refine A4 ?_; obtain rfl := OI h; exact ⟨(by intro hh; cases hh), rfl, E3 [2] [] hq⟩
    · clear hx13; rintro e st' ⟨rfl, hl14⟩; refine A0 ?_; refine Aa ?_; refine Af hl14 ?_; refine As ⟨[(6, (.int .i64 x13))], [], []⟩ hq ?_; refine Aq ?_; obtain rfl := OI h; exact ⟨.inl rfl, [], by kernel_rfl⟩
def Gd (a_tree : List (Int)) (a_a : Int) (a_b : Int) : Option Bool :=
  ((Hn a_tree a_a a_b).bind fun x1 => ((bif (x1 == true) then Fj a_tree a_a a_b else some (0 : Int)).bind fun x2 => (some (bif x1 then ((x2 : Int) == a_a) else false))))
theorem Qc (a_tree : List (Int)) (a_a : Int) (a_b : Int) (r : Bool) (h : Gd a_tree a_a a_b = some r) : Spec Try.prog 20 [(AV.list 1 Ac (0 : Int) a_tree .none), (.int .i64 a_a), (.int .i64 a_b)] [] (.bool r) [] := by
  refine Ap (fn := Try.f20) Try.func20 rfl rfl (by kernel_rfl) (fun Γ hn hΓ => ?_); have hq : RgQ Try.prog Γ 19 [] := ⟨hn, mix, hΓ⟩; unfold Gd at h; refine As ⟨[(0, (AV.list 1 Ac (0 : Int) a_tree .none)), (1, (.int .i64 a_a)), (2, (.int .i64 a_b))], [], []⟩ hq ?_; obtain ⟨x1, hx1, h⟩ := bind_some h; obtain ⟨x2, hx2, h⟩ := bind_some h; refine B9 [⟨[], [], (.bool x1), [], []⟩, ⟨[], [], (.int .i64 x2), [], []⟩] [] ⟨[(6, (.bool (bif x1 then ((x2 : Int) == a_a) else false)))], [], []⟩ [(Spec Try.prog 36 [(AV.list 1 Ac (0 : Int) a_tree .none), (.int .i64 a_a), (.int .i64 a_b)] [] (.bool x1) []), ((x1 == true) = true → (x1 == true) = true), ((x1 == true) = true → (x1 == true) = true), ((x1 == true) = true → (x1 == true) = true), ((x1 == true) = true → (Spec Try.prog 37 [(AV.list 1 Ac (0 : Int) a_tree .none), (.int .i64 a_a), (.int .i64 a_b)] [] (.int .i64 x2) [])), ((x1 == true) = true → (x1 == true) = true), ((x1 == true) = true → (x1 == true) = true), (x1 = true → (x1 == true) = true)] hq ⟨(Wc a_tree a_a a_b x1 hx1), (fun hg => hg), (fun hg => hg), (fun hg => hg), (fun hg => (Y1 a_tree a_a a_b x2 (Ar hg hx2))), (fun hg => hg), (fun hg => hg), gT, trivial⟩ ?_; refine Aq ?_; obtain rfl := OI h; exact ⟨.inl rfl, [], by kernel_rfl⟩
def Et (a_p : Int) (a_w0 : List (Bool)) : Option (Bool × List (Bool)) :=
  (Ci (A8 a_p a_w0.length) (some ((a_w0.getD (a_p).toNat false), a_w0)))
theorem Om (a_p : Int) (a_w0 : List (Bool)) (r : (Bool × List (Bool))) (h : Et a_p a_w0 = some r) : Spec Try.prog 27 [(.int .i64 a_p), (.ptr 30000 0)] [(30000, .row 40 [(AV.list 1 eB false a_w0 .none)])] (.bool r.1) [(30000, .row 40 [(AV.list 1 eB false r.2 .none)])] := by
  refine Ap (fn := Try.f27) Try.func27 rfl rfl (by kernel_rfl) (fun Γ hn hΓ => ?_); have hq : RgQ Try.prog Γ 8 [(30000, .row 40 [(AV.list 1 eB false a_w0 .none)])] := ⟨hn, mix, hΓ⟩; unfold Et at h; refine As ⟨[(0, (.int .i64 a_p)), (1, (.ptr 30000 0))], [(30000, .row 40 [(AV.list 1 eB false a_w0 .none)])], []⟩ hq ?_; obtain ⟨hc1, h⟩ := Ab h; refine B9 [] [] ⟨[(3, (.bool (a_w0.getD (a_p).toNat false)))], [(30000, .row 40 [(AV.list 1 eB false a_w0 .none)])], []⟩ [(A8 a_p a_w0.length)] hq ⟨hc1, trivial⟩ ?_; refine Aq ?_; obtain rfl := OI h; exact ⟨.inl rfl, [(30000, 30000)], by kernel_rfl⟩
def Bm (a_s : List (Int)) : (Int × List (Bool)) → Option (LR (Int × List (Bool)) (List (Bool) ⊕ (Int × List (Bool)))) :=
  fun ((i1, l2) : (Int × List (Bool))) => (bif (decide ((i1 : Int) < (a_s.length : Int))) then (Ci (A8 i1 a_s.length) ((Et (a_s.getD (i1).toNat (0 : Int)) l2).bind fun x5 => (bif x5.1 then (some (.done (.inr (i1, x5.2)))) else (some (.next ((Bi (i1 + (1 : Int))), x5.2)))))) else (some (.done (.inl l2))))
def Xi : AV := (.clo 27 [] [(.ptr 30000 0)])
def Q233 (a_s : List (Int)) : AV := (.int .i64 (a_s.length : Int))
def Ye (a_s : List (Int)) : AV := (AV.list 1 Ac (0 : Int) a_s .none)
def Q231 (l2 : List (Bool)) : List (Nat × Own) := [(30000, .row 40 [(AV.list 1 eB false l2 .none)])]
def Q230 (x5 : (Bool × List (Bool))) : List (Nat × Own) := [(30000, .row 40 [(AV.list 1 eB false x5.2 .none)])]
def Cp (a_s : List (Int)) (a_w0 : List (Bool)) : Option (Int × List (Bool)) :=
  ((Ay (S := (Int × List (Bool))) (X := (List (Bool) ⊕ (Int × List (Bool)))) (Bm a_s) ((0 : Int), a_w0)).bind (fun x6 => (match x6 with | (.inl l3) => (some ((-1 : Int), l3)) | (.inr r8) => (some r8))))
theorem H0 (a_s : List (Int)) (a_w0 : List (Bool)) (r : (Int × List (Bool))) (h : Cp a_s a_w0 = some r) : Spec Try.prog 46 [(AV.list 1 Ac (0 : Int) a_s .none), (.clo 27 [] [(.ptr 30000 0)])] [(30000, .row 40 [(AV.list 1 eB false a_w0 .none)])] (.int .i64 r.1) [(30000, .row 40 [(AV.list 1 eB false r.2 .none)])] := by
  refine Ap (fn := Try.f46) Try.func46 rfl rfl (by kernel_rfl) (fun Γ hn hΓ => ?_); have hq : RgQ Try.prog Γ 19 [(30000, .row 40 [(AV.list 1 eB false a_w0 .none)])] := ⟨hn, mix, hΓ⟩; unfold Cp at h; refine As ⟨[(0, (Ye a_s)), (1, Xi)], [(30000, .row 40 [(AV.list 1 eB false a_w0 .none)])], []⟩ hq ?_; refine Ae ?_; refine As ⟨[(0, (Ye a_s)), (1, Xi), (7, (Q233 a_s)), (8, (.int .i64 (0 : Int)))], [(30000, .row 40 [(AV.list 1 eB false a_w0 .none)])], []⟩ hq ?_; refine Ak ?_; refine Af (st' := (fun ((i1, l2) : (Int × List (Bool))) => (⟨[(0, (Ye a_s)), (1, Xi), (7, (Q233 a_s)), (8, (.int .i64 i1))], (Q231 l2), []⟩ : St)) ((0 : Int), a_w0)) (Le.refl _ _) ?_; obtain ⟨x6, hx6, h⟩ := bind_some h; refine Bf (fun ((i1, l2) : (Int × List (Bool))) => (⟨[(0, (Ye a_s)), (1, Xi), (7, (Q233 a_s)), (8, (.int .i64 i1))], (Q231 l2), []⟩ : St)) _ (fun (x_ : (List (Bool) ⊕ (Int × List (Bool)))) (e : Exit) (st : St) => match x_ with | (.inl l3) => e = (.exit 0) ∧ Le Γ st (⟨[], [(30000, .row 40 [(AV.list 1 eB false l3 .none)])], []⟩ : St) | (.inr r_) => e = .ret ∧ Kb Try.prog Try.f46.results.toList [(30000, .row 40 [(AV.list 1 eB false a_w0 .none)])] (.int .i64 r_.1) [(30000, .row 40 [(AV.list 1 eB false r_.2 .none)])] e st) ?_ hx6 ?_
  · rintro ⟨i1, l2⟩ y h; unfold Bm at h; refine As ⟨[(0, (Ye a_s)), (1, Xi), (7, (Q233 a_s)), (8, (.int .i64 i1)), (9, (.bool (decide ((i1 : Int) < (a_s.length : Int)))))], (Q231 l2), []⟩ hq ?_; refine Ae ?_; refine Ai (decide ((i1 : Int) < (a_s.length : Int))) (by kernel_rfl) (fun hb => ?_) (fun hb => ?_)
    · replace h := Ar hb h; clear hb; refine Ag ?_; refine Aa ?_; refine Ae ?_; refine Ak ?_; refine As ⟨[(0, (Ye a_s)), (1, Xi), (5, (.int .i64 i1)), (7, (Q233 a_s)), (8, (.int .i64 i1))], (Q231 l2), []⟩ hq ?_; obtain ⟨hc4, h⟩ := Ab h; obtain ⟨x5, hx5, h⟩ := bind_some h; refine B9 [⟨[(30000, 30000)], [], (.bool x5.1), (Q230 x5), []⟩] [] ⟨[(0, (Ye a_s)), (1, Xi), (5, (.int .i64 i1)), (7, (Q233 a_s)), (8, (.int .i64 i1)), (16, (.bool x5.1))], (Q230 x5), []⟩ [(A8 i1 a_s.length), (Spec Try.prog 27 [(.int .i64 (a_s.getD (i1).toNat (0 : Int))), (.ptr 30000 0)] (Q231 l2) (.bool x5.1) (Q230 x5))] hq ⟨hc4, (Om (a_s.getD (i1).toNat (0 : Int)) l2 x5 hx5), trivial⟩ ?_; refine Ai x5.1 (by kernel_rfl) (fun hb => ?_) (fun hb => ?_)
      · replace h := Ar hb h; clear hb; refine As ⟨[(4, (.int .i64 i1))], (Q230 x5), []⟩ hq ?_; refine Aq ?_; refine Bl ?_; refine Aw ?_; obtain rfl := OI h; exact ⟨(by intro hh; cases hh), rfl, ⟨.inl rfl, [(30000, 30000)], by kernel_rfl⟩⟩
      · replace h := Au hb h; clear hb; refine Ag ?_; refine An ?_; refine Aa ?_; refine M8 ⟨[(0, (Ye a_s)), (1, Xi), (7, (Q233 a_s)), (8, (.int .i64 (Bi (i1 + (1 : Int)))))], (Q230 x5), []⟩ hq ?_; obtain rfl := OI h; exact ⟨rfl, Le.refl _ _⟩
    · replace h := Au hb h; clear hb; refine Bg ?_; refine A4 ?_; obtain rfl := OI h; exact ⟨(by intro hh; cases hh), rfl, E3 [] [30000] hq⟩
  · clear hx6; rcases x6 with l3 | r8
    · rintro e st' ⟨rfl, hl7⟩; refine A0 ?_; refine Aa ?_; refine Af hl7 ?_; refine As ⟨[(4, (.int .i64 (-1 : Int)))], [(30000, .row 40 [(AV.list 1 eB false l3 .none)])], []⟩ hq ?_; refine Aq ?_; obtain rfl := OI h; exact ⟨.inl rfl, [(30000, 30000)], by kernel_rfl⟩
    · rintro e st' ⟨rfl, hk⟩; refine Bl ?_; refine Aw ?_; obtain rfl := OI h; exact hk
def Cf (a_s : List (Int)) (a_w0 : List (Bool)) : Option (Bool × List (Bool)) :=
  ((Cp a_s a_w0).bind fun x1 => (some ((decide (((0 : Int) : Int) ≤ x1.1)), x1.2)))
theorem G3 (a_s : List (Int)) (a_w0 : List (Bool)) (r : (Bool × List (Bool))) (h : Cf a_s a_w0 = some r) : Spec Try.prog 26 [(AV.list 1 Ac (0 : Int) a_s .none), (.clo 27 [] [(.ptr 30000 0)])] [(30000, .row 40 [(AV.list 1 eB false a_w0 .none)])] (.bool r.1) [(30000, .row 40 [(AV.list 1 eB false r.2 .none)])] := by
  refine Ap (fn := Try.f26) Try.func26 rfl rfl (by kernel_rfl) (fun Γ hn hΓ => ?_); have hq : RgQ Try.prog Γ 9 [(30000, .row 40 [(AV.list 1 eB false a_w0 .none)])] := ⟨hn, mix, hΓ⟩; unfold Cf at h; refine As ⟨[(0, (AV.list 1 Ac (0 : Int) a_s .none)), (1, (.clo 27 [] [(.ptr 30000 0)]))], [(30000, .row 40 [(AV.list 1 eB false a_w0 .none)])], []⟩ hq ?_; obtain ⟨x1, hx1, h⟩ := bind_some h; refine B9 [⟨[(30000, 30000)], [], (.int .i64 x1.1), [(30000, .row 40 [(AV.list 1 eB false x1.2 .none)])], []⟩] [] ⟨[(4, (.bool (decide (((0 : Int) : Int) ≤ x1.1))))], [(30000, .row 40 [(AV.list 1 eB false x1.2 .none)])], []⟩ [(Spec Try.prog 46 [(AV.list 1 Ac (0 : Int) a_s .none), (.clo 27 [] [(.ptr 30000 0)])] [(30000, .row 40 [(AV.list 1 eB false a_w0 .none)])] (.int .i64 x1.1) [(30000, .row 40 [(AV.list 1 eB false x1.2 .none)])])] hq ⟨(H0 a_s a_w0 x1 hx1), trivial⟩ ?_; refine Aq ?_; obtain rfl := OI h; exact ⟨.inl rfl, [(30000, 30000)], by kernel_rfl⟩
def C2 (a_p1 : Int) (x1 : List (Int)) : (Int × List (Bool)) → Option (LR (Int × List (Bool)) (List (Bool))) :=
  fun ((i4, l5) : (Int × List (Bool))) => (bif (decide ((i4 : Int) < ((List.replicate ((x1.length : Int)).toNat false).length : Int))) then ((Gd x1 a_p1 i4).bind fun x7 => (Ci (A8 i4 l5.length) (some (.next ((Bi (i4 + (1 : Int))), (l5.set (i4).toNat x7)))))) else (some (.done l5)))
def Cm (a_g : Aj) (a_p1 : Int) : (List (Int) × Int × List (Bool)) → Option (LR (List (Int) × Int × List (Bool)) (List (Int))) :=
  fun ((l11, i12, l13) : (List (Int) × Int × List (Bool))) => (bif (decide ((i12 : Int) < (a_g.Pred.length : Int))) then (Option.bind (α := (List (Int) × List (Bool))) (Ci (A8 i12 a_g.Pred.length) (Ci ((((i12 : Int) == a_p1) == false) = true → (A8 i12 l13.length)) ((bif ((bif ((i12 : Int) == a_p1) then true else (!(l13.getD (i12).toNat false))) == true) then Cf (a_g.Pred.getD (i12).toNat []) l13 else some (false, [])).bind fun x19 => (bif (bif (bif ((i12 : Int) == a_p1) then true else (!(l13.getD (i12).toNat false))) then x19.1 else false) then (Ci (l11.length + ([i12] : List (Int)).length ≤ room) (some (((l11 ++ ([i12] : List (Int))), (bif ((bif ((i12 : Int) == a_p1) then true else (!(l13.getD (i12).toNat false))) == true) then x19.2 else l13))))) else (some ((l11, (bif ((bif ((i12 : Int) == a_p1) then true else (!(l13.getD (i12).toNat false))) == true) then x19.2 else l13)))))))) (fun x21 => (match x21 with | (l15, l16) => (some (.next (l15, (Bi (i12 + (1 : Int))), l16)))))) else (some (.done l11)))
def Hl (a_p1 : Int) : AV := (.int .i64 a_p1)
def Qm (i12 : Int) := ([i12] : List (Int))
def Tv (i12 : Int) (a_p1 : Int) := (((i12 : Int) == a_p1) == false)
def Ql (a_g : Aj) : AV := (.int .i64 (a_g.Pred.length : Int))
def O8 (a_g : Aj) : AV := (AV.list 1 eLI64 [] a_g.Pred .none)
def Xf (x1 : List (Int)) : AV := (AV.list 1 Ac (0 : Int) x1 (.own 13))
def Zl (l11 : List (Int)) : AV := (AV.list 1 Ac (0 : Int) l11 (.own 5008))
def Qo (x1 : List (Int)) := (List.replicate ((x1.length : Int)).toNat false)
def Tz : AV := (AV.list 1 Ac (0 : Int) ([] : List Int) .exact)
def Oh (a_g : Aj) : List AV := [(AV.list 1 eLI64 [] a_g.Succ .none), (O8 a_g)]
def Nt (i12 : Int) (a_p1 : Int) (l13 : List (Bool)) := (bif ((i12 : Int) == a_p1) then true else (!(l13.getD (i12).toNat false)))
def Q239 (l13 : List (Bool)) (l11 : List (Int)) : List (Nat × Own) := [(6, .row 40 [(AV.list 1 eB false l13 .none)]), (5008, .tok 1 3 l11.length)]
def Q243 (x1 : List (Int)) := (fun i => eB ((Qo x1).getD i false))
def Q242 (a_p1 : Int) (x1 : List (Int)) : List (Nat × AV) := [(1, (Hl a_p1)), (2, (.ptr 2 0)), (5, (Xf x1)), (6, (.ptr 6 0))]
def Q251 (a_p1 : Int) (a_g : Aj) : List (Nat × AV) := [(1, (Hl a_p1)), (6, (.ptr 6 0)), (8, Tz), (36, (O8 a_g)), (37, (Ql a_g)), (38, (.int .i64 (0 : Int)))]
def Q245 := (⟨[(4, (AV.list 1 Ac (0 : Int) ([] : List Int) (.own 6004)))], [(6004, .tok 1 3 (([] : List Int).length))], []⟩ : St)
def Q246 (a_g : Aj) (l5 : List (Bool)) (x1 : List (Int)) : List (Nat × Own) := [(2, .row 26 (Oh a_g)), (6, .row 40 [(.vsl 21 l5.length)]), (13, .tok 1 3 x1.length), (21, .arr 1 4 l5.length (fun i => eB (l5.getD i false)))]
def Q236 (a_p1 : Int) (x1 : List (Int)) (i4 : Int) : List (Nat × AV) := [(1, (Hl a_p1)), (2, (.ptr 2 0)), (5, (Xf x1)), (6, (.ptr 6 0)), (23, (.int .i64 ((Qo x1).length : Int))), (24, (.int .i64 i4))]
def Eu (a_g : Aj) (a_p1 : Int) : Option (List (Int)) :=
  ((Fm a_g (0 : Int)).bind fun x1 => ((Gd x1 a_p1 a_p1).bind fun x2 => (bif (!x2) then (some ([] : List Int)) else (Ci (0 ≤ (x1.length : Int) ∧ (x1.length : Int) ≤ (x1.length : Int) ∧ (x1.length : Int) ≤ (room : Int)) ((Ay (S := (Int × List (Bool))) (X := List (Bool)) (C2 a_p1 x1) ((0 : Int), (List.replicate ((x1.length : Int)).toNat false))).bind (fun x9 => (((Ay (S := (List (Int) × Int × List (Bool))) (X := List (Int)) (Cm a_g a_p1) (([] : List Int), (0 : Int), x9)).bind (fun x23 => ((some x23)))))))))))
theorem Qr (a_g : Aj) (a_p1 : Int) (r : List (Int)) (h : Eu a_g a_p1 = some r) : Spec Try.prog 13 [(.agg (A7 a_g)), (.int .i64 a_p1)] [] (AV.list 1 Ac (0 : Int) r (.own 20000)) [(20000, .tok 1 3 r.length)] := by
  refine Ap (fn := Try.f13) Try.func13 rfl rfl (by kernel_rfl) (fun Γ hn hΓ => ?_); have hq : RgQ Try.prog Γ 65 [] := ⟨hn, mix, hΓ⟩; unfold Eu at h; refine B9 [] [(4, Tz)] ⟨[(1, (Hl a_p1)), (2, (.ptr 2 0))], [(2, .row 26 (Oh a_g))], []⟩ [(AVle (.slice 0 0 (fun _ => []) .exact) Tz)] hq ⟨Di, trivial⟩ ?_; obtain ⟨x1, hx1, h⟩ := bind_some h; refine B9 [⟨[], [(20000, 13)], (AV.list 1 Ac (0 : Int) x1 (.own 20000)), [(20000, .tok 1 3 x1.length)], []⟩] [] ⟨[(1, (Hl a_p1)), (2, (.ptr 2 0)), (5, (Xf x1))], [(2, .row 26 (Oh a_g)), (13, .tok 1 3 x1.length)], []⟩ [(Spec Try.prog 19 [(.agg (A7 a_g)), (.int .i64 (0 : Int))] [] (AV.list 1 Ac (0 : Int) x1 (.own 20000)) [(20000, .tok 1 3 x1.length)])] hq ⟨(P3 a_g (0 : Int) x1 hx1), trivial⟩ ?_; refine Ae ?_; obtain ⟨x2, hx2, h⟩ := bind_some h; refine B9 [⟨[], [], (.bool x2), [], []⟩] [] ⟨[(1, (Hl a_p1)), (2, (.ptr 2 0)), (5, (Xf x1)), (18, (.bool (!x2)))], [(2, .row 26 (Oh a_g)), (13, .tok 1 3 x1.length)], []⟩ [(Spec Try.prog 20 [(AV.list 1 Ac (0 : Int) x1 .none), (Hl a_p1), (Hl a_p1)] [] (.bool x2) [])] hq ⟨(Qc x1 a_p1 a_p1 x2 hx2), trivial⟩ ?_; refine Ai (!x2) (by kernel_rfl) (fun hb => ?_) (fun hb => ?_)
  · replace h := Ar hb h; clear hb; refine B9 [] [(4, Tz)] ⟨[(4, Tz)], [], []⟩ [(AVle (.slice 0 0 (fun _ => []) .exact) Tz)] hq ⟨Di, trivial⟩ ?_; refine Af (st' := Q245) (Le.trans (E3 (st' := ⟨[(4, Tz)], [], []⟩) [4] [] hq) (Le.trans (Lj (t := 4) (nm := 6004) (sz' := 1) (fun i => Ac (([] : List Int).getD i (0 : Int))) 3 rfl rfl (.inl ⟨rfl, rfl⟩) (fun h_ => absurd h_ (by decide))) (E3 (st' := Q245) [4] [6004] hq))) ?_; refine Aq ?_; refine Aw ?_; obtain rfl := OI h; exact ⟨.inl rfl, [(6004, 20000)], by kernel_rfl⟩
  · replace h := Au hb h; clear hb; refine Ag ?_; refine Aa ?_; obtain ⟨hc3, h⟩ := Ab h; refine B9 [] [] ⟨(Q242 a_p1 x1), [(2, .row 26 (Oh a_g)), (6, .row 40 [(.vsl 21 ((x1.length : Int)).toNat)]), (13, .tok 1 3 x1.length), (21, .arr 1 4 (((x1.length : Int)).toNat) (fun i_ => AV.eraseAll (fun n_ => Ch n_ [2, 6, 13, 21]) ((fun _ => [(.bool false)]) i_)))], []⟩ [(0 ≤ (x1.length : Int) ∧ (x1.length : Int) ≤ (x1.length : Int) ∧ (x1.length : Int) ≤ (room : Int))] hq ⟨hc3, trivial⟩ ?_; refine Af (Le.trans (Cw (st' := ⟨(Q242 a_p1 x1), [(2, .row 26 (Oh a_g)), (6, .row 40 [(.vsl 21 ((x1.length : Int)).toNat)]), (13, .tok 1 3 x1.length), (21, .arr 1 4 (((x1.length : Int)).toNat) (Q243 x1))], []⟩) (TmpsLe.refl _) (.same (.same (.same (.arr (fun k hk => Mf (e := eB) (d := false) (.cons (AVle.refl _) .nil) _ k (Ml hk)) .nil))))) (B1 (congrArg (fun k_ : Nat => (⟨(Q242 a_p1 x1), [(2, .row 26 (Oh a_g)), (6, .row 40 [(.vsl 21 k_)]), (13, .tok 1 3 x1.length), (21, .arr 1 4 k_ (Q243 x1))], []⟩ : St)) (show ((x1.length : Int)).toNat = (Qo x1).length from (List.length_replicate ..).symm)))) ?_; refine Ae ?_; refine As ⟨[(1, (Hl a_p1)), (2, (.ptr 2 0)), (5, (Xf x1)), (6, (.ptr 6 0)), (23, (.int .i64 ((Qo x1).length : Int))), (24, (.int .i64 (0 : Int)))], [(2, .row 26 (Oh a_g)), (6, .row 40 [(.vsl 21 (Qo x1).length)]), (13, .tok 1 3 x1.length), (21, .arr 1 4 ((Qo x1).length) (Q243 x1))], []⟩ hq ?_; refine Ak ?_; refine Af (st' := (fun ((i4, l5) : (Int × List (Bool))) => (⟨(Q236 a_p1 x1 i4), (Q246 a_g l5 x1), []⟩ : St)) ((0 : Int), (Qo x1))) (Le.refl _ _) ?_; obtain ⟨x9, hx9, h⟩ := bind_some h; refine Bf (fun ((i4, l5) : (Int × List (Bool))) => (⟨(Q236 a_p1 x1 i4), (Q246 a_g l5 x1), []⟩ : St)) _ (fun (l6 : List (Bool)) (e : Exit) (st : St) => e = (.exit 0) ∧ Le Γ st (⟨[(1, (Hl a_p1)), (2, (.ptr 2 0)), (6, (.ptr 6 0))], [(2, .row 26 (Oh a_g)), (6, .row 40 [(.vsl 21 l6.length)]), (21, .arr 1 4 l6.length (fun i => eB (l6.getD i false)))], []⟩ : St)) ?_ hx9 ?_
    · rintro ⟨i4, l5⟩ y h; unfold C2 at h; refine As ⟨[(1, (Hl a_p1)), (2, (.ptr 2 0)), (5, (Xf x1)), (6, (.ptr 6 0)), (23, (.int .i64 ((Qo x1).length : Int))), (24, (.int .i64 i4)), (25, (.bool (decide ((i4 : Int) < ((Qo x1).length : Int)))))], (Q246 a_g l5 x1), []⟩ hq ?_; refine Ae ?_; refine Ai (decide ((i4 : Int) < ((Qo x1).length : Int))) (by kernel_rfl) (fun hb => ?_) (fun hb => ?_)
      · replace h := Ar hb h; clear hb; refine Ag ?_; refine Aa ?_; refine Ae ?_; refine Ak ?_; refine As ⟨[(1, (Hl a_p1)), (2, (.ptr 2 0)), (5, (Xf x1)), (6, (.ptr 6 0)), (7, (.int .i64 i4)), (23, (.int .i64 ((Qo x1).length : Int))), (24, (.int .i64 i4))], (Q246 a_g l5 x1), []⟩ hq ?_; obtain ⟨x7, hx7, h⟩ := bind_some h; obtain ⟨hc8, h⟩ := Ab h; refine rg [⟨[], [], (.bool x7), [], []⟩] [] ⟨(Q236 a_p1 x1 i4), [(2, .row 26 (Oh a_g)), (6, .row 40 [(.vsl 21 l5.length)]), (13, .tok 1 3 x1.length), (21, .arr 1 4 l5.length (fun i_ => AV.eraseAll (fun n_ => Ch n_ [2, 6, 13, 21]) ((Fc (fun i => eB (l5.getD i false)) (i4).toNat 0 [(.bool x7)]) i_)))], []⟩ [(Spec Try.prog 20 [(AV.list 1 Ac (0 : Int) x1 .none), (Hl a_p1), (.int .i64 i4)] [] (.bool x7) []), (A8 i4 l5.length), (l5.length = l5.length)] hq ⟨(Qc x1 a_p1 i4 x7 hx7), hc8, rfl, trivial⟩ ?_; refine An ?_; refine Aa ?_; refine Af (Le.trans (Cw (st' := ⟨(Q236 a_p1 x1 i4), [(2, .row 26 (Oh a_g)), (6, .row 40 [(.vsl 21 l5.length)]), (13, .tok 1 3 x1.length), (21, .arr 1 4 l5.length (fun i => eB ((l5.set (i4).toNat x7).getD i false)))], []⟩) (TmpsLe.refl _) (.same (.same (.same (.arr (Bx (List.length_set ..).symm (fun k_ hk_ => (congrArg (AV.eraseAll (fun n_ => Ch n_ [2, 6, 13, 21])) ((Gs (fun _ _ => rfl) (Hg hc8) rfl) k_ hk_)).trans rfl)) .nil))))) (B1 (congrArg (fun k_ : Nat => (⟨(Q236 a_p1 x1 i4), [(2, .row 26 (Oh a_g)), (6, .row 40 [(.vsl 21 k_)]), (13, .tok 1 3 x1.length), (21, .arr 1 4 k_ (fun i => eB ((l5.set (i4).toNat x7).getD i false)))], []⟩ : St)) (show l5.length = (l5.set (i4).toNat x7).length from (List.length_set ..).symm)))) ?_; refine M8 ⟨[(1, (Hl a_p1)), (2, (.ptr 2 0)), (5, (Xf x1)), (6, (.ptr 6 0)), (23, (.int .i64 ((Qo x1).length : Int))), (24, (.int .i64 (Bi (i4 + (1 : Int)))))], [(2, .row 26 (Oh a_g)), (6, .row 40 [(.vsl 21 (l5.set (i4).toNat x7).length)]), (13, .tok 1 3 x1.length), (21, .arr 1 4 ((l5.set (i4).toNat x7).length) (fun i => eB ((l5.set (i4).toNat x7).getD i false)))], []⟩ hq ?_; obtain rfl := OI h; exact ⟨rfl, Le.refl _ _⟩
      · replace h := Au hb h; clear hb; refine Bg ?_; refine A4 ?_; obtain rfl := OI h; exact ⟨(by intro hh; cases hh), rfl, E3 [1, 2, 6] [2, 6, 21] hq⟩
    · clear hx9; rintro e st' ⟨rfl, hl10⟩; refine A0 ?_; refine Aa ?_; refine Af hl10 ?_; refine B9 [] [(8, Tz)] ⟨[(1, (Hl a_p1)), (2, (.ptr 2 0)), (6, (.ptr 6 0)), (8, Tz)], [(2, .row 26 (Oh a_g)), (6, .row 40 [(.vsl 21 x9.length)]), (21, .arr 1 4 x9.length (fun i => eB (x9.getD i false)))], []⟩ [(AVle (.slice 0 0 (fun _ => []) .exact) Tz)] hq ⟨Di, trivial⟩ ?_; refine Ae ?_; refine As ⟨(Q251 a_p1 a_g), [(6, .row 40 [(.vsl 21 x9.length)]), (21, .arr 1 4 x9.length (fun i => eB (x9.getD i false)))], []⟩ hq ?_; refine Ak ?_; refine Af (Le.trans (Fb (nm := 21) (sz := 1) (n := x9.length) (e := 4) (f := (fun i => eB (x9.getD i false))) (g := (fun i => eB (x9.getD i false))) rfl ⟨rfl, trivial⟩ (fun _ _ => rfl) (by rw [hΓ]; rfl)) (B1 (st' := ⟨(Q251 a_p1 a_g), [(6, .row 40 [(AV.list 1 eB false x9 (.own 21))]), (21, .tok 1 4 x9.length)], []⟩) (by kernel_rfl))) ?_; refine Af (st' := (fun ((l11, i12, l13) : (List (Int) × Int × List (Bool))) => (⟨[(1, (Hl a_p1)), (6, (.ptr 6 0)), (8, (Zl l11)), (36, (O8 a_g)), (37, (Ql a_g)), (38, (.int .i64 i12))], (Q239 l13 l11), []⟩ : St)) (([] : List Int), (0 : Int), x9)) (Le.trans (E3 (st' := ⟨(Q251 a_p1 a_g), [(6, .row 40 [(AV.list 1 eB false x9 .none)])], []⟩) [1, 6, 8, 36, 37, 38] [6] hq) (Le.trans (Lj (t := 8) (nm := 5008) (sz' := 1) (fun i => Ac (([] : List Int).getD i (0 : Int))) 3 rfl rfl (.inl ⟨rfl, rfl⟩) (fun h_ => absurd h_ (by decide))) (E3 (st' := ⟨[(1, (Hl a_p1)), (6, (.ptr 6 0)), (8, (AV.list 1 Ac (0 : Int) ([] : List Int) (.own 5008))), (36, (O8 a_g)), (37, (Ql a_g)), (38, (.int .i64 (0 : Int)))], [(6, .row 40 [(AV.list 1 eB false x9 .none)]), (5008, .tok 1 3 (([] : List Int).length))], []⟩) [1, 6, 8, 36, 37, 38] [6, 5008] hq))) ?_; obtain ⟨x23, hx23, h⟩ := bind_some h; refine Bf (fun ((l11, i12, l13) : (List (Int) × Int × List (Bool))) => (⟨[(1, (Hl a_p1)), (6, (.ptr 6 0)), (8, (Zl l11)), (36, (O8 a_g)), (37, (Ql a_g)), (38, (.int .i64 i12))], (Q239 l13 l11), []⟩ : St)) _ (fun (l14 : List (Int)) (e : Exit) (st : St) => e = (.exit 2) ∧ Le Γ st (⟨[(8, (AV.list 1 Ac (0 : Int) l14 (.own 5008)))], [(5008, .tok 1 3 l14.length)], []⟩ : St)) ?_ hx23 ?_
      · rintro ⟨l11, i12, l13⟩ y h; unfold Cm at h; refine As ⟨[(1, (Hl a_p1)), (6, (.ptr 6 0)), (8, (Zl l11)), (36, (O8 a_g)), (37, (Ql a_g)), (38, (.int .i64 i12)), (39, (.bool (decide ((i12 : Int) < (a_g.Pred.length : Int)))))], (Q239 l13 l11), []⟩ hq ?_; refine Ae ?_; refine Ai (decide ((i12 : Int) < (a_g.Pred.length : Int))) (by kernel_rfl) (fun hb => ?_) (fun hb => ?_)
        · replace h := Ar hb h; clear hb; refine Ag ?_; refine Aa ?_; refine Ae ?_; obtain ⟨x21, hx21, h⟩ := bind_some h; refine Gv (fun ((l15, l16) : (List (Int) × List (Bool))) (e : Exit) (st : St) => e = .normal ∧ Le Γ st (⟨[(1, (Hl a_p1)), (6, (.ptr 6 0)), (8, (AV.list 1 Ac (0 : Int) l15 (.own 5008))), (36, (O8 a_g)), (37, (Ql a_g)), (38, (.int .i64 i12))], [(6, .row 40 [(AV.list 1 eB false l16 .none)]), (5008, .tok 1 3 l15.length)], []⟩ : St)) hx21 ?_ ?_
          · clear h hx21; intro y h; refine Ak ?_; obtain ⟨hc17, h⟩ := Ab h; refine B9 [] [] ⟨[(1, (Hl a_p1)), (6, (.ptr 6 0)), (8, (Zl l11)), (9, (.int .i64 i12)), (10, (AV.list 1 Ac (0 : Int) (a_g.Pred.getD (i12).toNat []) .none)), (36, (O8 a_g)), (37, (Ql a_g)), (38, (.int .i64 i12))], (Q239 l13 l11), []⟩ [(A8 i12 a_g.Pred.length)] hq ⟨hc17, trivial⟩ ?_; obtain ⟨hc18, h⟩ := Ab h; refine B9 [] [] ⟨[(1, (Hl a_p1)), (6, (.ptr 6 0)), (8, (Zl l11)), (9, (.int .i64 i12)), (10, (AV.list 1 Ac (0 : Int) (a_g.Pred.getD (i12).toNat []) .none)), (11, (.bool (Nt i12 a_p1 l13))), (36, (O8 a_g)), (37, (Ql a_g)), (38, (.int .i64 i12))], (Q239 l13 l11), []⟩ [((Tv i12 a_p1) = true → (Tv i12 a_p1) = true), ((Tv i12 a_p1) = true → (Tv i12 a_p1) = true), ((Tv i12 a_p1) = true → (A8 i12 l13.length)), ((Tv i12 a_p1) = true → (Tv i12 a_p1) = true), ((Tv i12 a_p1) = true → (Tv i12 a_p1) = true), (((i12 : Int) == a_p1) = false → (Tv i12 a_p1) = true)] hq ⟨(fun hg => hg), (fun hg => hg), (fun hg => (hc18 hg)), (fun hg => hg), (fun hg => hg), gF, trivial⟩ ?_; obtain ⟨x19, hx19, h⟩ := bind_some h; refine B9 [⟨[(6, 30000)], [], (.bool x19.1), [(30000, .row 40 [(AV.list 1 eB false x19.2 .none)])], []⟩] [] ⟨[(1, (Hl a_p1)), (6, (.ptr 6 0)), (8, (Zl l11)), (9, (.int .i64 i12)), (36, (O8 a_g)), (37, (Ql a_g)), (38, (.int .i64 i12)), (58, (.bool (bif (Nt i12 a_p1 l13) then x19.1 else false)))], [(6, .row 40 [(.slice 1 (bif ((Nt i12 a_p1 l13) == true) then x19.2.length else l13.length) (fun i => bif ((Nt i12 a_p1 l13) == true) then eB (x19.2.getD i false) else eB (l13.getD i false)) .none)]), (5008, .tok 1 3 l11.length)], []⟩ [(((Nt i12 a_p1 l13) == true) = true → ((Nt i12 a_p1 l13) == true) = true), (((Nt i12 a_p1 l13) == true) = true → ((Nt i12 a_p1 l13) == true) = true), (((Nt i12 a_p1 l13) == true) = true → (Spec Try.prog 26 [(AV.list 1 Ac (0 : Int) (a_g.Pred.getD (i12).toNat []) .none), (.clo 27 [] [(.ptr 30000 0)])] [(30000, .row 40 [(AV.list 1 eB false l13 .none)])] (.bool x19.1) [(30000, .row 40 [(AV.list 1 eB false x19.2 .none)])])), ((Nt i12 a_p1 l13) = true → ((Nt i12 a_p1 l13) == true) = true)] hq ⟨(fun hg => hg), (fun hg => hg), (fun hg => (G3 (a_g.Pred.getD (i12).toNat []) l13 x19 (Ar hg hx19))), gT, trivial⟩ ?_; refine Af (Cw (st' := ⟨[(1, (Hl a_p1)), (6, (.ptr 6 0)), (8, (Zl l11)), (9, (.int .i64 i12)), (36, (O8 a_g)), (37, (Ql a_g)), (38, (.int .i64 i12)), (58, (.bool (bif (Nt i12 a_p1 l13) then x19.1 else false)))], [(6, .row 40 [(AV.list 1 eB false (bif ((Nt i12 a_p1 l13) == true) then x19.2 else l13) .none)]), (5008, .tok 1 3 l11.length)], []⟩) (TmpsLe.refl _) (.row (.cons Wr .nil) (.same .nil))) ?_; refine Ai (bif (Nt i12 a_p1 l13) then x19.1 else false) (by kernel_rfl) (fun hb => ?_) (fun hb => ?_)
            · replace h := Ar hb h; clear hb; obtain ⟨hc20, h⟩ := Ab h; refine rg [] [(61, (AV.list 1 Ac (0 : Int) (Qm i12) .exact)), (62, (AV.list 1 Ac (0 : Int) (l11 ++ (Qm i12)) (.own 5008)))] ⟨[(1, (Hl a_p1)), (6, (.ptr 6 0)), (8, (AV.list 1 Ac (0 : Int) (l11 ++ (Qm i12)) (.own 5008))), (36, (O8 a_g)), (37, (Ql a_g)), (38, (.int .i64 i12))], [(6, .row 40 [(AV.list 1 eB false (bif ((Nt i12 a_p1 l13) == true) then x19.2 else l13) .none)]), (5008, .tok 1 3 ((l11 ++ (Qm i12)).length))], []⟩ [(AVle (.slice 1 1 (fun i => ([[(.int .i64 i12)]] : List (List AV)).getD i []) .exact) (AV.list 1 Ac (0 : Int) (Qm i12) .exact)), (l11.length = l11.length), (l11.length + (Qm i12).length ≤ room), (AVle (.slice 1 (l11.length + (Qm i12).length) (E2 l11.length (fun i => Ac (l11.getD i (0 : Int))) (fun i => Ac ((Qm i12).getD i (0 : Int)))) (.own 5008)) (AV.list 1 Ac (0 : Int) (l11 ++ (Qm i12)) (.own 5008))), (l11.length + (Qm i12).length = (l11 ++ (Qm i12)).length)] hq ⟨(E4 rfl (fun i hi => Ea (e := Ac) (d := (0 : Int)) (Qm i12) i hi)), rfl, hc20, Pj, (D9 _ _), trivial⟩ ?_; refine An ?_; obtain rfl := OI h; exact ⟨rfl, Le.refl _ _⟩
            · replace h := Au hb h; clear hb; refine Ag ?_; refine An ?_; obtain rfl := OI h; exact ⟨rfl, E3 [1, 6, 8, 36, 37, 38] [6, 5008] hq⟩
          · clear hx21; rcases x21 with ⟨l15, l16⟩; rintro e st' ⟨rfl, hl22⟩; refine Aa ?_; refine Af hl22 ?_; refine M8 ⟨[(1, (Hl a_p1)), (6, (.ptr 6 0)), (8, (AV.list 1 Ac (0 : Int) l15 (.own 5008))), (36, (O8 a_g)), (37, (Ql a_g)), (38, (.int .i64 (Bi (i12 + (1 : Int)))))], [(6, .row 40 [(AV.list 1 eB false l16 .none)]), (5008, .tok 1 3 l15.length)], []⟩ hq ?_; obtain rfl := OI h; exact ⟨rfl, Le.refl _ _⟩
        · replace h := Au hb h; clear hb; refine Bg ?_; refine A4 ?_; obtain rfl := OI h; exact ⟨(by intro hh; cases hh), rfl, E3 [8] [5008] hq⟩
      · clear hx23; rintro e st' ⟨rfl, hl24⟩; refine A0 ?_; refine Aa ?_; refine Af hl24 ?_; refine As ⟨[(4, (AV.list 1 Ac (0 : Int) x23 (.own 5008)))], [(5008, .tok 1 3 x23.length)], []⟩ hq ?_; refine Aq ?_; obtain rfl := OI h; exact ⟨.inl rfl, [(5008, 20000)], by kernel_rfl⟩
def Bh (a_a : List (Int)) (a_b : List (Int)) : Int → Option (LR Int (Unit ⊕ Bool)) :=
  fun (i1 : Int) => (bif (decide ((i1 : Int) < (a_a.length : Int))) then (Ci (A8 i1 a_a.length) (Ci (A8 i1 a_b.length) (bif (((a_a.getD (i1).toNat (0 : Int)) : Int) != (a_b.getD (i1).toNat (0 : Int))) then (some (.done (.inr false))) else (some (.next (Bi (i1 + (1 : Int)))))))) else (some (.done (.inl ()))))
def Yn (a_a : List (Int)) : AV := (AV.list 1 Ac (0 : Int) a_a .none)
def Xq (a_b : List (Int)) : AV := (AV.list 1 Ac (0 : Int) a_b .none)
def Ce (a_a : List (Int)) (a_b : List (Int)) : Option Bool :=
  (bif (((a_a.length : Int) : Int) != (a_b.length : Int)) then (some false) else ((Ay (S := Int) (X := (Unit ⊕ Bool)) (Bh a_a a_b) (0 : Int)).bind (fun x4 => (match x4 with | (.inl _) => (some true) | (.inr r6) => (some r6)))))
theorem K3 (a_a : List (Int)) (a_b : List (Int)) (r : Bool) (h : Ce a_a a_b = some r) : Spec Try.prog 12 [(AV.list 1 Ac (0 : Int) a_a .none), (AV.list 1 Ac (0 : Int) a_b .none)] [] (.bool r) [] := by
  refine Ap (fn := Try.f12) Try.func12 rfl rfl (by kernel_rfl) (fun Γ hn hΓ => ?_); have hq : RgQ Try.prog Γ 26 [] := ⟨hn, mix, hΓ⟩; unfold Ce at h; refine As ⟨[(0, (Yn a_a)), (1, (Xq a_b))], [], []⟩ hq ?_; refine Ae ?_; refine As ⟨[(0, (Yn a_a)), (1, (Xq a_b)), (10, (.bool (((a_a.length : Int) : Int) != (a_b.length : Int))))], [], []⟩ hq ?_; refine Ai (((a_a.length : Int) : Int) != (a_b.length : Int)) (by kernel_rfl) (fun hb => ?_) (fun hb => ?_)
  · replace h := Ar hb h; clear hb; refine As ⟨[(4, (.bool false))], [], []⟩ hq ?_; refine Aq ?_; refine Aw ?_; obtain rfl := OI h; exact ⟨.inl rfl, [], by kernel_rfl⟩
  · replace h := Au hb h; clear hb; refine Ag ?_; refine Aa ?_; refine Ae ?_; refine As ⟨[(0, (Yn a_a)), (1, (Xq a_b)), (5, (.int .i64 (0 : Int)))], [], []⟩ hq ?_; refine Ak ?_; refine Af (st' := (fun (i1 : Int) => (⟨[(0, (Yn a_a)), (1, (Xq a_b)), (5, (.int .i64 i1))], [], []⟩ : St)) (0 : Int)) (Le.refl _ _) ?_; obtain ⟨x4, hx4, h⟩ := bind_some h; refine Bf (fun (i1 : Int) => (⟨[(0, (Yn a_a)), (1, (Xq a_b)), (5, (.int .i64 i1))], [], []⟩ : St)) _ (fun (x_ : (Unit ⊕ Bool)) (e : Exit) (st : St) => match x_ with | (.inl _) => e = (.exit 0) ∧ Le Γ st (⟨[], [], []⟩ : St) | (.inr r_) => e = .ret ∧ Kb Try.prog Try.f12.results.toList [] (.bool r_) [] e st) ?_ hx4 ?_
    · intro i1 y h; unfold Bh at h; refine Ae ?_; refine As ⟨[(0, (Yn a_a)), (1, (Xq a_b)), (5, (.int .i64 i1)), (14, (.bool (decide ((i1 : Int) < (a_a.length : Int)))))], [], []⟩ hq ?_; refine Ai (decide ((i1 : Int) < (a_a.length : Int))) (by kernel_rfl) (fun hb => ?_) (fun hb => ?_)
      · replace h := Ar hb h; clear hb; refine Ag ?_; refine Aa ?_; refine Ae ?_; refine Ak ?_; obtain ⟨hc2, h⟩ := Ab h; obtain ⟨hc3, h⟩ := Ab h; refine B9 [] [] ⟨[(0, (Yn a_a)), (1, (Xq a_b)), (5, (.int .i64 i1)), (25, (.bool (((a_a.getD (i1).toNat (0 : Int)) : Int) != (a_b.getD (i1).toNat (0 : Int)))))], [], []⟩ [(A8 i1 a_a.length), (A8 i1 a_b.length)] hq ⟨hc2, hc3, trivial⟩ ?_; refine Ai (((a_a.getD (i1).toNat (0 : Int)) : Int) != (a_b.getD (i1).toNat (0 : Int))) (by kernel_rfl) (fun hb => ?_) (fun hb => ?_)
        · replace h := Ar hb h; clear hb; refine As ⟨[(4, (.bool false))], [], []⟩ hq ?_; refine Aq ?_; refine Bl ?_; refine Aw ?_; obtain rfl := OI h; exact ⟨(by intro hh; cases hh), rfl, ⟨.inl rfl, [], by kernel_rfl⟩⟩
        · replace h := Au hb h; clear hb; refine Ag ?_; refine An ?_; refine Aa ?_; refine M8 ⟨[(0, (Yn a_a)), (1, (Xq a_b)), (5, (.int .i64 (Bi (i1 + (1 : Int)))))], [], []⟩ hq ?_; obtain rfl := OI h; exact ⟨rfl, Le.refl _ _⟩
      · replace h := Au hb h; clear hb; refine Bg ?_; refine A4 ?_; obtain rfl := OI h; exact ⟨(by intro hh; cases hh), rfl, E3 [] [] hq⟩
    · clear hx4; rcases x4 with _ | r6
      · rintro e st' ⟨rfl, hl5⟩; refine A0 ?_; refine Aa ?_; refine Af hl5 ?_; refine As ⟨[(4, (.bool true))], [], []⟩ hq ?_; refine Aq ?_; obtain rfl := OI h; exact ⟨.inl rfl, [], by kernel_rfl⟩
      · rintro e st' ⟨rfl, hk⟩; refine Bl ?_; refine Aw ?_; obtain rfl := OI h; exact hk
def Hp (a_x : Int) (x1 : List (TDep)) : (List (TDep) × Int) → Option (LR (List (TDep) × Int) (List (TDep))) :=
  fun ((l2, i3) : (List (TDep) × Int)) => (bif (decide ((i3 : Int) < (x1.length : Int))) then (Option.bind (α := List (TDep)) (Ci (A8 i3 x1.length) (bif (((x1.getD (i3).toNat (default : TDep)).Block : Int) == a_x) then (Ci (l2.length + ([(x1.getD (i3).toNat (default : TDep))] : List (TDep)).length ≤ room) (some ((l2 ++ ([(x1.getD (i3).toNat (default : TDep))] : List (TDep)))))) else (some (l2)))) (fun x8 => ((some (.next (x8, (Bi (i3 + (1 : Int))))))))) else (some (.done l2)))
def J3 := (default : TDep)
def Tl (x1 : List (TDep)) : AV := (.int .i64 (x1.length : Int))
def Q254 (x1 : List (TDep)) (i3 : Int) := (x1.getD (i3).toNat J3)
def Qp (x1 : List (TDep)) (i3 : Int) := ([(Q254 x1 i3)] : List (TDep))
def Tw (x1 : List (TDep)) : AV := (AV.list 3 Ba J3 x1 (.own 9))
def Q258 (l2 : List (TDep)) : AV := (AV.list 3 Ba J3 l2 (.own 5005))
def Q256 : AV := (AV.list 3 Ba J3 ([] : List TDep) .exact)
def Q260 (x1 : List (TDep)) (i3 : Int) : List AV := [(.int .i64 (Q254 x1 i3).Block), (.int .i64 (Q254 x1 i3).On), (.int .i64 (Q254 x1 i3).To)]
def Q261 (a_x : Int) (x1 : List (TDep)) := (⟨[(1, (.int .i64 a_x)), (5, Q256), (9, (Tw x1)), (10, (Tl x1)), (11, (.int .i64 (0 : Int)))], [(9, .tok 3 37 x1.length)], []⟩ : St)
def Jq (a_g : Aj) (a_x : Int) : Option (List (TDep)) :=
  ((Fy a_g).bind fun x1 => ((Ay (S := (List (TDep) × Int)) (X := List (TDep)) (Hp a_x x1) (([] : List TDep), (0 : Int))).bind (fun x10 => ((some x10)))))
theorem ok_dep_Of (a_g : Aj) (a_x : Int) (r : List (TDep)) (h : Jq a_g a_x = some r) : Spec Try.prog 16 [(.agg (A7 a_g)), (.int .i64 a_x)] [] (AV.list 3 Ba (default : TDep) r (.own 20000)) [(20000, .tok 3 37 r.length)] := by
  refine Ap (fn := Try.f16) Try.func16 rfl rfl (by kernel_rfl) (fun Γ hn hΓ => ?_); have hq : RgQ Try.prog Γ 25 [] := ⟨hn, mix, hΓ⟩; unfold Jq at h; refine B9 [] [(4, Q256)] ⟨[(1, (.int .i64 a_x)), (2, (.ptr 2 0))], [(2, .row 26 [(AV.list 1 eLI64 [] a_g.Succ .none), (AV.list 1 eLI64 [] a_g.Pred .none)])], []⟩ [(AVle (.slice 0 0 (fun _ => []) .exact) Q256)] hq ⟨Di, trivial⟩ ?_; refine B9 [] [(5, Q256)] ⟨[(1, (.int .i64 a_x)), (2, (.ptr 2 0)), (5, Q256)], [(2, .row 26 [(AV.list 1 eLI64 [] a_g.Succ .none), (AV.list 1 eLI64 [] a_g.Pred .none)])], []⟩ [(AVle (.slice 0 0 (fun _ => []) .exact) Q256)] hq ⟨Di, trivial⟩ ?_; refine Ae ?_; obtain ⟨x1, hx1, h⟩ := bind_some h; refine B9 [⟨[], [(20000, 9)], (AV.list 3 Ba J3 x1 (.own 20000)), [(20000, .tok 3 37 x1.length)], []⟩] [] (Q261 a_x x1) [(Spec Try.prog 10 [(.agg (A7 a_g))] [] (AV.list 3 Ba J3 x1 (.own 20000)) [(20000, .tok 3 37 x1.length)])] hq ⟨(Kq a_g x1 hx1), trivial⟩ ?_; refine Ak ?_; refine Af (st' := (fun ((l2, i3) : (List (TDep) × Int)) => (⟨[(1, (.int .i64 a_x)), (5, (Q258 l2)), (9, (Tw x1)), (10, (Tl x1)), (11, (.int .i64 i3))], [(9, .tok 3 37 x1.length), (5005, .tok 3 37 l2.length)], []⟩ : St)) (([] : List TDep), (0 : Int))) (Le.trans (E3 (st' := (Q261 a_x x1)) [1, 5, 9, 10, 11] [9] hq) (Le.trans (Lj (t := 5) (nm := 5005) (sz' := 3) (fun i => Ba (([] : List TDep).getD i J3)) 37 rfl rfl (.inl ⟨rfl, rfl⟩) (fun h_ => absurd h_ (by decide))) (E3 (st' := ⟨[(1, (.int .i64 a_x)), (5, (AV.list 3 Ba J3 ([] : List TDep) (.own 5005))), (9, (Tw x1)), (10, (Tl x1)), (11, (.int .i64 (0 : Int)))], [(9, .tok 3 37 x1.length), (5005, .tok 3 37 (([] : List TDep).length))], []⟩) [1, 5, 9, 10, 11] [9, 5005] hq))) ?_; obtain ⟨x10, hx10, h⟩ := bind_some h; refine Bf (fun ((l2, i3) : (List (TDep) × Int)) => (⟨[(1, (.int .i64 a_x)), (5, (Q258 l2)), (9, (Tw x1)), (10, (Tl x1)), (11, (.int .i64 i3))], [(9, .tok 3 37 x1.length), (5005, .tok 3 37 l2.length)], []⟩ : St)) _ (fun (l4 : List (TDep)) (e : Exit) (st : St) => e = (.exit 0) ∧ Le Γ st (⟨[(5, (AV.list 3 Ba J3 l4 (.own 5005)))], [(5005, .tok 3 37 l4.length)], []⟩ : St)) ?_ hx10 ?_
  · rintro ⟨l2, i3⟩ y h; unfold Hp at h; refine As ⟨[(1, (.int .i64 a_x)), (5, (Q258 l2)), (9, (Tw x1)), (10, (Tl x1)), (11, (.int .i64 i3)), (12, (.bool (decide ((i3 : Int) < (x1.length : Int)))))], [(9, .tok 3 37 x1.length), (5005, .tok 3 37 l2.length)], []⟩ hq ?_; refine Ae ?_; refine Ai (decide ((i3 : Int) < (x1.length : Int))) (by kernel_rfl) (fun hb => ?_) (fun hb => ?_)
    · replace h := Ar hb h; clear hb; refine Ag ?_; refine Aa ?_; refine Ae ?_; obtain ⟨x8, hx8, h⟩ := bind_some h; refine Gv (fun (l5 : List (TDep)) (e : Exit) (st : St) => e = .normal ∧ Le Γ st (⟨[(1, (.int .i64 a_x)), (5, (AV.list 3 Ba J3 l5 (.own 5005))), (9, (Tw x1)), (10, (Tl x1)), (11, (.int .i64 i3))], [(9, .tok 3 37 x1.length), (5005, .tok 3 37 l5.length)], []⟩ : St)) hx8 ?_ ?_
      · clear h hx8; intro y h; refine Ak ?_; obtain ⟨hc6, h⟩ := Ab h; refine B9 [] [] ⟨[(1, (.int .i64 a_x)), (5, (Q258 l2)), (7, (.ptr 7 0)), (9, (Tw x1)), (10, (Tl x1)), (11, (.int .i64 i3))], [(7, .row 37 (Q260 x1 i3)), (9, .tok 3 37 x1.length), (5005, .tok 3 37 l2.length)], []⟩ [(A8 i3 x1.length)] hq ⟨hc6, trivial⟩ ?_; refine As ⟨[(1, (.int .i64 a_x)), (5, (Q258 l2)), (7, (.ptr 7 0)), (9, (Tw x1)), (10, (Tl x1)), (11, (.int .i64 i3)), (18, (.bool (((Q254 x1 i3).Block : Int) == a_x)))], [(7, .row 37 (Q260 x1 i3)), (9, .tok 3 37 x1.length), (5005, .tok 3 37 l2.length)], []⟩ hq ?_; refine Ai (((Q254 x1 i3).Block : Int) == a_x) (by kernel_rfl) (fun hb => ?_) (fun hb => ?_)
        · replace h := Ar hb h; clear hb; obtain ⟨hc7, h⟩ := Ab h; refine rg [] [(21, (AV.list 3 Ba J3 (Qp x1 i3) .exact)), (22, (AV.list 3 Ba J3 (l2 ++ (Qp x1 i3)) (.own 5005)))] ⟨[(1, (.int .i64 a_x)), (5, (AV.list 3 Ba J3 (l2 ++ (Qp x1 i3)) (.own 5005))), (9, (Tw x1)), (10, (Tl x1)), (11, (.int .i64 i3))], [(9, .tok 3 37 x1.length), (5005, .tok 3 37 ((l2 ++ (Qp x1 i3)).length))], []⟩ [(AVle (.slice 3 1 (fun i => ([(Q260 x1 i3)] : List (List AV)).getD i []) .exact) (AV.list 3 Ba J3 (Qp x1 i3) .exact)), (l2.length = l2.length), (l2.length + (Qp x1 i3).length ≤ room), (AVle (.slice 3 (l2.length + (Qp x1 i3).length) (E2 l2.length (fun i => Ba (l2.getD i J3)) (fun i => Ba ((Qp x1 i3).getD i J3))) (.own 5005)) (AV.list 3 Ba J3 (l2 ++ (Qp x1 i3)) (.own 5005))), (l2.length + (Qp x1 i3).length = (l2 ++ (Qp x1 i3)).length)] hq ⟨(E4 rfl (fun i hi => Ea (e := Ba) (d := J3) (Qp x1 i3) i hi)), rfl, hc7, Pj, (D9 _ _), trivial⟩ ?_; refine An ?_; obtain rfl := OI h; exact ⟨rfl, Le.refl _ _⟩
        · replace h := Au hb h; clear hb; refine Ag ?_; refine An ?_; obtain rfl := OI h; exact ⟨rfl, E3 [1, 5, 9, 10, 11] [9, 5005] hq⟩
      · clear hx8; rintro e st' ⟨rfl, hl9⟩; refine Aa ?_; refine Af hl9 ?_; refine M8 ⟨[(1, (.int .i64 a_x)), (5, (AV.list 3 Ba J3 x8 (.own 5005))), (9, (Tw x1)), (10, (Tl x1)), (11, (.int .i64 (Bi (i3 + (1 : Int)))))], [(9, .tok 3 37 x1.length), (5005, .tok 3 37 x8.length)], []⟩ hq ?_; obtain rfl := OI h; exact ⟨rfl, Le.refl _ _⟩
    · replace h := Au hb h; clear hb; refine Bg ?_; refine A4 ?_; obtain rfl := OI h; exact ⟨(by intro hh; cases hh), rfl, E3 [5] [5005] hq⟩
  · clear hx10; rintro e st' ⟨rfl, hl11⟩; refine A0 ?_; refine Aa ?_; refine Af hl11 ?_; refine As ⟨[(4, (AV.list 3 Ba J3 x10 (.own 5005)))], [(5005, .tok 3 37 x10.length)], []⟩ hq ?_; refine Aq ?_; obtain rfl := OI h; exact ⟨.inl rfl, [(5005, 20000)], by kernel_rfl⟩
def Pi := ([(3 : Int)] : List (Int))
def Q268 (x1 : (Aj × Int)) := (((x1.2 : Int) == (0 : Int)) == true)
def Of (x1 : (Aj × Int)) (x2 : List (TDep)) := (bif (bif (bif ((x1.2 : Int) == (0 : Int)) then (((x2.length : Int) : Int) == (2 : Int)) else false) then ((((x2.getD ((0 : Int)).toNat (default : TDep)).Block : Int) == (1 : Int)) && ((((x2.getD ((0 : Int)).toNat (default : TDep)).On : Int) == (0 : Int)) && ((((x2.getD ((0 : Int)).toNat (default : TDep)).To : Int) == (1 : Int)) && true))) else false) then ((((x2.getD ((1 : Int)).toNat (default : TDep)).Block : Int) == (2 : Int)) && ((((x2.getD ((1 : Int)).toNat (default : TDep)).On : Int) == (0 : Int)) && ((((x2.getD ((1 : Int)).toNat (default : TDep)).To : Int) == (2 : Int)) && true))) else false)
def W1 (x1 : (Aj × Int)) (x2 : List (TDep)) (x6 : Bool) := ((bif (Of x1 x2) then x6 else false) == true)
def Tk (x1 : (Aj × Int)) (x2 : List (TDep)) := ((bif ((x1.2 : Int) == (0 : Int)) then (((x2.length : Int) : Int) == (2 : Int)) else false) == true)
def Q266 := ([([(1 : Int), (2 : Int)] : List (Int)), Pi, Pi, ([] : List Int)] : List (List (Int)))
def Q267 := (AVle (.slice 1 1 (fun i => ([[(.int .i64 (3 : Int))]] : List (List AV)).getD i []) .exact) (AV.list 1 Ac (0 : Int) Pi .exact))
def Tc (x1 : (Aj × Int)) (x2 : List (TDep)) := ((bif (bif ((x1.2 : Int) == (0 : Int)) then (((x2.length : Int) : Int) == (2 : Int)) else false) then ((((x2.getD ((0 : Int)).toNat (default : TDep)).Block : Int) == (1 : Int)) && ((((x2.getD ((0 : Int)).toNat (default : TDep)).On : Int) == (0 : Int)) && ((((x2.getD ((0 : Int)).toNat (default : TDep)).To : Int) == (1 : Int)) && true))) else false) == true)
def Dm  : Option Bool :=
  ((D2 ([([(1 : Int), (2 : Int)] : List (Int)), ([(3 : Int)] : List (Int)), ([(3 : Int)] : List (Int)), ([] : List Int)] : List (List (Int)))).bind fun x1 => ((Fy x1.1).bind fun x2 => (Ci (((bif ((x1.2 : Int) == (0 : Int)) then (((x2.length : Int) : Int) == (2 : Int)) else false) == true) = true → (A8 (0 : Int) x2.length)) (Ci (((bif (bif ((x1.2 : Int) == (0 : Int)) then (((x2.length : Int) : Int) == (2 : Int)) else false) then ((((x2.getD ((0 : Int)).toNat (default : TDep)).Block : Int) == (1 : Int)) && ((((x2.getD ((0 : Int)).toNat (default : TDep)).On : Int) == (0 : Int)) && ((((x2.getD ((0 : Int)).toNat (default : TDep)).To : Int) == (1 : Int)) && true))) else false) == true) = true → (A8 (1 : Int) x2.length)) ((bif ((bif (bif (bif ((x1.2 : Int) == (0 : Int)) then (((x2.length : Int) : Int) == (2 : Int)) else false) then ((((x2.getD ((0 : Int)).toNat (default : TDep)).Block : Int) == (1 : Int)) && ((((x2.getD ((0 : Int)).toNat (default : TDep)).On : Int) == (0 : Int)) && ((((x2.getD ((0 : Int)).toNat (default : TDep)).To : Int) == (1 : Int)) && true))) else false) then ((((x2.getD ((1 : Int)).toNat (default : TDep)).Block : Int) == (2 : Int)) && ((((x2.getD ((1 : Int)).toNat (default : TDep)).On : Int) == (0 : Int)) && ((((x2.getD ((1 : Int)).toNat (default : TDep)).To : Int) == (2 : Int)) && true))) else false) == true) then Eu x1.1 (1 : Int) else some []).bind fun x5 => ((bif ((bif (bif (bif ((x1.2 : Int) == (0 : Int)) then (((x2.length : Int) : Int) == (2 : Int)) else false) then ((((x2.getD ((0 : Int)).toNat (default : TDep)).Block : Int) == (1 : Int)) && ((((x2.getD ((0 : Int)).toNat (default : TDep)).On : Int) == (0 : Int)) && ((((x2.getD ((0 : Int)).toNat (default : TDep)).To : Int) == (1 : Int)) && true))) else false) then ((((x2.getD ((1 : Int)).toNat (default : TDep)).Block : Int) == (2 : Int)) && ((((x2.getD ((1 : Int)).toNat (default : TDep)).On : Int) == (0 : Int)) && ((((x2.getD ((1 : Int)).toNat (default : TDep)).To : Int) == (2 : Int)) && true))) else false) == true) then Ce x5 ([(3 : Int)] : List (Int)) else some false).bind fun x6 => ((bif ((bif (bif (bif (bif ((x1.2 : Int) == (0 : Int)) then (((x2.length : Int) : Int) == (2 : Int)) else false) then ((((x2.getD ((0 : Int)).toNat (default : TDep)).Block : Int) == (1 : Int)) && ((((x2.getD ((0 : Int)).toNat (default : TDep)).On : Int) == (0 : Int)) && ((((x2.getD ((0 : Int)).toNat (default : TDep)).To : Int) == (1 : Int)) && true))) else false) then ((((x2.getD ((1 : Int)).toNat (default : TDep)).Block : Int) == (2 : Int)) && ((((x2.getD ((1 : Int)).toNat (default : TDep)).On : Int) == (0 : Int)) && ((((x2.getD ((1 : Int)).toNat (default : TDep)).To : Int) == (2 : Int)) && true))) else false) then x6 else false) == true) then Jq x1.1 (3 : Int) else some []).bind fun x7 => (some (bif (bif (bif (bif (bif ((x1.2 : Int) == (0 : Int)) then (((x2.length : Int) : Int) == (2 : Int)) else false) then ((((x2.getD ((0 : Int)).toNat (default : TDep)).Block : Int) == (1 : Int)) && ((((x2.getD ((0 : Int)).toNat (default : TDep)).On : Int) == (0 : Int)) && ((((x2.getD ((0 : Int)).toNat (default : TDep)).To : Int) == (1 : Int)) && true))) else false) then ((((x2.getD ((1 : Int)).toNat (default : TDep)).Block : Int) == (2 : Int)) && ((((x2.getD ((1 : Int)).toNat (default : TDep)).On : Int) == (0 : Int)) && ((((x2.getD ((1 : Int)).toNat (default : TDep)).To : Int) == (2 : Int)) && true))) else false) then x6 else false) then (((x7.length : Int) : Int) == (0 : Int)) else false)))))))))
theorem Kh  (r : Bool) (h : Dm = some r) : Spec Try.prog 7 [] [] (.bool r) [] := by
  refine Ap (fn := Try.f7) Try.func7 rfl rfl (by kernel_rfl) (fun Γ hn hΓ => ?_); have hq : RgQ Try.prog Γ 47 [] := ⟨hn, mix, hΓ⟩; unfold Dm at h; refine As ⟨[], [], []⟩ hq ?_; obtain ⟨x1, hx1, h⟩ := bind_some h; refine B9 [⟨[], [], (.tuple [(.agg (A7 x1.1)), (.int .i64 x1.2)]), [], []⟩] [(5, (AV.list 1 Ac (0 : Int) ([(1 : Int), (2 : Int)] : List (Int)) .exact)), (6, (AV.list 1 Ac (0 : Int) Pi .exact)), (7, (AV.list 1 Ac (0 : Int) Pi .exact)), (8, (AV.list 1 eLI64 [] Q266 .exact))] ⟨[(1, (.ptr 1 0)), (2, (.int .i64 x1.2))], [(1, .row 26 [(AV.list 1 eLI64 [] x1.1.Succ .none), (AV.list 1 eLI64 [] x1.1.Pred .none)])], []⟩ [(AVle (.slice 1 2 (fun i => ([[(.int .i64 (1 : Int))], [(.int .i64 (2 : Int))]] : List (List AV)).getD i []) .exact) (AV.list 1 Ac (0 : Int) ([(1 : Int), (2 : Int)] : List (Int)) .exact)), Q267, Q267, (AVle (.slice 1 4 (fun i => ([[(AV.list 1 Ac (0 : Int) ([(1 : Int), (2 : Int)] : List (Int)) .none)], [(AV.list 1 Ac (0 : Int) Pi .none)], [(AV.list 1 Ac (0 : Int) Pi .none)], [(.slice 0 0 (fun _ => []) .none)]] : List (List AV)).getD i []) .exact) (AV.list 1 eLI64 [] Q266 .exact)), (Spec Try.prog 15 [(AV.list 1 eLI64 [] Q266 .none)] [] (.tuple [(.agg (A7 x1.1)), (.int .i64 x1.2)]) [])] hq ⟨(E4 rfl (fun i hi => Ea (e := Ac) (d := (0 : Int)) ([(1 : Int), (2 : Int)] : List (Int)) i hi)), (E4 rfl (fun i hi => Ea (e := Ac) (d := (0 : Int)) Pi i hi)), (E4 rfl (fun i hi => Ea (e := Ac) (d := (0 : Int)) Pi i hi)), (av_litL (e := eLI64) (d := []) rfl (Ob (.cons (AVle.refl _) .nil) (Ob (.cons (AVle.refl _) .nil) (Ob (.cons (AVle.refl _) .nil) (Ob (.cons av_nil0 .nil) (lit_nil rfl))))) (fun _ => rfl)), (Hi Q266 x1 hx1), trivial⟩ ?_; obtain ⟨x2, hx2, h⟩ := bind_some h; refine B9 [⟨[], [(20000, 13)], (AV.list 3 Ba (default : TDep) x2 (.own 20000)), [(20000, .tok 3 37 x2.length)], []⟩] [] ⟨[(1, (.ptr 1 0)), (2, (.int .i64 x1.2)), (3, (AV.list 3 Ba (default : TDep) x2 (.own 13)))], [(1, .row 26 [(AV.list 1 eLI64 [] x1.1.Succ .none), (AV.list 1 eLI64 [] x1.1.Pred .none)]), (13, .tok 3 37 x2.length)], []⟩ [(Spec Try.prog 10 [(.agg (A7 x1.1))] [] (AV.list 3 Ba (default : TDep) x2 (.own 20000)) [(20000, .tok 3 37 x2.length)])] hq ⟨(Kq x1.1 x2 hx2), trivial⟩ ?_; obtain ⟨hc3, h⟩ := Ab h; obtain ⟨hc4, h⟩ := Ab h; obtain ⟨x5, hx5, h⟩ := bind_some h; obtain ⟨x6, hx6, h⟩ := bind_some h; obtain ⟨x7, hx7, h⟩ := bind_some h; refine B9 [⟨[], [], (AV.list 1 Ac (0 : Int) x5 .none), [], []⟩, ⟨[], [], (.bool x6), [], []⟩, ⟨[], [], (AV.list 3 Ba (default : TDep) x7 .none), [], []⟩] [(38, (AV.list 1 Ac (0 : Int) Pi .exact))] ⟨[(0, (.bool (bif (bif (Of x1 x2) then x6 else false) then (((x7.length : Int) : Int) == (0 : Int)) else false)))], [], []⟩ [((Q268 x1) = true → (Q268 x1) = true), ((Q268 x1) = true → (Q268 x1) = true), (((x1.2 : Int) == (0 : Int)) = true → (Q268 x1) = true), ((Tk x1 x2) = true → (Tk x1 x2) = true), ((Tk x1 x2) = true → (A8 (0 : Int) x2.length)), ((Tk x1 x2) = true → (Tk x1 x2) = true), ((Tk x1 x2) = true → (Tk x1 x2) = true), ((Tk x1 x2) = true → (Tk x1 x2) = true), ((bif ((x1.2 : Int) == (0 : Int)) then (((x2.length : Int) : Int) == (2 : Int)) else false) = true → (Tk x1 x2) = true), ((Tc x1 x2) = true → (Tc x1 x2) = true), ((Tc x1 x2) = true → (A8 (1 : Int) x2.length)), ((Tc x1 x2) = true → (Tc x1 x2) = true), ((Tc x1 x2) = true → (Tc x1 x2) = true), ((Tc x1 x2) = true → (Tc x1 x2) = true), ((bif (bif ((x1.2 : Int) == (0 : Int)) then (((x2.length : Int) : Int) == (2 : Int)) else false) then ((((x2.getD ((0 : Int)).toNat (default : TDep)).Block : Int) == (1 : Int)) && ((((x2.getD ((0 : Int)).toNat (default : TDep)).On : Int) == (0 : Int)) && ((((x2.getD ((0 : Int)).toNat (default : TDep)).To : Int) == (1 : Int)) && true))) else false) = true → (Tc x1 x2) = true), (((Of x1 x2) == true) = true → ((Of x1 x2) == true) = true), (((Of x1 x2) == true) = true → (Spec Try.prog 13 [(.agg (A7 x1.1)), (.int .i64 (1 : Int))] [] (AV.list 1 Ac (0 : Int) x5 .none) [])), (((Of x1 x2) == true) = true → Q267), (((Of x1 x2) == true) = true → ((Of x1 x2) == true) = true), (((Of x1 x2) == true) = true → ((Of x1 x2) == true) = true), (((Of x1 x2) == true) = true → (Spec Try.prog 12 [(AV.list 1 Ac (0 : Int) x5 .none), (AV.list 1 Ac (0 : Int) Pi .none)] [] (.bool x6) [])), ((Of x1 x2) = true → ((Of x1 x2) == true) = true), ((W1 x1 x2 x6) = true → (W1 x1 x2 x6) = true), ((W1 x1 x2 x6) = true → (Spec Try.prog 16 [(.agg (A7 x1.1)), (.int .i64 (3 : Int))] [] (AV.list 3 Ba (default : TDep) x7 .none) [])), ((W1 x1 x2 x6) = true → (W1 x1 x2 x6) = true), ((W1 x1 x2 x6) = true → (W1 x1 x2 x6) = true), ((bif (Of x1 x2) then x6 else false) = true → (W1 x1 x2 x6) = true)] hq ⟨(fun hg => hg), (fun hg => hg), gT, (fun hg => hg), (fun hg => (hc3 hg)), (fun hg => hg), (fun hg => hg), (fun hg => hg), gT, (fun hg => hg), (fun hg => (hc4 hg)), (fun hg => hg), (fun hg => hg), (fun hg => hg), gT, (fun hg => hg), (fun hg => (Spec.drop (Qr x1.1 (1 : Int) x5 (Ar hg hx5)))), (fun hg => (E4 rfl (fun i hi => Ea (e := Ac) (d := (0 : Int)) Pi i hi))), (fun hg => hg), (fun hg => hg), (fun hg => (K3 x5 Pi x6 (Ar hg hx6))), gT, (fun hg => hg), (fun hg => (Spec.drop (ok_dep_Of x1.1 (3 : Int) x7 (Ar hg hx7)))), (fun hg => hg), (fun hg => hg), gT, trivial⟩ ?_; refine Aq ?_; obtain rfl := OI h; exact ⟨.inl rfl, [], by kernel_rfl⟩
def Bd (a_succ : List (List (Int))) : Int → Option (LR Int (Unit ⊕ Bool)) :=
  fun (i1 : Int) => (bif (decide ((i1 : Int) < (a_succ.length : Int))) then (Ci (A8 i1 a_succ.length) (bif (bif (decide (((100 : Int) : Int) < ((a_succ.getD (i1).toNat []).length : Int))) then true else (decide (((100 : Int) : Int) < i1))) then (some (.done (.inr false))) else (some (.next (Bi (i1 + (1 : Int))))))) else (some (.done (.inl ()))))
def Z6 (a_succ : List (List (Int))) : AV := (AV.list 1 eLI64 [] a_succ .none)
def Q271 (a_succ : List (List (Int))) (i1 : Int) := (decide (((100 : Int) : Int) < ((a_succ.getD (i1).toNat []).length : Int)))
def Dn (a_succ : List (List (Int))) : Option Bool :=
  ((Ay (S := Int) (X := (Unit ⊕ Bool)) (Bd a_succ) (0 : Int)).bind (fun x3 => (match x3 with | (.inl _) => (some true) | (.inr r5) => (some r5))))
theorem Kf (a_succ : List (List (Int))) (r : Bool) (h : Dn a_succ = some r) : Spec Try.prog 8 [(AV.list 1 eLI64 [] a_succ .none)] [] (.bool r) [] := by
  refine Ap (fn := Try.f8) Try.func8 rfl rfl (by kernel_rfl) (fun Γ hn hΓ => ?_); have hq : RgQ Try.prog Γ 20 [] := ⟨hn, mix, hΓ⟩; unfold Dn at h; refine As ⟨[(0, (Z6 a_succ))], [], []⟩ hq ?_; refine Ae ?_; refine As ⟨[(0, (Z6 a_succ)), (3, (.int .i64 (0 : Int)))], [], []⟩ hq ?_; refine Ak ?_; refine Af (st' := (fun (i1 : Int) => (⟨[(0, (Z6 a_succ)), (3, (.int .i64 i1))], [], []⟩ : St)) (0 : Int)) (Le.refl _ _) ?_; obtain ⟨x3, hx3, h⟩ := bind_some h; refine Bf (fun (i1 : Int) => (⟨[(0, (Z6 a_succ)), (3, (.int .i64 i1))], [], []⟩ : St)) _ (fun (x_ : (Unit ⊕ Bool)) (e : Exit) (st : St) => match x_ with | (.inl _) => e = (.exit 0) ∧ Le Γ st (⟨[], [], []⟩ : St) | (.inr r_) => e = .ret ∧ Kb Try.prog Try.f8.results.toList [] (.bool r_) [] e st) ?_ hx3 ?_
  · intro i1 y h; unfold Bd at h; refine Ae ?_; refine As ⟨[(0, (Z6 a_succ)), (3, (.int .i64 i1)), (7, (.bool (decide ((i1 : Int) < (a_succ.length : Int)))))], [], []⟩ hq ?_; refine Ai (decide ((i1 : Int) < (a_succ.length : Int))) (by kernel_rfl) (fun hb => ?_) (fun hb => ?_)
    · replace h := Ar hb h; clear hb; refine Ag ?_; refine Aa ?_; refine Ae ?_; refine Ak ?_; obtain ⟨hc2, h⟩ := Ab h; refine B9 [] [] ⟨[(0, (Z6 a_succ)), (3, (.int .i64 i1)), (19, (.bool (bif (Q271 a_succ i1) then true else (decide (((100 : Int) : Int) < i1)))))], [], []⟩ [(A8 i1 a_succ.length), (((Q271 a_succ i1) == false) = true → ((Q271 a_succ i1) == false) = true), ((Q271 a_succ i1) = false → ((Q271 a_succ i1) == false) = true)] hq ⟨hc2, (fun hg => hg), gF, trivial⟩ ?_; refine Ai (bif (Q271 a_succ i1) then true else (decide (((100 : Int) : Int) < i1))) (by kernel_rfl) (fun hb => ?_) (fun hb => ?_)
      · replace h := Ar hb h; clear hb; refine As ⟨[(2, (.bool false))], [], []⟩ hq ?_; refine Aq ?_; refine Bl ?_; refine Aw ?_; obtain rfl := OI h; exact ⟨(by intro hh; cases hh), rfl, ⟨.inl rfl, [], by kernel_rfl⟩⟩
      · replace h := Au hb h; clear hb; refine Ag ?_; refine An ?_; refine Aa ?_; refine M8 ⟨[(0, (Z6 a_succ)), (3, (.int .i64 (Bi (i1 + (1 : Int)))))], [], []⟩ hq ?_; obtain rfl := OI h; exact ⟨rfl, Le.refl _ _⟩
    · replace h := Au hb h; clear hb; refine Bg ?_; refine A4 ?_; obtain rfl := OI h; exact ⟨(by intro hh; cases hh), rfl, E3 [] [] hq⟩
  · clear hx3; rcases x3 with _ | r5
    · rintro e st' ⟨rfl, hl4⟩; refine A0 ?_; refine Aa ?_; refine Af hl4 ?_; refine As ⟨[(2, (.bool true))], [], []⟩ hq ?_; refine Aq ?_; obtain rfl := OI h; exact ⟨.inl rfl, [], by kernel_rfl⟩
    · rintro e st' ⟨rfl, hk⟩; refine Bl ?_; refine Aw ?_; obtain rfl := OI h; exact hk
def Bk (a_l : List (Int)) (a_x : Int) : Int → Option (LR Int (Unit ⊕ Bool)) :=
  fun (i1 : Int) => (bif (decide ((i1 : Int) < (a_l.length : Int))) then (Ci (A8 i1 a_l.length) (bif (((a_l.getD (i1).toNat (0 : Int)) : Int) == a_x) then (some (.done (.inr true))) else (some (.next (Bi (i1 + (1 : Int))))))) else (some (.done (.inl ()))))
def Zd (a_l : List (Int)) : AV := (AV.list 1 Ac (0 : Int) a_l .none)
def Dj (a_l : List (Int)) (a_x : Int) : Option Bool :=
  ((Ay (S := Int) (X := (Unit ⊕ Bool)) (Bk a_l a_x) (0 : Int)).bind (fun x3 => (match x3 with | (.inl _) => (some false) | (.inr r5) => (some r5))))
theorem Ll (a_l : List (Int)) (a_x : Int) (r : Bool) (h : Dj a_l a_x = some r) : Spec Try.prog 18 [(AV.list 1 Ac (0 : Int) a_l .none), (.int .i64 a_x)] [] (.bool r) [] := by
  refine Ap (fn := Try.f18) Try.func18 rfl rfl (by kernel_rfl) (fun Γ hn hΓ => ?_); have hq : RgQ Try.prog Γ 18 [] := ⟨hn, mix, hΓ⟩; unfold Dj at h; refine As ⟨[(0, (Zd a_l)), (1, (.int .i64 a_x))], [], []⟩ hq ?_; refine Ae ?_; refine As ⟨[(0, (Zd a_l)), (1, (.int .i64 a_x)), (5, (.int .i64 (0 : Int)))], [], []⟩ hq ?_; refine Ak ?_; refine Af (st' := (fun (i1 : Int) => (⟨[(0, (Zd a_l)), (1, (.int .i64 a_x)), (5, (.int .i64 i1))], [], []⟩ : St)) (0 : Int)) (Le.refl _ _) ?_; obtain ⟨x3, hx3, h⟩ := bind_some h; refine Bf (fun (i1 : Int) => (⟨[(0, (Zd a_l)), (1, (.int .i64 a_x)), (5, (.int .i64 i1))], [], []⟩ : St)) _ (fun (x_ : (Unit ⊕ Bool)) (e : Exit) (st : St) => match x_ with | (.inl _) => e = (.exit 0) ∧ Le Γ st (⟨[], [], []⟩ : St) | (.inr r_) => e = .ret ∧ Kb Try.prog Try.f18.results.toList [] (.bool r_) [] e st) ?_ hx3 ?_
  · intro i1 y h; unfold Bk at h; refine Ae ?_; refine As ⟨[(0, (Zd a_l)), (1, (.int .i64 a_x)), (5, (.int .i64 i1)), (9, (.bool (decide ((i1 : Int) < (a_l.length : Int)))))], [], []⟩ hq ?_; refine Ai (decide ((i1 : Int) < (a_l.length : Int))) (by kernel_rfl) (fun hb => ?_) (fun hb => ?_)
    · replace h := Ar hb h; clear hb; refine Ag ?_; refine Aa ?_; refine Ae ?_; refine Ak ?_; obtain ⟨hc2, h⟩ := Ab h; refine B9 [] [] ⟨[(0, (Zd a_l)), (1, (.int .i64 a_x)), (5, (.int .i64 i1)), (17, (.bool (((a_l.getD (i1).toNat (0 : Int)) : Int) == a_x)))], [], []⟩ [(A8 i1 a_l.length)] hq ⟨hc2, trivial⟩ ?_; refine Ai (((a_l.getD (i1).toNat (0 : Int)) : Int) == a_x) (by kernel_rfl) (fun hb => ?_) (fun hb => ?_)
      · replace h := Ar hb h; clear hb; refine As ⟨[(4, (.bool true))], [], []⟩ hq ?_; refine Aq ?_; refine Bl ?_; refine Aw ?_; obtain rfl := OI h; exact ⟨(by intro hh; cases hh), rfl, ⟨.inl rfl, [], by kernel_rfl⟩⟩
      · replace h := Au hb h; clear hb; refine Ag ?_; refine An ?_; refine Aa ?_; refine M8 ⟨[(0, (Zd a_l)), (1, (.int .i64 a_x)), (5, (.int .i64 (Bi (i1 + (1 : Int)))))], [], []⟩ hq ?_; obtain rfl := OI h; exact ⟨rfl, Le.refl _ _⟩
    · replace h := Au hb h; clear hb; refine Bg ?_; refine A4 ?_; obtain rfl := OI h; exact ⟨(by intro hh; cases hh), rfl, E3 [] [] hq⟩
  · clear hx3; rcases x3 with _ | r5
    · rintro e st' ⟨rfl, hl4⟩; refine A0 ?_; refine Aa ?_; refine Af hl4 ?_; refine As ⟨[(4, (.bool false))], [], []⟩ hq ?_; refine Aq ?_; obtain rfl := OI h; exact ⟨.inl rfl, [], by kernel_rfl⟩
    · rintro e st' ⟨rfl, hk⟩; refine Bl ?_; refine Aw ?_; obtain rfl := OI h; exact hk
end
end Go.Proofs.Ytjdddniaokcgnaa

namespace Go.Proofs.Ytjdddniaokcgnaa
noncomputable section
open Go Go.RowKit
set_option linter.unusedVariables false
set_option maxRecDepth 100000
set_option maxHeartbeats 2000000
def Bs (a_succ : List (List (Int))) (i7 : Int) : (Bool × Int) → Option (LR (Bool × Int) Bool) :=
  fun ((b9, i10) : (Bool × Int)) => (Ci (A8 i7 a_succ.length) (bif (decide ((i10 : Int) < ((a_succ.getD (i7).toNat []).length : Int))) then (Ci ((b9 == true) = true → (A8 i7 a_succ.length)) (Ci ((b9 == true) = true → (A8 i10 (a_succ.getD (i7).toNat []).length)) (some (.next ((bif b9 then (decide ((i7 : Int) < ((a_succ.getD (i7).toNat []).getD (i10).toNat (0 : Int)))) else false), (Bi (i10 + (1 : Int)))))))) else (some (.done b9))))
def Bp (a_succ : List (List (Int))) : (Bool × Int) → Option (LR (Bool × Int) Bool) :=
  fun ((b6, i7) : (Bool × Int)) => (bif (decide ((i7 : Int) < (a_succ.length : Int))) then ((Ay (S := (Bool × Int)) (X := Bool) (Bs a_succ i7) (b6, (0 : Int))).bind (fun x15 => ((some (.next (x15, (Bi (i7 + (1 : Int))))))))) else (some (.done b6)))
def Bt (a_succ : List (List (Int))) (x5 : List (TDep)) (b8 : Bool) : Int → Option (LR Int (Unit ⊕ Bool)) :=
  fun (i19 : Int) => (bif (decide ((i19 : Int) < (x5.length : Int))) then (Ci (A8 i19 x5.length) (Ci (((bif (decide (((x5.getD (i19).toNat (default : TDep)).On : Int) < (0 : Int))) then true else (decide (((a_succ.length : Int) : Int) ≤ (x5.getD (i19).toNat (default : TDep)).On))) == false) = true → (A8 (x5.getD (i19).toNat (default : TDep)).On a_succ.length)) ((bif ((bif (decide (((x5.getD (i19).toNat (default : TDep)).On : Int) < (0 : Int))) then true else (decide (((a_succ.length : Int) : Int) ≤ (x5.getD (i19).toNat (default : TDep)).On))) == false) then Dj (a_succ.getD ((x5.getD (i19).toNat (default : TDep)).On).toNat []) ((x5.getD (i19).toNat (default : TDep)).To) else some false).bind fun x22 => (Ci (((((bif (bif (decide (((x5.getD (i19).toNat (default : TDep)).On : Int) < (0 : Int))) then true else (decide (((a_succ.length : Int) : Int) ≤ (x5.getD (i19).toNat (default : TDep)).On))) then true else (!x22)) == false) && (b8 == true)) && ((((x5.getD (i19).toNat (default : TDep)).Block : Int) == (x5.getD (i19).toNat (default : TDep)).On) == false)) = true → (A8 (x5.getD (i19).toNat (default : TDep)).On a_succ.length)) (bif (bif (bif (bif (decide (((x5.getD (i19).toNat (default : TDep)).On : Int) < (0 : Int))) then true else (decide (((a_succ.length : Int) : Int) ≤ (x5.getD (i19).toNat (default : TDep)).On))) then true else (!x22)) then true else (bif b8 then (bif (((x5.getD (i19).toNat (default : TDep)).Block : Int) == (x5.getD (i19).toNat (default : TDep)).On) then true else (decide ((((a_succ.getD ((x5.getD (i19).toNat (default : TDep)).On).toNat []).length : Int) : Int) < (2 : Int)))) else false)) then (some (.done (.inr false))) else (Ci (((decide (((0 : Int) : Int) < i19)) == true) = true → (A8 (Bi (i19 - (1 : Int))) x5.length)) (Ci ((((decide (((0 : Int) : Int) < i19)) == true) && ((decide (((x5.getD (i19).toNat (default : TDep)).Block : Int) < (x5.getD ((Bi (i19 - (1 : Int)))).toNat (default : TDep)).Block)) == false)) = true → (A8 (Bi (i19 - (1 : Int))) x5.length)) (Ci (((((decide (((0 : Int) : Int) < i19)) == true) && ((decide (((x5.getD (i19).toNat (default : TDep)).Block : Int) < (x5.getD ((Bi (i19 - (1 : Int)))).toNat (default : TDep)).Block)) == false)) && ((((x5.getD ((Bi (i19 - (1 : Int)))).toNat (default : TDep)).Block : Int) == (x5.getD (i19).toNat (default : TDep)).Block) == true)) = true → (A8 (Bi (i19 - (1 : Int))) x5.length)) (Ci ((((((decide (((0 : Int) : Int) < i19)) == true) && ((decide (((x5.getD (i19).toNat (default : TDep)).Block : Int) < (x5.getD ((Bi (i19 - (1 : Int)))).toNat (default : TDep)).Block)) == false)) && ((((x5.getD ((Bi (i19 - (1 : Int)))).toNat (default : TDep)).Block : Int) == (x5.getD (i19).toNat (default : TDep)).Block) == true)) && ((decide (((x5.getD (i19).toNat (default : TDep)).On : Int) < (x5.getD ((Bi (i19 - (1 : Int)))).toNat (default : TDep)).On)) == false)) = true → (A8 (Bi (i19 - (1 : Int))) x5.length)) (Ci (((((((decide (((0 : Int) : Int) < i19)) == true) && ((decide (((x5.getD (i19).toNat (default : TDep)).Block : Int) < (x5.getD ((Bi (i19 - (1 : Int)))).toNat (default : TDep)).Block)) == false)) && ((((x5.getD ((Bi (i19 - (1 : Int)))).toNat (default : TDep)).Block : Int) == (x5.getD (i19).toNat (default : TDep)).Block) == true)) && ((decide (((x5.getD (i19).toNat (default : TDep)).On : Int) < (x5.getD ((Bi (i19 - (1 : Int)))).toNat (default : TDep)).On)) == false)) && ((((x5.getD ((Bi (i19 - (1 : Int)))).toNat (default : TDep)).On : Int) == (x5.getD (i19).toNat (default : TDep)).On) == true)) = true → (A8 (Bi (i19 - (1 : Int))) x5.length)) (bif (bif (decide (((0 : Int) : Int) < i19)) then (bif (decide (((x5.getD (i19).toNat (default : TDep)).Block : Int) < (x5.getD ((Bi (i19 - (1 : Int)))).toNat (default : TDep)).Block)) then true else (bif (((x5.getD ((Bi (i19 - (1 : Int)))).toNat (default : TDep)).Block : Int) == (x5.getD (i19).toNat (default : TDep)).Block) then (bif (decide (((x5.getD (i19).toNat (default : TDep)).On : Int) < (x5.getD ((Bi (i19 - (1 : Int)))).toNat (default : TDep)).On)) then true else (bif (((x5.getD ((Bi (i19 - (1 : Int)))).toNat (default : TDep)).On : Int) == (x5.getD (i19).toNat (default : TDep)).On) then (decide (((x5.getD (i19).toNat (default : TDep)).To : Int) ≤ (x5.getD ((Bi (i19 - (1 : Int)))).toNat (default : TDep)).To)) else false)) else false)) else false) then (some (.done (.inr false))) else (some (.next (Bi (i19 + (1 : Int)))))))))))))))) else (some (.done (.inl ()))))
def G1 (x5 : List (TDep)) (i19 : Int) := (x5.getD (i19).toNat (default : TDep))
def Q414 (x5 : List (TDep)) (i19 : Int) := (((x5.getD ((Bi (i19 - (1 : Int)))).toNat (default : TDep)).On : Int) == (G1 x5 i19).On)
def Q428 (x5 : List (TDep)) (i19 : Int) := ((Q414 x5 i19) == true)
def Q415 (x5 : List (TDep)) (i19 : Int) := (((G1 x5 i19).Block : Int) == (G1 x5 i19).On)
def Q430 (x5 : List (TDep)) (i19 : Int) := ((Q415 x5 i19) == false)
def Jj (x5 : List (TDep)) : List (Nat × Own) := [(33, .tok 3 37 x5.length)]
def Q412 (x5 : List (TDep)) (i19 : Int) (a_succ : List (List (Int))) := (bif (decide (((G1 x5 i19).On : Int) < (0 : Int))) then true else (decide (((a_succ.length : Int) : Int) ≤ (G1 x5 i19).On)))
def Kk (x5 : List (TDep)) (i19 : Int) (a_succ : List (List (Int))) := ((Q412 x5 i19 a_succ) == false)
def H3 (i19 : Int) := ((decide (((0 : Int) : Int) < i19)) == true)
def H2 (i19 : Int) (x5 : List (TDep)) := ((H3 i19) && ((decide (((G1 x5 i19).Block : Int) < (x5.getD ((Bi (i19 - (1 : Int)))).toNat (default : TDep)).Block)) == false))
def H1 (i19 : Int) (x5 : List (TDep)) := ((H2 i19 x5) && ((((x5.getD ((Bi (i19 - (1 : Int)))).toNat (default : TDep)).Block : Int) == (G1 x5 i19).Block) == true))
def Q413 (x5 : List (TDep)) (i19 : Int) := ((decide (((G1 x5 i19).On : Int) < (x5.getD ((Bi (i19 - (1 : Int)))).toNat (default : TDep)).On)) == false)
def H6 (i19 : Int) (x5 : List (TDep)) := ((H1 i19 x5) && (Q413 x5 i19))
def K2 (i19 : Int) (x5 : List (TDep)) := ((H6 i19 x5) && (Q428 x5 i19))
def Gp (a_succ : List (List (Int))) : AV := (AV.list 1 eLI64 [] a_succ .none)
def Ij (x5 : List (TDep)) : AV := (AV.list 3 Ba (default : TDep) x5 (.own 33))
def Q435 (x5 : List (TDep)) (i19 : Int) (a_succ : List (List (Int))) (x22 : Bool) := ((bif (Q412 x5 i19 a_succ) then true else (!x22)) == false)
def Nk (x5 : List (TDep)) (i19 : Int) (a_succ : List (List (Int))) (x22 : Bool) (x17 : Bool) := ((Q435 x5 i19 a_succ x22) && (x17 == true))
def Oq (x5 : List (TDep)) (i19 : Int) (a_succ : List (List (Int))) (x22 : Bool) (x17 : Bool) := ((Nk x5 i19 a_succ x22 x17) && (Q430 x5 i19))
def Vw (a_succ : List (List (Int))) := (decide (((16 : Int) : Int) < (a_succ.length : Int)))
def Vg (x5 : List (TDep)) (i19 : Int) := ((decide (((G1 x5 i19).On : Int) < (0 : Int))) == false)
def Q422 (x5 : List (TDep)) (i19 : Int) := (decide (((G1 x5 i19).To : Int) ≤ (x5.getD ((Bi (i19 - (1 : Int)))).toNat (default : TDep)).To))
def Q421 (x5 : List (TDep)) (i19 : Int) : List (Nat × Own) := [(10, .row 37 [(.int .i64 (G1 x5 i19).Block), (.int .i64 (G1 x5 i19).On), (.int .i64 (G1 x5 i19).To)]), (33, .tok 3 37 x5.length)]
def Q429 (x5 : List (TDep)) (i19 : Int) (a_succ : List (List (Int))) (x22 : Bool) (x17 : Bool) := (bif (bif (Q412 x5 i19 a_succ) then true else (!x22)) then true else (bif x17 then (bif (Q415 x5 i19) then true else (decide ((((a_succ.getD ((G1 x5 i19).On).toNat []).length : Int) : Int) < (2 : Int)))) else false))
def Q426 (i19 : Int) (x5 : List (TDep)) := (bif (decide (((0 : Int) : Int) < i19)) then (bif (decide (((G1 x5 i19).Block : Int) < (x5.getD ((Bi (i19 - (1 : Int)))).toNat (default : TDep)).Block)) then true else (bif (((x5.getD ((Bi (i19 - (1 : Int)))).toNat (default : TDep)).Block : Int) == (G1 x5 i19).Block) then (bif (decide (((G1 x5 i19).On : Int) < (x5.getD ((Bi (i19 - (1 : Int)))).toNat (default : TDep)).On)) then true else (bif (Q414 x5 i19) then (Q422 x5 i19) else false)) else false)) else false)
def Dz (a_succ : List (List (Int))) : Option Bool :=
  ((Dm).bind fun x1 => (bif (!x1) then (some false) else ((bif ((decide (((16 : Int) : Int) < (a_succ.length : Int))) == false) then Dn a_succ else some false).bind fun x2 => (bif (bif (decide (((16 : Int) : Int) < (a_succ.length : Int))) then true else (!x2)) then (some true) else ((D2 a_succ).bind fun x3 => (bif ((x3.2 : Int) != (0 : Int)) then ((Fy x3.1).bind fun x4 => (some (((x4.length : Int) : Int) == (0 : Int)))) else ((Fy x3.1).bind fun x5 => ((Ay (S := (Bool × Int)) (X := Bool) (Bp a_succ) (true, (0 : Int))).bind (fun x17 => (((Ay (S := Int) (X := (Unit ⊕ Bool)) (Bt a_succ x5 x17) (0 : Int)).bind (fun x29 => (match x29 with | (.inl _) => (some true) | (.inr r31) => (some r31))))))))))))))
theorem ok_locksteplaw09_DepEnds (a_succ : List (List (Int))) (r : Bool) (h : Dz a_succ = some r) : Spec Try.prog 5 [(AV.list 1 eLI64 [] a_succ .none)] [] (.bool r) [] := by
  refine Ap (fn := Try.f5) Try.func5 rfl rfl (by kernel_rfl) (fun Γ hn hΓ => ?_); have hq : RgQ Try.prog Γ 168 [] := ⟨hn, mix, hΓ⟩; unfold Dz at h; refine As ⟨[(0, (Gp a_succ))], [], []⟩ hq ?_; refine Ae ?_; obtain ⟨x1, hx1, h⟩ := bind_some h; refine B9 [⟨[], [], (.bool x1), [], []⟩] [] ⟨[(0, (Gp a_succ)), (12, (.bool (!x1)))], [], []⟩ [(Spec Try.prog 7 [] [] (.bool x1) [])] hq ⟨(Kh  x1 hx1), trivial⟩ ?_; refine Ai (!x1) (by kernel_rfl) (fun hb => ?_) (fun hb => ?_)
  · replace h := Ar hb h; clear hb; refine As ⟨[(2, (.bool false))], [], []⟩ hq ?_; refine Aq ?_; refine Aw ?_; obtain rfl := OI h; exact ⟨.inl rfl, [], by kernel_rfl⟩
  · replace h := Au hb h; clear hb; refine Ag ?_; refine Aa ?_; refine Ae ?_; obtain ⟨x2, hx2, h⟩ := bind_some h; refine B9 [⟨[], [], (.bool x2), [], []⟩] [] ⟨[(0, (Gp a_succ)), (20, (.bool (bif (Vw a_succ) then true else (!x2))))], [], []⟩ [(((Vw a_succ) == false) = true → ((Vw a_succ) == false) = true), (((Vw a_succ) == false) = true → (Spec Try.prog 8 [(Gp a_succ)] [] (.bool x2) [])), (((Vw a_succ) == false) = true → ((Vw a_succ) == false) = true), ((Vw a_succ) = false → ((Vw a_succ) == false) = true)] hq ⟨(fun hg => hg), (fun hg => (Kf a_succ x2 (Ar hg hx2))), (fun hg => hg), gF, trivial⟩ ?_; refine Ai (bif (Vw a_succ) then true else (!x2)) (by kernel_rfl) (fun hb => ?_) (fun hb => ?_)
    · replace h := Ar hb h; clear hb; refine As ⟨[(2, (.bool true))], [], []⟩ hq ?_; refine Aq ?_; refine Aw ?_; obtain rfl := OI h; exact ⟨.inl rfl, [], by kernel_rfl⟩
    · replace h := Au hb h; clear hb; refine Ag ?_; refine Aa ?_; obtain ⟨x3, hx3, h⟩ := bind_some h; refine B9 [⟨[], [], (.tuple [(.agg (A7 x3.1)), (.int .i64 x3.2)]), [], []⟩] [] ⟨[(0, (Gp a_succ)), (3, (.ptr 3 0)), (4, (.int .i64 x3.2))], [(3, .row 26 [(AV.list 1 eLI64 [] x3.1.Succ .none), (AV.list 1 eLI64 [] x3.1.Pred .none)])], []⟩ [(Spec Try.prog 15 [(Gp a_succ)] [] (.tuple [(.agg (A7 x3.1)), (.int .i64 x3.2)]) [])] hq ⟨(Hi a_succ x3 hx3), trivial⟩ ?_; refine Ae ?_; refine As ⟨[(0, (Gp a_succ)), (3, (.ptr 3 0)), (27, (.bool ((x3.2 : Int) != (0 : Int))))], [(3, .row 26 [(AV.list 1 eLI64 [] x3.1.Succ .none), (AV.list 1 eLI64 [] x3.1.Pred .none)])], []⟩ hq ?_; refine Ai ((x3.2 : Int) != (0 : Int)) (by kernel_rfl) (fun hb => ?_) (fun hb => ?_)
      · replace h := Ar hb h; clear hb; obtain ⟨x4, hx4, h⟩ := bind_some h; refine B9 [⟨[], [(20000, 29)], (AV.list 3 Ba (default : TDep) x4 (.own 20000)), [(20000, .tok 3 37 x4.length)], []⟩] [] ⟨[(2, (.bool (((x4.length : Int) : Int) == (0 : Int))))], [], []⟩ [(Spec Try.prog 10 [(.agg (A7 x3.1))] [] (AV.list 3 Ba (default : TDep) x4 (.own 20000)) [(20000, .tok 3 37 x4.length)])] hq ⟨(Kq x3.1 x4 hx4), trivial⟩ ?_; refine Aq ?_; refine Aw ?_; obtain rfl := OI h; exact ⟨.inl rfl, [], by kernel_rfl⟩
      · replace h := Au hb h; clear hb; refine Ag ?_; refine Aa ?_; obtain ⟨x5, hx5, h⟩ := bind_some h; refine B9 [⟨[], [(20000, 33)], (AV.list 3 Ba (default : TDep) x5 (.own 20000)), [(20000, .tok 3 37 x5.length)], []⟩] [] ⟨[(0, (Gp a_succ)), (5, (Ij x5))], (Jj x5), []⟩ [(Spec Try.prog 10 [(.agg (A7 x3.1))] [] (AV.list 3 Ba (default : TDep) x5 (.own 20000)) [(20000, .tok 3 37 x5.length)])] hq ⟨(Kq x3.1 x5 hx5), trivial⟩ ?_; refine As ⟨[(0, (Gp a_succ)), (5, (Ij x5)), (6, (.bool true))], (Jj x5), []⟩ hq ?_; refine Ae ?_; refine As ⟨[(0, (Gp a_succ)), (5, (Ij x5)), (6, (.bool true)), (7, (.int .i64 (0 : Int)))], (Jj x5), []⟩ hq ?_; refine Ak ?_; refine Af (st' := (fun ((b6, i7) : (Bool × Int)) => (⟨[(0, (Gp a_succ)), (5, (Ij x5)), (6, (.bool b6)), (7, (.int .i64 i7))], (Jj x5), []⟩ : St)) (true, (0 : Int))) (Le.refl _ _) ?_; obtain ⟨x17, hx17, h⟩ := bind_some h; refine Bf (fun ((b6, i7) : (Bool × Int)) => (⟨[(0, (Gp a_succ)), (5, (Ij x5)), (6, (.bool b6)), (7, (.int .i64 i7))], (Jj x5), []⟩ : St)) _ (fun (b8 : Bool) (e : Exit) (st : St) => e = (.exit 0) ∧ Le Γ st (⟨[(0, (Gp a_succ)), (5, (Ij x5)), (6, (.bool b8))], (Jj x5), []⟩ : St)) ?_ hx17 ?_
        · rintro ⟨b6, i7⟩ y h; unfold Bp at h; refine Ae ?_; refine As ⟨[(0, (Gp a_succ)), (5, (Ij x5)), (6, (.bool b6)), (7, (.int .i64 i7)), (37, (.bool (decide ((i7 : Int) < (a_succ.length : Int)))))], (Jj x5), []⟩ hq ?_; refine Ai (decide ((i7 : Int) < (a_succ.length : Int))) (by kernel_rfl) (fun hb => ?_) (fun hb => ?_)
          · replace h := Ar hb h; clear hb; refine Ag ?_; refine Aa ?_; refine Ae ?_; refine Ak ?_; refine As ⟨[(0, (Gp a_succ)), (5, (Ij x5)), (6, (.bool b6)), (7, (.int .i64 i7)), (8, (.int .i64 (0 : Int)))], (Jj x5), []⟩ hq ?_; refine Ak ?_; refine Af (st' := (fun ((b9, i10) : (Bool × Int)) => (⟨[(0, (Gp a_succ)), (5, (Ij x5)), (6, (.bool b9)), (7, (.int .i64 i7)), (8, (.int .i64 i10))], (Jj x5), []⟩ : St)) (b6, (0 : Int))) (Le.refl _ _) ?_; obtain ⟨x15, hx15, h⟩ := bind_some h; refine Bf (fun ((b9, i10) : (Bool × Int)) => (⟨[(0, (Gp a_succ)), (5, (Ij x5)), (6, (.bool b9)), (7, (.int .i64 i7)), (8, (.int .i64 i10))], (Jj x5), []⟩ : St)) _ (fun (b11 : Bool) (e : Exit) (st : St) => e = (.exit 2) ∧ Le Γ st (⟨[(0, (Gp a_succ)), (5, (Ij x5)), (6, (.bool b11)), (7, (.int .i64 i7))], (Jj x5), []⟩ : St)) ?_ hx15 ?_
            · rintro ⟨b9, i10⟩ y h; unfold Bs at h; refine Ae ?_; obtain ⟨hc12, h⟩ := Ab h; refine B9 [] [] ⟨[(0, (Gp a_succ)), (5, (Ij x5)), (6, (.bool b9)), (7, (.int .i64 i7)), (8, (.int .i64 i10)), (46, (.bool (decide ((i10 : Int) < ((a_succ.getD (i7).toNat []).length : Int)))))], (Jj x5), []⟩ [(A8 i7 a_succ.length)] hq ⟨hc12, trivial⟩ ?_; refine Ai (decide ((i10 : Int) < ((a_succ.getD (i7).toNat []).length : Int))) (by kernel_rfl) (fun hb => ?_) (fun hb => ?_)
              · replace h := Ar hb h; clear hb; refine Ag ?_; refine Aa ?_; refine Ae ?_; refine Ak ?_; obtain ⟨hc13, h⟩ := Ab h; obtain ⟨hc14, h⟩ := Ab h; refine rg [] [] ⟨[(0, (Gp a_succ)), (5, (Ij x5)), (6, (.bool (bif b9 then (decide ((i7 : Int) < ((a_succ.getD (i7).toNat []).getD (i10).toNat (0 : Int)))) else false))), (7, (.int .i64 i7)), (8, (.int .i64 i10))], (Jj x5), []⟩ [((b9 == true) = true → (b9 == true) = true), ((b9 == true) = true → (b9 == true) = true), ((b9 == true) = true → (A8 i7 a_succ.length)), ((b9 == true) = true → (b9 == true) = true), ((b9 == true) = true → (b9 == true) = true), ((b9 == true) = true → (b9 == true) = true), ((b9 == true) = true → (A8 i10 (a_succ.getD (i7).toNat []).length)), ((b9 == true) = true → (b9 == true) = true), ((b9 == true) = true → (b9 == true) = true), ((b9 == true) = true → (b9 == true) = true), (b9 = true → (b9 == true) = true)] hq ⟨(fun hg => hg), (fun hg => hg), (fun hg => (hc13 hg)), (fun hg => hg), (fun hg => hg), (fun hg => hg), (fun hg => (hc14 hg)), (fun hg => hg), (fun hg => hg), (fun hg => hg), gT, trivial⟩ ?_; refine An ?_; refine Aa ?_; refine M8 ⟨[(0, (Gp a_succ)), (5, (Ij x5)), (6, (.bool (bif b9 then (decide ((i7 : Int) < ((a_succ.getD (i7).toNat []).getD (i10).toNat (0 : Int)))) else false))), (7, (.int .i64 i7)), (8, (.int .i64 (Bi (i10 + (1 : Int)))))], (Jj x5), []⟩ hq ?_; obtain rfl := OI h; exact ⟨rfl, Le.refl _ _⟩
              · replace h := Au hb h; clear hb; refine Bg ?_; refine A4 ?_; obtain rfl := OI h; exact ⟨(by intro hh; cases hh), rfl, E3 [0, 5, 6, 7] [33] hq⟩
            · clear hx15; rintro e st' ⟨rfl, hl16⟩; refine A0 ?_; refine An ?_; refine Aa ?_; refine Af hl16 ?_; refine M8 ⟨[(0, (Gp a_succ)), (5, (Ij x5)), (6, (.bool x15)), (7, (.int .i64 (Bi (i7 + (1 : Int)))))], (Jj x5), []⟩ hq ?_; obtain rfl := OI h; exact ⟨rfl, Le.refl _ _⟩
          · replace h := Au hb h; clear hb; refine Bg ?_; refine A4 ?_; obtain rfl := OI h; exact ⟨(by intro hh; cases hh), rfl, E3 [0, 5, 6] [33] hq⟩
        · clear hx17; rintro e st' ⟨rfl, hl18⟩; refine A0 ?_; refine Aa ?_; refine Af hl18 ?_; refine Ae ?_; refine As ⟨[(0, (Gp a_succ)), (5, (Ij x5)), (6, (.bool x17)), (9, (.int .i64 (0 : Int)))], (Jj x5), []⟩ hq ?_; refine Ak ?_; refine Af (st' := (fun (i19 : Int) => (⟨[(0, (Gp a_succ)), (5, (Ij x5)), (6, (.bool x17)), (9, (.int .i64 i19))], (Jj x5), []⟩ : St)) (0 : Int)) (Le.refl _ _) ?_; obtain ⟨x29, hx29, h⟩ := bind_some h; refine Bf (fun (i19 : Int) => (⟨[(0, (Gp a_succ)), (5, (Ij x5)), (6, (.bool x17)), (9, (.int .i64 i19))], (Jj x5), []⟩ : St)) _ (fun (x_ : (Unit ⊕ Bool)) (e : Exit) (st : St) => match x_ with | (.inl _) => e = (.exit 4) ∧ Le Γ st (⟨[], [], []⟩ : St) | (.inr r_) => e = .ret ∧ Kb Try.prog Try.f5.results.toList [] (.bool r_) [] e st) ?_ hx29 ?_
          · intro i19 y h; unfold Bt at h; refine Ae ?_; refine As ⟨[(0, (Gp a_succ)), (5, (Ij x5)), (6, (.bool x17)), (9, (.int .i64 i19)), (64, (.bool (decide ((i19 : Int) < (x5.length : Int)))))], (Jj x5), []⟩ hq ?_; refine Ai (decide ((i19 : Int) < (x5.length : Int))) (by kernel_rfl) (fun hb => ?_) (fun hb => ?_)
            · replace h := Ar hb h; clear hb; refine Ag ?_; refine Aa ?_; refine Ae ?_; refine Ak ?_; obtain ⟨hc20, h⟩ := Ab h; refine B9 [] [] ⟨[(0, (Gp a_succ)), (5, (Ij x5)), (6, (.bool x17)), (9, (.int .i64 i19)), (10, (.ptr 10 0))], (Q421 x5 i19), []⟩ [(A8 i19 x5.length)] hq ⟨hc20, trivial⟩ ?_; refine Ae ?_; obtain ⟨hc21, h⟩ := Ab h; obtain ⟨x22, hx22, h⟩ := bind_some h; obtain ⟨hc23, h⟩ := Ab h; refine B9 [⟨[], [], (.bool x22), [], []⟩] [] ⟨[(0, (Gp a_succ)), (5, (Ij x5)), (6, (.bool x17)), (9, (.int .i64 i19)), (10, (.ptr 10 0)), (110, (.bool (Q429 x5 i19 a_succ x22 x17)))], (Q421 x5 i19), []⟩ [((Vg x5 i19) = true → (Vg x5 i19) = true), ((Vg x5 i19) = true → (Vg x5 i19) = true), ((Vg x5 i19) = true → (Vg x5 i19) = true), ((Vg x5 i19) = true → (Vg x5 i19) = true), ((decide (((G1 x5 i19).On : Int) < (0 : Int))) = false → (Vg x5 i19) = true), ((Kk x5 i19 a_succ) = true → (Kk x5 i19 a_succ) = true), ((Kk x5 i19 a_succ) = true → (Kk x5 i19 a_succ) = true), ((Kk x5 i19 a_succ) = true → (Kk x5 i19 a_succ) = true), ((Kk x5 i19 a_succ) = true → (A8 (G1 x5 i19).On a_succ.length)), ((Kk x5 i19 a_succ) = true → (Kk x5 i19 a_succ) = true), ((Kk x5 i19 a_succ) = true → (Kk x5 i19 a_succ) = true), ((Kk x5 i19 a_succ) = true → (Kk x5 i19 a_succ) = true), ((Kk x5 i19 a_succ) = true → (Kk x5 i19 a_succ) = true), ((Kk x5 i19 a_succ) = true → (Spec Try.prog 18 [(AV.list 1 Ac (0 : Int) (a_succ.getD ((G1 x5 i19).On).toNat []) .none), (.int .i64 (G1 x5 i19).To)] [] (.bool x22) [])), ((Kk x5 i19 a_succ) = true → (Kk x5 i19 a_succ) = true), ((Q412 x5 i19 a_succ) = false → (Kk x5 i19 a_succ) = true), ((Q435 x5 i19 a_succ x22) = true → (Q435 x5 i19 a_succ x22) = true), ((Nk x5 i19 a_succ x22 x17) = true → (Nk x5 i19 a_succ x22 x17) = true), ((Nk x5 i19 a_succ x22 x17) = true → (Nk x5 i19 a_succ x22 x17) = true), ((Nk x5 i19 a_succ x22 x17) = true → (Nk x5 i19 a_succ x22 x17) = true), ((Nk x5 i19 a_succ x22 x17) = true → (Nk x5 i19 a_succ x22 x17) = true), ((Nk x5 i19 a_succ x22 x17) = true → (Nk x5 i19 a_succ x22 x17) = true), ((Oq x5 i19 a_succ x22 x17) = true → (Oq x5 i19 a_succ x22 x17) = true), ((Oq x5 i19 a_succ x22 x17) = true → (Oq x5 i19 a_succ x22 x17) = true), ((Oq x5 i19 a_succ x22 x17) = true → (Oq x5 i19 a_succ x22 x17) = true), ((Oq x5 i19 a_succ x22 x17) = true → (A8 (G1 x5 i19).On a_succ.length)), ((Oq x5 i19 a_succ x22 x17) = true → (Oq x5 i19 a_succ x22 x17) = true), ((Oq x5 i19 a_succ x22 x17) = true → (Oq x5 i19 a_succ x22 x17) = true), ((Oq x5 i19 a_succ x22 x17) = true → (Oq x5 i19 a_succ x22 x17) = true), ((Nk x5 i19 a_succ x22 x17) = true → (Nk x5 i19 a_succ x22 x17) = true), ((Nk x5 i19 a_succ x22 x17) = true → ((Q415 x5 i19) = false → (Oq x5 i19 a_succ x22 x17) = true)), ((Q435 x5 i19 a_succ x22) = true → (Q435 x5 i19 a_succ x22) = true), ((Q435 x5 i19 a_succ x22) = true → (x17 = true → (Nk x5 i19 a_succ x22 x17) = true)), ((bif (Q412 x5 i19 a_succ) then true else (!x22)) = false → (Q435 x5 i19 a_succ x22) = true)] hq ⟨(fun hg => hg), (fun hg => hg), (fun hg => hg), (fun hg => hg), gF, (fun hg => hg), (fun hg => hg), (fun hg => hg), (fun hg => (hc21 hg)), (fun hg => hg), (fun hg => hg), (fun hg => hg), (fun hg => hg), (fun hg => (Ll (a_succ.getD ((G1 x5 i19).On).toNat []) ((G1 x5 i19).To) x22 (Ar hg hx22))), (fun hg => hg), gF, (fun hg => hg), (fun hg => hg), (fun hg => hg), (fun hg => hg), (fun hg => hg), (fun hg => hg), (fun hg => hg), (fun hg => hg), (fun hg => hg), (fun hg => (hc23 hg)), (fun hg => hg), (fun hg => hg), (fun hg => hg), (fun hg => hg), (fun hg => (aF hg)), (fun hg => hg), (fun hg => (aT hg)), gF, trivial⟩ ?_; refine Ai (Q429 x5 i19 a_succ x22 x17) (by kernel_rfl) (fun hb => ?_) (fun hb => ?_)
              · replace h := Ar hb h; clear hb; refine As ⟨[(2, (.bool false))], [], []⟩ hq ?_; refine Aq ?_; refine Aw ?_; refine Bl ?_; refine Aw ?_; obtain rfl := OI h; exact ⟨(by intro hh; cases hh), rfl, ⟨.inl rfl, [], by kernel_rfl⟩⟩
              · replace h := Au hb h; clear hb; refine Ag ?_; refine Aa ?_; obtain ⟨hc24, h⟩ := Ab h; obtain ⟨hc25, h⟩ := Ab h; obtain ⟨hc26, h⟩ := Ab h; obtain ⟨hc27, h⟩ := Ab h; obtain ⟨hc28, h⟩ := Ab h; refine B9 [] [] ⟨[(0, (Gp a_succ)), (5, (Ij x5)), (6, (.bool x17)), (9, (.int .i64 i19)), (167, (.bool (Q426 i19 x5)))], (Jj x5), []⟩ [((H3 i19) = true → (H3 i19) = true), ((H3 i19) = true → (H3 i19) = true), ((H3 i19) = true → (H3 i19) = true), ((H3 i19) = true → (A8 (Bi (i19 - (1 : Int))) x5.length)), ((H3 i19) = true → (H3 i19) = true), ((H3 i19) = true → (H3 i19) = true), ((H3 i19) = true → (H3 i19) = true), ((H3 i19) = true → (H3 i19) = true), ((H3 i19) = true → (H3 i19) = true), ((H3 i19) = true → (H3 i19) = true), ((H2 i19 x5) = true → (H2 i19 x5) = true), ((H2 i19 x5) = true → (H2 i19 x5) = true), ((H2 i19 x5) = true → (H2 i19 x5) = true), ((H2 i19 x5) = true → (A8 (Bi (i19 - (1 : Int))) x5.length)), ((H2 i19 x5) = true → (H2 i19 x5) = true), ((H2 i19 x5) = true → (H2 i19 x5) = true), ((H2 i19 x5) = true → (H2 i19 x5) = true), ((H2 i19 x5) = true → (H2 i19 x5) = true), ((H2 i19 x5) = true → (H2 i19 x5) = true), ((H2 i19 x5) = true → (H2 i19 x5) = true), ((H1 i19 x5) = true → (H1 i19 x5) = true), ((H1 i19 x5) = true → (H1 i19 x5) = true), ((H1 i19 x5) = true → (H1 i19 x5) = true), ((H1 i19 x5) = true → (A8 (Bi (i19 - (1 : Int))) x5.length)), ((H1 i19 x5) = true → (H1 i19 x5) = true), ((H1 i19 x5) = true → (H1 i19 x5) = true), ((H1 i19 x5) = true → (H1 i19 x5) = true), ((H1 i19 x5) = true → (H1 i19 x5) = true), ((H1 i19 x5) = true → (H1 i19 x5) = true), ((H1 i19 x5) = true → (H1 i19 x5) = true), ((H6 i19 x5) = true → (H6 i19 x5) = true), ((H6 i19 x5) = true → (H6 i19 x5) = true), ((H6 i19 x5) = true → (H6 i19 x5) = true), ((H6 i19 x5) = true → (A8 (Bi (i19 - (1 : Int))) x5.length)), ((H6 i19 x5) = true → (H6 i19 x5) = true), ((H6 i19 x5) = true → (H6 i19 x5) = true), ((H6 i19 x5) = true → (H6 i19 x5) = true), ((H6 i19 x5) = true → (H6 i19 x5) = true), ((H6 i19 x5) = true → (H6 i19 x5) = true), ((H6 i19 x5) = true → (H6 i19 x5) = true), ((K2 i19 x5) = true → (K2 i19 x5) = true), ((K2 i19 x5) = true → (K2 i19 x5) = true), ((K2 i19 x5) = true → (K2 i19 x5) = true), ((K2 i19 x5) = true → (A8 (Bi (i19 - (1 : Int))) x5.length)), ((K2 i19 x5) = true → (K2 i19 x5) = true), ((K2 i19 x5) = true → (K2 i19 x5) = true), ((K2 i19 x5) = true → (K2 i19 x5) = true), ((K2 i19 x5) = true → (K2 i19 x5) = true), ((K2 i19 x5) = true → (K2 i19 x5) = true), ((H6 i19 x5) = true → (H6 i19 x5) = true), ((H6 i19 x5) = true → ((Q414 x5 i19) = true → (K2 i19 x5) = true)), ((H1 i19 x5) = true → (H1 i19 x5) = true), ((H1 i19 x5) = true → ((decide (((G1 x5 i19).On : Int) < (x5.getD ((Bi (i19 - (1 : Int)))).toNat (default : TDep)).On)) = false → (H6 i19 x5) = true)), ((H2 i19 x5) = true → (H2 i19 x5) = true), ((H2 i19 x5) = true → ((((x5.getD ((Bi (i19 - (1 : Int)))).toNat (default : TDep)).Block : Int) == (G1 x5 i19).Block) = true → (H1 i19 x5) = true)), ((H3 i19) = true → (H3 i19) = true), ((H3 i19) = true → ((decide (((G1 x5 i19).Block : Int) < (x5.getD ((Bi (i19 - (1 : Int)))).toNat (default : TDep)).Block)) = false → (H2 i19 x5) = true)), ((decide (((0 : Int) : Int) < i19)) = true → (H3 i19) = true)] hq ⟨(fun hg => hg), (fun hg => hg), (fun hg => hg), (fun hg => (hc24 hg)), (fun hg => hg), (fun hg => hg), (fun hg => hg), (fun hg => hg), (fun hg => hg), (fun hg => hg), (fun hg => hg), (fun hg => hg), (fun hg => hg), (fun hg => (hc25 hg)), (fun hg => hg), (fun hg => hg), (fun hg => hg), (fun hg => hg), (fun hg => hg), (fun hg => hg), (fun hg => hg), (fun hg => hg), (fun hg => hg), (fun hg => (hc26 hg)), (fun hg => hg), (fun hg => hg), (fun hg => hg), (fun hg => hg), (fun hg => hg), (fun hg => hg), (fun hg => hg), (fun hg => hg), (fun hg => hg), (fun hg => (hc27 hg)), (fun hg => hg), (fun hg => hg), (fun hg => hg), (fun hg => hg), (fun hg => hg), (fun hg => hg), (fun hg => hg), (fun hg => hg), (fun hg => hg), (fun hg => (hc28 hg)), (fun hg => hg), (fun hg => hg), (fun hg => hg), (fun hg => hg), (fun hg => hg), (fun hg => hg), (fun hg => (aT hg)), (fun hg => hg), (fun hg => (aF hg)), (fun hg => hg), (fun hg => (aT hg)), (fun hg => hg), (fun hg => (aF hg)), gT, trivial⟩ ?_; refine Ai (Q426 i19 x5) (by kernel_rfl) (fun hb => ?_) (fun hb => ?_)
                · replace h := Ar hb h; clear hb; refine As ⟨[(2, (.bool false))], [], []⟩ hq ?_; refine Aq ?_; refine Bl ?_; refine Aw ?_; obtain rfl := OI h; exact ⟨(by intro hh; cases hh), rfl, ⟨.inl rfl, [], by kernel_rfl⟩⟩
                · replace h := Au hb h; clear hb; refine Ag ?_; refine An ?_; refine Aa ?_; refine M8 ⟨[(0, (Gp a_succ)), (5, (Ij x5)), (6, (.bool x17)), (9, (.int .i64 (Bi (i19 + (1 : Int)))))], (Jj x5), []⟩ hq ?_; obtain rfl := OI h; exact ⟨rfl, Le.refl _ _⟩
            · replace h := Au hb h; clear hb; refine Bg ?_; refine A4 ?_; obtain rfl := OI h; exact ⟨(by intro hh; cases hh), rfl, E3 [] [] hq⟩
          · clear hx29; rcases x29 with _ | r31
            · rintro e st' ⟨rfl, hl30⟩; refine A0 ?_; refine Aa ?_; refine Af hl30 ?_; refine As ⟨[(2, (.bool true))], [], []⟩ hq ?_; refine Aq ?_; obtain rfl := OI h; exact ⟨.inl rfl, [], by kernel_rfl⟩
            · rintro e st' ⟨rfl, hk⟩; refine Bl ?_; refine Aw ?_; obtain rfl := OI h; exact hk
end
end Go.Proofs.Ytjdddniaokcgnaa

namespace Go.Proofs.Ytjdddniaokcgnaa
noncomputable section
open Go Go.RowKit
theorem Jo {n : Int} (h : -9223372036854775808 ≤ n) (h' : n < 9223372036854775808) : Bi n = n := by
  show IntKind.i64.wrap n = n
  simp only [IntKind.wrap, IntKind.bits, IntKind.signed]
  simp
  split <;> omega
theorem Am {α : Type} (l : List α) (i : Nat) (d : α) (h : i < l.length) : l.getD i d = l[i] := by simp [List.getD, h]
end
end Go.Proofs.Ytjdddniaokcgnaa

namespace Go.Proofs.Ytjdddniaokcgnaa
noncomputable section
open Go Go.RowKit
set_option linter.unusedVariables false
theorem Sb {α β : Type} (l : List α) (E : α → List β) (B : Nat) (h : ∀ a ∈ l, (E a).length ≤ B) : (l.map E).flatten.length ≤ l.length * B := by
  induction l with
  | nil => simp
  | cons a l ih =>
    have h1 := h a (by simp); have h2 := ih (fun b hb => h b (by simp [hb])); rw [List.map_cons, List.flatten_cons, List.length_append, List.length_cons, Nat.add_mul]; omega
theorem Fp {α : Type} {l : List α} {i : Nat} {d : α} (h : i < l.length) : l.getD i d ∈ l := by rw [Am _ _ _ h]; exact List.getElem_mem h
theorem inB_nat {i n : Nat} (h : i < n) : A8 (i : Int) n := ⟨by omega, by exact_mod_cast h⟩
end
end Go.Proofs.Ytjdddniaokcgnaa

namespace Go.Proofs.Ytjdddniaokcgnaa
noncomputable section
open Go Go.RowKit
set_option linter.unusedVariables false
set_option linter.unusedSimpArgs false
theorem Eh {S X : Type} (f : S → Option (LR S X)) (T : Nat → S) (x : X) : ∀ (n : Nat), (∀ i, i < n → f (T i) = some (.next (T (i + 1)))) → f (T n) = some (.done x) → Ay f (T 0) = some x := by
  suffices h : ∀ (k i n : Nat), i + k = n → (∀ j, i ≤ j → j < n → f (T j) = some (.next (T (j + 1)))) → f (T n) = some (.done x) → Ay f (T i) = some x from
    fun n h1 h2 => h n 0 n (by omega) (fun j _ hj => h1 j hj) h2
  intro k
  induction k with
  | zero =>
    intro i n hi _ h2
    have hin : n = i := by omega
    subst hin; exact A1 h2
  | succ k ih => intro i n hi h1 h2; rw [Bb (h1 i (Nat.le_refl _) (by omega))]; exact ih (i + 1) n (by omega) (fun j hj hj' => h1 j (by omega) hj') h2
theorem Tb {S X : Type} (f : S → Option (LR S X)) (T : Nat → S) : ∀ (n : Nat), (∀ i, i < n → f (T i) = some (.next (T (i + 1)))) → Ay f (T 0) = Ay f (T n) := by
  intro n
  induction n with
  | zero => intro _; rfl
  | succ n ih => intro h; rw [ih (fun i hi => h i (by omega)), Bb (h n (by omega))]
theorem G8 {S X : Type} (f : S → Option (LR S X)) (T : Nat → S) (p : Nat → Bool) (yes no : X) (n : Nat) (hn : ∀ i, i < n → p i = true → f (T i) = some (.next (T (i + 1)))) (hf : ∀ i, i < n → p i = false → f (T i) = some (.done no))
    (he : f (T n) = some (.done yes)) : Ay f (T 0) = some (bif (List.range n).all p then yes else no) := by
  cases hall : (List.range n).all p with
  | true =>
    rw [cond_true]; exact Eh f T yes n (fun i hi => hn i hi (List.all_eq_true.1 hall i (List.mem_range.2 hi))) he
  | false =>
    rw [cond_false]
    have hex : ∃ i, i < n ∧ p i = false := by
      have : ¬ ∀ i ∈ List.range n, p i = true := fun h => by rw [List.all_eq_true.2 h] at hall; cases hall
      simpa using this
    let P : Nat → Prop := fun m => m < n ∧ p m = false
    obtain ⟨m, hm⟩ := hex
    have key : ∀ m, m < n → p m = false → ∃ k, k < n ∧ p k = false ∧ ∀ j, j < k → p j = true := by
      intro m
      induction m using Nat.strongRecOn with
      | ind m ih =>
        intro h1 h2
        by_cases h : ∃ j, j < m ∧ p j = false
        · obtain ⟨j, hj, hpj⟩ := h; exact ih j hj (by omega) hpj
        · refine ⟨m, h1, h2, fun j hj => ?_⟩
          cases hpj : p j with
          | true => rfl
          | false => exact (h ⟨j, hj, hpj⟩).elim
    obtain ⟨k, hk, hpk, hlt⟩ := key m hm.1 hm.2; rw [Tb f T k (fun i hi => hn i (by omega) (hlt i hi))]; exact A1 (hf k hk hpk)
theorem all_range {n : Nat} {p : Nat → Bool} : (List.range n).all p = true ↔ ∀ i, i < n → p i = true := by
  rw [List.all_eq_true]; exact ⟨fun h i hi => h i (List.mem_range.2 hi), fun h i hi => h i (List.mem_range.1 hi)⟩
theorem Ao (i : Nat) : ((i : Int)).toNat = i := Int.toNat_natCast i
theorem w1 {i : Nat} (h : i < 4611686018427387904) : Bi ((i : Int) + 1) = ((i + 1 : Nat) : Int) := by rw [Jo (by omega) (by omega)]; omega
theorem Cx {i n : Nat} (h : i < n) : decide (((i : Nat) : Int) < ((n : Nat) : Int)) = true := by simpa using h
theorem Ej {n : Nat} : decide (((n : Nat) : Int) < ((n : Nat) : Int)) = false := by simp
theorem D3 {i n : Nat} (h : i < n) : A8 ((i : Nat) : Int) n := inB_nat h
theorem inbz {x : Int} {n : Nat} (h0 : 0 ≤ x) (h1 : x < n) : A8 x n := ⟨h0, h1⟩
def okAt (n : Nat) (l : List Int) (i : Nat) : Bool := decide ((if i = 0 then (-1 : Int) else l.getD (i - 1) 0) < l.getD i 0) && (decide (0 ≤ l.getD i 0) && decide (l.getD i 0 < n))
def okL (n : Nat) (l : List Int) : Bool := (List.range l.length).all (okAt n l)
def Ds (L : List (List Int)) : Bool := decide (1 ≤ L.length) && decide (L.length ≤ 64) && (List.range L.length).all fun i => okL L.length (L.getD i [])
def Hz (L : List (List Int)) (k i : Nat) : Bool := (L.getD k []).contains (i : Int)
def D0 (L : List (List Int)) (m i : Nat) : List Int := ((List.range m).filter fun k => Hz L k i).map Int.ofNat
def Br (L : List (List Int)) : List (List Int) := (List.range L.length).map (D0 L L.length)
theorem Mh (a n : Int) : Ed a n = some (decide (0 ≤ a) && decide (a < n)) := by
  unfold Ed
  cases decide ((0 : Int) ≤ a) <;> rfl
theorem m_isCount (n : Nat) : Fa (n : Int) = some (decide (1 ≤ n) && decide (n ≤ 64)) := by
  unfold Fa
  have h1 : decide ((1 : Int) ≤ (n : Int)) = decide (1 ≤ n) := by apply decide_eq_decide.2; omega
  have h2 : decide ((n : Int) ≤ (64 : Int)) = decide (n ≤ 64) := by apply decide_eq_decide.2; omega
  rw [h1, h2]
  cases decide (1 ≤ n) <;> rfl
theorem R4 (L : List (List Int)) (i : Nat) (hl : (L.getD i []).length < 4611686018427387904) :
    Ay (B5 L (i : Int)) ((-1 : Int), (0 : Int)) = some (bif okL L.length (L.getD i []) then .inl () else .inr false) := by
  refine G8 (B5 L (i : Int)) (fun j => ((if j = 0 then (-1 : Int) else (L.getD i []).getD (j - 1) 0), ((j : Nat) : Int))) (okAt L.length (L.getD i [])) (.inl ()) (.inr false) _ (fun j hj hp => ?_) (fun j hj hp => ?_) ?_
  · unfold okAt at hp; simp only [Bool.and_eq_true, decide_eq_true_eq] at hp; obtain ⟨h1, h2, h3⟩ := hp
    show B5 L (i : Int) (_, _) = _
    unfold B5; simp only [Ao, Cx hj, cond_true, Mh]; rw [Ad (D3 hj)]
    have e1 : decide ((L.getD i []).getD j 0 ≤ (if j = 0 then (-1 : Int) else (L.getD i []).getD (j - 1) 0)) = false := by simpa using h1
    simp only [e1, decide_eq_true h2, decide_eq_true h3, Bool.and_self, beq_self_eq_true, cond_true, cond_false, Option.bind_some, Bool.not_true]; rw [w1 (show j < 4611686018427387904 by omega)]
    simp
  · show B5 L (i : Int) (_, _) = _
    unfold B5; simp only [Ao, Cx hj, cond_true, Mh]; rw [Ad (D3 hj)]
    cases h1 : decide ((L.getD i []).getD j 0 ≤ (if j = 0 then (-1 : Int) else (L.getD i []).getD (j - 1) 0)) with
    | true => simp only [cond_true, show ((true == false) = false) from rfl, cond_false, Option.bind_some]
    | false =>
      have h1' : decide ((if j = 0 then (-1 : Int) else (L.getD i []).getD (j - 1) 0) < (L.getD i []).getD j 0) = true := by simpa using h1
      unfold okAt at hp; rw [h1', Bool.true_and] at hp; simp only [beq_self_eq_true, cond_true, cond_false, Option.bind_some, hp, Bool.not_false]
  · show B5 L (i : Int) (_, _) = _
    unfold B5; simp only [Ao, Ej, cond_false]
def Fits (L : List (List Int)) : Prop := L.length < 4611686018427387904 ∧ ∀ l ∈ L, l.length < 4611686018427387904
theorem Fits.at {L : List (List Int)} (h : Fits L) (i : Nat) : (L.getD i []).length < 4611686018427387904 := by
  by_cases hi : i < L.length
  · exact h.2 _ (Fp hi)
  · rw [List.getD_eq_getElem?_getD, List.getElem?_eq_none (by omega)]; simp
theorem Uq (L : List (List Int)) (h : Fits L) : Ee L = some (Ds L) := by
  unfold Ee; rw [m_isCount, Option.bind_some]; unfold Ds
  cases hc : (decide (1 ≤ L.length) && decide (L.length ≤ 64)) with
  | false => rfl
  | true =>
    simp only [Bool.not_true, cond_false, Bool.true_and]; have := G8 (B4 L) (fun j => ((j : Nat) : Int)) (fun i => okL L.length (L.getD i [])) (.inl ()) (.inr false) L.length (fun j hj hp => ?_) (fun j hj hp => ?_) ?_
    · rw [show Ay (B4 L) (0 : Int) = _ from this]
      cases (List.range L.length).all fun i => okL L.length (L.getD i []) <;> rfl
    · show B4 L (j : Int) = _
      unfold B4; simp only [Cx hj, cond_true]; rw [Ad (D3 hj), R4 L j (h.at j), hp]; simp only [cond_true, Option.bind_some, w1 (show j < 4611686018427387904 by have := h.1; omega)]
    · show B4 L (j : Int) = _
      unfold B4; simp only [Cx hj, cond_true]; rw [Ad (D3 hj), R4 L j (h.at j), hp]
      rfl
    · show B4 L _ = _
      unfold B4; simp only [Ej, cond_false]
end
end Go.Proofs.Ytjdddniaokcgnaa

namespace Go.Proofs.Ytjdddniaokcgnaa
noncomputable section
open Go Go.RowKit
set_option linter.unusedVariables false
set_option linter.unusedSimpArgs false
theorem Ia {α : Type} {n i : Nat} {g : Nat → α} {d : α} (h : i < n) : ((List.range n).map g).getD i d = g i := by simp [List.getD, h]
theorem Nf {α : Type} {n i : Nat} {g : Nat → α} {x : α} : ((List.range n).map g).set i x = (List.range n).map fun j => if j = i then x else g j := by
  apply List.ext_getElem?
  intro j; rw [List.getElem?_set]
  by_cases hj : j < n
  · by_cases hij : i = j
    · subst hij; simp [hj]
    · simp [hij, hj, Ne.symm hij]
  · simp [hj]; intro h; omega
theorem Fq {α : Type} {n : Nat} {g h : Nat → α} (H : ∀ i, i < n → g i = h i) : (List.range n).map g = (List.range n).map h := List.map_congr_left fun i hi => H i (List.mem_range.1 hi)
theorem mayS_iff {L : List (List Int)} : Ds L = true ↔ 1 ≤ L.length ∧ L.length ≤ 64 ∧ ∀ i, i < L.length → okL L.length (L.getD i []) = true := by
  unfold Ds; rw [Bool.and_eq_true, Bool.and_eq_true, all_range]; simp only [decide_eq_true_eq]; exact ⟨fun ⟨⟨a, b⟩, c⟩ => ⟨a, b, c⟩, fun ⟨a, b, c⟩ => ⟨⟨a, b⟩, c⟩⟩
theorem okL_iff {n : Nat} {l : List Int} : okL n l = true ↔ ∀ i, i < l.length → (0 ≤ l.getD i 0 ∧ l.getD i 0 < n) ∧ (0 < i → l.getD (i - 1) 0 < l.getD i 0) := by
  unfold okL; rw [all_range]; unfold okAt; simp only [Bool.and_eq_true, decide_eq_true_eq]
  constructor
  · intro h i hi; obtain ⟨h1, h2, h3⟩ := h i hi; refine ⟨⟨h2, h3⟩, fun hp => ?_⟩; rwa [if_neg (by omega)] at h1
  · intro h i hi; obtain ⟨⟨h2, h3⟩, h1⟩ := h i hi; refine ⟨?_, h2, h3⟩
    by_cases hz : i = 0
    · rw [if_pos hz]; omega
    · rw [if_neg hz]; exact h1 (by omega)
section
variable {n : Nat} {l : List Int} (h : okL n l = true)
include h
theorem Np {i : Nat} (hi : i < l.length) : 0 ≤ l.getD i 0 ∧ l.getD i 0 < n := (okL_iff.1 h i hi).1
theorem U8 {i j : Nat} (hij : i < j) (hj : j < l.length) : l.getD i 0 < l.getD j 0 := by
  induction j with
  | zero => omega
  | succ j ih =>
    have h1 := (okL_iff.1 h (j + 1) hj).2 (by omega); rw [show j + 1 - 1 = j by omega] at h1
    by_cases he : i = j
    · rw [he]; exact h1
    · exact Int.lt_trans (ih (by omega) (by omega)) h1
theorem okL_ge {i : Nat} (hi : i < l.length) : (i : Int) ≤ l.getD i 0 := by
  induction i with
  | zero => exact (Np h hi).1
  | succ i ih =>
    have := U8 h (show i < i + 1 by omega) hi; have := ih (by omega); omega
theorem Mb : l.length ≤ n := by
  by_cases hz : l.length = 0
  · omega
  · have h1 := okL_ge h (show l.length - 1 < l.length by omega); have h2 := (Np h (show l.length - 1 < l.length by omega)).2; omega
theorem Jb {x : Int} (hx : x ∈ l) : 0 ≤ x ∧ x < n := by
  obtain ⟨i, hi, rfl⟩ := List.getElem_of_mem hx; have := Np h hi; rwa [Am _ _ _ hi] at this
theorem Xw : l.Pairwise (· < ·) := by
  rw [List.pairwise_iff_getElem]; intro i j hi hj hij; have := U8 h hij hj; rwa [Am _ _ _ hi, Am _ _ _ hj] at this
end
theorem okL_of {n : Nat} {l : List Int} (h1 : ∀ x ∈ l, 0 ≤ x ∧ x < n) (h2 : l.Pairwise (· < ·)) : okL n l = true := by
  rw [okL_iff]; intro i hi; rw [Am _ _ _ hi]; refine ⟨h1 _ (List.getElem_mem hi), fun hp => ?_⟩; rw [Am _ _ _ (show i - 1 < l.length by omega)]; exact (List.pairwise_iff_getElem.1 h2) _ _ _ _ (by omega)
theorem Ft {L : List (List Int)} (h : Ds L = true) : L.length ≤ 64 ∧ ∀ l ∈ L, l.length ≤ 64 := by
  obtain ⟨h1, h2, h3⟩ := mayS_iff.1 h; refine ⟨h2, fun l hl => ?_⟩; obtain ⟨i, hi, rfl⟩ := List.getElem_of_mem hl; have := Mb (h3 i hi); rw [Am _ _ _ hi] at this; omega
theorem Re {L : List (List Int)} (h : L.length ≤ 1000 ∧ ∀ l ∈ L, l.length ≤ 1000) : Fits L := ⟨by omega, fun l hl => by have := h.2 l hl; omega⟩
theorem m_clone (l : List Int) (h : l.length ≤ room) : Cv l = some l := by
  unfold Cv; rw [Ad (by simpa using h)]
  simp
theorem Rh (L : List (List Int)) (h : L.length ≤ 1000 ∧ ∀ l ∈ L, l.length ≤ 1000) : D8 L = some L := by
  have hroom : (1000 : Nat) ≤ room := by decide
  unfold D8; rw [Ad ⟨by omega, Int.le_refl _, by omega⟩, Ao]; have : Ay (C1 L) ((0 : Int), (List.range L.length).map fun i => if i < 0 then L.getD i [] else []) = some L := Eh (C1 L) (fun j => (((j : Nat) : Int), (List.range L.length).map fun i => if i < j then L.getD i [] else [])) L L.length (fun j hj => ?_) ?_
  · have e0 : (List.replicate L.length ([] : List Int)) = (List.range L.length).map fun i => if i < 0 then L.getD i [] else [] := by
      apply List.ext_getElem?
      intro i
      by_cases hi : i < L.length <;> simp [hi, List.getElem?_replicate]
    rw [e0, this]; rfl
  · show C1 L (_, _) = _
    unfold C1; simp only [Ao, Cx hj, cond_true]; rw [Ad (D3 hj), m_clone _ (by have := h.2 _ (Fp (d := []) hj); omega), Option.bind_some, Ad (D3 (by simpa using hj)), Nf, w1 (by omega)]
    congr 3
    apply Fq
    intro i hi
    by_cases h1 : i = j
    · subst h1; simp
    · by_cases h2 : i < j
      · simp [h1, h2, show i < j + 1 by omega]
      · simp [h1, h2, show ¬ i < j + 1 by omega]
  · show C1 L (_, _) = _
    unfold C1; simp only [Ej, cond_false]
    congr 2
    apply List.ext_getElem?
    intro i
    by_cases hi : i < L.length
    · simp [hi]
    · simp [hi]
theorem X8 (L : List (List Int)) (k i : Nat) : D0 L (k + 1) i = D0 L k i ++ (if Hz L k i = true then [(k : Int)] else []) := by
  unfold D0; rw [List.range_succ, List.filter_append, List.map_append]
  congr 1
  cases hg : Hz L k i <;> simp [hg]
theorem Kg (L : List (List Int)) (k i : Nat) : (D0 L k i).length ≤ k := by
  unfold D0; rw [List.length_map]; have := List.length_filter_le (fun k => Hz L k i) (List.range k)
  simpa using this
theorem Uk {l : List Int} {j : Nat} (hj : j < l.length) : l.take (j + 1) = l.take j ++ [l.getD j 0] := by
  rw [Am _ _ _ hj, List.take_succ_eq_append_getElem hj]
def Jl (L : List (List Int)) (k j i : Nat) : Bool := ((L.getD k []).take j).contains (i : Int)
def Fn (L : List (List Int)) (k j : Nat) : List (List Int) := (List.range L.length).map fun i => D0 L k i ++ (if Jl L k j i = true then [(k : Int)] else [])
theorem X1 (L : List (List Int)) (h : Ds L = true) (k j : Nat) (hk : k < L.length) (hj : j < (L.getD k []).length) :
    (Fn L k j).set ((L.getD k []).getD j 0).toNat ((Fn L k j).getD ((L.getD k []).getD j 0).toNat [] ++ [(k : Int)]) = Fn L k (j + 1) := by
  obtain ⟨h1, h2, h3⟩ := mayS_iff.1 h; have hok := h3 k hk; obtain ⟨a0, a1⟩ := Np hok hj; unfold Fn; rw [Ia (by omega), Nf]
  apply Fq
  intro i hi
  have hnot : Jl L k j ((L.getD k []).getD j 0).toNat = false := by
    unfold Jl; rw [Int.toNat_of_nonneg a0]
    cases hc : ((L.getD k []).take j).contains ((L.getD k []).getD j 0) with
    | false => rfl
    | true =>
      rw [List.contains_iff_mem] at hc; obtain ⟨m, hm, he⟩ := List.getElem_of_mem hc
      have hm' : m < j := by simp at hm; omega
      rw [List.getElem_take] at he; have := U8 hok hm' hj; rw [Am _ _ _ (show m < (L.getD k []).length by omega), he] at this; omega
  by_cases hi2 : i = ((L.getD k []).getD j 0).toNat
  · rw [if_pos hi2, hnot]
    have : Jl L k (j + 1) i = true := by
      unfold Jl; rw [Uk hj, List.contains_iff_mem, hi2, Int.toNat_of_nonneg a0]
      simp
    rw [this, hi2]
    simp
  · rw [if_neg hi2]
    have : Jl L k (j + 1) i = Jl L k j i := by
      unfold Jl; rw [Uk hj, Bool.eq_iff_iff, List.contains_iff_mem, List.contains_iff_mem, List.mem_append]
      constructor
      · rintro (hm | hm)
        · exact hm
        · simp only [List.mem_singleton] at hm; exact (hi2 (by omega)).elim
      · exact .inl
    rw [this]
theorem W9 (L : List (List Int)) (h : Ds L = true) : Es L = some (Br L) := by
  obtain ⟨h1, h2, h3⟩ := mayS_iff.1 h
  have hroom : (1000 : Nat) ≤ room := by decide
  unfold Es; rw [Ad ⟨by omega, Int.le_refl _, by omega⟩, Ao]
  have inner : ∀ k, k < L.length → Ay (Cz L (k : Int)) ((0 : Int), Fn L k 0) = some (Fn L k (L.getD k []).length) := fun k hk => by
    have hok := h3 k hk; refine Eh (Cz L (k : Int)) (fun j => (((j : Nat) : Int), Fn L k j)) (Fn L k (L.getD k []).length) (L.getD k []).length (fun j hj => ?_) ?_
    · obtain ⟨a0, a1⟩ := Np hok hj
      have hlen : (Fn L k j).length = L.length := by simp [Fn]
      have hl64 := Mb hok
      show Cz L (k : Int) (_, _) = _
      unfold Cz; simp only [Ao, Cx hj, cond_true]; have hb : A8 ((L.getD k []).getD j 0) (Fn L k j).length := ⟨a0, by rw [hlen]; exact a1⟩
      have hrow : ((Fn L k j).getD ((L.getD k []).getD j 0).toNat []).length ≤ k + 1 := by
        unfold Fn; rw [Ia (by omega), List.length_append]; have := Kg L k ((L.getD k []).getD j 0).toNat
        split
        · rw [List.length_singleton]; omega
        · rw [List.length_nil]; omega
      rw [Ad (D3 hj), Ad hb, Ad hb, Ad (by simp only [List.length_singleton]; omega), Ad hb, X1 L h k j hk hj, w1 (by omega)]
    · show Cz L (k : Int) (_, _) = _
      unfold Cz; simp only [Ao, Ej, cond_false]
  have r0 : ∀ k, Fn L k 0 = (List.range L.length).map (D0 L k) := fun k => by
    unfold Fn
    apply Fq
    intro i _; simp [Jl]
  have r1 : ∀ k, Fn L k (L.getD k []).length = (List.range L.length).map (D0 L (k + 1)) := fun k => by
    unfold Fn
    apply Fq
    intro i _; rw [X8]; unfold Jl Hz; rw [List.take_length]
  have : Ay (C0 L) ((0 : Int), (List.range L.length).map (D0 L 0)) = some (Br L) := Eh (C0 L) (fun k => (((k : Nat) : Int), (List.range L.length).map (D0 L k))) (Br L) L.length (fun k hk => ?_) ?_
  · have e0 : (List.replicate L.length ([] : List Int)) = (List.range L.length).map (D0 L 0) := by
      apply List.ext_getElem?
      intro i
      by_cases hi : i < L.length <;> simp [hi, List.getElem?_replicate, D0]
    rw [e0, this]; rfl
  · show C0 L (_, _) = _
    unfold C0; simp only [Cx hk, cond_true]; rw [Ad (D3 hk), ← r0, inner k hk, r1, w1 (by omega)]
    rfl
  · show C0 L (_, _) = _
    unfold C0; simp only [Ej, cond_false]
    rfl
end
end Go.Proofs.Ytjdddniaokcgnaa

namespace Go.Proofs.Ytjdddniaokcgnaa
noncomputable section
open Go Go.RowKit
set_option linter.unusedVariables false
set_option linter.unusedSimpArgs false
theorem L7 {α : Type} [DecidableEq α] {a b : List α} {d : α} (h : a.length = b.length) : ((List.range a.length).all fun i => decide (a.getD i d = b.getD i d)) = decide (a = b) := by
  rw [Bool.eq_iff_iff, all_range, decide_eq_true_eq]
  constructor
  · intro hall
    apply List.ext_getElem h
    intro i h1 h2; have := of_decide_eq_true (hall i h1); rwa [Am _ _ _ h1, Am _ _ _ h2] at this
  · rintro rfl i _
    simp
theorem V2 {a b : Nat} : (((a : Nat) : Int) != (b : Int)) = decide (a ≠ b) := by
  rw [Bool.eq_iff_iff, bne_iff_ne, decide_eq_true_eq]; omega
theorem Vn {a b : Int} : (a != b) = !decide (a = b) := by
  rw [Bool.eq_iff_iff]
  simp
theorem m_equal (a b : List Int) (hb : b.length < 4611686018427387904) : Df a b = some (decide (a = b)) := by
  unfold Df; rw [V2]
  by_cases hl : a.length = b.length
  · rw [decide_eq_false (by simpa using hl), cond_false]; have : Ay (A9 a b) (0 : Int) = _ := G8 (A9 a b) (fun j => ((j : Nat) : Int)) (fun i => decide (a.getD i 0 = b.getD i 0)) (.inl ()) (.inr false) a.length (fun j hj hp => ?_) (fun j hj hp => ?_) ?_
    · rw [this, L7 hl]
      cases decide (a = b) <;> rfl
    · show A9 a b (j : Int) = _
      unfold A9; simp only [Ao, Cx hj, cond_true]; rw [Ad (D3 hj), Ad (D3 (by omega)), Vn, hp, w1 (by omega)]
      rfl
    · show A9 a b (j : Int) = _
      unfold A9; simp only [Ao, Cx hj, cond_true]; rw [Ad (D3 hj), Ad (D3 (by omega)), Vn, hp]
      rfl
    · show A9 a b _ = _
      unfold A9; simp only [Ej, cond_false]
  · rw [decide_eq_true (by simpa using hl), cond_true, decide_eq_false (fun h => hl (by rw [h]))]
theorem m_ints (a b : List Int) (ha : a.length < 4611686018427387904) : Ce a b = some (decide (a = b)) := by
  unfold Ce; rw [V2]
  by_cases hl : a.length = b.length
  · rw [decide_eq_false (by simpa using hl), cond_false]; have : Ay (Bh a b) (0 : Int) = _ := G8 (Bh a b) (fun j => ((j : Nat) : Int)) (fun i => decide (a.getD i 0 = b.getD i 0)) (.inl ()) (.inr false) a.length (fun j hj hp => ?_) (fun j hj hp => ?_) ?_
    · rw [this, L7 hl]
      cases decide (a = b) <;> rfl
    · show Bh a b (j : Int) = _
      unfold Bh; simp only [Ao, Cx hj, cond_true]; rw [Ad (D3 hj), Ad (D3 (by omega)), Vn, hp, w1 (by omega)]
      rfl
    · show Bh a b (j : Int) = _
      unfold Bh; simp only [Ao, Cx hj, cond_true]; rw [Ad (D3 hj), Ad (D3 (by omega)), Vn, hp]
      rfl
    · show Bh a b _ = _
      unfold Bh; simp only [Ej, cond_false]
  · rw [decide_eq_true (by simpa using hl), cond_true, decide_eq_false (fun h => hl (by rw [h]))]
theorem Wz (a b : List (List Int)) (hb : Fits b) : B0 a b = some (decide (a = b)) := by
  unfold B0; rw [V2]
  by_cases hl : a.length = b.length
  · rw [decide_eq_false (by simpa using hl), cond_false]; have hb1 := hb.1; have : Ay (At a b) (0 : Int) = _ := G8 (At a b) (fun j => ((j : Nat) : Int)) (fun i => decide (a.getD i [] = b.getD i [])) (.inl ()) (.inr false) a.length (fun j hj hp => ?_) (fun j hj hp => ?_) ?_
    · rw [this, L7 hl]
      cases decide (a = b) <;> rfl
    · show At a b (j : Int) = _
      unfold At; simp only [Ao, Cx hj, cond_true]; rw [Ad (D3 hj), Ad (D3 (by omega)), m_equal _ _ (hb.at j), hp, w1 (by omega)]
      rfl
    · show At a b (j : Int) = _
      unfold At; simp only [Ao, Cx hj, cond_true]; rw [Ad (D3 hj), Ad (D3 (by omega)), m_equal _ _ (hb.at j), hp]
      rfl
    · show At a b _ = _
      unfold At; simp only [Ej, cond_false]
  · rw [decide_eq_true (by simpa using hl), cond_true, decide_eq_false (fun h => hl (by rw [h]))]
theorem Cr (L : List (List Int)) : (Br L).length = L.length := by simp [Br]
theorem Gk {L : List (List Int)} {i : Nat} (hi : i < L.length) : (Br L).getD i [] = D0 L L.length i := by unfold Br; rw [Ia hi]
theorem Kd {L : List (List Int)} (h : Ds L = true) : (Br L).length ≤ 64 ∧ ∀ l ∈ Br L, l.length ≤ 64 := by
  obtain ⟨h1, _⟩ := Ft h; refine ⟨by rw [Cr]; exact h1, fun l hl => ?_⟩; obtain ⟨i, hi, rfl⟩ := List.mem_map.1 hl; have := Kg L L.length i; omega
theorem Im {L : List (List Int)} (h : L.length ≤ 64 ∧ ∀ l ∈ L, l.length ≤ 64) : Fits L := Re ⟨by omega, fun l hl => by have := h.2 l hl; omega⟩
theorem Vh {L : List (List Int)} (h : L.length ≤ 64 ∧ ∀ l ∈ L, l.length ≤ 64) : L.length ≤ 1000 ∧ ∀ l ∈ L, l.length ≤ 1000 := ⟨by omega, fun l hl => by have := h.2 l hl; omega⟩
def Ha (g : Aj) : Bool := Ds g.Succ && decide (g.Pred = Br g.Succ)
theorem Y0 (g : Aj) (h : Fits g.Succ) : Fo g = some (Ha g) := by
  unfold Fo Ha; rw [Uq _ h, Option.bind_some]
  cases hm : Ds g.Succ with
  | false => rfl
  | true =>
    simp only [beq_self_eq_true, cond_true, W9 _ hm, Option.bind_some, Wz _ _ (Im (Kd hm)), Bool.true_and]
def F8 (L : List (List Int)) : Aj := ⟨L, Br L⟩
def g0 : Aj := ⟨[], []⟩
theorem Zx (L : List (List Int)) (h : Fits L) : D2 L = some (bif Ds L then (F8 L, 0) else (g0, 5)) := by
  unfold D2; rw [Uq _ h, Option.bind_some]
  cases hm : Ds L with
  | false => rfl
  | true =>
    simp only [Bool.not_true, cond_false, Rh _ (Vh (Ft hm)), W9 _ hm, Option.bind_some]
    rfl
theorem Ju {L : List (List Int)} (h : Ds L = true) : Ha (F8 L) = true := by simp [Ha, F8, h]
theorem Rv (g : Aj) (h : Fits g.Succ) : C7 g = some (bif Ha g then ⟨g.Pred, g.Succ⟩ else g0) := by
  unfold C7; rw [Y0 _ h, Option.bind_some]
  cases hm : Ha g with
  | false => rfl
  | true =>
    have hm' := hm; unfold Ha at hm'; simp only [Bool.and_eq_true, decide_eq_true_eq] at hm'; simp only [Bool.not_true, cond_false, Rh _ (Vh (Ft hm'.1)), Option.bind_some]; rw [Rh _ (by rw [hm'.2]; exact Vh (Kd hm'.1))]
    rfl
theorem m_has (l : List Int) (x : Int) (h : l.length < 4611686018427387904) : Dj l x = some (l.contains x) := by
  unfold Dj; have : Ay (Bk l x) (0 : Int) = _ := G8 (Bk l x) (fun j => ((j : Nat) : Int)) (fun i => !decide (l.getD i 0 = x)) (.inl ()) (.inr true) l.length (fun j hj hp => ?_) (fun j hj hp => ?_) ?_
  · rw [this]
    have e : l.contains x = !((List.range l.length).all fun i => !decide (l.getD i 0 = x)) := by
      rw [Bool.eq_iff_iff, List.contains_iff_mem, Bool.not_eq_true', ← Bool.not_eq_true, all_range]
      constructor
      · intro hx hall; obtain ⟨i, hi, rfl⟩ := List.getElem_of_mem hx; have := hall i hi; rw [Am _ _ _ hi] at this; simp at this
      · intro hall
        by_cases hx : x ∈ l
        · exact hx
        · refine (hall fun i hi => ?_).elim; rw [Am _ _ _ hi]; simp only [Bool.not_eq_true', decide_eq_false_iff_not]; rintro rfl; exact hx (List.getElem_mem hi)
    rw [e]
    cases (List.range l.length).all fun i => !decide (l.getD i 0 = x) <;> rfl
  · show Bk l x (j : Int) = _
    unfold Bk; simp only [Ao, Cx hj, cond_true]
    have : (l.getD j 0 == x) = false := by simpa using hp
    rw [Ad (D3 hj), this, w1 (by omega)]
    rfl
  · show Bk l x (j : Int) = _
    unfold Bk; simp only [Ao, Cx hj, cond_true]
    have : (l.getD j 0 == x) = true := by simpa using hp
    rw [Ad (D3 hj), this]
    rfl
  · show Bk l x _ = _
    unfold Bk; simp only [Ej, cond_false]
end
end Go.Proofs.Ytjdddniaokcgnaa

namespace Go.Proofs.Ytjdddniaokcgnaa
noncomputable section
open Go Go.RowKit
set_option linter.unusedVariables false
set_option linter.unusedSimpArgs false
theorem Gr {L : List (List Int)} (h : Ds L = true) : Fits (F8 L).Succ ∧ Fits (F8 L).Pred := ⟨Im (Ft h), Im (Kd h)⟩
def Sq (L : List (List Int)) : Bool := (List.range L.length).all fun i => decide ((L.getD i []).length ≤ 100) && decide (i ≤ 100)
theorem m_small (L : List (List Int)) (hL : L.length < 9223372036854775808) : Dn L = some (Sq L) := by
  unfold Dn
  have step : ∀ j : Nat, j < L.length → Bd L (j : Int) = bif (decide ((L.getD j []).length ≤ 100) && decide (j ≤ 100)) then some (.next (((j + 1 : Nat) : Int))) else some (.done (.inr false)) := fun j hj => by
    unfold Bd; simp only [Ao, Cx hj, cond_true]; rw [Ad (D3 hj)]
    have hw : Bi ((j : Int) + 1) = ((j + 1 : Nat) : Int) := by rw [Jo (by omega) (by omega)]; omega
    rw [hw]
    by_cases h1 : (L.getD j []).length ≤ 100
    · rw [decide_eq_true h1, decide_eq_false (show ¬ (100 : Int) < ((L.getD j []).length : Int) by omega)]
      by_cases h2 : j ≤ 100
      · rw [decide_eq_true h2, decide_eq_false (show ¬ (100 : Int) < (j : Int) by omega)]; rfl
      · rw [decide_eq_false h2, decide_eq_true (show (100 : Int) < (j : Int) by omega)]; rfl
    · rw [decide_eq_false h1, decide_eq_true (show (100 : Int) < ((L.getD j []).length : Int) by omega)]; rfl
  have : Ay (Bd L) (0 : Int) = _ := G8 (Bd L) (fun j => ((j : Nat) : Int)) (fun i => decide ((L.getD i []).length ≤ 100) && decide (i ≤ 100)) (.inl ()) (.inr false) L.length (fun j hj hp => ?_) (fun j hj hp => ?_) ?_
  · rw [this]; unfold Sq
    cases (List.range L.length).all fun i => decide ((L.getD i []).length ≤ 100) && decide (i ≤ 100) <;> rfl
  · show Bd L (j : Int) = _
    rw [step j hj, hp]; rfl
  · show Bd L (j : Int) = _
    rw [step j hj, hp]; rfl
  · show Bd L _ = _
    unfold Bd; simp only [Ej, cond_false]
theorem Xc {L : List (List Int)} (h : Sq L = true) : Fits L := by
  unfold Sq at h; rw [all_range] at h; simp only [Bool.and_eq_true, decide_eq_true_eq] at h; refine Re ⟨?_, fun l hl => ?_⟩
  · by_cases h0 : L.length = 0
    · omega
    · have := (h (L.length - 1) (by omega)).2; omega
  · obtain ⟨i, hi, rfl⟩ := List.getElem_of_mem hl; have := (h i hi).1; rw [Am _ _ _ hi] at this; omega
end
end Go.Proofs.Ytjdddniaokcgnaa

namespace Go.Proofs.Ytjdddniaokcgnaa
noncomputable section
open Go Go.RowKit
set_option linter.unusedVariables false
set_option linter.unusedSimpArgs false
def upd (s : Nat → Bool) (y : Nat) : Nat → Bool := fun z => decide (z = y) || s z
theorem upd_true {s : Nat → Bool} {y z : Nat} : upd s y z = true ↔ z = y ∨ s z = true := by simp [upd]
theorem upd_false {s : Nat → Bool} {y z : Nat} : upd s y z = false ↔ z ≠ y ∧ s z = false := by simp [upd]
inductive VL (S : Nat → List Nat) : (Nat → Bool) → List Nat → (Nat → Bool) → List Nat → Prop
  | nil (s : Nat → Bool) : VL S s [] s []
  | skip {s s' : Nat → Bool} {y : Nat} {l o : List Nat} (h : s y = true) (t : VL S s l s' o) : VL S s (y :: l) s' o
  | step {s s1 s2 : Nat → Bool} {y : Nat} {l o1 o2 : List Nat} (h : s y = false) (a : VL S (upd s y) (S y) s1 o1) (b : VL S s1 l s2 o2) : VL S s (y :: l) s2 (o1 ++ y :: o2)
inductive Rch (S : Nat → List Nat) : Nat → Nat → Prop
  | refl (x : Nat) : Rch S x x
  | head {x y z : Nat} (h : y ∈ S x) (t : Rch S y z) : Rch S x z
theorem Rch.tail {S : Nat → List Nat} {x y z : Nat} (h : Rch S x y) (hz : z ∈ S y) : Rch S x z := by
  induction h with
  | refl x => exact .head hz (.refl _)
  | head h _ ih => exact .head h (ih hz)
theorem Rch.trans {S : Nat → List Nat} {x y z : Nat} (h : Rch S x y) (k : Rch S y z) : Rch S x z := by
  induction h with
  | refl x => exact k
  | head h _ ih => exact .head h (ih k)
variable {S : Nat → List Nat} {s s' : Nat → Bool} {l o : List Nat}
theorem VL.seen (h : VL S s l s' o) (z : Nat) : s' z = true ↔ s z = true ∨ z ∈ o := by
  induction h with
  | nil s => simp
  | skip h _ ih => exact ih
  | @step s s1 s2 y l o1 o2 h a b iha ihb =>
    rw [ihb, iha, upd_true]; simp only [List.mem_append, List.mem_cons]
    constructor
    · rintro ((( rfl | h1) | h1) | h1)
      · exact .inr (.inr (.inl rfl))
      · exact .inl h1
      · exact .inr (.inl h1)
      · exact .inr (.inr (.inr h1))
    · rintro (h1 | h1 | rfl | h1)
      · exact .inl (.inl (.inr h1))
      · exact .inl (.inr h1)
      · exact .inl (.inl (.inl rfl))
      · exact .inr h1
theorem VL.fresh (h : VL S s l s' o) {z : Nat} (hz : z ∈ o) : s z = false := by
  induction h with
  | nil s => cases hz
  | skip h _ ih => exact ih hz
  | @step s s1 s2 y l o1 o2 h a b iha ihb =>
    rcases List.mem_append.1 hz with h1 | h1
    · exact (upd_false.1 (iha h1)).2
    · rcases List.mem_cons.1 h1 with rfl | h1
      · exact h
      · have := ihb h1
        cases hs : s z with
        | false => rfl
        | true => rw [(a.seen z).2 (.inl (upd_true.2 (.inr hs)))] at this; cases this
theorem VL.nodup (h : VL S s l s' o) : o.Nodup := by
  induction h with
  | nil s => exact List.nodup_nil
  | skip h _ ih => exact ih
  | @step s s1 s2 y l o1 o2 h a b iha ihb =>
    rw [List.nodup_append]; refine ⟨iha, List.nodup_cons.2 ⟨fun hy => ?_, ihb⟩, fun u hu v hv => ?_⟩
    · have := b.fresh hy; rw [(a.seen y).2 (.inl (upd_true.2 (.inl rfl)))] at this
      cases this
    · rintro rfl; rcases List.mem_cons.1 hv with rfl | hv
      · have := a.fresh hu; rw [upd_true.2 (.inl rfl)] at this
        cases this
      · have := b.fresh hv; rw [(a.seen u).2 (.inr hu)] at this
        cases this
theorem VL.rch (h : VL S s l s' o) {z : Nat} (hz : z ∈ o) : ∃ y ∈ l, Rch S y z := by
  induction h with
  | nil s => cases hz
  | skip h _ ih => obtain ⟨y, hy, hr⟩ := ih hz; exact ⟨y, List.mem_cons_of_mem _ hy, hr⟩
  | @step s s1 s2 y l o1 o2 h a b iha ihb =>
    rcases List.mem_append.1 hz with h1 | h1
    · obtain ⟨u, hu, hr⟩ := iha h1; exact ⟨y, List.mem_cons_self .., .head hu hr⟩
    · rcases List.mem_cons.1 h1 with rfl | h1
      · exact ⟨z, List.mem_cons_self .., .refl z⟩
      · obtain ⟨u, hu, hr⟩ := ihb h1; exact ⟨u, List.mem_cons_of_mem _ hu, hr⟩
theorem VL.closed (h : VL S s l s' o) : (∀ y ∈ l, s' y = true) ∧ ∀ z ∈ o, ∀ y ∈ S z, s' y = true := by
  induction h with
  | nil s => exact ⟨(fun _ h => by cases h), (fun _ h => by cases h)⟩
  | @skip s s' y l o h t ih =>
    refine ⟨fun u hu => ?_, ih.2⟩; rcases List.mem_cons.1 hu with rfl | hu
    · exact (t.seen u).2 (.inl h)
    · exact ih.1 u hu
  | @step s s1 s2 y l o1 o2 h a b iha ihb =>
    refine ⟨fun u hu => ?_, fun z hz u hu => ?_⟩
    · rcases List.mem_cons.1 hu with rfl | hu
      · exact (b.seen u).2 (.inl ((a.seen u).2 (.inl (upd_true.2 (.inl rfl)))))
      · exact ihb.1 u hu
    · rcases List.mem_append.1 hz with h1 | h1
      · exact (b.seen u).2 (.inl (iha.2 z h1 u hu))
      · rcases List.mem_cons.1 h1 with rfl | h1
        · exact (b.seen u).2 (.inl (iha.1 u hu))
        · exact ihb.2 z h1 u hu
theorem VL.above (h : VL S s l s' o) (hf : ∀ z, ∀ y ∈ S z, z < y) {b : Nat} (hb : ∀ y ∈ l, b < y) : ∀ z ∈ o, b < z := by
  induction h generalizing b with
  | nil s => intro z hz; cases hz
  | skip h _ ih => exact ih (fun y hy => hb y (List.mem_cons_of_mem _ hy))
  | @step s s1 s2 y l o1 o2 h a c iha ihb =>
    intro z hz; have hy := hb y (List.mem_cons_self ..); rcases List.mem_append.1 hz with h1 | h1
    · exact iha (fun u hu => Nat.lt_trans hy (hf y u hu)) z h1
    · rcases List.mem_cons.1 h1 with rfl | h1
      · exact hy
      · exact ihb (fun u hu => hb u (List.mem_cons_of_mem _ hu)) z h1
theorem VL.ahead (h : VL S s l s' o) (hf : ∀ z, ∀ y ∈ S z, z < y) : ∀ z ∈ o, ∀ y ∈ S z, s y = true ∨ ∃ A B, o = A ++ z :: B ∧ y ∈ A := by
  induction h with
  | nil s => intro z hz; cases hz
  | skip h _ ih => exact ih
  | @step s s1 s2 y l o1 o2 h a c iha ihb =>
    intro z hz u hu; rcases List.mem_append.1 hz with h1 | h1
    · have hzy : y < z := a.above hf (fun v hv => hf y v hv) z h1; have hzu := hf z u hu; rcases iha z h1 u hu with h2 | ⟨A, B, rfl, hA⟩
      · rcases upd_true.1 h2 with rfl | h2
        · omega
        · exact .inl h2
      · exact .inr ⟨A, B ++ y :: o2, by simp, hA⟩
    · rcases List.mem_cons.1 h1 with rfl | h1z
      · have hzu := hf z u hu; rcases (a.seen u).1 (a.closed.1 u hu) with h2 | h2
        · rcases upd_true.1 h2 with rfl | h2
          · omega
          · exact .inl h2
        · exact .inr ⟨o1, o2, rfl, h2⟩
      · rcases ihb z h1z u hu with h2 | ⟨A, B, rfl, hA⟩
        · rcases (a.seen u).1 h2 with h3 | h3
          · rcases upd_true.1 h3 with rfl | h3
            · obtain ⟨P, Q, rfl⟩ := List.append_of_mem h1z; exact .inr ⟨o1 ++ u :: P, Q, by simp, by simp⟩
            · exact .inl h3
          · obtain ⟨P, Q, rfl⟩ := List.append_of_mem h1z; exact .inr ⟨o1 ++ y :: P, Q, by simp, by simp [h3]⟩
        · exact .inr ⟨o1 ++ y :: A, B, by simp, by simp [hA]⟩
def Wh (n : Nat) (s : Nat → Bool) : Nat := ((List.range n).filter fun z => !s z).length
theorem Mk {n : Nat} {s : Nat → Bool} {y : Nat} (hy : y < n) (h : s y = false) : Wh n (upd s y) + 1 = Wh n s := by
  unfold Wh
  induction n with
  | zero => omega
  | succ n ih =>
    rw [List.range_succ, List.filter_append, List.filter_append, List.length_append, List.length_append]
    by_cases hyn : y = n
    · subst hyn
      have e : (List.range y).filter (fun z => !upd s y z) = (List.range y).filter (fun z => !s z) := by
        apply List.filter_congr
        intro z hz; have := List.mem_range.1 hz; simp [upd, show z ≠ y by omega]
      rw [e]; simp [upd, h]
    · have := ih (by omega)
      have e : ([n].filter fun z => !upd s y z).length = ([n].filter fun z => !s z).length := by
        simp only [List.filter_cons, List.filter_nil, upd]; simp [Ne.symm hyn]
      omega
theorem Yc {n : Nat} {s s' : Nat → Bool} (h : ∀ z, s z = true → s' z = true) : Wh n s' ≤ Wh n s := by
  unfold Wh
  apply List.Sublist.length_le
  have : (List.range n).filter (fun z => !s' z) = ((List.range n).filter fun z => !s z).filter fun z => !s' z := by
    rw [List.filter_filter]
    apply List.filter_congr
    intro z _
    cases hs : s z with
    | false => simp
    | true => simp [h z hs]
  rw [this]; exact List.filter_sublist
theorem VL.exist {n : Nat} (hS : ∀ z, z < n → ∀ y ∈ S z, y < n) : ∀ (m : Nat) (s : Nat → Bool), Wh n s ≤ m → ∀ l : List Nat, (∀ y ∈ l, y < n) → ∃ s' o, VL S s l s' o := by
  intro m
  induction m with
  | zero =>
    intro s hm l
    induction l with
    | nil => intro _; exact ⟨s, [], .nil s⟩
    | cons y l ih =>
      intro hl; obtain ⟨s', o, h⟩ := ih (fun z hz => hl z (List.mem_cons_of_mem _ hz))
      cases hy : s y with
      | true => exact ⟨s', o, .skip hy h⟩
      | false => have := Mk (hl y (List.mem_cons_self ..)) hy; omega
  | succ m ih =>
    intro s hm l
    induction l generalizing s with
    | nil => intro _; exact ⟨s, [], .nil s⟩
    | cons y l ihl =>
      intro hl
      cases hy : s y with
      | true =>
        obtain ⟨s', o, h⟩ := ihl s hm (fun z hz => hl z (List.mem_cons_of_mem _ hz)); exact ⟨s', o, .skip hy h⟩
      | false =>
        have hyn := hl y (List.mem_cons_self ..); have := Mk hyn hy; obtain ⟨s1, o1, h1⟩ := ih (upd s y) (by omega) (S y) (hS y hyn); have h2 : Wh n s1 ≤ Wh n s := Yc fun z hz => (h1.seen z).2 (.inl (upd_true.2 (.inr hz))); obtain ⟨s2, o2, h3⟩ := ihl s1 (by omega) (fun z hz => hl z (List.mem_cons_of_mem _ hz)); exact ⟨s2, _, .step hy h1 h3⟩
def one (r : Nat) : Nat → Bool := fun z => decide (z = r)
def Ord (S : Nat → List Nat) (r : Nat) (L : List Nat) : Prop := ∃ s' o, VL S (one r) (S r) s' o ∧ L = r :: o.reverse
theorem Ord.exist {n : Nat} (hS : ∀ z, z < n → ∀ y ∈ S z, y < n) {r : Nat} (hr : r < n) : ∃ L, Ord S r L := by
  obtain ⟨s', o, h⟩ := VL.exist hS _ (one r) (Nat.le_refl _) (S r) (hS r hr); exact ⟨_, s', o, h, rfl⟩
theorem Ord.mem {r : Nat} {L : List Nat} (h : Ord S r L) (z : Nat) : z ∈ L ↔ Rch S r z := by
  obtain ⟨s', o, h, rfl⟩ := h
  have hs : ∀ z, s' z = true ↔ z = r ∨ z ∈ o := fun z => by rw [h.seen]; simp [one]
  have hc : ∀ x, s' x = true → ∀ y ∈ S x, s' y = true := fun x hx y hy => by
    rcases (hs x).1 hx with rfl | hx
    · exact h.closed.1 y hy
    · exact h.closed.2 x hx y hy
  simp only [List.mem_cons, List.mem_reverse]; rw [← hs z]
  constructor
  · intro hz; rcases (hs z).1 hz with rfl | hz
    · exact .refl _
    · obtain ⟨y, hy, hr⟩ := h.rch hz; exact .head hy hr
  · intro hr
    have key : ∀ x z, Rch S x z → s' x = true → s' z = true := by
      intro x z hxz
      induction hxz with
      | refl x => exact id
      | head hy _ ih => exact fun hx => ih (hc _ hx _ hy)
    exact key r z hr ((hs r).2 (.inl rfl))
theorem Ord.nodup {r : Nat} {L : List Nat} (h : Ord S r L) : L.Nodup := by
  obtain ⟨s', o, h, rfl⟩ := h; refine List.nodup_cons.2 ⟨fun hr => ?_, (List.reverse_perm o).nodup_iff.2 h.nodup⟩; have := h.fresh (List.mem_reverse.1 hr); simp [one] at this
theorem Ord.fwd {r : Nat} {L : List Nat} (h : Ord S r L) (hf : ∀ z, ∀ y ∈ S z, z < y) : ∀ z ∈ L, ∀ y ∈ S z, ∃ A B, L = A ++ z :: B ∧ y ∈ B := by
  obtain ⟨s', o, h, rfl⟩ := h; intro z hz y hy; have hzy := hf z y hy; rcases List.mem_cons.1 hz with rfl | hz
  · refine ⟨[], o.reverse, rfl, ?_⟩; rcases (h.seen y).1 (h.closed.1 y hy) with h1 | h1
    · simp [one] at h1; omega
    · exact List.mem_reverse.2 h1
  · have hz := List.mem_reverse.1 hz; have hrz : r < z := h.above hf (fun v hv => hf r v hv) z hz; rcases h.ahead hf z hz y hy with h1 | ⟨A, B, rfl, hA⟩
    · simp [one] at h1; omega
    · exact ⟨r :: B.reverse, A.reverse, by simp, List.mem_reverse.2 hA⟩
end
end Go.Proofs.Ytjdddniaokcgnaa

namespace Go.Proofs.Ytjdddniaokcgnaa
noncomputable section
open Go Go.RowKit
set_option linter.unusedVariables false
set_option linter.unusedSimpArgs false
theorem m_reverse (l : List Int) (hl : l.length < 4611686018427387904) : Cl l = some l.reverse := by
  unfold Cl
  by_cases h0 : l.length = 0
  · obtain rfl : l = [] := List.length_eq_zero_iff.1 h0
    have : Ay A3 ((0 : Int), (Bi ((([] : List Int).length : Int) - 1)), ([] : List Int)) = some [] := by
      apply A1
      unfold A3; rw [Jo (by simp) (by simp)]
      rfl
    rw [this]; rfl
  · have hw : Bi ((l.length : Int) - 1) = ((l.length - 1 : Nat) : Int) := by rw [Jo (by omega) (by omega)]; omega
    rw [hw]
    let C : Nat → List Int := fun k => (List.range l.length).map fun i => if i < k ∨ l.length - 1 - k < i then l.getD (l.length - 1 - i) 0 else l.getD i 0
    have hC : ∀ k i, i < l.length → (C k).getD i 0 = if i < k ∨ l.length - 1 - k < i then l.getD (l.length - 1 - i) 0 else l.getD i 0 := fun k i hi => by simp only [C]; rw [Ia hi]
    have hlen : ∀ k, (C k).length = l.length := fun k => by simp [C]
    have := Eh A3 (fun k => (((k : Nat) : Int), ((l.length - 1 - k : Nat) : Int), C k)) l.reverse (l.length / 2) (fun k hk => ?_) ?_
    · have e0 : C 0 = l := by
        apply List.ext_getElem (by simp [C])
        intro i h1 h2; have := hC 0 i h2; rw [Am _ _ _ h1, Am _ _ _ h2] at this; rw [this, if_neg (by omega)]
      have this' : Ay A3 ((0 : Int), ((l.length - 1 : Nat) : Int), l) = some l.reverse := by
        have h2 := this; simp only [e0] at h2; exact h2
      rw [this']; rfl
    · show A3 (_, _, _) = _
      unfold A3
      have hlt : k < l.length - 1 - k := by omega
      simp only [Cx hlt, cond_true, Ao]; rw [Ad (D3 (by rw [hlen]; omega)), Ad (D3 (by rw [hlen]; omega)), Ad (D3 (by rw [hlen]; omega)), Ad (D3 (by rw [hlen]; omega))]; rw [w1 (by omega), show Bi (((l.length - 1 - k : Nat) : Int) - 1) = ((l.length - 1 - (k + 1) : Nat) : Int) by rw [Jo (by omega) (by omega)]; omega]
      congr 4
      rw [hC k _ (by omega), hC k _ (by omega), if_neg (by omega), if_neg (by omega)]; simp only [C]; rw [Nf, Nf]
      apply Fq
      intro i hi
      by_cases h1 : i = k
      · subst h1; rw [if_neg (by omega), if_pos rfl, if_pos (by omega)]
      · by_cases h2 : i = l.length - 1 - k
        · subst h2; rw [if_pos rfl, if_pos (by omega)]
          congr 1; omega
        · rw [if_neg h2, if_neg h1]
          by_cases h3 : i < k ∨ l.length - 1 - k < i
          · rw [if_pos h3, if_pos (by omega)]
          · rw [if_neg h3, if_neg (by omega)]
    · show A3 (_, _, _) = _
      unfold A3; have hd : decide (((l.length / 2 : Nat) : Int) < ((l.length - 1 - l.length / 2 : Nat) : Int)) = false := decide_eq_false (by omega); simp only [hd, cond_false]
      congr 2
      apply List.ext_getElem (by simp [C])
      intro i h1 h2
      have h3 : i < l.length := by simpa [C] using h1
      have := hC (l.length / 2) i h3; rw [Am _ _ _ h1] at this; rw [this, List.getElem_reverse]
      split
      · rw [Am _ _ _ (by omega)]
      · rw [Am _ _ _ h3]
        congr 1; omega
theorem top {st : List Int} {a : Int} (h : st.length < 4611686018427387904) : (st ++ [a]).getD (Bi (((st ++ [a]).length : Int) - 1)).toNat 0 = a := by
  have : Bi (((st ++ [a]).length : Int) - 1) = ((st.length : Nat) : Int) := by rw [List.length_append, List.length_singleton, Jo (by omega) (by omega)]; omega
  rw [this, Ao]; simp [List.getD]
theorem topi {st : List Int} {a : Int} (h : st.length < 4611686018427387904) : Bi (((st ++ [a]).length : Int) - 1) = ((st.length : Nat) : Int) := by
  rw [List.length_append, List.length_singleton, Jo (by omega) (by omega)]; omega
theorem L2_done {g : Aj} {R : List Bool} {st T : List Int} {a : Nat} (hst : st.length < 64) (ha : a < g.Succ.length) (h64 : g.Succ.length ≤ 64) (ht : T.getD a 0 = ((g.Succ.getD a []).length : Int)) :
    Dp g R (st ++ [(a : Int)]) T = some (.done (.inl T)) := by
  unfold Dp; simp only [top (st := st) (a := (a : Int)) (by omega), Ao]; rw [Ad (D3 (by omega)), Ad (D3 ha), ht, Ej, cond_false]
theorem L2_step {g : Aj} {R : List Bool} {st T : List Int} {a t y : Nat} (hst : st.length < 64) (ha : a < g.Succ.length) (h64 : g.Succ.length ≤ 64) (ht : T.getD a 0 = (t : Int)) (htl : t < (g.Succ.getD a []).length) (htm : t < 64)
    (hy : (g.Succ.getD a []).getD t 0 = (y : Int)) (hyn : y < g.Succ.length) :
    Dp g R (st ++ [(a : Int)]) T = bif R.getD y false then some (.next (E9 64 (0 : Int) T a ((t + 1 : Nat) : Int))) else some (.done (.inr (E9 64 false R y true, E9 64 (0 : Int) T a ((t + 1 : Nat) : Int), (st ++ [(a : Int)]) ++ [(y : Int)]))) := by
  have hroom : (1000 : Nat) ≤ room := by decide
  unfold Dp; simp only [top (st := st) (a := (a : Int)) (by omega), Ao, ht, hy]; rw [Ad (D3 (by omega)), Ad (D3 ha), Cx htl, cond_true, Ad (D3 ha), Ad (D3 (by omega)), Ad (D3 htl), Ad (D3 (by omega)), Ad (D3 (by omega)), Ad (D3 (by omega)), w1 (by omega)]
  cases R.getD y false with
  | true => rfl
  | false =>
    simp only [Bool.not_false, cond_true, cond_false]; rw [Ad (D3 (by omega)), Ad (by rw [List.length_append, List.length_singleton, List.length_singleton]; omega)]
theorem F3_eq {g : Aj} {R : List Bool} {st T Lf : List Int} {a : Nat} (hst : st.length < 64) (hLf : Lf.length < 64) :
    Cc g (R, T, st ++ [(a : Int)], Lf) = (Ay (Dp g R (st ++ [(a : Int)])) T).bind fun x => match x with
      | .inl T' => if st = [] then some (.done (Lf ++ [(a : Int)]).reverse) else some (.next (R, T', st, Lf ++ [(a : Int)]))
      | .inr (R', T', st') => some (.next (R', T', st', Lf)) := by
  have hroom : (1000 : Nat) ≤ room := by decide
  unfold Cc; simp only
  have hb : A8 (Bi (((st ++ [(a : Int)]).length : Int) - 1)) (st ++ [(a : Int)]).length := by rw [topi (by omega)]; exact D3 (by simp)
  rw [Ad hb]
  congr 1
  funext x
  cases x with
  | inr y => obtain ⟨R', T', st'⟩ := y; rfl
  | inl T' =>
    simp only [top (st := st) (a := (a : Int)) (by omega)]; rw [topi (by omega), Ao, Ad (by rw [List.length_singleton]; omega), Ad ⟨by omega, by simp⟩]; have e : (st ++ [(a : Int)]).take st.length = st := List.take_left' rfl; rw [e]
    cases st with
    | nil =>
      rw [if_pos rfl]
      have : decide ((0 : Int) < (([] : List Int).length : Int)) = false := by decide
      rw [this, cond_false, m_reverse _ (by simp; omega)]; simp only [Option.bind_some]; rw [Ad (by simp)]
    | cons b st' =>
      rw [if_neg (by simp)]; have : decide ((0 : Int) < ((b :: st').length : Int)) = true := decide_eq_true (by simp <;> omega); rw [this, cond_true]
theorem loopO_from {S X : Type} {f : S → Option (LR S X)} {a b : S} (h : f a = f b) : Ay f a = Ay f b := by
  cases hb : f b with
  | none => rw [Nz (h.trans hb), Nz hb]
  | some r => cases r with
    | done x => rw [A1 (h.trans hb), A1 hb]
    | next s => rw [Bb (h.trans hb), Bb hb]
theorem Jc {S X : Type} {f : S → Option (LR S X)} {s : S} : Ki (f s) f = Ay f s := by
  unfold Ki
  cases hb : f s with
  | none => rw [Nz hb]; rfl
  | some r => cases r with
    | done x => rw [A1 hb]; rfl
    | next s' => rw [Bb hb]; rfl
def sN (L : List (List Int)) (k : Nat) : List Nat := (L.getD k []).map Int.toNat
def RelS (R : List Bool) (s : Nat → Bool) : Prop := ∀ z, z < 64 → R.getD z false = s z
theorem Hd {α : Type} {d : α} {l : List α} {i : Nat} {x : α} {k : Nat} (hk : k < 64) : (E9 64 d l i x).getD k d = if k = i then x else l.getD k d := by
  rw [Ur hk]
  by_cases h : k = i
  · subst h; simp
  · have : Nat.beq k i = false := by cases hb : Nat.beq k i with | false => rfl | true => exact absurd (Nat.eq_of_beq_eq_true hb) h
    rw [this, if_neg h]; rfl
theorem RelS.set {R : List Bool} {s : Nat → Bool} (h : RelS R s) {y : Nat} : RelS (E9 64 false R y true) (upd s y) := fun z hz => by
  rw [Hd hz, h z hz]
  by_cases hzy : z = y
  · simp [upd, hzy]
  · simp [upd, hzy]
def Ih (o : List Nat) : List Int := o.map Int.ofNat
theorem Aac {g : Aj} (hm : Ds g.Succ = true) {s s' : Nat → Bool} {l o : List Nat} (hv : VL (sN g.Succ) s l s' o) :
    ∀ (R : List Bool) (T st Lf : List Int) (a t : Nat), RelS R s → a < g.Succ.length → l = (sN g.Succ a).drop t → T.getD a 0 = (t : Int) → t ≤ (sN g.Succ a).length → s a = true → (∀ z, z < 64 → s z = false → T.getD z 0 = 0) →
      Lf.length + Wh 64 s + st.length + 1 ≤ 64 →
      ∃ (R' : List Bool) (T' : List Int), RelS R' s' ∧ (∀ z, z < 64 → s' z = false → T'.getD z 0 = 0) ∧ (∀ z, z < 64 → s z = true → z ≠ a → T'.getD z 0 = T.getD z 0) ∧ Lf.length + o.length + Wh 64 s' + st.length + 1 ≤ 64 ∧
        Ay (Cc g) (R, T, st ++ [(a : Int)], Lf) = if st = [] then some (Lf ++ Ih o ++ [(a : Int)]).reverse else Ay (Cc g) (R', T', st, Lf ++ Ih o ++ [(a : Int)]) := by
  obtain ⟨hL1, hL64, hLok⟩ := mayS_iff.1 hm
  have hlenS : ∀ a, (sN g.Succ a).length = (g.Succ.getD a []).length := fun a => by simp [sN]
  have hdrop : ∀ (a t y : Nat) (l' : List Nat), a < g.Succ.length → y :: l' = (sN g.Succ a).drop t → t < (g.Succ.getD a []).length ∧ (g.Succ.getD a []).getD t 0 = (y : Int) ∧ y < g.Succ.length ∧ l' = (sN g.Succ a).drop (t + 1) := fun a t y l' ha he => by
    have ht : t < (sN g.Succ a).length := by
      rcases Nat.lt_or_ge t (sN g.Succ a).length with h | h
      · exact h
      · rw [List.drop_eq_nil_of_le h] at he; cases he
    rw [List.drop_eq_getElem_cons ht] at he; simp only [List.cons.injEq] at he; obtain ⟨h1, h2⟩ := he
    have ht' : t < (g.Succ.getD a []).length := by rw [← hlenS]; exact ht
    obtain ⟨b0, b1⟩ := Np (hLok a ha) ht'
    have h3 : (sN g.Succ a)[t] = ((g.Succ.getD a []).getD t 0).toNat := by rw [Am _ _ _ ht']; simp [sN]
    exact ⟨ht', by omega, by omega, h2⟩
  induction hv with
  | nil s =>
    intro R T st Lf a t hR ha hl hT htl hsa hz hc
    have ht : t = (g.Succ.getD a []).length := by
      have := congrArg List.length hl; simp at this; rw [hlenS] at htl this; omega
    refine ⟨R, T, hR, hz, fun _ _ _ _ => rfl, by simpa using hc, ?_⟩
    have hF : Cc g (R, T, st ++ [(a : Int)], Lf) = if st = [] then some (.done (Lf ++ [(a : Int)]).reverse) else some (.next (R, T, st, Lf ++ [(a : Int)])) := by
      rw [F3_eq (by omega) (by omega), A1 (L2_done (by omega) ha hL64 (by rw [hT, ht]))]
      rfl
    by_cases hst : st = []
    · rw [if_pos hst] at hF ⊢; rw [A1 hF]; simp [Ih]
    · rw [if_neg hst] at hF ⊢; rw [Bb hF]; simp [Ih]
  | @skip s s' y l o h tl ih =>
    intro R T st Lf a t hR ha hl hT htl hsa hz hc; obtain ⟨h1, h2, h3, h4⟩ := hdrop a t y l ha hl; have hb := Mb (hLok a ha); have hs := L2_step (g := g) (R := R) (st := st) (T := T) (a := a) (t := t) (y := y) (by omega) ha hL64 hT h1 (by omega) h2 h3; rw [hR y (by omega), h, cond_true] at hs; obtain ⟨R', T', a1, a2, a3, a4, a5⟩ := ih R (E9 64 (0 : Int) T a ((t + 1 : Nat) : Int)) st Lf a (t + 1) hR ha h4 (by rw [Hd (by omega), if_pos rfl]) (by rw [hlenS]; omega) hsa
      (fun z hz1 hz2 => by rw [Hd hz1, if_neg (by rintro rfl; rw [hsa] at hz2; cases hz2)]; exact hz z hz1 hz2) hc
    refine ⟨R', T', a1, a2, fun z hz1 hz2 hz3 => by rw [a3 z hz1 hz2 hz3, Hd hz1, if_neg hz3], a4, ?_⟩; rw [← a5]
    apply loopO_from
    rw [F3_eq (by omega) (by omega), F3_eq (by omega) (by omega), Bb hs]
  | @step s s1 s2 y l o1 o2 h tl tr ih1 ih2 =>
    intro R T st Lf a t hR ha hl hT htl hsa hz hc; obtain ⟨h1, h2, h3, h4⟩ := hdrop a t y l ha hl; have hb := Mb (hLok a ha)
    have hay : y ≠ a := by rintro rfl; rw [hsa] at h; cases h
    have hs := L2_step (g := g) (R := R) (st := st) (T := T) (a := a) (t := t) (y := y) (by omega) ha hL64 hT h1 (by omega) h2 h3; rw [hR y (by omega), h, cond_false] at hs; have hcu := Mk (n := 64) (show y < 64 by omega) h
    have hF : Cc g (R, T, st ++ [(a : Int)], Lf) = some (.next (E9 64 false R y true, E9 64 (0 : Int) T a ((t + 1 : Nat) : Int), (st ++ [(a : Int)]) ++ [(y : Int)], Lf)) := by
      rw [F3_eq (by omega) (by omega), A1 hs]
      rfl
    obtain ⟨R1, T1, b1, b2, b3, b4, b5⟩ := ih1 (E9 64 false R y true) (E9 64 (0 : Int) T a ((t + 1 : Nat) : Int)) (st ++ [(a : Int)]) Lf y 0 hR.set h3 (by simp)
      (by rw [Hd (by omega), if_neg hay]; exact hz y (by omega) h) (Nat.zero_le _) (upd_true.2 (.inl rfl))
      (fun z hz1 hz2 => by
        obtain ⟨c1, c2⟩ := upd_false.1 hz2; rw [Hd hz1, if_neg (by rintro rfl; rw [hsa] at c2; cases c2)]
        exact hz z hz1 c2) (by rw [List.length_append, List.length_singleton]; omega)
    rw [if_neg (by simp)] at b5
    have hTa : T1.getD a 0 = ((t + 1 : Nat) : Int) := by rw [b3 a (by omega) (upd_true.2 (.inr hsa)) (Ne.symm hay), Hd (by omega), if_pos rfl]
    rw [List.length_append, List.length_singleton] at b4; obtain ⟨R2, T2, c1, c2, c3, c4, c5⟩ := ih2 R1 T1 st (Lf ++ Ih o1 ++ [(y : Int)]) a (t + 1) b1 ha h4 hTa (by rw [hlenS]; omega) ((tl.seen a).2 (.inl (upd_true.2 (.inr hsa)))) b2
      (by simp only [List.length_append, List.length_singleton, Ih, List.length_map]; omega)
    refine ⟨R2, T2, c1, c2, fun z hz1 hz2 hz3 => ?_, ?_, ?_⟩
    · rw [c3 z hz1 ((tl.seen z).2 (.inl (upd_true.2 (.inr hz2)))) hz3, b3 z hz1 (upd_true.2 (.inr hz2)) (by rintro rfl; rw [h] at hz2; cases hz2), Hd hz1, if_neg hz3]
    · simp only [List.length_append, List.length_singleton, Ih, List.length_map, List.length_cons] at c4 ⊢; omega
    · rw [Bb hF, b5, c5]
      have e : Lf ++ Ih o1 ++ [(y : Int)] ++ Ih o2 ++ [(a : Int)] = Lf ++ Ih (o1 ++ y :: o2) ++ [(a : Int)] := by simp [Ih]
      rw [e]
theorem Je {L : List (List Int)} (h : Ds L = true) : ∀ z, z < L.length → ∀ y ∈ sN L z, y < L.length := fun z hz y hy => by
  obtain ⟨_, _, h3⟩ := mayS_iff.1 h; obtain ⟨x, hx, rfl⟩ := List.mem_map.1 hy; have := Jb (h3 z hz) hx; omega
theorem cnt_one {r : Nat} (hr : r < 64) : Wh 64 (one r) = 63 := by
  have h := Mk (n := 64) (s := fun _ => false) hr rfl
  have e : upd (fun _ => false) r = one r := by funext z; simp [upd, one]
  rw [e] at h
  have : Wh 64 (fun _ => false) = 64 := by decide
  omega
theorem Ht {α : Type} {n z : Nat} {d : α} : (List.replicate n d).getD z d = d := by rw [List.getD_eq_getElem?_getD, List.getElem?_replicate]; split <;> rfl
theorem Vd (g : Aj) (h : Fits g.Succ) (hP : True) (r : Int) :
    (Ha g = true → 0 ≤ r → r < (g.Succ.length : Int) → ∀ L, Ord (sN g.Succ) r.toNat L → D4 g r = some (Ih L)) ∧
    ((Ha g && (decide (0 ≤ r) && decide (r < (g.Succ.length : Int)))) = false → D4 g r = some []) := by
  refine ⟨fun hm h0 h1 L hL => ?_, fun hf => ?_⟩
  · have hms : Ds g.Succ = true := by unfold Ha at hm; exact (Bool.and_eq_true _ _ ▸ hm).1
    obtain ⟨hL1, hL64, hLok⟩ := mayS_iff.1 hms; obtain ⟨s', o, hv, rfl⟩ := hL; have hrn : ((r.toNat : Nat) : Int) = r := Int.toNat_of_nonneg h0
    have hr : r.toNat < g.Succ.length := by omega
    obtain ⟨R', T', _, _, _, _, hmain⟩ := Aac hms hv (E9 64 false (List.replicate 64 false) r.toNat true) (List.replicate 64 (0 : Int)) [] [] r.toNat 0
      (fun z hz => by rw [Hd hz, Ht]; by_cases hzr : z = r.toNat <;> simp [one, hzr]) hr (by simp) Ht (Nat.zero_le _) (by simp [one])
      (fun z hz _ => Ht) (by rw [cnt_one (by omega)]; simp)
    rw [if_pos rfl, hrn] at hmain; unfold D4; rw [Y0 _ h, hm, Option.bind_some]; simp only [Bool.not_true, beq_self_eq_true, cond_true, cond_false, Mh, decide_eq_true h0, decide_eq_true h1, Bool.and_self, Option.bind_some]; rw [Ad ⟨h0, by omega⟩]; have hF : ∀ X, Ay (Cc g) (E9 64 false (List.replicate 64 false) r.toNat true, List.replicate 64 (0 : Int), [] ++ [r], []) = some X →
        (Ki (Cc g (E9 64 false (List.replicate 64 false) r.toNat true, List.replicate 64 (0 : Int), [r], [])) (Cc g)).bind (fun x => some x) = some X := fun X hX => by
      rw [Jc]; rw [List.nil_append] at hX; rw [hX]; rfl
    refine (hF _ hmain).trans ?_; simp only [List.nil_append, List.reverse_append, Ih, List.map_cons, List.map_reverse, List.reverse_cons, List.reverse_nil]
    simp
    omega
  · unfold D4; rw [Y0 _ h, Option.bind_some]
    cases hm : Ha g with
    | false => rfl
    | true =>
      rw [hm, Bool.true_and] at hf; simp only [Bool.not_true, beq_self_eq_true, cond_true, cond_false, Mh, hf, Option.bind_some, Bool.not_false]
      rfl
end
end Go.Proofs.Ytjdddniaokcgnaa

namespace Go.Proofs.Ytjdddniaokcgnaa
noncomputable section
open Go Go.RowKit
set_option linter.unusedVariables false
set_option linter.unusedSimpArgs false
def RelN (n : Nat) (R : List Bool) (s : Nat → Bool) : Prop := R.length = n ∧ ∀ z, z < n → R.getD z false = s z
theorem RelN.set {n : Nat} {R : List Bool} {s : Nat → Bool} (h : RelN n R s) {y : Nat} (hy : y < n) : RelN n (R.set y true) (upd s y) := by
  refine ⟨by rw [List.length_set]; exact h.1, fun z hz => ?_⟩; rw [List.getD_eq_getElem?_getD, List.getElem?_set]
  by_cases hzy : y = z
  · subst hzy; simp [upd, h.1, hy]
  · rw [if_neg hzy, ← List.getD_eq_getElem?_getD, h.2 z hz]; simp [upd, Ne.symm hzy]
theorem Ic : ∀ (n : Nat) (l : List Nat), l.Nodup → (∀ x ∈ l, x < n) → l.length ≤ n
  | 0, l, _, h => by
    cases l with
    | nil => simp
    | cons x l => have := h x (List.mem_cons_self ..); omega
  | n + 1, l, hd, h => by
    by_cases hn : n ∈ l
    · have h1 := Ic n (l.erase n) (hd.erase n) fun x hx => by
        have h2 := (hd.mem_erase_iff).1 hx; have := h x h2.2; have := h2.1; omega
      rw [List.length_erase_of_mem hn] at h1; omega
    · have h1 := Ic n l hd fun x hx => by
        have := h x hx
        have : x ≠ n := by rintro rfl; exact hn hx
        omega
      omega
end
end Go.Proofs.Ytjdddniaokcgnaa

namespace Go.Proofs.Ytjdddniaokcgnaa
noncomputable section
open Go Go.RowKit
set_option linter.unusedVariables false
set_option linter.unusedSimpArgs false
end
end Go.Proofs.Ytjdddniaokcgnaa

namespace Go.Proofs.Ytjdddniaokcgnaa
noncomputable section
open Go Go.RowKit
set_option linter.unusedVariables false
set_option linter.unusedSimpArgs false
theorem Si : ∀ {a b : List Int}, a.Pairwise (· < ·) → b.Pairwise (· < ·) → (∀ x, x ∈ a ↔ x ∈ b) → a = b
  | [], [], _, _, _ => rfl
  | [], y :: b, _, _, h => by have := (h y).2 (List.mem_cons_self ..); cases this
  | x :: a, [], _, _, h => by have := (h x).1 (List.mem_cons_self ..); cases this
  | x :: a, y :: b, ha, hb, h => by
    have ha' := List.pairwise_cons.1 ha; have hb' := List.pairwise_cons.1 hb
    have hxy : x = y := by
      rcases List.mem_cons.1 ((h x).1 (List.mem_cons_self ..)) with h1 | h1
      · exact h1
      · rcases List.mem_cons.1 ((h y).2 (List.mem_cons_self ..)) with h2 | h2
        · exact h2.symm
        · have := ha'.1 y h2; have := hb'.1 x h1; omega
    subst hxy
    congr 1
    refine Si ha'.2 hb'.2 fun z => ⟨fun hz => ?_, fun hz => ?_⟩
    · rcases List.mem_cons.1 ((h z).1 (List.mem_cons_of_mem _ hz)) with rfl | h1
      · have := ha'.1 z hz; omega
      · exact h1
    · rcases List.mem_cons.1 ((h z).2 (List.mem_cons_of_mem _ hz)) with rfl | h1
      · have := hb'.1 z hz; omega
      · exact h1
theorem Qi (p : Nat → Bool) (n : Nat) : (((List.range n).filter p).map Int.ofNat).Pairwise (· < ·) := by
  rw [List.pairwise_map]; have := (List.pairwise_lt_range (n := n)).filter p
  exact this.imp fun h => by simpa using h
theorem mem_filt {p : Nat → Bool} {n : Nat} {x : Int} : x ∈ ((List.range n).filter p).map Int.ofNat ↔ ∃ k : Nat, x = (k : Int) ∧ k < n ∧ p k = true := by
  simp only [List.mem_map, List.mem_filter, List.mem_range]
  constructor
  · rintro ⟨k, ⟨h1, h2⟩, rfl⟩; exact ⟨k, rfl, h1, h2⟩
  · rintro ⟨k, rfl, h1, h2⟩; exact ⟨k, ⟨h1, h2⟩, rfl⟩
theorem goes_iff {L : List (List Int)} {k i : Nat} : Hz L k i = true ↔ (i : Int) ∈ L.getD k [] := by unfold Hz; rw [List.contains_iff_mem]
theorem predAt_ok (L : List (List Int)) (i : Nat) : okL L.length (D0 L L.length i) = true :=
  okL_of (fun x hx => by obtain ⟨k, rfl, hk, _⟩ := mem_filt.1 hx; omega) (Qi _ _)
theorem Mv {L : List (List Int)} (h : Ds L = true) : Ds (Br L) = true := by
  obtain ⟨h1, h2, h3⟩ := mayS_iff.1 h; refine mayS_iff.2 ⟨by rw [Cr]; exact h1, by rw [Cr]; exact h2, fun i hi => ?_⟩; rw [Cr] at hi ⊢; rw [Gk hi]; exact predAt_ok L i
theorem pred_pred {L : List (List Int)} (h : Ds L = true) : Br (Br L) = L := by
  obtain ⟨h1, h2, h3⟩ := mayS_iff.1 h
  apply List.ext_getElem (by rw [Cr, Cr])
  intro i hi hi'
  have e1 : (Br (Br L))[i] = D0 (Br L) L.length i := by
    have := Gk (L := Br L) (i := i) (by rw [Cr]; exact hi'); rw [Am _ _ _ hi, Cr] at this; exact this
  have e2 := Am L i [] hi'; rw [e1, ← e2]; refine Si (Qi _ _) (Xw (h3 i hi')) fun x => ?_; rw [show D0 (Br L) L.length i = ((List.range L.length).filter fun k => Hz (Br L) k i).map Int.ofNat from rfl, mem_filt]
  constructor
  · rintro ⟨k, rfl, hk, hg⟩; rw [goes_iff, Gk hk] at hg; obtain ⟨j, hj, _, hg'⟩ := mem_filt.1 hg
    have : j = i := by omega
    subst this; exact goes_iff.1 hg'
  · intro hx; have hb := Jb (h3 i hi') hx; refine ⟨x.toNat, by omega, by omega, ?_⟩; rw [goes_iff, Gk (by omega)]; refine mem_filt.2 ⟨i, rfl, hi', ?_⟩; rw [goes_iff, Int.toNat_of_nonneg hb.1]; exact hx
theorem Qj {L : List (List Int)} (h : Ds L = true) : Ha ⟨Br L, L⟩ = true := by
  simp [Ha, Mv h, pred_pred h]
theorem small_len {L : List (List Int)} (h : L.length ≤ maxLen) : L.length < 9223372036854775808 := by unfold maxLen at h; omega
theorem mayG_g0 : Ha g0 = false := by decide
end
end Go.Proofs.Ytjdddniaokcgnaa

namespace Go.Proofs.Ytjdddniaokcgnaa
noncomputable section
open Go Go.RowKit
set_option linter.unusedVariables false
set_option linter.unusedSimpArgs false
theorem rch_lt {L : List (List Int)} (h : Ds L = true) {x y : Nat} (hr : Rch (sN L) x y) (hx : x < L.length) : y < L.length := by
  induction hr with
  | refl x => exact hx
  | head hy _ ih => exact ih (Je h _ hx _ hy)
theorem ofN_at {l : List Nat} {i : Nat} (hi : i < l.length) : (Ih l).getD i 0 = ((l[i] : Nat) : Int) := by simp [Ih, List.getD, hi]
end
end Go.Proofs.Ytjdddniaokcgnaa

namespace Go.Proofs.Ytjdddniaokcgnaa
noncomputable section
open Go Go.RowKit
set_option linter.unusedVariables false
set_option linter.unusedSimpArgs false
end
end Go.Proofs.Ytjdddniaokcgnaa

namespace Go.Proofs.Ytjdddniaokcgnaa
noncomputable section
open Go Go.RowKit
set_option linter.unusedVariables false
set_option linter.unusedSimpArgs false
def mk (o : List Bool) (l : List Nat) : List Bool := l.foldl (fun o y => o.set y true) o
theorem mk_len (l : List Nat) : ∀ o : List Bool, (mk o l).length = o.length := by
  induction l with
  | nil => intro o; rfl
  | cons y l ih => intro o; show (mk (o.set y true) l).length = _; rw [ih, List.length_set]
theorem mk_at {n : Nat} (l : List Nat) : ∀ (o : List Bool), o.length = n → (∀ y ∈ l, y < n) → ∀ z, (mk o l).getD z false = true ↔ o.getD z false = true ∨ z ∈ l := by
  induction l with
  | nil => intro o _ _ z; simp [mk]
  | cons y l ih =>
    intro o ho hl z
    show (mk (o.set y true) l).getD z false = true ↔ _
    rw [ih (o.set y true) (by rw [List.length_set]; exact ho) (fun u hu => hl u (List.mem_cons_of_mem _ hu)) z]; have hy := hl y (List.mem_cons_self ..)
    have e : (o.set y true).getD z false = true ↔ o.getD z false = true ∨ z = y := by
      rw [List.getD_eq_getElem?_getD, List.getElem?_set, List.getD_eq_getElem?_getD]
      by_cases h : y = z
      · subst h; simp [ho, hy]
      · simp [h, Ne.symm h]
    rw [e, List.mem_cons]
    constructor
    · rintro ((h | h) | h)
      · exact .inl h
      · exact .inr (.inl h)
      · exact .inr (.inr h)
    · rintro (h | h | h)
      · exact .inl (.inl h)
      · exact .inl (.inr h)
      · exact .inr h
def sw (S : Nat → List Nat) (o : List Bool) : Nat → List Bool
  | 0 => o
  | i + 1 => if (sw S o i).getD i false = true then mk (sw S o i) (S i) else sw S o i
def Vz (S : Nat → List Nat) (n : Nat) (o : List Bool) : Nat → List Bool
  | 0 => o
  | j + 1 => sw S (Vz S n o j) n
section
variable {S : Nat → List Nat} {n : Nat} (hS : ∀ z, z < n → ∀ y ∈ S z, y < n)
theorem Ps (o : List Bool) : ∀ i, (sw S o i).length = o.length := by
  intro i
  induction i with
  | zero => rfl
  | succ i ih => unfold sw; split; rw [mk_len, ih]; exact ih
theorem rds_len (o : List Bool) : ∀ j, (Vz S n o j).length = o.length := by
  intro j
  induction j with
  | zero => rfl
  | succ j ih => unfold Vz; rw [Ps, ih]
include hS
theorem Q0 {o : List Bool} (ho : o.length = n) : ∀ i, i ≤ n → ∀ z, o.getD z false = true → (sw S o i).getD z false = true := by
  intro i
  induction i with
  | zero => intro _ z h; exact h
  | succ i ih =>
    intro hi z h; unfold sw
    split
    · exact (mk_at (n := n) _ _ (by rw [Ps]; exact ho) (hS i (by omega)) z).2 (.inl (ih (by omega) z h))
    · exact ih (by omega) z h
theorem sw_sound {o : List Bool} {r : Nat} (ho : o.length = n) (h : ∀ z, o.getD z false = true → Rch S r z) : ∀ i, i ≤ n → ∀ z, (sw S o i).getD z false = true → Rch S r z := by
  intro i
  induction i with
  | zero => intro _ z hz; exact h z hz
  | succ i ih =>
    intro hi z hz; unfold sw at hz
    split at hz
    · rename_i hsi
      rcases (mk_at (n := n) _ _ (by rw [Ps]; exact ho) (hS i (by omega)) z).1 hz with h1 | h1
      · exact ih (by omega) z h1
      · exact (ih (by omega) i hsi).tail h1
    · exact ih (by omega) z hz
theorem sw_step {o : List Bool} (ho : o.length = n) : ∀ i, i ≤ n → ∀ j, j < i → o.getD j false = true → ∀ y ∈ S j, (sw S o i).getD y false = true := by
  intro i
  induction i with
  | zero => intro _ j hj; omega
  | succ i ih =>
    intro hi j hj hoj y hy; unfold sw
    by_cases hji : j = i
    · subst hji; have h1 := Q0 hS ho j (by omega) j hoj; rw [if_pos h1]; exact (mk_at (n := n) _ _ (by rw [Ps]; exact ho) (hS j (by omega)) y).2 (.inr hy)
    · have h1 := ih (by omega) j (by omega) hoj y hy
      split
      · exact (mk_at (n := n) _ _ (by rw [Ps]; exact ho) (hS i (by omega)) y).2 (.inl h1)
      · exact h1
theorem sw_closed {o : List Bool} (ho : o.length = n) (hc : ∀ j, j < n → o.getD j false = true → ∀ y ∈ S j, o.getD y false = true) : ∀ i, i ≤ n → ∀ z, (sw S o i).getD z false = true → o.getD z false = true := by
  intro i
  induction i with
  | zero => intro _ z h; exact h
  | succ i ih =>
    intro hi z hz; unfold sw at hz
    split at hz
    · rename_i hsi
      rcases (mk_at (n := n) _ _ (by rw [Ps]; exact ho) (hS i (by omega)) z).1 hz with h1 | h1
      · exact ih (by omega) z h1
      · exact hc i (by omega) (ih (by omega) i hsi) z h1
    · exact ih (by omega) z hz
theorem Xb {r : Nat} (hr : r < n) (z : Nat) : (Vz S n ((List.replicate n false).set r true) n).getD z false = true ↔ Rch S r z := by
  let o0 := (List.replicate n false).set r true
  have ho0 : o0.length = n := by simp [o0]
  have hat0 : ∀ z, o0.getD z false = true ↔ z = r := fun z => by
    show ((List.replicate n false).set r true).getD z false = true ↔ z = r
    rw [List.getD_eq_getElem?_getD, List.getElem?_set]
    by_cases h : r = z
    · subst h; simp [hr]
    · rw [if_neg h, ← List.getD_eq_getElem?_getD, Ht]; simp [Ne.symm h]
  have hlen : ∀ j, (Vz S n o0 j).length = n := fun j => by rw [rds_len, ho0]
  have hsound : ∀ j z, (Vz S n o0 j).getD z false = true → Rch S r z := by
    intro j
    induction j with
    | zero => intro z hz; rw [(hat0 z).1 hz]; exact .refl _
    | succ j ih => intro z hz; exact sw_sound hS (hlen j) ih n (Nat.le_refl _) z hz
  have hmono : ∀ j, ∀ z, o0.getD z false = true → (Vz S n o0 j).getD z false = true := by
    intro j
    induction j with
    | zero => intro z h; exact h
    | succ j ih => intro z h; exact Q0 hS (hlen j) n (Nat.le_refl _) z (ih z h)
  let C : Nat → Prop := fun j => ∀ i, i < n → (Vz S n o0 j).getD i false = true → ∀ y ∈ S i, (Vz S n o0 j).getD y false = true
  have key : ∀ j, C j ∨ Wh n (fun z => (Vz S n o0 j).getD z false) + j + 1 ≤ n := by
    intro j
    induction j with
    | zero =>
      refine .inr ?_; have h1 := Mk (n := n) (s := fun _ => false) hr rfl
      have e : upd (fun _ => false) r = fun z => (Vz S n o0 0).getD z false := by
        funext z
        rw [Bool.eq_iff_iff, upd_true]
        show _ ↔ o0.getD z false = true
        rw [hat0]
        simp
      rw [e] at h1
      have hcl : Wh n (fun _ => false) = n := by
        unfold Wh; rw [List.filter_eq_self.2 (by simp)]
        simp
      omega
    | succ j ih =>
      by_cases hc : C j
      · refine .inl fun i hi h y hy => ?_; have h1 := sw_closed hS (hlen j) hc n (Nat.le_refl _) i h; exact Q0 hS (hlen j) n (Nat.le_refl _) y (hc i hi h1 y hy)
      · rcases ih with ih | ih
        · exact (hc ih).elim
        · refine .inr ?_
          have hex : ∃ i, i < n ∧ (Vz S n o0 j).getD i false = true ∧ ∃ y, y ∈ S i ∧ (Vz S n o0 j).getD y false = false := by
            simp only [C] at hc; simp only [Classical.not_forall] at hc; obtain ⟨i, hi, h1, y, hy, h2⟩ := hc; exact ⟨i, hi, h1, y, hy, by simpa using h2⟩
          obtain ⟨i, hi, h1, y, hy, h2⟩ := hex; have h3 := sw_step hS (hlen j) n (Nat.le_refl _) i hi h1 y hy; have hyn := hS i hi y hy; have h4 := Mk (n := n) (s := fun z => (Vz S n o0 j).getD z false) hyn h2
          have h5 : Wh n (fun z => (Vz S n o0 (j + 1)).getD z false) ≤ Wh n (upd (fun z => (Vz S n o0 j).getD z false) y) := Yc fun z hz => by
            rcases upd_true.1 hz with rfl | hz
            · exact h3
            · exact Q0 hS (hlen j) n (Nat.le_refl _) z hz
          omega
  have hC : C n := by
    rcases key n with h | h
    · exact h
    · omega
  constructor
  · exact hsound n z
  · intro hrch
    have hlt : ∀ x z, Rch S x z → x < n → z < n ∧ ((Vz S n o0 n).getD x false = true → (Vz S n o0 n).getD z false = true) := by
      intro x z hxz
      induction hxz with
      | refl x => exact fun hx => ⟨hx, id⟩
      | @head x y z hy _ ih =>
        intro hx; have := ih (hS x hx y hy); exact ⟨this.1, fun h => this.2 (hC x hx h y hy)⟩
    exact (hlt r z hrch hr).2 (hmono n r ((hat0 r).2 rfl))
end
end
end Go.Proofs.Ytjdddniaokcgnaa

namespace Go.Proofs.Ytjdddniaokcgnaa
noncomputable section
open Go Go.RowKit
set_option linter.unusedVariables false
set_option linter.unusedSimpArgs false
def pos : List Nat → Nat → Nat
  | [], _ => 0
  | x :: l, z => if x = z then 0 else pos l z + 1
theorem S7 (x : Nat) (l : List Nat) (z : Nat) : pos (x :: l) z = if x = z then 0 else pos l z + 1 := rfl
theorem pos_app {A l : List Nat} {z : Nat} (h : z ∉ A) : pos (A ++ l) z = A.length + pos l z := by
  induction A with
  | nil => simp
  | cons x A ih =>
    have h1 : x ≠ z := fun e => h (by rw [e]; exact List.mem_cons_self ..); have h2 : z ∉ A := fun e => h (List.mem_cons_of_mem _ e); rw [List.cons_append, S7, if_neg h1, ih h2, List.length_cons]; omega
theorem Rd {P : List Nat} (hd : P.Nodup) {i : Nat} (hi : i < P.length) : P[i] ∉ P.take i ∧ pos P P[i] = i := by
  have e : P = P.take i ++ P[i] :: P.drop (i + 1) := by rw [← List.drop_eq_getElem_cons hi, List.take_append_drop]
  have hn : P[i] ∉ P.take i := by
    rw [e] at hd; have := (List.nodup_append.1 hd).2.2; exact fun hm => this _ hm _ (List.mem_cons_self ..) rfl
  refine ⟨hn, ?_⟩
  have h2 : pos (P.take i ++ P[i] :: P.drop (i + 1)) P[i] = i := by
    rw [pos_app hn]
    have : pos (P[i] :: P.drop (i + 1)) P[i] = 0 := by rw [S7, if_pos rfl]
    rw [this, List.length_take]; omega
  rw [← e] at h2; exact h2
end
end Go.Proofs.Ytjdddniaokcgnaa

namespace Go.Proofs.Ytjdddniaokcgnaa
noncomputable section
open Go Go.RowKit
set_option linter.unusedVariables false
set_option linter.unusedSimpArgs false
inductive Rc (S : Nat → List Nat) (r : Nat) : Nat → Prop
  | root : Rc S r r
  | step {x y : Nat} (h : Rc S r x) (hy : y ∈ S x) : Rc S r y
inductive Av (S : Nat → List Nat) (r z : Nat) : Nat → Prop
  | root (h : r ≠ z) : Av S r z r
  | step {x y : Nat} (h : Av S r z x) (hy : y ∈ S x) (hz : y ≠ z) : Av S r z y
inductive AvN (S : Nat → List Nat) (r z : Nat) : Nat → Nat → Prop
  | root (h : r ≠ z) (k : Nat) : AvN S r z k r
  | step {k x y : Nat} (h : AvN S r z k x) (hy : y ∈ S x) (hz : y ≠ z) : AvN S r z (k + 1) y
section
variable {S : Nat → List Nat} {r : Nat}
theorem Zr {x : Nat} : Rc S r x ↔ Rch S r x := by
  constructor
  · intro h
    induction h with
    | root => exact .refl _
    | step _ hy ih => exact ih.tail hy
  · intro h
    have key : ∀ a b, Rch S a b → Rc S r a → Rc S r b := by
      intro a b hab
      induction hab with
      | refl x => exact id
      | head hy _ ih => exact fun ha => ih (.step ha hy)
    exact key _ _ h .root
def wo (S : Nat → List Nat) (z : Nat) : Nat → List Nat := fun x => (S x).filter fun y => decide (y ≠ z)
theorem av_iff {z x : Nat} : Av S r z x ↔ r ≠ z ∧ Rch (wo S z) r x := by
  constructor
  · intro h
    induction h with
    | root h => exact ⟨h, .refl _⟩
    | step _ hy hz ih => exact ⟨ih.1, ih.2.tail (List.mem_filter.2 ⟨hy, by simpa using hz⟩)⟩
  · rintro ⟨hr, h⟩
    have key : ∀ a b, Rch (wo S z) a b → Av S r z a → Av S r z b := by
      intro a b hab
      induction hab with
      | refl x => exact id
      | head hy _ ih =>
        obtain ⟨h1, h2⟩ := List.mem_filter.1 hy; exact fun ha => ih (.step ha h1 (by simpa using h2))
    exact key _ _ h (.root hr)
theorem Av.rc {z x : Nat} (h : Av S r z x) : Rc S r x := by
  induction h with
  | root _ => exact .root
  | step _ hy _ ih => exact .step ih hy
theorem Av.ne {z x : Nat} (h : Av S r z x) : x ≠ z := by
  cases h with
  | root h => exact h
  | step _ _ hz => exact hz
theorem AvN.av {z k x : Nat} (h : AvN S r z k x) : Av S r z x := by
  induction h with
  | root h => exact .root h
  | step _ hy hz ih => exact .step ih hy hz
theorem AvN.up {z k x : Nat} (h : AvN S r z k x) : AvN S r z (k + 1) x := by
  induction h with
  | root h k => exact .root h _
  | step _ hy hz ih => exact .step ih hy hz
theorem AvN.mono {z k m x : Nat} (h : AvN S r z k x) (hm : k ≤ m) : AvN S r z m x := by
  obtain ⟨d, rfl⟩ := Nat.exists_eq_add_of_le hm; clear hm
  induction d with
  | zero => exact h
  | succ d ih => exact ih.up
theorem Av.avn {z x : Nat} (h : Av S r z x) : ∃ k, AvN S r z k x := by
  induction h with
  | root h => exact ⟨0, .root h 0⟩
  | step _ hy hz ih => obtain ⟨k, hk⟩ := ih; exact ⟨k + 1, .step hk hy hz⟩
theorem AvN.via {z k x : Nat} (h : AvN S r z k x) (y : Nat) : AvN S r y k x ∨ AvN S r z k y := by
  induction h with
  | root h k => by_cases hy : r = y
                · subst hy; exact .inr (.root h _)
                · exact .inl (.root hy _)
  | @step k x w h hy hz ih =>
    rcases ih with h1 | h1
    · by_cases hw : w = y
      · subst hw; exact .inr (.step h hy hz)
      · exact .inl (.step h1 hy hw)
    · exact .inr h1.up
theorem avn_bound (n : Nat) : ∃ K, ∀ z, z < n → ∀ x, x < n → Av S r z x → AvN S r z K x := by
  have one : ∀ z m, ∃ K, ∀ x, x < m → Av S r z x → AvN S r z K x := by
    intro z m
    induction m with
    | zero => exact ⟨0, fun x hx => absurd hx (Nat.not_lt_zero x)⟩
    | succ m ih =>
      obtain ⟨K, hK⟩ := ih
      by_cases h : Av S r z m
      · obtain ⟨k, hk⟩ := h.avn; refine ⟨max K k, fun x hx ha => ?_⟩; rcases Nat.lt_succ_iff_lt_or_eq.1 hx with h1 | rfl
        · exact (hK x h1 ha).mono (Nat.le_max_left ..)
        · exact hk.mono (Nat.le_max_right ..)
      · refine ⟨K, fun x hx ha => ?_⟩; rcases Nat.lt_succ_iff_lt_or_eq.1 hx with h1 | rfl
        · exact hK x h1 ha
        · exact absurd ha h
  have two : ∀ m, ∃ K, ∀ z, z < m → ∀ x, x < n → Av S r z x → AvN S r z K x := by
    intro m
    induction m with
    | zero => exact ⟨0, fun x hx => absurd hx (Nat.not_lt_zero x)⟩
    | succ m ih =>
      obtain ⟨K, hK⟩ := ih; obtain ⟨k, hk⟩ := one m n; refine ⟨max K k, fun z hz x hx ha => ?_⟩; rcases Nat.lt_succ_iff_lt_or_eq.1 hz with h1 | rfl
      · exact (hK z h1 x hx ha).mono (Nat.le_max_left ..)
      · exact (hk x hx ha).mono (Nat.le_max_right ..)
  exact two n
end
inductive UpTo (par : Nat → Int) : Nat → Nat → Prop
  | refl (x : Nat) : UpTo par x x
  | up {x y z : Nat} (h : par x = (y : Int)) (t : UpTo par y z) : UpTo par x z
inductive Fw (S : Nat → List Nat) (at_ : Nat → Nat) (u : Nat) : Nat → Prop
  | refl : Fw S at_ u u
  | step {v w : Nat} (h : Fw S at_ u v) (hw : w ∈ S v) (hl : at_ v < at_ w) : Fw S at_ u w
section
variable {S : Nat → List Nat} {at_ : Nat → Nat} {par : Nat → Int}
theorem Fw.le {u w : Nat} (h : Fw S at_ u w) : at_ u ≤ at_ w := by
  induction h with
  | refl => exact Nat.le_refl _
  | step _ _ hl ih => omega
theorem Fw.trans {u v w : Nat} (h : Fw S at_ u v) (k : Fw S at_ v w) : Fw S at_ u w := by
  induction k with
  | refl => exact h
  | step _ hw hl ih => exact .step ih hw hl
theorem Fw.av {r d u w : Nat} (h : Fw S at_ u w) (ha : Av S r d u) (hd : at_ d < at_ u) : Av S r d w := by
  induction h with
  | refl => exact ha
  | @step v w h hw hl ih => exact .step ih hw (by rintro rfl; have := h.le; omega)
theorem UpTo.trans {x y z : Nat} (h : UpTo par x y) (k : UpTo par y z) : UpTo par x z := by
  induction h with
  | refl x => exact k
  | up h _ ih => exact .up h (ih k)
theorem anc_up {x p z : Nat} (h : par x = (p : Int)) : UpTo par x z ↔ z = x ∨ UpTo par p z := by
  constructor
  · intro k
    cases k with
    | refl => exact .inl rfl
    | up h' t => rw [h] at h'; cases Int.ofNat.inj h'; exact .inr t
  · rintro (rfl | k)
    · exact .refl _
    · exact .up h k
theorem Qu {x z : Nat} (h : ∀ p : Nat, par x ≠ (p : Int)) : UpTo par x z ↔ z = x := by
  constructor
  · intro k
    cases k with
    | refl => rfl
    | up h' t => exact absurd h' (h _)
  · rintro rfl; exact .refl _
structure Inv (S : Nat → List Nat) (r n : Nat) (at_ : Nat → Nat) (par : Nat → Int) : Prop where
  top : par r = -1
  kind : ∀ x, x < n → par x = -2 ∨ x = r ∨ ∃ z : Nat, par x = (z : Int)
  up : ∀ x, x < n → ∀ z : Nat, par x = (z : Int) → z < n ∧ par z ≠ -2 ∧ at_ z < at_ x ∧ Fw S at_ z x
  rc : ∀ x, x < n → par x ≠ -2 → Rc S r x
  all : ∀ x, x < n → par x ≠ -2 → ∀ d, ¬ UpTo par x d → Av S r d x
end
section
variable {S : Nat → List Nat} {at_ : Nat → Nat} {par : Nat → Int} {r n : Nat}
theorem Inv.anc (h : Inv S r n at_ par) {x z : Nat} (k : UpTo par x z) (hx : x < n) (hp : par x ≠ -2) : z < n ∧ par z ≠ -2 ∧ at_ z ≤ at_ x ∧ Fw S at_ z x := by
  induction k with
  | refl x => exact ⟨hx, hp, Nat.le_refl _, .refl⟩
  | @up x y z hxy t ih =>
    obtain ⟨h1, h2, h3, h4⟩ := h.up x hx y hxy; obtain ⟨i1, i2, i3, i4⟩ := ih h1 h2; exact ⟨i1, i2, by omega, i4.trans h4⟩
theorem Inv.root_anc (h : Inv S r n at_ par) {z : Nat} : UpTo par r z ↔ z = r := Qu fun p hp => by rw [h.top] at hp; omega
theorem Inv.strict (h : Inv S r n at_ par) {x z : Nat} (k : UpTo par x z) (hx : x < n) (hp : par x ≠ -2) : z = x ∨ at_ z < at_ x := by
  cases k with
  | refl => exact .inl rfl
  | up hxy t =>
    obtain ⟨h1, h2, h3, h4⟩ := h.up x hx _ hxy; obtain ⟨i1, i2, i3, i4⟩ := h.anc t h1 h2; exact .inr (by omega)
theorem Inv.antisymm (h : Inv S r n at_ par) {x z : Nat} (k : UpTo par x z) (m : UpTo par z x) (hx : x < n) (hp : par x ≠ -2) : z = x := by
  rcases h.strict k hx hp with rfl | h1
  · rfl
  · obtain ⟨i1, i2, i3, i4⟩ := h.anc k hx hp; have := (h.anc m i1 i2).2.2.1; omega
def MeetAt (par : Nat → Int) (a b m : Nat) : Prop := ∀ w, UpTo par m w ↔ UpTo par a w ∧ UpTo par b w
theorem Ug {a : Nat} : MeetAt par a a a := fun w => by simp
theorem meet_swap {a b m : Nat} (h : MeetAt par a b m) : MeetAt par b a m := fun w => by rw [h w]; exact And.comm
theorem Inv.meet_left (h : Inv S r n at_ par) (hinj : ∀ x y, x < n → y < n → par x ≠ -2 → par y ≠ -2 → at_ x = at_ y → x = y) {a b p m : Nat} (ha : a < n) (hpa : par a ≠ -2) (hb : b < n) (hpb : par b ≠ -2) (hab : a ≠ b) (hl : at_ b ≤ at_ a) (hp : par a = (p : Int)) (k : MeetAt par p b m) : MeetAt par a b m := fun w => by
  rw [k w]
  constructor
  · rintro ⟨h1, h2⟩; exact ⟨.up hp h1, h2⟩
  · rintro ⟨h1, h2⟩; rcases (anc_up hp).1 h1 with rfl | h1
    · exfalso
      rcases h.strict h2 hb hpb with h3 | h3
      · exact hab h3
      · omega
    · exact ⟨h1, h2⟩
end
section
variable {S : Nat → List Nat} {at_ : Nat → Nat} {par : Nat → Int} {r n : Nat}
def Gt (par : Nat → Int) (y : Nat) (v : Int) : Nat → Int := fun x => if x = y then v else par x
def Best (S : Nat → List Nat) (n : Nat) (par : Nat → Int) (y z : Nat) : Prop := ∀ w, UpTo par z w ↔ ∀ p, p < n → y ∈ S p → par p ≠ -2 → UpTo par p w
theorem P0 {y : Nat} {v : Int} {x z : Nat} (k : UpTo par x z) (hy : ¬ UpTo par x y) : UpTo (Gt par y v) x z := by
  induction k with
  | refl x => exact .refl _
  | @up x q z h t ih =>
    have hxy : x ≠ y := by rintro rfl; exact hy (.refl _)
    refine .up (y := q) ?_ (ih fun k => hy (.up h k)); unfold Gt; rw [if_neg hxy]; exact h
theorem Wt {y : Nat} {v : Int} {x : Nat} (k : UpTo par x y) : UpTo (Gt par y v) x y := by
  induction k with
  | refl x => exact .refl _
  | @up x q z h t ih =>
    by_cases hxy : x = z
    · subst hxy; exact .refl _
    · refine .up (y := q) ?_ ih; unfold Gt; rw [if_neg hxy]; exact h
theorem anc_upd_inv {y : Nat} {v : Int} {x w : Nat} (k : UpTo (Gt par y v) x w) : UpTo par x w ∨ (UpTo par x y ∧ UpTo (Gt par y v) y w) := by
  induction k with
  | refl x => exact .inl (.refl _)
  | @up x q w h t ih =>
    by_cases hxy : x = y
    · subst hxy; exact .inr ⟨.refl _, .up h t⟩
    · unfold Gt at h; rw [if_neg hxy] at h; rcases ih with h1 | ⟨h1, h2⟩
      · exact .inl (.up h h1)
      · exact .inr ⟨.up h h1, h2⟩
theorem low_or {y : Nat} {v : Int} {x d : Nat} (k : UpTo par x y) (hd : UpTo par x d) : UpTo par y d ∨ UpTo (Gt par y v) x d := by
  induction k with
  | refl x => exact .inl hd
  | @up x q y hq t ih =>
    by_cases e : x = y
    · subst e; exact .inl hd
    · rcases (anc_up hq).1 hd with rfl | k
      · exact .inr (.refl _)
      · rcases ih k with h1 | h1
        · exact .inl h1
        · exact .inr (.up (y := q) (by unfold Gt; rw [if_neg e]; exact hq) h1)
structure Better (S : Nat → List Nat) (r n : Nat) (at_ : Nat → Nat) (par : Nat → Int) (y z : Nat) : Prop where
  inv : Inv S r n at_ par
  hy : y < n
  hr : y ≠ r
  hz : z < n
  best : Best S n par y z
  fwd : ∃ p, p < n ∧ y ∈ S p ∧ par p ≠ -2 ∧ at_ p < at_ y
variable {y z : Nat}
theorem Better.zlt (h : Better S r n at_ par y z) : UpTo par z z ∧ par z ≠ -2 ∧ at_ z < at_ y ∧ Fw S at_ z y := by
  obtain ⟨p, hp, hyp, hpp, hl⟩ := h.fwd; obtain ⟨h1, h2, h3, h4⟩ := h.inv.anc ((h.best z).1 (.refl _) p hp hyp hpp) hp hpp; exact ⟨.refl _, h2, by omega, .step h4 hyp hl⟩
theorem Better.above (h : Better S r n at_ par y z) {w : Nat} : UpTo (Gt par y z) z w ↔ UpTo par z w := by
  obtain ⟨_, h2, h3, _⟩ := h.zlt
  have hn : ¬ UpTo par z y := fun k => by have := (h.inv.anc k h.hz h2).2.2.1; omega
  constructor
  · intro k; rcases anc_upd_inv k with h1 | ⟨h1, _⟩
    · exact h1
    · exact absurd h1 hn
  · intro k; exact P0 k hn
theorem Better.here (h : Better S r n at_ par y z) {w : Nat} : UpTo (Gt par y z) y w ↔ w = y ∨ UpTo par z w := by
  rw [anc_up (p := z) (by simp [Gt]), h.above]
theorem Better.av_here (h : Better S r n at_ par y z) {d : Nat} (hd : ¬ UpTo (Gt par y z) y d) : Av S r d y := by
  rw [h.here] at hd; have h1 : ¬ ∀ p, p < n → y ∈ S p → par p ≠ -2 → UpTo par p d := fun hh => hd (.inr ((h.best d).2 hh)); simp only [Classical.not_forall] at h1; obtain ⟨p, hp, hyp, hpp, hnp⟩ := h1; exact .step (h.inv.all p hp hpp d hnp) hyp fun e => hd (.inl e.symm)
theorem Better.inv' (h : Better S r n at_ par y z) : Inv S r n at_ (Gt par y z) := by
  obtain ⟨hzz, hz2, hzl, hzf⟩ := h.zlt; obtain ⟨p, hp, hyp, hpp, hl⟩ := h.fwd
  have hne : ∀ x, Gt par y z x ≠ -2 → x = y ∨ par x ≠ -2 := fun x hx => by
    by_cases e : x = y
    · exact .inl e
    · unfold Gt at hx; rw [if_neg e] at hx; exact .inr hx
  have hyv : Gt par y z y = (z : Int) := by simp [Gt]
  have hyo : ∀ x, x ≠ y → Gt par y z x = par x := fun x e => by unfold Gt; rw [if_neg e]
  refine ⟨by rw [hyo _ (Ne.symm h.hr)]; exact h.inv.top, fun x hx => ?_, fun x hx w hw => ?_, fun x hx hxp => ?_, fun x hx hxp d hd => ?_⟩
  · by_cases e : x = y
    · subst e; exact .inr (.inr ⟨z, hyv⟩)
    · rw [hyo x e]; exact h.inv.kind x hx
  · have hzn : ∀ w, par w ≠ -2 → Gt par y z w ≠ -2 := fun w hw => by
      by_cases e : w = y
      · subst e; rw [hyv]; omega
      · rw [hyo w e]; exact hw
    by_cases e : x = y
    · subst e; rw [hyv] at hw
      cases Int.ofNat.inj hw
      exact ⟨h.hz, hzn _ hz2, hzl, hzf⟩
    · rw [hyo x e] at hw; obtain ⟨h1, h2, h3, h4⟩ := h.inv.up x hx w hw; exact ⟨h1, hzn _ h2, h3, h4⟩
  · rcases hne x hxp with rfl | h1
    · exact .step (h.inv.rc p hp hpp) hyp
    · exact h.inv.rc x hx h1
  · by_cases e : x = y
    · subst e; exact h.av_here hd
    · rw [hyo x e] at hxp
      by_cases hxd : UpTo par x d
      ·
        by_cases hxy : UpTo par x y
        · have hyd : ¬ UpTo (Gt par y z) y d := fun k => hd ((Wt hxy).trans k); have hav := h.av_here hyd; have hf := (h.inv.anc hxy hx hxp).2.2.2
          have hdy : UpTo par y d := by
            rcases low_or (v := (z : Int)) hxy hxd with h1 | h1
            · exact h1
            · exact absurd h1 hd
          by_cases hpy : par y = -2
          ·
            have : d = y := by
              refine (Qu (par := par) fun p hp => ?_).1 hdy; rw [hpy] at hp; omega
            subst this; exact absurd (.refl _) hyd
          · rcases h.inv.strict hdy h.hy hpy with rfl | hlt
            · exact absurd (.refl _) hyd
            · exact hf.av hav hlt
        · exact absurd (P0 hxd hxy) hd
      · exact h.inv.all x hx hxp d hxd
end
end
end Go.Proofs.Ytjdddniaokcgnaa

namespace Go.Proofs.Ytjdddniaokcgnaa
noncomputable section
open Go Go.RowKit
set_option linter.unusedVariables false
set_option linter.unusedSimpArgs false
section
variable {S : Nat → List Nat} {at_ : Nat → Nat} {par : Nat → Int} {r n : Nat}
def QB (S : Nat → List Nat) (r n : Nat) (par : Nat → Int) (b : Nat → Nat) : Prop := ∀ x, x < n → par x ≠ -2 → ∀ z, AvN S r z (b x) x → ¬ UpTo par x z
def Za (S : Nat → List Nat) (r n : Nat) (par : Nat → Int) : Prop := ∀ x, x < n → Rc S r x → par x ≠ -2
def Exact (S : Nat → List Nat) (r n : Nat) (par : Nat → Int) : Prop := ∀ x, x < n → par x ≠ -2 → ∀ d, UpTo par x d ↔ ¬ Av S r d x
theorem qb_zero (h : Inv S r n at_ par) : QB S r n par fun _ => 0 := fun x hx hp z hz k => by
  cases hz with
  | root hr _ => exact hr (h.root_anc.1 k).symm
theorem rc_lt (hS : ∀ x, x < n → ∀ w ∈ S x, w < n) (hr : r < n) {x : Nat} (h : Rc S r x) : x < n := by
  induction h with
  | root => exact hr
  | step _ hy ih => exact hS _ ih _ hy
theorem Better.qb {y z k : Nat} {b : Nat → Nat} (h : Better S r n at_ par y z) (hS : ∀ x, x < n → ∀ w ∈ S x, w < n) (hrn : r < n) (full : Za S r n par) (hb : ∀ x, x < n → k ≤ b x ∧ b x ≤ k + 1) (q : QB S r n par b) :
    QB S r n (Gt par y z) fun x => if x = y then k + 1 else b x := by
  have here : ∀ w, AvN S r w (k + 1) y → ¬ UpTo (Gt par y z) y w := fun w hw hu => by
    rcases h.here.1 hu with rfl | hu
    · exact hw.av.ne rfl
    · cases hw with
      | root hr _ => exact h.hr rfl
      | @step _ p _ hp hyp hne =>
        have hpn := rc_lt hS hrn hp.av.rc; have hpp := full p hpn hp.av.rc; exact q p hpn hpp w (hp.mono (hb p hpn).1) ((h.best w).1 hu p hpn hyp hpp)
  intro x hx hxp w hw hu
  dsimp only at hw
  by_cases e : x = y
  · subst e; rw [if_pos rfl] at hw; exact here w hw hu
  · rw [if_neg e] at hw; unfold Gt at hxp; rw [if_neg e] at hxp; rcases anc_upd_inv hu with h1 | ⟨h1, h2⟩
    · exact q x hx hxp w hw h1
    · rcases hw.via y with h3 | h3
      · exact q x hx hxp y h3 h1
      · exact here w (h3.mono (hb x hx).2) h2
theorem exact_of (h : Inv S r n at_ par) {K : Nat} (hK : ∀ z, z < n → ∀ x, x < n → Av S r z x → AvN S r z K x) (q : QB S r n par fun _ => K) : Exact S r n par := fun x hx hp d => by
  constructor
  · intro hu ha; exact q x hx hp d (hK d (h.anc hu hx hp).1 x hx ha) hu
  · intro ha; exact Classical.byContradiction fun hn => ha (h.all x hx hp d hn)
theorem Better.same {y z : Nat} (h : Better S r n at_ par y z) (hS : ∀ x, x < n → ∀ w ∈ S x, w < n) (hrn : r < n) (full : Za S r n par) (hy2 : par y ≠ -2) (ex : Exact S r n par) : par y = (z : Int) := by
  obtain ⟨hzz, hz2, hzl, hzf⟩ := h.zlt; rcases h.inv.kind y h.hy with h1 | h1 | ⟨q, hq⟩
  · exact absurd h1 hy2
  · exact absurd h1 h.hr
  · obtain ⟨q1, q2, q3, q4⟩ := h.inv.up y h.hy q hq
    have key : ∀ w, UpTo par z w ↔ UpTo par q w := fun w => by
      rw [h.best w]
      constructor
      · intro hall
        have hwy : ¬ Av S r w y := fun ha => by
          cases ha with
          | root _ => exact h.hr rfl
          | @step p _ hp hyp hne =>
            have hpn := rc_lt hS hrn hp.rc; have hpp := full p hpn hp.rc; exact (ex p hpn hpp w).1 (hall p hpn hyp hpp) hp
        rcases (anc_up hq).1 ((ex y h.hy hy2 w).2 hwy) with rfl | hu
        · have := (h.inv.anc ((h.best _).2 hall) h.hz hz2).2.2.1; omega
        · exact hu
      · intro hu p hp hyp hpp; have hwy : UpTo par y w := .up hq hu; refine (ex p hp hpp w).2 fun ha => ?_
        have hne : y ≠ w := by rintro rfl; have := (h.inv.anc hu q1 q2).2.2.1; omega
        exact (ex y h.hy hy2 w).1 hwy (.step ha hyp hne)
    have := h.inv.antisymm ((key q).2 (.refl _)) ((key z).1 (.refl _)) h.hz hz2; rw [hq, this]
theorem exact_fix (h : Inv S r n at_ par) (hS : ∀ x, x < n → ∀ w ∈ S x, w < n) (hrn : r < n) (full : Za S r n par) (fix : ∀ y, y < n → y ≠ r → Rc S r y → ∃ z : Nat, par y = (z : Int) ∧ Best S n par y z) : Exact S r n par := fun x hx hp d => by
  constructor
  · intro hu ha
    induction ha with
    | root hne => exact hne (h.root_anc.1 hu).symm
    | @step p y hp' hyp hne ih =>
      have hpn := rc_lt hS hrn hp'.rc; have hpp := full p hpn hp'.rc
      by_cases e : y = r
      · subst e; exact hne (h.root_anc.1 hu).symm
      · obtain ⟨z, hz, hb⟩ := fix y hx e (.step hp'.rc hyp); rcases (anc_up hz).1 hu with rfl | hu
        · exact hne rfl
        · exact ih hpn hpp ((hb d).1 hu p hpn hyp hpp)
  · intro ha; exact Classical.byContradiction fun hn => ha (h.all x hx hp d hn)
end
def A2 (t : List Int) : Nat → Int := fun x => t.getD x 0
theorem X9 {t : List Int} {y : Nat} {v : Int} (hy : y < t.length) : A2 (t.set y v) = Gt (A2 t) y v := by
  funext x
  unfold A2 Gt
  by_cases e : x = y
  · subst e; simp [List.getD, hy]
  · simp [List.getD, e, Ne.symm e]
open Classical in
def Gc (S : Nat → List Nat) (n : Nat) (t : List Int) (y : Nat) : Nat := if h : ∃ z, z < n ∧ Best S n (A2 t) y z then Classical.choose h else 0
def K6 (S : Nat → List Nat) (n : Nat) (P : List Nat) (t : List Int) : Nat → List Int
  | 0 => t
  | i + 1 => (K6 S n P t i).set (P.getD i 0) (Gc S n (K6 S n P t i) (P.getD i 0) : Int)
def Qt (S : Nat → List Nat) (n : Nat) (P : List Nat) (t : List Int) : Nat → List Int
  | 0 => t
  | j + 1 => K6 S n P (Qt S n P t j) P.length
def Du (n r : Nat) : List Int := (List.replicate n (-2 : Int)).set r (-1)
structure Ordered (S : Nat → List Nat) (r n : Nat) (P : List Nat) : Prop where
  hr : r < n
  hS : ∀ x, x < n → ∀ w ∈ S x, w < n
  nodup : (r :: P).Nodup
  mem : ∀ x, x ∈ r :: P ↔ Rc S r x
  fwd : ∀ i, i < P.length → ∃ p, p ∈ r :: P.take i ∧ P.getD i 0 ∈ S p
section
variable {S : Nat → List Nat} {r n : Nat} {P : List Nat}
theorem Ordered.lt (o : Ordered S r n P) {x : Nat} (h : x ∈ r :: P) : x < n := rc_lt o.hS o.hr ((o.mem x).1 h)
theorem Ig {i : Nat} (hi : i < P.length) : P.getD i 0 ∈ P := by rw [Am _ _ _ hi]; exact List.getElem_mem hi
theorem Ordered.at_lt (o : Ordered S r n P) {i : Nat} (hi : i < P.length) {p : Nat} (hp : p ∈ r :: P.take i) : pos (r :: P) p < pos (r :: P) (P.getD i 0) := by
  have hd := o.nodup
  have h1 : pos (r :: P) (P.getD i 0) = i + 1 := by
    have := (Rd hd (i := i + 1) (by simpa using hi)).2; rw [Am _ _ _ hi]
    simpa using this
  rw [h1]; obtain ⟨j, hj, rfl⟩ := List.getElem_of_mem hp
  have hj' : j < i + 1 := by simp at hj; omega
  have hjl : j < (r :: P).length := by simp; omega
  have e : (r :: P.take i)[j] = (r :: P)[j] := by
    cases j with
    | zero => rfl
    | succ j => simp
  rw [e, (Rd hd hjl).2]; exact hj'
theorem inv0 (o : Ordered S r n P) : Inv S r n (pos (r :: P)) (A2 (Du n r)) ∧ (Du n r).length = n ∧ A2 (Du n r) r ≠ -2 := by
  have hlen : (Du n r).length = n := by simp [Du]
  have hr := o.hr
  have at_ : ∀ x, x < n → A2 (Du n r) x = if x = r then -1 else -2 := fun x hx => by
    unfold A2 Du
    by_cases e : x = r
    · subst e; simp [List.getD, hx]
    · simp [List.getD, hx, e, Ne.symm e]
  have hno : ∀ x, x < n → ∀ p : Nat, A2 (Du n r) x ≠ (p : Int) := fun x hx p hp => by rw [at_ x hx] at hp; split at hp <;> omega
  refine ⟨⟨by rw [at_ r hr, if_pos rfl], fun x hx => ?_, fun x hx z hz => absurd hz (hno x hx z), fun x hx hp => ?_, fun x hx hp d hd => ?_⟩, hlen, by rw [at_ r hr, if_pos rfl]; omega⟩
  · by_cases e : x = r
    · exact .inr (.inl e)
    · exact .inl (by rw [at_ x hx, if_neg e])
  · by_cases e : x = r
    · subst e; exact .root
    · exact absurd (by rw [at_ x hx, if_neg e]) hp
  · by_cases e : x = r
    · subst e; exact .root (fun e => hd (by rw [e]; exact .refl _))
    · exact absurd (by rw [at_ x hx, if_neg e]) hp
structure Ready (S : Nat → List Nat) (r n : Nat) (P : List Nat) (t : List Int) (i : Nat) : Prop where
  inv : Inv S r n (pos (r :: P)) (A2 t)
  len : t.length = n
  done : ∀ x ∈ r :: P.take i, A2 t x ≠ -2
theorem Inv.meets {at_ : Nat → Nat} {par : Nat → Int} (h : Inv S r n at_ par) (hinj : ∀ x y, x < n → y < n → par x ≠ -2 → par y ≠ -2 → at_ x = at_ y → x = y) (hr : at_ r = 0) : ∀ m a b, at_ a + at_ b ≤ m → a < n → b < n → par a ≠ -2 → par b ≠ -2 → ∃ c, MeetAt par a b c ∧ c < n ∧ par c ≠ -2 := by
  intro m
  induction m with
  | zero =>
    intro a b hm ha hb hpa hpb; have : a = b := hinj a b ha hb hpa hpb (by omega); subst this; exact ⟨a, Ug, ha, hpa⟩
  | succ m ih =>
    have go : ∀ a b, at_ a + at_ b ≤ m + 1 → a < n → b < n → par a ≠ -2 → par b ≠ -2 → at_ b ≤ at_ a → ∃ c, MeetAt par a b c ∧ c < n ∧ par c ≠ -2 := fun a b hm ha hb hpa hpb hl => by
      by_cases e : a = b
      · subst e; exact ⟨a, Ug, ha, hpa⟩
      · rcases h.kind a ha with h1 | h1 | ⟨p, hp⟩
        · exact absurd h1 hpa
        · subst h1; exact absurd (hinj a b ha hb hpa hpb (by omega)) e
        · obtain ⟨p1, p2, p3, p4⟩ := h.up a ha p hp; obtain ⟨c, hc, hc2⟩ := ih p b (by omega) p1 hb p2 hpb; exact ⟨c, h.meet_left hinj ha hpa hb hpb e hl hp hc, hc2⟩
    intro a b hm ha hb hpa hpb; rcases Nat.le_total (at_ b) (at_ a) with hl | hl
    · exact go a b hm ha hb hpa hpb hl
    · obtain ⟨c, hc, hc2⟩ := go b a (by omega) hb ha hpb hpa hl; exact ⟨c, meet_swap hc, hc2⟩
theorem Ready.inj (o : Ordered S r n P) {t : List Int} {i : Nat} (h : Ready S r n P t i) : ∀ x y, x < n → y < n → A2 t x ≠ -2 → A2 t y ≠ -2 → pos (r :: P) x = pos (r :: P) y → x = y := fun x y hx hy hpx hpy he => by
  have hm : ∀ x, x < n → A2 t x ≠ -2 → x ∈ r :: P := fun x hx hp => (o.mem x).2 (h.inv.rc x hx hp)
  have back : ∀ x ∈ r :: P, (r :: P).getD (pos (r :: P) x) 0 = x := fun x hx => by
    obtain ⟨j, hj, rfl⟩ := List.getElem_of_mem hx; rw [(Rd o.nodup hj).2, Am _ _ _ hj]
  rw [← back x (hm x hx hpx), ← back y (hm y hy hpy), he]
theorem Yf : pos (r :: P) r = 0 := by rw [S7, if_pos rfl]
theorem Ready.meetAll (o : Ordered S r n P) {t : List Int} {i : Nat} (h : Ready S r n P t i) : ∀ l : List Nat, (∀ p ∈ l, p < n ∧ A2 t p ≠ -2) → l ≠ [] → ∃ z, z < n ∧ A2 t z ≠ -2 ∧ ∀ w, UpTo (A2 t) z w ↔ ∀ p ∈ l, UpTo (A2 t) p w := by
  intro l
  induction l with
  | nil => intro _ hn; exact absurd rfl hn
  | cons p l ih =>
    intro hl _; obtain ⟨hp1, hp2⟩ := hl p (List.mem_cons_self ..)
    by_cases hl0 : l = []
    · subst hl0; exact ⟨p, hp1, hp2, fun w => by simp⟩
    · obtain ⟨z, hz1, hz2, hz3⟩ := ih (fun q hq => hl q (List.mem_cons_of_mem _ hq)) hl0; obtain ⟨c, hc1, hc2, hc3⟩ := h.inv.meets (h.inj o) Yf _ p z (Nat.le_refl _) hp1 hz1 hp2 hz2; exact ⟨c, hc2, hc3, fun w => by rw [hc1 w, hz3 w]; simp⟩
theorem Ready.best (o : Ordered S r n P) {t : List Int} {i : Nat} (h : Ready S r n P t i) (hi : i < P.length) : Better S r n (pos (r :: P)) (A2 t) (P.getD i 0) (Gc S n t (P.getD i 0)) := by
  have hy := Ig hi; have hyr : P.getD i 0 ≠ r := fun e => (List.nodup_cons.1 o.nodup).1 (e ▸ hy); have hyn := o.lt (List.mem_cons_of_mem _ hy); obtain ⟨p, hp, hyp⟩ := o.fwd i hi; have hp2 := h.done p hp
  have hpP : p ∈ r :: P := by
    rcases List.mem_cons.1 hp with rfl | hp
    · exact List.mem_cons_self ..
    · exact List.mem_cons_of_mem _ (List.mem_of_mem_take hp)
  have hpn := o.lt hpP
  have hex : ∃ z, z < n ∧ Best S n (A2 t) (P.getD i 0) z := by
    classical
    obtain ⟨z, hz1, hz2, hz3⟩ := h.meetAll o ((List.range n).filter fun p => decide (P.getD i 0 ∈ S p ∧ A2 t p ≠ -2)) (fun p hp => by
      obtain ⟨h1, h2⟩ := List.mem_filter.1 hp
      exact ⟨List.mem_range.1 h1, (of_decide_eq_true h2).2⟩) (fun e => by
      have : p ∈ (List.range n).filter fun p => decide (P.getD i 0 ∈ S p ∧ A2 t p ≠ -2) := List.mem_filter.2 ⟨List.mem_range.2 hpn, decide_eq_true ⟨hyp, hp2⟩⟩
      rw [e] at this; cases this)
    refine ⟨z, hz1, fun w => ?_⟩; rw [hz3 w]
    constructor
    · intro k p hp hyp hpp; exact k p (List.mem_filter.2 ⟨List.mem_range.2 hp, decide_eq_true ⟨hyp, hpp⟩⟩)
    · intro k p hp; obtain ⟨h1, h2⟩ := List.mem_filter.1 hp; exact k p (List.mem_range.1 h1) (of_decide_eq_true h2).1 (of_decide_eq_true h2).2
  have hb : Gc S n t (P.getD i 0) < n ∧ Best S n (A2 t) (P.getD i 0) (Gc S n t (P.getD i 0)) := by
    unfold Gc; rw [dif_pos hex]; exact Classical.choose_spec hex
  exact ⟨h.inv, hyn, hyr, hb.1, hb.2, p, hpn, hyp, hp2, o.at_lt hi hp⟩
theorem Ready.best_eq (o : Ordered S r n P) {t : List Int} {i : Nat} (h : Ready S r n P t i) (hi : i < P.length) {z : Nat} (hz : z < n) (hz2 : A2 t z ≠ -2) (hb : Best S n (A2 t) (P.getD i 0) z) : z = Gc S n t (P.getD i 0) := by
  have b := h.best o hi; exact (h.inv.antisymm ((hb _).2 ((b.best _).1 (.refl _))) ((b.best _).2 ((hb _).1 (.refl _))) hz hz2).symm
theorem Ready.next (o : Ordered S r n P) {t : List Int} {i : Nat} (h : Ready S r n P t i) (hi : i < P.length) : Ready S r n P (t.set (P.getD i 0) (Gc S n t (P.getD i 0) : Int)) (i + 1) := by
  have b := h.best o hi; have e := X9 (t := t) (y := P.getD i 0) (v := (Gc S n t (P.getD i 0) : Int)) (by rw [h.len]; exact b.hy); refine ⟨by rw [e]; exact b.inv', by rw [List.length_set]; exact h.len, fun x hx => ?_⟩; rw [e]; unfold Gt
  split
  · omega
  · rename_i hne
    refine h.done x ?_; rcases List.mem_cons.1 hx with rfl | hx
    · exact List.mem_cons_self ..
    · rw [List.take_succ_eq_append_getElem hi] at hx; rcases List.mem_append.1 hx with hx | hx
      · exact List.mem_cons_of_mem _ hx
      · rw [List.mem_singleton, ← Am _ _ 0 hi] at hx; exact absurd hx hne
theorem Ready.more (o : Ordered S r n P) {t : List Int} (h : Ready S r n P t P.length) (i : Nat) : Ready S r n P t i :=
  ⟨h.inv, h.len, fun x hx => h.done x (by
    rw [List.take_length]; rcases List.mem_cons.1 hx with rfl | hx
    · exact List.mem_cons_self ..
    · exact List.mem_cons_of_mem _ (List.mem_of_mem_take hx))⟩
theorem Ready.full (o : Ordered S r n P) {t : List Int} (h : Ready S r n P t P.length) : Za S r n (A2 t) := fun x hx hr => h.done x (by rw [List.take_length]; exact (o.mem x).2 hr)
theorem Ready.round (o : Ordered S r n P) {t : List Int} (h : Ready S r n P t 0) : ∀ i, i ≤ P.length → Ready S r n P (K6 S n P t i) i := by
  intro i
  induction i with
  | zero => intro _; exact h
  | succ i ih => intro hi; exact (ih (by omega)).next o (by omega)
theorem ready0 (o : Ordered S r n P) : Ready S r n P (Du n r) 0 := by
  obtain ⟨h1, h2, h3⟩ := inv0 o; exact ⟨h1, h2, fun x hx => by simp at hx; subst hx; exact h3⟩
theorem Ready.rounds (o : Ordered S r n P) : ∀ j, Ready S r n P (Qt S n P (Du n r) j) 0 := by
  intro j
  induction j with
  | zero => exact ready0 o
  | succ j ih => exact ((ih.round o) P.length (Nat.le_refl _)).more o 0
theorem Ready.rounds' (o : Ordered S r n P) (j : Nat) : Ready S r n P (Qt S n P (Du n r) (j + 1)) P.length := (Ready.rounds o j).round o P.length (Nat.le_refl _)
theorem qb_round (o : Ordered S r n P) {t : List Int} {k : Nat} (h : Ready S r n P t P.length) (q : QB S r n (A2 t) fun _ => k) : QB S r n (A2 (K6 S n P t P.length)) fun _ => k + 1 := by
  have key : ∀ i, i ≤ P.length → QB S r n (A2 (K6 S n P t i)) (fun x => if x ∈ P.take i then k + 1 else k) ∧ Za S r n (A2 (K6 S n P t i)) := by
    intro i
    induction i with
    | zero => intro _; exact ⟨by simpa [K6] using q, h.full o⟩
    | succ i ih =>
      intro hi; obtain ⟨q1, f1⟩ := ih (by omega); have rd := (h.more o 0).round o i (by omega); have b := rd.best o (by omega); have e := X9 (t := K6 S n P t i) (y := P.getD i 0) (v := (Gc S n (K6 S n P t i) (P.getD i 0) : Int)) (by rw [rd.len]; exact b.hy)
      constructor
      · show QB S r n (A2 ((K6 S n P t i).set _ _)) _
        rw [e]; have := b.qb (k := k) o.hS o.hr f1 (fun x _ => by split <;> omega) q1; intro x hx hp z hz; refine this x hx hp z ?_
        dsimp only at hz ⊢
        rw [List.take_succ_eq_append_getElem (by omega : i < P.length)] at hz
        by_cases e1 : x = P.getD i 0
        · rw [if_pos e1]; rwa [if_pos (List.mem_append.2 (.inr (List.mem_singleton.2 (by rw [e1, Am _ _ _ (by omega : i < P.length)]))))] at hz
        · rw [if_neg e1]
          by_cases e2 : x ∈ P.take i
          · rw [if_pos e2]; rwa [if_pos (List.mem_append.2 (.inl e2))] at hz
          · rw [if_neg e2]
            rwa [if_neg (fun hm => by
              rcases List.mem_append.1 hm with hm | hm
              · exact e2 hm
              · rw [List.mem_singleton, ← Am _ _ 0 (by omega : i < P.length)] at hm; exact e1 hm)] at hz
      · show Za S r n (A2 ((K6 S n P t i).set _ _))
        rw [e]; intro x hx hr; unfold Gt
        split
        · omega
        · exact f1 x hx hr
  have q1 := (key P.length (Nat.le_refl _)).1; rw [List.take_length] at q1; have rd := (h.more o 0).round o P.length (Nat.le_refl _); intro x hx hp z hz; refine q1 x hx hp z ?_
  dsimp only at hz ⊢
  by_cases e : x ∈ P
  · rw [if_pos e]; exact hz
  · rw [if_neg e]
    have hxr : x = r := by
      rcases List.mem_cons.1 ((o.mem x).2 (rd.inv.rc x hx hp)) with h1 | h1
      · exact h1
      · exact absurd h1 e
    subst hxr; exact .root hz.av.ne k
def Kw (S : Nat → List Nat) (n : Nat) (P : List Nat) (t : List Int) : Prop := ∀ i, i < P.length → A2 t (P.getD i 0) = (Gc S n t (P.getD i 0) : Int)
theorem L8 {t : List Int} (o : Ordered S r n P) (hl : t.length = n) (h : Kw S n P t) : ∀ i, i ≤ P.length → K6 S n P t i = t := by
  intro i
  induction i with
  | zero => intro _; rfl
  | succ i ih =>
    intro hi; unfold K6; rw [ih (by omega), ← h i (by omega)]
    have hlt : P.getD i 0 < t.length := by rw [hl]; exact o.lt (List.mem_cons_of_mem _ (Ig (by omega)))
    unfold A2; rw [Am _ _ _ hlt]; exact List.set_getElem_self hlt
theorem stops (o : Ordered S r n P) : ∃ J, (∀ j, j < J → ¬ Kw S n P (Qt S n P (Du n r) j)) ∧ Kw S n P (Qt S n P (Du n r) J) := by
  obtain ⟨K, hK⟩ := avn_bound (S := S) (r := r) n
  have hq : ∀ k, QB S r n (A2 (Qt S n P (Du n r) (k + 1))) fun _ => k := by
    intro k
    induction k with
    | zero => exact qb_zero (Ready.rounds' o 0).inv
    | succ k ih => exact qb_round o (Ready.rounds' o k) ih
  have hst : Kw S n P (Qt S n P (Du n r) (K + 1)) := fun i hi => by
    have rd := Ready.rounds' o K; exact ((rd.more o i).best o hi).same o.hS o.hr (rd.full o) (rd.done _ (List.mem_cons_of_mem _ (by rw [List.take_length]; exact Ig hi))) (exact_of rd.inv hK (hq K))
  have key : ∀ m, (∃ J, J ≤ m ∧ Kw S n P (Qt S n P (Du n r) J)) → ∃ J, (∀ j, j < J → ¬ Kw S n P (Qt S n P (Du n r) j)) ∧ Kw S n P (Qt S n P (Du n r) J) := by
    intro m
    induction m with
    | zero => rintro ⟨J, hJ, h⟩; exact ⟨J, fun j hj => by omega, h⟩
    | succ m ih =>
      rintro ⟨J, hJ, h⟩
      by_cases hm : ∃ J, J ≤ m ∧ Kw S n P (Qt S n P (Du n r) J)
      · exact ih hm
      · exact ⟨J, fun j hj hs => hm ⟨j, by omega, hs⟩, h⟩
  exact key (K + 1) ⟨K + 1, Nat.le_refl _, hst⟩
structure DomTree (S : Nat → List Nat) (r n : Nat) (P : List Nat) (t : List Int) : Prop where
  inv : Inv S r n (pos (r :: P)) (A2 t)
  len : t.length = n
  full : Za S r n (A2 t)
  exact_ : Exact S r n (A2 t)
theorem Qe (o : Ordered S r n P) {j : Nat} (h : Kw S n P (Qt S n P (Du n r) j)) : DomTree S r n P (Qt S n P (Du n r) j) := by
  have rd := Ready.rounds o j
  have hall : Ready S r n P (Qt S n P (Du n r) j) P.length := by
    have := rd.round o P.length (Nat.le_refl _); rwa [L8 o rd.len h P.length (Nat.le_refl _)] at this
  refine ⟨rd.inv, rd.len, hall.full o, exact_fix rd.inv o.hS o.hr (hall.full o) fun y hy hne hr => ?_⟩
  have hm : y ∈ P := by
    rcases List.mem_cons.1 ((o.mem y).2 hr) with h1 | h1
    · exact absurd h1 hne
    · exact h1
  obtain ⟨i, hi, rfl⟩ := List.getElem_of_mem hm; have b := (hall.more o i).best o hi; rw [Am _ _ _ hi] at b; have hs := h i hi; rw [Am _ _ _ hi] at hs; exact ⟨_, hs, b.best⟩
end
end
end Go.Proofs.Ytjdddniaokcgnaa

namespace Go.Proofs.Ytjdddniaokcgnaa
noncomputable section
open Go Go.RowKit
set_option linter.unusedVariables false
set_option linter.unusedSimpArgs false
section
variable {S : Nat → List Nat} {s s' : Nat → Bool} {l o : List Nat}
theorem VL.before (h : VL S s l s' o) : ∀ A z B, o = A ++ z :: B → z ∈ l ∨ ∃ p ∈ B, z ∈ S p := by
  induction h with
  | nil s => intro A z B e; simp at e
  | skip h _ ih =>
    intro A z B e; rcases ih A z B e with h1 | h1
    · exact .inl (List.mem_cons_of_mem _ h1)
    · exact .inr h1
  | @step s s1 s2 y l o1 o2 h a b iha ihb =>
    intro A z B e; rcases List.append_eq_append_iff.1 e with ⟨C, hC1, hC2⟩ | ⟨C, hC1, hC2⟩
    ·
      cases C with
      | nil =>
        simp at hC2; obtain ⟨rfl, rfl⟩ := hC2; exact .inl (List.mem_cons_self ..)
      | cons c C =>
        simp at hC2; obtain ⟨rfl, hC2⟩ := hC2; rcases ihb C z B hC2 with h1 | h1
        · exact .inl (List.mem_cons_of_mem _ h1)
        · exact .inr h1
    · cases C with
      | nil =>
        simp at hC2; obtain ⟨rfl, rfl⟩ := hC2; exact .inl (List.mem_cons_self ..)
      | cons c C =>
        simp at hC2; obtain ⟨rfl, rfl⟩ := hC2; rcases iha A z C hC1 with h1 | ⟨p, hp, hz⟩
        · exact .inr ⟨y, by simp, h1⟩
        · exact .inr ⟨p, by simp [hp], hz⟩
theorem Ord.ordered {n r : Nat} {L : List Nat} (hr : r < n) (hS : ∀ x, x < n → ∀ w ∈ S x, w < n) (h : Ord S r L) : ∃ P, L = r :: P ∧ Ordered S r n P := by
  have h1 := h.nodup; have h2 := h.mem; obtain ⟨s', o, hv, rfl⟩ := h; refine ⟨o.reverse, rfl, hr, hS, h1, fun x => by rw [h2 x, Zr], fun i hi => ?_⟩
  have hi' : i < o.length := by simpa using hi
  have e : o.reverse = o.reverse.take i ++ o.reverse[i] :: o.reverse.drop (i + 1) := by rw [← List.drop_eq_getElem_cons hi, List.take_append_drop]
  have e2 : o = (o.reverse.drop (i + 1)).reverse ++ o.reverse[i] :: (o.reverse.take i).reverse := by
    have := congrArg List.reverse e; rw [List.reverse_reverse] at this; rw [List.reverse_append, List.reverse_cons] at this
    simpa using this
  rw [Am _ _ _ hi]; rcases hv.before _ _ _ e2 with h3 | ⟨p, hp, hz⟩
  · exact ⟨r, List.mem_cons_self .., h3⟩
  · exact ⟨p, List.mem_cons_of_mem _ (List.mem_reverse.1 hp), hz⟩
end
def woI (S : Nat → List Nat) (w : Int) : Nat → List Nat := fun x => (S x).filter fun y => decide ((y : Int) ≠ w)
theorem woI_none (S : Nat → List Nat) : woI S (-1) = S := by
  funext x
  unfold woI; exact List.filter_eq_self.2 fun y _ => decide_eq_true (by omega)
theorem woI_nat (S : Nat → List Nat) (z : Nat) : woI S (z : Int) = wo S z := by
  funext x
  unfold woI wo
  congr 1
  funext y
  exact decide_eq_decide.2 ⟨fun h e => h (by rw [e]), fun h e => h (Int.ofNat.inj e)⟩
def Iu (L : List (List Int)) (r : Nat) (w : Int) : List Bool := if (r : Int) = w then List.replicate L.length false else Vz (woI (sN L) w) L.length ((List.replicate L.length false).set r true) L.length
theorem N1 {L : List (List Int)} (hm : Ds L = true) {r : Nat} (hr : r < L.length) {b : Nat} : (Iu L r (-1)).getD b false = true ↔ Rc (sN L) r b := by
  unfold Iu; rw [if_neg (by omega), woI_none, Xb (Je hm) hr b, Zr]
theorem R0 {L : List (List Int)} (hm : Ds L = true) {r : Nat} (hr : r < L.length) {a b : Nat} (hb : b < L.length) : (Iu L r (a : Int)).getD b false = true ↔ Av (sN L) r a b := by
  unfold Iu; rw [av_iff]
  by_cases h : r = a
  · subst h; rw [if_pos rfl, Ht]
    simp
  · rw [if_neg (by omega), woI_nat, Xb (S := wo (sN L) a) (fun z hz y hy => Je hm z hz y (List.mem_filter.1 hy).1) hr b]; simp [h]
def Ez (L : List (List Int)) (r a b : Nat) : Bool := (Iu L r (-1)).getD b false && !(Iu L r (a : Int)).getD b false
theorem N5 {L : List (List Int)} (hm : Ds L = true) {r a b : Nat} (hr : r < L.length) (hb : b < L.length) : Ez L r a b = true ↔ Rc (sN L) r b ∧ ¬ Av (sN L) r a b := by
  unfold Ez; rw [Bool.and_eq_true, Bool.not_eq_true', ← Bool.not_eq_true, N1 hm hr, R0 hm hr hb]
def Xv (L : List (List Int)) (r a b : Nat) : Bool := (List.range L.length).all fun c => decide (c = b) || !Ez L r c b || Ez L r c a
def Yk (L : List (List Int)) (r b : Nat) : Nat → Int
  | 0 => -2
  | a + 1 => if a ≠ b ∧ Ez L r a b = true ∧ Xv L r a b = true then (a : Int) else Yk L r b a
def Aaf (L : List (List Int)) (r b : Nat) : Int := if b = r then -1 else Yk L r b L.length
def F3 (L : List (List Int)) (r : Nat) : List Int := (List.range L.length).map (Aaf L r)
theorem Fu (L : List (List Int)) (r : Nat) : (F3 L r).length = L.length := by simp [F3]
theorem treeD_at {L : List (List Int)} {r b : Nat} (hb : b < L.length) : (F3 L r).getD b 0 = Aaf L r b := by unfold F3; rw [Ia hb]
theorem pick_cases (L : List (List Int)) (r b : Nat) : ∀ m, (Yk L r b m = -2 ∧ ∀ a, a < m → ¬ (a ≠ b ∧ Ez L r a b = true ∧ Xv L r a b = true)) ∨ ∃ a, a < m ∧ Yk L r b m = (a : Int) ∧ a ≠ b ∧ Ez L r a b = true ∧ Xv L r a b = true := by
  intro m
  induction m with
  | zero => exact .inl ⟨rfl, fun a ha => absurd ha (Nat.not_lt_zero a)⟩
  | succ m ih =>
    unfold Yk
    by_cases h : m ≠ b ∧ Ez L r m b = true ∧ Xv L r m b = true
    · rw [if_pos h]; exact .inr ⟨m, by omega, rfl, h⟩
    · rw [if_neg h]; rcases ih with ⟨h1, h2⟩ | ⟨a, h1, h2⟩
      · refine .inl ⟨h1, fun a ha => ?_⟩; rcases Nat.lt_succ_iff_lt_or_eq.1 ha with h3 | rfl
        · exact h2 a h3
        · exact h
      · exact .inr ⟨a, by omega, h2⟩
theorem DomTree.eq {L : List (List Int)} (hm : Ds L = true) {r : Nat} (hr : r < L.length) {P t : List _} (o : Ordered (sN L) r L.length P) (h : DomTree (sN L) r L.length P t) : t = F3 L r := by
  refine List.ext_getElem (by rw [h.len, Fu]) fun b h1 h2 => ?_
  have hb : b < L.length := by rw [← h.len]; exact h1
  rw [← Am _ _ 0 h1, ← Am _ _ 0 h2, treeD_at hb]
  show A2 t b = _
  have hov : ∀ a b, b < L.length → A2 t b ≠ -2 → (Ez L r a b = true ↔ UpTo (A2 t) b a) := fun a b hb hp => by
    rw [N5 hm hr hb, h.exact_ b hb hp]; exact ⟨fun k => k.2, fun k => ⟨h.inv.rc b hb hp, k⟩⟩
  unfold Aaf
  by_cases hbr : b = r
  · subst hbr; rw [if_pos rfl]; exact h.inv.top
  · rw [if_neg hbr]; rcases h.inv.kind b hb with hk | hk | ⟨z, hz⟩
    ·
      have hn : ¬ Rc (sN L) r b := fun k => h.full b hb k hk; rcases pick_cases L r b L.length with ⟨h3, _⟩ | ⟨a, _, _, _, h6, _⟩
      · rw [hk, h3]
      · exact absurd ((N5 hm hr hb).1 h6).1 hn
    · exact absurd hk hbr
    · obtain ⟨z1, z2, z3, z4⟩ := h.inv.up b hb z hz
      have hp : A2 t b ≠ -2 := by omega
      have hzo : Ez L r z b = true := (hov z b hb hp).2 (.up hz (.refl _))
      have hzb : z ≠ b := by rintro rfl; omega
      have hnear : Xv L r z b = true := all_range.2 fun c hc => by
        by_cases e : c = b
        · simp [e]
        · cases ho : Ez L r c b with
          | false => simp
          | true =>
            have := (hov c b hb hp).1 ho; rcases (anc_up hz).1 this with h3 | h3
            · exact absurd h3 e
            · rw [(hov c z z1 z2).2 h3]; simp
      rcases pick_cases L r b L.length with ⟨_, h3⟩ | ⟨a, h3, h4, h5, h6, h7⟩
      · exact absurd ⟨hzb, hzo, hnear⟩ (h3 z z1)
      · rw [h4, hz]; have haU := (hov a b hb hp).1 h6
        have ha1 : UpTo (A2 t) z a := by
          rcases (anc_up hz).1 haU with h8 | h8
          · exact absurd h8 h5
          · exact h8
        have hap := (h.inv.anc ha1 z1 z2).2.1
        have hza : UpTo (A2 t) a z := by
          have := all_range.1 h7 z z1; simp only [hzo, hzb, decide_false, Bool.not_true, Bool.false_or] at this; exact (hov z a h3 hap).1 this
        rw [h.inv.antisymm ha1 hza z1 z2]
end
end Go.Proofs.Ytjdddniaokcgnaa

namespace Go.Proofs.Ytjdddniaokcgnaa
noncomputable section
open Go Go.RowKit
set_option linter.unusedVariables false
set_option linter.unusedSimpArgs false
theorem Ow {g : Aj} (h : Ha g = true) : Ds g.Succ = true ∧ g = F8 g.Succ := by
  unfold Ha at h; rw [Bool.and_eq_true] at h; refine ⟨h.1, ?_⟩; obtain ⟨s, p⟩ := g; have := of_decide_eq_true h.2; simp only at this; unfold F8; rw [this]
theorem Vk {a b : Nat} : (((a : Nat) : Int) == (b : Int)) = decide (a = b) := by
  by_cases h : a = b
  · subst h; simp
  · rw [beq_eq_false_iff_ne.2 (by omega)]; simp [h]
section
variable {L : List (List Int)} (hm : Ds L = true) {r : Nat} (hr : r < L.length)
include hm hr
omit hr in
omit hr in
omit hm hr in
omit hm hr in
omit hm hr in
omit hr in
omit hr in
end
def Xs (g : Aj) (r : Int) : List Int := if Ha g = true ∧ 0 ≤ r ∧ r < (g.Succ.length : Int) then F3 g.Succ r.toNat else []
end
end Go.Proofs.Ytjdddniaokcgnaa
