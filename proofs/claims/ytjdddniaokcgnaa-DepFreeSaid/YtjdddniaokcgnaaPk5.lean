/-
  The machine, the program's functions and the laws' arithmetic: part 5 of 6.
-/
import Derived.Test.YtjdddniaokcgnaaPk4
set_option linter.unusedVariables false
set_option linter.unusedSimpArgs false
namespace Go.Proofs.Ytjdddniaokcgnaa
noncomputable section
open Go Go.RowKit
set_option linter.unusedVariables false
set_option maxRecDepth 100000
set_option maxHeartbeats 2000000
def Cv (a_g : Ag) (x3 : List (Int)) : (Bool × Int × List (Int)) → Option (LR (Bool × Int × List (Int)) (Bool × List (Int))) :=
  fun ((b7, i8, l9) : (Bool × Int × List (Int))) => (bif (decide ((i8 : Int) < ((x3.drop ((1 : Int)).toNat).length : Int))) then (Option.bind (α := (Bool × List (Int))) (Ck (A9 i8 (x3.drop ((1 : Int)).toNat).length) (Ck (A9 ((x3.drop ((1 : Int)).toNat).getD (i8).toNat (0 : Int)) a_g.Pred.length) ((Dq l9 (a_g.Pred.getD (((x3.drop ((1 : Int)).toNat).getD (i8).toNat (0 : Int))).toNat [])).bind fun x16 => (Ck (l9.length = x16.2.length) (Ck (A9 ((x3.drop ((1 : Int)).toNat).getD (i8).toNat (0 : Int)) x16.2.length) (bif ((x16.1 : Int) != (x16.2.getD (((x3.drop ((1 : Int)).toNat).getD (i8).toNat (0 : Int))).toNat (0 : Int))) then (Ck (A9 ((x3.drop ((1 : Int)).toNat).getD (i8).toNat (0 : Int)) x16.2.length) (some ((true, (x16.2.set (((x3.drop ((1 : Int)).toNat).getD (i8).toNat (0 : Int))).toNat x16.1))))) else (some ((b7, x16.2))))))))) (fun x20 => (match x20 with | (b12, l13) => (some (.next (b12, (Bz (i8 + (1 : Int))), l13)))))) else (some (.done (b7, l9))))
def Hc (a_g : Ag) (l1 : List (Int)) : (Bool × Int × List (Int)) → Option (LR (Bool × Int × List (Int)) (Bool × List (Int))) :=
  fun ((b25, i26, l27) : (Bool × Int × List (Int))) => (bif (decide ((i26 : Int) < ((l1.drop ((1 : Int)).toNat).length : Int))) then (Option.bind (α := (Bool × List (Int))) (Ck (A9 i26 (l1.drop ((1 : Int)).toNat).length) (Ck (A9 ((l1.drop ((1 : Int)).toNat).getD (i26).toNat (0 : Int)) a_g.Pred.length) ((Dq l27 (a_g.Pred.getD (((l1.drop ((1 : Int)).toNat).getD (i26).toNat (0 : Int))).toNat [])).bind fun x34 => (Ck (l27.length = x34.2.length) (Ck (A9 ((l1.drop ((1 : Int)).toNat).getD (i26).toNat (0 : Int)) x34.2.length) (bif ((x34.1 : Int) != (x34.2.getD (((l1.drop ((1 : Int)).toNat).getD (i26).toNat (0 : Int))).toNat (0 : Int))) then (Ck (A9 ((l1.drop ((1 : Int)).toNat).getD (i26).toNat (0 : Int)) x34.2.length) (some ((true, (x34.2.set (((l1.drop ((1 : Int)).toNat).getD (i26).toNat (0 : Int))).toNat x34.1))))) else (some ((b25, x34.2))))))))) (fun x38 => (match x38 with | (b30, l31) => (some (.next (b30, (Bz (i26 + (1 : Int))), l31)))))) else (some (.done (b25, l27))))
def Dh (a_g : Ag) : (List (Int) × List (Int)) → Option (LR (List (Int) × List (Int)) (List (Int))) :=
  fun (s_ : (List (Int) × List (Int))) => match s_ with | (l1, l2) => (Ck (0 ≤ (1 : Int) ∧ (1 : Int) ≤ (l1.length : Int)) ((Ay (S := (Bool × Int × List (Int))) (X := (Bool × List (Int))) (Hc a_g l1) (false, (0 : Int), l2)).bind (fun x40 => (match x40 with | (b28, l29) => (bif b28 then (some (.next (l1, l29))) else (some (.done l29)))))))
def Q162 (l1 : List (Int)) := (l1.drop ((1 : Int)).toNat)
def Q163 (x3 : List (Int)) := (x3.drop ((1 : Int)).toNat)
def Q182 := (fun n_ => Cb n_ [2, 13, 21])
def Tn (x4 : List (Int)) (a_root : Int) := (x4.set (a_root).toNat (-1 : Int))
def Pe (l1 : List (Int)) : AV := (.int .i64 ((Q162 l1).length : Int))
def O2 (x3 : List (Int)) : AV := (.int .i64 ((Q163 x3).length : Int))
def Nn (x3 : List (Int)) (i8 : Int) := ((Q163 x3).getD (i8).toNat (0 : Int))
def Q170 (l11 : List (Int)) := (fun i => Ac (l11.getD i (0 : Int)))
def Q171 (l27 : List (Int)) := (fun i => Ac (l27.getD i (0 : Int)))
def Q172 (l29 : List (Int)) := (fun i => Ac (l29.getD i (0 : Int)))
def Ni (l1 : List (Int)) (i26 : Int) := ((Q162 l1).getD (i26).toNat (0 : Int))
def Ir (x3 : List (Int)) : AV := (AV.list 1 Ac (0 : Int) x3 (.own 13))
def L0 (l1 : List (Int)) : AV := (AV.list 1 Ac (0 : Int) l1 (.own 13))
def Q168 (x16 : (Int × List (Int))) := (fun i => Ac (x16.2.getD i (0 : Int)))
def Q169 (x34 : (Int × List (Int))) := (fun i => Ac (x34.2.getD i (0 : Int)))
def Ns (l1 : List (Int)) : AV := (AV.list 1 Ac (0 : Int) (Q162 l1) .none)
def Nd (x3 : List (Int)) : AV := (AV.list 1 Ac (0 : Int) (Q163 x3) .none)
def Q167 : AV := (AV.list 1 Ac (0 : Int) ([] : List Int) .exact)
def F8 (a_g : Ag) : List AV := [(AV.list 1 eLI64 [] a_g.Succ .none), (AV.list 1 eLI64 [] a_g.Pred .none)]
def Q180 (a_g : Ag) (l1 : List (Int)) (l27 : List (Int)) : List (Nat × Own) := [(2, .row 26 (F8 a_g)), (13, .tok 1 3 l1.length), (21, .arr 1 3 l27.length (Q171 l27))]
def Q179 (a_g : Ag) (x3 : List (Int)) (l9 : List (Int)) : List (Nat × Own) := [(2, .row 26 (F8 a_g)), (13, .tok 1 3 x3.length), (21, .arr 1 3 l9.length (fun i => Ac (l9.getD i (0 : Int))))]
def Q181 (a_g : Ag) (l1 : List (Int)) (l2 : List (Int)) : List (Nat × Own) := [(2, .row 26 (F8 a_g)), (13, .tok 1 3 l1.length), (21, .arr 1 3 l2.length (fun i => Ac (l2.getD i (0 : Int))))]
def Q183 := (⟨[(4, (AV.list 1 Ac (0 : Int) ([] : List Int) (.own 6004)))], [(6004, .tok 1 3 (([] : List Int).length))], []⟩ : St)
def Fm (a_g : Ag) (a_root : Int) : Option (List (Int)) :=
  ((Km (S := (List (Int) × List (Int))) (X := List (Int)) ((D7 a_g a_root).bind fun x3 => (bif (((x3.length : Int) : Int) == (0 : Int)) then (some (.done ([] : List Int))) else ((De ([(-2 : Int)] : List (Int)) (a_g.Succ.length : Int)).bind fun x4 => (Ck (A9 a_root x4.length) (Ck (0 ≤ (1 : Int) ∧ (1 : Int) ≤ (x3.length : Int)) ((Ay (S := (Bool × Int × List (Int))) (X := (Bool × List (Int))) (Cv a_g x3) (false, (0 : Int), (x4.set (a_root).toNat (-1 : Int)))).bind (fun x22 => (match x22 with | (b10, l11) => (bif b10 then (some (.next (x3, l11))) else (some (.done l11))))))))))) (Dh a_g)).bind (fun x42 => ((some x42))))
theorem Qb (a_g : Ag) (a_root : Int) (r : List (Int)) (h : Fm a_g a_root = some r) : Spec Try.prog 19 [(.agg (A4 a_g)), (.int .i64 a_root)] [] (AV.list 1 Ac (0 : Int) r (.own 20000)) [(20000, .tok 1 3 r.length)] := by
  refine Ap (fn := Try.f19) Try.func19 rfl rfl (by kernel_rfl) (fun Γ hn hΓ => ?_); have hq : RgQ Try.prog Γ 52 [] := ⟨hn, mix, hΓ⟩; unfold Fm at h; refine B9 [] [(4, Q167)] ⟨[(1, (.int .i64 a_root)), (2, (.ptr 2 0))], [(2, .row 26 (F8 a_g))], []⟩ [(AVle (.slice 0 0 (fun _ => []) .exact) Q167)] hq ⟨Dg, trivial⟩ ?_; obtain ⟨x42, hx42, h⟩ := bind_some h; refine Mb (S := (List (Int) × List (Int))) (X := List (Int)) (fun (s_ : (List (Int) × List (Int))) => match s_ with | (l1, l2) => 0) (fun (s_ : (List (Int) × List (Int))) => match s_ with | (l1, l2) => (⟨[(2, (.ptr 2 0)), (5, (L0 l1)), (6, (.vsl 21 l2.length))], (Q181 a_g l1 l2), []⟩ : St)) _ _ (fun (r_ : List (Int)) (e : Exit) (st : St) => e = .ret ∧ J1 Try.prog Try.f19.results.toList [] (AV.list 1 Ac (0 : Int) r_ (.own 20000)) [(20000, .tok 1 3 r_.length)] e st) ?_ ?_ hx42 ?_
  · clear h hx42; intro y h; obtain ⟨x3, hx3, h⟩ := bind_some h; refine B9 [⟨[], [(20000, 13)], (AV.list 1 Ac (0 : Int) x3 (.own 20000)), [(20000, .tok 1 3 x3.length)], []⟩] [] ⟨[(1, (.int .i64 a_root)), (2, (.ptr 2 0)), (5, (Ir x3))], [(2, .row 26 (F8 a_g)), (13, .tok 1 3 x3.length)], []⟩ [(Spec Try.prog 33 [(.agg (A4 a_g)), (.int .i64 a_root)] [] (AV.list 1 Ac (0 : Int) x3 (.own 20000)) [(20000, .tok 1 3 x3.length)])] hq ⟨(Lv a_g a_root x3 hx3), trivial⟩ ?_; refine Ad ?_; refine As ⟨[(1, (.int .i64 a_root)), (2, (.ptr 2 0)), (5, (Ir x3)), (16, (.bool (((x3.length : Int) : Int) == (0 : Int))))], [(2, .row 26 (F8 a_g)), (13, .tok 1 3 x3.length)], []⟩ hq ?_; refine Ai (((x3.length : Int) : Int) == (0 : Int)) (by kernel_rfl) (fun hb => ?_) (fun hb => ?_)
    · replace h := Aq hb h; clear hb; refine B9 [] [(4, Q167)] ⟨[(4, Q167)], [], []⟩ [(AVle (.slice 0 0 (fun _ => []) .exact) Q167)] hq ⟨Dg, trivial⟩ ?_; refine Af (st' := Q183) (Le.trans (E0 (st' := ⟨[(4, Q167)], [], []⟩) [4] [] hq) (Le.trans (K6 (t := 4) (nm := 6004) (sz' := 1) (fun i => Ac (([] : List Int).getD i (0 : Int))) 3 rfl rfl (.inl ⟨rfl, rfl⟩) (fun h_ => absurd h_ (by decide))) (E0 (st' := Q183) [4] [6004] hq))) ?_; refine Ar ?_; refine Ax ?_; obtain rfl := OI h; exact ⟨(by intro l hh; cases hh), rfl, ⟨.inl rfl, [(6004, 20000)], by kernel_rfl⟩⟩
    · replace h := At hb h; clear hb; refine Ah ?_; refine Aa ?_; obtain ⟨x4, hx4, h⟩ := bind_some h; refine B9 [⟨[], [(20000, 21)], (.vsl 20000 x4.length), [(20000, .arr 1 3 x4.length (fun i => Ac (x4.getD i (0 : Int))))], []⟩] [(17, (AV.list 1 Ac (0 : Int) ([(-2 : Int)] : List (Int)) .exact))] ⟨[(1, (.int .i64 a_root)), (2, (.ptr 2 0)), (5, (Ir x3)), (6, (.vsl 21 x4.length))], [(2, .row 26 (F8 a_g)), (13, .tok 1 3 x3.length), (21, .arr 1 3 x4.length (fun i => Ac (x4.getD i (0 : Int))))], []⟩ [(AVle (.slice 1 1 (fun i => ([[(.int .i64 (-2 : Int))]] : List (List AV)).getD i []) .exact) (AV.list 1 Ac (0 : Int) ([(-2 : Int)] : List (Int)) .exact)), (Spec Try.prog 34 [(AV.list 1 Ac (0 : Int) ([(-2 : Int)] : List (Int)) .none), (.int .i64 (a_g.Succ.length : Int))] [] (.vsl 20000 x4.length) [(20000, .arr 1 3 x4.length (fun i => Ac (x4.getD i (0 : Int))))])] hq ⟨(E8 rfl (fun i hi => Eb (e := Ac) (d := (0 : Int)) ([(-2 : Int)] : List (Int)) i hi)), (Jc ([(-2 : Int)] : List (Int)) (a_g.Succ.length : Int) x4 hx4), trivial⟩ ?_; obtain ⟨hc5, h⟩ := Ab h; refine B9 [] [] ⟨[(2, (.ptr 2 0)), (5, (Ir x3)), (6, (.vsl 21 x4.length))], [(2, .row 26 (F8 a_g)), (13, .tok 1 3 x3.length), (21, .arr 1 3 x4.length (fun i_ => AV.eraseAll Q182 ((E6 (fun i => Ac (x4.getD i (0 : Int))) (a_root).toNat 0 [(.int .i64 (-1 : Int))]) i_)))], []⟩ [(A9 a_root x4.length), (x4.length = x4.length)] hq ⟨hc5, rfl, trivial⟩ ?_; refine Af (Le.trans (Cr (st' := ⟨[(2, (.ptr 2 0)), (5, (Ir x3)), (6, (.vsl 21 x4.length))], [(2, .row 26 (F8 a_g)), (13, .tok 1 3 x3.length), (21, .arr 1 3 x4.length (fun i => Ac ((Tn x4 a_root).getD i (0 : Int))))], []⟩) (TmpsLe.refl _) (.same (.same (.arr (Br (List.length_set ..).symm (fun k_ hk_ => (congrArg (AV.eraseAll Q182) ((Ft (fun _ _ => rfl) (Gd hc5) rfl) k_ hk_)).trans rfl)) .nil)))) (Bv (congrArg (fun k_ : Nat => (⟨[(2, (.ptr 2 0)), (5, (Ir x3)), (6, (.vsl 21 k_))], [(2, .row 26 (F8 a_g)), (13, .tok 1 3 x3.length), (21, .arr 1 3 k_ (fun i => Ac ((Tn x4 a_root).getD i (0 : Int))))], []⟩ : St)) (show x4.length = (Tn x4 a_root).length from (List.length_set ..).symm)))) ?_; refine Ad ?_; refine Me ?_; refine Aa ?_; refine As ⟨[(2, (.ptr 2 0)), (5, (Ir x3)), (6, (.vsl 21 (Tn x4 a_root).length)), (7, (.bool false))], [(2, .row 26 (F8 a_g)), (13, .tok 1 3 x3.length), (21, .arr 1 3 ((Tn x4 a_root).length) (fun i => Ac ((Tn x4 a_root).getD i (0 : Int))))], []⟩ hq ?_; refine Ad ?_; obtain ⟨hc6, h⟩ := Ab h; refine B9 [] [(26, (Nd x3))] ⟨[(2, (.ptr 2 0)), (5, (Ir x3)), (6, (.vsl 21 (Tn x4 a_root).length)), (7, (.bool false)), (26, (Nd x3)), (27, (O2 x3)), (28, (.int .i64 (0 : Int)))], [(2, .row 26 (F8 a_g)), (13, .tok 1 3 x3.length), (21, .arr 1 3 ((Tn x4 a_root).length) (fun i => Ac ((Tn x4 a_root).getD i (0 : Int))))], []⟩ [(0 ≤ (1 : Int) ∧ (1 : Int) ≤ (x3.length : Int)), (AVle (.slice 1 (x3.length - ((1 : Int)).toNat) (fun i => Ac (x3.getD (((1 : Int)).toNat + i) (0 : Int))) .none) (Nd x3))] hq ⟨hc6, av_drop, trivial⟩ ?_; refine Ak ?_; refine Af (st' := (fun ((b7, i8, l9) : (Bool × Int × List (Int))) => (⟨[(2, (.ptr 2 0)), (5, (Ir x3)), (6, (.vsl 21 l9.length)), (7, (.bool b7)), (26, (Nd x3)), (27, (O2 x3)), (28, (.int .i64 i8))], (Q179 a_g x3 l9), []⟩ : St)) (false, (0 : Int), (Tn x4 a_root))) (Le.refl _ _) ?_; obtain ⟨x22, hx22, h⟩ := bind_some h; refine Be (fun ((b7, i8, l9) : (Bool × Int × List (Int))) => (⟨[(2, (.ptr 2 0)), (5, (Ir x3)), (6, (.vsl 21 l9.length)), (7, (.bool b7)), (26, (Nd x3)), (27, (O2 x3)), (28, (.int .i64 i8))], (Q179 a_g x3 l9), []⟩ : St)) _ (fun ((b10, l11) : (Bool × List (Int))) (e : Exit) (st : St) => e = (.exit 0) ∧ Le Γ st (⟨[(2, (.ptr 2 0)), (5, (Ir x3)), (6, (.vsl 21 l11.length)), (7, (.bool b10))], [(2, .row 26 (F8 a_g)), (13, .tok 1 3 x3.length), (21, .arr 1 3 l11.length (Q170 l11))], []⟩ : St)) ?_ hx22 ?_
      · rintro ⟨b7, i8, l9⟩ y h; unfold Cv at h; refine As ⟨[(2, (.ptr 2 0)), (5, (Ir x3)), (6, (.vsl 21 l9.length)), (7, (.bool b7)), (26, (Nd x3)), (27, (O2 x3)), (28, (.int .i64 i8)), (29, (.bool (decide ((i8 : Int) < ((Q163 x3).length : Int)))))], (Q179 a_g x3 l9), []⟩ hq ?_; refine Ad ?_; refine Ai (decide ((i8 : Int) < ((Q163 x3).length : Int))) (by kernel_rfl) (fun hb => ?_) (fun hb => ?_)
        · replace h := Aq hb h; clear hb; refine Ah ?_; refine Aa ?_; refine Ad ?_; obtain ⟨x20, hx20, h⟩ := bind_some h; refine Fo (fun ((b12, l13) : (Bool × List (Int))) (e : Exit) (st : St) => e = .normal ∧ Le Γ st (⟨[(2, (.ptr 2 0)), (5, (Ir x3)), (6, (.vsl 21 l13.length)), (7, (.bool b12)), (26, (Nd x3)), (27, (O2 x3)), (28, (.int .i64 i8))], [(2, .row 26 (F8 a_g)), (13, .tok 1 3 x3.length), (21, .arr 1 3 l13.length (fun i => Ac (l13.getD i (0 : Int))))], []⟩ : St)) hx20 ?_ ?_
          · clear h hx20; intro y h; refine Ak ?_; obtain ⟨hc14, h⟩ := Ab h; refine B9 [] [] ⟨[(2, (.ptr 2 0)), (5, (Ir x3)), (6, (.vsl 21 l9.length)), (7, (.bool b7)), (9, (.int .i64 (Nn x3 i8))), (26, (Nd x3)), (27, (O2 x3)), (28, (.int .i64 i8))], (Q179 a_g x3 l9), []⟩ [(A9 i8 (Q163 x3).length)] hq ⟨hc14, trivial⟩ ?_; obtain ⟨hc15, h⟩ := Ab h; obtain ⟨x16, hx16, h⟩ := bind_some h; obtain ⟨hc17, h⟩ := Ab h; refine B9 [⟨[(21, 34000)], [], (.int .i64 x16.1), [(34000, .arr 1 3 x16.2.length (Q168 x16))], []⟩] [] ⟨[(2, (.ptr 2 0)), (5, (Ir x3)), (6, (.vsl 21 l9.length)), (7, (.bool b7)), (9, (.int .i64 (Nn x3 i8))), (10, (.int .i64 x16.1)), (26, (Nd x3)), (27, (O2 x3)), (28, (.int .i64 i8))], [(2, .row 26 (F8 a_g)), (13, .tok 1 3 x3.length), (21, .arr 1 3 x16.2.length (Q168 x16))], []⟩ [(A9 (Nn x3 i8) a_g.Pred.length), (Spec Try.prog 35 [(.vsl 34000 l9.length), (AV.list 1 Ac (0 : Int) (a_g.Pred.getD ((Nn x3 i8)).toNat []) .none)] [(34000, .arr 1 3 l9.length (fun i => Ac (l9.getD i (0 : Int))))] (.int .i64 x16.1) [(34000, .arr 1 3 x16.2.length (Q168 x16))])] hq ⟨hc15, (It l9 (a_g.Pred.getD ((Nn x3 i8)).toNat []) x16 hx16), trivial⟩ ?_; refine Af (Bv (congrArg (fun k_ : Nat => (⟨[(2, (.ptr 2 0)), (5, (Ir x3)), (6, (.vsl 21 k_)), (7, (.bool b7)), (9, (.int .i64 (Nn x3 i8))), (10, (.int .i64 x16.1)), (26, (Nd x3)), (27, (O2 x3)), (28, (.int .i64 i8))], [(2, .row 26 (F8 a_g)), (13, .tok 1 3 x3.length), (21, .arr 1 3 x16.2.length (Q168 x16))], []⟩ : St)) (show l9.length = x16.2.length from hc17))) ?_; obtain ⟨hc18, h⟩ := Ab h; refine B9 [] [] ⟨[(2, (.ptr 2 0)), (5, (Ir x3)), (6, (.vsl 21 x16.2.length)), (7, (.bool b7)), (9, (.int .i64 (Nn x3 i8))), (10, (.int .i64 x16.1)), (26, (Nd x3)), (27, (O2 x3)), (28, (.int .i64 i8)), (44, (.bool ((x16.1 : Int) != (x16.2.getD ((Nn x3 i8)).toNat (0 : Int)))))], [(2, .row 26 (F8 a_g)), (13, .tok 1 3 x3.length), (21, .arr 1 3 x16.2.length (Q168 x16))], []⟩ [(A9 (Nn x3 i8) x16.2.length), (x16.2.length = x16.2.length)] hq ⟨hc18, rfl, trivial⟩ ?_; refine Ai ((x16.1 : Int) != (x16.2.getD ((Nn x3 i8)).toNat (0 : Int))) (by kernel_rfl) (fun hb => ?_) (fun hb => ?_)
            · replace h := Aq hb h; clear hb; obtain ⟨hc19, h⟩ := Ab h; refine rg [] [] ⟨[(2, (.ptr 2 0)), (5, (Ir x3)), (6, (.vsl 21 x16.2.length)), (7, (.bool true)), (26, (Nd x3)), (27, (O2 x3)), (28, (.int .i64 i8))], [(2, .row 26 (F8 a_g)), (13, .tok 1 3 x3.length), (21, .arr 1 3 x16.2.length (fun i_ => AV.eraseAll Q182 ((E6 (Q168 x16) ((Nn x3 i8)).toNat 0 [(.int .i64 x16.1)]) i_)))], []⟩ [(A9 (Nn x3 i8) x16.2.length), (x16.2.length = x16.2.length)] hq ⟨hc19, rfl, trivial⟩ ?_; refine Am ?_; obtain rfl := OI h; exact ⟨rfl, Le.trans (Le.trans (Cr (st' := ⟨[(2, (.ptr 2 0)), (5, (Ir x3)), (6, (.vsl 21 x16.2.length)), (7, (.bool true)), (26, (Nd x3)), (27, (O2 x3)), (28, (.int .i64 i8))], [(2, .row 26 (F8 a_g)), (13, .tok 1 3 x3.length), (21, .arr 1 3 x16.2.length (fun i => Ac ((x16.2.set ((Nn x3 i8)).toNat x16.1).getD i (0 : Int))))], []⟩) (TmpsLe.refl _) (.same (.same (.arr (Br (List.length_set ..).symm (fun k_ hk_ => (congrArg (AV.eraseAll Q182) ((Ft (fun _ _ => rfl) (Gd hc19) rfl) k_ hk_)).trans rfl)) .nil)))) (Bv (congrArg (fun k_ : Nat => (⟨[(2, (.ptr 2 0)), (5, (Ir x3)), (6, (.vsl 21 k_)), (7, (.bool true)), (26, (Nd x3)), (27, (O2 x3)), (28, (.int .i64 i8))], [(2, .row 26 (F8 a_g)), (13, .tok 1 3 x3.length), (21, .arr 1 3 k_ (fun i => Ac ((x16.2.set ((Nn x3 i8)).toNat x16.1).getD i (0 : Int))))], []⟩ : St)) (show x16.2.length = (x16.2.set ((Nn x3 i8)).toNat x16.1).length from (List.length_set ..).symm)))) (Le.refl _ _)⟩
            · replace h := At hb h; clear hb; refine Ah ?_; refine Am ?_; obtain rfl := OI h; exact ⟨rfl, E0 [2, 5, 6, 7, 26, 27, 28] [2, 13, 21] hq⟩
          · clear hx20; rcases x20 with ⟨b12, l13⟩; rintro e st' ⟨rfl, hl21⟩; refine Aa ?_; refine Af hl21 ?_; refine My ⟨[(2, (.ptr 2 0)), (5, (Ir x3)), (6, (.vsl 21 l13.length)), (7, (.bool b12)), (26, (Nd x3)), (27, (O2 x3)), (28, (.int .i64 (Bz (i8 + (1 : Int)))))], [(2, .row 26 (F8 a_g)), (13, .tok 1 3 x3.length), (21, .arr 1 3 l13.length (fun i => Ac (l13.getD i (0 : Int))))], []⟩ hq ?_; obtain rfl := OI h; exact ⟨rfl, Le.refl _ _⟩
        · replace h := At hb h; clear hb; refine Bc ?_; refine A3 ?_; obtain rfl := OI h; exact ⟨(by intro hh; cases hh), rfl, E0 [2, 5, 6, 7] [2, 13, 21] hq⟩
      · clear hx22; rcases x22 with ⟨b10, l11⟩; rintro e st' ⟨rfl, hl23⟩; refine Az ?_; refine Aa ?_; refine Af hl23 ?_; refine Ad ?_; refine As ⟨[(2, (.ptr 2 0)), (5, (Ir x3)), (6, (.vsl 21 l11.length)), (50, (.bool b10))], [(2, .row 26 (F8 a_g)), (13, .tok 1 3 x3.length), (21, .arr 1 3 l11.length (Q170 l11))], []⟩ hq ?_; refine Ai b10 (by kernel_rfl) (fun hb => ?_) (fun hb => ?_)
        · replace h := Aq hb h; clear hb; refine F6 ?_; refine Gn ?_; obtain rfl := OI h; exact ⟨rfl, rfl, E0 [2, 5, 6] [2, 13, 21] hq⟩
        · replace h := At hb h; clear hb; refine Ah ?_; refine Aa ?_; refine As ⟨[(4, (.vsl 21 l11.length))], [(21, .arr 1 3 l11.length (Q170 l11))], []⟩ hq ?_; refine Af (Le.trans (Eh (nm := 21) (sz := 1) (n := l11.length) (e := 3) (f := (Q170 l11)) (g := (Q170 l11)) rfl ⟨rfl, trivial⟩ (fun _ _ => rfl) (by rw [hΓ]; rfl)) (Bv (st' := ⟨[(4, (AV.list 1 Ac (0 : Int) l11 (.own 21)))], [(21, .tok 1 3 l11.length)], []⟩) (by kernel_rfl))) ?_; refine Ar ?_; obtain rfl := OI h; exact ⟨(by intro l hh; cases hh), rfl, ⟨.inl rfl, [(21, 20000)], by kernel_rfl⟩⟩
  · clear h hx42; rintro ⟨l1, l2⟩ y rest hf h; obtain rfl := OI hf; clear hf; unfold Dh at h; refine Ad ?_; refine Ah ?_; refine Aa ?_; refine As ⟨[(2, (.ptr 2 0)), (5, (L0 l1)), (6, (.vsl 21 l2.length)), (7, (.bool false))], (Q181 a_g l1 l2), []⟩ hq ?_; refine Ad ?_; obtain ⟨hc24, h⟩ := Ab h; refine B9 [] [(26, (Ns l1))] ⟨[(2, (.ptr 2 0)), (5, (L0 l1)), (6, (.vsl 21 l2.length)), (7, (.bool false)), (26, (Ns l1)), (27, (Pe l1)), (28, (.int .i64 (0 : Int)))], (Q181 a_g l1 l2), []⟩ [(0 ≤ (1 : Int) ∧ (1 : Int) ≤ (l1.length : Int)), (AVle (.slice 1 (l1.length - ((1 : Int)).toNat) (fun i => Ac (l1.getD (((1 : Int)).toNat + i) (0 : Int))) .none) (Ns l1))] hq ⟨hc24, av_drop, trivial⟩ ?_; refine Ak ?_; refine Af (st' := (fun ((b25, i26, l27) : (Bool × Int × List (Int))) => (⟨[(2, (.ptr 2 0)), (5, (L0 l1)), (6, (.vsl 21 l27.length)), (7, (.bool b25)), (26, (Ns l1)), (27, (Pe l1)), (28, (.int .i64 i26))], (Q180 a_g l1 l27), []⟩ : St)) (false, (0 : Int), l2)) (Le.refl _ _) ?_; obtain ⟨x40, hx40, h⟩ := bind_some h; refine Be (fun ((b25, i26, l27) : (Bool × Int × List (Int))) => (⟨[(2, (.ptr 2 0)), (5, (L0 l1)), (6, (.vsl 21 l27.length)), (7, (.bool b25)), (26, (Ns l1)), (27, (Pe l1)), (28, (.int .i64 i26))], (Q180 a_g l1 l27), []⟩ : St)) _ (fun ((b28, l29) : (Bool × List (Int))) (e : Exit) (st : St) => e = (.exit 0) ∧ Le Γ st (⟨[(2, (.ptr 2 0)), (5, (L0 l1)), (6, (.vsl 21 l29.length)), (7, (.bool b28))], [(2, .row 26 (F8 a_g)), (13, .tok 1 3 l1.length), (21, .arr 1 3 l29.length (Q172 l29))], []⟩ : St)) ?_ hx40 ?_
    · rintro ⟨b25, i26, l27⟩ y h; unfold Hc at h; refine As ⟨[(2, (.ptr 2 0)), (5, (L0 l1)), (6, (.vsl 21 l27.length)), (7, (.bool b25)), (26, (Ns l1)), (27, (Pe l1)), (28, (.int .i64 i26)), (29, (.bool (decide ((i26 : Int) < ((Q162 l1).length : Int)))))], (Q180 a_g l1 l27), []⟩ hq ?_; refine Ad ?_; refine Ai (decide ((i26 : Int) < ((Q162 l1).length : Int))) (by kernel_rfl) (fun hb => ?_) (fun hb => ?_)
      · replace h := Aq hb h; clear hb; refine Ah ?_; refine Aa ?_; refine Ad ?_; obtain ⟨x38, hx38, h⟩ := bind_some h; refine Fo (fun ((b30, l31) : (Bool × List (Int))) (e : Exit) (st : St) => e = .normal ∧ Le Γ st (⟨[(2, (.ptr 2 0)), (5, (L0 l1)), (6, (.vsl 21 l31.length)), (7, (.bool b30)), (26, (Ns l1)), (27, (Pe l1)), (28, (.int .i64 i26))], [(2, .row 26 (F8 a_g)), (13, .tok 1 3 l1.length), (21, .arr 1 3 l31.length (fun i => Ac (l31.getD i (0 : Int))))], []⟩ : St)) hx38 ?_ ?_
        · clear h hx38; intro y h; refine Ak ?_; obtain ⟨hc32, h⟩ := Ab h; refine B9 [] [] ⟨[(2, (.ptr 2 0)), (5, (L0 l1)), (6, (.vsl 21 l27.length)), (7, (.bool b25)), (9, (.int .i64 (Ni l1 i26))), (26, (Ns l1)), (27, (Pe l1)), (28, (.int .i64 i26))], (Q180 a_g l1 l27), []⟩ [(A9 i26 (Q162 l1).length)] hq ⟨hc32, trivial⟩ ?_; obtain ⟨hc33, h⟩ := Ab h; obtain ⟨x34, hx34, h⟩ := bind_some h; obtain ⟨hc35, h⟩ := Ab h; refine B9 [⟨[(21, 34000)], [], (.int .i64 x34.1), [(34000, .arr 1 3 x34.2.length (Q169 x34))], []⟩] [] ⟨[(2, (.ptr 2 0)), (5, (L0 l1)), (6, (.vsl 21 l27.length)), (7, (.bool b25)), (9, (.int .i64 (Ni l1 i26))), (10, (.int .i64 x34.1)), (26, (Ns l1)), (27, (Pe l1)), (28, (.int .i64 i26))], [(2, .row 26 (F8 a_g)), (13, .tok 1 3 l1.length), (21, .arr 1 3 x34.2.length (Q169 x34))], []⟩ [(A9 (Ni l1 i26) a_g.Pred.length), (Spec Try.prog 35 [(.vsl 34000 l27.length), (AV.list 1 Ac (0 : Int) (a_g.Pred.getD ((Ni l1 i26)).toNat []) .none)] [(34000, .arr 1 3 l27.length (Q171 l27))] (.int .i64 x34.1) [(34000, .arr 1 3 x34.2.length (Q169 x34))])] hq ⟨hc33, (It l27 (a_g.Pred.getD ((Ni l1 i26)).toNat []) x34 hx34), trivial⟩ ?_; refine Af (Bv (congrArg (fun k_ : Nat => (⟨[(2, (.ptr 2 0)), (5, (L0 l1)), (6, (.vsl 21 k_)), (7, (.bool b25)), (9, (.int .i64 (Ni l1 i26))), (10, (.int .i64 x34.1)), (26, (Ns l1)), (27, (Pe l1)), (28, (.int .i64 i26))], [(2, .row 26 (F8 a_g)), (13, .tok 1 3 l1.length), (21, .arr 1 3 x34.2.length (Q169 x34))], []⟩ : St)) (show l27.length = x34.2.length from hc35))) ?_; obtain ⟨hc36, h⟩ := Ab h; refine B9 [] [] ⟨[(2, (.ptr 2 0)), (5, (L0 l1)), (6, (.vsl 21 x34.2.length)), (7, (.bool b25)), (9, (.int .i64 (Ni l1 i26))), (10, (.int .i64 x34.1)), (26, (Ns l1)), (27, (Pe l1)), (28, (.int .i64 i26)), (44, (.bool ((x34.1 : Int) != (x34.2.getD ((Ni l1 i26)).toNat (0 : Int)))))], [(2, .row 26 (F8 a_g)), (13, .tok 1 3 l1.length), (21, .arr 1 3 x34.2.length (Q169 x34))], []⟩ [(A9 (Ni l1 i26) x34.2.length), (x34.2.length = x34.2.length)] hq ⟨hc36, rfl, trivial⟩ ?_; refine Ai ((x34.1 : Int) != (x34.2.getD ((Ni l1 i26)).toNat (0 : Int))) (by kernel_rfl) (fun hb => ?_) (fun hb => ?_)
          · replace h := Aq hb h; clear hb; obtain ⟨hc37, h⟩ := Ab h; refine rg [] [] ⟨[(2, (.ptr 2 0)), (5, (L0 l1)), (6, (.vsl 21 x34.2.length)), (7, (.bool true)), (26, (Ns l1)), (27, (Pe l1)), (28, (.int .i64 i26))], [(2, .row 26 (F8 a_g)), (13, .tok 1 3 l1.length), (21, .arr 1 3 x34.2.length (fun i_ => AV.eraseAll Q182 ((E6 (Q169 x34) ((Ni l1 i26)).toNat 0 [(.int .i64 x34.1)]) i_)))], []⟩ [(A9 (Ni l1 i26) x34.2.length), (x34.2.length = x34.2.length)] hq ⟨hc37, rfl, trivial⟩ ?_; refine Am ?_; obtain rfl := OI h; exact ⟨rfl, Le.trans (Le.trans (Cr (st' := ⟨[(2, (.ptr 2 0)), (5, (L0 l1)), (6, (.vsl 21 x34.2.length)), (7, (.bool true)), (26, (Ns l1)), (27, (Pe l1)), (28, (.int .i64 i26))], [(2, .row 26 (F8 a_g)), (13, .tok 1 3 l1.length), (21, .arr 1 3 x34.2.length (fun i => Ac ((x34.2.set ((Ni l1 i26)).toNat x34.1).getD i (0 : Int))))], []⟩) (TmpsLe.refl _) (.same (.same (.arr (Br (List.length_set ..).symm (fun k_ hk_ => (congrArg (AV.eraseAll Q182) ((Ft (fun _ _ => rfl) (Gd hc37) rfl) k_ hk_)).trans rfl)) .nil)))) (Bv (congrArg (fun k_ : Nat => (⟨[(2, (.ptr 2 0)), (5, (L0 l1)), (6, (.vsl 21 k_)), (7, (.bool true)), (26, (Ns l1)), (27, (Pe l1)), (28, (.int .i64 i26))], [(2, .row 26 (F8 a_g)), (13, .tok 1 3 l1.length), (21, .arr 1 3 k_ (fun i => Ac ((x34.2.set ((Ni l1 i26)).toNat x34.1).getD i (0 : Int))))], []⟩ : St)) (show x34.2.length = (x34.2.set ((Ni l1 i26)).toNat x34.1).length from (List.length_set ..).symm)))) (Le.refl _ _)⟩
          · replace h := At hb h; clear hb; refine Ah ?_; refine Am ?_; obtain rfl := OI h; exact ⟨rfl, E0 [2, 5, 6, 7, 26, 27, 28] [2, 13, 21] hq⟩
        · clear hx38; rcases x38 with ⟨b30, l31⟩; rintro e st' ⟨rfl, hl39⟩; refine Aa ?_; refine Af hl39 ?_; refine My ⟨[(2, (.ptr 2 0)), (5, (L0 l1)), (6, (.vsl 21 l31.length)), (7, (.bool b30)), (26, (Ns l1)), (27, (Pe l1)), (28, (.int .i64 (Bz (i26 + (1 : Int)))))], [(2, .row 26 (F8 a_g)), (13, .tok 1 3 l1.length), (21, .arr 1 3 l31.length (fun i => Ac (l31.getD i (0 : Int))))], []⟩ hq ?_; obtain rfl := OI h; exact ⟨rfl, Le.refl _ _⟩
      · replace h := At hb h; clear hb; refine Bc ?_; refine A3 ?_; obtain rfl := OI h; exact ⟨(by intro hh; cases hh), rfl, E0 [2, 5, 6, 7] [2, 13, 21] hq⟩
    · clear hx40; rcases x40 with ⟨b28, l29⟩; rintro e st' ⟨rfl, hl41⟩; refine Az ?_; refine Aa ?_; refine Af hl41 ?_; refine Ad ?_; refine As ⟨[(2, (.ptr 2 0)), (5, (L0 l1)), (6, (.vsl 21 l29.length)), (50, (.bool b28))], [(2, .row 26 (F8 a_g)), (13, .tok 1 3 l1.length), (21, .arr 1 3 l29.length (Q172 l29))], []⟩ hq ?_; refine Ai b28 (by kernel_rfl) (fun hb => ?_) (fun hb => ?_)
      · replace h := Aq hb h; clear hb; refine F6 ?_; refine Gn ?_; obtain rfl := OI h; exact ⟨rfl, rfl, E0 [2, 5, 6] [2, 13, 21] hq⟩
      · replace h := At hb h; clear hb; refine Ah ?_; refine Aa ?_; refine As ⟨[(4, (.vsl 21 l29.length))], [(21, .arr 1 3 l29.length (Q172 l29))], []⟩ hq ?_; refine Af (Le.trans (Eh (nm := 21) (sz := 1) (n := l29.length) (e := 3) (f := (Q172 l29)) (g := (Q172 l29)) rfl ⟨rfl, trivial⟩ (fun _ _ => rfl) (by rw [hΓ]; rfl)) (Bv (st' := ⟨[(4, (AV.list 1 Ac (0 : Int) l29 (.own 21)))], [(21, .tok 1 3 l29.length)], []⟩) (by kernel_rfl))) ?_; refine Ar ?_; obtain rfl := OI h; exact ⟨(by intro l hh; cases hh), rfl, ⟨.inl rfl, [(21, 20000)], by kernel_rfl⟩⟩
  · clear hx42; rintro e st' ⟨rfl, hk⟩; obtain rfl := OI h; exact hk
def Q184 : AV := (AV.list 1 Ac (0 : Int) ([] : List Int) .exact)
def Q186 := (⟨[(2, (AV.list 1 Ac (0 : Int) ([] : List Int) (.own 6002)))], [(6002, .tok 1 3 (([] : List Int).length))], []⟩ : St)
def Q185 (a_g : Ag) (x1 : (Ag × Int)) : List (Nat × Own) := [(1, .row 26 [(AV.list 1 eLI64 [] a_g.Succ .none), (AV.list 1 eLI64 [] a_g.Pred .none)]), (3, .row 26 [(AV.list 1 eLI64 [] x1.1.Succ .none), (AV.list 1 eLI64 [] x1.1.Pred .none)])]
def Ho (a_g : Ag) : Option (List (Int)) :=
  ((E4 a_g).bind fun x1 => (bif ((x1.2 : Int) != (0 : Int)) then (some ([] : List Int)) else ((C8 x1.1).bind fun x2 => ((Fm x2 (a_g.Succ.length : Int)).bind fun x3 => (some x3)))))
theorem Vd (a_g : Ag) (r : List (Int)) (h : Ho a_g = some r) : Spec Try.prog 21 [(.agg (A4 a_g))] [] (AV.list 1 Ac (0 : Int) r (.own 20000)) [(20000, .tok 1 3 r.length)] := by
  refine Ap (fn := Try.f21) Try.func21 rfl rfl (by kernel_rfl) (fun Γ hn hΓ => ?_); have hq : RgQ Try.prog Γ 18 [] := ⟨hn, mix, hΓ⟩; unfold Ho at h; refine B9 [] [(2, Q184)] ⟨[(1, (.ptr 1 0))], [(1, .row 26 [(AV.list 1 eLI64 [] a_g.Succ .none), (AV.list 1 eLI64 [] a_g.Pred .none)])], []⟩ [(AVle (.slice 0 0 (fun _ => []) .exact) Q184)] hq ⟨Dg, trivial⟩ ?_; obtain ⟨x1, hx1, h⟩ := bind_some h; refine B9 [⟨[], [], (.tuple [(.agg (A4 x1.1)), (.int .i64 x1.2)]), [], []⟩] [] ⟨[(1, (.ptr 1 0)), (3, (.ptr 3 0)), (4, (.int .i64 x1.2))], (Q185 a_g x1), []⟩ [(Spec Try.prog 38 [(.agg (A4 a_g))] [] (.tuple [(.agg (A4 x1.1)), (.int .i64 x1.2)]) [])] hq ⟨(Vj a_g x1 hx1), trivial⟩ ?_; refine Ad ?_; refine As ⟨[(1, (.ptr 1 0)), (3, (.ptr 3 0)), (11, (.bool ((x1.2 : Int) != (0 : Int))))], (Q185 a_g x1), []⟩ hq ?_; refine Ai ((x1.2 : Int) != (0 : Int)) (by kernel_rfl) (fun hb => ?_) (fun hb => ?_)
  · replace h := Aq hb h; clear hb; refine B9 [] [(2, Q184)] ⟨[(2, Q184)], [], []⟩ [(AVle (.slice 0 0 (fun _ => []) .exact) Q184)] hq ⟨Dg, trivial⟩ ?_; refine Af (st' := Q186) (Le.trans (E0 (st' := ⟨[(2, Q184)], [], []⟩) [2] [] hq) (Le.trans (K6 (t := 2) (nm := 6002) (sz' := 1) (fun i => Ac (([] : List Int).getD i (0 : Int))) 3 rfl rfl (.inl ⟨rfl, rfl⟩) (fun h_ => absurd h_ (by decide))) (E0 (st' := Q186) [2] [6002] hq))) ?_; refine Ar ?_; refine Ax ?_; obtain rfl := OI h; exact ⟨.inl rfl, [(6002, 20000)], by kernel_rfl⟩
  · replace h := At hb h; clear hb; refine Ah ?_; refine Aa ?_; obtain ⟨x2, hx2, h⟩ := bind_some h; obtain ⟨x3, hx3, h⟩ := bind_some h; refine B9 [⟨[], [], (.agg (A4 x2)), [], []⟩, ⟨[], [(20000, 17)], (AV.list 1 Ac (0 : Int) x3 (.own 20000)), [(20000, .tok 1 3 x3.length)], []⟩] [] ⟨[(2, (AV.list 1 Ac (0 : Int) x3 (.own 17)))], [(17, .tok 1 3 x3.length)], []⟩ [(Spec Try.prog 39 [(.agg (A4 x1.1))] [] (.agg (A4 x2)) []), (Spec Try.prog 19 [(.agg (A4 x2)), (.int .i64 (a_g.Succ.length : Int))] [] (AV.list 1 Ac (0 : Int) x3 (.own 20000)) [(20000, .tok 1 3 x3.length)])] hq ⟨(Hv x1.1 x2 hx2), (Qb x2 (a_g.Succ.length : Int) x3 hx3), trivial⟩ ?_; refine Ar ?_; obtain rfl := OI h; exact ⟨.inl rfl, [(17, 20000)], by kernel_rfl⟩
def Cl (a_tree : List (Int)) (a_on : Int) (a_to : Int) : (Int × List (TDep)) → Option (LR (Int × List (TDep)) (List (TDep) × List (TDep))) :=
  fun (s_ : (Int × List (TDep))) => match s_ with | (i1, l2) => (Ck (A9 a_on a_tree.length) (bif ((i1 : Int) == (a_tree.getD (a_on).toNat (0 : Int))) then (some (.done (l2, l2))) else (Ck (l2.length + ([(⟨i1, a_on, a_to⟩ : TDep)] : List (TDep)).length ≤ room) (Ck (A9 i1 a_tree.length) (some (.next ((a_tree.getD (i1).toNat (0 : Int)), (l2 ++ ([(⟨i1, a_on, a_to⟩ : TDep)] : List (TDep))))))))))
def Ji (a_to : Int) : AV := (.int .i64 a_to)
def Jb := (default : TDep)
def O9 (a_tree : List (Int)) : AV := (AV.list 1 Ac (0 : Int) a_tree .none)
def Mt (i1 : Int) (a_on : Int) (a_to : Int) := ([(⟨i1, a_on, a_to⟩ : TDep)] : List (TDep))
def Mu (a_to : Int) (a_on : Int) := ([(⟨a_to, a_on, a_to⟩ : TDep)] : List (TDep))
def Q192 (l2 : List (TDep)) : List (Nat × Own) := [(34000, .arr 3 37 l2.length (fun i => Bf (l2.getD i Jb)))]
def Q190 (a_list : List (TDep)) : List (Nat × Own) := [(34000, .arr 3 37 a_list.length (fun i => Bf (a_list.getD i Jb)))]
def C0 (a_list : List (TDep)) (a_tree : List (Int)) (a_on : Int) (a_to : Int) : Option (List (TDep) × List (TDep)) :=
  ((Km (S := (Int × List (TDep))) (X := (List (TDep) × List (TDep))) (Ck (A9 a_on a_tree.length) (bif ((a_to : Int) == (a_tree.getD (a_on).toNat (0 : Int))) then (some (.done (a_list, a_list))) else (Ck (a_list.length + ([(⟨a_to, a_on, a_to⟩ : TDep)] : List (TDep)).length ≤ room) (Ck (A9 a_to a_tree.length) (some (.next ((a_tree.getD (a_to).toNat (0 : Int)), (a_list ++ ([(⟨a_to, a_on, a_to⟩ : TDep)] : List (TDep)))))))))) (Cl a_tree a_on a_to)).bind (fun x9 => ((some x9))))
theorem Lh (a_list : List (TDep)) (a_tree : List (Int)) (a_on : Int) (a_to : Int) (r : (List (TDep) × List (TDep))) (h : C0 a_list a_tree a_on a_to = some r) : Spec Try.prog 22 [(.vsl 34000 a_list.length), (AV.list 1 Ac (0 : Int) a_tree .none), (.int .i64 a_on), (.int .i64 a_to)] [(34000, .arr 3 37 a_list.length (fun i => Bf (a_list.getD i (default : TDep))))] (.vsl 34000 r.2.length) [(34000, .arr 3 37 r.2.length (fun i => Bf (r.2.getD i (default : TDep))))] := by
  refine Ap (fn := Try.f22) Try.func22 rfl rfl (by kernel_rfl) (fun Γ hn hΓ => ?_); have hq : RgQ Try.prog Γ 29 [(34000, .arr 3 37 a_list.length (fun i => Bf (a_list.getD i (default : TDep))))] := ⟨hn, mix, hΓ⟩; unfold C0 at h; refine B9 [] [(8, (AV.list 3 Bf Jb ([] : List TDep) .exact))] ⟨[(0, (.vsl 34000 a_list.length)), (1, (O9 a_tree)), (2, (.int .i64 a_on)), (3, (Ji a_to))], (Q190 a_list), []⟩ [(AVle (.slice 0 0 (fun _ => []) .exact) (AV.list 3 Bf Jb ([] : List TDep) .exact))] hq ⟨Dg, trivial⟩ ?_; obtain ⟨x9, hx9, h⟩ := bind_some h; refine Mb (S := (Int × List (TDep))) (X := (List (TDep) × List (TDep))) (fun (s_ : (Int × List (TDep))) => match s_ with | (i1, l2) => 0) (fun (s_ : (Int × List (TDep))) => match s_ with | (i1, l2) => (⟨[(0, (.vsl 34000 l2.length)), (1, (O9 a_tree)), (2, (.int .i64 a_on)), (3, (Ji a_to)), (9, (.int .i64 i1))], (Q192 l2), []⟩ : St)) _ _ (fun (r_ : (List (TDep) × List (TDep))) (e : Exit) (st : St) => e = .ret ∧ J1 Try.prog Try.f22.results.toList (Q190 a_list) (.vsl 34000 r_.2.length) [(34000, .arr 3 37 r_.2.length (fun i => Bf (r_.2.getD i Jb)))] e st) ?_ ?_ hx9 ?_
  · clear h hx9; intro y h; refine As ⟨[(0, (.vsl 34000 a_list.length)), (1, (O9 a_tree)), (2, (.int .i64 a_on)), (3, (Ji a_to)), (9, (Ji a_to))], (Q190 a_list), []⟩ hq ?_; refine Ad ?_; refine Me ?_; refine Aa ?_; refine Ad ?_; obtain ⟨hc3, h⟩ := Ab h; refine B9 [] [] ⟨[(0, (.vsl 34000 a_list.length)), (1, (O9 a_tree)), (2, (.int .i64 a_on)), (3, (Ji a_to)), (9, (Ji a_to)), (16, (.bool ((a_to : Int) == (a_tree.getD (a_on).toNat (0 : Int)))))], (Q190 a_list), []⟩ [(A9 a_on a_tree.length)] hq ⟨hc3, trivial⟩ ?_; refine Ai ((a_to : Int) == (a_tree.getD (a_on).toNat (0 : Int))) (by kernel_rfl) (fun hb => ?_) (fun hb => ?_)
    · replace h := Aq hb h; clear hb; refine As ⟨[(8, (.vsl 34000 a_list.length))], (Q190 a_list), []⟩ hq ?_; refine Ar ?_; refine Ax ?_; obtain rfl := OI h; exact ⟨(by intro l hh; cases hh), rfl, ⟨.inl rfl, [(34000, 34000)], by kernel_rfl⟩⟩
    · replace h := At hb h; clear hb; refine Ah ?_; refine Aa ?_; obtain ⟨hc4, h⟩ := Ab h; refine B9 [] [(23, (AV.list 3 Bf Jb (Mu a_to a_on) .exact))] ⟨[(0, (.vsl 34000 (a_list.length + (Mu a_to a_on).length))), (1, (O9 a_tree)), (2, (.int .i64 a_on)), (3, (Ji a_to)), (9, (Ji a_to))], [(34000, .arr 3 37 (a_list.length + (Mu a_to a_on).length) (fun i_ => AV.eraseAll (fun n_ => Cb n_ [34000]) ((E7 a_list.length (fun i => Bf (a_list.getD i Jb)) (fun i => Bf ((Mu a_to a_on).getD i Jb))) i_)))], []⟩ [(AVle (.slice 3 1 (fun i => ([[(Ji a_to), (.int .i64 a_on), (Ji a_to)]] : List (List AV)).getD i []) .exact) (AV.list 3 Bf Jb (Mu a_to a_on) .exact)), (a_list.length = a_list.length), (a_list.length + (Mu a_to a_on).length ≤ room)] hq ⟨(E8 rfl (fun i hi => Eb (e := Bf) (d := Jb) (Mu a_to a_on) i hi)), rfl, hc4, trivial⟩ ?_; refine Af (Le.trans (Cr (st' := ⟨[(0, (.vsl 34000 (a_list.length + (Mu a_to a_on).length))), (1, (O9 a_tree)), (2, (.int .i64 a_on)), (3, (Ji a_to)), (9, (Ji a_to))], [(34000, .arr 3 37 (a_list.length + (Mu a_to a_on).length) (fun i => Bf ((a_list ++ (Mu a_to a_on)).getD i Jb)))], []⟩) (TmpsLe.refl _) (.arr (Br (Ec _ _) (fun k_ hk_ => (congrArg (AV.eraseAll (fun n_ => Cb n_ [34000])) ((Jt (fun _ _ => rfl) (fun _ _ => rfl)) k_ hk_)).trans rfl)) .nil)) (Bv (congrArg (fun k_ : Nat => (⟨[(0, (.vsl 34000 k_)), (1, (O9 a_tree)), (2, (.int .i64 a_on)), (3, (Ji a_to)), (9, (Ji a_to))], [(34000, .arr 3 37 k_ (fun i => Bf ((a_list ++ (Mu a_to a_on)).getD i Jb)))], []⟩ : St)) (show (a_list.length + (Mu a_to a_on).length) = (a_list ++ (Mu a_to a_on)).length from (Ec _ _))))) ?_; obtain ⟨hc5, h⟩ := Ab h; refine B9 [] [] ⟨[(0, (.vsl 34000 (a_list ++ (Mu a_to a_on)).length)), (1, (O9 a_tree)), (2, (.int .i64 a_on)), (3, (Ji a_to)), (9, (.int .i64 (a_tree.getD (a_to).toNat (0 : Int))))], [(34000, .arr 3 37 ((a_list ++ (Mu a_to a_on)).length) (fun i => Bf ((a_list ++ (Mu a_to a_on)).getD i Jb)))], []⟩ [(A9 a_to a_tree.length)] hq ⟨hc5, trivial⟩ ?_; refine F6 ?_; obtain rfl := OI h; exact ⟨rfl, rfl, Le.refl _ _⟩
  · clear h hx9; rintro ⟨i1, l2⟩ y rest hf h; obtain rfl := OI hf; clear hf; unfold Cl at h; refine Ad ?_; refine Ah ?_; refine Aa ?_; refine Ad ?_; obtain ⟨hc6, h⟩ := Ab h; refine B9 [] [] ⟨[(0, (.vsl 34000 l2.length)), (1, (O9 a_tree)), (2, (.int .i64 a_on)), (3, (Ji a_to)), (9, (.int .i64 i1)), (16, (.bool ((i1 : Int) == (a_tree.getD (a_on).toNat (0 : Int)))))], (Q192 l2), []⟩ [(A9 a_on a_tree.length)] hq ⟨hc6, trivial⟩ ?_; refine Ai ((i1 : Int) == (a_tree.getD (a_on).toNat (0 : Int))) (by kernel_rfl) (fun hb => ?_) (fun hb => ?_)
    · replace h := Aq hb h; clear hb; refine As ⟨[(8, (.vsl 34000 l2.length))], (Q192 l2), []⟩ hq ?_; refine Ar ?_; refine Ax ?_; obtain rfl := OI h; exact ⟨(by intro l hh; cases hh), rfl, ⟨.inl rfl, [(34000, 34000)], by kernel_rfl⟩⟩
    · replace h := At hb h; clear hb; refine Ah ?_; refine Aa ?_; obtain ⟨hc7, h⟩ := Ab h; refine B9 [] [(23, (AV.list 3 Bf Jb (Mt i1 a_on a_to) .exact))] ⟨[(0, (.vsl 34000 (l2.length + (Mt i1 a_on a_to).length))), (1, (O9 a_tree)), (2, (.int .i64 a_on)), (3, (Ji a_to)), (9, (.int .i64 i1))], [(34000, .arr 3 37 (l2.length + (Mt i1 a_on a_to).length) (fun i_ => AV.eraseAll (fun n_ => Cb n_ [34000]) ((E7 l2.length (fun i => Bf (l2.getD i Jb)) (fun i => Bf ((Mt i1 a_on a_to).getD i Jb))) i_)))], []⟩ [(AVle (.slice 3 1 (fun i => ([[(.int .i64 i1), (.int .i64 a_on), (Ji a_to)]] : List (List AV)).getD i []) .exact) (AV.list 3 Bf Jb (Mt i1 a_on a_to) .exact)), (l2.length = l2.length), (l2.length + (Mt i1 a_on a_to).length ≤ room)] hq ⟨(E8 rfl (fun i hi => Eb (e := Bf) (d := Jb) (Mt i1 a_on a_to) i hi)), rfl, hc7, trivial⟩ ?_; refine Af (Le.trans (Cr (st' := ⟨[(0, (.vsl 34000 (l2.length + (Mt i1 a_on a_to).length))), (1, (O9 a_tree)), (2, (.int .i64 a_on)), (3, (Ji a_to)), (9, (.int .i64 i1))], [(34000, .arr 3 37 (l2.length + (Mt i1 a_on a_to).length) (fun i => Bf ((l2 ++ (Mt i1 a_on a_to)).getD i Jb)))], []⟩) (TmpsLe.refl _) (.arr (Br (Ec _ _) (fun k_ hk_ => (congrArg (AV.eraseAll (fun n_ => Cb n_ [34000])) ((Jt (fun _ _ => rfl) (fun _ _ => rfl)) k_ hk_)).trans rfl)) .nil)) (Bv (congrArg (fun k_ : Nat => (⟨[(0, (.vsl 34000 k_)), (1, (O9 a_tree)), (2, (.int .i64 a_on)), (3, (Ji a_to)), (9, (.int .i64 i1))], [(34000, .arr 3 37 k_ (fun i => Bf ((l2 ++ (Mt i1 a_on a_to)).getD i Jb)))], []⟩ : St)) (show (l2.length + (Mt i1 a_on a_to).length) = (l2 ++ (Mt i1 a_on a_to)).length from (Ec _ _))))) ?_; obtain ⟨hc8, h⟩ := Ab h; refine B9 [] [] ⟨[(0, (.vsl 34000 (l2 ++ (Mt i1 a_on a_to)).length)), (1, (O9 a_tree)), (2, (.int .i64 a_on)), (3, (Ji a_to)), (9, (.int .i64 (a_tree.getD (i1).toNat (0 : Int))))], [(34000, .arr 3 37 ((l2 ++ (Mt i1 a_on a_to)).length) (fun i => Bf ((l2 ++ (Mt i1 a_on a_to)).getD i Jb)))], []⟩ [(A9 i1 a_tree.length)] hq ⟨hc8, trivial⟩ ?_; refine F6 ?_; obtain rfl := OI h; exact ⟨rfl, rfl, Le.refl _ _⟩
  · clear hx9; rintro e st' ⟨rfl, hk⟩; obtain rfl := OI h; exact hk
def Ek (a_g : Ag) (x1 : List (Int)) (i2 : Int) : (Int × List (TDep)) → Option (LR (Int × List (TDep)) (List (TDep))) :=
  fun ((i6, l7) : (Int × List (TDep))) => (bif (decide ((i6 : Int) < ((a_g.Succ.getD (i2).toNat []).length : Int))) then (Ck (A9 i6 (a_g.Succ.getD (i2).toNat []).length) ((C0 l7 x1 i2 ((a_g.Succ.getD (i2).toNat []).getD (i6).toNat (0 : Int))).bind fun x10 => (some (.next ((Bz (i6 + (1 : Int))), x10.2))))) else (some (.done l7)))
def D3 (a_g : Ag) (x1 : List (Int)) : (Int × List (TDep)) → Option (LR (Int × List (TDep)) (List (TDep))) :=
  fun ((i2, l3) : (Int × List (TDep))) => (bif (decide ((i2 : Int) < (a_g.Succ.length : Int))) then (Ck (A9 i2 a_g.Succ.length) ((Ay (S := (Int × List (TDep))) (X := List (TDep)) (Ek a_g x1 i2) ((0 : Int), l3)).bind (fun x11 => ((some (.next ((Bz (i2 + (1 : Int))), x11))))))) else (some (.done l3)))
def Pg (a_g : Ag) (i2 : Int) := (a_g.Succ.getD (i2).toNat [])
def Mx (a_g : Ag) : AV := (AV.list 1 eLI64 [] a_g.Succ .none)
def Ox (a_g : Ag) : AV := (.int .i64 (a_g.Succ.length : Int))
def L4 (x1 : List (Int)) : AV := (AV.list 1 Ac (0 : Int) x1 (.own 10))
def Zm (x15 : List (TDep)) := (fun i => Bf (x15.getD i (default : TDep)))
def Zk (a_g : Ag) (i2 : Int) : AV := (AV.list 1 Ac (0 : Int) (Pg a_g i2) .none)
def Q203 (x10 : (List (TDep) × List (TDep))) := (fun i => Bf (x10.2.getD i (default : TDep)))
def T3 : AV := (AV.list 3 Bf (default : TDep) ([] : List TDep) .exact)
def Q205 (a_g : Ag) (x1 : List (Int)) : List (Nat × Own) := [(1, .row 26 [(Mx a_g), (AV.list 1 eLI64 [] a_g.Pred .none)]), (10, .tok 1 3 x1.length)]
def Q199 (x1 : List (Int)) (l3 : List (TDep)) : List (Nat × Own) := [(10, .tok 1 3 x1.length), (36004, .arr 3 37 l3.length (fun i => Bf (l3.getD i (default : TDep))))]
def Q200 (x1 : List (Int)) (l7 : List (TDep)) : List (Nat × Own) := [(10, .tok 1 3 x1.length), (36004, .arr 3 37 l7.length (fun i => Bf (l7.getD i (default : TDep))))]
def Q202 := (⟨[(2, (AV.list 3 Bf (default : TDep) ([] : List TDep) (.own 6002)))], [(6002, .tok 3 37 (([] : List TDep).length))], []⟩ : St)
def Q206 (x1 : List (Int)) (a_g : Ag) := (⟨[(3, (L4 x1)), (4, T3), (15, (Mx a_g)), (16, (Ox a_g)), (17, (.int .i64 (0 : Int)))], [(10, .tok 1 3 x1.length)], []⟩ : St)
def Q204 (x1 : List (Int)) (l7 : List (TDep)) (i2 : Int) (a_g : Ag) (i6 : Int) := (⟨[(3, (L4 x1)), (4, (.vsl 36004 l7.length)), (5, (.int .i64 i2)), (15, (Mx a_g)), (16, (Ox a_g)), (17, (.int .i64 i2)), (22, (Zk a_g i2)), (23, (.int .i64 ((Pg a_g i2).length : Int))), (24, (.int .i64 i6))], (Q200 x1 l7), []⟩ : St)
def G7 (a_g : Ag) : Option (List (TDep)) :=
  ((Ho a_g).bind fun x1 => (bif (((x1.length : Int) : Int) == (0 : Int)) then (some ([] : List TDep)) else ((Ay (S := (Int × List (TDep))) (X := List (TDep)) (D3 a_g x1) ((0 : Int), ([] : List TDep))).bind (fun x13 => (((E9 x13).bind fun x15 => (Ck (x13.length = x15.length) (some x15))))))))
theorem Sj (a_g : Ag) (r : List (TDep)) (h : G7 a_g = some r) : Spec Try.prog 10 [(.agg (A4 a_g))] [] (AV.list 3 Bf (default : TDep) r (.own 20000)) [(20000, .tok 3 37 r.length)] := by
  refine Ap (fn := Try.f10) Try.func10 rfl rfl (by kernel_rfl) (fun Γ hn hΓ => ?_); have hq : RgQ Try.prog Γ 38 [] := ⟨hn, mix, hΓ⟩; unfold G7 at h; refine B9 [] [(2, T3)] ⟨[(1, (.ptr 1 0))], [(1, .row 26 [(Mx a_g), (AV.list 1 eLI64 [] a_g.Pred .none)])], []⟩ [(AVle (.slice 0 0 (fun _ => []) .exact) T3)] hq ⟨Dg, trivial⟩ ?_; obtain ⟨x1, hx1, h⟩ := bind_some h; refine B9 [⟨[], [(20000, 10)], (AV.list 1 Ac (0 : Int) x1 (.own 20000)), [(20000, .tok 1 3 x1.length)], []⟩] [] ⟨[(1, (.ptr 1 0)), (3, (L4 x1))], (Q205 a_g x1), []⟩ [(Spec Try.prog 21 [(.agg (A4 a_g))] [] (AV.list 1 Ac (0 : Int) x1 (.own 20000)) [(20000, .tok 1 3 x1.length)])] hq ⟨(Vd a_g x1 hx1), trivial⟩ ?_; refine Ad ?_; refine As ⟨[(1, (.ptr 1 0)), (3, (L4 x1)), (13, (.bool (((x1.length : Int) : Int) == (0 : Int))))], (Q205 a_g x1), []⟩ hq ?_; refine Ai (((x1.length : Int) : Int) == (0 : Int)) (by kernel_rfl) (fun hb => ?_) (fun hb => ?_)
  · replace h := Aq hb h; clear hb; refine B9 [] [(2, T3)] ⟨[(2, T3)], [], []⟩ [(AVle (.slice 0 0 (fun _ => []) .exact) T3)] hq ⟨Dg, trivial⟩ ?_; refine Af (st' := Q202) (Le.trans (E0 (st' := ⟨[(2, T3)], [], []⟩) [2] [] hq) (Le.trans (K6 (t := 2) (nm := 6002) (sz' := 3) (fun i => Bf (([] : List TDep).getD i (default : TDep))) 37 rfl rfl (.inl ⟨rfl, rfl⟩) (fun h_ => absurd h_ (by decide))) (E0 (st' := Q202) [2] [6002] hq))) ?_; refine Ar ?_; refine Ax ?_; obtain rfl := OI h; exact ⟨.inl rfl, [(6002, 20000)], by kernel_rfl⟩
  · replace h := At hb h; clear hb; refine Ah ?_; refine Aa ?_; refine B9 [] [(4, T3)] ⟨[(1, (.ptr 1 0)), (3, (L4 x1)), (4, T3)], (Q205 a_g x1), []⟩ [(AVle (.slice 0 0 (fun _ => []) .exact) T3)] hq ⟨Dg, trivial⟩ ?_; refine Ad ?_; refine As (Q206 x1 a_g) hq ?_; refine Ak ?_; refine Af (st' := (fun ((i2, l3) : (Int × List (TDep))) => (⟨[(3, (L4 x1)), (4, (.vsl 36004 l3.length)), (15, (Mx a_g)), (16, (Ox a_g)), (17, (.int .i64 i2))], (Q199 x1 l3), []⟩ : St)) ((0 : Int), ([] : List TDep))) (Le.trans (E0 (st' := (Q206 x1 a_g)) [3, 4, 15, 16, 17] [10] hq) (Le.trans (le_arr (t := 4) (nm := 36004) (sz' := 3) (fun i => Bf (([] : List TDep).getD i (default : TDep))) 37 rfl rfl) (E0 (st' := ⟨[(3, (L4 x1)), (4, (.vsl 36004 ([] : List TDep).length)), (15, (Mx a_g)), (16, (Ox a_g)), (17, (.int .i64 (0 : Int)))], [(10, .tok 1 3 x1.length), (36004, .arr 3 37 (([] : List TDep).length) (fun i => Bf (([] : List TDep).getD i (default : TDep))))], []⟩) [3, 4, 15, 16, 17] [10, 36004] hq))) ?_; obtain ⟨x13, hx13, h⟩ := bind_some h; refine Be (fun ((i2, l3) : (Int × List (TDep))) => (⟨[(3, (L4 x1)), (4, (.vsl 36004 l3.length)), (15, (Mx a_g)), (16, (Ox a_g)), (17, (.int .i64 i2))], (Q199 x1 l3), []⟩ : St)) _ (fun (l4 : List (TDep)) (e : Exit) (st : St) => e = (.exit 0) ∧ Le Γ st (⟨[(4, (.vsl 36004 l4.length))], [(36004, .arr 3 37 l4.length (fun i => Bf (l4.getD i (default : TDep))))], []⟩ : St)) ?_ hx13 ?_
    · rintro ⟨i2, l3⟩ y h; unfold D3 at h; refine As ⟨[(3, (L4 x1)), (4, (.vsl 36004 l3.length)), (15, (Mx a_g)), (16, (Ox a_g)), (17, (.int .i64 i2)), (18, (.bool (decide ((i2 : Int) < (a_g.Succ.length : Int)))))], (Q199 x1 l3), []⟩ hq ?_; refine Ad ?_; refine Ai (decide ((i2 : Int) < (a_g.Succ.length : Int))) (by kernel_rfl) (fun hb => ?_) (fun hb => ?_)
      · replace h := Aq hb h; clear hb; refine Ah ?_; refine Aa ?_; refine Ad ?_; refine Ak ?_; obtain ⟨hc5, h⟩ := Ab h; refine B9 [] [] ⟨[(3, (L4 x1)), (4, (.vsl 36004 l3.length)), (5, (.int .i64 i2)), (6, (Zk a_g i2)), (15, (Mx a_g)), (16, (Ox a_g)), (17, (.int .i64 i2))], (Q199 x1 l3), []⟩ [(A9 i2 a_g.Succ.length)] hq ⟨hc5, trivial⟩ ?_; refine As ⟨[(3, (L4 x1)), (4, (.vsl 36004 l3.length)), (5, (.int .i64 i2)), (15, (Mx a_g)), (16, (Ox a_g)), (17, (.int .i64 i2)), (22, (Zk a_g i2)), (23, (.int .i64 ((Pg a_g i2).length : Int))), (24, (.int .i64 (0 : Int)))], (Q199 x1 l3), []⟩ hq ?_; refine Ak ?_; refine Af (st' := (fun ((i6, l7) : (Int × List (TDep))) => (Q204 x1 l7 i2 a_g i6)) ((0 : Int), l3)) (Le.refl _ _) ?_; obtain ⟨x11, hx11, h⟩ := bind_some h; refine Be (fun ((i6, l7) : (Int × List (TDep))) => (Q204 x1 l7 i2 a_g i6)) _ (fun (l8 : List (TDep)) (e : Exit) (st : St) => e = (.exit 2) ∧ Le Γ st (⟨[(3, (L4 x1)), (4, (.vsl 36004 l8.length)), (15, (Mx a_g)), (16, (Ox a_g)), (17, (.int .i64 i2))], [(10, .tok 1 3 x1.length), (36004, .arr 3 37 l8.length (fun i => Bf (l8.getD i (default : TDep))))], []⟩ : St)) ?_ hx11 ?_
        · rintro ⟨i6, l7⟩ y h; unfold Ek at h; refine As ⟨[(3, (L4 x1)), (4, (.vsl 36004 l7.length)), (5, (.int .i64 i2)), (15, (Mx a_g)), (16, (Ox a_g)), (17, (.int .i64 i2)), (22, (Zk a_g i2)), (23, (.int .i64 ((Pg a_g i2).length : Int))), (24, (.int .i64 i6)), (25, (.bool (decide ((i6 : Int) < ((Pg a_g i2).length : Int)))))], (Q200 x1 l7), []⟩ hq ?_; refine Ad ?_; refine Ai (decide ((i6 : Int) < ((Pg a_g i2).length : Int))) (by kernel_rfl) (fun hb => ?_) (fun hb => ?_)
          · replace h := Aq hb h; clear hb; refine Ah ?_; refine Aa ?_; refine Ad ?_; refine Ak ?_; obtain ⟨hc9, h⟩ := Ab h; refine B9 [] [] ⟨[(3, (L4 x1)), (4, (.vsl 36004 l7.length)), (5, (.int .i64 i2)), (8, (.int .i64 ((Pg a_g i2).getD (i6).toNat (0 : Int)))), (15, (Mx a_g)), (16, (Ox a_g)), (17, (.int .i64 i2)), (22, (Zk a_g i2)), (23, (.int .i64 ((Pg a_g i2).length : Int))), (24, (.int .i64 i6))], (Q200 x1 l7), []⟩ [(A9 i6 (Pg a_g i2).length)] hq ⟨hc9, trivial⟩ ?_; obtain ⟨x10, hx10, h⟩ := bind_some h; refine rg [⟨[(36004, 34000)], [], (.vsl 34000 x10.2.length), [(34000, .arr 3 37 x10.2.length (Q203 x10))], []⟩] [] ⟨[(3, (L4 x1)), (4, (.vsl 36004 x10.2.length)), (5, (.int .i64 i2)), (15, (Mx a_g)), (16, (Ox a_g)), (17, (.int .i64 i2)), (22, (Zk a_g i2)), (23, (.int .i64 ((Pg a_g i2).length : Int))), (24, (.int .i64 i6))], [(10, .tok 1 3 x1.length), (36004, .arr 3 37 x10.2.length (Q203 x10))], []⟩ [(Spec Try.prog 22 [(.vsl 34000 l7.length), (AV.list 1 Ac (0 : Int) x1 .none), (.int .i64 i2), (.int .i64 ((Pg a_g i2).getD (i6).toNat (0 : Int)))] [(34000, .arr 3 37 l7.length (fun i => Bf (l7.getD i (default : TDep))))] (.vsl 34000 x10.2.length) [(34000, .arr 3 37 x10.2.length (Q203 x10))])] hq ⟨(Lh l7 x1 i2 ((Pg a_g i2).getD (i6).toNat (0 : Int)) x10 hx10), trivial⟩ ?_; refine Am ?_; refine Aa ?_; refine My ⟨[(3, (L4 x1)), (4, (.vsl 36004 x10.2.length)), (5, (.int .i64 i2)), (15, (Mx a_g)), (16, (Ox a_g)), (17, (.int .i64 i2)), (22, (Zk a_g i2)), (23, (.int .i64 ((Pg a_g i2).length : Int))), (24, (.int .i64 (Bz (i6 + (1 : Int)))))], [(10, .tok 1 3 x1.length), (36004, .arr 3 37 x10.2.length (Q203 x10))], []⟩ hq ?_; obtain rfl := OI h; exact ⟨rfl, Le.refl _ _⟩
          · replace h := At hb h; clear hb; refine Bc ?_; refine A3 ?_; obtain rfl := OI h; exact ⟨(by intro hh; cases hh), rfl, E0 [3, 4, 15, 16, 17] [10, 36004] hq⟩
        · clear hx11; rintro e st' ⟨rfl, hl12⟩; refine Az ?_; refine Am ?_; refine Aa ?_; refine Af hl12 ?_; refine My ⟨[(3, (L4 x1)), (4, (.vsl 36004 x11.length)), (15, (Mx a_g)), (16, (Ox a_g)), (17, (.int .i64 (Bz (i2 + (1 : Int)))))], [(10, .tok 1 3 x1.length), (36004, .arr 3 37 x11.length (fun i => Bf (x11.getD i (default : TDep))))], []⟩ hq ?_; obtain rfl := OI h; exact ⟨rfl, Le.refl _ _⟩
      · replace h := At hb h; clear hb; refine Bc ?_; refine A3 ?_; obtain rfl := OI h; exact ⟨(by intro hh; cases hh), rfl, E0 [4] [36004] hq⟩
    · clear hx13; rintro e st' ⟨rfl, hl14⟩; refine Az ?_; refine Aa ?_; refine Af hl14 ?_; obtain ⟨x15, hx15, h⟩ := bind_some h; obtain ⟨hc16, h⟩ := Ab h; refine B9 [⟨[(36004, 34000)], [], (.tuple []), [(34000, .arr 3 37 x15.length (Zm x15))], []⟩] [] ⟨[(4, (.vsl 36004 x13.length))], [(36004, .arr 3 37 x15.length (Zm x15))], []⟩ [(Spec Try.prog 23 [(.vsl 34000 x13.length), (.clo 24 [] [])] [(34000, .arr 3 37 x13.length (fun i => Bf (x13.getD i (default : TDep))))] (.tuple []) [(34000, .arr 3 37 x15.length (Zm x15))])] hq ⟨(L3 x13 x15 hx15), trivial⟩ ?_; refine Af (Bv (congrArg (fun k_ : Nat => (⟨[(4, (.vsl 36004 k_))], [(36004, .arr 3 37 x15.length (Zm x15))], []⟩ : St)) (show x13.length = x15.length from hc16))) ?_; refine As ⟨[(2, (.vsl 36004 x15.length))], [(36004, .arr 3 37 x15.length (Zm x15))], []⟩ hq ?_; refine Af (Le.trans (Eh (nm := 36004) (sz := 3) (n := x15.length) (e := 37) (f := (Zm x15)) (g := (Zm x15)) rfl ⟨rfl, trivial⟩ (fun _ _ => rfl) (by rw [hΓ]; rfl)) (Bv (st' := ⟨[(2, (AV.list 3 Bf (default : TDep) x15 (.own 36004)))], [(36004, .tok 3 37 x15.length)], []⟩) (by kernel_rfl))) ?_; refine Ar ?_; obtain rfl := OI h; exact ⟨.inl rfl, [(36004, 20000)], by kernel_rfl⟩
def Bu (a_s : List (Int)) (a_v : Int) : Int → Option (LR Int (Unit ⊕ Int)) :=
  fun (i1 : Int) => (bif (decide ((i1 : Int) < (a_s.length : Int))) then (Ck (A9 i1 a_s.length) (bif ((a_v : Int) == (a_s.getD (i1).toNat (0 : Int))) then (some (.done (.inr i1))) else (some (.next (Bz (i1 + (1 : Int))))))) else (some (.done (.inl ()))))
def Q209 (a_s : List (Int)) : AV := (.int .i64 (a_s.length : Int))
def W5 (a_s : List (Int)) : AV := (AV.list 1 Ac (0 : Int) a_s .none)
def Cy (a_s : List (Int)) (a_v : Int) : Option Int :=
  ((Ay (S := Int) (X := (Unit ⊕ Int)) (Bu a_s a_v) (0 : Int)).bind (fun x3 => (match x3 with | (.inl _) => (some (-1 : Int)) | (.inr r5) => (some r5))))
theorem Jx (a_s : List (Int)) (a_v : Int) (r : Int) (h : Cy a_s a_v = some r) : Spec Try.prog 74 [(AV.list 1 Ac (0 : Int) a_s .none), (.int .i64 a_v)] [] (.int .i64 r) [] := by
  refine Ap (fn := Try.f74) Try.func74 rfl rfl (by kernel_rfl) (fun Γ hn hΓ => ?_); have hq : RgQ Try.prog Γ 19 [] := ⟨hn, mix, hΓ⟩; unfold Cy at h; refine As ⟨[(0, (W5 a_s)), (1, (.int .i64 a_v))], [], []⟩ hq ?_; refine Ad ?_; refine As ⟨[(0, (W5 a_s)), (1, (.int .i64 a_v)), (7, (Q209 a_s)), (8, (.int .i64 (0 : Int)))], [], []⟩ hq ?_; refine Ak ?_; refine Af (st' := (fun (i1 : Int) => (⟨[(0, (W5 a_s)), (1, (.int .i64 a_v)), (7, (Q209 a_s)), (8, (.int .i64 i1))], [], []⟩ : St)) (0 : Int)) (Le.refl _ _) ?_; obtain ⟨x3, hx3, h⟩ := bind_some h; refine Be (fun (i1 : Int) => (⟨[(0, (W5 a_s)), (1, (.int .i64 a_v)), (7, (Q209 a_s)), (8, (.int .i64 i1))], [], []⟩ : St)) _ (fun (x_ : (Unit ⊕ Int)) (e : Exit) (st : St) => match x_ with | (.inl _) => e = (.exit 0) ∧ Le Γ st (⟨[], [], []⟩ : St) | (.inr r_) => e = .ret ∧ J1 Try.prog Try.f74.results.toList [] (.int .i64 r_) [] e st) ?_ hx3 ?_
  · intro i1 y h; unfold Bu at h; refine As ⟨[(0, (W5 a_s)), (1, (.int .i64 a_v)), (7, (Q209 a_s)), (8, (.int .i64 i1)), (9, (.bool (decide ((i1 : Int) < (a_s.length : Int)))))], [], []⟩ hq ?_; refine Ad ?_; refine Ai (decide ((i1 : Int) < (a_s.length : Int))) (by kernel_rfl) (fun hb => ?_) (fun hb => ?_)
    · replace h := Aq hb h; clear hb; refine Ah ?_; refine Aa ?_; refine Ad ?_; refine Ak ?_; refine As ⟨[(0, (W5 a_s)), (1, (.int .i64 a_v)), (5, (.int .i64 i1)), (7, (Q209 a_s)), (8, (.int .i64 i1))], [], []⟩ hq ?_; obtain ⟨hc2, h⟩ := Ab h; refine B9 [] [] ⟨[(0, (W5 a_s)), (1, (.int .i64 a_v)), (5, (.int .i64 i1)), (7, (Q209 a_s)), (8, (.int .i64 i1)), (16, (.bool ((a_v : Int) == (a_s.getD (i1).toNat (0 : Int)))))], [], []⟩ [(A9 i1 a_s.length)] hq ⟨hc2, trivial⟩ ?_; refine Ai ((a_v : Int) == (a_s.getD (i1).toNat (0 : Int))) (by kernel_rfl) (fun hb => ?_) (fun hb => ?_)
      · replace h := Aq hb h; clear hb; refine As ⟨[(4, (.int .i64 i1))], [], []⟩ hq ?_; refine Ar ?_; refine Bs ?_; refine Ax ?_; obtain rfl := OI h; exact ⟨(by intro hh; cases hh), rfl, ⟨.inl rfl, [], by kernel_rfl⟩⟩
      · replace h := At hb h; clear hb; refine Ah ?_; refine Am ?_; refine Aa ?_; refine My ⟨[(0, (W5 a_s)), (1, (.int .i64 a_v)), (7, (Q209 a_s)), (8, (.int .i64 (Bz (i1 + (1 : Int)))))], [], []⟩ hq ?_; obtain rfl := OI h; exact ⟨rfl, Le.refl _ _⟩
    · replace h := At hb h; clear hb; refine Bc ?_; refine A3 ?_; obtain rfl := OI h; exact ⟨(by intro hh; cases hh), rfl, E0 [] [] hq⟩
  · clear hx3; rcases x3 with _ | r5
    · rintro e st' ⟨rfl, hl4⟩; refine Az ?_; refine Aa ?_; refine Af hl4 ?_; refine As ⟨[(4, (.int .i64 (-1 : Int)))], [], []⟩ hq ?_; refine Ar ?_; obtain rfl := OI h; exact ⟨.inl rfl, [], by kernel_rfl⟩
    · rintro e st' ⟨rfl, hk⟩; refine Bs ?_; refine Ax ?_; obtain rfl := OI h; exact hk
def Z0 (a_at : Int) := ((decide (((0 : Int) : Int) ≤ a_at)) == true)
def Es (a_tree : List (Int)) (a_at : Int) : Option Bool :=
  (some (bif (decide (((0 : Int) : Int) ≤ a_at)) then (decide ((a_at : Int) < (a_tree.length : Int))) else false))
theorem Lz (a_tree : List (Int)) (a_at : Int) (r : Bool) (h : Es a_tree a_at = some r) : Spec Try.prog 76 [(AV.list 1 Ac (0 : Int) a_tree .none), (.int .i64 a_at)] [] (.bool r) [] := by
  refine Ap (fn := Try.f76) Try.func76 rfl rfl (by kernel_rfl) (fun Γ hn hΓ => ?_); have hq : RgQ Try.prog Γ 13 [] := ⟨hn, mix, hΓ⟩; unfold Es at h; refine As ⟨[(0, (AV.list 1 Ac (0 : Int) a_tree .none)), (1, (.int .i64 a_at))], [], []⟩ hq ?_; refine B9 [] [] ⟨[(4, (.bool (bif (decide (((0 : Int) : Int) ≤ a_at)) then (decide ((a_at : Int) < (a_tree.length : Int))) else false)))], [], []⟩ [((Z0 a_at) = true → (Z0 a_at) = true), ((Z0 a_at) = true → (Z0 a_at) = true), ((Z0 a_at) = true → (Z0 a_at) = true), ((decide (((0 : Int) : Int) ≤ a_at)) = true → (Z0 a_at) = true)] hq ⟨(fun hg => hg), (fun hg => hg), (fun hg => hg), gT, trivial⟩ ?_; refine Ar ?_; obtain rfl := OI h; exact ⟨.inl rfl, [], by kernel_rfl⟩
def Ce (a_tree : List (Int)) (a_from : Int) (a_root : Int) : (Int × List (Int)) → Option (LR (Int × List (Int)) (List (Int) ⊕ (Bool × List (Int)))) :=
  fun ((i1, l2) : (Int × List (Int))) => (bif ((i1 : Int) != a_root) then (Ck (A9 i1 l2.length) (bif (((l2.getD (i1).toNat (0 : Int)) : Int) != (0 : Int)) then (Ck (A9 i1 l2.length) (some (.done (.inr ((((l2.getD (i1).toNat (0 : Int)) : Int) != (Bz (a_from + (1 : Int)))), l2))))) else (Ck (A9 i1 a_tree.length) ((Es a_tree (a_tree.getD (i1).toNat (0 : Int))).bind fun x7 => (bif (!x7) then (some (.done (.inr (false, l2)))) else (Ck (A9 i1 l2.length) (Ck (A9 i1 a_tree.length) (some (.next ((a_tree.getD (i1).toNat (0 : Int)), (l2.set (i1).toNat (Bz (a_from + (1 : Int)))))))))))))) else (some (.done (.inl l2))))
def We (a_from : Int) : AV := (.int .i64 (Bz (a_from + (1 : Int))))
def Tm (a_tree : List (Int)) : AV := (AV.list 1 Ac (0 : Int) a_tree .none)
def Q214 (l2 : List (Int)) (i1 : Int) (a_from : Int) := (l2.set (i1).toNat (Bz (a_from + (1 : Int))))
def Q212 (l2 : List (Int)) : List (Nat × Own) := [(34001, .arr 1 3 l2.length (fun i => Ac (l2.getD i (0 : Int))))]
def Q213 (a_walks : List (Int)) : List (Nat × Own) := [(34001, .arr 1 3 a_walks.length (fun i => Ac (a_walks.getD i (0 : Int))))]
def Q211 (a_tree : List (Int)) (l2 : List (Int)) (a_root : Int) (a_from : Int) (i1 : Int) : List (Nat × AV) := [(0, (Tm a_tree)), (1, (.vsl 34001 l2.length)), (3, (.int .i64 a_root)), (9, (We a_from)), (10, (.int .i64 i1))]
def Hn (a_tree : List (Int)) (a_walks : List (Int)) (a_from : Int) (a_root : Int) : Option (Bool × List (Int)) :=
  ((Ay (S := (Int × List (Int))) (X := (List (Int) ⊕ (Bool × List (Int)))) (Ce a_tree a_from a_root) (a_from, a_walks)).bind (fun x10 => (match x10 with | (.inl l3) => (some (true, l3)) | (.inr r12) => (some r12))))
theorem Vt (a_tree : List (Int)) (a_walks : List (Int)) (a_from : Int) (a_root : Int) (r : (Bool × List (Int))) (h : Hn a_tree a_walks a_from a_root = some r) : Spec Try.prog 75 [(AV.list 1 Ac (0 : Int) a_tree .none), (.vsl 34001 a_walks.length), (.int .i64 a_from), (.int .i64 a_root)] [(34001, .arr 1 3 a_walks.length (fun i => Ac (a_walks.getD i (0 : Int))))] (.bool r.1) [(34001, .arr 1 3 r.2.length (fun i => Ac (r.2.getD i (0 : Int))))] := by
  refine Ap (fn := Try.f75) Try.func75 rfl rfl (by kernel_rfl) (fun Γ hn hΓ => ?_); have hq : RgQ Try.prog Γ 43 [(34001, .arr 1 3 a_walks.length (fun i => Ac (a_walks.getD i (0 : Int))))] := ⟨hn, mix, hΓ⟩; unfold Hn at h; refine As ⟨[(0, (Tm a_tree)), (1, (.vsl 34001 a_walks.length)), (2, (.int .i64 a_from)), (3, (.int .i64 a_root))], (Q213 a_walks), []⟩ hq ?_; refine As ⟨[(0, (Tm a_tree)), (1, (.vsl 34001 a_walks.length)), (2, (.int .i64 a_from)), (3, (.int .i64 a_root)), (9, (We a_from))], (Q213 a_walks), []⟩ hq ?_; refine Ad ?_; refine As ⟨[(0, (Tm a_tree)), (1, (.vsl 34001 a_walks.length)), (3, (.int .i64 a_root)), (9, (We a_from)), (10, (.int .i64 a_from))], (Q213 a_walks), []⟩ hq ?_; refine Ak ?_; refine Af (st' := (fun ((i1, l2) : (Int × List (Int))) => (⟨(Q211 a_tree l2 a_root a_from i1), (Q212 l2), []⟩ : St)) (a_from, a_walks)) (Le.refl _ _) ?_; obtain ⟨x10, hx10, h⟩ := bind_some h; refine Be (fun ((i1, l2) : (Int × List (Int))) => (⟨(Q211 a_tree l2 a_root a_from i1), (Q212 l2), []⟩ : St)) _ (fun (x_ : (List (Int) ⊕ (Bool × List (Int)))) (e : Exit) (st : St) => match x_ with | (.inl l3) => e = (.exit 0) ∧ Le Γ st (⟨[], [(34001, .arr 1 3 l3.length (fun i => Ac (l3.getD i (0 : Int))))], []⟩ : St) | (.inr r_) => e = .ret ∧ J1 Try.prog Try.f75.results.toList (Q213 a_walks) (.bool r_.1) [(34001, .arr 1 3 r_.2.length (fun i => Ac (r_.2.getD i (0 : Int))))] e st) ?_ hx10 ?_
  · rintro ⟨i1, l2⟩ y h; unfold Ce at h; refine Ad ?_; refine As ⟨[(0, (Tm a_tree)), (1, (.vsl 34001 l2.length)), (3, (.int .i64 a_root)), (9, (We a_from)), (10, (.int .i64 i1)), (16, (.bool ((i1 : Int) != a_root)))], (Q212 l2), []⟩ hq ?_; refine Ai ((i1 : Int) != a_root) (by kernel_rfl) (fun hb => ?_) (fun hb => ?_)
    · replace h := Aq hb h; clear hb; refine Ah ?_; refine Aa ?_; refine Ad ?_; refine Ak ?_; refine Ad ?_; obtain ⟨hc4, h⟩ := Ab h; refine B9 [] [] ⟨[(0, (Tm a_tree)), (1, (.vsl 34001 l2.length)), (3, (.int .i64 a_root)), (9, (We a_from)), (10, (.int .i64 i1)), (25, (.bool (((l2.getD (i1).toNat (0 : Int)) : Int) != (0 : Int))))], (Q212 l2), []⟩ [(A9 i1 l2.length), (l2.length = l2.length)] hq ⟨hc4, rfl, trivial⟩ ?_; refine Ai (((l2.getD (i1).toNat (0 : Int)) : Int) != (0 : Int)) (by kernel_rfl) (fun hb => ?_) (fun hb => ?_)
      · replace h := Aq hb h; clear hb; obtain ⟨hc5, h⟩ := Ab h; refine B9 [] [] ⟨[(8, (.bool (((l2.getD (i1).toNat (0 : Int)) : Int) != (Bz (a_from + (1 : Int))))))], (Q212 l2), []⟩ [(A9 i1 l2.length), (l2.length = l2.length)] hq ⟨hc5, rfl, trivial⟩ ?_; refine Ar ?_; refine Ax ?_; refine Bs ?_; refine Ax ?_; obtain rfl := OI h; exact ⟨(by intro hh; cases hh), rfl, ⟨.inl rfl, [(34001, 34001)], by kernel_rfl⟩⟩
      · replace h := At hb h; clear hb; refine Ah ?_; refine Aa ?_; refine Ad ?_; obtain ⟨hc6, h⟩ := Ab h; obtain ⟨x7, hx7, h⟩ := bind_some h; refine B9 [⟨[], [], (.bool x7), [], []⟩] [] ⟨[(0, (Tm a_tree)), (1, (.vsl 34001 l2.length)), (3, (.int .i64 a_root)), (9, (We a_from)), (10, (.int .i64 i1)), (38, (.bool (!x7)))], (Q212 l2), []⟩ [(A9 i1 a_tree.length), (Spec Try.prog 76 [(Tm a_tree), (.int .i64 (a_tree.getD (i1).toNat (0 : Int)))] [] (.bool x7) [])] hq ⟨hc6, (Lz a_tree (a_tree.getD (i1).toNat (0 : Int)) x7 hx7), trivial⟩ ?_; refine Ai (!x7) (by kernel_rfl) (fun hb => ?_) (fun hb => ?_)
        · replace h := Aq hb h; clear hb; refine As ⟨[(8, (.bool false))], (Q212 l2), []⟩ hq ?_; refine Ar ?_; refine Ax ?_; refine Bs ?_; refine Ax ?_; obtain rfl := OI h; exact ⟨(by intro hh; cases hh), rfl, ⟨.inl rfl, [(34001, 34001)], by kernel_rfl⟩⟩
        · replace h := At hb h; clear hb; refine Ah ?_; refine Aa ?_; obtain ⟨hc8, h⟩ := Ab h; refine rg [] [] ⟨(Q211 a_tree l2 a_root a_from i1), [(34001, .arr 1 3 l2.length (fun i_ => AV.eraseAll (fun n_ => Cb n_ [34001]) ((E6 (fun i => Ac (l2.getD i (0 : Int))) (i1).toNat 0 [(We a_from)]) i_)))], []⟩ [(A9 i1 l2.length), (l2.length = l2.length)] hq ⟨hc8, rfl, trivial⟩ ?_; refine Am ?_; refine Aa ?_; refine Af (Le.trans (Cr (st' := ⟨(Q211 a_tree l2 a_root a_from i1), [(34001, .arr 1 3 l2.length (fun i => Ac ((Q214 l2 i1 a_from).getD i (0 : Int))))], []⟩) (TmpsLe.refl _) (.arr (Br (List.length_set ..).symm (fun k_ hk_ => (congrArg (AV.eraseAll (fun n_ => Cb n_ [34001])) ((Ft (fun _ _ => rfl) (Gd hc8) rfl) k_ hk_)).trans rfl)) .nil)) (Bv (congrArg (fun k_ : Nat => (⟨[(0, (Tm a_tree)), (1, (.vsl 34001 k_)), (3, (.int .i64 a_root)), (9, (We a_from)), (10, (.int .i64 i1))], [(34001, .arr 1 3 k_ (fun i => Ac ((Q214 l2 i1 a_from).getD i (0 : Int))))], []⟩ : St)) (show l2.length = (Q214 l2 i1 a_from).length from (List.length_set ..).symm)))) ?_; obtain ⟨hc9, h⟩ := Ab h; refine rg [] [] ⟨[(0, (Tm a_tree)), (1, (.vsl 34001 (Q214 l2 i1 a_from).length)), (3, (.int .i64 a_root)), (9, (We a_from)), (10, (.int .i64 (a_tree.getD (i1).toNat (0 : Int))))], [(34001, .arr 1 3 ((Q214 l2 i1 a_from).length) (fun i => Ac ((Q214 l2 i1 a_from).getD i (0 : Int))))], []⟩ [(A9 i1 a_tree.length)] hq ⟨hc9, trivial⟩ ?_; obtain rfl := OI h; exact ⟨rfl, Le.refl _ _⟩
    · replace h := At hb h; clear hb; refine Bc ?_; refine A3 ?_; obtain rfl := OI h; exact ⟨(by intro hh; cases hh), rfl, E0 [] [34001] hq⟩
  · clear hx10; rcases x10 with l3 | r12
    · rintro e st' ⟨rfl, hl11⟩; refine Az ?_; refine Aa ?_; refine Af hl11 ?_; refine As ⟨[(8, (.bool true))], [(34001, .arr 1 3 l3.length (fun i => Ac (l3.getD i (0 : Int))))], []⟩ hq ?_; refine Ar ?_; obtain rfl := OI h; exact ⟨.inl rfl, [(34001, 34001)], by kernel_rfl⟩
    · rintro e st' ⟨rfl, hk⟩; refine Bs ?_; refine Ax ?_; obtain rfl := OI h; exact hk
def Db (a_tree : List (Int)) (x1 : Int) : (Int × List (Int)) → Option (LR (Int × List (Int)) (Unit ⊕ Bool)) :=
  fun ((i3, l4) : (Int × List (Int))) => (bif (decide ((i3 : Int) < (a_tree.length : Int))) then (Ck (A9 i3 a_tree.length) ((bif ((((a_tree.getD (i3).toNat (0 : Int)) : Int) != (-2 : Int)) == true) then Hn a_tree l4 i3 x1 else some (false, [])).bind fun x6 => (Ck (((((a_tree.getD (i3).toNat (0 : Int)) : Int) != (-2 : Int)) == true) = true → (l4.length = x6.2.length)) (bif (bif (((a_tree.getD (i3).toNat (0 : Int)) : Int) != (-2 : Int)) then (!x6.1) else false) then (some (.done (.inr false))) else (some (.next ((Bz (i3 + (1 : Int))), (bif ((((a_tree.getD (i3).toNat (0 : Int)) : Int) != (-2 : Int)) == true) then x6.2 else l4)))))))) else (some (.done (.inl ()))))
def Jr (a_tree : List (Int)) := (a_tree.length : Int)
def Q217 (a_tree : List (Int)) (i3 : Int) := (((a_tree.getD (i3).toNat (0 : Int)) : Int) != (-2 : Int))
def Hy (a_tree : List (Int)) (i3 : Int) := ((Q217 a_tree i3) == true)
def Mv (a_tree : List (Int)) : AV := (AV.list 1 Ac (0 : Int) a_tree .none)
def Zn (a_tree : List (Int)) := (List.replicate ((Jr a_tree)).toNat (0 : Int))
def Q220 (l4 : List (Int)) : List (Nat × Own) := [(12, .arr 1 3 l4.length (fun i => Ac (l4.getD i (0 : Int))))]
def Q222 (a_tree : List (Int)) (x1 : Int) (l4 : List (Int)) (i3 : Int) (x6 : (Bool × List (Int))) : List (Nat × AV) := [(0, (Mv a_tree)), (3, (.int .i64 x1)), (4, (.vsl 12 l4.length)), (14, (.int .i64 (Jr a_tree))), (15, (.int .i64 i3)), (30, (.bool (bif (Q217 a_tree i3) then (!x6.1) else false)))]
def Gw (a_tree : List (Int)) : Option Bool :=
  ((Cy a_tree (-1 : Int)).bind fun x1 => (bif (decide ((x1 : Int) < (0 : Int))) then (some false) else (Ck (0 ≤ (a_tree.length : Int) ∧ (a_tree.length : Int) ≤ (a_tree.length : Int) ∧ (a_tree.length : Int) ≤ (room : Int)) ((Ay (S := (Int × List (Int))) (X := (Unit ⊕ Bool)) (Db a_tree x1) ((0 : Int), (List.replicate ((a_tree.length : Int)).toNat (0 : Int)))).bind (fun x8 => (match x8 with | (.inl _) => (some true) | (.inr r10) => (some r10)))))))
theorem Tx (a_tree : List (Int)) (r : Bool) (h : Gw a_tree = some r) : Spec Try.prog 54 [(AV.list 1 Ac (0 : Int) a_tree .none)] [] (.bool r) [] := by
  refine Ap (fn := Try.f54) Try.func54 rfl rfl (by kernel_rfl) (fun Γ hn hΓ => ?_); have hq : RgQ Try.prog Γ 32 [] := ⟨hn, mix, hΓ⟩; unfold Gw at h; refine As ⟨[(0, (Mv a_tree))], [], []⟩ hq ?_; obtain ⟨x1, hx1, h⟩ := bind_some h; refine B9 [⟨[], [], (.int .i64 x1), [], []⟩] [] ⟨[(0, (Mv a_tree)), (3, (.int .i64 x1))], [], []⟩ [(Spec Try.prog 74 [(Mv a_tree), (.int .i64 (-1 : Int))] [] (.int .i64 x1) [])] hq ⟨(Jx a_tree (-1 : Int) x1 hx1), trivial⟩ ?_; refine Ad ?_; refine As ⟨[(0, (Mv a_tree)), (3, (.int .i64 x1)), (9, (.bool (decide ((x1 : Int) < (0 : Int)))))], [], []⟩ hq ?_; refine Ai (decide ((x1 : Int) < (0 : Int))) (by kernel_rfl) (fun hb => ?_) (fun hb => ?_)
  · replace h := Aq hb h; clear hb; refine As ⟨[(2, (.bool false))], [], []⟩ hq ?_; refine Ar ?_; refine Ax ?_; obtain rfl := OI h; exact ⟨.inl rfl, [], by kernel_rfl⟩
  · replace h := At hb h; clear hb; refine Ah ?_; refine Aa ?_; obtain ⟨hc2, h⟩ := Ab h; refine B9 [] [] ⟨[(0, (Mv a_tree)), (3, (.int .i64 x1)), (4, (.vsl 12 ((Jr a_tree)).toNat))], [(12, .arr 1 3 (((Jr a_tree)).toNat) (fun i_ => AV.eraseAll (fun n_ => Cb n_ [12]) ((fun _ => [(.int .i64 (0 : Int))]) i_)))], []⟩ [(0 ≤ (Jr a_tree) ∧ (Jr a_tree) ≤ (Jr a_tree) ∧ (Jr a_tree) ≤ (room : Int))] hq ⟨hc2, trivial⟩ ?_; refine Af (Le.trans (Cr (st' := ⟨[(0, (Mv a_tree)), (3, (.int .i64 x1)), (4, (.vsl 12 ((Jr a_tree)).toNat))], [(12, .arr 1 3 (((Jr a_tree)).toNat) (fun i => Ac ((Zn a_tree).getD i (0 : Int))))], []⟩) (TmpsLe.refl _) (.arr (fun k hk => J7 (e := Ac) (d := (0 : Int)) (.cons (AVle.refl _) .nil) _ k (Ke hk)) .nil)) (Bv (congrArg (fun k_ : Nat => (⟨[(0, (Mv a_tree)), (3, (.int .i64 x1)), (4, (.vsl 12 k_))], [(12, .arr 1 3 k_ (fun i => Ac ((Zn a_tree).getD i (0 : Int))))], []⟩ : St)) (show ((Jr a_tree)).toNat = (Zn a_tree).length from (List.length_replicate ..).symm)))) ?_; refine Ad ?_; refine As ⟨[(0, (Mv a_tree)), (3, (.int .i64 x1)), (4, (.vsl 12 (Zn a_tree).length)), (14, (.int .i64 (Jr a_tree))), (15, (.int .i64 (0 : Int)))], [(12, .arr 1 3 ((Zn a_tree).length) (fun i => Ac ((Zn a_tree).getD i (0 : Int))))], []⟩ hq ?_; refine Ak ?_; refine Af (st' := (fun ((i3, l4) : (Int × List (Int))) => (⟨[(0, (Mv a_tree)), (3, (.int .i64 x1)), (4, (.vsl 12 l4.length)), (14, (.int .i64 (Jr a_tree))), (15, (.int .i64 i3))], (Q220 l4), []⟩ : St)) ((0 : Int), (Zn a_tree))) (Le.refl _ _) ?_; obtain ⟨x8, hx8, h⟩ := bind_some h; refine Be (fun ((i3, l4) : (Int × List (Int))) => (⟨[(0, (Mv a_tree)), (3, (.int .i64 x1)), (4, (.vsl 12 l4.length)), (14, (.int .i64 (Jr a_tree))), (15, (.int .i64 i3))], (Q220 l4), []⟩ : St)) _ (fun (x_ : (Unit ⊕ Bool)) (e : Exit) (st : St) => match x_ with | (.inl _) => e = (.exit 0) ∧ Le Γ st (⟨[], [], []⟩ : St) | (.inr r_) => e = .ret ∧ J1 Try.prog Try.f54.results.toList [] (.bool r_) [] e st) ?_ hx8 ?_
    · rintro ⟨i3, l4⟩ y h; unfold Db at h; refine As ⟨[(0, (Mv a_tree)), (3, (.int .i64 x1)), (4, (.vsl 12 l4.length)), (14, (.int .i64 (Jr a_tree))), (15, (.int .i64 i3)), (16, (.bool (decide ((i3 : Int) < (Jr a_tree)))))], (Q220 l4), []⟩ hq ?_; refine Ad ?_; refine Ai (decide ((i3 : Int) < (Jr a_tree))) (by kernel_rfl) (fun hb => ?_) (fun hb => ?_)
      · replace h := Aq hb h; clear hb; refine Ah ?_; refine Aa ?_; refine Ad ?_; refine Ak ?_; refine As ⟨[(0, (Mv a_tree)), (3, (.int .i64 x1)), (4, (.vsl 12 l4.length)), (5, (.int .i64 i3)), (14, (.int .i64 (Jr a_tree))), (15, (.int .i64 i3))], (Q220 l4), []⟩ hq ?_; obtain ⟨hc5, h⟩ := Ab h; obtain ⟨x6, hx6, h⟩ := bind_some h; obtain ⟨hc7, h⟩ := Ab h; refine B9 [⟨[(12, 34001)], [], (.bool x6.1), [(34001, .arr 1 3 x6.2.length (fun i => Ac (x6.2.getD i (0 : Int))))], []⟩] [] ⟨(Q222 a_tree x1 l4 i3 x6), [(12, .arr 1 3 (bif (Hy a_tree i3) then x6.2.length else l4.length) (fun i_ => AV.eraseAll (fun n_ => Cb n_ [12]) ((fun i => bif (Hy a_tree i3) then (fun i => Ac (x6.2.getD i (0 : Int))) i else (fun i => Ac (l4.getD i (0 : Int))) i) i_)))], []⟩ [(A9 i3 a_tree.length), ((Hy a_tree i3) = true → (Hy a_tree i3) = true), ((Hy a_tree i3) = true → (Hy a_tree i3) = true), ((Hy a_tree i3) = true → (Hy a_tree i3) = true), ((Hy a_tree i3) = true → (Hy a_tree i3) = true), ((Hy a_tree i3) = true → (Spec Try.prog 75 [(Mv a_tree), (.vsl 34001 l4.length), (.int .i64 i3), (.int .i64 x1)] [(34001, .arr 1 3 l4.length (fun i => Ac (l4.getD i (0 : Int))))] (.bool x6.1) [(34001, .arr 1 3 x6.2.length (fun i => Ac (x6.2.getD i (0 : Int))))])), ((Hy a_tree i3) = true → (Hy a_tree i3) = true), ((Q217 a_tree i3) = true → (Hy a_tree i3) = true)] hq ⟨hc5, (fun hg => hg), (fun hg => hg), (fun hg => hg), (fun hg => hg), (fun hg => (Vt a_tree l4 i3 x1 x6 (Aq hg hx6))), (fun hg => hg), gT, trivial⟩ ?_; refine Af (Le.trans (Cr (st' := ⟨(Q222 a_tree x1 l4 i3 x6), [(12, .arr 1 3 (bif (Hy a_tree i3) then x6.2.length else l4.length) (fun i => Ac ((bif (Hy a_tree i3) then x6.2 else l4).getD i (0 : Int))))], []⟩) (TmpsLe.refl _) (.arr (Br bif_len (fun k_ hk_ => (congrArg (AV.eraseAll (fun n_ => Cb n_ [12])) ((fun _ _ => bif_row) k_ hk_)).trans rfl)) .nil)) (Le.trans (Bv (congrArg (fun k_ : Nat => (⟨(Q222 a_tree x1 l4 i3 x6), [(12, .arr 1 3 k_ (fun i => Ac ((bif (Hy a_tree i3) then x6.2 else l4).getD i (0 : Int))))], []⟩ : St)) (show (bif (Hy a_tree i3) then x6.2.length else l4.length) = (bif (Hy a_tree i3) then x6.2 else l4).length from bif_len))) (Bv (congrArg (fun k_ : Nat => (⟨[(0, (Mv a_tree)), (3, (.int .i64 x1)), (4, (.vsl 12 k_)), (14, (.int .i64 (Jr a_tree))), (15, (.int .i64 i3)), (30, (.bool (bif (Q217 a_tree i3) then (!x6.1) else false)))], [(12, .arr 1 3 ((bif (Hy a_tree i3) then x6.2 else l4).length) (fun i => Ac ((bif (Hy a_tree i3) then x6.2 else l4).getD i (0 : Int))))], []⟩ : St)) (show l4.length = (bif (Hy a_tree i3) then x6.2 else l4).length from (bif_was hc7)))))) ?_; refine Ai (bif (Q217 a_tree i3) then (!x6.1) else false) (by kernel_rfl) (fun hb => ?_) (fun hb => ?_)
        · replace h := Aq hb h; clear hb; refine As ⟨[(2, (.bool false))], [], []⟩ hq ?_; refine Ar ?_; refine Bs ?_; refine Ax ?_; obtain rfl := OI h; exact ⟨(by intro hh; cases hh), rfl, ⟨.inl rfl, [], by kernel_rfl⟩⟩
        · replace h := At hb h; clear hb; refine Ah ?_; refine Am ?_; refine Aa ?_; refine My ⟨[(0, (Mv a_tree)), (3, (.int .i64 x1)), (4, (.vsl 12 (bif (Hy a_tree i3) then x6.2 else l4).length)), (14, (.int .i64 (Jr a_tree))), (15, (.int .i64 (Bz (i3 + (1 : Int)))))], [(12, .arr 1 3 ((bif (Hy a_tree i3) then x6.2 else l4).length) (fun i => Ac ((bif (Hy a_tree i3) then x6.2 else l4).getD i (0 : Int))))], []⟩ hq ?_; obtain rfl := OI h; exact ⟨rfl, Le.refl _ _⟩
      · replace h := At hb h; clear hb; refine Bc ?_; refine A3 ?_; obtain rfl := OI h; exact ⟨(by intro hh; cases hh), rfl, E0 [] [] hq⟩
    · clear hx8; rcases x8 with _ | r10
      · rintro e st' ⟨rfl, hl9⟩; refine Az ?_; refine Aa ?_; refine Af hl9 ?_; refine As ⟨[(2, (.bool true))], [], []⟩ hq ?_; refine Ar ?_; obtain rfl := OI h; exact ⟨.inl rfl, [], by kernel_rfl⟩
      · rintro e st' ⟨rfl, hk⟩; refine Bs ?_; refine Ax ?_; obtain rfl := OI h; exact hk
def Ex (a_tree : List (Int)) (a_at : Int) : Option Bool :=
  ((Es a_tree a_at).bind fun x1 => (Ck ((x1 == true) = true → (A9 a_at a_tree.length)) (some (bif x1 then (((a_tree.getD (a_at).toNat (0 : Int)) : Int) != (-2 : Int)) else false))))
theorem Kt (a_tree : List (Int)) (a_at : Int) (r : Bool) (h : Ex a_tree a_at = some r) : Spec Try.prog 55 [(AV.list 1 Ac (0 : Int) a_tree .none), (.int .i64 a_at)] [] (.bool r) [] := by
  refine Ap (fn := Try.f55) Try.func55 rfl rfl (by kernel_rfl) (fun Γ hn hΓ => ?_); have hq : RgQ Try.prog Γ 15 [] := ⟨hn, mix, hΓ⟩; unfold Ex at h; refine As ⟨[(0, (AV.list 1 Ac (0 : Int) a_tree .none)), (1, (.int .i64 a_at))], [], []⟩ hq ?_; obtain ⟨x1, hx1, h⟩ := bind_some h; obtain ⟨hc2, h⟩ := Ab h; refine B9 [⟨[], [], (.bool x1), [], []⟩] [] ⟨[(4, (.bool (bif x1 then (((a_tree.getD (a_at).toNat (0 : Int)) : Int) != (-2 : Int)) else false)))], [], []⟩ [(Spec Try.prog 76 [(AV.list 1 Ac (0 : Int) a_tree .none), (.int .i64 a_at)] [] (.bool x1) []), ((x1 == true) = true → (x1 == true) = true), ((x1 == true) = true → (x1 == true) = true), ((x1 == true) = true → (A9 a_at a_tree.length)), ((x1 == true) = true → (x1 == true) = true), ((x1 == true) = true → (x1 == true) = true), (x1 = true → (x1 == true) = true)] hq ⟨(Lz a_tree a_at x1 hx1), (fun hg => hg), (fun hg => hg), (fun hg => (hc2 hg)), (fun hg => hg), (fun hg => hg), gT, trivial⟩ ?_; refine Ar ?_; obtain rfl := OI h; exact ⟨.inl rfl, [], by kernel_rfl⟩
def Q224 (x1 : Bool) (x2 : Bool) := ((bif x1 then x2 else false) == true)
def Ht (a_tree : List (Int)) (a_a : Int) (a_b : Int) : Option Bool :=
  ((Gw a_tree).bind fun x1 => ((bif (x1 == true) then Ex a_tree a_a else some false).bind fun x2 => ((bif ((bif x1 then x2 else false) == true) then Ex a_tree a_b else some false).bind fun x3 => (some (bif (bif x1 then x2 else false) then x3 else false)))))
theorem Vh (a_tree : List (Int)) (a_a : Int) (a_b : Int) (r : Bool) (h : Ht a_tree a_a a_b = some r) : Spec Try.prog 36 [(AV.list 1 Ac (0 : Int) a_tree .none), (.int .i64 a_a), (.int .i64 a_b)] [] (.bool r) [] := by
  refine Ap (fn := Try.f36) Try.func36 rfl rfl (by kernel_rfl) (fun Γ hn hΓ => ?_); have hq : RgQ Try.prog Γ 19 [] := ⟨hn, mix, hΓ⟩; unfold Ht at h; refine As ⟨[(0, (AV.list 1 Ac (0 : Int) a_tree .none)), (1, (.int .i64 a_a)), (2, (.int .i64 a_b))], [], []⟩ hq ?_; obtain ⟨x1, hx1, h⟩ := bind_some h; obtain ⟨x2, hx2, h⟩ := bind_some h; obtain ⟨x3, hx3, h⟩ := bind_some h; refine B9 [⟨[], [], (.bool x1), [], []⟩, ⟨[], [], (.bool x2), [], []⟩, ⟨[], [], (.bool x3), [], []⟩] [] ⟨[(6, (.bool (bif (bif x1 then x2 else false) then x3 else false)))], [], []⟩ [(Spec Try.prog 54 [(AV.list 1 Ac (0 : Int) a_tree .none)] [] (.bool x1) []), ((x1 == true) = true → (x1 == true) = true), ((x1 == true) = true → (x1 == true) = true), ((x1 == true) = true → (Spec Try.prog 55 [(AV.list 1 Ac (0 : Int) a_tree .none), (.int .i64 a_a)] [] (.bool x2) [])), (x1 = true → (x1 == true) = true), ((Q224 x1 x2) = true → (Q224 x1 x2) = true), ((Q224 x1 x2) = true → (Q224 x1 x2) = true), ((Q224 x1 x2) = true → (Spec Try.prog 55 [(AV.list 1 Ac (0 : Int) a_tree .none), (.int .i64 a_b)] [] (.bool x3) [])), ((bif x1 then x2 else false) = true → (Q224 x1 x2) = true)] hq ⟨(Tx a_tree x1 hx1), (fun hg => hg), (fun hg => hg), (fun hg => (Kt a_tree a_a x2 (Aq hg hx2))), gT, (fun hg => hg), (fun hg => hg), (fun hg => (Kt a_tree a_b x3 (Aq hg hx3))), gT, trivial⟩ ?_; refine Ar ?_; obtain rfl := OI h; exact ⟨.inl rfl, [], by kernel_rfl⟩
def C6 (a_tree : List (Int)) : (Int × List (Bool)) → Option (LR (Int × List (Bool)) (List (Bool))) :=
  fun ((i2, l3) : (Int × List (Bool))) => (bif ((i2 : Int) != (-1 : Int)) then (Ck (A9 i2 l3.length) (Ck (A9 i2 a_tree.length) (some (.next ((a_tree.getD (i2).toNat (0 : Int)), (l3.set (i2).toNat true)))))) else (some (.done l3)))
def C9 (a_tree : List (Int)) (l4 : List (Bool)) : Int → Option (LR Int Int) :=
  fun (i9 : Int) => (Ck (A9 i9 l4.length) (bif (!(l4.getD (i9).toNat false)) then (Ck (A9 i9 a_tree.length) (some (.next (a_tree.getD (i9).toNat (0 : Int))))) else (some (.done i9))))
def Nz (a_tree : List (Int)) : AV := (AV.list 1 Ac (0 : Int) a_tree .none)
def Zp (a_tree : List (Int)) := (List.replicate ((a_tree.length : Int)).toNat false)
def Q227 (x7 : List (Bool)) : List (Nat × Own) := [(11, .arr 1 4 x7.length (fun i => eB (x7.getD i false)))]
def Q228 (a_tree : List (Int)) (a_b : Int) (l3 : List (Bool)) (i2 : Int) : List (Nat × AV) := [(0, (Nz a_tree)), (2, (.int .i64 a_b)), (7, (.vsl 11 l3.length)), (8, (.int .i64 i2))]
def Fj (a_tree : List (Int)) (a_a : Int) (a_b : Int) : Option Int :=
  (Ck (0 ≤ (a_tree.length : Int) ∧ (a_tree.length : Int) ≤ (a_tree.length : Int) ∧ (a_tree.length : Int) ≤ (room : Int)) ((Ay (S := (Int × List (Bool))) (X := List (Bool)) (C6 a_tree) (a_a, (List.replicate ((a_tree.length : Int)).toNat false))).bind (fun x7 => (((Ay (S := Int) (X := Int) (C9 a_tree x7) a_b).bind (fun x13 => ((some x13))))))))
theorem W0 (a_tree : List (Int)) (a_a : Int) (a_b : Int) (r : Int) (h : Fj a_tree a_a a_b = some r) : Spec Try.prog 37 [(AV.list 1 Ac (0 : Int) a_tree .none), (.int .i64 a_a), (.int .i64 a_b)] [] (.int .i64 r) [] := by
  refine Ap (fn := Try.f37) Try.func37 rfl rfl (by kernel_rfl) (fun Γ hn hΓ => ?_); have hq : RgQ Try.prog Γ 32 [] := ⟨hn, mix, hΓ⟩; unfold Fj at h; refine As ⟨[(0, (Nz a_tree)), (1, (.int .i64 a_a)), (2, (.int .i64 a_b))], [], []⟩ hq ?_; obtain ⟨hc1, h⟩ := Ab h; refine B9 [] [] ⟨[(0, (Nz a_tree)), (1, (.int .i64 a_a)), (2, (.int .i64 a_b)), (7, (.vsl 11 ((a_tree.length : Int)).toNat))], [(11, .arr 1 4 (((a_tree.length : Int)).toNat) (fun i_ => AV.eraseAll (fun n_ => Cb n_ [11]) ((fun _ => [(.bool false)]) i_)))], []⟩ [(0 ≤ (a_tree.length : Int) ∧ (a_tree.length : Int) ≤ (a_tree.length : Int) ∧ (a_tree.length : Int) ≤ (room : Int))] hq ⟨hc1, trivial⟩ ?_; refine Af (Le.trans (Cr (st' := ⟨[(0, (Nz a_tree)), (1, (.int .i64 a_a)), (2, (.int .i64 a_b)), (7, (.vsl 11 ((a_tree.length : Int)).toNat))], [(11, .arr 1 4 (((a_tree.length : Int)).toNat) (fun i => eB ((Zp a_tree).getD i false)))], []⟩) (TmpsLe.refl _) (.arr (fun k hk => J7 (e := eB) (d := false) (.cons (AVle.refl _) .nil) _ k (Ke hk)) .nil)) (Bv (congrArg (fun k_ : Nat => (⟨[(0, (Nz a_tree)), (1, (.int .i64 a_a)), (2, (.int .i64 a_b)), (7, (.vsl 11 k_))], [(11, .arr 1 4 k_ (fun i => eB ((Zp a_tree).getD i false)))], []⟩ : St)) (show ((a_tree.length : Int)).toNat = (Zp a_tree).length from (List.length_replicate ..).symm)))) ?_; refine Ad ?_; refine As ⟨[(0, (Nz a_tree)), (2, (.int .i64 a_b)), (7, (.vsl 11 (Zp a_tree).length)), (8, (.int .i64 a_a))], [(11, .arr 1 4 ((Zp a_tree).length) (fun i => eB ((Zp a_tree).getD i false)))], []⟩ hq ?_; refine Ak ?_; refine Af (st' := (fun ((i2, l3) : (Int × List (Bool))) => (⟨(Q228 a_tree a_b l3 i2), [(11, .arr 1 4 l3.length (fun i => eB (l3.getD i false)))], []⟩ : St)) (a_a, (Zp a_tree))) (Le.refl _ _) ?_; obtain ⟨x7, hx7, h⟩ := bind_some h; refine Be (fun ((i2, l3) : (Int × List (Bool))) => (⟨(Q228 a_tree a_b l3 i2), [(11, .arr 1 4 l3.length (fun i => eB (l3.getD i false)))], []⟩ : St)) _ (fun (l4 : List (Bool)) (e : Exit) (st : St) => e = (.exit 0) ∧ Le Γ st (⟨[(0, (Nz a_tree)), (2, (.int .i64 a_b)), (7, (.vsl 11 l4.length))], [(11, .arr 1 4 l4.length (fun i => eB (l4.getD i false)))], []⟩ : St)) ?_ hx7 ?_
  · rintro ⟨i2, l3⟩ y h; unfold C6 at h; refine Ad ?_; refine As ⟨[(0, (Nz a_tree)), (2, (.int .i64 a_b)), (7, (.vsl 11 l3.length)), (8, (.int .i64 i2)), (14, (.bool ((i2 : Int) != (-1 : Int))))], [(11, .arr 1 4 l3.length (fun i => eB (l3.getD i false)))], []⟩ hq ?_; refine Ai ((i2 : Int) != (-1 : Int)) (by kernel_rfl) (fun hb => ?_) (fun hb => ?_)
    · replace h := Aq hb h; clear hb; refine Ah ?_; refine Aa ?_; refine Ad ?_; refine Ak ?_; obtain ⟨hc5, h⟩ := Ab h; refine rg [] [] ⟨(Q228 a_tree a_b l3 i2), [(11, .arr 1 4 l3.length (fun i_ => AV.eraseAll (fun n_ => Cb n_ [11]) ((E6 (fun i => eB (l3.getD i false)) (i2).toNat 0 [(.bool true)]) i_)))], []⟩ [(A9 i2 l3.length), (l3.length = l3.length)] hq ⟨hc5, rfl, trivial⟩ ?_; refine Am ?_; refine Aa ?_; refine Af (Le.trans (Cr (st' := ⟨(Q228 a_tree a_b l3 i2), [(11, .arr 1 4 l3.length (fun i => eB ((l3.set (i2).toNat true).getD i false)))], []⟩) (TmpsLe.refl _) (.arr (Br (List.length_set ..).symm (fun k_ hk_ => (congrArg (AV.eraseAll (fun n_ => Cb n_ [11])) ((Ft (fun _ _ => rfl) (Gd hc5) rfl) k_ hk_)).trans rfl)) .nil)) (Bv (congrArg (fun k_ : Nat => (⟨[(0, (Nz a_tree)), (2, (.int .i64 a_b)), (7, (.vsl 11 k_)), (8, (.int .i64 i2))], [(11, .arr 1 4 k_ (fun i => eB ((l3.set (i2).toNat true).getD i false)))], []⟩ : St)) (show l3.length = (l3.set (i2).toNat true).length from (List.length_set ..).symm)))) ?_; obtain ⟨hc6, h⟩ := Ab h; refine rg [] [] ⟨[(0, (Nz a_tree)), (2, (.int .i64 a_b)), (7, (.vsl 11 (l3.set (i2).toNat true).length)), (8, (.int .i64 (a_tree.getD (i2).toNat (0 : Int))))], [(11, .arr 1 4 ((l3.set (i2).toNat true).length) (fun i => eB ((l3.set (i2).toNat true).getD i false)))], []⟩ [(A9 i2 a_tree.length)] hq ⟨hc6, trivial⟩ ?_; obtain rfl := OI h; exact ⟨rfl, Le.refl _ _⟩
    · replace h := At hb h; clear hb; refine Bc ?_; refine A3 ?_; obtain rfl := OI h; exact ⟨(by intro hh; cases hh), rfl, E0 [0, 2, 7] [11] hq⟩
  · clear hx7; rintro e st' ⟨rfl, hl8⟩; refine Az ?_; refine Aa ?_; refine Af hl8 ?_; refine Ad ?_; refine Ak ?_; refine Af (st' := (fun (i9 : Int) => (⟨[(0, (Nz a_tree)), (2, (.int .i64 i9)), (7, (.vsl 11 x7.length))], (Q227 x7), []⟩ : St)) a_b) (Le.refl _ _) ?_; obtain ⟨x13, hx13, h⟩ := bind_some h; refine Be (fun (i9 : Int) => (⟨[(0, (Nz a_tree)), (2, (.int .i64 i9)), (7, (.vsl 11 x7.length))], (Q227 x7), []⟩ : St)) _ (fun (i10 : Int) (e : Exit) (st : St) => e = (.exit 2) ∧ Le Γ st (⟨[(2, (.int .i64 i10))], [], []⟩ : St)) ?_ hx13 ?_
    · intro i9 y h; unfold C9 at h; refine Ad ?_; obtain ⟨hc11, h⟩ := Ab h; refine B9 [] [] ⟨[(0, (Nz a_tree)), (2, (.int .i64 i9)), (7, (.vsl 11 x7.length)), (26, (.bool (!(x7.getD (i9).toNat false))))], (Q227 x7), []⟩ [(A9 i9 x7.length), (x7.length = x7.length)] hq ⟨hc11, rfl, trivial⟩ ?_; refine Ai (!(x7.getD (i9).toNat false)) (by kernel_rfl) (fun hb => ?_) (fun hb => ?_)
      · replace h := Aq hb h; clear hb; refine Ah ?_; refine Aa ?_; refine Ak ?_; obtain ⟨hc12, h⟩ := Ab h; refine rg [] [] ⟨[(0, (Nz a_tree)), (2, (.int .i64 (a_tree.getD (i9).toNat (0 : Int)))), (7, (.vsl 11 x7.length))], (Q227 x7), []⟩ [(A9 i9 a_tree.length)] hq ⟨hc12, trivial⟩ ?_; refine Am ?_; obtain rfl := OI h; exact ⟨rfl, Le.refl _ _⟩
      · replace h := At hb h; clear hb; refine Bc ?_; refine A3 ?_; obtain rfl := OI h; exact ⟨(by intro hh; cases hh), rfl, E0 [2] [] hq⟩
    · clear hx13; rintro e st' ⟨rfl, hl14⟩; refine Az ?_; refine Aa ?_; refine Af hl14 ?_; refine As ⟨[(6, (.int .i64 x13))], [], []⟩ hq ?_; refine Ar ?_; obtain rfl := OI h; exact ⟨.inl rfl, [], by kernel_rfl⟩
def Gi (a_tree : List (Int)) (a_a : Int) (a_b : Int) : Option Bool :=
  ((Ht a_tree a_a a_b).bind fun x1 => ((bif (x1 == true) then Fj a_tree a_a a_b else some (0 : Int)).bind fun x2 => (some (bif x1 then ((x2 : Int) == a_a) else false))))
theorem P0 (a_tree : List (Int)) (a_a : Int) (a_b : Int) (r : Bool) (h : Gi a_tree a_a a_b = some r) : Spec Try.prog 20 [(AV.list 1 Ac (0 : Int) a_tree .none), (.int .i64 a_a), (.int .i64 a_b)] [] (.bool r) [] := by
  refine Ap (fn := Try.f20) Try.func20 rfl rfl (by kernel_rfl) (fun Γ hn hΓ => ?_); have hq : RgQ Try.prog Γ 19 [] := ⟨hn, mix, hΓ⟩; unfold Gi at h; refine As ⟨[(0, (AV.list 1 Ac (0 : Int) a_tree .none)), (1, (.int .i64 a_a)), (2, (.int .i64 a_b))], [], []⟩ hq ?_; obtain ⟨x1, hx1, h⟩ := bind_some h; obtain ⟨x2, hx2, h⟩ := bind_some h; refine B9 [⟨[], [], (.bool x1), [], []⟩, ⟨[], [], (.int .i64 x2), [], []⟩] [] ⟨[(6, (.bool (bif x1 then ((x2 : Int) == a_a) else false)))], [], []⟩ [(Spec Try.prog 36 [(AV.list 1 Ac (0 : Int) a_tree .none), (.int .i64 a_a), (.int .i64 a_b)] [] (.bool x1) []), ((x1 == true) = true → (x1 == true) = true), ((x1 == true) = true → (x1 == true) = true), ((x1 == true) = true → (x1 == true) = true), ((x1 == true) = true → (Spec Try.prog 37 [(AV.list 1 Ac (0 : Int) a_tree .none), (.int .i64 a_a), (.int .i64 a_b)] [] (.int .i64 x2) [])), ((x1 == true) = true → (x1 == true) = true), ((x1 == true) = true → (x1 == true) = true), (x1 = true → (x1 == true) = true)] hq ⟨(Vh a_tree a_a a_b x1 hx1), (fun hg => hg), (fun hg => hg), (fun hg => hg), (fun hg => (W0 a_tree a_a a_b x2 (Aq hg hx2))), (fun hg => hg), (fun hg => hg), gT, trivial⟩ ?_; refine Ar ?_; obtain rfl := OI h; exact ⟨.inl rfl, [], by kernel_rfl⟩
def Ew (a_p : Int) (a_w0 : List (Bool)) : Option (Bool × List (Bool)) :=
  (Ck (A9 a_p a_w0.length) (some ((a_w0.getD (a_p).toNat false), a_w0)))
theorem N5 (a_p : Int) (a_w0 : List (Bool)) (r : (Bool × List (Bool))) (h : Ew a_p a_w0 = some r) : Spec Try.prog 27 [(.int .i64 a_p), (.ptr 30000 0)] [(30000, .row 40 [(AV.list 1 eB false a_w0 .none)])] (.bool r.1) [(30000, .row 40 [(AV.list 1 eB false r.2 .none)])] := by
  refine Ap (fn := Try.f27) Try.func27 rfl rfl (by kernel_rfl) (fun Γ hn hΓ => ?_); have hq : RgQ Try.prog Γ 8 [(30000, .row 40 [(AV.list 1 eB false a_w0 .none)])] := ⟨hn, mix, hΓ⟩; unfold Ew at h; refine As ⟨[(0, (.int .i64 a_p)), (1, (.ptr 30000 0))], [(30000, .row 40 [(AV.list 1 eB false a_w0 .none)])], []⟩ hq ?_; obtain ⟨hc1, h⟩ := Ab h; refine B9 [] [] ⟨[(3, (.bool (a_w0.getD (a_p).toNat false)))], [(30000, .row 40 [(AV.list 1 eB false a_w0 .none)])], []⟩ [(A9 a_p a_w0.length)] hq ⟨hc1, trivial⟩ ?_; refine Ar ?_; obtain rfl := OI h; exact ⟨.inl rfl, [(30000, 30000)], by kernel_rfl⟩
def Bk (a_s : List (Int)) : (Int × List (Bool)) → Option (LR (Int × List (Bool)) (List (Bool) ⊕ (Int × List (Bool)))) :=
  fun ((i1, l2) : (Int × List (Bool))) => (bif (decide ((i1 : Int) < (a_s.length : Int))) then (Ck (A9 i1 a_s.length) ((Ew (a_s.getD (i1).toNat (0 : Int)) l2).bind fun x5 => (bif x5.1 then (some (.done (.inr (i1, x5.2)))) else (some (.next ((Bz (i1 + (1 : Int))), x5.2)))))) else (some (.done (.inl l2))))
def Yo : AV := (.clo 27 [] [(.ptr 30000 0)])
def Q233 (a_s : List (Int)) : AV := (.int .i64 (a_s.length : Int))
def Yl (a_s : List (Int)) : AV := (AV.list 1 Ac (0 : Int) a_s .none)
def Q231 (l2 : List (Bool)) : List (Nat × Own) := [(30000, .row 40 [(AV.list 1 eB false l2 .none)])]
def Q230 (x5 : (Bool × List (Bool))) : List (Nat × Own) := [(30000, .row 40 [(AV.list 1 eB false x5.2 .none)])]
def Cu (a_s : List (Int)) (a_w0 : List (Bool)) : Option (Int × List (Bool)) :=
  ((Ay (S := (Int × List (Bool))) (X := (List (Bool) ⊕ (Int × List (Bool)))) (Bk a_s) ((0 : Int), a_w0)).bind (fun x6 => (match x6 with | (.inl l3) => (some ((-1 : Int), l3)) | (.inr r8) => (some r8))))
theorem H3 (a_s : List (Int)) (a_w0 : List (Bool)) (r : (Int × List (Bool))) (h : Cu a_s a_w0 = some r) : Spec Try.prog 46 [(AV.list 1 Ac (0 : Int) a_s .none), (.clo 27 [] [(.ptr 30000 0)])] [(30000, .row 40 [(AV.list 1 eB false a_w0 .none)])] (.int .i64 r.1) [(30000, .row 40 [(AV.list 1 eB false r.2 .none)])] := by
  refine Ap (fn := Try.f46) Try.func46 rfl rfl (by kernel_rfl) (fun Γ hn hΓ => ?_); have hq : RgQ Try.prog Γ 19 [(30000, .row 40 [(AV.list 1 eB false a_w0 .none)])] := ⟨hn, mix, hΓ⟩; unfold Cu at h; refine As ⟨[(0, (Yl a_s)), (1, Yo)], [(30000, .row 40 [(AV.list 1 eB false a_w0 .none)])], []⟩ hq ?_; refine Ad ?_; refine As ⟨[(0, (Yl a_s)), (1, Yo), (7, (Q233 a_s)), (8, (.int .i64 (0 : Int)))], [(30000, .row 40 [(AV.list 1 eB false a_w0 .none)])], []⟩ hq ?_; refine Ak ?_; refine Af (st' := (fun ((i1, l2) : (Int × List (Bool))) => (⟨[(0, (Yl a_s)), (1, Yo), (7, (Q233 a_s)), (8, (.int .i64 i1))], (Q231 l2), []⟩ : St)) ((0 : Int), a_w0)) (Le.refl _ _) ?_; obtain ⟨x6, hx6, h⟩ := bind_some h; refine Be (fun ((i1, l2) : (Int × List (Bool))) => (⟨[(0, (Yl a_s)), (1, Yo), (7, (Q233 a_s)), (8, (.int .i64 i1))], (Q231 l2), []⟩ : St)) _ (fun (x_ : (List (Bool) ⊕ (Int × List (Bool)))) (e : Exit) (st : St) => match x_ with | (.inl l3) => e = (.exit 0) ∧ Le Γ st (⟨[], [(30000, .row 40 [(AV.list 1 eB false l3 .none)])], []⟩ : St) | (.inr r_) => e = .ret ∧ J1 Try.prog Try.f46.results.toList [(30000, .row 40 [(AV.list 1 eB false a_w0 .none)])] (.int .i64 r_.1) [(30000, .row 40 [(AV.list 1 eB false r_.2 .none)])] e st) ?_ hx6 ?_
  · rintro ⟨i1, l2⟩ y h; unfold Bk at h; refine As ⟨[(0, (Yl a_s)), (1, Yo), (7, (Q233 a_s)), (8, (.int .i64 i1)), (9, (.bool (decide ((i1 : Int) < (a_s.length : Int)))))], (Q231 l2), []⟩ hq ?_; refine Ad ?_; refine Ai (decide ((i1 : Int) < (a_s.length : Int))) (by kernel_rfl) (fun hb => ?_) (fun hb => ?_)
    · replace h := Aq hb h; clear hb; refine Ah ?_; refine Aa ?_; refine Ad ?_; refine Ak ?_; refine As ⟨[(0, (Yl a_s)), (1, Yo), (5, (.int .i64 i1)), (7, (Q233 a_s)), (8, (.int .i64 i1))], (Q231 l2), []⟩ hq ?_; obtain ⟨hc4, h⟩ := Ab h; obtain ⟨x5, hx5, h⟩ := bind_some h; refine B9 [⟨[(30000, 30000)], [], (.bool x5.1), (Q230 x5), []⟩] [] ⟨[(0, (Yl a_s)), (1, Yo), (5, (.int .i64 i1)), (7, (Q233 a_s)), (8, (.int .i64 i1)), (16, (.bool x5.1))], (Q230 x5), []⟩ [(A9 i1 a_s.length), (Spec Try.prog 27 [(.int .i64 (a_s.getD (i1).toNat (0 : Int))), (.ptr 30000 0)] (Q231 l2) (.bool x5.1) (Q230 x5))] hq ⟨hc4, (N5 (a_s.getD (i1).toNat (0 : Int)) l2 x5 hx5), trivial⟩ ?_; refine Ai x5.1 (by kernel_rfl) (fun hb => ?_) (fun hb => ?_)
      · replace h := Aq hb h; clear hb; refine As ⟨[(4, (.int .i64 i1))], (Q230 x5), []⟩ hq ?_; refine Ar ?_; refine Bs ?_; refine Ax ?_; obtain rfl := OI h; exact ⟨(by intro hh; cases hh), rfl, ⟨.inl rfl, [(30000, 30000)], by kernel_rfl⟩⟩
      · replace h := At hb h; clear hb; refine Ah ?_; refine Am ?_; refine Aa ?_; refine My ⟨[(0, (Yl a_s)), (1, Yo), (7, (Q233 a_s)), (8, (.int .i64 (Bz (i1 + (1 : Int)))))], (Q230 x5), []⟩ hq ?_; obtain rfl := OI h; exact ⟨rfl, Le.refl _ _⟩
    · replace h := At hb h; clear hb; refine Bc ?_; refine A3 ?_; obtain rfl := OI h; exact ⟨(by intro hh; cases hh), rfl, E0 [] [30000] hq⟩
  · clear hx6; rcases x6 with l3 | r8
    · rintro e st' ⟨rfl, hl7⟩; refine Az ?_; refine Aa ?_; refine Af hl7 ?_; refine As ⟨[(4, (.int .i64 (-1 : Int)))], [(30000, .row 40 [(AV.list 1 eB false l3 .none)])], []⟩ hq ?_; refine Ar ?_; obtain rfl := OI h; exact ⟨.inl rfl, [(30000, 30000)], by kernel_rfl⟩
    · rintro e st' ⟨rfl, hk⟩; refine Bs ?_; refine Ax ?_; obtain rfl := OI h; exact hk
def Ci (a_s : List (Int)) (a_w0 : List (Bool)) : Option (Bool × List (Bool)) :=
  ((Cu a_s a_w0).bind fun x1 => (some ((decide (((0 : Int) : Int) ≤ x1.1)), x1.2)))
theorem Ha (a_s : List (Int)) (a_w0 : List (Bool)) (r : (Bool × List (Bool))) (h : Ci a_s a_w0 = some r) : Spec Try.prog 26 [(AV.list 1 Ac (0 : Int) a_s .none), (.clo 27 [] [(.ptr 30000 0)])] [(30000, .row 40 [(AV.list 1 eB false a_w0 .none)])] (.bool r.1) [(30000, .row 40 [(AV.list 1 eB false r.2 .none)])] := by
  refine Ap (fn := Try.f26) Try.func26 rfl rfl (by kernel_rfl) (fun Γ hn hΓ => ?_); have hq : RgQ Try.prog Γ 9 [(30000, .row 40 [(AV.list 1 eB false a_w0 .none)])] := ⟨hn, mix, hΓ⟩; unfold Ci at h; refine As ⟨[(0, (AV.list 1 Ac (0 : Int) a_s .none)), (1, (.clo 27 [] [(.ptr 30000 0)]))], [(30000, .row 40 [(AV.list 1 eB false a_w0 .none)])], []⟩ hq ?_; obtain ⟨x1, hx1, h⟩ := bind_some h; refine B9 [⟨[(30000, 30000)], [], (.int .i64 x1.1), [(30000, .row 40 [(AV.list 1 eB false x1.2 .none)])], []⟩] [] ⟨[(4, (.bool (decide (((0 : Int) : Int) ≤ x1.1))))], [(30000, .row 40 [(AV.list 1 eB false x1.2 .none)])], []⟩ [(Spec Try.prog 46 [(AV.list 1 Ac (0 : Int) a_s .none), (.clo 27 [] [(.ptr 30000 0)])] [(30000, .row 40 [(AV.list 1 eB false a_w0 .none)])] (.int .i64 x1.1) [(30000, .row 40 [(AV.list 1 eB false x1.2 .none)])])] hq ⟨(H3 a_s a_w0 x1 hx1), trivial⟩ ?_; refine Ar ?_; obtain rfl := OI h; exact ⟨.inl rfl, [(30000, 30000)], by kernel_rfl⟩
def C1 (a_p1 : Int) (x1 : List (Int)) : (Int × List (Bool)) → Option (LR (Int × List (Bool)) (List (Bool))) :=
  fun ((i4, l5) : (Int × List (Bool))) => (bif (decide ((i4 : Int) < ((List.replicate ((x1.length : Int)).toNat false).length : Int))) then ((Gi x1 a_p1 i4).bind fun x7 => (Ck (A9 i4 l5.length) (some (.next ((Bz (i4 + (1 : Int))), (l5.set (i4).toNat x7)))))) else (some (.done l5)))
def Co (a_g : Ag) (a_p1 : Int) : (List (Int) × Int × List (Bool)) → Option (LR (List (Int) × Int × List (Bool)) (List (Int))) :=
  fun ((l11, i12, l13) : (List (Int) × Int × List (Bool))) => (bif (decide ((i12 : Int) < (a_g.Pred.length : Int))) then (Option.bind (α := (List (Int) × List (Bool))) (Ck (A9 i12 a_g.Pred.length) (Ck ((((i12 : Int) == a_p1) == false) = true → (A9 i12 l13.length)) ((bif ((bif ((i12 : Int) == a_p1) then true else (!(l13.getD (i12).toNat false))) == true) then Ci (a_g.Pred.getD (i12).toNat []) l13 else some (false, [])).bind fun x19 => (bif (bif (bif ((i12 : Int) == a_p1) then true else (!(l13.getD (i12).toNat false))) then x19.1 else false) then (Ck (l11.length + ([i12] : List (Int)).length ≤ room) (some (((l11 ++ ([i12] : List (Int))), (bif ((bif ((i12 : Int) == a_p1) then true else (!(l13.getD (i12).toNat false))) == true) then x19.2 else l13))))) else (some ((l11, (bif ((bif ((i12 : Int) == a_p1) then true else (!(l13.getD (i12).toNat false))) == true) then x19.2 else l13)))))))) (fun x21 => (match x21 with | (l15, l16) => (some (.next (l15, (Bz (i12 + (1 : Int))), l16)))))) else (some (.done l11)))
def Hk (a_p1 : Int) : AV := (.int .i64 a_p1)
def Qm (i12 : Int) := ([i12] : List (Int))
def T4 (i12 : Int) (a_p1 : Int) := (((i12 : Int) == a_p1) == false)
def Qk (a_g : Ag) : AV := (.int .i64 (a_g.Pred.length : Int))
def Pb (a_g : Ag) : AV := (AV.list 1 eLI64 [] a_g.Pred .none)
def Xt (x1 : List (Int)) : AV := (AV.list 1 Ac (0 : Int) x1 (.own 13))
def Zz (l11 : List (Int)) : AV := (AV.list 1 Ac (0 : Int) l11 (.own 5008))
def Qj (x1 : List (Int)) := (List.replicate ((x1.length : Int)).toNat false)
def Tv : AV := (AV.list 1 Ac (0 : Int) ([] : List Int) .exact)
def N2 (a_g : Ag) : List AV := [(AV.list 1 eLI64 [] a_g.Succ .none), (Pb a_g)]
def Nj (i12 : Int) (a_p1 : Int) (l13 : List (Bool)) := (bif ((i12 : Int) == a_p1) then true else (!(l13.getD (i12).toNat false)))
def Q239 (l13 : List (Bool)) (l11 : List (Int)) : List (Nat × Own) := [(6, .row 40 [(AV.list 1 eB false l13 .none)]), (5008, .tok 1 3 l11.length)]
def Q243 (x1 : List (Int)) := (fun i => eB ((Qj x1).getD i false))
def Q242 (a_p1 : Int) (x1 : List (Int)) : List (Nat × AV) := [(1, (Hk a_p1)), (2, (.ptr 2 0)), (5, (Xt x1)), (6, (.ptr 6 0))]
def Q251 (a_p1 : Int) (a_g : Ag) : List (Nat × AV) := [(1, (Hk a_p1)), (6, (.ptr 6 0)), (8, Tv), (36, (Pb a_g)), (37, (Qk a_g)), (38, (.int .i64 (0 : Int)))]
def Q245 := (⟨[(4, (AV.list 1 Ac (0 : Int) ([] : List Int) (.own 6004)))], [(6004, .tok 1 3 (([] : List Int).length))], []⟩ : St)
def Q246 (a_g : Ag) (l5 : List (Bool)) (x1 : List (Int)) : List (Nat × Own) := [(2, .row 26 (N2 a_g)), (6, .row 40 [(.vsl 21 l5.length)]), (13, .tok 1 3 x1.length), (21, .arr 1 4 l5.length (fun i => eB (l5.getD i false)))]
def Q236 (a_p1 : Int) (x1 : List (Int)) (i4 : Int) : List (Nat × AV) := [(1, (Hk a_p1)), (2, (.ptr 2 0)), (5, (Xt x1)), (6, (.ptr 6 0)), (23, (.int .i64 ((Qj x1).length : Int))), (24, (.int .i64 i4))]
def Ey (a_g : Ag) (a_p1 : Int) : Option (List (Int)) :=
  ((Fm a_g (0 : Int)).bind fun x1 => ((Gi x1 a_p1 a_p1).bind fun x2 => (bif (!x2) then (some ([] : List Int)) else (Ck (0 ≤ (x1.length : Int) ∧ (x1.length : Int) ≤ (x1.length : Int) ∧ (x1.length : Int) ≤ (room : Int)) ((Ay (S := (Int × List (Bool))) (X := List (Bool)) (C1 a_p1 x1) ((0 : Int), (List.replicate ((x1.length : Int)).toNat false))).bind (fun x9 => (((Ay (S := (List (Int) × Int × List (Bool))) (X := List (Int)) (Co a_g a_p1) (([] : List Int), (0 : Int), x9)).bind (fun x23 => ((some x23)))))))))))
theorem Qn (a_g : Ag) (a_p1 : Int) (r : List (Int)) (h : Ey a_g a_p1 = some r) : Spec Try.prog 13 [(.agg (A4 a_g)), (.int .i64 a_p1)] [] (AV.list 1 Ac (0 : Int) r (.own 20000)) [(20000, .tok 1 3 r.length)] := by
  refine Ap (fn := Try.f13) Try.func13 rfl rfl (by kernel_rfl) (fun Γ hn hΓ => ?_); have hq : RgQ Try.prog Γ 65 [] := ⟨hn, mix, hΓ⟩; unfold Ey at h; refine B9 [] [(4, Tv)] ⟨[(1, (Hk a_p1)), (2, (.ptr 2 0))], [(2, .row 26 (N2 a_g))], []⟩ [(AVle (.slice 0 0 (fun _ => []) .exact) Tv)] hq ⟨Dg, trivial⟩ ?_; obtain ⟨x1, hx1, h⟩ := bind_some h; refine B9 [⟨[], [(20000, 13)], (AV.list 1 Ac (0 : Int) x1 (.own 20000)), [(20000, .tok 1 3 x1.length)], []⟩] [] ⟨[(1, (Hk a_p1)), (2, (.ptr 2 0)), (5, (Xt x1))], [(2, .row 26 (N2 a_g)), (13, .tok 1 3 x1.length)], []⟩ [(Spec Try.prog 19 [(.agg (A4 a_g)), (.int .i64 (0 : Int))] [] (AV.list 1 Ac (0 : Int) x1 (.own 20000)) [(20000, .tok 1 3 x1.length)])] hq ⟨(Qb a_g (0 : Int) x1 hx1), trivial⟩ ?_; refine Ad ?_; obtain ⟨x2, hx2, h⟩ := bind_some h; refine B9 [⟨[], [], (.bool x2), [], []⟩] [] ⟨[(1, (Hk a_p1)), (2, (.ptr 2 0)), (5, (Xt x1)), (18, (.bool (!x2)))], [(2, .row 26 (N2 a_g)), (13, .tok 1 3 x1.length)], []⟩ [(Spec Try.prog 20 [(AV.list 1 Ac (0 : Int) x1 .none), (Hk a_p1), (Hk a_p1)] [] (.bool x2) [])] hq ⟨(P0 x1 a_p1 a_p1 x2 hx2), trivial⟩ ?_; refine Ai (!x2) (by kernel_rfl) (fun hb => ?_) (fun hb => ?_)
  · replace h := Aq hb h; clear hb; refine B9 [] [(4, Tv)] ⟨[(4, Tv)], [], []⟩ [(AVle (.slice 0 0 (fun _ => []) .exact) Tv)] hq ⟨Dg, trivial⟩ ?_; refine Af (st' := Q245) (Le.trans (E0 (st' := ⟨[(4, Tv)], [], []⟩) [4] [] hq) (Le.trans (K6 (t := 4) (nm := 6004) (sz' := 1) (fun i => Ac (([] : List Int).getD i (0 : Int))) 3 rfl rfl (.inl ⟨rfl, rfl⟩) (fun h_ => absurd h_ (by decide))) (E0 (st' := Q245) [4] [6004] hq))) ?_; refine Ar ?_; refine Ax ?_; obtain rfl := OI h; exact ⟨.inl rfl, [(6004, 20000)], by kernel_rfl⟩
  · replace h := At hb h; clear hb; refine Ah ?_; refine Aa ?_; obtain ⟨hc3, h⟩ := Ab h; refine B9 [] [] ⟨(Q242 a_p1 x1), [(2, .row 26 (N2 a_g)), (6, .row 40 [(.vsl 21 ((x1.length : Int)).toNat)]), (13, .tok 1 3 x1.length), (21, .arr 1 4 (((x1.length : Int)).toNat) (fun i_ => AV.eraseAll (fun n_ => Cb n_ [2, 6, 13, 21]) ((fun _ => [(.bool false)]) i_)))], []⟩ [(0 ≤ (x1.length : Int) ∧ (x1.length : Int) ≤ (x1.length : Int) ∧ (x1.length : Int) ≤ (room : Int))] hq ⟨hc3, trivial⟩ ?_; refine Af (Le.trans (Cr (st' := ⟨(Q242 a_p1 x1), [(2, .row 26 (N2 a_g)), (6, .row 40 [(.vsl 21 ((x1.length : Int)).toNat)]), (13, .tok 1 3 x1.length), (21, .arr 1 4 (((x1.length : Int)).toNat) (Q243 x1))], []⟩) (TmpsLe.refl _) (.same (.same (.same (.arr (fun k hk => J7 (e := eB) (d := false) (.cons (AVle.refl _) .nil) _ k (Ke hk)) .nil))))) (Bv (congrArg (fun k_ : Nat => (⟨(Q242 a_p1 x1), [(2, .row 26 (N2 a_g)), (6, .row 40 [(.vsl 21 k_)]), (13, .tok 1 3 x1.length), (21, .arr 1 4 k_ (Q243 x1))], []⟩ : St)) (show ((x1.length : Int)).toNat = (Qj x1).length from (List.length_replicate ..).symm)))) ?_; refine Ad ?_; refine As ⟨[(1, (Hk a_p1)), (2, (.ptr 2 0)), (5, (Xt x1)), (6, (.ptr 6 0)), (23, (.int .i64 ((Qj x1).length : Int))), (24, (.int .i64 (0 : Int)))], [(2, .row 26 (N2 a_g)), (6, .row 40 [(.vsl 21 (Qj x1).length)]), (13, .tok 1 3 x1.length), (21, .arr 1 4 ((Qj x1).length) (Q243 x1))], []⟩ hq ?_; refine Ak ?_; refine Af (st' := (fun ((i4, l5) : (Int × List (Bool))) => (⟨(Q236 a_p1 x1 i4), (Q246 a_g l5 x1), []⟩ : St)) ((0 : Int), (Qj x1))) (Le.refl _ _) ?_; obtain ⟨x9, hx9, h⟩ := bind_some h; refine Be (fun ((i4, l5) : (Int × List (Bool))) => (⟨(Q236 a_p1 x1 i4), (Q246 a_g l5 x1), []⟩ : St)) _ (fun (l6 : List (Bool)) (e : Exit) (st : St) => e = (.exit 0) ∧ Le Γ st (⟨[(1, (Hk a_p1)), (2, (.ptr 2 0)), (6, (.ptr 6 0))], [(2, .row 26 (N2 a_g)), (6, .row 40 [(.vsl 21 l6.length)]), (21, .arr 1 4 l6.length (fun i => eB (l6.getD i false)))], []⟩ : St)) ?_ hx9 ?_
    · rintro ⟨i4, l5⟩ y h; unfold C1 at h; refine As ⟨[(1, (Hk a_p1)), (2, (.ptr 2 0)), (5, (Xt x1)), (6, (.ptr 6 0)), (23, (.int .i64 ((Qj x1).length : Int))), (24, (.int .i64 i4)), (25, (.bool (decide ((i4 : Int) < ((Qj x1).length : Int)))))], (Q246 a_g l5 x1), []⟩ hq ?_; refine Ad ?_; refine Ai (decide ((i4 : Int) < ((Qj x1).length : Int))) (by kernel_rfl) (fun hb => ?_) (fun hb => ?_)
      · replace h := Aq hb h; clear hb; refine Ah ?_; refine Aa ?_; refine Ad ?_; refine Ak ?_; refine As ⟨[(1, (Hk a_p1)), (2, (.ptr 2 0)), (5, (Xt x1)), (6, (.ptr 6 0)), (7, (.int .i64 i4)), (23, (.int .i64 ((Qj x1).length : Int))), (24, (.int .i64 i4))], (Q246 a_g l5 x1), []⟩ hq ?_; obtain ⟨x7, hx7, h⟩ := bind_some h; obtain ⟨hc8, h⟩ := Ab h; refine rg [⟨[], [], (.bool x7), [], []⟩] [] ⟨(Q236 a_p1 x1 i4), [(2, .row 26 (N2 a_g)), (6, .row 40 [(.vsl 21 l5.length)]), (13, .tok 1 3 x1.length), (21, .arr 1 4 l5.length (fun i_ => AV.eraseAll (fun n_ => Cb n_ [2, 6, 13, 21]) ((E6 (fun i => eB (l5.getD i false)) (i4).toNat 0 [(.bool x7)]) i_)))], []⟩ [(Spec Try.prog 20 [(AV.list 1 Ac (0 : Int) x1 .none), (Hk a_p1), (.int .i64 i4)] [] (.bool x7) []), (A9 i4 l5.length), (l5.length = l5.length)] hq ⟨(P0 x1 a_p1 i4 x7 hx7), hc8, rfl, trivial⟩ ?_; refine Am ?_; refine Aa ?_; refine Af (Le.trans (Cr (st' := ⟨(Q236 a_p1 x1 i4), [(2, .row 26 (N2 a_g)), (6, .row 40 [(.vsl 21 l5.length)]), (13, .tok 1 3 x1.length), (21, .arr 1 4 l5.length (fun i => eB ((l5.set (i4).toNat x7).getD i false)))], []⟩) (TmpsLe.refl _) (.same (.same (.same (.arr (Br (List.length_set ..).symm (fun k_ hk_ => (congrArg (AV.eraseAll (fun n_ => Cb n_ [2, 6, 13, 21])) ((Ft (fun _ _ => rfl) (Gd hc8) rfl) k_ hk_)).trans rfl)) .nil))))) (Bv (congrArg (fun k_ : Nat => (⟨(Q236 a_p1 x1 i4), [(2, .row 26 (N2 a_g)), (6, .row 40 [(.vsl 21 k_)]), (13, .tok 1 3 x1.length), (21, .arr 1 4 k_ (fun i => eB ((l5.set (i4).toNat x7).getD i false)))], []⟩ : St)) (show l5.length = (l5.set (i4).toNat x7).length from (List.length_set ..).symm)))) ?_; refine My ⟨[(1, (Hk a_p1)), (2, (.ptr 2 0)), (5, (Xt x1)), (6, (.ptr 6 0)), (23, (.int .i64 ((Qj x1).length : Int))), (24, (.int .i64 (Bz (i4 + (1 : Int)))))], [(2, .row 26 (N2 a_g)), (6, .row 40 [(.vsl 21 (l5.set (i4).toNat x7).length)]), (13, .tok 1 3 x1.length), (21, .arr 1 4 ((l5.set (i4).toNat x7).length) (fun i => eB ((l5.set (i4).toNat x7).getD i false)))], []⟩ hq ?_; obtain rfl := OI h; exact ⟨rfl, Le.refl _ _⟩
      · replace h := At hb h; clear hb; refine Bc ?_; refine A3 ?_; obtain rfl := OI h; exact ⟨(by intro hh; cases hh), rfl, E0 [1, 2, 6] [2, 6, 21] hq⟩
    · clear hx9; rintro e st' ⟨rfl, hl10⟩; refine Az ?_; refine Aa ?_; refine Af hl10 ?_; refine B9 [] [(8, Tv)] ⟨[(1, (Hk a_p1)), (2, (.ptr 2 0)), (6, (.ptr 6 0)), (8, Tv)], [(2, .row 26 (N2 a_g)), (6, .row 40 [(.vsl 21 x9.length)]), (21, .arr 1 4 x9.length (fun i => eB (x9.getD i false)))], []⟩ [(AVle (.slice 0 0 (fun _ => []) .exact) Tv)] hq ⟨Dg, trivial⟩ ?_; refine Ad ?_; refine As ⟨(Q251 a_p1 a_g), [(6, .row 40 [(.vsl 21 x9.length)]), (21, .arr 1 4 x9.length (fun i => eB (x9.getD i false)))], []⟩ hq ?_; refine Ak ?_; refine Af (Le.trans (Eh (nm := 21) (sz := 1) (n := x9.length) (e := 4) (f := (fun i => eB (x9.getD i false))) (g := (fun i => eB (x9.getD i false))) rfl ⟨rfl, trivial⟩ (fun _ _ => rfl) (by rw [hΓ]; rfl)) (Bv (st' := ⟨(Q251 a_p1 a_g), [(6, .row 40 [(AV.list 1 eB false x9 (.own 21))]), (21, .tok 1 4 x9.length)], []⟩) (by kernel_rfl))) ?_; refine Af (st' := (fun ((l11, i12, l13) : (List (Int) × Int × List (Bool))) => (⟨[(1, (Hk a_p1)), (6, (.ptr 6 0)), (8, (Zz l11)), (36, (Pb a_g)), (37, (Qk a_g)), (38, (.int .i64 i12))], (Q239 l13 l11), []⟩ : St)) (([] : List Int), (0 : Int), x9)) (Le.trans (E0 (st' := ⟨(Q251 a_p1 a_g), [(6, .row 40 [(AV.list 1 eB false x9 .none)])], []⟩) [1, 6, 8, 36, 37, 38] [6] hq) (Le.trans (K6 (t := 8) (nm := 5008) (sz' := 1) (fun i => Ac (([] : List Int).getD i (0 : Int))) 3 rfl rfl (.inl ⟨rfl, rfl⟩) (fun h_ => absurd h_ (by decide))) (E0 (st' := ⟨[(1, (Hk a_p1)), (6, (.ptr 6 0)), (8, (AV.list 1 Ac (0 : Int) ([] : List Int) (.own 5008))), (36, (Pb a_g)), (37, (Qk a_g)), (38, (.int .i64 (0 : Int)))], [(6, .row 40 [(AV.list 1 eB false x9 .none)]), (5008, .tok 1 3 (([] : List Int).length))], []⟩) [1, 6, 8, 36, 37, 38] [6, 5008] hq))) ?_; obtain ⟨x23, hx23, h⟩ := bind_some h; refine Be (fun ((l11, i12, l13) : (List (Int) × Int × List (Bool))) => (⟨[(1, (Hk a_p1)), (6, (.ptr 6 0)), (8, (Zz l11)), (36, (Pb a_g)), (37, (Qk a_g)), (38, (.int .i64 i12))], (Q239 l13 l11), []⟩ : St)) _ (fun (l14 : List (Int)) (e : Exit) (st : St) => e = (.exit 2) ∧ Le Γ st (⟨[(8, (AV.list 1 Ac (0 : Int) l14 (.own 5008)))], [(5008, .tok 1 3 l14.length)], []⟩ : St)) ?_ hx23 ?_
      · rintro ⟨l11, i12, l13⟩ y h; unfold Co at h; refine As ⟨[(1, (Hk a_p1)), (6, (.ptr 6 0)), (8, (Zz l11)), (36, (Pb a_g)), (37, (Qk a_g)), (38, (.int .i64 i12)), (39, (.bool (decide ((i12 : Int) < (a_g.Pred.length : Int)))))], (Q239 l13 l11), []⟩ hq ?_; refine Ad ?_; refine Ai (decide ((i12 : Int) < (a_g.Pred.length : Int))) (by kernel_rfl) (fun hb => ?_) (fun hb => ?_)
        · replace h := Aq hb h; clear hb; refine Ah ?_; refine Aa ?_; refine Ad ?_; obtain ⟨x21, hx21, h⟩ := bind_some h; refine Fo (fun ((l15, l16) : (List (Int) × List (Bool))) (e : Exit) (st : St) => e = .normal ∧ Le Γ st (⟨[(1, (Hk a_p1)), (6, (.ptr 6 0)), (8, (AV.list 1 Ac (0 : Int) l15 (.own 5008))), (36, (Pb a_g)), (37, (Qk a_g)), (38, (.int .i64 i12))], [(6, .row 40 [(AV.list 1 eB false l16 .none)]), (5008, .tok 1 3 l15.length)], []⟩ : St)) hx21 ?_ ?_
          · clear h hx21; intro y h; refine Ak ?_; obtain ⟨hc17, h⟩ := Ab h; refine B9 [] [] ⟨[(1, (Hk a_p1)), (6, (.ptr 6 0)), (8, (Zz l11)), (9, (.int .i64 i12)), (10, (AV.list 1 Ac (0 : Int) (a_g.Pred.getD (i12).toNat []) .none)), (36, (Pb a_g)), (37, (Qk a_g)), (38, (.int .i64 i12))], (Q239 l13 l11), []⟩ [(A9 i12 a_g.Pred.length)] hq ⟨hc17, trivial⟩ ?_; obtain ⟨hc18, h⟩ := Ab h; refine B9 [] [] ⟨[(1, (Hk a_p1)), (6, (.ptr 6 0)), (8, (Zz l11)), (9, (.int .i64 i12)), (10, (AV.list 1 Ac (0 : Int) (a_g.Pred.getD (i12).toNat []) .none)), (11, (.bool (Nj i12 a_p1 l13))), (36, (Pb a_g)), (37, (Qk a_g)), (38, (.int .i64 i12))], (Q239 l13 l11), []⟩ [((T4 i12 a_p1) = true → (T4 i12 a_p1) = true), ((T4 i12 a_p1) = true → (T4 i12 a_p1) = true), ((T4 i12 a_p1) = true → (A9 i12 l13.length)), ((T4 i12 a_p1) = true → (T4 i12 a_p1) = true), ((T4 i12 a_p1) = true → (T4 i12 a_p1) = true), (((i12 : Int) == a_p1) = false → (T4 i12 a_p1) = true)] hq ⟨(fun hg => hg), (fun hg => hg), (fun hg => (hc18 hg)), (fun hg => hg), (fun hg => hg), gF, trivial⟩ ?_; obtain ⟨x19, hx19, h⟩ := bind_some h; refine B9 [⟨[(6, 30000)], [], (.bool x19.1), [(30000, .row 40 [(AV.list 1 eB false x19.2 .none)])], []⟩] [] ⟨[(1, (Hk a_p1)), (6, (.ptr 6 0)), (8, (Zz l11)), (9, (.int .i64 i12)), (36, (Pb a_g)), (37, (Qk a_g)), (38, (.int .i64 i12)), (58, (.bool (bif (Nj i12 a_p1 l13) then x19.1 else false)))], [(6, .row 40 [(.slice 1 (bif ((Nj i12 a_p1 l13) == true) then x19.2.length else l13.length) (fun i => bif ((Nj i12 a_p1 l13) == true) then eB (x19.2.getD i false) else eB (l13.getD i false)) .none)]), (5008, .tok 1 3 l11.length)], []⟩ [(((Nj i12 a_p1 l13) == true) = true → ((Nj i12 a_p1 l13) == true) = true), (((Nj i12 a_p1 l13) == true) = true → ((Nj i12 a_p1 l13) == true) = true), (((Nj i12 a_p1 l13) == true) = true → (Spec Try.prog 26 [(AV.list 1 Ac (0 : Int) (a_g.Pred.getD (i12).toNat []) .none), (.clo 27 [] [(.ptr 30000 0)])] [(30000, .row 40 [(AV.list 1 eB false l13 .none)])] (.bool x19.1) [(30000, .row 40 [(AV.list 1 eB false x19.2 .none)])])), ((Nj i12 a_p1 l13) = true → ((Nj i12 a_p1 l13) == true) = true)] hq ⟨(fun hg => hg), (fun hg => hg), (fun hg => (Ha (a_g.Pred.getD (i12).toNat []) l13 x19 (Aq hg hx19))), gT, trivial⟩ ?_; refine Af (Cr (st' := ⟨[(1, (Hk a_p1)), (6, (.ptr 6 0)), (8, (Zz l11)), (9, (.int .i64 i12)), (36, (Pb a_g)), (37, (Qk a_g)), (38, (.int .i64 i12)), (58, (.bool (bif (Nj i12 a_p1 l13) then x19.1 else false)))], [(6, .row 40 [(AV.list 1 eB false (bif ((Nj i12 a_p1 l13) == true) then x19.2 else l13) .none)]), (5008, .tok 1 3 l11.length)], []⟩) (TmpsLe.refl _) (.row (.cons Ya .nil) (.same .nil))) ?_; refine Ai (bif (Nj i12 a_p1 l13) then x19.1 else false) (by kernel_rfl) (fun hb => ?_) (fun hb => ?_)
            · replace h := Aq hb h; clear hb; obtain ⟨hc20, h⟩ := Ab h; refine rg [] [(61, (AV.list 1 Ac (0 : Int) (Qm i12) .exact)), (62, (AV.list 1 Ac (0 : Int) (l11 ++ (Qm i12)) (.own 5008)))] ⟨[(1, (Hk a_p1)), (6, (.ptr 6 0)), (8, (AV.list 1 Ac (0 : Int) (l11 ++ (Qm i12)) (.own 5008))), (36, (Pb a_g)), (37, (Qk a_g)), (38, (.int .i64 i12))], [(6, .row 40 [(AV.list 1 eB false (bif ((Nj i12 a_p1 l13) == true) then x19.2 else l13) .none)]), (5008, .tok 1 3 ((l11 ++ (Qm i12)).length))], []⟩ [(AVle (.slice 1 1 (fun i => ([[(.int .i64 i12)]] : List (List AV)).getD i []) .exact) (AV.list 1 Ac (0 : Int) (Qm i12) .exact)), (l11.length = l11.length), (l11.length + (Qm i12).length ≤ room), (AVle (.slice 1 (l11.length + (Qm i12).length) (E7 l11.length (fun i => Ac (l11.getD i (0 : Int))) (fun i => Ac ((Qm i12).getD i (0 : Int)))) (.own 5008)) (AV.list 1 Ac (0 : Int) (l11 ++ (Qm i12)) (.own 5008))), (l11.length + (Qm i12).length = (l11 ++ (Qm i12)).length)] hq ⟨(E8 rfl (fun i hi => Eb (e := Ac) (d := (0 : Int)) (Qm i12) i hi)), rfl, hc20, Pk, (Ec _ _), trivial⟩ ?_; refine Am ?_; obtain rfl := OI h; exact ⟨rfl, Le.refl _ _⟩
            · replace h := At hb h; clear hb; refine Ah ?_; refine Am ?_; obtain rfl := OI h; exact ⟨rfl, E0 [1, 6, 8, 36, 37, 38] [6, 5008] hq⟩
          · clear hx21; rcases x21 with ⟨l15, l16⟩; rintro e st' ⟨rfl, hl22⟩; refine Aa ?_; refine Af hl22 ?_; refine My ⟨[(1, (Hk a_p1)), (6, (.ptr 6 0)), (8, (AV.list 1 Ac (0 : Int) l15 (.own 5008))), (36, (Pb a_g)), (37, (Qk a_g)), (38, (.int .i64 (Bz (i12 + (1 : Int)))))], [(6, .row 40 [(AV.list 1 eB false l16 .none)]), (5008, .tok 1 3 l15.length)], []⟩ hq ?_; obtain rfl := OI h; exact ⟨rfl, Le.refl _ _⟩
        · replace h := At hb h; clear hb; refine Bc ?_; refine A3 ?_; obtain rfl := OI h; exact ⟨(by intro hh; cases hh), rfl, E0 [8] [5008] hq⟩
      · clear hx23; rintro e st' ⟨rfl, hl24⟩; refine Az ?_; refine Aa ?_; refine Af hl24 ?_; refine As ⟨[(4, (AV.list 1 Ac (0 : Int) x23 (.own 5008)))], [(5008, .tok 1 3 x23.length)], []⟩ hq ?_; refine Ar ?_; obtain rfl := OI h; exact ⟨.inl rfl, [(5008, 20000)], by kernel_rfl⟩
def Bh (a_a : List (Int)) (a_b : List (Int)) : Int → Option (LR Int (Unit ⊕ Bool)) :=
  fun (i1 : Int) => (bif (decide ((i1 : Int) < (a_a.length : Int))) then (Ck (A9 i1 a_a.length) (Ck (A9 i1 a_b.length) (bif (((a_a.getD (i1).toNat (0 : Int)) : Int) != (a_b.getD (i1).toNat (0 : Int))) then (some (.done (.inr false))) else (some (.next (Bz (i1 + (1 : Int)))))))) else (some (.done (.inl ()))))
def Yn (a_a : List (Int)) : AV := (AV.list 1 Ac (0 : Int) a_a .none)
def Xd (a_b : List (Int)) : AV := (AV.list 1 Ac (0 : Int) a_b .none)
def Ch (a_a : List (Int)) (a_b : List (Int)) : Option Bool :=
  (bif (((a_a.length : Int) : Int) != (a_b.length : Int)) then (some false) else ((Ay (S := Int) (X := (Unit ⊕ Bool)) (Bh a_a a_b) (0 : Int)).bind (fun x4 => (match x4 with | (.inl _) => (some true) | (.inr r6) => (some r6)))))
theorem K0 (a_a : List (Int)) (a_b : List (Int)) (r : Bool) (h : Ch a_a a_b = some r) : Spec Try.prog 12 [(AV.list 1 Ac (0 : Int) a_a .none), (AV.list 1 Ac (0 : Int) a_b .none)] [] (.bool r) [] := by
  refine Ap (fn := Try.f12) Try.func12 rfl rfl (by kernel_rfl) (fun Γ hn hΓ => ?_); have hq : RgQ Try.prog Γ 26 [] := ⟨hn, mix, hΓ⟩; unfold Ch at h; refine As ⟨[(0, (Yn a_a)), (1, (Xd a_b))], [], []⟩ hq ?_; refine Ad ?_; refine As ⟨[(0, (Yn a_a)), (1, (Xd a_b)), (10, (.bool (((a_a.length : Int) : Int) != (a_b.length : Int))))], [], []⟩ hq ?_; refine Ai (((a_a.length : Int) : Int) != (a_b.length : Int)) (by kernel_rfl) (fun hb => ?_) (fun hb => ?_)
  · replace h := Aq hb h; clear hb; refine As ⟨[(4, (.bool false))], [], []⟩ hq ?_; refine Ar ?_; refine Ax ?_; obtain rfl := OI h; exact ⟨.inl rfl, [], by kernel_rfl⟩
  · replace h := At hb h; clear hb; refine Ah ?_; refine Aa ?_; refine Ad ?_; refine As ⟨[(0, (Yn a_a)), (1, (Xd a_b)), (5, (.int .i64 (0 : Int)))], [], []⟩ hq ?_; refine Ak ?_; refine Af (st' := (fun (i1 : Int) => (⟨[(0, (Yn a_a)), (1, (Xd a_b)), (5, (.int .i64 i1))], [], []⟩ : St)) (0 : Int)) (Le.refl _ _) ?_; obtain ⟨x4, hx4, h⟩ := bind_some h; refine Be (fun (i1 : Int) => (⟨[(0, (Yn a_a)), (1, (Xd a_b)), (5, (.int .i64 i1))], [], []⟩ : St)) _ (fun (x_ : (Unit ⊕ Bool)) (e : Exit) (st : St) => match x_ with | (.inl _) => e = (.exit 0) ∧ Le Γ st (⟨[], [], []⟩ : St) | (.inr r_) => e = .ret ∧ J1 Try.prog Try.f12.results.toList [] (.bool r_) [] e st) ?_ hx4 ?_
    · intro i1 y h; unfold Bh at h; refine Ad ?_; refine As ⟨[(0, (Yn a_a)), (1, (Xd a_b)), (5, (.int .i64 i1)), (14, (.bool (decide ((i1 : Int) < (a_a.length : Int)))))], [], []⟩ hq ?_; refine Ai (decide ((i1 : Int) < (a_a.length : Int))) (by kernel_rfl) (fun hb => ?_) (fun hb => ?_)
      · replace h := Aq hb h; clear hb; refine Ah ?_; refine Aa ?_; refine Ad ?_; refine Ak ?_; obtain ⟨hc2, h⟩ := Ab h; obtain ⟨hc3, h⟩ := Ab h; refine B9 [] [] ⟨[(0, (Yn a_a)), (1, (Xd a_b)), (5, (.int .i64 i1)), (25, (.bool (((a_a.getD (i1).toNat (0 : Int)) : Int) != (a_b.getD (i1).toNat (0 : Int)))))], [], []⟩ [(A9 i1 a_a.length), (A9 i1 a_b.length)] hq ⟨hc2, hc3, trivial⟩ ?_; refine Ai (((a_a.getD (i1).toNat (0 : Int)) : Int) != (a_b.getD (i1).toNat (0 : Int))) (by kernel_rfl) (fun hb => ?_) (fun hb => ?_)
        · replace h := Aq hb h; clear hb; refine As ⟨[(4, (.bool false))], [], []⟩ hq ?_; refine Ar ?_; refine Bs ?_; refine Ax ?_; obtain rfl := OI h; exact ⟨(by intro hh; cases hh), rfl, ⟨.inl rfl, [], by kernel_rfl⟩⟩
        · replace h := At hb h; clear hb; refine Ah ?_; refine Am ?_; refine Aa ?_; refine My ⟨[(0, (Yn a_a)), (1, (Xd a_b)), (5, (.int .i64 (Bz (i1 + (1 : Int)))))], [], []⟩ hq ?_; obtain rfl := OI h; exact ⟨rfl, Le.refl _ _⟩
      · replace h := At hb h; clear hb; refine Bc ?_; refine A3 ?_; obtain rfl := OI h; exact ⟨(by intro hh; cases hh), rfl, E0 [] [] hq⟩
    · clear hx4; rcases x4 with _ | r6
      · rintro e st' ⟨rfl, hl5⟩; refine Az ?_; refine Aa ?_; refine Af hl5 ?_; refine As ⟨[(4, (.bool true))], [], []⟩ hq ?_; refine Ar ?_; obtain rfl := OI h; exact ⟨.inl rfl, [], by kernel_rfl⟩
      · rintro e st' ⟨rfl, hk⟩; refine Bs ?_; refine Ax ?_; obtain rfl := OI h; exact hk
def Hl (a_x : Int) (x1 : List (TDep)) : (List (TDep) × Int) → Option (LR (List (TDep) × Int) (List (TDep))) :=
  fun ((l2, i3) : (List (TDep) × Int)) => (bif (decide ((i3 : Int) < (x1.length : Int))) then (Option.bind (α := List (TDep)) (Ck (A9 i3 x1.length) (bif (((x1.getD (i3).toNat (default : TDep)).Block : Int) == a_x) then (Ck (l2.length + ([(x1.getD (i3).toNat (default : TDep))] : List (TDep)).length ≤ room) (some ((l2 ++ ([(x1.getD (i3).toNat (default : TDep))] : List (TDep)))))) else (some (l2)))) (fun x8 => ((some (.next (x8, (Bz (i3 + (1 : Int))))))))) else (some (.done l2)))
def Ju := (default : TDep)
def Tb (x1 : List (TDep)) : AV := (.int .i64 (x1.length : Int))
def Q254 (x1 : List (TDep)) (i3 : Int) := (x1.getD (i3).toNat Ju)
def Qo (x1 : List (TDep)) (i3 : Int) := ([(Q254 x1 i3)] : List (TDep))
def Tf (x1 : List (TDep)) : AV := (AV.list 3 Bf Ju x1 (.own 9))
def Q258 (l2 : List (TDep)) : AV := (AV.list 3 Bf Ju l2 (.own 5005))
def Q256 : AV := (AV.list 3 Bf Ju ([] : List TDep) .exact)
def Q260 (x1 : List (TDep)) (i3 : Int) : List AV := [(.int .i64 (Q254 x1 i3).Block), (.int .i64 (Q254 x1 i3).On), (.int .i64 (Q254 x1 i3).To)]
def Q261 (a_x : Int) (x1 : List (TDep)) := (⟨[(1, (.int .i64 a_x)), (5, Q256), (9, (Tf x1)), (10, (Tb x1)), (11, (.int .i64 (0 : Int)))], [(9, .tok 3 37 x1.length)], []⟩ : St)
def Ih (a_g : Ag) (a_x : Int) : Option (List (TDep)) :=
  ((G7 a_g).bind fun x1 => ((Ay (S := (List (TDep) × Int)) (X := List (TDep)) (Hl a_x x1) (([] : List TDep), (0 : Int))).bind (fun x10 => ((some x10)))))
theorem U0 (a_g : Ag) (a_x : Int) (r : List (TDep)) (h : Ih a_g a_x = some r) : Spec Try.prog 16 [(.agg (A4 a_g)), (.int .i64 a_x)] [] (AV.list 3 Bf (default : TDep) r (.own 20000)) [(20000, .tok 3 37 r.length)] := by
  refine Ap (fn := Try.f16) Try.func16 rfl rfl (by kernel_rfl) (fun Γ hn hΓ => ?_); have hq : RgQ Try.prog Γ 25 [] := ⟨hn, mix, hΓ⟩; unfold Ih at h; refine B9 [] [(4, Q256)] ⟨[(1, (.int .i64 a_x)), (2, (.ptr 2 0))], [(2, .row 26 [(AV.list 1 eLI64 [] a_g.Succ .none), (AV.list 1 eLI64 [] a_g.Pred .none)])], []⟩ [(AVle (.slice 0 0 (fun _ => []) .exact) Q256)] hq ⟨Dg, trivial⟩ ?_; refine B9 [] [(5, Q256)] ⟨[(1, (.int .i64 a_x)), (2, (.ptr 2 0)), (5, Q256)], [(2, .row 26 [(AV.list 1 eLI64 [] a_g.Succ .none), (AV.list 1 eLI64 [] a_g.Pred .none)])], []⟩ [(AVle (.slice 0 0 (fun _ => []) .exact) Q256)] hq ⟨Dg, trivial⟩ ?_; refine Ad ?_; obtain ⟨x1, hx1, h⟩ := bind_some h; refine B9 [⟨[], [(20000, 9)], (AV.list 3 Bf Ju x1 (.own 20000)), [(20000, .tok 3 37 x1.length)], []⟩] [] (Q261 a_x x1) [(Spec Try.prog 10 [(.agg (A4 a_g))] [] (AV.list 3 Bf Ju x1 (.own 20000)) [(20000, .tok 3 37 x1.length)])] hq ⟨(Sj a_g x1 hx1), trivial⟩ ?_; refine Ak ?_; refine Af (st' := (fun ((l2, i3) : (List (TDep) × Int)) => (⟨[(1, (.int .i64 a_x)), (5, (Q258 l2)), (9, (Tf x1)), (10, (Tb x1)), (11, (.int .i64 i3))], [(9, .tok 3 37 x1.length), (5005, .tok 3 37 l2.length)], []⟩ : St)) (([] : List TDep), (0 : Int))) (Le.trans (E0 (st' := (Q261 a_x x1)) [1, 5, 9, 10, 11] [9] hq) (Le.trans (K6 (t := 5) (nm := 5005) (sz' := 3) (fun i => Bf (([] : List TDep).getD i Ju)) 37 rfl rfl (.inl ⟨rfl, rfl⟩) (fun h_ => absurd h_ (by decide))) (E0 (st' := ⟨[(1, (.int .i64 a_x)), (5, (AV.list 3 Bf Ju ([] : List TDep) (.own 5005))), (9, (Tf x1)), (10, (Tb x1)), (11, (.int .i64 (0 : Int)))], [(9, .tok 3 37 x1.length), (5005, .tok 3 37 (([] : List TDep).length))], []⟩) [1, 5, 9, 10, 11] [9, 5005] hq))) ?_; obtain ⟨x10, hx10, h⟩ := bind_some h; refine Be (fun ((l2, i3) : (List (TDep) × Int)) => (⟨[(1, (.int .i64 a_x)), (5, (Q258 l2)), (9, (Tf x1)), (10, (Tb x1)), (11, (.int .i64 i3))], [(9, .tok 3 37 x1.length), (5005, .tok 3 37 l2.length)], []⟩ : St)) _ (fun (l4 : List (TDep)) (e : Exit) (st : St) => e = (.exit 0) ∧ Le Γ st (⟨[(5, (AV.list 3 Bf Ju l4 (.own 5005)))], [(5005, .tok 3 37 l4.length)], []⟩ : St)) ?_ hx10 ?_
  · rintro ⟨l2, i3⟩ y h; unfold Hl at h; refine As ⟨[(1, (.int .i64 a_x)), (5, (Q258 l2)), (9, (Tf x1)), (10, (Tb x1)), (11, (.int .i64 i3)), (12, (.bool (decide ((i3 : Int) < (x1.length : Int)))))], [(9, .tok 3 37 x1.length), (5005, .tok 3 37 l2.length)], []⟩ hq ?_; refine Ad ?_; refine Ai (decide ((i3 : Int) < (x1.length : Int))) (by kernel_rfl) (fun hb => ?_) (fun hb => ?_)
    · replace h := Aq hb h; clear hb; refine Ah ?_; refine Aa ?_; refine Ad ?_; obtain ⟨x8, hx8, h⟩ := bind_some h; refine Fo (fun (l5 : List (TDep)) (e : Exit) (st : St) => e = .normal ∧ Le Γ st (⟨[(1, (.int .i64 a_x)), (5, (AV.list 3 Bf Ju l5 (.own 5005))), (9, (Tf x1)), (10, (Tb x1)), (11, (.int .i64 i3))], [(9, .tok 3 37 x1.length), (5005, .tok 3 37 l5.length)], []⟩ : St)) hx8 ?_ ?_
      · clear h hx8; intro y h; refine Ak ?_; obtain ⟨hc6, h⟩ := Ab h; refine B9 [] [] ⟨[(1, (.int .i64 a_x)), (5, (Q258 l2)), (7, (.ptr 7 0)), (9, (Tf x1)), (10, (Tb x1)), (11, (.int .i64 i3))], [(7, .row 37 (Q260 x1 i3)), (9, .tok 3 37 x1.length), (5005, .tok 3 37 l2.length)], []⟩ [(A9 i3 x1.length)] hq ⟨hc6, trivial⟩ ?_; refine As ⟨[(1, (.int .i64 a_x)), (5, (Q258 l2)), (7, (.ptr 7 0)), (9, (Tf x1)), (10, (Tb x1)), (11, (.int .i64 i3)), (18, (.bool (((Q254 x1 i3).Block : Int) == a_x)))], [(7, .row 37 (Q260 x1 i3)), (9, .tok 3 37 x1.length), (5005, .tok 3 37 l2.length)], []⟩ hq ?_; refine Ai (((Q254 x1 i3).Block : Int) == a_x) (by kernel_rfl) (fun hb => ?_) (fun hb => ?_)
        · replace h := Aq hb h; clear hb; obtain ⟨hc7, h⟩ := Ab h; refine rg [] [(21, (AV.list 3 Bf Ju (Qo x1 i3) .exact)), (22, (AV.list 3 Bf Ju (l2 ++ (Qo x1 i3)) (.own 5005)))] ⟨[(1, (.int .i64 a_x)), (5, (AV.list 3 Bf Ju (l2 ++ (Qo x1 i3)) (.own 5005))), (9, (Tf x1)), (10, (Tb x1)), (11, (.int .i64 i3))], [(9, .tok 3 37 x1.length), (5005, .tok 3 37 ((l2 ++ (Qo x1 i3)).length))], []⟩ [(AVle (.slice 3 1 (fun i => ([(Q260 x1 i3)] : List (List AV)).getD i []) .exact) (AV.list 3 Bf Ju (Qo x1 i3) .exact)), (l2.length = l2.length), (l2.length + (Qo x1 i3).length ≤ room), (AVle (.slice 3 (l2.length + (Qo x1 i3).length) (E7 l2.length (fun i => Bf (l2.getD i Ju)) (fun i => Bf ((Qo x1 i3).getD i Ju))) (.own 5005)) (AV.list 3 Bf Ju (l2 ++ (Qo x1 i3)) (.own 5005))), (l2.length + (Qo x1 i3).length = (l2 ++ (Qo x1 i3)).length)] hq ⟨(E8 rfl (fun i hi => Eb (e := Bf) (d := Ju) (Qo x1 i3) i hi)), rfl, hc7, Pk, (Ec _ _), trivial⟩ ?_; refine Am ?_; obtain rfl := OI h; exact ⟨rfl, Le.refl _ _⟩
        · replace h := At hb h; clear hb; refine Ah ?_; refine Am ?_; obtain rfl := OI h; exact ⟨rfl, E0 [1, 5, 9, 10, 11] [9, 5005] hq⟩
      · clear hx8; rintro e st' ⟨rfl, hl9⟩; refine Aa ?_; refine Af hl9 ?_; refine My ⟨[(1, (.int .i64 a_x)), (5, (AV.list 3 Bf Ju x8 (.own 5005))), (9, (Tf x1)), (10, (Tb x1)), (11, (.int .i64 (Bz (i3 + (1 : Int)))))], [(9, .tok 3 37 x1.length), (5005, .tok 3 37 x8.length)], []⟩ hq ?_; obtain rfl := OI h; exact ⟨rfl, Le.refl _ _⟩
    · replace h := At hb h; clear hb; refine Bc ?_; refine A3 ?_; obtain rfl := OI h; exact ⟨(by intro hh; cases hh), rfl, E0 [5] [5005] hq⟩
  · clear hx10; rintro e st' ⟨rfl, hl11⟩; refine Az ?_; refine Aa ?_; refine Af hl11 ?_; refine As ⟨[(4, (AV.list 3 Bf Ju x10 (.own 5005)))], [(5005, .tok 3 37 x10.length)], []⟩ hq ?_; refine Ar ?_; obtain rfl := OI h; exact ⟨.inl rfl, [(5005, 20000)], by kernel_rfl⟩
def O3 := ([(3 : Int)] : List (Int))
def Q268 (x1 : (Ag × Int)) := (((x1.2 : Int) == (0 : Int)) == true)
def Om (x1 : (Ag × Int)) (x2 : List (TDep)) := (bif (bif (bif ((x1.2 : Int) == (0 : Int)) then (((x2.length : Int) : Int) == (2 : Int)) else false) then ((((x2.getD ((0 : Int)).toNat (default : TDep)).Block : Int) == (1 : Int)) && ((((x2.getD ((0 : Int)).toNat (default : TDep)).On : Int) == (0 : Int)) && ((((x2.getD ((0 : Int)).toNat (default : TDep)).To : Int) == (1 : Int)) && true))) else false) then ((((x2.getD ((1 : Int)).toNat (default : TDep)).Block : Int) == (2 : Int)) && ((((x2.getD ((1 : Int)).toNat (default : TDep)).On : Int) == (0 : Int)) && ((((x2.getD ((1 : Int)).toNat (default : TDep)).To : Int) == (2 : Int)) && true))) else false)
def Wx (x1 : (Ag × Int)) (x2 : List (TDep)) (x6 : Bool) := ((bif (Om x1 x2) then x6 else false) == true)
def Tc (x1 : (Ag × Int)) (x2 : List (TDep)) := ((bif ((x1.2 : Int) == (0 : Int)) then (((x2.length : Int) : Int) == (2 : Int)) else false) == true)
def Q266 := ([([(1 : Int), (2 : Int)] : List (Int)), O3, O3, ([] : List Int)] : List (List (Int)))
def Q267 := (AVle (.slice 1 1 (fun i => ([[(.int .i64 (3 : Int))]] : List (List AV)).getD i []) .exact) (AV.list 1 Ac (0 : Int) O3 .exact))
def Tu (x1 : (Ag × Int)) (x2 : List (TDep)) := ((bif (bif ((x1.2 : Int) == (0 : Int)) then (((x2.length : Int) : Int) == (2 : Int)) else false) then ((((x2.getD ((0 : Int)).toNat (default : TDep)).Block : Int) == (1 : Int)) && ((((x2.getD ((0 : Int)).toNat (default : TDep)).On : Int) == (0 : Int)) && ((((x2.getD ((0 : Int)).toNat (default : TDep)).To : Int) == (1 : Int)) && true))) else false) == true)
def Dp  : Option Bool :=
  ((D4 ([([(1 : Int), (2 : Int)] : List (Int)), ([(3 : Int)] : List (Int)), ([(3 : Int)] : List (Int)), ([] : List Int)] : List (List (Int)))).bind fun x1 => ((G7 x1.1).bind fun x2 => (Ck (((bif ((x1.2 : Int) == (0 : Int)) then (((x2.length : Int) : Int) == (2 : Int)) else false) == true) = true → (A9 (0 : Int) x2.length)) (Ck (((bif (bif ((x1.2 : Int) == (0 : Int)) then (((x2.length : Int) : Int) == (2 : Int)) else false) then ((((x2.getD ((0 : Int)).toNat (default : TDep)).Block : Int) == (1 : Int)) && ((((x2.getD ((0 : Int)).toNat (default : TDep)).On : Int) == (0 : Int)) && ((((x2.getD ((0 : Int)).toNat (default : TDep)).To : Int) == (1 : Int)) && true))) else false) == true) = true → (A9 (1 : Int) x2.length)) ((bif ((bif (bif (bif ((x1.2 : Int) == (0 : Int)) then (((x2.length : Int) : Int) == (2 : Int)) else false) then ((((x2.getD ((0 : Int)).toNat (default : TDep)).Block : Int) == (1 : Int)) && ((((x2.getD ((0 : Int)).toNat (default : TDep)).On : Int) == (0 : Int)) && ((((x2.getD ((0 : Int)).toNat (default : TDep)).To : Int) == (1 : Int)) && true))) else false) then ((((x2.getD ((1 : Int)).toNat (default : TDep)).Block : Int) == (2 : Int)) && ((((x2.getD ((1 : Int)).toNat (default : TDep)).On : Int) == (0 : Int)) && ((((x2.getD ((1 : Int)).toNat (default : TDep)).To : Int) == (2 : Int)) && true))) else false) == true) then Ey x1.1 (1 : Int) else some []).bind fun x5 => ((bif ((bif (bif (bif ((x1.2 : Int) == (0 : Int)) then (((x2.length : Int) : Int) == (2 : Int)) else false) then ((((x2.getD ((0 : Int)).toNat (default : TDep)).Block : Int) == (1 : Int)) && ((((x2.getD ((0 : Int)).toNat (default : TDep)).On : Int) == (0 : Int)) && ((((x2.getD ((0 : Int)).toNat (default : TDep)).To : Int) == (1 : Int)) && true))) else false) then ((((x2.getD ((1 : Int)).toNat (default : TDep)).Block : Int) == (2 : Int)) && ((((x2.getD ((1 : Int)).toNat (default : TDep)).On : Int) == (0 : Int)) && ((((x2.getD ((1 : Int)).toNat (default : TDep)).To : Int) == (2 : Int)) && true))) else false) == true) then Ch x5 ([(3 : Int)] : List (Int)) else some false).bind fun x6 => ((bif ((bif (bif (bif (bif ((x1.2 : Int) == (0 : Int)) then (((x2.length : Int) : Int) == (2 : Int)) else false) then ((((x2.getD ((0 : Int)).toNat (default : TDep)).Block : Int) == (1 : Int)) && ((((x2.getD ((0 : Int)).toNat (default : TDep)).On : Int) == (0 : Int)) && ((((x2.getD ((0 : Int)).toNat (default : TDep)).To : Int) == (1 : Int)) && true))) else false) then ((((x2.getD ((1 : Int)).toNat (default : TDep)).Block : Int) == (2 : Int)) && ((((x2.getD ((1 : Int)).toNat (default : TDep)).On : Int) == (0 : Int)) && ((((x2.getD ((1 : Int)).toNat (default : TDep)).To : Int) == (2 : Int)) && true))) else false) then x6 else false) == true) then Ih x1.1 (3 : Int) else some []).bind fun x7 => (some (bif (bif (bif (bif (bif ((x1.2 : Int) == (0 : Int)) then (((x2.length : Int) : Int) == (2 : Int)) else false) then ((((x2.getD ((0 : Int)).toNat (default : TDep)).Block : Int) == (1 : Int)) && ((((x2.getD ((0 : Int)).toNat (default : TDep)).On : Int) == (0 : Int)) && ((((x2.getD ((0 : Int)).toNat (default : TDep)).To : Int) == (1 : Int)) && true))) else false) then ((((x2.getD ((1 : Int)).toNat (default : TDep)).Block : Int) == (2 : Int)) && ((((x2.getD ((1 : Int)).toNat (default : TDep)).On : Int) == (0 : Int)) && ((((x2.getD ((1 : Int)).toNat (default : TDep)).To : Int) == (2 : Int)) && true))) else false) then x6 else false) then (((x7.length : Int) : Int) == (0 : Int)) else false)))))))))
theorem J9  (r : Bool) (h : Dp = some r) : Spec Try.prog 7 [] [] (.bool r) [] := by
  refine Ap (fn := Try.f7) Try.func7 rfl rfl (by kernel_rfl) (fun Γ hn hΓ => ?_); have hq : RgQ Try.prog Γ 47 [] := ⟨hn, mix, hΓ⟩; unfold Dp at h; refine As ⟨[], [], []⟩ hq ?_; obtain ⟨x1, hx1, h⟩ := bind_some h; refine B9 [⟨[], [], (.tuple [(.agg (A4 x1.1)), (.int .i64 x1.2)]), [], []⟩] [(5, (AV.list 1 Ac (0 : Int) ([(1 : Int), (2 : Int)] : List (Int)) .exact)), (6, (AV.list 1 Ac (0 : Int) O3 .exact)), (7, (AV.list 1 Ac (0 : Int) O3 .exact)), (8, (AV.list 1 eLI64 [] Q266 .exact))] ⟨[(1, (.ptr 1 0)), (2, (.int .i64 x1.2))], [(1, .row 26 [(AV.list 1 eLI64 [] x1.1.Succ .none), (AV.list 1 eLI64 [] x1.1.Pred .none)])], []⟩ [(AVle (.slice 1 2 (fun i => ([[(.int .i64 (1 : Int))], [(.int .i64 (2 : Int))]] : List (List AV)).getD i []) .exact) (AV.list 1 Ac (0 : Int) ([(1 : Int), (2 : Int)] : List (Int)) .exact)), Q267, Q267, (AVle (.slice 1 4 (fun i => ([[(AV.list 1 Ac (0 : Int) ([(1 : Int), (2 : Int)] : List (Int)) .none)], [(AV.list 1 Ac (0 : Int) O3 .none)], [(AV.list 1 Ac (0 : Int) O3 .none)], [(.slice 0 0 (fun _ => []) .none)]] : List (List AV)).getD i []) .exact) (AV.list 1 eLI64 [] Q266 .exact)), (Spec Try.prog 15 [(AV.list 1 eLI64 [] Q266 .none)] [] (.tuple [(.agg (A4 x1.1)), (.int .i64 x1.2)]) [])] hq ⟨(E8 rfl (fun i hi => Eb (e := Ac) (d := (0 : Int)) ([(1 : Int), (2 : Int)] : List (Int)) i hi)), (E8 rfl (fun i hi => Eb (e := Ac) (d := (0 : Int)) O3 i hi)), (E8 rfl (fun i hi => Eb (e := Ac) (d := (0 : Int)) O3 i hi)), (av_litL (e := eLI64) (d := []) rfl (Oc (.cons (AVle.refl _) .nil) (Oc (.cons (AVle.refl _) .nil) (Oc (.cons (AVle.refl _) .nil) (Oc (.cons av_nil0 .nil) (lit_nil rfl))))) (fun _ => rfl)), (Hf Q266 x1 hx1), trivial⟩ ?_; obtain ⟨x2, hx2, h⟩ := bind_some h; refine B9 [⟨[], [(20000, 13)], (AV.list 3 Bf (default : TDep) x2 (.own 20000)), [(20000, .tok 3 37 x2.length)], []⟩] [] ⟨[(1, (.ptr 1 0)), (2, (.int .i64 x1.2)), (3, (AV.list 3 Bf (default : TDep) x2 (.own 13)))], [(1, .row 26 [(AV.list 1 eLI64 [] x1.1.Succ .none), (AV.list 1 eLI64 [] x1.1.Pred .none)]), (13, .tok 3 37 x2.length)], []⟩ [(Spec Try.prog 10 [(.agg (A4 x1.1))] [] (AV.list 3 Bf (default : TDep) x2 (.own 20000)) [(20000, .tok 3 37 x2.length)])] hq ⟨(Sj x1.1 x2 hx2), trivial⟩ ?_; obtain ⟨hc3, h⟩ := Ab h; obtain ⟨hc4, h⟩ := Ab h; obtain ⟨x5, hx5, h⟩ := bind_some h; obtain ⟨x6, hx6, h⟩ := bind_some h; obtain ⟨x7, hx7, h⟩ := bind_some h; refine B9 [⟨[], [], (AV.list 1 Ac (0 : Int) x5 .none), [], []⟩, ⟨[], [], (.bool x6), [], []⟩, ⟨[], [], (AV.list 3 Bf (default : TDep) x7 .none), [], []⟩] [(38, (AV.list 1 Ac (0 : Int) O3 .exact))] ⟨[(0, (.bool (bif (bif (Om x1 x2) then x6 else false) then (((x7.length : Int) : Int) == (0 : Int)) else false)))], [], []⟩ [((Q268 x1) = true → (Q268 x1) = true), ((Q268 x1) = true → (Q268 x1) = true), (((x1.2 : Int) == (0 : Int)) = true → (Q268 x1) = true), ((Tc x1 x2) = true → (Tc x1 x2) = true), ((Tc x1 x2) = true → (A9 (0 : Int) x2.length)), ((Tc x1 x2) = true → (Tc x1 x2) = true), ((Tc x1 x2) = true → (Tc x1 x2) = true), ((Tc x1 x2) = true → (Tc x1 x2) = true), ((bif ((x1.2 : Int) == (0 : Int)) then (((x2.length : Int) : Int) == (2 : Int)) else false) = true → (Tc x1 x2) = true), ((Tu x1 x2) = true → (Tu x1 x2) = true), ((Tu x1 x2) = true → (A9 (1 : Int) x2.length)), ((Tu x1 x2) = true → (Tu x1 x2) = true), ((Tu x1 x2) = true → (Tu x1 x2) = true), ((Tu x1 x2) = true → (Tu x1 x2) = true), ((bif (bif ((x1.2 : Int) == (0 : Int)) then (((x2.length : Int) : Int) == (2 : Int)) else false) then ((((x2.getD ((0 : Int)).toNat (default : TDep)).Block : Int) == (1 : Int)) && ((((x2.getD ((0 : Int)).toNat (default : TDep)).On : Int) == (0 : Int)) && ((((x2.getD ((0 : Int)).toNat (default : TDep)).To : Int) == (1 : Int)) && true))) else false) = true → (Tu x1 x2) = true), (((Om x1 x2) == true) = true → ((Om x1 x2) == true) = true), (((Om x1 x2) == true) = true → (Spec Try.prog 13 [(.agg (A4 x1.1)), (.int .i64 (1 : Int))] [] (AV.list 1 Ac (0 : Int) x5 .none) [])), (((Om x1 x2) == true) = true → Q267), (((Om x1 x2) == true) = true → ((Om x1 x2) == true) = true), (((Om x1 x2) == true) = true → ((Om x1 x2) == true) = true), (((Om x1 x2) == true) = true → (Spec Try.prog 12 [(AV.list 1 Ac (0 : Int) x5 .none), (AV.list 1 Ac (0 : Int) O3 .none)] [] (.bool x6) [])), ((Om x1 x2) = true → ((Om x1 x2) == true) = true), ((Wx x1 x2 x6) = true → (Wx x1 x2 x6) = true), ((Wx x1 x2 x6) = true → (Spec Try.prog 16 [(.agg (A4 x1.1)), (.int .i64 (3 : Int))] [] (AV.list 3 Bf (default : TDep) x7 .none) [])), ((Wx x1 x2 x6) = true → (Wx x1 x2 x6) = true), ((Wx x1 x2 x6) = true → (Wx x1 x2 x6) = true), ((bif (Om x1 x2) then x6 else false) = true → (Wx x1 x2 x6) = true)] hq ⟨(fun hg => hg), (fun hg => hg), gT, (fun hg => hg), (fun hg => (hc3 hg)), (fun hg => hg), (fun hg => hg), (fun hg => hg), gT, (fun hg => hg), (fun hg => (hc4 hg)), (fun hg => hg), (fun hg => hg), (fun hg => hg), gT, (fun hg => hg), (fun hg => (Spec.drop (Qn x1.1 (1 : Int) x5 (Aq hg hx5)))), (fun hg => (E8 rfl (fun i hi => Eb (e := Ac) (d := (0 : Int)) O3 i hi))), (fun hg => hg), (fun hg => hg), (fun hg => (K0 x5 O3 x6 (Aq hg hx6))), gT, (fun hg => hg), (fun hg => (Spec.drop (U0 x1.1 (3 : Int) x7 (Aq hg hx7)))), (fun hg => hg), (fun hg => hg), gT, trivial⟩ ?_; refine Ar ?_; obtain rfl := OI h; exact ⟨.inl rfl, [], by kernel_rfl⟩
def Bd (a_succ : List (List (Int))) : Int → Option (LR Int (Unit ⊕ Bool)) :=
  fun (i1 : Int) => (bif (decide ((i1 : Int) < (a_succ.length : Int))) then (Ck (A9 i1 a_succ.length) (bif (bif (decide (((100 : Int) : Int) < ((a_succ.getD (i1).toNat []).length : Int))) then true else (decide (((100 : Int) : Int) < i1))) then (some (.done (.inr false))) else (some (.next (Bz (i1 + (1 : Int))))))) else (some (.done (.inl ()))))
def Q272 (a_succ : List (List (Int))) : AV := (AV.list 1 eLI64 [] a_succ .none)
def Q271 (a_succ : List (List (Int))) (i1 : Int) := (decide (((100 : Int) : Int) < ((a_succ.getD (i1).toNat []).length : Int)))
def Dn (a_succ : List (List (Int))) : Option Bool :=
  ((Ay (S := Int) (X := (Unit ⊕ Bool)) (Bd a_succ) (0 : Int)).bind (fun x3 => (match x3 with | (.inl _) => (some true) | (.inr r5) => (some r5))))
theorem J6 (a_succ : List (List (Int))) (r : Bool) (h : Dn a_succ = some r) : Spec Try.prog 8 [(AV.list 1 eLI64 [] a_succ .none)] [] (.bool r) [] := by
  refine Ap (fn := Try.f8) Try.func8 rfl rfl (by kernel_rfl) (fun Γ hn hΓ => ?_); have hq : RgQ Try.prog Γ 20 [] := ⟨hn, mix, hΓ⟩; unfold Dn at h; refine As ⟨[(0, (Q272 a_succ))], [], []⟩ hq ?_; refine Ad ?_; refine As ⟨[(0, (Q272 a_succ)), (3, (.int .i64 (0 : Int)))], [], []⟩ hq ?_; refine Ak ?_; refine Af (st' := (fun (i1 : Int) => (⟨[(0, (Q272 a_succ)), (3, (.int .i64 i1))], [], []⟩ : St)) (0 : Int)) (Le.refl _ _) ?_; obtain ⟨x3, hx3, h⟩ := bind_some h; refine Be (fun (i1 : Int) => (⟨[(0, (Q272 a_succ)), (3, (.int .i64 i1))], [], []⟩ : St)) _ (fun (x_ : (Unit ⊕ Bool)) (e : Exit) (st : St) => match x_ with | (.inl _) => e = (.exit 0) ∧ Le Γ st (⟨[], [], []⟩ : St) | (.inr r_) => e = .ret ∧ J1 Try.prog Try.f8.results.toList [] (.bool r_) [] e st) ?_ hx3 ?_
  · intro i1 y h; unfold Bd at h; refine Ad ?_; refine As ⟨[(0, (Q272 a_succ)), (3, (.int .i64 i1)), (7, (.bool (decide ((i1 : Int) < (a_succ.length : Int)))))], [], []⟩ hq ?_; refine Ai (decide ((i1 : Int) < (a_succ.length : Int))) (by kernel_rfl) (fun hb => ?_) (fun hb => ?_)
    · replace h := Aq hb h; clear hb; refine Ah ?_; refine Aa ?_; refine Ad ?_; refine Ak ?_; obtain ⟨hc2, h⟩ := Ab h; refine B9 [] [] ⟨[(0, (Q272 a_succ)), (3, (.int .i64 i1)), (19, (.bool (bif (Q271 a_succ i1) then true else (decide (((100 : Int) : Int) < i1)))))], [], []⟩ [(A9 i1 a_succ.length), (((Q271 a_succ i1) == false) = true → ((Q271 a_succ i1) == false) = true), ((Q271 a_succ i1) = false → ((Q271 a_succ i1) == false) = true)] hq ⟨hc2, (fun hg => hg), gF, trivial⟩ ?_; refine Ai (bif (Q271 a_succ i1) then true else (decide (((100 : Int) : Int) < i1))) (by kernel_rfl) (fun hb => ?_) (fun hb => ?_)
      · replace h := Aq hb h; clear hb; refine As ⟨[(2, (.bool false))], [], []⟩ hq ?_; refine Ar ?_; refine Bs ?_; refine Ax ?_; obtain rfl := OI h; exact ⟨(by intro hh; cases hh), rfl, ⟨.inl rfl, [], by kernel_rfl⟩⟩
      · replace h := At hb h; clear hb; refine Ah ?_; refine Am ?_; refine Aa ?_; refine My ⟨[(0, (Q272 a_succ)), (3, (.int .i64 (Bz (i1 + (1 : Int)))))], [], []⟩ hq ?_; obtain rfl := OI h; exact ⟨rfl, Le.refl _ _⟩
    · replace h := At hb h; clear hb; refine Bc ?_; refine A3 ?_; obtain rfl := OI h; exact ⟨(by intro hh; cases hh), rfl, E0 [] [] hq⟩
  · clear hx3; rcases x3 with _ | r5
    · rintro e st' ⟨rfl, hl4⟩; refine Az ?_; refine Aa ?_; refine Af hl4 ?_; refine As ⟨[(2, (.bool true))], [], []⟩ hq ?_; refine Ar ?_; obtain rfl := OI h; exact ⟨.inl rfl, [], by kernel_rfl⟩
    · rintro e st' ⟨rfl, hk⟩; refine Bs ?_; refine Ax ?_; obtain rfl := OI h; exact hk
end
end Go.Proofs.Ytjdddniaokcgnaa

namespace Go.Proofs.Ytjdddniaokcgnaa
noncomputable section
open Go Go.RowKit
set_option linter.unusedVariables false
set_option maxRecDepth 100000
set_option maxHeartbeats 2000000
def Bj (a_g : Ag) (a_p2 : Int) (i6 : Int) : (Int × List (Bool)) → Option (LR (Int × List (Bool)) (List (Bool))) :=
  fun ((i9, l10) : (Int × List (Bool))) => (Ck (A9 i6 l10.length) (Ck (((l10.getD (i6).toNat false) == true) = true → (A9 i6 a_g.Succ.length)) (bif (bif (l10.getD (i6).toNat false) then (decide ((i9 : Int) < ((a_g.Succ.getD (i6).toNat []).length : Int))) else false) then (Option.bind (α := List (Bool)) (Ck (A9 i6 a_g.Succ.length) (Ck (A9 i9 (a_g.Succ.getD (i6).toNat []).length) (bif ((((a_g.Succ.getD (i6).toNat []).getD (i9).toNat (0 : Int)) : Int) != a_p2) then (Ck (A9 i6 a_g.Succ.length) (Ck (A9 i9 (a_g.Succ.getD (i6).toNat []).length) (Ck (A9 ((a_g.Succ.getD (i6).toNat []).getD (i9).toNat (0 : Int)) l10.length) (some ((l10.set (((a_g.Succ.getD (i6).toNat []).getD (i9).toNat (0 : Int))).toNat true)))))) else (some (l10))))) (fun x20 => ((some (.next ((Bz (i9 + (1 : Int))), x20)))))) else (some (.done l10)))))
def Bx (a_g : Ag) (a_p2 : Int) : (Int × List (Bool)) → Option (LR (Int × List (Bool)) (List (Bool))) :=
  fun ((i6, l7) : (Int × List (Bool))) => (bif (decide ((i6 : Int) < (l7.length : Int))) then ((Ay (S := (Int × List (Bool))) (X := List (Bool)) (Bj a_g a_p2 i6) ((0 : Int), l7)).bind (fun x22 => ((some (.next ((Bz (i6 + (1 : Int))), x22)))))) else (some (.done l7)))
def Bw (a_g : Ag) (a_p2 : Int) : (Int × List (Bool)) → Option (LR (Int × List (Bool)) (List (Bool))) :=
  fun ((i3, l4) : (Int × List (Bool))) => (bif (decide ((i3 : Int) < (l4.length : Int))) then ((Ay (S := (Int × List (Bool))) (X := List (Bool)) (Bx a_g a_p2) ((0 : Int), l4)).bind (fun x24 => ((some (.next ((Bz (i3 + (1 : Int))), x24)))))) else (some (.done l4)))
def G5 (a_p2 : Int) : AV := (.int .i64 a_p2)
def Tl (a_g : Ag) := (a_g.Succ.length : Int)
def K2 (a_g : Ag) := (List.replicate ((Tl a_g)).toNat false)
def Q322 (a_g : Ag) (a_p1 : Int) := ((K2 a_g).set (a_p1).toNat true)
def Ms (l10 : List (Bool)) (i6 : Int) := ((l10.getD (i6).toNat false) == true)
def Q321 (a_g : Ag) := (fun i => eB ((K2 a_g).getD i false))
def Q316 (a_g : Ag) (i6 : Int) (i9 : Int) := ((a_g.Succ.getD (i6).toNat []).getD (i9).toNat (0 : Int))
def Jf (a_g : Ag) : List AV := [(AV.list 1 eLI64 [] a_g.Succ .none), (AV.list 1 eLI64 [] a_g.Pred .none)]
def Q318 (a_g : Ag) (l4 : List (Bool)) : List (Nat × Own) := [(3, .row 26 (Jf a_g)), (14, .arr 1 4 l4.length (fun i => eB (l4.getD i false)))]
def Q319 (a_g : Ag) (l7 : List (Bool)) : List (Nat × Own) := [(3, .row 26 (Jf a_g)), (14, .arr 1 4 l7.length (fun i => eB (l7.getD i false)))]
def Q317 (a_g : Ag) (l10 : List (Bool)) : List (Nat × Own) := [(3, .row 26 (Jf a_g)), (14, .arr 1 4 l10.length (fun i => eB (l10.getD i false)))]
def Q315 (a_p2 : Int) (l10 : List (Bool)) (i3 : Int) (i6 : Int) (i9 : Int) : List (Nat × AV) := [(2, (G5 a_p2)), (3, (.ptr 3 0)), (7, (.vsl 14 l10.length)), (8, (.int .i64 i3)), (9, (.int .i64 i6)), (10, (.int .i64 i9))]
def Ca (a_g : Ag) (a_p1 : Int) (a_p2 : Int) : Option (List (Bool)) :=
  (Ck (0 ≤ (a_g.Succ.length : Int) ∧ (a_g.Succ.length : Int) ≤ (a_g.Succ.length : Int) ∧ (a_g.Succ.length : Int) ≤ (room : Int)) (bif ((a_p1 : Int) == a_p2) then (some (List.replicate ((a_g.Succ.length : Int)).toNat false)) else (Ck (A9 a_p1 (List.replicate ((a_g.Succ.length : Int)).toNat false).length) ((Ay (S := (Int × List (Bool))) (X := List (Bool)) (Bw a_g a_p2) ((0 : Int), ((List.replicate ((a_g.Succ.length : Int)).toNat false).set (a_p1).toNat true))).bind (fun x26 => ((some x26)))))))
theorem Gy (a_g : Ag) (a_p1 : Int) (a_p2 : Int) (r : List (Bool)) (h : Ca a_g a_p1 a_p2 = some r) : Spec Try.prog 17 [(.agg (A4 a_g)), (.int .i64 a_p1), (.int .i64 a_p2)] [] (AV.list 1 eB false r (.own 20000)) [(20000, .tok 1 4 r.length)] := by
  refine Ap (fn := Try.f17) Try.func17 rfl rfl (by kernel_rfl) (fun Γ hn hΓ => ?_); have hq : RgQ Try.prog Γ 71 [] := ⟨hn, mix, hΓ⟩; unfold Ca at h; refine B9 [] [(6, (AV.list 1 eB false ([] : List Bool) .exact))] ⟨[(1, (.int .i64 a_p1)), (2, (G5 a_p2)), (3, (.ptr 3 0))], [(3, .row 26 (Jf a_g))], []⟩ [(AVle (.slice 0 0 (fun _ => []) .exact) (AV.list 1 eB false ([] : List Bool) .exact))] hq ⟨Dg, trivial⟩ ?_; obtain ⟨hc1, h⟩ := Ab h; refine B9 [] [] ⟨[(1, (.int .i64 a_p1)), (2, (G5 a_p2)), (3, (.ptr 3 0)), (7, (.vsl 14 ((Tl a_g)).toNat))], [(3, .row 26 (Jf a_g)), (14, .arr 1 4 (((Tl a_g)).toNat) (fun i_ => AV.eraseAll (fun n_ => Cb n_ [3, 14]) ((fun _ => [(.bool false)]) i_)))], []⟩ [(0 ≤ (Tl a_g) ∧ (Tl a_g) ≤ (Tl a_g) ∧ (Tl a_g) ≤ (room : Int))] hq ⟨hc1, trivial⟩ ?_; refine Af (Le.trans (Cr (st' := ⟨[(1, (.int .i64 a_p1)), (2, (G5 a_p2)), (3, (.ptr 3 0)), (7, (.vsl 14 ((Tl a_g)).toNat))], [(3, .row 26 (Jf a_g)), (14, .arr 1 4 (((Tl a_g)).toNat) (Q321 a_g))], []⟩) (TmpsLe.refl _) (.same (.arr (fun k hk => J7 (e := eB) (d := false) (.cons (AVle.refl _) .nil) _ k (Ke hk)) .nil))) (Bv (congrArg (fun k_ : Nat => (⟨[(1, (.int .i64 a_p1)), (2, (G5 a_p2)), (3, (.ptr 3 0)), (7, (.vsl 14 k_))], [(3, .row 26 (Jf a_g)), (14, .arr 1 4 k_ (Q321 a_g))], []⟩ : St)) (show ((Tl a_g)).toNat = (K2 a_g).length from (List.length_replicate ..).symm)))) ?_; refine Ad ?_; refine As ⟨[(1, (.int .i64 a_p1)), (2, (G5 a_p2)), (3, (.ptr 3 0)), (7, (.vsl 14 (K2 a_g).length)), (17, (.bool ((a_p1 : Int) == a_p2)))], [(3, .row 26 (Jf a_g)), (14, .arr 1 4 ((K2 a_g).length) (Q321 a_g))], []⟩ hq ?_; refine Ai ((a_p1 : Int) == a_p2) (by kernel_rfl) (fun hb => ?_) (fun hb => ?_)
  · replace h := Aq hb h; clear hb; refine As ⟨[(6, (.vsl 14 (K2 a_g).length))], [(14, .arr 1 4 ((K2 a_g).length) (Q321 a_g))], []⟩ hq ?_; refine Af (Le.trans (Eh (nm := 14) (sz := 1) (n := ((K2 a_g).length)) (e := 4) (f := (Q321 a_g)) (g := (Q321 a_g)) rfl ⟨rfl, trivial⟩ (fun _ _ => rfl) (by rw [hΓ]; rfl)) (Bv (st' := ⟨[(6, (AV.list 1 eB false (K2 a_g) (.own 14)))], [(14, .tok 1 4 ((K2 a_g).length))], []⟩) (by kernel_rfl))) ?_; refine Ar ?_; refine Ax ?_; obtain rfl := OI h; exact ⟨.inl rfl, [(14, 20000)], by kernel_rfl⟩
  · replace h := At hb h; clear hb; refine Ah ?_; refine Aa ?_; obtain ⟨hc2, h⟩ := Ab h; refine B9 [] [] ⟨[(2, (G5 a_p2)), (3, (.ptr 3 0)), (7, (.vsl 14 (K2 a_g).length))], [(3, .row 26 (Jf a_g)), (14, .arr 1 4 ((K2 a_g).length) (fun i_ => AV.eraseAll (fun n_ => Cb n_ [3, 14]) ((E6 (Q321 a_g) (a_p1).toNat 0 [(.bool true)]) i_)))], []⟩ [(A9 a_p1 (K2 a_g).length), ((K2 a_g).length = (K2 a_g).length)] hq ⟨hc2, rfl, trivial⟩ ?_; refine Af (Le.trans (Cr (st' := ⟨[(2, (G5 a_p2)), (3, (.ptr 3 0)), (7, (.vsl 14 (K2 a_g).length))], [(3, .row 26 (Jf a_g)), (14, .arr 1 4 ((K2 a_g).length) (fun i => eB ((Q322 a_g a_p1).getD i false)))], []⟩) (TmpsLe.refl _) (.same (.arr (Br (List.length_set ..).symm (fun k_ hk_ => (congrArg (AV.eraseAll (fun n_ => Cb n_ [3, 14])) ((Ft (fun _ _ => rfl) (Gd hc2) rfl) k_ hk_)).trans rfl)) .nil))) (Bv (congrArg (fun k_ : Nat => (⟨[(2, (G5 a_p2)), (3, (.ptr 3 0)), (7, (.vsl 14 k_))], [(3, .row 26 (Jf a_g)), (14, .arr 1 4 k_ (fun i => eB ((Q322 a_g a_p1).getD i false)))], []⟩ : St)) (show (K2 a_g).length = (Q322 a_g a_p1).length from (List.length_set ..).symm)))) ?_; refine Ad ?_; refine As ⟨[(2, (G5 a_p2)), (3, (.ptr 3 0)), (7, (.vsl 14 (Q322 a_g a_p1).length)), (8, (.int .i64 (0 : Int)))], [(3, .row 26 (Jf a_g)), (14, .arr 1 4 ((Q322 a_g a_p1).length) (fun i => eB ((Q322 a_g a_p1).getD i false)))], []⟩ hq ?_; refine Ak ?_; refine Af (st' := (fun ((i3, l4) : (Int × List (Bool))) => (⟨[(2, (G5 a_p2)), (3, (.ptr 3 0)), (7, (.vsl 14 l4.length)), (8, (.int .i64 i3))], (Q318 a_g l4), []⟩ : St)) ((0 : Int), (Q322 a_g a_p1))) (Le.refl _ _) ?_; obtain ⟨x26, hx26, h⟩ := bind_some h; refine Be (fun ((i3, l4) : (Int × List (Bool))) => (⟨[(2, (G5 a_p2)), (3, (.ptr 3 0)), (7, (.vsl 14 l4.length)), (8, (.int .i64 i3))], (Q318 a_g l4), []⟩ : St)) _ (fun (l5 : List (Bool)) (e : Exit) (st : St) => e = (.exit 0) ∧ Le Γ st (⟨[(7, (.vsl 14 l5.length))], [(14, .arr 1 4 l5.length (fun i => eB (l5.getD i false)))], []⟩ : St)) ?_ hx26 ?_
    · rintro ⟨i3, l4⟩ y h; unfold Bw at h; refine Ad ?_; refine As ⟨[(2, (G5 a_p2)), (3, (.ptr 3 0)), (7, (.vsl 14 l4.length)), (8, (.int .i64 i3)), (25, (.bool (decide ((i3 : Int) < (l4.length : Int)))))], (Q318 a_g l4), []⟩ hq ?_; refine Ai (decide ((i3 : Int) < (l4.length : Int))) (by kernel_rfl) (fun hb => ?_) (fun hb => ?_)
      · replace h := Aq hb h; clear hb; refine Ah ?_; refine Aa ?_; refine Ad ?_; refine Ak ?_; refine As ⟨[(2, (G5 a_p2)), (3, (.ptr 3 0)), (7, (.vsl 14 l4.length)), (8, (.int .i64 i3)), (9, (.int .i64 (0 : Int)))], (Q318 a_g l4), []⟩ hq ?_; refine Ak ?_; refine Af (st' := (fun ((i6, l7) : (Int × List (Bool))) => (⟨[(2, (G5 a_p2)), (3, (.ptr 3 0)), (7, (.vsl 14 l7.length)), (8, (.int .i64 i3)), (9, (.int .i64 i6))], (Q319 a_g l7), []⟩ : St)) ((0 : Int), l4)) (Le.refl _ _) ?_; obtain ⟨x24, hx24, h⟩ := bind_some h; refine Be (fun ((i6, l7) : (Int × List (Bool))) => (⟨[(2, (G5 a_p2)), (3, (.ptr 3 0)), (7, (.vsl 14 l7.length)), (8, (.int .i64 i3)), (9, (.int .i64 i6))], (Q319 a_g l7), []⟩ : St)) _ (fun (l8 : List (Bool)) (e : Exit) (st : St) => e = (.exit 2) ∧ Le Γ st (⟨[(2, (G5 a_p2)), (3, (.ptr 3 0)), (7, (.vsl 14 l8.length)), (8, (.int .i64 i3))], [(3, .row 26 (Jf a_g)), (14, .arr 1 4 l8.length (fun i => eB (l8.getD i false)))], []⟩ : St)) ?_ hx24 ?_
        · rintro ⟨i6, l7⟩ y h; unfold Bx at h; refine Ad ?_; refine As ⟨[(2, (G5 a_p2)), (3, (.ptr 3 0)), (7, (.vsl 14 l7.length)), (8, (.int .i64 i3)), (9, (.int .i64 i6)), (31, (.bool (decide ((i6 : Int) < (l7.length : Int)))))], (Q319 a_g l7), []⟩ hq ?_; refine Ai (decide ((i6 : Int) < (l7.length : Int))) (by kernel_rfl) (fun hb => ?_) (fun hb => ?_)
          · replace h := Aq hb h; clear hb; refine Ah ?_; refine Aa ?_; refine Ad ?_; refine Ak ?_; refine As ⟨[(2, (G5 a_p2)), (3, (.ptr 3 0)), (7, (.vsl 14 l7.length)), (8, (.int .i64 i3)), (9, (.int .i64 i6)), (10, (.int .i64 (0 : Int)))], (Q319 a_g l7), []⟩ hq ?_; refine Ak ?_; refine Af (st' := (fun ((i9, l10) : (Int × List (Bool))) => (⟨(Q315 a_p2 l10 i3 i6 i9), (Q317 a_g l10), []⟩ : St)) ((0 : Int), l7)) (Le.refl _ _) ?_; obtain ⟨x22, hx22, h⟩ := bind_some h; refine Be (fun ((i9, l10) : (Int × List (Bool))) => (⟨(Q315 a_p2 l10 i3 i6 i9), (Q317 a_g l10), []⟩ : St)) _ (fun (l11 : List (Bool)) (e : Exit) (st : St) => e = (.exit 4) ∧ Le Γ st (⟨[(2, (G5 a_p2)), (3, (.ptr 3 0)), (7, (.vsl 14 l11.length)), (8, (.int .i64 i3)), (9, (.int .i64 i6))], [(3, .row 26 (Jf a_g)), (14, .arr 1 4 l11.length (fun i => eB (l11.getD i false)))], []⟩ : St)) ?_ hx22 ?_
            · rintro ⟨i9, l10⟩ y h; unfold Bj at h; refine Ad ?_; obtain ⟨hc12, h⟩ := Ab h; obtain ⟨hc13, h⟩ := Ab h; refine B9 [] [] ⟨[(2, (G5 a_p2)), (3, (.ptr 3 0)), (7, (.vsl 14 l10.length)), (8, (.int .i64 i3)), (9, (.int .i64 i6)), (10, (.int .i64 i9)), (47, (.bool (bif (l10.getD (i6).toNat false) then (decide ((i9 : Int) < ((a_g.Succ.getD (i6).toNat []).length : Int))) else false)))], (Q317 a_g l10), []⟩ [(A9 i6 l10.length), (l10.length = l10.length), ((Ms l10 i6) = true → (Ms l10 i6) = true), ((Ms l10 i6) = true → (Ms l10 i6) = true), ((Ms l10 i6) = true → (Ms l10 i6) = true), ((Ms l10 i6) = true → (A9 i6 a_g.Succ.length)), ((Ms l10 i6) = true → (Ms l10 i6) = true), ((Ms l10 i6) = true → (Ms l10 i6) = true), ((Ms l10 i6) = true → (Ms l10 i6) = true), ((Ms l10 i6) = true → (Ms l10 i6) = true), ((l10.getD (i6).toNat false) = true → (Ms l10 i6) = true)] hq ⟨hc12, rfl, (fun hg => hg), (fun hg => hg), (fun hg => hg), (fun hg => (hc13 hg)), (fun hg => hg), (fun hg => hg), (fun hg => hg), (fun hg => hg), gT, trivial⟩ ?_; refine Ai (bif (l10.getD (i6).toNat false) then (decide ((i9 : Int) < ((a_g.Succ.getD (i6).toNat []).length : Int))) else false) (by kernel_rfl) (fun hb => ?_) (fun hb => ?_)
              · replace h := Aq hb h; clear hb; refine Ah ?_; refine Aa ?_; refine Ad ?_; obtain ⟨x20, hx20, h⟩ := bind_some h; refine Fo (fun (l14 : List (Bool)) (e : Exit) (st : St) => e = .normal ∧ Le Γ st (⟨[(2, (G5 a_p2)), (3, (.ptr 3 0)), (7, (.vsl 14 l14.length)), (8, (.int .i64 i3)), (9, (.int .i64 i6)), (10, (.int .i64 i9))], [(3, .row 26 (Jf a_g)), (14, .arr 1 4 l14.length (fun i => eB (l14.getD i false)))], []⟩ : St)) hx20 ?_ ?_
                · clear h hx20; intro y h; refine Ak ?_; obtain ⟨hc15, h⟩ := Ab h; obtain ⟨hc16, h⟩ := Ab h; refine B9 [] [] ⟨[(2, (G5 a_p2)), (3, (.ptr 3 0)), (7, (.vsl 14 l10.length)), (8, (.int .i64 i3)), (9, (.int .i64 i6)), (10, (.int .i64 i9)), (59, (.bool (((Q316 a_g i6 i9) : Int) != a_p2)))], (Q317 a_g l10), []⟩ [(A9 i6 a_g.Succ.length), (A9 i9 (a_g.Succ.getD (i6).toNat []).length)] hq ⟨hc15, hc16, trivial⟩ ?_; refine Ai (((Q316 a_g i6 i9) : Int) != a_p2) (by kernel_rfl) (fun hb => ?_) (fun hb => ?_)
                  · replace h := Aq hb h; clear hb; obtain ⟨hc17, h⟩ := Ab h; obtain ⟨hc18, h⟩ := Ab h; obtain ⟨hc19, h⟩ := Ab h; refine rg [] [] ⟨(Q315 a_p2 l10 i3 i6 i9), [(3, .row 26 (Jf a_g)), (14, .arr 1 4 l10.length (fun i_ => AV.eraseAll (fun n_ => Cb n_ [3, 14]) ((E6 (fun i => eB (l10.getD i false)) ((Q316 a_g i6 i9)).toNat 0 [(.bool true)]) i_)))], []⟩ [(A9 i6 a_g.Succ.length), (A9 i9 (a_g.Succ.getD (i6).toNat []).length), (A9 (Q316 a_g i6 i9) l10.length), (l10.length = l10.length)] hq ⟨hc17, hc18, hc19, rfl, trivial⟩ ?_; refine Am ?_; obtain rfl := OI h; exact ⟨rfl, Le.trans (Le.trans (Cr (st' := ⟨(Q315 a_p2 l10 i3 i6 i9), [(3, .row 26 (Jf a_g)), (14, .arr 1 4 l10.length (fun i => eB ((l10.set ((Q316 a_g i6 i9)).toNat true).getD i false)))], []⟩) (TmpsLe.refl _) (.same (.arr (Br (List.length_set ..).symm (fun k_ hk_ => (congrArg (AV.eraseAll (fun n_ => Cb n_ [3, 14])) ((Ft (fun _ _ => rfl) (Gd hc19) rfl) k_ hk_)).trans rfl)) .nil))) (Bv (congrArg (fun k_ : Nat => (⟨[(2, (G5 a_p2)), (3, (.ptr 3 0)), (7, (.vsl 14 k_)), (8, (.int .i64 i3)), (9, (.int .i64 i6)), (10, (.int .i64 i9))], [(3, .row 26 (Jf a_g)), (14, .arr 1 4 k_ (fun i => eB ((l10.set ((Q316 a_g i6 i9)).toNat true).getD i false)))], []⟩ : St)) (show l10.length = (l10.set ((Q316 a_g i6 i9)).toNat true).length from (List.length_set ..).symm)))) (Le.refl _ _)⟩
                  · replace h := At hb h; clear hb; refine Ah ?_; refine Am ?_; obtain rfl := OI h; exact ⟨rfl, E0 [2, 3, 7, 8, 9, 10] [3, 14] hq⟩
                · clear hx20; rintro e st' ⟨rfl, hl21⟩; refine Aa ?_; refine Af hl21 ?_; refine My ⟨[(2, (G5 a_p2)), (3, (.ptr 3 0)), (7, (.vsl 14 x20.length)), (8, (.int .i64 i3)), (9, (.int .i64 i6)), (10, (.int .i64 (Bz (i9 + (1 : Int)))))], [(3, .row 26 (Jf a_g)), (14, .arr 1 4 x20.length (fun i => eB (x20.getD i false)))], []⟩ hq ?_; obtain rfl := OI h; exact ⟨rfl, Le.refl _ _⟩
              · replace h := At hb h; clear hb; refine Bc ?_; refine A3 ?_; obtain rfl := OI h; exact ⟨(by intro hh; cases hh), rfl, E0 [2, 3, 7, 8, 9] [3, 14] hq⟩
            · clear hx22; rintro e st' ⟨rfl, hl23⟩; refine Az ?_; refine Am ?_; refine Aa ?_; refine Af hl23 ?_; refine My ⟨[(2, (G5 a_p2)), (3, (.ptr 3 0)), (7, (.vsl 14 x22.length)), (8, (.int .i64 i3)), (9, (.int .i64 (Bz (i6 + (1 : Int)))))], [(3, .row 26 (Jf a_g)), (14, .arr 1 4 x22.length (fun i => eB (x22.getD i false)))], []⟩ hq ?_; obtain rfl := OI h; exact ⟨rfl, Le.refl _ _⟩
          · replace h := At hb h; clear hb; refine Bc ?_; refine A3 ?_; obtain rfl := OI h; exact ⟨(by intro hh; cases hh), rfl, E0 [2, 3, 7, 8] [3, 14] hq⟩
        · clear hx24; rintro e st' ⟨rfl, hl25⟩; refine Az ?_; refine Am ?_; refine Aa ?_; refine Af hl25 ?_; refine My ⟨[(2, (G5 a_p2)), (3, (.ptr 3 0)), (7, (.vsl 14 x24.length)), (8, (.int .i64 (Bz (i3 + (1 : Int)))))], [(3, .row 26 (Jf a_g)), (14, .arr 1 4 x24.length (fun i => eB (x24.getD i false)))], []⟩ hq ?_; obtain rfl := OI h; exact ⟨rfl, Le.refl _ _⟩
      · replace h := At hb h; clear hb; refine Bc ?_; refine A3 ?_; obtain rfl := OI h; exact ⟨(by intro hh; cases hh), rfl, E0 [7] [14] hq⟩
    · clear hx26; rintro e st' ⟨rfl, hl27⟩; refine Az ?_; refine Aa ?_; refine Af hl27 ?_; refine As ⟨[(6, (.vsl 14 x26.length))], [(14, .arr 1 4 x26.length (fun i => eB (x26.getD i false)))], []⟩ hq ?_; refine Af (Le.trans (Eh (nm := 14) (sz := 1) (n := x26.length) (e := 4) (f := (fun i => eB (x26.getD i false))) (g := (fun i => eB (x26.getD i false))) rfl ⟨rfl, trivial⟩ (fun _ _ => rfl) (by rw [hΓ]; rfl)) (Bv (st' := ⟨[(6, (AV.list 1 eB false x26 (.own 14)))], [(14, .tok 1 4 x26.length)], []⟩) (by kernel_rfl))) ?_; refine Ar ?_; obtain rfl := OI h; exact ⟨.inl rfl, [(14, 20000)], by kernel_rfl⟩
def Bq (a_succ : List (List (Int))) (x8 : List (Bool)) : Int → Option (LR Int (Unit ⊕ Bool)) :=
  fun (i9 : Int) => (bif (decide ((i9 : Int) < (a_succ.length : Int))) then (Ck (A9 i9 x8.length) (Ck (((x8.getD (i9).toNat false) == true) = true → (A9 i9 a_succ.length)) (bif (bif (x8.getD (i9).toNat false) then ((((a_succ.getD (i9).toNat []).length : Int) : Int) == (0 : Int)) else false) then (some (.done (.inr false))) else (some (.next (Bz (i9 + (1 : Int)))))))) else (some (.done (.inl ()))))
def Bo (a_succ : List (List (Int))) (x3 : (Ag × Int)) (x4 : List (Bool)) : Int → Option (LR Int (Unit ⊕ Bool)) :=
  fun (i5 : Int) => (bif (decide ((i5 : Int) < (a_succ.length : Int))) then (Option.bind (α := (Unit ⊕ Bool)) (Ck (A9 i5 x4.length) ((bif ((!(x4.getD (i5).toNat false)) == false) then Ih x3.1 i5 else some []).bind fun x7 => (bif (bif (!(x4.getD (i5).toNat false)) then true else (decide (((0 : Int) : Int) < (x7.length : Int)))) then (some ((.inl ()))) else ((Ca x3.1 (0 : Int) i5).bind fun x8 => ((Ay (S := Int) (X := (Unit ⊕ Bool)) (Bq a_succ x8) (0 : Int)).bind (fun x12 => (match x12 with | (.inl _) => (some ((.inl ()))) | (.inr r14) => (some ((.inr r14)))))))))) (fun x15 => (match x15 with | (.inl _) => (some (.next (Bz (i5 + (1 : Int))))) | (.inr r17) => (some (.done (.inr r17)))))) else (some (.done (.inl ()))))
def Jq (a_succ : List (List (Int))) : AV := (AV.list 1 eLI64 [] a_succ .none)
def Pl (x4 : List (Bool)) : AV := (AV.list 1 eB false x4 (.own 27))
def Q407 (x8 : List (Bool)) : AV := (AV.list 1 eB false x8 (.own 48))
def Qg (x8 : List (Bool)) (i9 : Int) := ((x8.getD (i9).toNat false) == true)
def Te (x4 : List (Bool)) (i5 : Int) := ((!(x4.getD (i5).toNat false)) == false)
def Q401 (x3 : (Ag × Int)) : List AV := [(AV.list 1 eLI64 [] x3.1.Succ .none), (AV.list 1 eLI64 [] x3.1.Pred .none)]
def Q410 (x3 : (Ag × Int)) (x4 : List (Bool)) : List (Nat × Own) := [(3, .row 26 (Q401 x3)), (27, .tok 1 4 x4.length)]
def Ve (a_succ : List (List (Int))) := (decide (((12 : Int) : Int) < (a_succ.length : Int)))
def Zt (x3 : (Ag × Int)) (x4 : List (Bool)) (x8 : List (Bool)) : List (Nat × Own) := [(3, .row 26 (Q401 x3)), (27, .tok 1 4 x4.length), (48, .tok 1 4 x8.length)]
def Q409 (a_succ : List (List (Int))) (x4 : List (Bool)) (i5 : Int) (x3 : (Ag × Int)) := (⟨[(0, (Jq a_succ)), (3, (.ptr 3 0)), (5, (Pl x4)), (6, (.int .i64 i5))], (Q410 x3 x4), []⟩ : St)
def D0 (a_succ : List (List (Int))) : Option Bool :=
  ((Dp).bind fun x1 => (bif (!x1) then (some false) else ((bif ((decide (((12 : Int) : Int) < (a_succ.length : Int))) == false) then Dn a_succ else some false).bind fun x2 => (bif (bif (decide (((12 : Int) : Int) < (a_succ.length : Int))) then true else (!x2)) then (some true) else ((D4 a_succ).bind fun x3 => (bif ((x3.2 : Int) != (0 : Int)) then (some true) else ((Ca x3.1 (0 : Int) (-1 : Int)).bind fun x4 => ((Ay (S := Int) (X := (Unit ⊕ Bool)) (Bo a_succ x3 x4) (0 : Int)).bind (fun x18 => (match x18 with | (.inl _) => (some true) | (.inr r20) => (some r20)))))))))))
theorem ok_locksteplaw09_DepFree (a_succ : List (List (Int))) (r : Bool) (h : D0 a_succ = some r) : Spec Try.prog 4 [(AV.list 1 eLI64 [] a_succ .none)] [] (.bool r) [] := by
  refine Ap (fn := Try.f4) Try.func4 rfl rfl (by kernel_rfl) (fun Γ hn hΓ => ?_); have hq : RgQ Try.prog Γ 67 [] := ⟨hn, mix, hΓ⟩; unfold D0 at h; refine As ⟨[(0, (Jq a_succ))], [], []⟩ hq ?_; refine Ad ?_; obtain ⟨x1, hx1, h⟩ := bind_some h; refine B9 [⟨[], [], (.bool x1), [], []⟩] [] ⟨[(0, (Jq a_succ)), (10, (.bool (!x1)))], [], []⟩ [(Spec Try.prog 7 [] [] (.bool x1) [])] hq ⟨(J9  x1 hx1), trivial⟩ ?_; refine Ai (!x1) (by kernel_rfl) (fun hb => ?_) (fun hb => ?_)
  · replace h := Aq hb h; clear hb; refine As ⟨[(2, (.bool false))], [], []⟩ hq ?_; refine Ar ?_; refine Ax ?_; obtain rfl := OI h; exact ⟨.inl rfl, [], by kernel_rfl⟩
  · replace h := At hb h; clear hb; refine Ah ?_; refine Aa ?_; refine Ad ?_; obtain ⟨x2, hx2, h⟩ := bind_some h; refine B9 [⟨[], [], (.bool x2), [], []⟩] [] ⟨[(0, (Jq a_succ)), (18, (.bool (bif (Ve a_succ) then true else (!x2))))], [], []⟩ [(((Ve a_succ) == false) = true → ((Ve a_succ) == false) = true), (((Ve a_succ) == false) = true → (Spec Try.prog 8 [(Jq a_succ)] [] (.bool x2) [])), (((Ve a_succ) == false) = true → ((Ve a_succ) == false) = true), ((Ve a_succ) = false → ((Ve a_succ) == false) = true)] hq ⟨(fun hg => hg), (fun hg => (J6 a_succ x2 (Aq hg hx2))), (fun hg => hg), gF, trivial⟩ ?_; refine Ai (bif (Ve a_succ) then true else (!x2)) (by kernel_rfl) (fun hb => ?_) (fun hb => ?_)
    · replace h := Aq hb h; clear hb; refine As ⟨[(2, (.bool true))], [], []⟩ hq ?_; refine Ar ?_; refine Ax ?_; obtain rfl := OI h; exact ⟨.inl rfl, [], by kernel_rfl⟩
    · replace h := At hb h; clear hb; refine Ah ?_; refine Aa ?_; obtain ⟨x3, hx3, h⟩ := bind_some h; refine B9 [⟨[], [], (.tuple [(.agg (A4 x3.1)), (.int .i64 x3.2)]), [], []⟩] [] ⟨[(0, (Jq a_succ)), (3, (.ptr 3 0)), (4, (.int .i64 x3.2))], [(3, .row 26 (Q401 x3))], []⟩ [(Spec Try.prog 15 [(Jq a_succ)] [] (.tuple [(.agg (A4 x3.1)), (.int .i64 x3.2)]) [])] hq ⟨(Hf a_succ x3 hx3), trivial⟩ ?_; refine Ad ?_; refine As ⟨[(0, (Jq a_succ)), (3, (.ptr 3 0)), (25, (.bool ((x3.2 : Int) != (0 : Int))))], [(3, .row 26 (Q401 x3))], []⟩ hq ?_; refine Ai ((x3.2 : Int) != (0 : Int)) (by kernel_rfl) (fun hb => ?_) (fun hb => ?_)
      · replace h := Aq hb h; clear hb; refine As ⟨[(2, (.bool true))], [], []⟩ hq ?_; refine Ar ?_; refine Ax ?_; obtain rfl := OI h; exact ⟨.inl rfl, [], by kernel_rfl⟩
      · replace h := At hb h; clear hb; refine Ah ?_; refine Aa ?_; obtain ⟨x4, hx4, h⟩ := bind_some h; refine B9 [⟨[], [(20000, 27)], (AV.list 1 eB false x4 (.own 20000)), [(20000, .tok 1 4 x4.length)], []⟩] [] ⟨[(0, (Jq a_succ)), (3, (.ptr 3 0)), (5, (Pl x4))], (Q410 x3 x4), []⟩ [(Spec Try.prog 17 [(.agg (A4 x3.1)), (.int .i64 (0 : Int)), (.int .i64 (-1 : Int))] [] (AV.list 1 eB false x4 (.own 20000)) [(20000, .tok 1 4 x4.length)])] hq ⟨(Gy x3.1 (0 : Int) (-1 : Int) x4 hx4), trivial⟩ ?_; refine Ad ?_; refine As ⟨[(0, (Jq a_succ)), (3, (.ptr 3 0)), (5, (Pl x4)), (6, (.int .i64 (0 : Int)))], (Q410 x3 x4), []⟩ hq ?_; refine Ak ?_; refine Af (st' := (fun (i5 : Int) => (Q409 a_succ x4 i5 x3)) (0 : Int)) (Le.refl _ _) ?_; obtain ⟨x18, hx18, h⟩ := bind_some h; refine Be (fun (i5 : Int) => (Q409 a_succ x4 i5 x3)) _ (fun (x_ : (Unit ⊕ Bool)) (e : Exit) (st : St) => match x_ with | (.inl _) => e = (.exit 0) ∧ Le Γ st (⟨[], [], []⟩ : St) | (.inr r_) => e = .ret ∧ J1 Try.prog Try.f4.results.toList [] (.bool r_) [] e st) ?_ hx18 ?_
        · intro i5 y h; unfold Bo at h; refine Ad ?_; refine As ⟨[(0, (Jq a_succ)), (3, (.ptr 3 0)), (5, (Pl x4)), (6, (.int .i64 i5)), (31, (.bool (decide ((i5 : Int) < (a_succ.length : Int)))))], (Q410 x3 x4), []⟩ hq ?_; refine Ai (decide ((i5 : Int) < (a_succ.length : Int))) (by kernel_rfl) (fun hb => ?_) (fun hb => ?_)
          · replace h := Aq hb h; clear hb; refine Ah ?_; refine Aa ?_; refine Ad ?_; obtain ⟨x15, hx15, h⟩ := bind_some h; refine Fo (fun (x_ : (Unit ⊕ Bool)) (e : Exit) (st : St) => match x_ with | (.inl _) => e = .normal ∧ Le Γ st (Q409 a_succ x4 i5 x3) | (.inr r_) => e = .ret ∧ J1 Try.prog Try.f4.results.toList [] (.bool r_) [] e st) hx15 ?_ ?_
            · clear h hx15; intro y h; refine Ak ?_; refine Ad ?_; obtain ⟨hc6, h⟩ := Ab h; obtain ⟨x7, hx7, h⟩ := bind_some h; refine B9 [⟨[], [], (AV.list 3 Bf (default : TDep) x7 .none), [], []⟩] [] ⟨[(0, (Jq a_succ)), (3, (.ptr 3 0)), (5, (Pl x4)), (6, (.int .i64 i5)), (45, (.bool (bif (!(x4.getD (i5).toNat false)) then true else (decide (((0 : Int) : Int) < (x7.length : Int))))))], (Q410 x3 x4), []⟩ [(A9 i5 x4.length), ((Te x4 i5) = true → (Te x4 i5) = true), ((Te x4 i5) = true → (Te x4 i5) = true), ((Te x4 i5) = true → (Spec Try.prog 16 [(.agg (A4 x3.1)), (.int .i64 i5)] [] (AV.list 3 Bf (default : TDep) x7 .none) [])), ((Te x4 i5) = true → (Te x4 i5) = true), ((Te x4 i5) = true → (Te x4 i5) = true), ((!(x4.getD (i5).toNat false)) = false → (Te x4 i5) = true)] hq ⟨hc6, (fun hg => hg), (fun hg => hg), (fun hg => (Spec.drop (U0 x3.1 i5 x7 (Aq hg hx7)))), (fun hg => hg), (fun hg => hg), gF, trivial⟩ ?_; refine Ai (bif (!(x4.getD (i5).toNat false)) then true else (decide (((0 : Int) : Int) < (x7.length : Int)))) (by kernel_rfl) (fun hb => ?_) (fun hb => ?_)
              · replace h := Aq hb h; clear hb; refine Bc ?_; refine A3 ?_; refine Az ?_; obtain rfl := OI h; exact ⟨rfl, E0 [0, 3, 5, 6] [3, 27] hq⟩
              · replace h := At hb h; clear hb; refine Ah ?_; refine Aa ?_; obtain ⟨x8, hx8, h⟩ := bind_some h; refine B9 [⟨[], [(20000, 48)], (AV.list 1 eB false x8 (.own 20000)), [(20000, .tok 1 4 x8.length)], []⟩] [] ⟨[(0, (Jq a_succ)), (3, (.ptr 3 0)), (5, (Pl x4)), (6, (.int .i64 i5)), (7, (Q407 x8))], (Zt x3 x4 x8), []⟩ [(Spec Try.prog 17 [(.agg (A4 x3.1)), (.int .i64 (0 : Int)), (.int .i64 i5)] [] (AV.list 1 eB false x8 (.own 20000)) [(20000, .tok 1 4 x8.length)])] hq ⟨(Gy x3.1 (0 : Int) i5 x8 hx8), trivial⟩ ?_; refine As ⟨[(0, (Jq a_succ)), (3, (.ptr 3 0)), (5, (Pl x4)), (6, (.int .i64 i5)), (7, (Q407 x8)), (8, (.int .i64 (0 : Int)))], (Zt x3 x4 x8), []⟩ hq ?_; refine Ak ?_; refine Af (st' := (fun (i9 : Int) => (⟨[(0, (Jq a_succ)), (3, (.ptr 3 0)), (5, (Pl x4)), (6, (.int .i64 i5)), (7, (Q407 x8)), (8, (.int .i64 i9))], (Zt x3 x4 x8), []⟩ : St)) (0 : Int)) (Le.refl _ _) ?_; obtain ⟨x12, hx12, h⟩ := bind_some h; refine Be (fun (i9 : Int) => (⟨[(0, (Jq a_succ)), (3, (.ptr 3 0)), (5, (Pl x4)), (6, (.int .i64 i5)), (7, (Q407 x8)), (8, (.int .i64 i9))], (Zt x3 x4 x8), []⟩ : St)) _ (fun (x_ : (Unit ⊕ Bool)) (e : Exit) (st : St) => match x_ with | (.inl _) => e = (.exit 2) ∧ Le Γ st (Q409 a_succ x4 i5 x3) | (.inr r_) => e = .ret ∧ J1 Try.prog Try.f4.results.toList [] (.bool r_) [] e st) ?_ hx12 ?_
                · intro i9 y h; unfold Bq at h; refine Ad ?_; refine As ⟨[(0, (Jq a_succ)), (3, (.ptr 3 0)), (5, (Pl x4)), (6, (.int .i64 i5)), (7, (Q407 x8)), (8, (.int .i64 i9)), (52, (.bool (decide ((i9 : Int) < (a_succ.length : Int)))))], (Zt x3 x4 x8), []⟩ hq ?_; refine Ai (decide ((i9 : Int) < (a_succ.length : Int))) (by kernel_rfl) (fun hb => ?_) (fun hb => ?_)
                  · replace h := Aq hb h; clear hb; refine Ah ?_; refine Aa ?_; refine Ad ?_; refine Ak ?_; obtain ⟨hc10, h⟩ := Ab h; obtain ⟨hc11, h⟩ := Ab h; refine B9 [] [] ⟨[(0, (Jq a_succ)), (3, (.ptr 3 0)), (5, (Pl x4)), (6, (.int .i64 i5)), (7, (Q407 x8)), (8, (.int .i64 i9)), (66, (.bool (bif (x8.getD (i9).toNat false) then ((((a_succ.getD (i9).toNat []).length : Int) : Int) == (0 : Int)) else false)))], (Zt x3 x4 x8), []⟩ [(A9 i9 x8.length), ((Qg x8 i9) = true → (Qg x8 i9) = true), ((Qg x8 i9) = true → (Qg x8 i9) = true), ((Qg x8 i9) = true → (A9 i9 a_succ.length)), ((Qg x8 i9) = true → (Qg x8 i9) = true), ((Qg x8 i9) = true → (Qg x8 i9) = true), ((Qg x8 i9) = true → (Qg x8 i9) = true), ((x8.getD (i9).toNat false) = true → (Qg x8 i9) = true)] hq ⟨hc10, (fun hg => hg), (fun hg => hg), (fun hg => (hc11 hg)), (fun hg => hg), (fun hg => hg), (fun hg => hg), gT, trivial⟩ ?_; refine Ai (bif (x8.getD (i9).toNat false) then ((((a_succ.getD (i9).toNat []).length : Int) : Int) == (0 : Int)) else false) (by kernel_rfl) (fun hb => ?_) (fun hb => ?_)
                    · replace h := Aq hb h; clear hb; refine As ⟨[(2, (.bool false))], [], []⟩ hq ?_; refine Ar ?_; refine Bs ?_; refine Ax ?_; obtain rfl := OI h; exact ⟨(by intro hh; cases hh), rfl, ⟨.inl rfl, [], by kernel_rfl⟩⟩
                    · replace h := At hb h; clear hb; refine Ah ?_; refine Am ?_; refine Aa ?_; refine My ⟨[(0, (Jq a_succ)), (3, (.ptr 3 0)), (5, (Pl x4)), (6, (.int .i64 i5)), (7, (Q407 x8)), (8, (.int .i64 (Bz (i9 + (1 : Int)))))], (Zt x3 x4 x8), []⟩ hq ?_; obtain rfl := OI h; exact ⟨rfl, Le.refl _ _⟩
                  · replace h := At hb h; clear hb; refine Bc ?_; refine A3 ?_; obtain rfl := OI h; exact ⟨(by intro hh; cases hh), rfl, E0 [0, 3, 5, 6] [3, 27] hq⟩
                · clear hx12; rcases x12 with _ | r14
                  · rintro e st' ⟨rfl, hl13⟩; refine Az ?_; refine Am ?_; obtain rfl := OI h; exact ⟨rfl, Le.trans hl13 (Le.refl _ _)⟩
                  · rintro e st' ⟨rfl, hk⟩; refine Bs ?_; refine Bs ?_; obtain rfl := OI h; exact ⟨rfl, hk⟩
            · clear hx15; rcases x15 with _ | r17
              · rintro e st' ⟨rfl, hl16⟩; refine Aa ?_; refine Af hl16 ?_; refine My ⟨[(0, (Jq a_succ)), (3, (.ptr 3 0)), (5, (Pl x4)), (6, (.int .i64 (Bz (i5 + (1 : Int)))))], (Q410 x3 x4), []⟩ hq ?_; obtain rfl := OI h; exact ⟨rfl, Le.refl _ _⟩
              · rintro e st' ⟨rfl, hk⟩; refine Ax ?_; obtain rfl := OI h; exact ⟨(by intro hh; cases hh), rfl, hk⟩
          · replace h := At hb h; clear hb; refine Bc ?_; refine A3 ?_; obtain rfl := OI h; exact ⟨(by intro hh; cases hh), rfl, E0 [] [] hq⟩
        · clear hx18; rcases x18 with _ | r20
          · rintro e st' ⟨rfl, hl19⟩; refine Az ?_; refine Aa ?_; refine Af hl19 ?_; refine As ⟨[(2, (.bool true))], [], []⟩ hq ?_; refine Ar ?_; obtain rfl := OI h; exact ⟨.inl rfl, [], by kernel_rfl⟩
          · rintro e st' ⟨rfl, hk⟩; refine Bs ?_; refine Ax ?_; obtain rfl := OI h; exact hk
end
end Go.Proofs.Ytjdddniaokcgnaa

namespace Go.Proofs.Ytjdddniaokcgnaa
noncomputable section
open Go Go.RowKit
theorem J3 {n : Int} (h : -9223372036854775808 ≤ n) (h' : n < 9223372036854775808) : Bz n = n := by
  show IntKind.i64.wrap n = n
  simp only [IntKind.wrap, IntKind.bits, IntKind.signed]
  simp
  split <;> omega
theorem An {α : Type} (l : List α) (i : Nat) (d : α) (h : i < l.length) : l.getD i d = l[i] := by simp [List.getD, h]
end
end Go.Proofs.Ytjdddniaokcgnaa

namespace Go.Proofs.Ytjdddniaokcgnaa
noncomputable section
open Go Go.RowKit
set_option linter.unusedVariables false
theorem Rn {α β : Type} (l : List α) (E : α → List β) (B : Nat) (h : ∀ a ∈ l, (E a).length ≤ B) : (l.map E).flatten.length ≤ l.length * B := by
  induction l with
  | nil => simp
  | cons a l ih =>
    have h1 := h a (by simp); have h2 := ih (fun b hb => h b (by simp [hb])); rw [List.map_cons, List.flatten_cons, List.length_append, List.length_cons, Nat.add_mul]; omega
theorem Gb {α : Type} {l : List α} {i : Nat} {d : α} (h : i < l.length) : l.getD i d ∈ l := by rw [An _ _ _ h]; exact List.getElem_mem h
theorem inB_nat {i n : Nat} (h : i < n) : A9 (i : Int) n := ⟨by omega, by exact_mod_cast h⟩
end
end Go.Proofs.Ytjdddniaokcgnaa

namespace Go.Proofs.Ytjdddniaokcgnaa
noncomputable section
open Go Go.RowKit
set_option linter.unusedVariables false
set_option linter.unusedSimpArgs false
theorem D2 {S X : Type} (f : S → Option (LR S X)) (T : Nat → S) (x : X) : ∀ (n : Nat), (∀ i, i < n → f (T i) = some (.next (T (i + 1)))) → f (T n) = some (.done x) → Ay f (T 0) = some x := by
  suffices h : ∀ (k i n : Nat), i + k = n → (∀ j, i ≤ j → j < n → f (T j) = some (.next (T (j + 1)))) → f (T n) = some (.done x) → Ay f (T i) = some x from
    fun n h1 h2 => h n 0 n (by omega) (fun j _ hj => h1 j hj) h2
  intro k
  induction k with
  | zero =>
    intro i n hi _ h2
    have hin : n = i := by omega
    subst hin; exact A1 h2
  | succ k ih => intro i n hi h1 h2; rw [Ba (h1 i (Nat.le_refl _) (by omega))]; exact ih (i + 1) n (by omega) (fun j hj hj' => h1 j (by omega) hj') h2
theorem S9 {S X : Type} (f : S → Option (LR S X)) (T : Nat → S) : ∀ (n : Nat), (∀ i, i < n → f (T i) = some (.next (T (i + 1)))) → Ay f (T 0) = Ay f (T n) := by
  intro n
  induction n with
  | zero => intro _; rfl
  | succ n ih => intro h; rw [ih (fun i hi => h i (by omega)), Ba (h n (by omega))]
theorem H8 {S X : Type} (f : S → Option (LR S X)) (T : Nat → S) (p : Nat → Bool) (yes no : X) (n : Nat) (hn : ∀ i, i < n → p i = true → f (T i) = some (.next (T (i + 1)))) (hf : ∀ i, i < n → p i = false → f (T i) = some (.done no))
    (he : f (T n) = some (.done yes)) : Ay f (T 0) = some (bif (List.range n).all p then yes else no) := by
  cases hall : (List.range n).all p with
  | true =>
    rw [cond_true]; exact D2 f T yes n (fun i hi => hn i hi (List.all_eq_true.1 hall i (List.mem_range.2 hi))) he
  | false =>
    rw [cond_false]
    have hex : ∃ i, i < n ∧ p i = false := by
      have : ¬ ∀ i ∈ List.range n, p i = true := fun h => by rw [List.all_eq_true.2 h] at hall; cases hall
      simpa using this
    let P : Nat → Prop := fun m => m < n ∧ p m = false
    obtain ⟨m, hm⟩ := hex
    have key : ∀ m, m < n → p m = false → ∃ k, k < n ∧ p k = false ∧ ∀ j, j < k → p j = true := by
      intro m
      induction m using Nat.strongRecOn with
      | ind m ih =>
        intro h1 h2
        by_cases h : ∃ j, j < m ∧ p j = false
        · obtain ⟨j, hj, hpj⟩ := h; exact ih j hj (by omega) hpj
        · refine ⟨m, h1, h2, fun j hj => ?_⟩
          cases hpj : p j with
          | true => rfl
          | false => exact (h ⟨j, hj, hpj⟩).elim
    obtain ⟨k, hk, hpk, hlt⟩ := key m hm.1 hm.2; rw [S9 f T k (fun i hi => hn i (by omega) (hlt i hi))]; exact A1 (hf k hk hpk)
theorem all_range {n : Nat} {p : Nat → Bool} : (List.range n).all p = true ↔ ∀ i, i < n → p i = true := by
  rw [List.all_eq_true]; exact ⟨fun h i hi => h i (List.mem_range.2 hi), fun h i hi => h i (List.mem_range.1 hi)⟩
theorem Ao (i : Nat) : ((i : Int)).toNat = i := Int.toNat_natCast i
theorem w1 {i : Nat} (h : i < 4611686018427387904) : Bz ((i : Int) + 1) = ((i + 1 : Nat) : Int) := by rw [J3 (by omega) (by omega)]; omega
theorem Cz {i n : Nat} (h : i < n) : decide (((i : Nat) : Int) < ((n : Nat) : Int)) = true := by simpa using h
theorem Ed {n : Nat} : decide (((n : Nat) : Int) < ((n : Nat) : Int)) = false := by simp
theorem D1 {i n : Nat} (h : i < n) : A9 ((i : Nat) : Int) n := inB_nat h
theorem inbz {x : Int} {n : Nat} (h0 : 0 ≤ x) (h1 : x < n) : A9 x n := ⟨h0, h1⟩
def okAt (n : Nat) (l : List Int) (i : Nat) : Bool := decide ((if i = 0 then (-1 : Int) else l.getD (i - 1) 0) < l.getD i 0) && (decide (0 ≤ l.getD i 0) && decide (l.getD i 0 < n))
def okL (n : Nat) (l : List Int) : Bool := (List.range l.length).all (okAt n l)
def Do (L : List (List Int)) : Bool := decide (1 ≤ L.length) && decide (L.length ≤ 64) && (List.range L.length).all fun i => okL L.length (L.getD i [])
def Hz (L : List (List Int)) (k i : Nat) : Bool := (L.getD k []).contains (i : Int)
def D5 (L : List (List Int)) (m i : Nat) : List Int := ((List.range m).filter fun k => Hz L k i).map Int.ofNat
def Bp (L : List (List Int)) : List (List Int) := (List.range L.length).map (D5 L L.length)
theorem Mj (a n : Int) : Eg a n = some (decide (0 ≤ a) && decide (a < n)) := by
  unfold Eg
  cases decide ((0 : Int) ≤ a) <;> rfl
theorem m_isCount (n : Nat) : Fe (n : Int) = some (decide (1 ≤ n) && decide (n ≤ 64)) := by
  unfold Fe
  have h1 : decide ((1 : Int) ≤ (n : Int)) = decide (1 ≤ n) := by apply decide_eq_decide.2; omega
  have h2 : decide ((n : Int) ≤ (64 : Int)) = decide (n ≤ 64) := by apply decide_eq_decide.2; omega
  rw [h1, h2]
  cases decide (1 ≤ n) <;> rfl
theorem Rq (L : List (List Int)) (i : Nat) (hl : (L.getD i []).length < 4611686018427387904) :
    Ay (B6 L (i : Int)) ((-1 : Int), (0 : Int)) = some (bif okL L.length (L.getD i []) then .inl () else .inr false) := by
  refine H8 (B6 L (i : Int)) (fun j => ((if j = 0 then (-1 : Int) else (L.getD i []).getD (j - 1) 0), ((j : Nat) : Int))) (okAt L.length (L.getD i [])) (.inl ()) (.inr false) _ (fun j hj hp => ?_) (fun j hj hp => ?_) ?_
  · unfold okAt at hp; simp only [Bool.and_eq_true, decide_eq_true_eq] at hp; obtain ⟨h1, h2, h3⟩ := hp
    show B6 L (i : Int) (_, _) = _
    unfold B6; simp only [Ao, Cz hj, cond_true, Mj]; rw [Ae (D1 hj)]
    have e1 : decide ((L.getD i []).getD j 0 ≤ (if j = 0 then (-1 : Int) else (L.getD i []).getD (j - 1) 0)) = false := by simpa using h1
    simp only [e1, decide_eq_true h2, decide_eq_true h3, Bool.and_self, beq_self_eq_true, cond_true, cond_false, Option.bind_some, Bool.not_true]; rw [w1 (show j < 4611686018427387904 by omega)]
    simp
  · show B6 L (i : Int) (_, _) = _
    unfold B6; simp only [Ao, Cz hj, cond_true, Mj]; rw [Ae (D1 hj)]
    cases h1 : decide ((L.getD i []).getD j 0 ≤ (if j = 0 then (-1 : Int) else (L.getD i []).getD (j - 1) 0)) with
    | true => simp only [cond_true, show ((true == false) = false) from rfl, cond_false, Option.bind_some]
    | false =>
      have h1' : decide ((if j = 0 then (-1 : Int) else (L.getD i []).getD (j - 1) 0) < (L.getD i []).getD j 0) = true := by simpa using h1
      unfold okAt at hp; rw [h1', Bool.true_and] at hp; simp only [beq_self_eq_true, cond_true, cond_false, Option.bind_some, hp, Bool.not_false]
  · show B6 L (i : Int) (_, _) = _
    unfold B6; simp only [Ao, Ed, cond_false]
def Fits (L : List (List Int)) : Prop := L.length < 4611686018427387904 ∧ ∀ l ∈ L, l.length < 4611686018427387904
theorem Fits.at {L : List (List Int)} (h : Fits L) (i : Nat) : (L.getD i []).length < 4611686018427387904 := by
  by_cases hi : i < L.length
  · exact h.2 _ (Gb hi)
  · rw [List.getD_eq_getElem?_getD, List.getElem?_eq_none (by omega)]; simp
theorem Uz (L : List (List Int)) (h : Fits L) : Ej L = some (Do L) := by
  unfold Ej; rw [m_isCount, Option.bind_some]; unfold Do
  cases hc : (decide (1 ≤ L.length) && decide (L.length ≤ 64)) with
  | false => rfl
  | true =>
    simp only [Bool.not_true, cond_false, Bool.true_and]; have := H8 (B7 L) (fun j => ((j : Nat) : Int)) (fun i => okL L.length (L.getD i [])) (.inl ()) (.inr false) L.length (fun j hj hp => ?_) (fun j hj hp => ?_) ?_
    · rw [show Ay (B7 L) (0 : Int) = _ from this]
      cases (List.range L.length).all fun i => okL L.length (L.getD i []) <;> rfl
    · show B7 L (j : Int) = _
      unfold B7; simp only [Cz hj, cond_true]; rw [Ae (D1 hj), Rq L j (h.at j), hp]; simp only [cond_true, Option.bind_some, w1 (show j < 4611686018427387904 by have := h.1; omega)]
    · show B7 L (j : Int) = _
      unfold B7; simp only [Cz hj, cond_true]; rw [Ae (D1 hj), Rq L j (h.at j), hp]
      rfl
    · show B7 L _ = _
      unfold B7; simp only [Ed, cond_false]
end
end Go.Proofs.Ytjdddniaokcgnaa

namespace Go.Proofs.Ytjdddniaokcgnaa
noncomputable section
open Go Go.RowKit
set_option linter.unusedVariables false
set_option linter.unusedSimpArgs false
theorem H4 {α : Type} {n i : Nat} {g : Nat → α} {d : α} (h : i < n) : ((List.range n).map g).getD i d = g i := by simp [List.getD, h]
theorem Nl {α : Type} {n i : Nat} {g : Nat → α} {x : α} : ((List.range n).map g).set i x = (List.range n).map fun j => if j = i then x else g j := by
  apply List.ext_getElem?
  intro j; rw [List.getElem?_set]
  by_cases hj : j < n
  · by_cases hij : i = j
    · subst hij; simp [hj]
    · simp [hij, hj, Ne.symm hij]
  · simp [hj]; intro h; omega
theorem Fs {α : Type} {n : Nat} {g h : Nat → α} (H : ∀ i, i < n → g i = h i) : (List.range n).map g = (List.range n).map h := List.map_congr_left fun i hi => H i (List.mem_range.1 hi)
theorem mayS_iff {L : List (List Int)} : Do L = true ↔ 1 ≤ L.length ∧ L.length ≤ 64 ∧ ∀ i, i < L.length → okL L.length (L.getD i []) = true := by
  unfold Do; rw [Bool.and_eq_true, Bool.and_eq_true, all_range]; simp only [decide_eq_true_eq]; exact ⟨fun ⟨⟨a, b⟩, c⟩ => ⟨a, b, c⟩, fun ⟨a, b, c⟩ => ⟨⟨a, b⟩, c⟩⟩
theorem okL_iff {n : Nat} {l : List Int} : okL n l = true ↔ ∀ i, i < l.length → (0 ≤ l.getD i 0 ∧ l.getD i 0 < n) ∧ (0 < i → l.getD (i - 1) 0 < l.getD i 0) := by
  unfold okL; rw [all_range]; unfold okAt; simp only [Bool.and_eq_true, decide_eq_true_eq]
  constructor
  · intro h i hi; obtain ⟨h1, h2, h3⟩ := h i hi; refine ⟨⟨h2, h3⟩, fun hp => ?_⟩; rwa [if_neg (by omega)] at h1
  · intro h i hi; obtain ⟨⟨h2, h3⟩, h1⟩ := h i hi; refine ⟨?_, h2, h3⟩
    by_cases hz : i = 0
    · rw [if_pos hz]; omega
    · rw [if_neg hz]; exact h1 (by omega)
section
variable {n : Nat} {l : List Int} (h : okL n l = true)
include h
theorem Ld {i : Nat} (hi : i < l.length) : 0 ≤ l.getD i 0 ∧ l.getD i 0 < n := (okL_iff.1 h i hi).1
theorem U8 {i j : Nat} (hij : i < j) (hj : j < l.length) : l.getD i 0 < l.getD j 0 := by
  induction j with
  | zero => omega
  | succ j ih =>
    have h1 := (okL_iff.1 h (j + 1) hj).2 (by omega); rw [show j + 1 - 1 = j by omega] at h1
    by_cases he : i = j
    · rw [he]; exact h1
    · exact Int.lt_trans (ih (by omega) (by omega)) h1
theorem okL_ge {i : Nat} (hi : i < l.length) : (i : Int) ≤ l.getD i 0 := by
  induction i with
  | zero => exact (Ld h hi).1
  | succ i ih =>
    have := U8 h (show i < i + 1 by omega) hi; have := ih (by omega); omega
theorem Oh : l.length ≤ n := by
  by_cases hz : l.length = 0
  · omega
  · have h1 := okL_ge h (show l.length - 1 < l.length by omega); have h2 := (Ld h (show l.length - 1 < l.length by omega)).2; omega
theorem Iu {x : Int} (hx : x ∈ l) : 0 ≤ x ∧ x < n := by
  obtain ⟨i, hi, rfl⟩ := List.getElem_of_mem hx; have := Ld h hi; rwa [An _ _ _ hi] at this
theorem X2 : l.Pairwise (· < ·) := by
  rw [List.pairwise_iff_getElem]; intro i j hi hj hij; have := U8 h hij hj; rwa [An _ _ _ hi, An _ _ _ hj] at this
end
theorem okL_of {n : Nat} {l : List Int} (h1 : ∀ x ∈ l, 0 ≤ x ∧ x < n) (h2 : l.Pairwise (· < ·)) : okL n l = true := by
  rw [okL_iff]; intro i hi; rw [An _ _ _ hi]; refine ⟨h1 _ (List.getElem_mem hi), fun hp => ?_⟩; rw [An _ _ _ (show i - 1 < l.length by omega)]; exact (List.pairwise_iff_getElem.1 h2) _ _ _ _ (by omega)
theorem F2 {L : List (List Int)} (h : Do L = true) : L.length ≤ 64 ∧ ∀ l ∈ L, l.length ≤ 64 := by
  obtain ⟨h1, h2, h3⟩ := mayS_iff.1 h; refine ⟨h2, fun l hl => ?_⟩; obtain ⟨i, hi, rfl⟩ := List.getElem_of_mem hl; have := Oh (h3 i hi); rw [An _ _ _ hi] at this; omega
theorem fits_of {L : List (List Int)} (h : L.length ≤ 1000 ∧ ∀ l ∈ L, l.length ≤ 1000) : Fits L := ⟨by omega, fun l hl => by have := h.2 l hl; omega⟩
theorem m_clone (l : List Int) (h : l.length ≤ room) : Cx l = some l := by
  unfold Cx; rw [Ae (by simpa using h)]
  simp
theorem Ss (L : List (List Int)) (h : L.length ≤ 1000 ∧ ∀ l ∈ L, l.length ≤ 1000) : D9 L = some L := by
  have hroom : (1000 : Nat) ≤ room := by decide
  unfold D9; rw [Ae ⟨by omega, Int.le_refl _, by omega⟩, Ao]; have : Ay (C4 L) ((0 : Int), (List.range L.length).map fun i => if i < 0 then L.getD i [] else []) = some L := D2 (C4 L) (fun j => (((j : Nat) : Int), (List.range L.length).map fun i => if i < j then L.getD i [] else [])) L L.length (fun j hj => ?_) ?_
  · have e0 : (List.replicate L.length ([] : List Int)) = (List.range L.length).map fun i => if i < 0 then L.getD i [] else [] := by
      apply List.ext_getElem?
      intro i
      by_cases hi : i < L.length <;> simp [hi, List.getElem?_replicate]
    rw [e0, this]; rfl
  · show C4 L (_, _) = _
    unfold C4; simp only [Ao, Cz hj, cond_true]; rw [Ae (D1 hj), m_clone _ (by have := h.2 _ (Gb (d := []) hj); omega), Option.bind_some, Ae (D1 (by simpa using hj)), Nl, w1 (by omega)]
    congr 3
    apply Fs
    intro i hi
    by_cases h1 : i = j
    · subst h1; simp
    · by_cases h2 : i < j
      · simp [h1, h2, show i < j + 1 by omega]
      · simp [h1, h2, show ¬ i < j + 1 by omega]
  · show C4 L (_, _) = _
    unfold C4; simp only [Ed, cond_false]
    congr 2
    apply List.ext_getElem?
    intro i
    by_cases hi : i < L.length
    · simp [hi]
    · simp [hi]
theorem Wk (L : List (List Int)) (k i : Nat) : D5 L (k + 1) i = D5 L k i ++ (if Hz L k i = true then [(k : Int)] else []) := by
  unfold D5; rw [List.range_succ, List.filter_append, List.map_append]
  congr 1
  cases hg : Hz L k i <;> simp [hg]
theorem Kf (L : List (List Int)) (k i : Nat) : (D5 L k i).length ≤ k := by
  unfold D5; rw [List.length_map]; have := List.length_filter_le (fun k => Hz L k i) (List.range k)
  simpa using this
theorem Ut {l : List Int} {j : Nat} (hj : j < l.length) : l.take (j + 1) = l.take j ++ [l.getD j 0] := by
  rw [An _ _ _ hj, List.take_succ_eq_append_getElem hj]
def Ja (L : List (List Int)) (k j i : Nat) : Bool := ((L.getD k []).take j).contains (i : Int)
def Fk (L : List (List Int)) (k j : Nat) : List (List Int) := (List.range L.length).map fun i => D5 L k i ++ (if Ja L k j i = true then [(k : Int)] else [])
theorem Yx (L : List (List Int)) (h : Do L = true) (k j : Nat) (hk : k < L.length) (hj : j < (L.getD k []).length) :
    (Fk L k j).set ((L.getD k []).getD j 0).toNat ((Fk L k j).getD ((L.getD k []).getD j 0).toNat [] ++ [(k : Int)]) = Fk L k (j + 1) := by
  obtain ⟨h1, h2, h3⟩ := mayS_iff.1 h; have hok := h3 k hk; obtain ⟨a0, a1⟩ := Ld hok hj; unfold Fk; rw [H4 (by omega), Nl]
  apply Fs
  intro i hi
  have hnot : Ja L k j ((L.getD k []).getD j 0).toNat = false := by
    unfold Ja; rw [Int.toNat_of_nonneg a0]
    cases hc : ((L.getD k []).take j).contains ((L.getD k []).getD j 0) with
    | false => rfl
    | true =>
      rw [List.contains_iff_mem] at hc; obtain ⟨m, hm, he⟩ := List.getElem_of_mem hc
      have hm' : m < j := by simp at hm; omega
      rw [List.getElem_take] at he; have := U8 hok hm' hj; rw [An _ _ _ (show m < (L.getD k []).length by omega), he] at this; omega
  by_cases hi2 : i = ((L.getD k []).getD j 0).toNat
  · rw [if_pos hi2, hnot]
    have : Ja L k (j + 1) i = true := by
      unfold Ja; rw [Ut hj, List.contains_iff_mem, hi2, Int.toNat_of_nonneg a0]
      simp
    rw [this, hi2]
    simp
  · rw [if_neg hi2]
    have : Ja L k (j + 1) i = Ja L k j i := by
      unfold Ja; rw [Ut hj, Bool.eq_iff_iff, List.contains_iff_mem, List.contains_iff_mem, List.mem_append]
      constructor
      · rintro (hm | hm)
        · exact hm
        · simp only [List.mem_singleton] at hm; exact (hi2 (by omega)).elim
      · exact .inl
    rw [this]
theorem X5 (L : List (List Int)) (h : Do L = true) : Ez L = some (Bp L) := by
  obtain ⟨h1, h2, h3⟩ := mayS_iff.1 h
  have hroom : (1000 : Nat) ≤ room := by decide
  unfold Ez; rw [Ae ⟨by omega, Int.le_refl _, by omega⟩, Ao]
  have inner : ∀ k, k < L.length → Ay (C3 L (k : Int)) ((0 : Int), Fk L k 0) = some (Fk L k (L.getD k []).length) := fun k hk => by
    have hok := h3 k hk; refine D2 (C3 L (k : Int)) (fun j => (((j : Nat) : Int), Fk L k j)) (Fk L k (L.getD k []).length) (L.getD k []).length (fun j hj => ?_) ?_
    · obtain ⟨a0, a1⟩ := Ld hok hj
      have hlen : (Fk L k j).length = L.length := by simp [Fk]
      have hl64 := Oh hok
      show C3 L (k : Int) (_, _) = _
      unfold C3; simp only [Ao, Cz hj, cond_true]; have hb : A9 ((L.getD k []).getD j 0) (Fk L k j).length := ⟨a0, by rw [hlen]; exact a1⟩
      have hrow : ((Fk L k j).getD ((L.getD k []).getD j 0).toNat []).length ≤ k + 1 := by
        unfold Fk; rw [H4 (by omega), List.length_append]; have := Kf L k ((L.getD k []).getD j 0).toNat
        split
        · rw [List.length_singleton]; omega
        · rw [List.length_nil]; omega
      rw [Ae (D1 hj), Ae hb, Ae hb, Ae (by simp only [List.length_singleton]; omega), Ae hb, Yx L h k j hk hj, w1 (by omega)]
    · show C3 L (k : Int) (_, _) = _
      unfold C3; simp only [Ao, Ed, cond_false]
  have r0 : ∀ k, Fk L k 0 = (List.range L.length).map (D5 L k) := fun k => by
    unfold Fk
    apply Fs
    intro i _; simp [Ja]
  have r1 : ∀ k, Fk L k (L.getD k []).length = (List.range L.length).map (D5 L (k + 1)) := fun k => by
    unfold Fk
    apply Fs
    intro i _; rw [Wk]; unfold Ja Hz; rw [List.take_length]
  have : Ay (C2 L) ((0 : Int), (List.range L.length).map (D5 L 0)) = some (Bp L) := D2 (C2 L) (fun k => (((k : Nat) : Int), (List.range L.length).map (D5 L k))) (Bp L) L.length (fun k hk => ?_) ?_
  · have e0 : (List.replicate L.length ([] : List Int)) = (List.range L.length).map (D5 L 0) := by
      apply List.ext_getElem?
      intro i
      by_cases hi : i < L.length <;> simp [hi, List.getElem?_replicate, D5]
    rw [e0, this]; rfl
  · show C2 L (_, _) = _
    unfold C2; simp only [Cz hk, cond_true]; rw [Ae (D1 hk), ← r0, inner k hk, r1, w1 (by omega)]
    rfl
  · show C2 L (_, _) = _
    unfold C2; simp only [Ed, cond_false]
    rfl
end
end Go.Proofs.Ytjdddniaokcgnaa

namespace Go.Proofs.Ytjdddniaokcgnaa
noncomputable section
open Go Go.RowKit
set_option linter.unusedVariables false
set_option linter.unusedSimpArgs false
theorem Lq {α : Type} [DecidableEq α] {a b : List α} {d : α} (h : a.length = b.length) : ((List.range a.length).all fun i => decide (a.getD i d = b.getD i d)) = decide (a = b) := by
  rw [Bool.eq_iff_iff, all_range, decide_eq_true_eq]
  constructor
  · intro hall
    apply List.ext_getElem h
    intro i h1 h2; have := of_decide_eq_true (hall i h1); rwa [An _ _ _ h1, An _ _ _ h2] at this
  · rintro rfl i _
    simp
theorem Vq {a b : Nat} : (((a : Nat) : Int) != (b : Int)) = decide (a ≠ b) := by
  rw [Bool.eq_iff_iff, bne_iff_ne, decide_eq_true_eq]; omega
theorem V5 {a b : Int} : (a != b) = !decide (a = b) := by
  rw [Bool.eq_iff_iff]
  simp
theorem m_equal (a b : List Int) (hb : b.length < 4611686018427387904) : Dj a b = some (decide (a = b)) := by
  unfold Dj; rw [Vq]
  by_cases hl : a.length = b.length
  · rw [decide_eq_false (by simpa using hl), cond_false]; have : Ay (A8 a b) (0 : Int) = _ := H8 (A8 a b) (fun j => ((j : Nat) : Int)) (fun i => decide (a.getD i 0 = b.getD i 0)) (.inl ()) (.inr false) a.length (fun j hj hp => ?_) (fun j hj hp => ?_) ?_
    · rw [this, Lq hl]
      cases decide (a = b) <;> rfl
    · show A8 a b (j : Int) = _
      unfold A8; simp only [Ao, Cz hj, cond_true]; rw [Ae (D1 hj), Ae (D1 (by omega)), V5, hp, w1 (by omega)]
      rfl
    · show A8 a b (j : Int) = _
      unfold A8; simp only [Ao, Cz hj, cond_true]; rw [Ae (D1 hj), Ae (D1 (by omega)), V5, hp]
      rfl
    · show A8 a b _ = _
      unfold A8; simp only [Ed, cond_false]
  · rw [decide_eq_true (by simpa using hl), cond_true, decide_eq_false (fun h => hl (by rw [h]))]
theorem m_ints (a b : List Int) (ha : a.length < 4611686018427387904) : Ch a b = some (decide (a = b)) := by
  unfold Ch; rw [Vq]
  by_cases hl : a.length = b.length
  · rw [decide_eq_false (by simpa using hl), cond_false]; have : Ay (Bh a b) (0 : Int) = _ := H8 (Bh a b) (fun j => ((j : Nat) : Int)) (fun i => decide (a.getD i 0 = b.getD i 0)) (.inl ()) (.inr false) a.length (fun j hj hp => ?_) (fun j hj hp => ?_) ?_
    · rw [this, Lq hl]
      cases decide (a = b) <;> rfl
    · show Bh a b (j : Int) = _
      unfold Bh; simp only [Ao, Cz hj, cond_true]; rw [Ae (D1 hj), Ae (D1 (by omega)), V5, hp, w1 (by omega)]
      rfl
    · show Bh a b (j : Int) = _
      unfold Bh; simp only [Ao, Cz hj, cond_true]; rw [Ae (D1 hj), Ae (D1 (by omega)), V5, hp]
      rfl
    · show Bh a b _ = _
      unfold Bh; simp only [Ed, cond_false]
  · rw [decide_eq_true (by simpa using hl), cond_true, decide_eq_false (fun h => hl (by rw [h]))]
theorem Wn (a b : List (List Int)) (hb : Fits b) : B0 a b = some (decide (a = b)) := by
  unfold B0; rw [Vq]
  by_cases hl : a.length = b.length
  · rw [decide_eq_false (by simpa using hl), cond_false]; have hb1 := hb.1; have : Ay (Au a b) (0 : Int) = _ := H8 (Au a b) (fun j => ((j : Nat) : Int)) (fun i => decide (a.getD i [] = b.getD i [])) (.inl ()) (.inr false) a.length (fun j hj hp => ?_) (fun j hj hp => ?_) ?_
    · rw [this, Lq hl]
      cases decide (a = b) <;> rfl
    · show Au a b (j : Int) = _
      unfold Au; simp only [Ao, Cz hj, cond_true]; rw [Ae (D1 hj), Ae (D1 (by omega)), m_equal _ _ (hb.at j), hp, w1 (by omega)]
      rfl
    · show Au a b (j : Int) = _
      unfold Au; simp only [Ao, Cz hj, cond_true]; rw [Ae (D1 hj), Ae (D1 (by omega)), m_equal _ _ (hb.at j), hp]
      rfl
    · show Au a b _ = _
      unfold Au; simp only [Ed, cond_false]
  · rw [decide_eq_true (by simpa using hl), cond_true, decide_eq_false (fun h => hl (by rw [h]))]
theorem Ct (L : List (List Int)) : (Bp L).length = L.length := by simp [Bp]
theorem Gp {L : List (List Int)} {i : Nat} (hi : i < L.length) : (Bp L).getD i [] = D5 L L.length i := by unfold Bp; rw [H4 hi]
theorem Kc {L : List (List Int)} (h : Do L = true) : (Bp L).length ≤ 64 ∧ ∀ l ∈ Bp L, l.length ≤ 64 := by
  obtain ⟨h1, _⟩ := F2 h; refine ⟨by rw [Ct]; exact h1, fun l hl => ?_⟩; obtain ⟨i, hi, rfl⟩ := List.mem_map.1 hl; have := Kf L L.length i; omega
theorem Il {L : List (List Int)} (h : L.length ≤ 64 ∧ ∀ l ∈ L, l.length ≤ 64) : Fits L := fits_of ⟨by omega, fun l hl => by have := h.2 l hl; omega⟩
theorem Vf {L : List (List Int)} (h : L.length ≤ 64 ∧ ∀ l ∈ L, l.length ≤ 64) : L.length ≤ 1000 ∧ ∀ l ∈ L, l.length ≤ 1000 := ⟨by omega, fun l hl => by have := h.2 l hl; omega⟩
def Hr (g : Ag) : Bool := Do g.Succ && decide (g.Pred = Bp g.Succ)
theorem Yr (g : Ag) (h : Fits g.Succ) : Fx g = some (Hr g) := by
  unfold Fx Hr; rw [Uz _ h, Option.bind_some]
  cases hm : Do g.Succ with
  | false => rfl
  | true =>
    simp only [beq_self_eq_true, cond_true, X5 _ hm, Option.bind_some, Wn _ _ (Il (Kc hm)), Bool.true_and]
def E1 (L : List (List Int)) : Ag := ⟨L, Bp L⟩
def g0 : Ag := ⟨[], []⟩
theorem Za (L : List (List Int)) (h : Fits L) : D4 L = some (bif Do L then (E1 L, 0) else (g0, 5)) := by
  unfold D4; rw [Uz _ h, Option.bind_some]
  cases hm : Do L with
  | false => rfl
  | true =>
    simp only [Bool.not_true, cond_false, Ss _ (Vf (F2 hm)), X5 _ hm, Option.bind_some]
    rfl
theorem Jy {L : List (List Int)} (h : Do L = true) : Hr (E1 L) = true := by simp [Hr, E1, h]
theorem Rw (g : Ag) (h : Fits g.Succ) : C8 g = some (bif Hr g then ⟨g.Pred, g.Succ⟩ else g0) := by
  unfold C8; rw [Yr _ h, Option.bind_some]
  cases hm : Hr g with
  | false => rfl
  | true =>
    have hm' := hm; unfold Hr at hm'; simp only [Bool.and_eq_true, decide_eq_true_eq] at hm'; simp only [Bool.not_true, cond_false, Ss _ (Vf (F2 hm'.1)), Option.bind_some]; rw [Ss _ (by rw [hm'.2]; exact Vf (Kc hm'.1))]
    rfl
end
end Go.Proofs.Ytjdddniaokcgnaa

namespace Go.Proofs.Ytjdddniaokcgnaa
noncomputable section
open Go Go.RowKit
set_option linter.unusedVariables false
set_option linter.unusedSimpArgs false
theorem Wc {R : Type} {c : Bool} {q : Prop} [Decidable q] {k : Option R} (h : q) : Ck (c = true → q) k = k := Ae fun _ => h
theorem Gx {L : List (List Int)} (h : Do L = true) : Fits (E1 L).Succ ∧ Fits (E1 L).Pred := ⟨Il (F2 h), Il (Kc h)⟩
def Ra (L : List (List Int)) : Bool := (List.range L.length).all fun i => decide ((L.getD i []).length ≤ 100) && decide (i ≤ 100)
theorem m_small (L : List (List Int)) (hL : L.length < 9223372036854775808) : Dn L = some (Ra L) := by
  unfold Dn
  have step : ∀ j : Nat, j < L.length → Bd L (j : Int) = bif (decide ((L.getD j []).length ≤ 100) && decide (j ≤ 100)) then some (.next (((j + 1 : Nat) : Int))) else some (.done (.inr false)) := fun j hj => by
    unfold Bd; simp only [Ao, Cz hj, cond_true]; rw [Ae (D1 hj)]
    have hw : Bz ((j : Int) + 1) = ((j + 1 : Nat) : Int) := by rw [J3 (by omega) (by omega)]; omega
    rw [hw]
    by_cases h1 : (L.getD j []).length ≤ 100
    · rw [decide_eq_true h1, decide_eq_false (show ¬ (100 : Int) < ((L.getD j []).length : Int) by omega)]
      by_cases h2 : j ≤ 100
      · rw [decide_eq_true h2, decide_eq_false (show ¬ (100 : Int) < (j : Int) by omega)]; rfl
      · rw [decide_eq_false h2, decide_eq_true (show (100 : Int) < (j : Int) by omega)]; rfl
    · rw [decide_eq_false h1, decide_eq_true (show (100 : Int) < ((L.getD j []).length : Int) by omega)]; rfl
  have : Ay (Bd L) (0 : Int) = _ := H8 (Bd L) (fun j => ((j : Nat) : Int)) (fun i => decide ((L.getD i []).length ≤ 100) && decide (i ≤ 100)) (.inl ()) (.inr false) L.length (fun j hj hp => ?_) (fun j hj hp => ?_) ?_
  · rw [this]; unfold Ra
    cases (List.range L.length).all fun i => decide ((L.getD i []).length ≤ 100) && decide (i ≤ 100) <;> rfl
  · show Bd L (j : Int) = _
    rw [step j hj, hp]; rfl
  · show Bd L (j : Int) = _
    rw [step j hj, hp]; rfl
  · show Bd L _ = _
    unfold Bd; simp only [Ed, cond_false]
theorem Yb {L : List (List Int)} (h : Ra L = true) : Fits L := by
  unfold Ra at h; rw [all_range] at h; simp only [Bool.and_eq_true, decide_eq_true_eq] at h; refine fits_of ⟨?_, fun l hl => ?_⟩
  · by_cases h0 : L.length = 0
    · omega
    · have := (h (L.length - 1) (by omega)).2; omega
  · obtain ⟨i, hi, rfl⟩ := List.getElem_of_mem hl; have := (h i hi).1; rw [An _ _ _ hi] at this; omega
end
end Go.Proofs.Ytjdddniaokcgnaa

namespace Go.Proofs.Ytjdddniaokcgnaa
noncomputable section
open Go Go.RowKit
set_option linter.unusedVariables false
set_option linter.unusedSimpArgs false
def upd (s : Nat → Bool) (y : Nat) : Nat → Bool := fun z => decide (z = y) || s z
theorem upd_true {s : Nat → Bool} {y z : Nat} : upd s y z = true ↔ z = y ∨ s z = true := by simp [upd]
theorem upd_false {s : Nat → Bool} {y z : Nat} : upd s y z = false ↔ z ≠ y ∧ s z = false := by simp [upd]
inductive VL (S : Nat → List Nat) : (Nat → Bool) → List Nat → (Nat → Bool) → List Nat → Prop
  | nil (s : Nat → Bool) : VL S s [] s []
  | skip {s s' : Nat → Bool} {y : Nat} {l o : List Nat} (h : s y = true) (t : VL S s l s' o) : VL S s (y :: l) s' o
  | step {s s1 s2 : Nat → Bool} {y : Nat} {l o1 o2 : List Nat} (h : s y = false) (a : VL S (upd s y) (S y) s1 o1) (b : VL S s1 l s2 o2) : VL S s (y :: l) s2 (o1 ++ y :: o2)
inductive Rch (S : Nat → List Nat) : Nat → Nat → Prop
  | refl (x : Nat) : Rch S x x
  | head {x y z : Nat} (h : y ∈ S x) (t : Rch S y z) : Rch S x z
theorem Rch.tail {S : Nat → List Nat} {x y z : Nat} (h : Rch S x y) (hz : z ∈ S y) : Rch S x z := by
  induction h with
  | refl x => exact .head hz (.refl _)
  | head h _ ih => exact .head h (ih hz)
theorem Rch.trans {S : Nat → List Nat} {x y z : Nat} (h : Rch S x y) (k : Rch S y z) : Rch S x z := by
  induction h with
  | refl x => exact k
  | head h _ ih => exact .head h (ih k)
variable {S : Nat → List Nat} {s s' : Nat → Bool} {l o : List Nat}
theorem VL.seen (h : VL S s l s' o) (z : Nat) : s' z = true ↔ s z = true ∨ z ∈ o := by
  induction h with
  | nil s => simp
  | skip h _ ih => exact ih
  | @step s s1 s2 y l o1 o2 h a b iha ihb =>
    rw [ihb, iha, upd_true]; simp only [List.mem_append, List.mem_cons]
    constructor
    · rintro ((( rfl | h1) | h1) | h1)
      · exact .inr (.inr (.inl rfl))
      · exact .inl h1
      · exact .inr (.inl h1)
      · exact .inr (.inr (.inr h1))
    · rintro (h1 | h1 | rfl | h1)
      · exact .inl (.inl (.inr h1))
      · exact .inl (.inr h1)
      · exact .inl (.inl (.inl rfl))
      · exact .inr h1
theorem VL.fresh (h : VL S s l s' o) {z : Nat} (hz : z ∈ o) : s z = false := by
  induction h with
  | nil s => cases hz
  | skip h _ ih => exact ih hz
  | @step s s1 s2 y l o1 o2 h a b iha ihb =>
    rcases List.mem_append.1 hz with h1 | h1
    · exact (upd_false.1 (iha h1)).2
    · rcases List.mem_cons.1 h1 with rfl | h1
      · exact h
      · have := ihb h1
        cases hs : s z with
        | false => rfl
        | true => rw [(a.seen z).2 (.inl (upd_true.2 (.inr hs)))] at this; cases this
theorem VL.nodup (h : VL S s l s' o) : o.Nodup := by
  induction h with
  | nil s => exact List.nodup_nil
  | skip h _ ih => exact ih
  | @step s s1 s2 y l o1 o2 h a b iha ihb =>
    rw [List.nodup_append]; refine ⟨iha, List.nodup_cons.2 ⟨fun hy => ?_, ihb⟩, fun u hu v hv => ?_⟩
    · have := b.fresh hy; rw [(a.seen y).2 (.inl (upd_true.2 (.inl rfl)))] at this
      cases this
    · rintro rfl; rcases List.mem_cons.1 hv with rfl | hv
      · have := a.fresh hu; rw [upd_true.2 (.inl rfl)] at this
        cases this
      · have := b.fresh hv; rw [(a.seen u).2 (.inr hu)] at this
        cases this
theorem VL.rch (h : VL S s l s' o) {z : Nat} (hz : z ∈ o) : ∃ y ∈ l, Rch S y z := by
  induction h with
  | nil s => cases hz
  | skip h _ ih => obtain ⟨y, hy, hr⟩ := ih hz; exact ⟨y, List.mem_cons_of_mem _ hy, hr⟩
  | @step s s1 s2 y l o1 o2 h a b iha ihb =>
    rcases List.mem_append.1 hz with h1 | h1
    · obtain ⟨u, hu, hr⟩ := iha h1; exact ⟨y, List.mem_cons_self .., .head hu hr⟩
    · rcases List.mem_cons.1 h1 with rfl | h1
      · exact ⟨z, List.mem_cons_self .., .refl z⟩
      · obtain ⟨u, hu, hr⟩ := ihb h1; exact ⟨u, List.mem_cons_of_mem _ hu, hr⟩
theorem VL.closed (h : VL S s l s' o) : (∀ y ∈ l, s' y = true) ∧ ∀ z ∈ o, ∀ y ∈ S z, s' y = true := by
  induction h with
  | nil s => exact ⟨(fun _ h => by cases h), (fun _ h => by cases h)⟩
  | @skip s s' y l o h t ih =>
    refine ⟨fun u hu => ?_, ih.2⟩; rcases List.mem_cons.1 hu with rfl | hu
    · exact (t.seen u).2 (.inl h)
    · exact ih.1 u hu
  | @step s s1 s2 y l o1 o2 h a b iha ihb =>
    refine ⟨fun u hu => ?_, fun z hz u hu => ?_⟩
    · rcases List.mem_cons.1 hu with rfl | hu
      · exact (b.seen u).2 (.inl ((a.seen u).2 (.inl (upd_true.2 (.inl rfl)))))
      · exact ihb.1 u hu
    · rcases List.mem_append.1 hz with h1 | h1
      · exact (b.seen u).2 (.inl (iha.2 z h1 u hu))
      · rcases List.mem_cons.1 h1 with rfl | h1
        · exact (b.seen u).2 (.inl (iha.1 u hu))
        · exact ihb.2 z h1 u hu
theorem VL.above (h : VL S s l s' o) (hf : ∀ z, ∀ y ∈ S z, z < y) {b : Nat} (hb : ∀ y ∈ l, b < y) : ∀ z ∈ o, b < z := by
  induction h generalizing b with
  | nil s => intro z hz; cases hz
  | skip h _ ih => exact ih (fun y hy => hb y (List.mem_cons_of_mem _ hy))
  | @step s s1 s2 y l o1 o2 h a c iha ihb =>
    intro z hz; have hy := hb y (List.mem_cons_self ..); rcases List.mem_append.1 hz with h1 | h1
    · exact iha (fun u hu => Nat.lt_trans hy (hf y u hu)) z h1
    · rcases List.mem_cons.1 h1 with rfl | h1
      · exact hy
      · exact ihb (fun u hu => hb u (List.mem_cons_of_mem _ hu)) z h1
theorem VL.ahead (h : VL S s l s' o) (hf : ∀ z, ∀ y ∈ S z, z < y) : ∀ z ∈ o, ∀ y ∈ S z, s y = true ∨ ∃ A B, o = A ++ z :: B ∧ y ∈ A := by
  induction h with
  | nil s => intro z hz; cases hz
  | skip h _ ih => exact ih
  | @step s s1 s2 y l o1 o2 h a c iha ihb =>
    intro z hz u hu; rcases List.mem_append.1 hz with h1 | h1
    · have hzy : y < z := a.above hf (fun v hv => hf y v hv) z h1; have hzu := hf z u hu; rcases iha z h1 u hu with h2 | ⟨A, B, rfl, hA⟩
      · rcases upd_true.1 h2 with rfl | h2
        · omega
        · exact .inl h2
      · exact .inr ⟨A, B ++ y :: o2, by simp, hA⟩
    · rcases List.mem_cons.1 h1 with rfl | h1z
      · have hzu := hf z u hu; rcases (a.seen u).1 (a.closed.1 u hu) with h2 | h2
        · rcases upd_true.1 h2 with rfl | h2
          · omega
          · exact .inl h2
        · exact .inr ⟨o1, o2, rfl, h2⟩
      · rcases ihb z h1z u hu with h2 | ⟨A, B, rfl, hA⟩
        · rcases (a.seen u).1 h2 with h3 | h3
          · rcases upd_true.1 h3 with rfl | h3
            · obtain ⟨P, Q, rfl⟩ := List.append_of_mem h1z; exact .inr ⟨o1 ++ u :: P, Q, by simp, by simp⟩
            · exact .inl h3
          · obtain ⟨P, Q, rfl⟩ := List.append_of_mem h1z; exact .inr ⟨o1 ++ y :: P, Q, by simp, by simp [h3]⟩
        · exact .inr ⟨o1 ++ y :: A, B, by simp, by simp [hA]⟩
def Wi (n : Nat) (s : Nat → Bool) : Nat := ((List.range n).filter fun z => !s z).length
theorem Ma {n : Nat} {s : Nat → Bool} {y : Nat} (hy : y < n) (h : s y = false) : Wi n (upd s y) + 1 = Wi n s := by
  unfold Wi
  induction n with
  | zero => omega
  | succ n ih =>
    rw [List.range_succ, List.filter_append, List.filter_append, List.length_append, List.length_append]
    by_cases hyn : y = n
    · subst hyn
      have e : (List.range y).filter (fun z => !upd s y z) = (List.range y).filter (fun z => !s z) := by
        apply List.filter_congr
        intro z hz; have := List.mem_range.1 hz; simp [upd, show z ≠ y by omega]
      rw [e]; simp [upd, h]
    · have := ih (by omega)
      have e : ([n].filter fun z => !upd s y z).length = ([n].filter fun z => !s z).length := by
        simp only [List.filter_cons, List.filter_nil, upd]; simp [Ne.symm hyn]
      omega
theorem Xw {n : Nat} {s s' : Nat → Bool} (h : ∀ z, s z = true → s' z = true) : Wi n s' ≤ Wi n s := by
  unfold Wi
  apply List.Sublist.length_le
  have : (List.range n).filter (fun z => !s' z) = ((List.range n).filter fun z => !s z).filter fun z => !s' z := by
    rw [List.filter_filter]
    apply List.filter_congr
    intro z _
    cases hs : s z with
    | false => simp
    | true => simp [h z hs]
  rw [this]; exact List.filter_sublist
theorem VL.exist {n : Nat} (hS : ∀ z, z < n → ∀ y ∈ S z, y < n) : ∀ (m : Nat) (s : Nat → Bool), Wi n s ≤ m → ∀ l : List Nat, (∀ y ∈ l, y < n) → ∃ s' o, VL S s l s' o := by
  intro m
  induction m with
  | zero =>
    intro s hm l
    induction l with
    | nil => intro _; exact ⟨s, [], .nil s⟩
    | cons y l ih =>
      intro hl; obtain ⟨s', o, h⟩ := ih (fun z hz => hl z (List.mem_cons_of_mem _ hz))
      cases hy : s y with
      | true => exact ⟨s', o, .skip hy h⟩
      | false => have := Ma (hl y (List.mem_cons_self ..)) hy; omega
  | succ m ih =>
    intro s hm l
    induction l generalizing s with
    | nil => intro _; exact ⟨s, [], .nil s⟩
    | cons y l ihl =>
      intro hl
      cases hy : s y with
      | true =>
        obtain ⟨s', o, h⟩ := ihl s hm (fun z hz => hl z (List.mem_cons_of_mem _ hz)); exact ⟨s', o, .skip hy h⟩
      | false =>
        have hyn := hl y (List.mem_cons_self ..); have := Ma hyn hy; obtain ⟨s1, o1, h1⟩ := ih (upd s y) (by omega) (S y) (hS y hyn); have h2 : Wi n s1 ≤ Wi n s := Xw fun z hz => (h1.seen z).2 (.inl (upd_true.2 (.inr hz))); obtain ⟨s2, o2, h3⟩ := ihl s1 (by omega) (fun z hz => hl z (List.mem_cons_of_mem _ hz)); exact ⟨s2, _, .step hy h1 h3⟩
def one (r : Nat) : Nat → Bool := fun z => decide (z = r)
def Ord (S : Nat → List Nat) (r : Nat) (L : List Nat) : Prop := ∃ s' o, VL S (one r) (S r) s' o ∧ L = r :: o.reverse
theorem Ord.exist {n : Nat} (hS : ∀ z, z < n → ∀ y ∈ S z, y < n) {r : Nat} (hr : r < n) : ∃ L, Ord S r L := by
  obtain ⟨s', o, h⟩ := VL.exist hS _ (one r) (Nat.le_refl _) (S r) (hS r hr); exact ⟨_, s', o, h, rfl⟩
theorem Ord.mem {r : Nat} {L : List Nat} (h : Ord S r L) (z : Nat) : z ∈ L ↔ Rch S r z := by
  obtain ⟨s', o, h, rfl⟩ := h
  have hs : ∀ z, s' z = true ↔ z = r ∨ z ∈ o := fun z => by rw [h.seen]; simp [one]
  have hc : ∀ x, s' x = true → ∀ y ∈ S x, s' y = true := fun x hx y hy => by
    rcases (hs x).1 hx with rfl | hx
    · exact h.closed.1 y hy
    · exact h.closed.2 x hx y hy
  simp only [List.mem_cons, List.mem_reverse]; rw [← hs z]
  constructor
  · intro hz; rcases (hs z).1 hz with rfl | hz
    · exact .refl _
    · obtain ⟨y, hy, hr⟩ := h.rch hz; exact .head hy hr
  · intro hr
    have key : ∀ x z, Rch S x z → s' x = true → s' z = true := by
      intro x z hxz
      induction hxz with
      | refl x => exact id
      | head hy _ ih => exact fun hx => ih (hc _ hx _ hy)
    exact key r z hr ((hs r).2 (.inl rfl))
theorem Ord.nodup {r : Nat} {L : List Nat} (h : Ord S r L) : L.Nodup := by
  obtain ⟨s', o, h, rfl⟩ := h; refine List.nodup_cons.2 ⟨fun hr => ?_, (List.reverse_perm o).nodup_iff.2 h.nodup⟩; have := h.fresh (List.mem_reverse.1 hr); simp [one] at this
theorem Ord.fwd {r : Nat} {L : List Nat} (h : Ord S r L) (hf : ∀ z, ∀ y ∈ S z, z < y) : ∀ z ∈ L, ∀ y ∈ S z, ∃ A B, L = A ++ z :: B ∧ y ∈ B := by
  obtain ⟨s', o, h, rfl⟩ := h; intro z hz y hy; have hzy := hf z y hy; rcases List.mem_cons.1 hz with rfl | hz
  · refine ⟨[], o.reverse, rfl, ?_⟩; rcases (h.seen y).1 (h.closed.1 y hy) with h1 | h1
    · simp [one] at h1; omega
    · exact List.mem_reverse.2 h1
  · have hz := List.mem_reverse.1 hz; have hrz : r < z := h.above hf (fun v hv => hf r v hv) z hz; rcases h.ahead hf z hz y hy with h1 | ⟨A, B, rfl, hA⟩
    · simp [one] at h1; omega
    · exact ⟨r :: B.reverse, A.reverse, by simp, List.mem_reverse.2 hA⟩
end
end Go.Proofs.Ytjdddniaokcgnaa

namespace Go.Proofs.Ytjdddniaokcgnaa
noncomputable section
open Go Go.RowKit
set_option linter.unusedVariables false
set_option linter.unusedSimpArgs false
theorem m_reverse (l : List Int) (hl : l.length < 4611686018427387904) : Cn l = some l.reverse := by
  unfold Cn
  by_cases h0 : l.length = 0
  · obtain rfl : l = [] := List.length_eq_zero_iff.1 h0
    have : Ay A5 ((0 : Int), (Bz ((([] : List Int).length : Int) - 1)), ([] : List Int)) = some [] := by
      apply A1
      unfold A5; rw [J3 (by simp) (by simp)]
      rfl
    rw [this]; rfl
  · have hw : Bz ((l.length : Int) - 1) = ((l.length - 1 : Nat) : Int) := by rw [J3 (by omega) (by omega)]; omega
    rw [hw]
    let C : Nat → List Int := fun k => (List.range l.length).map fun i => if i < k ∨ l.length - 1 - k < i then l.getD (l.length - 1 - i) 0 else l.getD i 0
    have hC : ∀ k i, i < l.length → (C k).getD i 0 = if i < k ∨ l.length - 1 - k < i then l.getD (l.length - 1 - i) 0 else l.getD i 0 := fun k i hi => by simp only [C]; rw [H4 hi]
    have hlen : ∀ k, (C k).length = l.length := fun k => by simp [C]
    have := D2 A5 (fun k => (((k : Nat) : Int), ((l.length - 1 - k : Nat) : Int), C k)) l.reverse (l.length / 2) (fun k hk => ?_) ?_
    · have e0 : C 0 = l := by
        apply List.ext_getElem (by simp [C])
        intro i h1 h2; have := hC 0 i h2; rw [An _ _ _ h1, An _ _ _ h2] at this; rw [this, if_neg (by omega)]
      have this' : Ay A5 ((0 : Int), ((l.length - 1 : Nat) : Int), l) = some l.reverse := by
        have h2 := this; simp only [e0] at h2; exact h2
      rw [this']; rfl
    · show A5 (_, _, _) = _
      unfold A5
      have hlt : k < l.length - 1 - k := by omega
      simp only [Cz hlt, cond_true, Ao]; rw [Ae (D1 (by rw [hlen]; omega)), Ae (D1 (by rw [hlen]; omega)), Ae (D1 (by rw [hlen]; omega)), Ae (D1 (by rw [hlen]; omega))]; rw [w1 (by omega), show Bz (((l.length - 1 - k : Nat) : Int) - 1) = ((l.length - 1 - (k + 1) : Nat) : Int) by rw [J3 (by omega) (by omega)]; omega]
      congr 4
      rw [hC k _ (by omega), hC k _ (by omega), if_neg (by omega), if_neg (by omega)]; simp only [C]; rw [Nl, Nl]
      apply Fs
      intro i hi
      by_cases h1 : i = k
      · subst h1; rw [if_neg (by omega), if_pos rfl, if_pos (by omega)]
      · by_cases h2 : i = l.length - 1 - k
        · subst h2; rw [if_pos rfl, if_pos (by omega)]
          congr 1; omega
        · rw [if_neg h2, if_neg h1]
          by_cases h3 : i < k ∨ l.length - 1 - k < i
          · rw [if_pos h3, if_pos (by omega)]
          · rw [if_neg h3, if_neg (by omega)]
    · show A5 (_, _, _) = _
      unfold A5; have hd : decide (((l.length / 2 : Nat) : Int) < ((l.length - 1 - l.length / 2 : Nat) : Int)) = false := decide_eq_false (by omega); simp only [hd, cond_false]
      congr 2
      apply List.ext_getElem (by simp [C])
      intro i h1 h2
      have h3 : i < l.length := by simpa [C] using h1
      have := hC (l.length / 2) i h3; rw [An _ _ _ h1] at this; rw [this, List.getElem_reverse]
      split
      · rw [An _ _ _ (by omega)]
      · rw [An _ _ _ h3]
        congr 1; omega
theorem top {st : List Int} {a : Int} (h : st.length < 4611686018427387904) : (st ++ [a]).getD (Bz (((st ++ [a]).length : Int) - 1)).toNat 0 = a := by
  have : Bz (((st ++ [a]).length : Int) - 1) = ((st.length : Nat) : Int) := by rw [List.length_append, List.length_singleton, J3 (by omega) (by omega)]; omega
  rw [this, Ao]; simp [List.getD]
theorem topi {st : List Int} {a : Int} (h : st.length < 4611686018427387904) : Bz (((st ++ [a]).length : Int) - 1) = ((st.length : Nat) : Int) := by
  rw [List.length_append, List.length_singleton, J3 (by omega) (by omega)]; omega
theorem L2_done {g : Ag} {R : List Bool} {st T : List Int} {a : Nat} (hst : st.length < 64) (ha : a < g.Succ.length) (h64 : g.Succ.length ≤ 64) (ht : T.getD a 0 = ((g.Succ.getD a []).length : Int)) :
    Dt g R (st ++ [(a : Int)]) T = some (.done (.inl T)) := by
  unfold Dt; simp only [top (st := st) (a := (a : Int)) (by omega), Ao]; rw [Ae (D1 (by omega)), Ae (D1 ha), ht, Ed, cond_false]
theorem L2_step {g : Ag} {R : List Bool} {st T : List Int} {a t y : Nat} (hst : st.length < 64) (ha : a < g.Succ.length) (h64 : g.Succ.length ≤ 64) (ht : T.getD a 0 = (t : Int)) (htl : t < (g.Succ.getD a []).length) (htm : t < 64)
    (hy : (g.Succ.getD a []).getD t 0 = (y : Int)) (hyn : y < g.Succ.length) :
    Dt g R (st ++ [(a : Int)]) T = bif R.getD y false then some (.next (Fc 64 (0 : Int) T a ((t + 1 : Nat) : Int))) else some (.done (.inr (Fc 64 false R y true, Fc 64 (0 : Int) T a ((t + 1 : Nat) : Int), (st ++ [(a : Int)]) ++ [(y : Int)]))) := by
  have hroom : (1000 : Nat) ≤ room := by decide
  unfold Dt; simp only [top (st := st) (a := (a : Int)) (by omega), Ao, ht, hy]; rw [Ae (D1 (by omega)), Ae (D1 ha), Cz htl, cond_true, Ae (D1 ha), Ae (D1 (by omega)), Ae (D1 htl), Ae (D1 (by omega)), Ae (D1 (by omega)), Ae (D1 (by omega)), w1 (by omega)]
  cases R.getD y false with
  | true => rfl
  | false =>
    simp only [Bool.not_false, cond_true, cond_false]; rw [Ae (D1 (by omega)), Ae (by rw [List.length_append, List.length_singleton, List.length_singleton]; omega)]
theorem F3_eq {g : Ag} {R : List Bool} {st T Lf : List Int} {a : Nat} (hst : st.length < 64) (hLf : Lf.length < 64) :
    Cf g (R, T, st ++ [(a : Int)], Lf) = (Ay (Dt g R (st ++ [(a : Int)])) T).bind fun x => match x with
      | .inl T' => if st = [] then some (.done (Lf ++ [(a : Int)]).reverse) else some (.next (R, T', st, Lf ++ [(a : Int)]))
      | .inr (R', T', st') => some (.next (R', T', st', Lf)) := by
  have hroom : (1000 : Nat) ≤ room := by decide
  unfold Cf; simp only
  have hb : A9 (Bz (((st ++ [(a : Int)]).length : Int) - 1)) (st ++ [(a : Int)]).length := by rw [topi (by omega)]; exact D1 (by simp)
  rw [Ae hb]
  congr 1
  funext x
  cases x with
  | inr y => obtain ⟨R', T', st'⟩ := y; rfl
  | inl T' =>
    simp only [top (st := st) (a := (a : Int)) (by omega)]; rw [topi (by omega), Ao, Ae (by rw [List.length_singleton]; omega), Ae ⟨by omega, by simp⟩]; have e : (st ++ [(a : Int)]).take st.length = st := List.take_left' rfl; rw [e]
    cases st with
    | nil =>
      rw [if_pos rfl]
      have : decide ((0 : Int) < (([] : List Int).length : Int)) = false := by decide
      rw [this, cond_false, m_reverse _ (by simp; omega)]; simp only [Option.bind_some]; rw [Ae (by simp)]
    | cons b st' =>
      rw [if_neg (by simp)]; have : decide ((0 : Int) < ((b :: st').length : Int)) = true := decide_eq_true (by simp <;> omega); rw [this, cond_true]
theorem Zr {S X : Type} {f : S → Option (LR S X)} {a b : S} (h : f a = f b) : Ay f a = Ay f b := by
  cases hb : f b with
  | none => rw [Na (h.trans hb), Na hb]
  | some r => cases r with
    | done x => rw [A1 (h.trans hb), A1 hb]
    | next s => rw [Ba (h.trans hb), Ba hb]
theorem I6 {S X : Type} {f : S → Option (LR S X)} {s : S} : Km (f s) f = Ay f s := by
  unfold Km
  cases hb : f s with
  | none => rw [Na hb]; rfl
  | some r => cases r with
    | done x => rw [A1 hb]; rfl
    | next s' => rw [Ba hb]; rfl
def sN (L : List (List Int)) (k : Nat) : List Nat := (L.getD k []).map Int.toNat
def RelS (R : List Bool) (s : Nat → Bool) : Prop := ∀ z, z < 64 → R.getD z false = s z
theorem Hg {α : Type} {d : α} {l : List α} {i : Nat} {x : α} {k : Nat} (hk : k < 64) : (Fc 64 d l i x).getD k d = if k = i then x else l.getD k d := by
  rw [Uu hk]
  by_cases h : k = i
  · subst h; simp
  · have : Nat.beq k i = false := by cases hb : Nat.beq k i with | false => rfl | true => exact absurd (Nat.eq_of_beq_eq_true hb) h
    rw [this, if_neg h]; rfl
theorem RelS.set {R : List Bool} {s : Nat → Bool} (h : RelS R s) {y : Nat} : RelS (Fc 64 false R y true) (upd s y) := fun z hz => by
  rw [Hg hz, h z hz]
  by_cases hzy : z = y
  · simp [upd, hzy]
  · simp [upd, hzy]
def Ii (o : List Nat) : List Int := o.map Int.ofNat
theorem order_main {g : Ag} (hm : Do g.Succ = true) {s s' : Nat → Bool} {l o : List Nat} (hv : VL (sN g.Succ) s l s' o) :
    ∀ (R : List Bool) (T st Lf : List Int) (a t : Nat), RelS R s → a < g.Succ.length → l = (sN g.Succ a).drop t → T.getD a 0 = (t : Int) → t ≤ (sN g.Succ a).length → s a = true → (∀ z, z < 64 → s z = false → T.getD z 0 = 0) →
      Lf.length + Wi 64 s + st.length + 1 ≤ 64 →
      ∃ (R' : List Bool) (T' : List Int), RelS R' s' ∧ (∀ z, z < 64 → s' z = false → T'.getD z 0 = 0) ∧ (∀ z, z < 64 → s z = true → z ≠ a → T'.getD z 0 = T.getD z 0) ∧ Lf.length + o.length + Wi 64 s' + st.length + 1 ≤ 64 ∧
        Ay (Cf g) (R, T, st ++ [(a : Int)], Lf) = if st = [] then some (Lf ++ Ii o ++ [(a : Int)]).reverse else Ay (Cf g) (R', T', st, Lf ++ Ii o ++ [(a : Int)]) := by
  obtain ⟨hL1, hL64, hLok⟩ := mayS_iff.1 hm
  have hlenS : ∀ a, (sN g.Succ a).length = (g.Succ.getD a []).length := fun a => by simp [sN]
  have hdrop : ∀ (a t y : Nat) (l' : List Nat), a < g.Succ.length → y :: l' = (sN g.Succ a).drop t → t < (g.Succ.getD a []).length ∧ (g.Succ.getD a []).getD t 0 = (y : Int) ∧ y < g.Succ.length ∧ l' = (sN g.Succ a).drop (t + 1) := fun a t y l' ha he => by
    have ht : t < (sN g.Succ a).length := by
      rcases Nat.lt_or_ge t (sN g.Succ a).length with h | h
      · exact h
      · rw [List.drop_eq_nil_of_le h] at he; cases he
    rw [List.drop_eq_getElem_cons ht] at he; simp only [List.cons.injEq] at he; obtain ⟨h1, h2⟩ := he
    have ht' : t < (g.Succ.getD a []).length := by rw [← hlenS]; exact ht
    obtain ⟨b0, b1⟩ := Ld (hLok a ha) ht'
    have h3 : (sN g.Succ a)[t] = ((g.Succ.getD a []).getD t 0).toNat := by rw [An _ _ _ ht']; simp [sN]
    exact ⟨ht', by omega, by omega, h2⟩
  induction hv with
  | nil s =>
    intro R T st Lf a t hR ha hl hT htl hsa hz hc
    have ht : t = (g.Succ.getD a []).length := by
      have := congrArg List.length hl; simp at this; rw [hlenS] at htl this; omega
    refine ⟨R, T, hR, hz, fun _ _ _ _ => rfl, by simpa using hc, ?_⟩
    have hF : Cf g (R, T, st ++ [(a : Int)], Lf) = if st = [] then some (.done (Lf ++ [(a : Int)]).reverse) else some (.next (R, T, st, Lf ++ [(a : Int)])) := by
      rw [F3_eq (by omega) (by omega), A1 (L2_done (by omega) ha hL64 (by rw [hT, ht]))]
      rfl
    by_cases hst : st = []
    · rw [if_pos hst] at hF ⊢; rw [A1 hF]; simp [Ii]
    · rw [if_neg hst] at hF ⊢; rw [Ba hF]; simp [Ii]
  | @skip s s' y l o h tl ih =>
    intro R T st Lf a t hR ha hl hT htl hsa hz hc; obtain ⟨h1, h2, h3, h4⟩ := hdrop a t y l ha hl; have hb := Oh (hLok a ha); have hs := L2_step (g := g) (R := R) (st := st) (T := T) (a := a) (t := t) (y := y) (by omega) ha hL64 hT h1 (by omega) h2 h3; rw [hR y (by omega), h, cond_true] at hs; obtain ⟨R', T', a1, a2, a3, a4, a5⟩ := ih R (Fc 64 (0 : Int) T a ((t + 1 : Nat) : Int)) st Lf a (t + 1) hR ha h4 (by rw [Hg (by omega), if_pos rfl]) (by rw [hlenS]; omega) hsa
      (fun z hz1 hz2 => by rw [Hg hz1, if_neg (by rintro rfl; rw [hsa] at hz2; cases hz2)]; exact hz z hz1 hz2) hc
    refine ⟨R', T', a1, a2, fun z hz1 hz2 hz3 => by rw [a3 z hz1 hz2 hz3, Hg hz1, if_neg hz3], a4, ?_⟩; rw [← a5]
    apply Zr
    rw [F3_eq (by omega) (by omega), F3_eq (by omega) (by omega), Ba hs]
  | @step s s1 s2 y l o1 o2 h tl tr ih1 ih2 =>
    intro R T st Lf a t hR ha hl hT htl hsa hz hc; obtain ⟨h1, h2, h3, h4⟩ := hdrop a t y l ha hl; have hb := Oh (hLok a ha)
    have hay : y ≠ a := by rintro rfl; rw [hsa] at h; cases h
    have hs := L2_step (g := g) (R := R) (st := st) (T := T) (a := a) (t := t) (y := y) (by omega) ha hL64 hT h1 (by omega) h2 h3; rw [hR y (by omega), h, cond_false] at hs; have hcu := Ma (n := 64) (show y < 64 by omega) h
    have hF : Cf g (R, T, st ++ [(a : Int)], Lf) = some (.next (Fc 64 false R y true, Fc 64 (0 : Int) T a ((t + 1 : Nat) : Int), (st ++ [(a : Int)]) ++ [(y : Int)], Lf)) := by
      rw [F3_eq (by omega) (by omega), A1 hs]
      rfl
    obtain ⟨R1, T1, b1, b2, b3, b4, b5⟩ := ih1 (Fc 64 false R y true) (Fc 64 (0 : Int) T a ((t + 1 : Nat) : Int)) (st ++ [(a : Int)]) Lf y 0 hR.set h3 (by simp)
      (by rw [Hg (by omega), if_neg hay]; exact hz y (by omega) h) (Nat.zero_le _) (upd_true.2 (.inl rfl))
      (fun z hz1 hz2 => by
        obtain ⟨c1, c2⟩ := upd_false.1 hz2; rw [Hg hz1, if_neg (by rintro rfl; rw [hsa] at c2; cases c2)]
        exact hz z hz1 c2) (by rw [List.length_append, List.length_singleton]; omega)
    rw [if_neg (by simp)] at b5
    have hTa : T1.getD a 0 = ((t + 1 : Nat) : Int) := by rw [b3 a (by omega) (upd_true.2 (.inr hsa)) (Ne.symm hay), Hg (by omega), if_pos rfl]
    rw [List.length_append, List.length_singleton] at b4; obtain ⟨R2, T2, c1, c2, c3, c4, c5⟩ := ih2 R1 T1 st (Lf ++ Ii o1 ++ [(y : Int)]) a (t + 1) b1 ha h4 hTa (by rw [hlenS]; omega) ((tl.seen a).2 (.inl (upd_true.2 (.inr hsa)))) b2
      (by simp only [List.length_append, List.length_singleton, Ii, List.length_map]; omega)
    refine ⟨R2, T2, c1, c2, fun z hz1 hz2 hz3 => ?_, ?_, ?_⟩
    · rw [c3 z hz1 ((tl.seen z).2 (.inl (upd_true.2 (.inr hz2)))) hz3, b3 z hz1 (upd_true.2 (.inr hz2)) (by rintro rfl; rw [h] at hz2; cases hz2), Hg hz1, if_neg hz3]
    · simp only [List.length_append, List.length_singleton, Ii, List.length_map, List.length_cons] at c4 ⊢; omega
    · rw [Ba hF, b5, c5]
      have e : Lf ++ Ii o1 ++ [(y : Int)] ++ Ii o2 ++ [(a : Int)] = Lf ++ Ii (o1 ++ y :: o2) ++ [(a : Int)] := by simp [Ii]
      rw [e]
theorem H0 {L : List (List Int)} (h : Do L = true) : ∀ z, z < L.length → ∀ y ∈ sN L z, y < L.length := fun z hz y hy => by
  obtain ⟨_, _, h3⟩ := mayS_iff.1 h; obtain ⟨x, hx, rfl⟩ := List.mem_map.1 hy; have := Iu (h3 z hz) hx; omega
theorem cnt_one {r : Nat} (hr : r < 64) : Wi 64 (one r) = 63 := by
  have h := Ma (n := 64) (s := fun _ => false) hr rfl
  have e : upd (fun _ => false) r = one r := by funext z; simp [upd, one]
  rw [e] at h
  have : Wi 64 (fun _ => false) = 64 := by decide
  omega
theorem Hq {α : Type} {n z : Nat} {d : α} : (List.replicate n d).getD z d = d := by rw [List.getD_eq_getElem?_getD, List.getElem?_replicate]; split <;> rfl
theorem V8 (g : Ag) (h : Fits g.Succ) (hP : True) (r : Int) :
    (Hr g = true → 0 ≤ r → r < (g.Succ.length : Int) → ∀ L, Ord (sN g.Succ) r.toNat L → D7 g r = some (Ii L)) ∧
    ((Hr g && (decide (0 ≤ r) && decide (r < (g.Succ.length : Int)))) = false → D7 g r = some []) := by
  refine ⟨fun hm h0 h1 L hL => ?_, fun hf => ?_⟩
  · have hms : Do g.Succ = true := by unfold Hr at hm; exact (Bool.and_eq_true _ _ ▸ hm).1
    obtain ⟨hL1, hL64, hLok⟩ := mayS_iff.1 hms; obtain ⟨s', o, hv, rfl⟩ := hL; have hrn : ((r.toNat : Nat) : Int) = r := Int.toNat_of_nonneg h0
    have hr : r.toNat < g.Succ.length := by omega
    obtain ⟨R', T', _, _, _, _, hmain⟩ := order_main hms hv (Fc 64 false (List.replicate 64 false) r.toNat true) (List.replicate 64 (0 : Int)) [] [] r.toNat 0
      (fun z hz => by rw [Hg hz, Hq]; by_cases hzr : z = r.toNat <;> simp [one, hzr]) hr (by simp) Hq (Nat.zero_le _) (by simp [one])
      (fun z hz _ => Hq) (by rw [cnt_one (by omega)]; simp)
    rw [if_pos rfl, hrn] at hmain; unfold D7; rw [Yr _ h, hm, Option.bind_some]; simp only [Bool.not_true, beq_self_eq_true, cond_true, cond_false, Mj, decide_eq_true h0, decide_eq_true h1, Bool.and_self, Option.bind_some]; rw [Ae ⟨h0, by omega⟩]; have hF : ∀ X, Ay (Cf g) (Fc 64 false (List.replicate 64 false) r.toNat true, List.replicate 64 (0 : Int), [] ++ [r], []) = some X →
        (Km (Cf g (Fc 64 false (List.replicate 64 false) r.toNat true, List.replicate 64 (0 : Int), [r], [])) (Cf g)).bind (fun x => some x) = some X := fun X hX => by
      rw [I6]; rw [List.nil_append] at hX; rw [hX]; rfl
    refine (hF _ hmain).trans ?_; simp only [List.nil_append, List.reverse_append, Ii, List.map_cons, List.map_reverse, List.reverse_cons, List.reverse_nil]
    simp
    omega
  · unfold D7; rw [Yr _ h, Option.bind_some]
    cases hm : Hr g with
    | false => rfl
    | true =>
      rw [hm, Bool.true_and] at hf; simp only [Bool.not_true, beq_self_eq_true, cond_true, cond_false, Mj, hf, Option.bind_some, Bool.not_false]
      rfl
end
end Go.Proofs.Ytjdddniaokcgnaa

namespace Go.Proofs.Ytjdddniaokcgnaa
noncomputable section
open Go Go.RowKit
set_option linter.unusedVariables false
set_option linter.unusedSimpArgs false
def RelN (n : Nat) (R : List Bool) (s : Nat → Bool) : Prop := R.length = n ∧ ∀ z, z < n → R.getD z false = s z
theorem RelN.set {n : Nat} {R : List Bool} {s : Nat → Bool} (h : RelN n R s) {y : Nat} (hy : y < n) : RelN n (R.set y true) (upd s y) := by
  refine ⟨by rw [List.length_set]; exact h.1, fun z hz => ?_⟩; rw [List.getD_eq_getElem?_getD, List.getElem?_set]
  by_cases hzy : y = z
  · subst hzy; simp [upd, h.1, hy]
  · rw [if_neg hzy, ← List.getD_eq_getElem?_getD, h.2 z hz]; simp [upd, Ne.symm hzy]
theorem Ic : ∀ (n : Nat) (l : List Nat), l.Nodup → (∀ x ∈ l, x < n) → l.length ≤ n
  | 0, l, _, h => by
    cases l with
    | nil => simp
    | cons x l => have := h x (List.mem_cons_self ..); omega
  | n + 1, l, hd, h => by
    by_cases hn : n ∈ l
    · have h1 := Ic n (l.erase n) (hd.erase n) fun x hx => by
        have h2 := (hd.mem_erase_iff).1 hx; have := h x h2.2; have := h2.1; omega
      rw [List.length_erase_of_mem hn] at h1; omega
    · have h1 := Ic n l hd fun x hx => by
        have := h x hx
        have : x ≠ n := by rintro rfl; exact hn hx
        omega
      omega
end
end Go.Proofs.Ytjdddniaokcgnaa

namespace Go.Proofs.Ytjdddniaokcgnaa
noncomputable section
open Go Go.RowKit
set_option linter.unusedVariables false
set_option linter.unusedSimpArgs false
end
end Go.Proofs.Ytjdddniaokcgnaa

namespace Go.Proofs.Ytjdddniaokcgnaa
noncomputable section
open Go Go.RowKit
set_option linter.unusedVariables false
set_option linter.unusedSimpArgs false
theorem Sv : ∀ {a b : List Int}, a.Pairwise (· < ·) → b.Pairwise (· < ·) → (∀ x, x ∈ a ↔ x ∈ b) → a = b
  | [], [], _, _, _ => rfl
  | [], y :: b, _, _, h => by have := (h y).2 (List.mem_cons_self ..); cases this
  | x :: a, [], _, _, h => by have := (h x).1 (List.mem_cons_self ..); cases this
  | x :: a, y :: b, ha, hb, h => by
    have ha' := List.pairwise_cons.1 ha; have hb' := List.pairwise_cons.1 hb
    have hxy : x = y := by
      rcases List.mem_cons.1 ((h x).1 (List.mem_cons_self ..)) with h1 | h1
      · exact h1
      · rcases List.mem_cons.1 ((h y).2 (List.mem_cons_self ..)) with h2 | h2
        · exact h2.symm
        · have := ha'.1 y h2; have := hb'.1 x h1; omega
    subst hxy
    congr 1
    refine Sv ha'.2 hb'.2 fun z => ⟨fun hz => ?_, fun hz => ?_⟩
    · rcases List.mem_cons.1 ((h z).1 (List.mem_cons_of_mem _ hz)) with rfl | h1
      · have := ha'.1 z hz; omega
      · exact h1
    · rcases List.mem_cons.1 ((h z).2 (List.mem_cons_of_mem _ hz)) with rfl | h1
      · have := hb'.1 z hz; omega
      · exact h1
theorem P5 (p : Nat → Bool) (n : Nat) : (((List.range n).filter p).map Int.ofNat).Pairwise (· < ·) := by
  rw [List.pairwise_map]; have := (List.pairwise_lt_range (n := n)).filter p
  exact this.imp fun h => by simpa using h
theorem mem_filt {p : Nat → Bool} {n : Nat} {x : Int} : x ∈ ((List.range n).filter p).map Int.ofNat ↔ ∃ k : Nat, x = (k : Int) ∧ k < n ∧ p k = true := by
  simp only [List.mem_map, List.mem_filter, List.mem_range]
  constructor
  · rintro ⟨k, ⟨h1, h2⟩, rfl⟩; exact ⟨k, rfl, h1, h2⟩
  · rintro ⟨k, rfl, h1, h2⟩; exact ⟨k, ⟨h1, h2⟩, rfl⟩
theorem goes_iff {L : List (List Int)} {k i : Nat} : Hz L k i = true ↔ (i : Int) ∈ L.getD k [] := by unfold Hz; rw [List.contains_iff_mem]
theorem predAt_ok (L : List (List Int)) (i : Nat) : okL L.length (D5 L L.length i) = true :=
  okL_of (fun x hx => by obtain ⟨k, rfl, hk, _⟩ := mem_filt.1 hx; omega) (P5 _ _)
theorem Mp {L : List (List Int)} (h : Do L = true) : Do (Bp L) = true := by
  obtain ⟨h1, h2, h3⟩ := mayS_iff.1 h; refine mayS_iff.2 ⟨by rw [Ct]; exact h1, by rw [Ct]; exact h2, fun i hi => ?_⟩; rw [Ct] at hi ⊢; rw [Gp hi]; exact predAt_ok L i
theorem pred_pred {L : List (List Int)} (h : Do L = true) : Bp (Bp L) = L := by
  obtain ⟨h1, h2, h3⟩ := mayS_iff.1 h
  apply List.ext_getElem (by rw [Ct, Ct])
  intro i hi hi'
  have e1 : (Bp (Bp L))[i] = D5 (Bp L) L.length i := by
    have := Gp (L := Bp L) (i := i) (by rw [Ct]; exact hi'); rw [An _ _ _ hi, Ct] at this; exact this
  have e2 := An L i [] hi'; rw [e1, ← e2]; refine Sv (P5 _ _) (X2 (h3 i hi')) fun x => ?_; rw [show D5 (Bp L) L.length i = ((List.range L.length).filter fun k => Hz (Bp L) k i).map Int.ofNat from rfl, mem_filt]
  constructor
  · rintro ⟨k, rfl, hk, hg⟩; rw [goes_iff, Gp hk] at hg; obtain ⟨j, hj, _, hg'⟩ := mem_filt.1 hg
    have : j = i := by omega
    subst this; exact goes_iff.1 hg'
  · intro hx; have hb := Iu (h3 i hi') hx; refine ⟨x.toNat, by omega, by omega, ?_⟩; rw [goes_iff, Gp (by omega)]; refine mem_filt.2 ⟨i, rfl, hi', ?_⟩; rw [goes_iff, Int.toNat_of_nonneg hb.1]; exact hx
theorem Py {L : List (List Int)} (h : Do L = true) : Hr ⟨Bp L, L⟩ = true := by
  simp [Hr, Mp h, pred_pred h]
theorem small_len {L : List (List Int)} (h : L.length ≤ maxLen) : L.length < 9223372036854775808 := by unfold maxLen at h; omega
end
end Go.Proofs.Ytjdddniaokcgnaa

namespace Go.Proofs.Ytjdddniaokcgnaa
noncomputable section
open Go Go.RowKit
set_option linter.unusedVariables false
set_option linter.unusedSimpArgs false
theorem rch_lt {L : List (List Int)} (h : Do L = true) {x y : Nat} (hr : Rch (sN L) x y) (hx : x < L.length) : y < L.length := by
  induction hr with
  | refl x => exact hx
  | head hy _ ih => exact ih (H0 h _ hx _ hy)
theorem ofN_at {l : List Nat} {i : Nat} (hi : i < l.length) : (Ii l).getD i 0 = ((l[i] : Nat) : Int) := by simp [Ii, List.getD, hi]
end
end Go.Proofs.Ytjdddniaokcgnaa

namespace Go.Proofs.Ytjdddniaokcgnaa
noncomputable section
open Go Go.RowKit
set_option linter.unusedVariables false
set_option linter.unusedSimpArgs false
end
end Go.Proofs.Ytjdddniaokcgnaa

namespace Go.Proofs.Ytjdddniaokcgnaa
noncomputable section
open Go Go.RowKit
set_option linter.unusedVariables false
set_option linter.unusedSimpArgs false
def mk (o : List Bool) (l : List Nat) : List Bool := l.foldl (fun o y => o.set y true) o
theorem mk_len (l : List Nat) : ∀ o : List Bool, (mk o l).length = o.length := by
  induction l with
  | nil => intro o; rfl
  | cons y l ih => intro o; show (mk (o.set y true) l).length = _; rw [ih, List.length_set]
theorem mk_at {n : Nat} (l : List Nat) : ∀ (o : List Bool), o.length = n → (∀ y ∈ l, y < n) → ∀ z, (mk o l).getD z false = true ↔ o.getD z false = true ∨ z ∈ l := by
  induction l with
  | nil => intro o _ _ z; simp [mk]
  | cons y l ih =>
    intro o ho hl z
    show (mk (o.set y true) l).getD z false = true ↔ _
    rw [ih (o.set y true) (by rw [List.length_set]; exact ho) (fun u hu => hl u (List.mem_cons_of_mem _ hu)) z]; have hy := hl y (List.mem_cons_self ..)
    have e : (o.set y true).getD z false = true ↔ o.getD z false = true ∨ z = y := by
      rw [List.getD_eq_getElem?_getD, List.getElem?_set, List.getD_eq_getElem?_getD]
      by_cases h : y = z
      · subst h; simp [ho, hy]
      · simp [h, Ne.symm h]
    rw [e, List.mem_cons]
    constructor
    · rintro ((h | h) | h)
      · exact .inl h
      · exact .inr (.inl h)
      · exact .inr (.inr h)
    · rintro (h | h | h)
      · exact .inl (.inl h)
      · exact .inl (.inr h)
      · exact .inr h
def sw (S : Nat → List Nat) (o : List Bool) : Nat → List Bool
  | 0 => o
  | i + 1 => if (sw S o i).getD i false = true then mk (sw S o i) (S i) else sw S o i
def S2 (S : Nat → List Nat) (n : Nat) (o : List Bool) : Nat → List Bool
  | 0 => o
  | j + 1 => sw S (S2 S n o j) n
section
variable {S : Nat → List Nat} {n : Nat} (hS : ∀ z, z < n → ∀ y ∈ S z, y < n)
theorem Lb (o : List Bool) : ∀ i, (sw S o i).length = o.length := by
  intro i
  induction i with
  | zero => rfl
  | succ i ih => unfold sw; split; rw [mk_len, ih]; exact ih
theorem Qs (o : List Bool) : ∀ j, (S2 S n o j).length = o.length := by
  intro j
  induction j with
  | zero => rfl
  | succ j ih => unfold S2; rw [Lb, ih]
include hS
theorem Qp {o : List Bool} (ho : o.length = n) : ∀ i, i ≤ n → ∀ z, o.getD z false = true → (sw S o i).getD z false = true := by
  intro i
  induction i with
  | zero => intro _ z h; exact h
  | succ i ih =>
    intro hi z h; unfold sw
    split
    · exact (mk_at (n := n) _ _ (by rw [Lb]; exact ho) (hS i (by omega)) z).2 (.inl (ih (by omega) z h))
    · exact ih (by omega) z h
theorem sw_sound {o : List Bool} {r : Nat} (ho : o.length = n) (h : ∀ z, o.getD z false = true → Rch S r z) : ∀ i, i ≤ n → ∀ z, (sw S o i).getD z false = true → Rch S r z := by
  intro i
  induction i with
  | zero => intro _ z hz; exact h z hz
  | succ i ih =>
    intro hi z hz; unfold sw at hz
    split at hz
    · rename_i hsi
      rcases (mk_at (n := n) _ _ (by rw [Lb]; exact ho) (hS i (by omega)) z).1 hz with h1 | h1
      · exact ih (by omega) z h1
      · exact (ih (by omega) i hsi).tail h1
    · exact ih (by omega) z hz
theorem sw_step {o : List Bool} (ho : o.length = n) : ∀ i, i ≤ n → ∀ j, j < i → o.getD j false = true → ∀ y ∈ S j, (sw S o i).getD y false = true := by
  intro i
  induction i with
  | zero => intro _ j hj; omega
  | succ i ih =>
    intro hi j hj hoj y hy; unfold sw
    by_cases hji : j = i
    · subst hji; have h1 := Qp hS ho j (by omega) j hoj; rw [if_pos h1]; exact (mk_at (n := n) _ _ (by rw [Lb]; exact ho) (hS j (by omega)) y).2 (.inr hy)
    · have h1 := ih (by omega) j (by omega) hoj y hy
      split
      · exact (mk_at (n := n) _ _ (by rw [Lb]; exact ho) (hS i (by omega)) y).2 (.inl h1)
      · exact h1
theorem sw_closed {o : List Bool} (ho : o.length = n) (hc : ∀ j, j < n → o.getD j false = true → ∀ y ∈ S j, o.getD y false = true) : ∀ i, i ≤ n → ∀ z, (sw S o i).getD z false = true → o.getD z false = true := by
  intro i
  induction i with
  | zero => intro _ z h; exact h
  | succ i ih =>
    intro hi z hz; unfold sw at hz
    split at hz
    · rename_i hsi
      rcases (mk_at (n := n) _ _ (by rw [Lb]; exact ho) (hS i (by omega)) z).1 hz with h1 | h1
      · exact ih (by omega) z h1
      · exact hc i (by omega) (ih (by omega) i hsi) z h1
    · exact ih (by omega) z hz
theorem X9 {r : Nat} (hr : r < n) (z : Nat) : (S2 S n ((List.replicate n false).set r true) n).getD z false = true ↔ Rch S r z := by
  let o0 := (List.replicate n false).set r true
  have ho0 : o0.length = n := by simp [o0]
  have hat0 : ∀ z, o0.getD z false = true ↔ z = r := fun z => by
    show ((List.replicate n false).set r true).getD z false = true ↔ z = r
    rw [List.getD_eq_getElem?_getD, List.getElem?_set]
    by_cases h : r = z
    · subst h; simp [hr]
    · rw [if_neg h, ← List.getD_eq_getElem?_getD, Hq]; simp [Ne.symm h]
  have hlen : ∀ j, (S2 S n o0 j).length = n := fun j => by rw [Qs, ho0]
  have hsound : ∀ j z, (S2 S n o0 j).getD z false = true → Rch S r z := by
    intro j
    induction j with
    | zero => intro z hz; rw [(hat0 z).1 hz]; exact .refl _
    | succ j ih => intro z hz; exact sw_sound hS (hlen j) ih n (Nat.le_refl _) z hz
  have hmono : ∀ j, ∀ z, o0.getD z false = true → (S2 S n o0 j).getD z false = true := by
    intro j
    induction j with
    | zero => intro z h; exact h
    | succ j ih => intro z h; exact Qp hS (hlen j) n (Nat.le_refl _) z (ih z h)
  let C : Nat → Prop := fun j => ∀ i, i < n → (S2 S n o0 j).getD i false = true → ∀ y ∈ S i, (S2 S n o0 j).getD y false = true
  have key : ∀ j, C j ∨ Wi n (fun z => (S2 S n o0 j).getD z false) + j + 1 ≤ n := by
    intro j
    induction j with
    | zero =>
      refine .inr ?_; have h1 := Ma (n := n) (s := fun _ => false) hr rfl
      have e : upd (fun _ => false) r = fun z => (S2 S n o0 0).getD z false := by
        funext z
        rw [Bool.eq_iff_iff, upd_true]
        show _ ↔ o0.getD z false = true
        rw [hat0]
        simp
      rw [e] at h1
      have hcl : Wi n (fun _ => false) = n := by
        unfold Wi; rw [List.filter_eq_self.2 (by simp)]
        simp
      omega
    | succ j ih =>
      by_cases hc : C j
      · refine .inl fun i hi h y hy => ?_; have h1 := sw_closed hS (hlen j) hc n (Nat.le_refl _) i h; exact Qp hS (hlen j) n (Nat.le_refl _) y (hc i hi h1 y hy)
      · rcases ih with ih | ih
        · exact (hc ih).elim
        · refine .inr ?_
          have hex : ∃ i, i < n ∧ (S2 S n o0 j).getD i false = true ∧ ∃ y, y ∈ S i ∧ (S2 S n o0 j).getD y false = false := by
            simp only [C] at hc; simp only [Classical.not_forall] at hc; obtain ⟨i, hi, h1, y, hy, h2⟩ := hc; exact ⟨i, hi, h1, y, hy, by simpa using h2⟩
          obtain ⟨i, hi, h1, y, hy, h2⟩ := hex; have h3 := sw_step hS (hlen j) n (Nat.le_refl _) i hi h1 y hy; have hyn := hS i hi y hy; have h4 := Ma (n := n) (s := fun z => (S2 S n o0 j).getD z false) hyn h2
          have h5 : Wi n (fun z => (S2 S n o0 (j + 1)).getD z false) ≤ Wi n (upd (fun z => (S2 S n o0 j).getD z false) y) := Xw fun z hz => by
            rcases upd_true.1 hz with rfl | hz
            · exact h3
            · exact Qp hS (hlen j) n (Nat.le_refl _) z hz
          omega
  have hC : C n := by
    rcases key n with h | h
    · exact h
    · omega
  constructor
  · exact hsound n z
  · intro hrch
    have hlt : ∀ x z, Rch S x z → x < n → z < n ∧ ((S2 S n o0 n).getD x false = true → (S2 S n o0 n).getD z false = true) := by
      intro x z hxz
      induction hxz with
      | refl x => exact fun hx => ⟨hx, id⟩
      | @head x y z hy _ ih =>
        intro hx; have := ih (hS x hx y hy); exact ⟨this.1, fun h => this.2 (hC x hx h y hy)⟩
    exact (hlt r z hrch hr).2 (hmono n r ((hat0 r).2 rfl))
end
end
end Go.Proofs.Ytjdddniaokcgnaa

namespace Go.Proofs.Ytjdddniaokcgnaa
noncomputable section
open Go Go.RowKit
set_option linter.unusedVariables false
set_option linter.unusedSimpArgs false
def pos : List Nat → Nat → Nat
  | [], _ => 0
  | x :: l, z => if x = z then 0 else pos l z + 1
theorem Sx (x : Nat) (l : List Nat) (z : Nat) : pos (x :: l) z = if x = z then 0 else pos l z + 1 := rfl
theorem pos_app {A l : List Nat} {z : Nat} (h : z ∉ A) : pos (A ++ l) z = A.length + pos l z := by
  induction A with
  | nil => simp
  | cons x A ih =>
    have h1 : x ≠ z := fun e => h (by rw [e]; exact List.mem_cons_self ..); have h2 : z ∉ A := fun e => h (List.mem_cons_of_mem _ e); rw [List.cons_append, Sx, if_neg h1, ih h2, List.length_cons]; omega
theorem Qt {P : List Nat} (hd : P.Nodup) {i : Nat} (hi : i < P.length) : P[i] ∉ P.take i ∧ pos P P[i] = i := by
  have e : P = P.take i ++ P[i] :: P.drop (i + 1) := by rw [← List.drop_eq_getElem_cons hi, List.take_append_drop]
  have hn : P[i] ∉ P.take i := by
    rw [e] at hd; have := (List.nodup_append.1 hd).2.2; exact fun hm => this _ hm _ (List.mem_cons_self ..) rfl
  refine ⟨hn, ?_⟩
  have h2 : pos (P.take i ++ P[i] :: P.drop (i + 1)) P[i] = i := by
    rw [pos_app hn]
    have : pos (P[i] :: P.drop (i + 1)) P[i] = 0 := by rw [Sx, if_pos rfl]
    rw [this, List.length_take]; omega
  rw [← e] at h2; exact h2
end
end Go.Proofs.Ytjdddniaokcgnaa

namespace Go.Proofs.Ytjdddniaokcgnaa
noncomputable section
open Go Go.RowKit
set_option linter.unusedVariables false
set_option linter.unusedSimpArgs false
inductive Rc (S : Nat → List Nat) (r : Nat) : Nat → Prop
  | root : Rc S r r
  | step {x y : Nat} (h : Rc S r x) (hy : y ∈ S x) : Rc S r y
inductive Av (S : Nat → List Nat) (r z : Nat) : Nat → Prop
  | root (h : r ≠ z) : Av S r z r
  | step {x y : Nat} (h : Av S r z x) (hy : y ∈ S x) (hz : y ≠ z) : Av S r z y
inductive AvN (S : Nat → List Nat) (r z : Nat) : Nat → Nat → Prop
  | root (h : r ≠ z) (k : Nat) : AvN S r z k r
  | step {k x y : Nat} (h : AvN S r z k x) (hy : y ∈ S x) (hz : y ≠ z) : AvN S r z (k + 1) y
section
variable {S : Nat → List Nat} {r : Nat}
theorem rc_iff {x : Nat} : Rc S r x ↔ Rch S r x := by
  constructor
  · intro h
    induction h with
    | root => exact .refl _
    | step _ hy ih => exact ih.tail hy
  · intro h
    have key : ∀ a b, Rch S a b → Rc S r a → Rc S r b := by
      intro a b hab
      induction hab with
      | refl x => exact id
      | head hy _ ih => exact fun ha => ih (.step ha hy)
    exact key _ _ h .root
def wo (S : Nat → List Nat) (z : Nat) : Nat → List Nat := fun x => (S x).filter fun y => decide (y ≠ z)
theorem av_iff {z x : Nat} : Av S r z x ↔ r ≠ z ∧ Rch (wo S z) r x := by
  constructor
  · intro h
    induction h with
    | root h => exact ⟨h, .refl _⟩
    | step _ hy hz ih => exact ⟨ih.1, ih.2.tail (List.mem_filter.2 ⟨hy, by simpa using hz⟩)⟩
  · rintro ⟨hr, h⟩
    have key : ∀ a b, Rch (wo S z) a b → Av S r z a → Av S r z b := by
      intro a b hab
      induction hab with
      | refl x => exact id
      | head hy _ ih =>
        obtain ⟨h1, h2⟩ := List.mem_filter.1 hy; exact fun ha => ih (.step ha h1 (by simpa using h2))
    exact key _ _ h (.root hr)
theorem Av.rc {z x : Nat} (h : Av S r z x) : Rc S r x := by
  induction h with
  | root _ => exact .root
  | step _ hy _ ih => exact .step ih hy
theorem Av.ne {z x : Nat} (h : Av S r z x) : x ≠ z := by
  cases h with
  | root h => exact h
  | step _ _ hz => exact hz
theorem AvN.av {z k x : Nat} (h : AvN S r z k x) : Av S r z x := by
  induction h with
  | root h => exact .root h
  | step _ hy hz ih => exact .step ih hy hz
theorem AvN.up {z k x : Nat} (h : AvN S r z k x) : AvN S r z (k + 1) x := by
  induction h with
  | root h k => exact .root h _
  | step _ hy hz ih => exact .step ih hy hz
theorem AvN.mono {z k m x : Nat} (h : AvN S r z k x) (hm : k ≤ m) : AvN S r z m x := by
  obtain ⟨d, rfl⟩ := Nat.exists_eq_add_of_le hm; clear hm
  induction d with
  | zero => exact h
  | succ d ih => exact ih.up
theorem Av.avn {z x : Nat} (h : Av S r z x) : ∃ k, AvN S r z k x := by
  induction h with
  | root h => exact ⟨0, .root h 0⟩
  | step _ hy hz ih => obtain ⟨k, hk⟩ := ih; exact ⟨k + 1, .step hk hy hz⟩
theorem AvN.via {z k x : Nat} (h : AvN S r z k x) (y : Nat) : AvN S r y k x ∨ AvN S r z k y := by
  induction h with
  | root h k => by_cases hy : r = y
                · subst hy; exact .inr (.root h _)
                · exact .inl (.root hy _)
  | @step k x w h hy hz ih =>
    rcases ih with h1 | h1
    · by_cases hw : w = y
      · subst hw; exact .inr (.step h hy hz)
      · exact .inl (.step h1 hy hw)
    · exact .inr h1.up
theorem avn_bound (n : Nat) : ∃ K, ∀ z, z < n → ∀ x, x < n → Av S r z x → AvN S r z K x := by
  have one : ∀ z m, ∃ K, ∀ x, x < m → Av S r z x → AvN S r z K x := by
    intro z m
    induction m with
    | zero => exact ⟨0, fun x hx => absurd hx (Nat.not_lt_zero x)⟩
    | succ m ih =>
      obtain ⟨K, hK⟩ := ih
      by_cases h : Av S r z m
      · obtain ⟨k, hk⟩ := h.avn; refine ⟨max K k, fun x hx ha => ?_⟩; rcases Nat.lt_succ_iff_lt_or_eq.1 hx with h1 | rfl
        · exact (hK x h1 ha).mono (Nat.le_max_left ..)
        · exact hk.mono (Nat.le_max_right ..)
      · refine ⟨K, fun x hx ha => ?_⟩; rcases Nat.lt_succ_iff_lt_or_eq.1 hx with h1 | rfl
        · exact hK x h1 ha
        · exact absurd ha h
  have two : ∀ m, ∃ K, ∀ z, z < m → ∀ x, x < n → Av S r z x → AvN S r z K x := by
    intro m
    induction m with
    | zero => exact ⟨0, fun x hx => absurd hx (Nat.not_lt_zero x)⟩
    | succ m ih =>
      obtain ⟨K, hK⟩ := ih; obtain ⟨k, hk⟩ := one m n; refine ⟨max K k, fun z hz x hx ha => ?_⟩; rcases Nat.lt_succ_iff_lt_or_eq.1 hz with h1 | rfl
      · exact (hK z h1 x hx ha).mono (Nat.le_max_left ..)
      · exact (hk x hx ha).mono (Nat.le_max_right ..)
  exact two n
end
inductive UpTo (par : Nat → Int) : Nat → Nat → Prop
  | refl (x : Nat) : UpTo par x x
  | up {x y z : Nat} (h : par x = (y : Int)) (t : UpTo par y z) : UpTo par x z
inductive Fw (S : Nat → List Nat) (at_ : Nat → Nat) (u : Nat) : Nat → Prop
  | refl : Fw S at_ u u
  | step {v w : Nat} (h : Fw S at_ u v) (hw : w ∈ S v) (hl : at_ v < at_ w) : Fw S at_ u w
section
variable {S : Nat → List Nat} {at_ : Nat → Nat} {par : Nat → Int}
theorem Fw.le {u w : Nat} (h : Fw S at_ u w) : at_ u ≤ at_ w := by
  induction h with
  | refl => exact Nat.le_refl _
  | step _ _ hl ih => omega
theorem Fw.trans {u v w : Nat} (h : Fw S at_ u v) (k : Fw S at_ v w) : Fw S at_ u w := by
  induction k with
  | refl => exact h
  | step _ hw hl ih => exact .step ih hw hl
theorem Fw.av {r d u w : Nat} (h : Fw S at_ u w) (ha : Av S r d u) (hd : at_ d < at_ u) : Av S r d w := by
  induction h with
  | refl => exact ha
  | @step v w h hw hl ih => exact .step ih hw (by rintro rfl; have := h.le; omega)
theorem UpTo.trans {x y z : Nat} (h : UpTo par x y) (k : UpTo par y z) : UpTo par x z := by
  induction h with
  | refl x => exact k
  | up h _ ih => exact .up h (ih k)
theorem anc_up {x p z : Nat} (h : par x = (p : Int)) : UpTo par x z ↔ z = x ∨ UpTo par p z := by
  constructor
  · intro k
    cases k with
    | refl => exact .inl rfl
    | up h' t => rw [h] at h'; cases Int.ofNat.inj h'; exact .inr t
  · rintro (rfl | k)
    · exact .refl _
    · exact .up h k
theorem Qr {x z : Nat} (h : ∀ p : Nat, par x ≠ (p : Int)) : UpTo par x z ↔ z = x := by
  constructor
  · intro k
    cases k with
    | refl => rfl
    | up h' t => exact absurd h' (h _)
  · rintro rfl; exact .refl _
structure Inv (S : Nat → List Nat) (r n : Nat) (at_ : Nat → Nat) (par : Nat → Int) : Prop where
  top : par r = -1
  kind : ∀ x, x < n → par x = -2 ∨ x = r ∨ ∃ z : Nat, par x = (z : Int)
  up : ∀ x, x < n → ∀ z : Nat, par x = (z : Int) → z < n ∧ par z ≠ -2 ∧ at_ z < at_ x ∧ Fw S at_ z x
  rc : ∀ x, x < n → par x ≠ -2 → Rc S r x
  all : ∀ x, x < n → par x ≠ -2 → ∀ d, ¬ UpTo par x d → Av S r d x
end
section
variable {S : Nat → List Nat} {at_ : Nat → Nat} {par : Nat → Int} {r n : Nat}
theorem Inv.anc (h : Inv S r n at_ par) {x z : Nat} (k : UpTo par x z) (hx : x < n) (hp : par x ≠ -2) : z < n ∧ par z ≠ -2 ∧ at_ z ≤ at_ x ∧ Fw S at_ z x := by
  induction k with
  | refl x => exact ⟨hx, hp, Nat.le_refl _, .refl⟩
  | @up x y z hxy t ih =>
    obtain ⟨h1, h2, h3, h4⟩ := h.up x hx y hxy; obtain ⟨i1, i2, i3, i4⟩ := ih h1 h2; exact ⟨i1, i2, by omega, i4.trans h4⟩
theorem Inv.root_anc (h : Inv S r n at_ par) {z : Nat} : UpTo par r z ↔ z = r := Qr fun p hp => by rw [h.top] at hp; omega
theorem Inv.strict (h : Inv S r n at_ par) {x z : Nat} (k : UpTo par x z) (hx : x < n) (hp : par x ≠ -2) : z = x ∨ at_ z < at_ x := by
  cases k with
  | refl => exact .inl rfl
  | up hxy t =>
    obtain ⟨h1, h2, h3, h4⟩ := h.up x hx _ hxy; obtain ⟨i1, i2, i3, i4⟩ := h.anc t h1 h2; exact .inr (by omega)
theorem Inv.antisymm (h : Inv S r n at_ par) {x z : Nat} (k : UpTo par x z) (m : UpTo par z x) (hx : x < n) (hp : par x ≠ -2) : z = x := by
  rcases h.strict k hx hp with rfl | h1
  · rfl
  · obtain ⟨i1, i2, i3, i4⟩ := h.anc k hx hp; have := (h.anc m i1 i2).2.2.1; omega
def MeetAt (par : Nat → Int) (a b m : Nat) : Prop := ∀ w, UpTo par m w ↔ UpTo par a w ∧ UpTo par b w
theorem Uf {a : Nat} : MeetAt par a a a := fun w => by simp
theorem meet_swap {a b m : Nat} (h : MeetAt par a b m) : MeetAt par b a m := fun w => by rw [h w]; exact And.comm
theorem Inv.meet_left (h : Inv S r n at_ par) (hinj : ∀ x y, x < n → y < n → par x ≠ -2 → par y ≠ -2 → at_ x = at_ y → x = y) {a b p m : Nat} (ha : a < n) (hpa : par a ≠ -2) (hb : b < n) (hpb : par b ≠ -2) (hab : a ≠ b) (hl : at_ b ≤ at_ a) (hp : par a = (p : Int)) (k : MeetAt par p b m) : MeetAt par a b m := fun w => by
  rw [k w]
  constructor
  · rintro ⟨h1, h2⟩; exact ⟨.up hp h1, h2⟩
  · rintro ⟨h1, h2⟩; rcases (anc_up hp).1 h1 with rfl | h1
    · exfalso
      rcases h.strict h2 hb hpb with h3 | h3
      · exact hab h3
      · omega
    · exact ⟨h1, h2⟩
end
section
variable {S : Nat → List Nat} {at_ : Nat → Nat} {par : Nat → Int} {r n : Nat}
def Gt (par : Nat → Int) (y : Nat) (v : Int) : Nat → Int := fun x => if x = y then v else par x
def Zq (S : Nat → List Nat) (n : Nat) (par : Nat → Int) (y z : Nat) : Prop := ∀ w, UpTo par z w ↔ ∀ p, p < n → y ∈ S p → par p ≠ -2 → UpTo par p w
theorem P3 {y : Nat} {v : Int} {x z : Nat} (k : UpTo par x z) (hy : ¬ UpTo par x y) : UpTo (Gt par y v) x z := by
  induction k with
  | refl x => exact .refl _
  | @up x q z h t ih =>
    have hxy : x ≠ y := by rintro rfl; exact hy (.refl _)
    refine .up (y := q) ?_ (ih fun k => hy (.up h k)); unfold Gt; rw [if_neg hxy]; exact h
theorem Wm {y : Nat} {v : Int} {x : Nat} (k : UpTo par x y) : UpTo (Gt par y v) x y := by
  induction k with
  | refl x => exact .refl _
  | @up x q z h t ih =>
    by_cases hxy : x = z
    · subst hxy; exact .refl _
    · refine .up (y := q) ?_ ih; unfold Gt; rw [if_neg hxy]; exact h
theorem anc_upd_inv {y : Nat} {v : Int} {x w : Nat} (k : UpTo (Gt par y v) x w) : UpTo par x w ∨ (UpTo par x y ∧ UpTo (Gt par y v) y w) := by
  induction k with
  | refl x => exact .inl (.refl _)
  | @up x q w h t ih =>
    by_cases hxy : x = y
    · subst hxy; exact .inr ⟨.refl _, .up h t⟩
    · unfold Gt at h; rw [if_neg hxy] at h; rcases ih with h1 | ⟨h1, h2⟩
      · exact .inl (.up h h1)
      · exact .inr ⟨.up h h1, h2⟩
theorem low_or {y : Nat} {v : Int} {x d : Nat} (k : UpTo par x y) (hd : UpTo par x d) : UpTo par y d ∨ UpTo (Gt par y v) x d := by
  induction k with
  | refl x => exact .inl hd
  | @up x q y hq t ih =>
    by_cases e : x = y
    · subst e; exact .inl hd
    · rcases (anc_up hq).1 hd with rfl | k
      · exact .inr (.refl _)
      · rcases ih k with h1 | h1
        · exact .inl h1
        · exact .inr (.up (y := q) (by unfold Gt; rw [if_neg e]; exact hq) h1)
structure Better (S : Nat → List Nat) (r n : Nat) (at_ : Nat → Nat) (par : Nat → Int) (y z : Nat) : Prop where
  inv : Inv S r n at_ par
  hy : y < n
  hr : y ≠ r
  hz : z < n
  best : Zq S n par y z
  fwd : ∃ p, p < n ∧ y ∈ S p ∧ par p ≠ -2 ∧ at_ p < at_ y
variable {y z : Nat}
theorem Better.zlt (h : Better S r n at_ par y z) : UpTo par z z ∧ par z ≠ -2 ∧ at_ z < at_ y ∧ Fw S at_ z y := by
  obtain ⟨p, hp, hyp, hpp, hl⟩ := h.fwd; obtain ⟨h1, h2, h3, h4⟩ := h.inv.anc ((h.best z).1 (.refl _) p hp hyp hpp) hp hpp; exact ⟨.refl _, h2, by omega, .step h4 hyp hl⟩
theorem Better.above (h : Better S r n at_ par y z) {w : Nat} : UpTo (Gt par y z) z w ↔ UpTo par z w := by
  obtain ⟨_, h2, h3, _⟩ := h.zlt
  have hn : ¬ UpTo par z y := fun k => by have := (h.inv.anc k h.hz h2).2.2.1; omega
  constructor
  · intro k; rcases anc_upd_inv k with h1 | ⟨h1, _⟩
    · exact h1
    · exact absurd h1 hn
  · intro k; exact P3 k hn
theorem Better.here (h : Better S r n at_ par y z) {w : Nat} : UpTo (Gt par y z) y w ↔ w = y ∨ UpTo par z w := by
  rw [anc_up (p := z) (by simp [Gt]), h.above]
theorem Better.av_here (h : Better S r n at_ par y z) {d : Nat} (hd : ¬ UpTo (Gt par y z) y d) : Av S r d y := by
  rw [h.here] at hd; have h1 : ¬ ∀ p, p < n → y ∈ S p → par p ≠ -2 → UpTo par p d := fun hh => hd (.inr ((h.best d).2 hh)); simp only [Classical.not_forall] at h1; obtain ⟨p, hp, hyp, hpp, hnp⟩ := h1; exact .step (h.inv.all p hp hpp d hnp) hyp fun e => hd (.inl e.symm)
theorem Better.inv' (h : Better S r n at_ par y z) : Inv S r n at_ (Gt par y z) := by
  obtain ⟨hzz, hz2, hzl, hzf⟩ := h.zlt; obtain ⟨p, hp, hyp, hpp, hl⟩ := h.fwd
  have hne : ∀ x, Gt par y z x ≠ -2 → x = y ∨ par x ≠ -2 := fun x hx => by
    by_cases e : x = y
    · exact .inl e
    · unfold Gt at hx; rw [if_neg e] at hx; exact .inr hx
  have hyv : Gt par y z y = (z : Int) := by simp [Gt]
  have hyo : ∀ x, x ≠ y → Gt par y z x = par x := fun x e => by unfold Gt; rw [if_neg e]
  refine ⟨by rw [hyo _ (Ne.symm h.hr)]; exact h.inv.top, fun x hx => ?_, fun x hx w hw => ?_, fun x hx hxp => ?_, fun x hx hxp d hd => ?_⟩
  · by_cases e : x = y
    · subst e; exact .inr (.inr ⟨z, hyv⟩)
    · rw [hyo x e]; exact h.inv.kind x hx
  · have hzn : ∀ w, par w ≠ -2 → Gt par y z w ≠ -2 := fun w hw => by
      by_cases e : w = y
      · subst e; rw [hyv]; omega
      · rw [hyo w e]; exact hw
    by_cases e : x = y
    · subst e; rw [hyv] at hw
      cases Int.ofNat.inj hw
      exact ⟨h.hz, hzn _ hz2, hzl, hzf⟩
    · rw [hyo x e] at hw; obtain ⟨h1, h2, h3, h4⟩ := h.inv.up x hx w hw; exact ⟨h1, hzn _ h2, h3, h4⟩
  · rcases hne x hxp with rfl | h1
    · exact .step (h.inv.rc p hp hpp) hyp
    · exact h.inv.rc x hx h1
  · by_cases e : x = y
    · subst e; exact h.av_here hd
    · rw [hyo x e] at hxp
      by_cases hxd : UpTo par x d
      ·
        by_cases hxy : UpTo par x y
        · have hyd : ¬ UpTo (Gt par y z) y d := fun k => hd ((Wm hxy).trans k); have hav := h.av_here hyd; have hf := (h.inv.anc hxy hx hxp).2.2.2
          have hdy : UpTo par y d := by
            rcases low_or (v := (z : Int)) hxy hxd with h1 | h1
            · exact h1
            · exact absurd h1 hd
          by_cases hpy : par y = -2
          ·
            have : d = y := by
              refine (Qr (par := par) fun p hp => ?_).1 hdy; rw [hpy] at hp; omega
            subst this; exact absurd (.refl _) hyd
          · rcases h.inv.strict hdy h.hy hpy with rfl | hlt
            · exact absurd (.refl _) hyd
            · exact hf.av hav hlt
        · exact absurd (P3 hxd hxy) hd
      · exact h.inv.all x hx hxp d hxd
end
end
end Go.Proofs.Ytjdddniaokcgnaa

namespace Go.Proofs.Ytjdddniaokcgnaa
noncomputable section
open Go Go.RowKit
set_option linter.unusedVariables false
set_option linter.unusedSimpArgs false
section
variable {S : Nat → List Nat} {at_ : Nat → Nat} {par : Nat → Int} {r n : Nat}
def QB (S : Nat → List Nat) (r n : Nat) (par : Nat → Int) (b : Nat → Nat) : Prop := ∀ x, x < n → par x ≠ -2 → ∀ z, AvN S r z (b x) x → ¬ UpTo par x z
def Full (S : Nat → List Nat) (r n : Nat) (par : Nat → Int) : Prop := ∀ x, x < n → Rc S r x → par x ≠ -2
def Exact (S : Nat → List Nat) (r n : Nat) (par : Nat → Int) : Prop := ∀ x, x < n → par x ≠ -2 → ∀ d, UpTo par x d ↔ ¬ Av S r d x
theorem qb_zero (h : Inv S r n at_ par) : QB S r n par fun _ => 0 := fun x hx hp z hz k => by
  cases hz with
  | root hr _ => exact hr (h.root_anc.1 k).symm
theorem rc_lt (hS : ∀ x, x < n → ∀ w ∈ S x, w < n) (hr : r < n) {x : Nat} (h : Rc S r x) : x < n := by
  induction h with
  | root => exact hr
  | step _ hy ih => exact hS _ ih _ hy
theorem Better.qb {y z k : Nat} {b : Nat → Nat} (h : Better S r n at_ par y z) (hS : ∀ x, x < n → ∀ w ∈ S x, w < n) (hrn : r < n) (full : Full S r n par) (hb : ∀ x, x < n → k ≤ b x ∧ b x ≤ k + 1) (q : QB S r n par b) :
    QB S r n (Gt par y z) fun x => if x = y then k + 1 else b x := by
  have here : ∀ w, AvN S r w (k + 1) y → ¬ UpTo (Gt par y z) y w := fun w hw hu => by
    rcases h.here.1 hu with rfl | hu
    · exact hw.av.ne rfl
    · cases hw with
      | root hr _ => exact h.hr rfl
      | @step _ p _ hp hyp hne =>
        have hpn := rc_lt hS hrn hp.av.rc; have hpp := full p hpn hp.av.rc; exact q p hpn hpp w (hp.mono (hb p hpn).1) ((h.best w).1 hu p hpn hyp hpp)
  intro x hx hxp w hw hu
  dsimp only at hw
  by_cases e : x = y
  · subst e; rw [if_pos rfl] at hw; exact here w hw hu
  · rw [if_neg e] at hw; unfold Gt at hxp; rw [if_neg e] at hxp; rcases anc_upd_inv hu with h1 | ⟨h1, h2⟩
    · exact q x hx hxp w hw h1
    · rcases hw.via y with h3 | h3
      · exact q x hx hxp y h3 h1
      · exact here w (h3.mono (hb x hx).2) h2
theorem exact_of (h : Inv S r n at_ par) {K : Nat} (hK : ∀ z, z < n → ∀ x, x < n → Av S r z x → AvN S r z K x) (q : QB S r n par fun _ => K) : Exact S r n par := fun x hx hp d => by
  constructor
  · intro hu ha; exact q x hx hp d (hK d (h.anc hu hx hp).1 x hx ha) hu
  · intro ha; exact Classical.byContradiction fun hn => ha (h.all x hx hp d hn)
theorem Better.same {y z : Nat} (h : Better S r n at_ par y z) (hS : ∀ x, x < n → ∀ w ∈ S x, w < n) (hrn : r < n) (full : Full S r n par) (hy2 : par y ≠ -2) (ex : Exact S r n par) : par y = (z : Int) := by
  obtain ⟨hzz, hz2, hzl, hzf⟩ := h.zlt; rcases h.inv.kind y h.hy with h1 | h1 | ⟨q, hq⟩
  · exact absurd h1 hy2
  · exact absurd h1 h.hr
  · obtain ⟨q1, q2, q3, q4⟩ := h.inv.up y h.hy q hq
    have key : ∀ w, UpTo par z w ↔ UpTo par q w := fun w => by
      rw [h.best w]
      constructor
      · intro hall
        have hwy : ¬ Av S r w y := fun ha => by
          cases ha with
          | root _ => exact h.hr rfl
          | @step p _ hp hyp hne =>
            have hpn := rc_lt hS hrn hp.rc; have hpp := full p hpn hp.rc; exact (ex p hpn hpp w).1 (hall p hpn hyp hpp) hp
        rcases (anc_up hq).1 ((ex y h.hy hy2 w).2 hwy) with rfl | hu
        · have := (h.inv.anc ((h.best _).2 hall) h.hz hz2).2.2.1; omega
        · exact hu
      · intro hu p hp hyp hpp; have hwy : UpTo par y w := .up hq hu; refine (ex p hp hpp w).2 fun ha => ?_
        have hne : y ≠ w := by rintro rfl; have := (h.inv.anc hu q1 q2).2.2.1; omega
        exact (ex y h.hy hy2 w).1 hwy (.step ha hyp hne)
    have := h.inv.antisymm ((key q).2 (.refl _)) ((key z).1 (.refl _)) h.hz hz2; rw [hq, this]
theorem exact_fix (h : Inv S r n at_ par) (hS : ∀ x, x < n → ∀ w ∈ S x, w < n) (hrn : r < n) (full : Full S r n par) (fix : ∀ y, y < n → y ≠ r → Rc S r y → ∃ z : Nat, par y = (z : Int) ∧ Zq S n par y z) : Exact S r n par := fun x hx hp d => by
  constructor
  · intro hu ha
    induction ha with
    | root hne => exact hne (h.root_anc.1 hu).symm
    | @step p y hp' hyp hne ih =>
      have hpn := rc_lt hS hrn hp'.rc; have hpp := full p hpn hp'.rc
      by_cases e : y = r
      · subst e; exact hne (h.root_anc.1 hu).symm
      · obtain ⟨z, hz, hb⟩ := fix y hx e (.step hp'.rc hyp); rcases (anc_up hz).1 hu with rfl | hu
        · exact hne rfl
        · exact ih hpn hpp ((hb d).1 hu p hpn hyp hpp)
  · intro ha; exact Classical.byContradiction fun hn => ha (h.all x hx hp d hn)
end
def A2 (t : List Int) : Nat → Int := fun x => t.getD x 0
theorem X4 {t : List Int} {y : Nat} {v : Int} (hy : y < t.length) : A2 (t.set y v) = Gt (A2 t) y v := by
  funext x
  unfold A2 Gt
  by_cases e : x = y
  · subst e; simp [List.getD, hy]
  · simp [List.getD, e, Ne.symm e]
open Classical in
def Gg (S : Nat → List Nat) (n : Nat) (t : List Int) (y : Nat) : Nat := if h : ∃ z, z < n ∧ Zq S n (A2 t) y z then Classical.choose h else 0
def K1 (S : Nat → List Nat) (n : Nat) (P : List Nat) (t : List Int) : Nat → List Int
  | 0 => t
  | i + 1 => (K1 S n P t i).set (P.getD i 0) (Gg S n (K1 S n P t i) (P.getD i 0) : Int)
def Qw (S : Nat → List Nat) (n : Nat) (P : List Nat) (t : List Int) : Nat → List Int
  | 0 => t
  | j + 1 => K1 S n P (Qw S n P t j) P.length
def Dv (n r : Nat) : List Int := (List.replicate n (-2 : Int)).set r (-1)
structure Ordered (S : Nat → List Nat) (r n : Nat) (P : List Nat) : Prop where
  hr : r < n
  hS : ∀ x, x < n → ∀ w ∈ S x, w < n
  nodup : (r :: P).Nodup
  mem : ∀ x, x ∈ r :: P ↔ Rc S r x
  fwd : ∀ i, i < P.length → ∃ p, p ∈ r :: P.take i ∧ P.getD i 0 ∈ S p
section
variable {S : Nat → List Nat} {r n : Nat} {P : List Nat}
theorem Ordered.lt (o : Ordered S r n P) {x : Nat} (h : x ∈ r :: P) : x < n := rc_lt o.hS o.hr ((o.mem x).1 h)
theorem Ib {i : Nat} (hi : i < P.length) : P.getD i 0 ∈ P := by rw [An _ _ _ hi]; exact List.getElem_mem hi
theorem Ordered.at_lt (o : Ordered S r n P) {i : Nat} (hi : i < P.length) {p : Nat} (hp : p ∈ r :: P.take i) : pos (r :: P) p < pos (r :: P) (P.getD i 0) := by
  have hd := o.nodup
  have h1 : pos (r :: P) (P.getD i 0) = i + 1 := by
    have := (Qt hd (i := i + 1) (by simpa using hi)).2; rw [An _ _ _ hi]
    simpa using this
  rw [h1]; obtain ⟨j, hj, rfl⟩ := List.getElem_of_mem hp
  have hj' : j < i + 1 := by simp at hj; omega
  have hjl : j < (r :: P).length := by simp; omega
  have e : (r :: P.take i)[j] = (r :: P)[j] := by
    cases j with
    | zero => rfl
    | succ j => simp
  rw [e, (Qt hd hjl).2]; exact hj'
theorem inv0 (o : Ordered S r n P) : Inv S r n (pos (r :: P)) (A2 (Dv n r)) ∧ (Dv n r).length = n ∧ A2 (Dv n r) r ≠ -2 := by
  have hlen : (Dv n r).length = n := by simp [Dv]
  have hr := o.hr
  have at_ : ∀ x, x < n → A2 (Dv n r) x = if x = r then -1 else -2 := fun x hx => by
    unfold A2 Dv
    by_cases e : x = r
    · subst e; simp [List.getD, hx]
    · simp [List.getD, hx, e, Ne.symm e]
  have hno : ∀ x, x < n → ∀ p : Nat, A2 (Dv n r) x ≠ (p : Int) := fun x hx p hp => by rw [at_ x hx] at hp; split at hp <;> omega
  refine ⟨⟨by rw [at_ r hr, if_pos rfl], fun x hx => ?_, fun x hx z hz => absurd hz (hno x hx z), fun x hx hp => ?_, fun x hx hp d hd => ?_⟩, hlen, by rw [at_ r hr, if_pos rfl]; omega⟩
  · by_cases e : x = r
    · exact .inr (.inl e)
    · exact .inl (by rw [at_ x hx, if_neg e])
  · by_cases e : x = r
    · subst e; exact .root
    · exact absurd (by rw [at_ x hx, if_neg e]) hp
  · by_cases e : x = r
    · subst e; exact .root (fun e => hd (by rw [e]; exact .refl _))
    · exact absurd (by rw [at_ x hx, if_neg e]) hp
structure Ready (S : Nat → List Nat) (r n : Nat) (P : List Nat) (t : List Int) (i : Nat) : Prop where
  inv : Inv S r n (pos (r :: P)) (A2 t)
  len : t.length = n
  done : ∀ x ∈ r :: P.take i, A2 t x ≠ -2
theorem Inv.meets {at_ : Nat → Nat} {par : Nat → Int} (h : Inv S r n at_ par) (hinj : ∀ x y, x < n → y < n → par x ≠ -2 → par y ≠ -2 → at_ x = at_ y → x = y) (hr : at_ r = 0) : ∀ m a b, at_ a + at_ b ≤ m → a < n → b < n → par a ≠ -2 → par b ≠ -2 → ∃ c, MeetAt par a b c ∧ c < n ∧ par c ≠ -2 := by
  intro m
  induction m with
  | zero =>
    intro a b hm ha hb hpa hpb; have : a = b := hinj a b ha hb hpa hpb (by omega); subst this; exact ⟨a, Uf, ha, hpa⟩
  | succ m ih =>
    have go : ∀ a b, at_ a + at_ b ≤ m + 1 → a < n → b < n → par a ≠ -2 → par b ≠ -2 → at_ b ≤ at_ a → ∃ c, MeetAt par a b c ∧ c < n ∧ par c ≠ -2 := fun a b hm ha hb hpa hpb hl => by
      by_cases e : a = b
      · subst e; exact ⟨a, Uf, ha, hpa⟩
      · rcases h.kind a ha with h1 | h1 | ⟨p, hp⟩
        · exact absurd h1 hpa
        · subst h1; exact absurd (hinj a b ha hb hpa hpb (by omega)) e
        · obtain ⟨p1, p2, p3, p4⟩ := h.up a ha p hp; obtain ⟨c, hc, hc2⟩ := ih p b (by omega) p1 hb p2 hpb; exact ⟨c, h.meet_left hinj ha hpa hb hpb e hl hp hc, hc2⟩
    intro a b hm ha hb hpa hpb; rcases Nat.le_total (at_ b) (at_ a) with hl | hl
    · exact go a b hm ha hb hpa hpb hl
    · obtain ⟨c, hc, hc2⟩ := go b a (by omega) hb ha hpb hpa hl; exact ⟨c, meet_swap hc, hc2⟩
theorem Ready.inj (o : Ordered S r n P) {t : List Int} {i : Nat} (h : Ready S r n P t i) : ∀ x y, x < n → y < n → A2 t x ≠ -2 → A2 t y ≠ -2 → pos (r :: P) x = pos (r :: P) y → x = y := fun x y hx hy hpx hpy he => by
  have hm : ∀ x, x < n → A2 t x ≠ -2 → x ∈ r :: P := fun x hx hp => (o.mem x).2 (h.inv.rc x hx hp)
  have back : ∀ x ∈ r :: P, (r :: P).getD (pos (r :: P) x) 0 = x := fun x hx => by
    obtain ⟨j, hj, rfl⟩ := List.getElem_of_mem hx; rw [(Qt o.nodup hj).2, An _ _ _ hj]
  rw [← back x (hm x hx hpx), ← back y (hm y hy hpy), he]
theorem Yv : pos (r :: P) r = 0 := by rw [Sx, if_pos rfl]
theorem Ready.meetAll (o : Ordered S r n P) {t : List Int} {i : Nat} (h : Ready S r n P t i) : ∀ l : List Nat, (∀ p ∈ l, p < n ∧ A2 t p ≠ -2) → l ≠ [] → ∃ z, z < n ∧ A2 t z ≠ -2 ∧ ∀ w, UpTo (A2 t) z w ↔ ∀ p ∈ l, UpTo (A2 t) p w := by
  intro l
  induction l with
  | nil => intro _ hn; exact absurd rfl hn
  | cons p l ih =>
    intro hl _; obtain ⟨hp1, hp2⟩ := hl p (List.mem_cons_self ..)
    by_cases hl0 : l = []
    · subst hl0; exact ⟨p, hp1, hp2, fun w => by simp⟩
    · obtain ⟨z, hz1, hz2, hz3⟩ := ih (fun q hq => hl q (List.mem_cons_of_mem _ hq)) hl0; obtain ⟨c, hc1, hc2, hc3⟩ := h.inv.meets (h.inj o) Yv _ p z (Nat.le_refl _) hp1 hz1 hp2 hz2; exact ⟨c, hc2, hc3, fun w => by rw [hc1 w, hz3 w]; simp⟩
theorem Ready.best (o : Ordered S r n P) {t : List Int} {i : Nat} (h : Ready S r n P t i) (hi : i < P.length) : Better S r n (pos (r :: P)) (A2 t) (P.getD i 0) (Gg S n t (P.getD i 0)) := by
  have hy := Ib hi; have hyr : P.getD i 0 ≠ r := fun e => (List.nodup_cons.1 o.nodup).1 (e ▸ hy); have hyn := o.lt (List.mem_cons_of_mem _ hy); obtain ⟨p, hp, hyp⟩ := o.fwd i hi; have hp2 := h.done p hp
  have hpP : p ∈ r :: P := by
    rcases List.mem_cons.1 hp with rfl | hp
    · exact List.mem_cons_self ..
    · exact List.mem_cons_of_mem _ (List.mem_of_mem_take hp)
  have hpn := o.lt hpP
  have hex : ∃ z, z < n ∧ Zq S n (A2 t) (P.getD i 0) z := by
    classical
    obtain ⟨z, hz1, hz2, hz3⟩ := h.meetAll o ((List.range n).filter fun p => decide (P.getD i 0 ∈ S p ∧ A2 t p ≠ -2)) (fun p hp => by
      obtain ⟨h1, h2⟩ := List.mem_filter.1 hp
      exact ⟨List.mem_range.1 h1, (of_decide_eq_true h2).2⟩) (fun e => by
      have : p ∈ (List.range n).filter fun p => decide (P.getD i 0 ∈ S p ∧ A2 t p ≠ -2) := List.mem_filter.2 ⟨List.mem_range.2 hpn, decide_eq_true ⟨hyp, hp2⟩⟩
      rw [e] at this; cases this)
    refine ⟨z, hz1, fun w => ?_⟩; rw [hz3 w]
    constructor
    · intro k p hp hyp hpp; exact k p (List.mem_filter.2 ⟨List.mem_range.2 hp, decide_eq_true ⟨hyp, hpp⟩⟩)
    · intro k p hp; obtain ⟨h1, h2⟩ := List.mem_filter.1 hp; exact k p (List.mem_range.1 h1) (of_decide_eq_true h2).1 (of_decide_eq_true h2).2
  have hb : Gg S n t (P.getD i 0) < n ∧ Zq S n (A2 t) (P.getD i 0) (Gg S n t (P.getD i 0)) := by
    unfold Gg; rw [dif_pos hex]; exact Classical.choose_spec hex
  exact ⟨h.inv, hyn, hyr, hb.1, hb.2, p, hpn, hyp, hp2, o.at_lt hi hp⟩
theorem Ready.best_eq (o : Ordered S r n P) {t : List Int} {i : Nat} (h : Ready S r n P t i) (hi : i < P.length) {z : Nat} (hz : z < n) (hz2 : A2 t z ≠ -2) (hb : Zq S n (A2 t) (P.getD i 0) z) : z = Gg S n t (P.getD i 0) := by
  have b := h.best o hi; exact (h.inv.antisymm ((hb _).2 ((b.best _).1 (.refl _))) ((b.best _).2 ((hb _).1 (.refl _))) hz hz2).symm
theorem Ready.next (o : Ordered S r n P) {t : List Int} {i : Nat} (h : Ready S r n P t i) (hi : i < P.length) : Ready S r n P (t.set (P.getD i 0) (Gg S n t (P.getD i 0) : Int)) (i + 1) := by
  have b := h.best o hi; have e := X4 (t := t) (y := P.getD i 0) (v := (Gg S n t (P.getD i 0) : Int)) (by rw [h.len]; exact b.hy); refine ⟨by rw [e]; exact b.inv', by rw [List.length_set]; exact h.len, fun x hx => ?_⟩; rw [e]; unfold Gt
  split
  · omega
  · rename_i hne
    refine h.done x ?_; rcases List.mem_cons.1 hx with rfl | hx
    · exact List.mem_cons_self ..
    · rw [List.take_succ_eq_append_getElem hi] at hx; rcases List.mem_append.1 hx with hx | hx
      · exact List.mem_cons_of_mem _ hx
      · rw [List.mem_singleton, ← An _ _ 0 hi] at hx; exact absurd hx hne
theorem Ready.more (o : Ordered S r n P) {t : List Int} (h : Ready S r n P t P.length) (i : Nat) : Ready S r n P t i :=
  ⟨h.inv, h.len, fun x hx => h.done x (by
    rw [List.take_length]; rcases List.mem_cons.1 hx with rfl | hx
    · exact List.mem_cons_self ..
    · exact List.mem_cons_of_mem _ (List.mem_of_mem_take hx))⟩
theorem Ready.full (o : Ordered S r n P) {t : List Int} (h : Ready S r n P t P.length) : Full S r n (A2 t) := fun x hx hr => h.done x (by rw [List.take_length]; exact (o.mem x).2 hr)
theorem Ready.round (o : Ordered S r n P) {t : List Int} (h : Ready S r n P t 0) : ∀ i, i ≤ P.length → Ready S r n P (K1 S n P t i) i := by
  intro i
  induction i with
  | zero => intro _; exact h
  | succ i ih => intro hi; exact (ih (by omega)).next o (by omega)
theorem ready0 (o : Ordered S r n P) : Ready S r n P (Dv n r) 0 := by
  obtain ⟨h1, h2, h3⟩ := inv0 o; exact ⟨h1, h2, fun x hx => by simp at hx; subst hx; exact h3⟩
theorem Ready.rounds (o : Ordered S r n P) : ∀ j, Ready S r n P (Qw S n P (Dv n r) j) 0 := by
  intro j
  induction j with
  | zero => exact ready0 o
  | succ j ih => exact ((ih.round o) P.length (Nat.le_refl _)).more o 0
theorem Ready.rounds' (o : Ordered S r n P) (j : Nat) : Ready S r n P (Qw S n P (Dv n r) (j + 1)) P.length := (Ready.rounds o j).round o P.length (Nat.le_refl _)
theorem qb_round (o : Ordered S r n P) {t : List Int} {k : Nat} (h : Ready S r n P t P.length) (q : QB S r n (A2 t) fun _ => k) : QB S r n (A2 (K1 S n P t P.length)) fun _ => k + 1 := by
  have key : ∀ i, i ≤ P.length → QB S r n (A2 (K1 S n P t i)) (fun x => if x ∈ P.take i then k + 1 else k) ∧ Full S r n (A2 (K1 S n P t i)) := by
    intro i
    induction i with
    | zero => intro _; exact ⟨by simpa [K1] using q, h.full o⟩
    | succ i ih =>
      intro hi; obtain ⟨q1, f1⟩ := ih (by omega); have rd := (h.more o 0).round o i (by omega); have b := rd.best o (by omega); have e := X4 (t := K1 S n P t i) (y := P.getD i 0) (v := (Gg S n (K1 S n P t i) (P.getD i 0) : Int)) (by rw [rd.len]; exact b.hy)
      constructor
      · show QB S r n (A2 ((K1 S n P t i).set _ _)) _
        rw [e]; have := b.qb (k := k) o.hS o.hr f1 (fun x _ => by split <;> omega) q1; intro x hx hp z hz; refine this x hx hp z ?_
        dsimp only at hz ⊢
        rw [List.take_succ_eq_append_getElem (by omega : i < P.length)] at hz
        by_cases e1 : x = P.getD i 0
        · rw [if_pos e1]; rwa [if_pos (List.mem_append.2 (.inr (List.mem_singleton.2 (by rw [e1, An _ _ _ (by omega : i < P.length)]))))] at hz
        · rw [if_neg e1]
          by_cases e2 : x ∈ P.take i
          · rw [if_pos e2]; rwa [if_pos (List.mem_append.2 (.inl e2))] at hz
          · rw [if_neg e2]
            rwa [if_neg (fun hm => by
              rcases List.mem_append.1 hm with hm | hm
              · exact e2 hm
              · rw [List.mem_singleton, ← An _ _ 0 (by omega : i < P.length)] at hm; exact e1 hm)] at hz
      · show Full S r n (A2 ((K1 S n P t i).set _ _))
        rw [e]; intro x hx hr; unfold Gt
        split
        · omega
        · exact f1 x hx hr
  have q1 := (key P.length (Nat.le_refl _)).1; rw [List.take_length] at q1; have rd := (h.more o 0).round o P.length (Nat.le_refl _); intro x hx hp z hz; refine q1 x hx hp z ?_
  dsimp only at hz ⊢
  by_cases e : x ∈ P
  · rw [if_pos e]; exact hz
  · rw [if_neg e]
    have hxr : x = r := by
      rcases List.mem_cons.1 ((o.mem x).2 (rd.inv.rc x hx hp)) with h1 | h1
      · exact h1
      · exact absurd h1 e
    subst hxr; exact .root hz.av.ne k
def Kr (S : Nat → List Nat) (n : Nat) (P : List Nat) (t : List Int) : Prop := ∀ i, i < P.length → A2 t (P.getD i 0) = (Gg S n t (P.getD i 0) : Int)
theorem Li {t : List Int} (o : Ordered S r n P) (hl : t.length = n) (h : Kr S n P t) : ∀ i, i ≤ P.length → K1 S n P t i = t := by
  intro i
  induction i with
  | zero => intro _; rfl
  | succ i ih =>
    intro hi; unfold K1; rw [ih (by omega), ← h i (by omega)]
    have hlt : P.getD i 0 < t.length := by rw [hl]; exact o.lt (List.mem_cons_of_mem _ (Ib (by omega)))
    unfold A2; rw [An _ _ _ hlt]; exact List.set_getElem_self hlt
theorem stops (o : Ordered S r n P) : ∃ J, (∀ j, j < J → ¬ Kr S n P (Qw S n P (Dv n r) j)) ∧ Kr S n P (Qw S n P (Dv n r) J) := by
  obtain ⟨K, hK⟩ := avn_bound (S := S) (r := r) n
  have hq : ∀ k, QB S r n (A2 (Qw S n P (Dv n r) (k + 1))) fun _ => k := by
    intro k
    induction k with
    | zero => exact qb_zero (Ready.rounds' o 0).inv
    | succ k ih => exact qb_round o (Ready.rounds' o k) ih
  have hst : Kr S n P (Qw S n P (Dv n r) (K + 1)) := fun i hi => by
    have rd := Ready.rounds' o K; exact ((rd.more o i).best o hi).same o.hS o.hr (rd.full o) (rd.done _ (List.mem_cons_of_mem _ (by rw [List.take_length]; exact Ib hi))) (exact_of rd.inv hK (hq K))
  have key : ∀ m, (∃ J, J ≤ m ∧ Kr S n P (Qw S n P (Dv n r) J)) → ∃ J, (∀ j, j < J → ¬ Kr S n P (Qw S n P (Dv n r) j)) ∧ Kr S n P (Qw S n P (Dv n r) J) := by
    intro m
    induction m with
    | zero => rintro ⟨J, hJ, h⟩; exact ⟨J, fun j hj => by omega, h⟩
    | succ m ih =>
      rintro ⟨J, hJ, h⟩
      by_cases hm : ∃ J, J ≤ m ∧ Kr S n P (Qw S n P (Dv n r) J)
      · exact ih hm
      · exact ⟨J, fun j hj hs => hm ⟨j, by omega, hs⟩, h⟩
  exact key (K + 1) ⟨K + 1, Nat.le_refl _, hst⟩
structure DomTree (S : Nat → List Nat) (r n : Nat) (P : List Nat) (t : List Int) : Prop where
  inv : Inv S r n (pos (r :: P)) (A2 t)
  len : t.length = n
  full : Full S r n (A2 t)
  exact_ : Exact S r n (A2 t)
theorem Px (o : Ordered S r n P) {j : Nat} (h : Kr S n P (Qw S n P (Dv n r) j)) : DomTree S r n P (Qw S n P (Dv n r) j) := by
  have rd := Ready.rounds o j
  have hall : Ready S r n P (Qw S n P (Dv n r) j) P.length := by
    have := rd.round o P.length (Nat.le_refl _); rwa [Li o rd.len h P.length (Nat.le_refl _)] at this
  refine ⟨rd.inv, rd.len, hall.full o, exact_fix rd.inv o.hS o.hr (hall.full o) fun y hy hne hr => ?_⟩
  have hm : y ∈ P := by
    rcases List.mem_cons.1 ((o.mem y).2 hr) with h1 | h1
    · exact absurd h1 hne
    · exact h1
  obtain ⟨i, hi, rfl⟩ := List.getElem_of_mem hm; have b := (hall.more o i).best o hi; rw [An _ _ _ hi] at b; have hs := h i hi; rw [An _ _ _ hi] at hs; exact ⟨_, hs, b.best⟩
end
end
end Go.Proofs.Ytjdddniaokcgnaa
