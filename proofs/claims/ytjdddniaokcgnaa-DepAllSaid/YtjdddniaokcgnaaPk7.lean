/-
  The machine, the program's functions and the laws' arithmetic: part 7 of 7.
-/
import Derived.Test.YtjdddniaokcgnaaPk6
import Derived.OpenShut
import Derived.ShutString
set_option linter.unusedVariables false
set_option linter.unusedSimpArgs false
namespace Go.Proofs.Ytjdddniaokcgnaa
noncomputable section
open Go Go.RowKit
set_option linter.unusedVariables false
set_option linter.unusedSimpArgs false
def Fo (L : List (List Int)) (x b : Nat) : Bool := ((List.range L.length).any fun a => F9 L a b && Ez L 0 x a) && (decide (b = x) || !Ez L 0 x b)
def frontL (L : List (List Int)) (x : Nat) : List Int := ((List.range L.length).filter (Fo L x)).map Int.ofNat
def Nh (g : TGraph) (x : Int) : List Int := if Hn g = true ∧ 0 ≤ x ∧ x < (g.Succ.length : Int) ∧ (Gd g.Succ 0 (-1)).getD x.toNat false = true then frontL g.Succ x.toNat else []
section
variable {L : List (List Int)} (hm : Ec L = true)
include hm
theorem front_L1 {x b : Nat} (hx : x < L.length) (hb : b < L.length) : Aw (Bq (gOf L) (x : Int) (b : Int)) (false, (0 : Int)) = some ((List.range L.length).any fun a => F9 L a b && Ez L 0 x a) := by
  obtain ⟨h1, h64, hok⟩ := mayS_iff.1 hm; have hg : (gOf L).Succ = L := rfl; refine Cy (Bq (gOf L) (x : Int) (b : Int)) (fun m => ((List.range m).any fun a => F9 L a b && Ez L 0 x a, ((m : Nat) : Int))) _ L.length (fun m hmm => ?_) ?_
  · show Bq _ _ _ (_, (m : Int)) = _
    unfold Bq
    have hrl : (L.getD m []).length ≤ 64 := by have := Jy (hok m hmm); omega
    have hh : Dc (L.getD m []) (b : Int) = some (F9 L m b) := m_has _ _ (by omega); have ho : C5 (gOf L) 0 (x : Int) (m : Int) = some (Ez L 0 x m) := Uk hm (r := 0) (by omega) hmm; simp only [hg, Cb hmm, cond_true, An, hh, ho]; rw [Ae (fun _ => De hmm), w1 (by omega), List.range_succ, List.any_append, List.any_cons, List.any_nil, Bool.or_false]
    cases (List.range m).any fun a => F9 L a b && Ez L 0 x a with
    | true => rfl
    | false => cases F9 L m b <;> rfl
  · show Bq _ _ _ (_, _) = _
    unfold Bq; simp only [hg, Dh, cond_false]
theorem front_L2 {x : Nat} (hx : x < L.length) : Aw (Bs (gOf L) (x : Int)) (([] : List Int), (0 : Int)) = some (frontL L x) := by
  obtain ⟨h1, h64, hok⟩ := mayS_iff.1 hm
  have hroom : (1000 : Nat) ≤ room := by decide
  have hg : (gOf L).Succ = L := rfl; refine Cy (Bs (gOf L) (x : Int)) (fun m => (((List.range m).filter (Fo L x)).map Int.ofNat, ((m : Nat) : Int))) _ L.length (fun m hmm => ?_) ?_
  · show Bs _ _ (_, (m : Int)) = _
    unfold Bs; have ho : C5 (gOf L) 0 (x : Int) (m : Int) = some (Ez L 0 x m) := Uk hm (r := 0) (by omega) hmm; have hlen := filt_len (Fo L x) m; simp only [hg, Cb hmm, cond_true, front_L1 hm hx hmm, Option.bind_some, ho, T6]; rw [filt_succ]; have hval : Fo L x m = (((List.range L.length).any fun a => F9 L a m && Ez L 0 x a) && (decide (m = x) || !Ez L 0 x m)) := rfl
    have key : ∀ b : Bool, (bif b then Bw ((((List.range m).filter (Fo L x)).map Int.ofNat).length + ([(m : Int)] : List Int).length ≤ room) (some ((((List.range m).filter (Fo L x)).map Int.ofNat) ++ ([(m : Int)] : List Int))) else some (((List.range m).filter (Fo L x)).map Int.ofNat)) = some ((((List.range m).filter (Fo L x)).map Int.ofNat) ++ if b = true then [(m : Int)] else []) := fun b => by
      cases b with
      | true => rw [cond_true, Ae (by simp only [List.length_cons, List.length_nil]; omega), if_pos rfl]
      | false => rw [cond_false, if_neg (by simp), List.append_nil]
    rw [hval]
    cases hA : ((List.range L.length).any fun a => F9 L a m && Ez L 0 x a) with
    | false =>
      have ff : (false == true) = false := rfl; simp only [ff, Bool.false_and, cond_false, Option.bind_some, Bool.false_eq_true, if_false, List.append_nil]; rw [w1 (by omega)]
    | true =>
      cases hB : decide (m = x) with
      | true =>
        simp only [beq_self_eq_true, Bool.and_false, Bool.true_and, show (true == false) = false from rfl, cond_false, cond_true, Option.bind_some, Bool.true_or]; rw [Ae (by simp only [List.length_cons, List.length_nil]; omega), Option.bind_some, w1 (by omega)]
        rfl
      | false =>
        simp only [beq_self_eq_true, Bool.and_self, cond_true, Option.bind_some, cond_false, Bool.false_or, Bool.true_and]; rw [key, Option.bind_some, w1 (by omega)]
  · show Bs _ _ (_, _) = _
    unfold Bs; simp only [hg, Dh, cond_false]
    rfl
end
theorem N6 (g : TGraph) (h1 : Fits g.Succ) (x : Int) : Da g x = some (Nh g x) := by
  unfold Da Nh; rw [Xg _ h1, Option.bind_some]
  cases hG : Hn g with
  | false => rw [if_neg (by simp)]; rfl
  | true =>
    obtain ⟨hm, hg⟩ := J4 hG; have hL1 := (mayS_iff.1 hm).1
    by_cases h0 : x < 0
    · rw [if_neg (by omega), decide_eq_true h0]; rfl
    · by_cases h2 : (g.Succ.length : Int) ≤ x
      · rw [if_neg (by omega), decide_eq_false h0, decide_eq_true h2]; rfl
      · have hR := N7 hm (r := 0) (by omega) (-1); rw [← hg] at hR
        have hxl : x.toNat < g.Succ.length := by omega
        rw [decide_eq_false h0, decide_eq_false h2]; simp only [Bool.not_true, cond_false, beq_self_eq_true, cond_true]
        show Option.bind (Bp g ((0 : Nat) : Int) (-1)) _ = _
        rw [hR, Option.bind_some, Ae (fun _ => ⟨by omega, by rw [Ko]; omega⟩)]
        cases hr : (Gd g.Succ 0 (-1)).getD x.toNat false with
        | false => rw [if_neg (by simp)]; rfl
        | true =>
          rw [if_pos ⟨trivial, by omega, by omega, by first | rfl | trivial⟩, Bool.not_true, cond_false]; have hl := front_L2 hm hxl; rw [← hg, Int.toNat_of_nonneg (by omega)] at hl; rw [hl]
          rfl
structure Facts9 : Prop where
  all : ∀ (g : TGraph), Fits g.Succ → Fits g.Pred → Ha g = some (depG g)
  of_ : ∀ (g : TGraph) (x : Int), Fits g.Succ → Fits g.Pred → Ke g x = some ((depG g).filter fun d => d.Block == x)
  front : ∀ (g : TGraph) (x : Int), Fits g.Succ → Fits g.Pred → E3 g x = some (Nh g x)
  tree : ∀ (g : TGraph) (r : Int), Fits g.Succ → Fits g.Pred → Gy g r = some (Abn g r)
  over : ∀ (t : List Int) (a b : Int), t.length ≤ 64 → Hy t a b = some (Ig t a b)
theorem Rh (g : TGraph) : (depG g).length ≤ 262144 := by
  unfold depG
  split
  · rename_i h
    have h1 := Xh (L := g.Succ) g.Succ.length; have h2 : g.Succ.length * (g.Succ.length * g.Succ.length) ≤ 64 * (64 * 64) := Nat.mul_le_mul (by omega) (Nat.mul_le_mul (by omega) (by omega)); exact Nat.le_trans h1 h2
  · simp
theorem Vd (g : TGraph) (x : Int) : (Nh g x).length ≤ 64 := by
  unfold Nh
  split
  · rename_i h
    exact Nat.le_trans (filt_len _ _) (mayS_iff.1 (J4 h.1).1).2.1
  · simp
theorem depSame {a : List TDep} (h : a.length < 4611686018427387904) : Cm a a = some true := by
  unfold Cm; rw [bne_self_eq_false, cond_false]
  have hl : Aw (Ch a a) (0 : Int) = some (.inl ()) := by
    refine Cy (Ch a a) (fun i => ((i : Nat) : Int)) _ a.length (fun i hi => ?_) ?_
    · show Ch a a (i : Int) = _
      unfold Ch; simp only [Cb hi, cond_true, An, beq_self_eq_true, Bool.and_self, Bool.not_true, cond_false]; rw [Ae (De hi), Ae (De hi), w1 (by omega)]
    · show Ch a a _ = _
      unfold Ch; simp only [Dh, cond_false]
  rw [hl]
  rfl
theorem Ro {a : List Int} (h : a.length ≤ 64) : Be a a = some true := by
  rw [m_ints a a (by omega)]; simp
def Xl : List (List Int) := [[1, 2], [3], [3], []]
theorem Ou : Ec Xl = true := by decide
theorem wake9_dep : Yy Xl = [⟨1, 0, 1⟩, ⟨2, 0, 2⟩] := by decide +kernel
theorem wake9_front : Nh (gOf Xl) 1 = [3] := by decide +kernel
theorem wake9_depG : depG (gOf Xl) = [⟨1, 0, 1⟩, ⟨2, 0, 2⟩] := by
  unfold depG; rw [if_pos ⟨N5 Ou, by decide⟩]; exact wake9_dep
theorem m_awake9 (F : Facts9) : Ep = some true := by
  unfold Ep
  show Option.bind (Fa Xl) _ = _
  obtain ⟨h1, h2⟩ := G5 Ou; rw [m_make Xl (G4 (Fk Ou)), Ou, cond_true, Option.bind_some]; simp only [F.all _ h1 h2, F.of_ _ _ h1 h2, F.front _ _ h1 h2, Option.bind_some, wake9_depG, wake9_front]; have i0 : A4 (0 : Int) ([⟨1, 0, 1⟩, ⟨2, 0, 2⟩] : List TDep).length := ⟨by decide, by decide⟩; have i1 : A4 (1 : Int) ([⟨1, 0, 1⟩, ⟨2, 0, 2⟩] : List TDep).length := ⟨by decide, by decide⟩; rw [Ae (fun _ => i0), Ae (fun _ => i1)]; have hi : Be [3] ([(3 : Int)] : List (Int)) = some true := Ro (by simp)
  show (Option.bind (Be [3] [(3 : Int)]) fun x6 => Option.bind (bif (bif true then x6 else false) == true then some (([⟨1, 0, 1⟩, ⟨2, 0, 2⟩] : List TDep).filter fun d => d.Block == 3) else some []) fun x7 => some (bif (bif true then x6 else false) then (x7.length : Int) == 0 else false)) = _
  rw [hi]
  rfl
theorem Xb {f : List TDep × Int → Option (LR (List TDep × Int) (List TDep))} (l : List TDep) (p : TDep → Bool) (hl : l.length ≤ 262144)
    (h1 : ∀ (o : List TDep) i, i < l.length → o.length ≤ i → f (o, (i : Int)) = some (.next (o ++ (if p (l.getD i default) = true then [l.getD i default] else []), ((i + 1 : Nat) : Int)))) (h2 : ∀ o, f (o, (l.length : Int)) = some (.done o)) : Aw f (([] : List TDep), (0 : Int)) = some (l.filter p) := by
  have hlen : ∀ i, ((l.take i).filter p).length ≤ i := fun i => Nat.le_trans (List.length_filter_le ..) (by simp; omega)
  have := Cy f (fun i => ((l.take i).filter p, ((i : Nat) : Int))) (l.filter p) l.length (fun i hi => by
    show f (_, (i : Int)) = _
    rw [h1 _ i hi (hlen i), List.take_succ_eq_append_getElem hi, List.filter_append, As _ _ _ hi]
    congr 3
    by_cases h : p l[i] = true
    · rw [if_pos h]; simp [h]
    · rw [if_neg h]; simp [h]) (by show f (_, _) = _; rw [h2, List.take_length])
  exact this
theorem all9 (F : Facts9) (a p : List (List Int)) (x : Int) (ha : a.length ≤ maxLen) (hp : p.length ≤ maxLen) : E8 a p x = some true := by
  have hroom : (1000000 : Nat) ≤ room := by decide
  unfold E8; rw [m_awake9 F, Option.bind_some, Bool.not_true, cond_false]
  by_cases h16 : (16 : Int) < (a.length : Int)
  · rw [decide_eq_true h16]; rfl
  · rw [decide_eq_false h16]; simp only [beq_self_eq_true, cond_true, cond_false, m_small a (Xr ha), Option.bind_some]
    cases hs : Rm a with
    | false => rfl
    | true =>
      simp only [Bool.not_true, cond_false, beq_self_eq_true, cond_true, m_small p (Xr hp), Option.bind_some]
      cases hs2 : Rm p with
      | false => rfl
      | true =>
        have fa := Sn hs; have fp := Sn hs2; have same : ∀ g : TGraph, Cm (depG g) (depG g) = some true := fun g => depSame (by have := Rh g; omega); have ff : (false == false) = true := rfl; simp only [Bool.not_true, cond_false, F.all (⟨a, p⟩ : TGraph) fa fp, X5 (⟨a, p⟩ : TGraph) fa, same, Option.bind_some, ff, cond_true, F.front (⟨a, p⟩ : TGraph) x fa fp, N6 (⟨a, p⟩ : TGraph) fa x, Ro (Vd _ _), m_make a fa]
        cases hm : Ec a with
        | false => rfl
        | true =>
          obtain ⟨g1, g2⟩ := G5 hm; have e : ((0 : Int) != 0) = false := rfl; simp only [cond_true, e, cond_false, X5 (gOf a) g1, Option.bind_some]
          have hl : Aw (Do x (depG (gOf a))) (([] : List TDep), (0 : Int)) = some ((depG (gOf a)).filter fun d => d.Block == x) := by
            have hlen := Rh (gOf a); refine Xb _ _ hlen (fun o i hi ho => ?_) (fun o => ?_)
            · unfold Do; simp only [Cb hi, cond_true, An]; rw [Ae (De hi)]
              cases ((depG (gOf a)).getD i default).Block == x with
              | true => rw [cond_true, Ae (De hi), Ae (by simp only [List.length_cons, List.length_nil]; omega), Option.bind_some, w1 (by omega)]; rfl
              | false => rw [cond_false, Option.bind_some, w1 (by omega), if_neg (by simp), List.append_nil]
            · unfold Do; simp only [Dh, cond_false]
          have same2 : Cm ((depG (gOf a)).filter fun d => d.Block == x) ((depG (gOf a)).filter fun d => d.Block == x) = some true := depSame (by
            have := Rh (gOf a); have := List.length_filter_le (fun d : TDep => d.Block == x) (depG (gOf a))
            omega)
          simp only [hl, Option.bind_some, F.all (gOf a) g1 g2, same, beq_self_eq_true, cond_true, F.of_ (gOf a) x g1 g2, same2, F.front (gOf a) x g1 g2, N6 (gOf a) g1 x, Ro (Vd _ _)]
end
end Go.Proofs.Ytjdddniaokcgnaa

namespace Go.Proofs.Ytjdddniaokcgnaa
noncomputable section
open Go Go.RowKit
set_option linter.unusedVariables false
set_option linter.unusedSimpArgs false
theorem Av.head {S : Nat → List Nat} {z a c : Nat} (h : Av S a z c) : c = a ∨ ∃ b, b ∈ S a ∧ b ≠ z ∧ Av S b z c := by
  induction h with
  | root _ => exact .inl rfl
  | step _ hy hz ih =>
    rcases ih with rfl | ⟨b, h1, h2, h3⟩
    · exact .inr ⟨_, hy, hz, .root hz⟩
    · exact .inr ⟨b, h1, h2, .step h3 hy hz⟩
section
variable {L : List (List Int)} (hm : Ec L = true) (hn : L.length < 64)
include hm hn
theorem Zj {k b : Nat} (hb : b ≤ L.length) : Mq L k b = true ↔ ¬ Av (sN (exitL L)) b k L.length := by
  have he := F2 hm hn (goesE L L.length); unfold Mq; rw [Bool.not_eq_true', ← Bool.not_eq_true, Us (L := exitL L) he (by rw [Iq]; omega) (by rw [Iq]; omega)]
omit hn in
theorem sN_goes {p y : Nat} (hp : p < L.length) : y ∈ sN L p ↔ (L.getD p []).contains (y : Int) = true := by
  rw [List.contains_iff_mem]; obtain ⟨_, _, h3⟩ := mayS_iff.1 hm
  constructor
  · intro h; obtain ⟨z, hz, rfl⟩ := List.mem_map.1 h; have := K3 (h3 p hp) hz; rw [Int.toNat_of_nonneg this.1]; exact hz
  · intro h; exact List.mem_map.2 ⟨_, h, An y⟩
omit hn in
theorem Rp {k a b : Nat} (ha : a < L.length) : La L k a b = true ↔ 1 < ((exitL L).getD a []).length ∧ b ∈ sN L a ∧ Mq L k b = true ∧ (k = a ∨ Mq L k a = false) := by
  unfold La; rw [Bool.and_eq_true, Bool.and_eq_true, Bool.and_eq_true, Bool.or_eq_true, decide_eq_true_eq, decide_eq_true_eq, Bool.not_eq_true', sN_goes hm ha]
omit hn in
end
end
end Go.Proofs.Ytjdddniaokcgnaa

namespace Go.Proofs.Ytjdddniaokcgnaa
noncomputable section
open Go Go.RowKit
set_option linter.unusedVariables false
set_option linter.unusedSimpArgs false
def Sq (d e : TDep) : Prop := d.Block < e.Block ∨ (d.Block = e.Block ∧ (d.On < e.On ∨ (d.On = e.On ∧ d.To < e.To)))
theorem Rg {α : Type} {R : α → α → Prop} {f : Nat → α} (m : Nat) (h : ∀ i j, i < j → j < m → R (f i) (f j)) : ((List.range m).map f).Pairwise R := by
  rw [List.pairwise_map]; refine List.Pairwise.imp_of_mem ?_ (List.pairwise_lt_range (n := m)); intro a b ha hb hab; exact h a b hab (List.mem_range.1 hb)
section
variable {L : List (List Int)}
theorem Pl {k a m : Nat} {d : TDep} (h : d ∈ Fg L k a m) : d.Block = (k : Int) ∧ d.On = (a : Int) := by
  unfold Fg at h; obtain ⟨b, _, rfl⟩ := List.mem_map.1 h; exact ⟨rfl, rfl⟩
theorem depRow_pw (k a m : Nat) : (Fg L k a m).Pairwise Sq := by
  unfold Fg; rw [List.pairwise_map]; refine List.Pairwise.imp ?_ (List.Pairwise.filter _ (List.pairwise_lt_range (n := m))); intro x y hxy; exact .inr ⟨rfl, .inr ⟨rfl, by show ((x : Nat) : Int) < ((y : Nat) : Int); omega⟩⟩
theorem Xz {k m : Nat} {d : TDep} (h : d ∈ Js L k m) : d.Block = (k : Int) := by
  unfold Js at h; simp only [List.mem_flatten, List.mem_map, List.mem_range] at h; obtain ⟨_, ⟨a, _, rfl⟩, h⟩ := h; exact (Pl h).1
theorem depOn_pw (k m : Nat) : (Js L k m).Pairwise Sq := by
  unfold Js; rw [List.pairwise_flatten]; refine ⟨fun l hl => ?_, Rg m fun i j hij hj x hx y hy => ?_⟩
  · obtain ⟨a, _, rfl⟩ := List.mem_map.1 hl; exact depRow_pw k a _
  · have h1 := Pl hx; have h2 := Pl hy; exact .inr ⟨by rw [h1.1, h2.1], .inl (by rw [h1.2, h2.2]; omega)⟩
theorem depTo_pw (m : Nat) : (Rf L m).Pairwise Sq := by
  unfold Rf; rw [List.pairwise_flatten]; refine ⟨fun l hl => ?_, Rg m fun i j hij hj x hx y hy => ?_⟩
  · obtain ⟨k, _, rfl⟩ := List.mem_map.1 hl; exact depOn_pw k _
  · have h1 := Xz hx; have h2 := Xz hy; exact .inl (by rw [h1, h2]; omega)
variable (hm : Ec L = true) (hn : L.length < 64)
include hm
include hn
end
end
end Go.Proofs.Ytjdddniaokcgnaa

namespace Go.Proofs.Ytjdddniaokcgnaa
noncomputable section
open Go Go.RowKit
set_option linter.unusedVariables false
set_option linter.unusedSimpArgs false
section
variable {L : List (List Int)}
variable (hm : Ec L = true)
include hm
end
end
end Go.Proofs.Ytjdddniaokcgnaa

namespace Go.Proofs.Ytjdddniaokcgnaa
noncomputable section
open Go Go.RowKit
set_option linter.unusedVariables false
set_option linter.unusedSimpArgs false
def Cj (L : List (List Int)) : List Int := Hk (Bk (exitL L)) L.length
section
variable {L : List (List Int)} (hm : Ec L = true) (hn : L.length < 64)
include hm hn
theorem Ls : Ec (exitL L) = true := F2 hm hn _
theorem X8 : (Cj L).length = L.length + 1 := by
  have _hm := hm; have _hn := hn; unfold Cj; rw [Hc, Dg, Iq]
theorem Rr : ∃ P, Ordered (sN (Bk (exitL L))) L.length (L.length + 1) P ∧ DomTree (sN (Bk (exitL L))) L.length (L.length + 1) P (Cj L) := by
  have he := Ls hm hn; have hp := Oz he
  have hlen : (Bk (exitL L)).length = L.length + 1 := by rw [Dg, Iq]
  obtain ⟨P, _, h1, h2⟩ := Xs hp (r := L.length) (by rw [hlen]; omega); rw [hlen] at h1 h2; exact ⟨P, h1, h2⟩
theorem pover {a b : Nat} (ha : a ≤ L.length) (hb : b ≤ L.length) : Ig (Cj L) (a : Int) (b : Int) = true ↔ ¬ Av (sN (exitL L)) b a L.length := by
  have he := Ls hm hn; obtain ⟨P, h1, h2⟩ := Rr hm hn; rw [h2.over_dom h1 (by omega) (by omega), Qe he, av_turn he]; exact ⟨fun h => h.2, fun h => ⟨Qo hm hb, h⟩⟩
end
end
end Go.Proofs.Ytjdddniaokcgnaa

namespace Go.Proofs.Ytjdddniaokcgnaa
noncomputable section
open Go Go.RowKit
set_option linter.unusedVariables false
set_option linter.unusedSimpArgs false
section
variable {L : List (List Int)}
variable (hm : Ec L = true)
include hm
theorem hit_mono {s s' : Nat → Bool} {i : Nat} (hi : i < L.length) (h : ∀ j, s j = true → s' j = true) (hh : Jr L s i = true) : Jr L s' i = true := by
  obtain ⟨j, h1, h2, h3⟩ := (J1 hm hi).1 hh; exact (J1 hm hi).2 ⟨j, h1, h2, h j h3⟩
omit hm in
omit hm in
end
end
end Go.Proofs.Ytjdddniaokcgnaa

namespace Go.Proofs.Ytjdddniaokcgnaa
noncomputable section
open Go Go.RowKit
set_option linter.unusedVariables false
set_option linter.unusedSimpArgs false
section
variable {k : Nat} (h1 : 1 ≤ k) (h60 : k ≤ 60)
include h1 h60
omit h1 h60 in
end
end
end Go.Proofs.Ytjdddniaokcgnaa

namespace Go.Proofs.Ytjdddniaokcgnaa
noncomputable section
open Go Go.RowKit
set_option linter.unusedVariables false
set_option linter.unusedSimpArgs false
end
end Go.Proofs.Ytjdddniaokcgnaa

namespace Go.Proofs.Ytjdddniaokcgnaa
noncomputable section
open Go Go.RowKit
set_option linter.unusedVariables false
set_option linter.unusedSimpArgs false
inductive Tp (t : List Int) : Nat → Nat → Nat → Prop
  | top {x : Nat} (hx : x < t.length) (h : t.getD x 0 = -1) : Tp t x x 0
  | up {x y r k : Nat} (hx : x < t.length) (h : t.getD x 0 = (y : Int)) (hk : Tp t y r k) : Tp t x r (k + 1)
section
variable {t : List Int}
theorem Tp.lt {x r k : Nat} (h : Tp t x r k) : x < t.length := by cases h <;> assumption
theorem Tp.tops {x r k : Nat} (h : Tp t x r k) : r < t.length ∧ t.getD r 0 = -1 := by
  induction h with
  | top hx h => exact ⟨hx, h⟩
  | up _ _ _ ih => exact ih
theorem Tp.det {x r k r' k' : Nat} (h : Tp t x r k) (h' : Tp t x r' k') : r = r' ∧ k = k' := by
  induction h generalizing k' with
  | top hx h => cases h' with
    | top => exact ⟨rfl, rfl⟩
    | up _ h2 _ => omega
  | up hx h1 _ ih => cases h' with
    | top _ h2 => omega
    | up _ h2 k2 =>
      have : _ = _ := h1.symm.trans h2
      cases Int.ofNat.inj this
      obtain ⟨e1, e2⟩ := ih k2; exact ⟨e1, by omega⟩
theorem Tp.upTo {x r k : Nat} (h : Tp t x r k) : UpTo (A7 t) x r := by
  induction h with
  | top => exact .refl _
  | up _ h _ ih => exact .up h ih
theorem Tp.on {x r k z : Nat} (h : Tp t x r k) (hz : UpTo (A7 t) x z) : ∃ j, j ≤ k ∧ Tp t z r j ∧ (j = k → z = x) := by
  induction hz generalizing k with
  | refl x => exact ⟨k, Nat.le_refl _, h, fun _ => rfl⟩
  | up hp _ ih =>
    cases h with
    | top _ h2 => have : _ = _ := hp.symm.trans h2; omega
    | up _ h2 k2 =>
      have : _ = _ := hp.symm.trans h2
      cases Int.ofNat.inj this
      obtain ⟨j, h1, h3, _⟩ := ih k2; exact ⟨j, by omega, h3, fun e => by omega⟩
theorem Tp.anti {x r k z : Nat} (h : Tp t x r k) (h1 : UpTo (A7 t) x z) (h2 : UpTo (A7 t) z x) : z = x := by
  obtain ⟨j, j1, j2, j3⟩ := h.on h1; obtain ⟨i, i1, i2, i3⟩ := j2.on h2; have := h.det i2; exact j3 (by omega)
theorem Tp.list {x r k : Nat} (h : Tp t x r k) : ∃ l : List Nat, l.length = k + 1 ∧ l.Nodup ∧ ∀ y ∈ l, y < t.length ∧ ∃ j, j ≤ k ∧ Tp t y r j := by
  induction h with
  | top hx h => exact ⟨[_], rfl, by simp, fun y hy => by rw [List.mem_singleton.1 hy]; exact ⟨hx, 0, Nat.le_refl _, .top hx h⟩⟩
  | @up x y r k hx h hk ih =>
    obtain ⟨l, h1, h2, h3⟩ := ih; refine ⟨x :: l, by simp [h1], List.nodup_cons.2 ⟨fun hm => ?_, h2⟩, fun z hz => ?_⟩
    · obtain ⟨_, j, hj, hj2⟩ := h3 _ hm; have := (Tp.up hx h hk).det hj2; omega
    · rcases List.mem_cons.1 hz with rfl | hz
      · exact ⟨hx, k + 1, Nat.le_refl _, .up hx h hk⟩
      · obtain ⟨e1, j, e2, e3⟩ := h3 z hz; exact ⟨e1, j, by omega, e3⟩
theorem Tp.short {x r k : Nat} (h : Tp t x r k) : k < t.length := by
  obtain ⟨l, h1, h2, h3⟩ := h.list; have := Ka t.length l h2 fun y hy => (h3 y hy).1; omega
theorem Tp.upD {x r k : Nat} (h : Tp t x r k) : ∀ m, k < m → ∃ q, upD t m (x : Int) = some q ∧ (∀ w : Int, w ∈ q ↔ ∃ z : Nat, w = (z : Int) ∧ UpTo (A7 t) x z) ∧
    ∀ p : Int → Bool, (q.find? p = none ∧ ∀ z : Nat, UpTo (A7 t) x z → p (z : Int) = false) ∨ ∃ f : Nat, q.find? p = some (f : Int) ∧ UpTo (A7 t) x f ∧ p (f : Int) = true ∧ ∀ z : Nat, UpTo (A7 t) x z → p (z : Int) = true → UpTo (A7 t) f z := by
  induction h with
  | @top x hx h =>
    intro m hm; obtain ⟨m, rfl⟩ : ∃ i, m = i + 1 := ⟨m - 1, by omega⟩
    have htop : ∀ z, UpTo (A7 t) x z ↔ z = x := fun z => Tv fun p hp => by have : _ = _ := hp.symm.trans h; omega
    unfold Go.Proofs.Ytjdddniaokcgnaa.upD; rw [if_pos ⟨by omega, by omega⟩, An, if_pos h]; refine ⟨_, rfl, fun w => ?_, fun p => ?_⟩
    · rw [List.mem_singleton]
      constructor
      · rintro rfl; exact ⟨x, rfl, .refl _⟩
      · rintro ⟨z, rfl, hz⟩; rw [(htop z).1 hz]
    · cases hpp : p (x : Int) with
      | false => exact .inl ⟨by simp [List.find?, hpp], fun z hz => by rw [(htop z).1 hz]; exact hpp⟩
      | true => exact .inr ⟨x, by simp [List.find?, hpp], .refl _, hpp, fun z hz _ => hz⟩
  | @up x y r k hx h hk ih =>
    intro m hm; obtain ⟨m, rfl⟩ : ∃ i, m = i + 1 := ⟨m - 1, by omega⟩; unfold Go.Proofs.Ytjdddniaokcgnaa.upD; rw [if_pos ⟨by omega, by omega⟩, An, if_neg (by omega), h]; obtain ⟨q, hq1, hq2, hq3⟩ := ih m (by omega); rw [hq1]; refine ⟨(x : Int) :: q, rfl, fun w => ?_, fun p => ?_⟩
    · rw [List.mem_cons, hq2 w]
      constructor
      · rintro (rfl | ⟨y, rfl, hy⟩)
        · exact ⟨x, rfl, .refl _⟩
        · exact ⟨y, rfl, .up h hy⟩
      · rintro ⟨y, rfl, hy⟩; rcases (anc_up h).1 hy with rfl | hy
        · exact .inl rfl
        · exact .inr ⟨y, rfl, hy⟩
    · cases hpp : p (x : Int) with
      | true => exact .inr ⟨x, by simp [List.find?, hpp], .refl _, hpp, fun y hy _ => hy⟩
      | false =>
        have hf : ((x : Int) :: q).find? p = q.find? p := by simp [List.find?, hpp]
        rw [hf]; rcases hq3 p with ⟨e1, e2⟩ | ⟨f, e1, e2, e3, e4⟩
        · refine .inl ⟨e1, fun y hy => ?_⟩; rcases (anc_up h).1 hy with rfl | hy
          · exact hpp
          · exact e2 y hy
        · refine .inr ⟨f, e1, .up h e2, e3, fun y hy hpy => ?_⟩; rcases (anc_up h).1 hy with rfl | hy
          · rw [hpp] at hpy; cases hpy
          · exact e4 y hy hpy
theorem upD_tp : ∀ m (a : Int) q, upD t m a = some q → ∃ x r k : Nat, a = (x : Int) ∧ k < m ∧ Tp t x r k := by
  intro m
  induction m with
  | zero => intro a q h; cases h
  | succ m ih =>
    intro a q h; unfold Go.Proofs.Ytjdddniaokcgnaa.upD at h
    by_cases ha : 0 ≤ a ∧ a < (t.length : Int)
    · rw [if_pos ha] at h; have e : ((a.toNat : Nat) : Int) = a := Int.toNat_of_nonneg ha.1
      by_cases h1 : t.getD a.toNat 0 = -1
      · exact ⟨a.toNat, a.toNat, 0, e.symm, by omega, .top (by omega) h1⟩
      · rw [if_neg h1] at h
        cases hu : Go.Proofs.Ytjdddniaokcgnaa.upD t m (t.getD a.toNat 0) with
        | none => rw [hu] at h; cases h
        | some q' =>
          obtain ⟨y, r, k, e1, e2, e3⟩ := ih _ _ hu; exact ⟨a.toNat, r, k + 1, e.symm, by omega, .up (by omega) e1 e3⟩
    · rw [if_neg ha] at h; cases h
theorem pathD_tp {a : Int} : Gb t a ≠ [] ↔ ∃ x r k : Nat, a = (x : Int) ∧ Tp t x r k := by
  constructor
  · intro h
    cases hu : upD t t.length a with
    | none => exact absurd (pathD_nil.2 hu) h
    | some q => obtain ⟨x, r, k, e1, _, e2⟩ := upD_tp _ _ _ hu; exact ⟨x, r, k, e1, e2⟩
  · rintro ⟨x, r, k, rfl, h⟩ e; obtain ⟨q, hq, _⟩ := h.upD t.length h.short; rw [pathD_nil.1 e] at hq; cases hq
theorem Tp.path {x r k : Nat} (h : Tp t x r k) : (∀ w : Int, w ∈ Gb t (x : Int) ↔ ∃ z : Nat, w = (z : Int) ∧ UpTo (A7 t) x z) ∧
    ∀ p : Int → Bool, ((Gb t (x : Int)).find? p = none ∧ ∀ z : Nat, UpTo (A7 t) x z → p (z : Int) = false) ∨ ∃ f : Nat, (Gb t (x : Int)).find? p = some (f : Int) ∧ UpTo (A7 t) x f ∧ p (f : Int) = true ∧ ∀ z : Nat, UpTo (A7 t) x z → p (z : Int) = true → UpTo (A7 t) f z := by
  obtain ⟨q, h1, h2, h3⟩ := h.upD t.length h.short
  have e : Gb t (x : Int) = q := by unfold Gb; rw [h1]; rfl
  rw [e]; exact ⟨h2, h3⟩
theorem Vs {α : Type} {l : List α} {i j : Nat} {x d : α} (hi : i < l.length) : (l.set i x).getD j d = if j = i then x else l.getD j d := by
  by_cases h : j = i
  · subst h; simp [List.getD, hi]
  · simp [List.getD, h, Ne.symm h]
theorem meet_L1 {x r k : Nat} (h : Tp t x r k) : ∀ l : List Bool, l.length = t.length → ∃ l', Aw (D1 t) ((x : Int), l) = some l' ∧ l'.length = t.length ∧ ∀ z, z < t.length → (l'.getD z false = true ↔ l.getD z false = true ∨ UpTo (A7 t) x z) := by
  induction h with
  | @top x hx h =>
    intro l hl
    have hs : D1 t ((x : Int), l) = some (.next (-1, l.set x true)) := by
      unfold D1
      have hb : ((x : Int) != (-1 : Int)) = true := by rw [bne_iff_ne]; omega
      simp only [hb, cond_true, An, h]; rw [Ae (De (by omega)), Ae (De hx)]
    have hd : D1 t (-1, l.set x true) = some (.done (l.set x true)) := by
      unfold D1
      rfl
    refine ⟨l.set x true, by rw [Bf hs, A6 hd], by simp [hl], fun z hz => ?_⟩; rw [Vs (by omega)]
    have htop : UpTo (A7 t) x z ↔ z = x := Tv fun p hp => by have : _ = _ := hp.symm.trans h; omega
    rw [htop]
    by_cases e : z = x
    · simp [e]
    · simp [e]
  | @up x y r k hx h hk ih =>
    intro l hl
    have hs : D1 t ((x : Int), l) = some (.next ((y : Int), l.set x true)) := by
      unfold D1
      have hb : ((x : Int) != (-1 : Int)) = true := by rw [bne_iff_ne]; omega
      simp only [hb, cond_true, An, h]; rw [Ae (De (by omega)), Ae (De hx)]
    obtain ⟨l', e1, e2, e3⟩ := ih (l.set x true) (by simp [hl]); refine ⟨l', by rw [Bf hs, e1], e2, fun z hz => ?_⟩; rw [e3 z hz, Vs (by omega), anc_up (par := A7 t) h]
    by_cases e : z = x
    · simp [e]
    · simp [e]
theorem meet_L2 {b r k : Nat} (h : Tp t b r k) (l : List Bool) (hl : l.length = t.length) : l.getD r false = true → ∃ c : Nat, Aw (Dz t l) (b : Int) = some (c : Int) ∧ UpTo (A7 t) b c ∧ l.getD c false = true ∧ ∀ z, UpTo (A7 t) b z → l.getD z false = true → UpTo (A7 t) c z := by
  induction h with
  | @top x hx h =>
    intro hr
    have hd : Dz t l (x : Int) = some (.done (x : Int)) := by
      unfold Dz; rw [Ae (De (by omega)), An, hr]
      rfl
    exact ⟨x, A6 hd, .refl _, hr, fun z hz _ => hz⟩
  | @up x y r k hx h hk ih =>
    intro hr
    cases hx2 : l.getD x false with
    | true =>
      have hd : Dz t l (x : Int) = some (.done (x : Int)) := by
        unfold Dz; rw [Ae (De (by omega)), An, hx2]
        rfl
      exact ⟨x, A6 hd, .refl _, hx2, fun z hz _ => hz⟩
    | false =>
      have hs : Dz t l (x : Int) = some (.next (y : Int)) := by
        unfold Dz; rw [Ae (De (by omega)), An, hx2, Bool.not_false, cond_true, Ae (De hx), h]
      obtain ⟨c, e1, e2, e3, e4⟩ := ih hr; refine ⟨c, by rw [Bf hs, e1], .up h e2, e3, fun z hz hlz => ?_⟩; rcases (anc_up (par := A7 t) h).1 hz with rfl | hz
      · rw [hx2] at hlz; cases hlz
      · exact e4 z hz hlz
theorem Sw (ht : t.length ≤ 1000) {a b r k m : Nat} (ha : Tp t a r k) (hb : Tp t b r m) : ∃ c : Nat, G3 t (a : Int) (b : Int) = some (c : Int) ∧ MeetAt (A7 t) a b c := by
  unfold G3
  have hroom : (1000 : Nat) ≤ room := by decide
  rw [Ae ⟨by omega, by omega, by omega⟩, An]; obtain ⟨l', h1, h2, h3⟩ := meet_L1 ha (List.replicate t.length false) (by simp); rw [h1, Option.bind_some]
  have h3' : ∀ z, z < t.length → (l'.getD z false = true ↔ UpTo (A7 t) a z) := fun z hz => by rw [h3 z hz, Jb]; simp
  obtain ⟨c, e1, e2, e3, e4⟩ := meet_L2 hb l' h2 ((h3' r ha.tops.1).2 ha.upTo)
  have hc : c < t.length := by obtain ⟨j, _, hj, _⟩ := hb.on e2; exact hj.lt
  refine ⟨c, by rw [e1]; rfl, fun w => ⟨fun hw => ⟨((h3' c hc).1 e3).trans hw, e2.trans hw⟩, fun ⟨hw1, hw2⟩ => ?_⟩⟩; obtain ⟨j, _, hj, _⟩ := ha.on hw1; exact e4 w hw2 ((h3' w hj.lt).2 hw1)
theorem meetD_at (hR : Gx t = true) {a b r k m : Nat} (ha : Tp t a r k) (hb : Tp t b r m) : ∃ c : Nat, Lq t (a : Int) (b : Int) = (c : Int) ∧ MeetAt (A7 t) a b c := by
  unfold Lq; rw [if_pos hR]
  have hcon : ∀ z : Nat, (Gb t (b : Int)).contains (z : Int) = true ↔ UpTo (A7 t) b z := fun z => by
    rw [List.contains_iff_mem, hb.path.1]
    constructor
    · rintro ⟨y, e, hy⟩; cases Int.ofNat.inj e; exact hy
    · intro hz; exact ⟨z, rfl, hz⟩
  rcases ha.path.2 (fun x => (Gb t (b : Int)).contains x) with ⟨e1, e2⟩ | ⟨f, e1, e2, e3, e4⟩
  · have := e2 r ha.upTo; rw [(hcon r).2 hb.upTo] at this
    cases this
  · exact ⟨f, by rw [e1]; rfl, fun w => ⟨fun hw => ⟨e2.trans hw, ((hcon f).1 e3).trans hw⟩, fun ⟨hw1, hw2⟩ => e4 w hw1 ((hcon w).2 hw2)⟩⟩
theorem MeetAt.same {a b r k c d : Nat} (ha : Tp t a r k) (hc : MeetAt (A7 t) a b c) (hd : MeetAt (A7 t) a b d) : c = d := by
  obtain ⟨j, _, hj, _⟩ := ha.on ((hc c).1 (.refl _)).1; exact (hj.anti ((hc d).2 ((hd d).1 (.refl _))) ((hd c).2 ((hc c).1 (.refl _)))).symm
end
end
end Go.Proofs.Ytjdddniaokcgnaa

namespace Go.Proofs.Ytjdddniaokcgnaa
noncomputable section
open Go Go.RowKit
set_option linter.unusedVariables false
set_option linter.unusedSimpArgs false
theorem m_index (t : List Int) (v : Int) (ht : t.length ≤ 1000) : (∃ r : Nat, r < t.length ∧ t.getD r 0 = v ∧ (∀ i, i < r → t.getD i 0 ≠ v) ∧ Dn t v = some (r : Int)) ∨ ((∀ i, i < t.length → t.getD i 0 ≠ v) ∧ Dn t v = some (-1)) := by
  have key : ∀ k i : Nat, i + k = t.length → (∀ j, j < i → t.getD j 0 ≠ v) →
      (∃ r : Nat, r < t.length ∧ t.getD r 0 = v ∧ (∀ i, i < r → t.getD i 0 ≠ v) ∧ Aw (B4 t v) (i : Int) = some (.inr (r : Int))) ∨ ((∀ i, i < t.length → t.getD i 0 ≠ v) ∧ Aw (B4 t v) (i : Int) = some (.inl ())) := by
    intro k
    induction k with
    | zero =>
      intro i hi hj
      obtain rfl : i = t.length := by omega
      refine .inr ⟨hj, A6 ?_⟩; unfold B4; rw [Dh]; rfl
    | succ k ih =>
      intro i hi hj
      by_cases e : v = t.getD i 0
      · refine .inl ⟨i, by omega, e.symm, hj, A6 ?_⟩; unfold B4; have hb : ((v : Int) == t.getD i 0) = true := beq_iff_eq.2 e; simp only [Cb (show i < t.length by omega), cond_true, An, hb]; rw [Ae (De (by omega))]
      · have hs : B4 t v (i : Int) = some (.next ((i + 1 : Nat) : Int)) := by
          unfold B4; have hb : ((v : Int) == t.getD i 0) = false := beq_eq_false_iff_ne.2 e; simp only [Cb (show i < t.length by omega), cond_true, An, hb, cond_false]; rw [Ae (De (by omega)), w1 (by omega)]
        rw [Bf hs]
        exact ih (i + 1) (by omega) fun j hj2 => by
          by_cases ej : j = i
          · subst ej; exact fun h => e h.symm
          · exact hj j (by omega)
  have h0 := key t.length 0 (by omega) (fun j hj => absurd hj (Nat.not_lt_zero _)); unfold Dn; rcases h0 with ⟨r, h1, h2, h3, h4⟩ | ⟨h1, h2⟩
  · exact .inl ⟨r, h1, h2, h3, by rw [show ((0 : Int)) = ((0 : Nat) : Int) from rfl, h4]; rfl⟩
  · exact .inr ⟨h1, by rw [show ((0 : Int)) = ((0 : Nat) : Int) from rfl, h2]; rfl⟩
section
variable {t : List Int}
structure Pa (t : List Int) (r f : Nat) (w : List Int) : Prop where
  len : w.length = t.length
  old : ∀ y, y < t.length → w.getD y 0 ≠ 0 → (w.getD y 0 ≤ (f : Int)) ∧ ∃ k, Tp t y r k
structure Walk (t : List Int) (r f x : Nat) (w : List Int) : Prop where
  len : w.length = t.length
  hx : x < t.length
  old : ∀ y, y < t.length → w.getD y 0 ≠ 0 → w.getD y 0 ≤ (f : Int) ∧ (∃ k, Tp t y r k) ∨ w.getD y 0 = ((f + 1 : Nat) : Int) ∧ ∀ r' k, Tp t x r' k → ∃ j, k < j ∧ Tp t y r' j
  fwd : ∀ r' k, Tp t x r' k → ∃ j, k ≤ j ∧ Tp t f r' j
  back : ∀ r' k, Tp t f r' k → ∃ j, Tp t x r' j
def W6 (w : List Int) : Nat := w.countP fun z => z == 0
theorem zeros_set {w : List Int} {x : Nat} {v : Int} (hx : x < w.length) (h0 : w.getD x 0 = 0) (hv : v ≠ 0) : W6 (w.set x v) < W6 w := by
  unfold W6; rw [List.countP_set hx]; rw [As _ _ _ hx] at h0; have hp : 0 < w.countP fun z => z == 0 := List.countP_pos_iff.2 ⟨w[x], List.getElem_mem hx, by simp [h0]⟩; have hb : (v == 0) = false := beq_eq_false_iff_ne.2 hv; simp only [h0, beq_self_eq_true, if_true, hb, Bool.false_eq_true, if_false]; omega
theorem leads_loop (ht : t.length ≤ 1000) {r : Nat} (hr : r < t.length) (htop : t.getD r 0 = -1) {f : Nat} (hf : f < t.length) : ∀ (m x : Nat) (w : List Int), W6 w ≤ m → Walk t r f x w →
    (∃ w', Aw (C1 t (f : Int) (r : Int)) ((x : Int), w) = some (.inl w') ∧ Pa t r (f + 1) w' ∧ ∃ k, Tp t f r k) ∨
    ∃ b w', Aw (C1 t (f : Int) (r : Int)) ((x : Int), w) = some (.inr (b, w')) ∧ w'.length = t.length ∧ (b = true → Pa t r (f + 1) w' ∧ ∃ k, Tp t f r k) ∧ (b = false → ∀ k, ¬ Tp t f r k) := by
  intro m
  induction m with
  | zero =>
    intro x w hz hw; exact go 0 (fun x w hz => absurd hz (Nat.not_lt_zero _)) x w hz hw
  | succ m ih =>
    intro x w hz hw; exact go (m + 1) (fun x w hz => ih x w (Nat.le_of_lt_succ hz)) x w hz hw
where
  go (m : Nat) (ih : ∀ (x : Nat) (w : List Int), W6 w < m → Walk t r f x w →
    (∃ w', Aw (C1 t (f : Int) (r : Int)) ((x : Int), w) = some (.inl w') ∧ Pa t r (f + 1) w' ∧ ∃ k, Tp t f r k) ∨
    ∃ b w', Aw (C1 t (f : Int) (r : Int)) ((x : Int), w) = some (.inr (b, w')) ∧ w'.length = t.length ∧ (b = true → Pa t r (f + 1) w' ∧ ∃ k, Tp t f r k) ∧ (b = false → ∀ k, ¬ Tp t f r k)) (x : Nat) (w : List Int) (hz : W6 w ≤ m) (hw : Walk t r f x w) :
    (∃ w', Aw (C1 t (f : Int) (r : Int)) ((x : Int), w) = some (.inl w') ∧ Pa t r (f + 1) w' ∧ ∃ k, Tp t f r k) ∨
    ∃ b w', Aw (C1 t (f : Int) (r : Int)) ((x : Int), w) = some (.inr (b, w')) ∧ w'.length = t.length ∧ (b = true → Pa t r (f + 1) w' ∧ ∃ k, Tp t f r k) ∧ (b = false → ∀ k, ¬ Tp t f r k) := by
    have hxl := hw.hx
    have told : ∀ k, Tp t x r k → Pa t r (f + 1) w ∧ ∃ k, Tp t f r k := fun k hk => by
      obtain ⟨j, _, hj⟩ := hw.fwd _ _ hk; refine ⟨⟨hw.len, fun y hy hy0 => ?_⟩, j, hj⟩; rcases hw.old y hy hy0 with ⟨h1, h2⟩ | ⟨h1, h2⟩
      · exact ⟨by omega, h2⟩
      · obtain ⟨i, _, hi⟩ := h2 _ _ hk; exact ⟨by omega, i, hi⟩
    by_cases hxr : x = r
    · subst hxr; refine .inl ⟨w, A6 ?_, told 0 (.top hr htop)⟩; unfold C1
      have hb : ((x : Int) != (x : Int)) = false := by simp
      simp only [hb, cond_false]
    · have hb : ((x : Int) != (r : Int)) = true := by rw [bne_iff_ne]; omega
      have hin : A4 (x : Int) w.length := De (by rw [hw.len]; exact hxl)
      by_cases hw0 : w.getD x 0 = 0
      · have hb0 : ((w.getD x 0 : Int) != 0) = false := by rw [hw0]; rfl
        by_cases hpl : 0 ≤ t.getD x 0 ∧ t.getD x 0 < (t.length : Int)
        · have hwf : Bi ((f : Int) + 1) = ((f + 1 : Nat) : Int) := w1 (by omega)
          have hs : C1 t (f : Int) (r : Int) ((x : Int), w) = some (.next (t.getD x 0, w.set x ((f + 1 : Nat) : Int))) := by
            unfold C1 Fz; simp only [hb, cond_true, An, hb0, cond_false]; rw [Ae hin, Ae (De hxl), decide_eq_true hpl.1, decide_eq_true hpl.2, cond_true, Option.bind_some, Bool.not_true, cond_false, Ae hin, Ae (De hxl), hwf]
          rw [Bf hs]; obtain ⟨y, hy⟩ : ∃ y : Nat, t.getD x 0 = (y : Int) := ⟨(t.getD x 0).toNat, (Int.toNat_of_nonneg hpl.1).symm⟩; rw [hy] at hpl ⊢
          have hyl : y < t.length := by omega
          have hst : ∀ r' k, Tp t y r' k → Tp t x r' (k + 1) := fun r' k hk => .up hxl hy hk
          have hset : ∀ z, z < t.length → (w.set x ((f + 1 : Nat) : Int)).getD z 0 = if z = x then ((f + 1 : Nat) : Int) else w.getD z 0 := fun z _ => Vs (by rw [hw.len]; exact hxl)
          have hW : Walk t r f y (w.set x ((f + 1 : Nat) : Int)) := by
            refine ⟨by simp [hw.len], hyl, fun z hzl hz0 => ?_, fun r' k hk => ?_, fun r' k hk => ?_⟩
            · rw [hset z hzl] at hz0 ⊢
              by_cases e : z = x
              · subst e; rw [if_pos rfl]; exact .inr ⟨rfl, fun r' k hk => ⟨k + 1, by omega, hst r' k hk⟩⟩
              · rw [if_neg e] at hz0 ⊢; rcases hw.old z hzl hz0 with h1 | ⟨h1, h2⟩
                · exact .inl h1
                · refine .inr ⟨h1, fun r' k hk => ?_⟩; obtain ⟨j, hj1, hj2⟩ := h2 _ _ (hst r' k hk); exact ⟨j, by omega, hj2⟩
            · obtain ⟨j, hj1, hj2⟩ := hw.fwd _ _ (hst r' k hk); exact ⟨j, by omega, hj2⟩
            · obtain ⟨j, hj⟩ := hw.back _ _ hk
              cases hj with
              | top _ h2 => omega
              | up _ h2 h3 =>
                have := hy.symm.trans h2
                cases Int.ofNat.inj this
                exact ⟨_, h3⟩
          have hzz := zeros_set (x := x) (v := ((f + 1 : Nat) : Int)) (by rw [hw.len]; exact hxl) hw0 (by omega); exact ih y _ (by omega) hW
        · refine .inr ⟨false, w, A6 ?_, hw.len, ⟨fun h => (by cases h), fun _ k hk => ?_⟩⟩
          · unfold C1 Fz; simp only [hb, cond_true, An, hb0, cond_false]; rw [Ae hin, Ae (De hxl)]
            have : (bif decide ((0 : Int) ≤ t.getD x 0) then decide (t.getD x 0 < (t.length : Int)) else false) = false := by
              cases h1 : decide ((0 : Int) ≤ t.getD x 0) with
              | false => rfl
              | true => rw [cond_true]; exact decide_eq_false fun h2 => hpl ⟨of_decide_eq_true h1, h2⟩
            rw [this, Option.bind_some]
            rfl
          · obtain ⟨j, hj⟩ := hw.back _ _ hk
            cases hj with
            | top => exact hxr rfl
            | up _ h2 h3 => have := h3.lt; exact hpl ⟨by omega, by omega⟩
      · have hb0 : ((w.getD x 0 : Int) != 0) = true := by rw [bne_iff_ne]; exact hw0
        have hwf : Bi ((f : Int) + 1) = ((f + 1 : Nat) : Int) := w1 (by omega); refine .inr ⟨w.getD x 0 != ((f + 1 : Nat) : Int), w, A6 ?_, hw.len, ⟨fun h => ?_, fun h k hk => ?_⟩⟩
        · unfold C1; simp only [hb, cond_true, An, hb0]; rw [Ae hin, Ae hin, hwf]
        · rcases hw.old x hxl hw0 with ⟨_, k, hk⟩ | ⟨h1, _⟩
          · exact told k hk
          · rw [h1] at h; simp at h
        · have he : w.getD x 0 = ((f + 1 : Nat) : Int) := by simpa using h
          obtain ⟨j, hj⟩ := hw.back _ _ hk; rcases hw.old x hxl hw0 with ⟨h1, _⟩ | ⟨_, h2⟩
          · omega
          · obtain ⟨i, hi1, hi2⟩ := h2 _ _ hj; have := hj.det hi2; omega
end
end
end Go.Proofs.Ytjdddniaokcgnaa

namespace Go.Proofs.Ytjdddniaokcgnaa
noncomputable section
open Go Go.RowKit
set_option linter.unusedVariables false
set_option linter.unusedSimpArgs false
section
variable {t : List Int}
theorem m_leads (ht : t.length ≤ 1000) {r : Nat} (hr : r < t.length) (htop : t.getD r 0 = -1) {f : Nat} (hf : f < t.length) {w : List Int} (hw : Pa t r f w) :
    ∃ b w', Jc t w (f : Int) (r : Int) = some (b, w') ∧ w'.length = t.length ∧ (b = true → Pa t r (f + 1) w' ∧ ∃ k, Tp t f r k) ∧ (b = false → ∀ k, ¬ Tp t f r k) := by
  unfold Jc; have hW : Walk t r f f w := ⟨hw.len, hf, fun y hy h0 => .inl (hw.old y hy h0), fun r' k hk => ⟨k, Nat.le_refl _, hk⟩, fun r' k hk => ⟨k, hk⟩⟩; rcases leads_loop ht hr htop hf _ f w (Nat.le_refl _) hW with ⟨w', e1, e2⟩ | ⟨b, w', e1, e2, e3, e4⟩
  · exact ⟨true, w', by rw [e1]; rfl, e2.1.len, fun _ => e2, fun h => by cases h⟩
  · exact ⟨b, w', by rw [e1]; rfl, e2, e3, e4⟩
def Xe (t : List Int) (r : Nat) : Prop := ∀ f, f < t.length → t.getD f 0 ≠ -2 → ∃ k, Tp t f r k
open Classical in
theorem isTree_loop (ht : t.length ≤ 1000) {r : Nat} (hr : r < t.length) (htop : t.getD r 0 = -1) : ∀ (k f : Nat) (w : List Int), f + k = t.length → Pa t r f w → (∀ y, y < f → t.getD y 0 ≠ -2 → ∃ k, Tp t y r k) →
    Aw (D2 t (r : Int)) ((f : Int), w) = some (if Xe t r then .inl () else .inr false) := by
  intro k
  induction k with
  | zero =>
    intro f w hk hw hd
    obtain rfl : f = t.length := by omega
    apply A6
    unfold D2; simp only [Dh, cond_false]; rw [if_pos (show Xe t r from hd)]
  | succ k ih =>
    intro f w hk hw hd
    have hf : f < t.length := by omega
    by_cases h2 : t.getD f 0 = -2
    · have hb : ((t.getD f 0 : Int) != (-2)) = false := by rw [h2]; rfl
      have hs : D2 t (r : Int) ((f : Int), w) = some (.next (((f + 1 : Nat) : Int), w)) := by
        unfold D2; simp only [Cb hf, cond_true, An, hb, show (false == true) = false from rfl, cond_false, Option.bind_some]; rw [Ae (De hf), Ae (fun h => by cases h), w1 (by omega)]
      rw [Bf hs]; refine ih (f + 1) w (by omega) ⟨hw.len, fun y hy h0 => ?_⟩ fun y hy hy2 => ?_
      · obtain ⟨e1, e2⟩ := hw.old y hy h0; exact ⟨by omega, e2⟩
      · by_cases e : y = f
        · subst e; exact absurd h2 hy2
        · exact hd y (by omega) hy2
    · have hb : ((t.getD f 0 : Int) != (-2)) = true := by rw [bne_iff_ne]; exact h2
      obtain ⟨b, w', e1, e2, e3, e4⟩ := m_leads ht hr htop hf hw
      cases b with
      | false =>
        rw [if_neg (fun hA : Xe t r => by obtain ⟨k, hk⟩ := hA f hf h2; exact e4 rfl k hk)]
        apply A6
        unfold D2; simp only [Cb hf, cond_true, An, hb, show (true == true) = true from rfl, e1, Option.bind_some]; rw [Ae (De hf), Ae (fun _ => by rw [hw.len, e2])]
        rfl
      | true =>
        have hs : D2 t (r : Int) ((f : Int), w) = some (.next (((f + 1 : Nat) : Int), w')) := by
          unfold D2; simp only [Cb hf, cond_true, An, hb, show (true == true) = true from rfl, e1, Option.bind_some]; rw [Ae (De hf), Ae (fun _ => by rw [hw.len, e2]), w1 (by omega)]
          rfl
        rw [Bf hs]; obtain ⟨e5, e6⟩ := e3 rfl; refine ih (f + 1) w' (by omega) e5 fun y hy hy2 => ?_
        by_cases e : y = f
        · subst e; exact e6
        · exact hd y (by omega) hy2
theorem tops_one : Rb t t.length = 1 ↔ ∃ r, r < t.length ∧ t.getD r 0 = -1 ∧ ∀ x, x < t.length → t.getD x 0 = -1 → x = r := by
  have key : ∀ n, (Rb t n = 0 ↔ ∀ x, x < n → t.getD x 0 ≠ -1) ∧ (Rb t n = 1 ↔ ∃ r, r < n ∧ t.getD r 0 = -1 ∧ ∀ x, x < n → t.getD x 0 = -1 → x = r) := by
    intro n
    induction n with
    | zero => exact ⟨⟨fun _ x hx => absurd hx (Nat.not_lt_zero _), fun _ => rfl⟩, ⟨fun h => by simp [Rb] at h, fun ⟨r, h, _⟩ => absurd h (Nat.not_lt_zero _)⟩⟩
    | succ n ih =>
      rw [U4]
      by_cases e : t.getD n 0 = -1
      · rw [if_pos e]; refine ⟨⟨fun h => by omega, fun h => absurd e (h n (by omega))⟩, ⟨fun h => ⟨n, by omega, e, fun x hx hx1 => ?_⟩, fun ⟨r, h1, h2, h3⟩ => ?_⟩⟩
        · by_cases ex : x = n
          · exact ex
          · exact absurd hx1 (ih.1.1 (by omega) x (by omega))
        · have := ih.1.2 fun x hx hx1 => by
            have := h3 x (by omega) hx1; have := h3 n (by omega) e; omega
          omega
      · rw [if_neg e, Nat.add_zero]; refine ⟨⟨fun h x hx => ?_, fun h => ih.1.2 fun x hx => h x (by omega)⟩, ⟨fun h => ?_, fun ⟨r, h1, h2, h3⟩ => ?_⟩⟩
        · by_cases ex : x = n
          · subst ex; exact e
          · exact ih.1.1 h x (by omega)
        · obtain ⟨r, h1, h2, h3⟩ := ih.2.1 h; refine ⟨r, by omega, h2, fun x hx hx1 => ?_⟩
          by_cases ex : x = n
          · subst ex; exact absurd hx1 e
          · exact h3 x (by omega) hx1
        · refine ih.2.2 ⟨r, ?_, h2, fun x hx hx1 => h3 x (by omega) hx1⟩
          by_cases ex : r = n
          · subst ex; exact absurd h2 e
          · omega
  exact (key _).2
theorem rightD_iff : Gx t = true ↔ ∃ r, r < t.length ∧ t.getD r 0 = -1 ∧ Xe t r := by
  unfold Gx; rw [Bool.and_eq_true, all_range, decide_eq_true_eq, tops_one]
  constructor
  · rintro ⟨h1, r, h2, h3, h4⟩; refine ⟨r, h2, h3, fun f hf hf2 => ?_⟩; have := h1 f hf; unfold okR at this; rw [Bool.or_eq_true, decide_eq_true_eq, Bool.not_eq_true', decide_eq_false_iff_not] at this; rcases this with h | h
    · exact absurd h hf2
    · obtain ⟨x, r', k, e, hk⟩ := pathD_tp.1 h
      cases Int.ofNat.inj e
      have := h4 _ hk.tops.1 hk.tops.2; subst this; exact ⟨k, hk⟩
  · rintro ⟨r, h2, h3, h4⟩; refine ⟨fun f hf => ?_, r, h2, h3, fun x hx hx1 => ?_⟩
    · unfold okR; rw [Bool.or_eq_true, decide_eq_true_eq, Bool.not_eq_true', decide_eq_false_iff_not]
      by_cases e : t.getD f 0 = -2
      · exact .inl e
      · obtain ⟨k, hk⟩ := h4 f hf e; exact .inr (pathD_tp.2 ⟨f, r, k, rfl, hk⟩)
    · obtain ⟨k, hk⟩ := h4 x hx (by omega); exact ((hk.det (.top hx hx1)).1).symm
theorem X9 (hR : Gx t = true) : ∃ r, Xe t r := by obtain ⟨r, _, _, h⟩ := rightD_iff.1 hR; exact ⟨r, h⟩
theorem m_isTree (ht : t.length ≤ 1000) : Ie t = some (Gx t) := by
  unfold Ie
  have hroom : (1000 : Nat) ≤ room := by decide
  rcases m_index t (-1) ht with ⟨r, h1, h2, h3, h4⟩ | ⟨h1, h2⟩
  · rw [h4, Option.bind_some, show decide ((r : Int) < 0) = false from decide_eq_false (by omega), cond_false, Ae ⟨by omega, by omega, by omega⟩, An]; have hl := isTree_loop ht h1 h2 t.length 0 (List.replicate t.length 0) (by omega) ⟨by simp, fun y hy h0 => absurd Jb h0⟩ (fun y hy => absurd hy (Nat.not_lt_zero _)); rw [show (((0 : Nat) : Int)) = 0 from rfl] at hl; rw [hl, Option.bind_some]
    by_cases hA : Xe t r
    · rw [if_pos hA, rightD_iff.2 ⟨r, h1, h2, hA⟩]
    · rw [if_neg hA]
      have : Gx t = false := Bool.eq_false_iff.2 fun hR => by
        obtain ⟨r', g1, g2, g3⟩ := rightD_iff.1 hR; obtain ⟨k, hk⟩ := g3 r h1 (by omega); have := (hk.det (.top h1 h2)).1; subst this; exact hA g3
      rw [this]
  · rw [h2, Option.bind_some]
    have : Gx t = false := Bool.eq_false_iff.2 fun hR => by
      obtain ⟨r', g1, g2, g3⟩ := rightD_iff.1 hR; exact h1 r' g1 g2
    rw [this]
    rfl
def M5 (t : List Int) (a : Int) : Bool := decide (0 ≤ a) && decide (a < (t.length : Int)) && decide (t.getD a.toNat 0 ≠ -2)
theorem Ur (hR : Gx t = true) {a : Int} : M5 t a = true ↔ ∃ x k r : Nat, a = (x : Int) ∧ Tp t x r k := by
  unfold M5; rw [Bool.and_eq_true, Bool.and_eq_true, decide_eq_true_eq, decide_eq_true_eq, decide_eq_true_eq]
  constructor
  · rintro ⟨⟨h1, h2⟩, h3⟩; obtain ⟨r, hA⟩ := X9 hR; obtain ⟨k, hk⟩ := hA a.toNat (by omega) h3; exact ⟨a.toNat, k, r, (Int.toNat_of_nonneg h1).symm, hk⟩
  · rintro ⟨x, k, r, rfl, h⟩; have := h.lt; refine ⟨⟨by omega, by omega⟩, ?_⟩; rw [An]
    cases h with
    | top _ h2 => omega
    | up _ h2 _ => omega
theorem Uz (a : Int) : F7 t a = some (M5 t a) := by
  unfold F7 Fz M5; rw [Option.bind_some]
  cases h1 : decide ((0 : Int) ≤ a) with
  | false => rfl
  | true =>
    rw [cond_true, Bool.true_and]
    cases h2 : decide (a < (t.length : Int)) with
    | false => rfl
    | true =>
      rw [Ae (fun _ => ⟨of_decide_eq_true h1, of_decide_eq_true h2⟩), cond_true, Bool.true_and]
      congr 1
      rw [Bool.eq_iff_iff, bne_iff_ne, decide_eq_true_eq]
theorem m_areIn (ht : t.length ≤ 1000) (a b : Int) : Ji t a b = some (Gx t && M5 t a && M5 t b) := by
  unfold Ji; rw [m_isTree ht, Option.bind_some]
  cases Gx t with
  | false => rfl
  | true =>
    simp only [show (true == true) = true from rfl, cond_true, Uz, Option.bind_some, Bool.true_and]
    cases M5 t a with
    | false => rfl
    | true => simp only [show (true == true) = true from rfl, cond_true, Uz, Option.bind_some, Bool.true_and]
theorem R6 {a b : Int} (h : (Gx t && M5 t a && M5 t b) = false) : Lq t a b = -2 := by
  unfold Lq
  by_cases hR : Gx t = true
  · rw [if_pos hR]; rw [hR, Bool.true_and] at h
    have hno : ∀ c, M5 t c = false → Gb t c = [] := fun c hc => by
      by_cases e : Gb t c = []
      · exact e
      · obtain ⟨x, r, k, e1, e2⟩ := pathD_tp.1 e; rw [(Ur hR).2 ⟨x, k, r, e1, e2⟩] at hc; cases hc
    cases ha : M5 t a with
    | false => rw [hno a ha]; rfl
    | true =>
      rw [ha, Bool.true_and] at h; rw [hno b h]
      have : ((Gb t a).find? fun x => ([] : List Int).contains x) = none := List.find?_eq_none.2 fun x _ => by simp
      rw [this]
      rfl
  · rw [if_neg hR]
theorem W1 (ht : t.length ≤ 1000) {a b : Int} (h : (Gx t && M5 t a && M5 t b) = true) : G3 t a b = some (Lq t a b) ∧ 0 ≤ Lq t a b := by
  rw [Bool.and_eq_true, Bool.and_eq_true] at h; obtain ⟨⟨hR, ha⟩, hb⟩ := h; obtain ⟨x, k, r, rfl, hx⟩ := (Ur hR).1 ha; obtain ⟨y, m, r', rfl, hy⟩ := (Ur hR).1 hb; obtain ⟨rr, hA⟩ := X9 hR
  have top : ∀ {x r k}, Tp t x r k → r = rr := fun {x r k} h => by
    obtain ⟨i, hi⟩ := hA r h.tops.1 (by rw [h.tops.2]; omega); exact ((Tp.top h.tops.1 h.tops.2).det hi).1
  obtain rfl := top hx; obtain rfl := top hy; obtain ⟨c, h1, h2⟩ := Sw ht hx hy; obtain ⟨d, h3, h4⟩ := meetD_at hR hx hy; have := h2.same hx h4; subst this; exact ⟨by rw [h1, h3], by omega⟩
theorem Yk (ht : t.length ≤ 1000) (a b : Int) : Hy t a b = some (Ig t a b) := by
  unfold Hy Ig; rw [m_areIn ht, Option.bind_some]
  cases h : (Gx t && M5 t a && M5 t b) with
  | false =>
    rw [R6 h]
    have : ((-2 : Int) == a && ((-2 : Int) != -2)) = false := by simp
    rw [this]
    rfl
  | true =>
    obtain ⟨h1, h2⟩ := W1 ht h; simp only [show (true == true) = true from rfl, cond_true, h1, Option.bind_some]
    have : (Lq t a b != -2) = true := by rw [bne_iff_ne]; omega
    rw [this, Bool.and_true]
end
end
end Go.Proofs.Ytjdddniaokcgnaa

namespace Go.Proofs.Ytjdddniaokcgnaa
noncomputable section
open Go Go.RowKit
set_option linter.unusedVariables false
set_option linter.unusedSimpArgs false
theorem mul_fin : ∀ n : Fin 65, Is (Et 1) (Et ((n.val : Nat) : Int)) = some (0, ((n.val : Nat) : Int)) := by decide +kernel
theorem mul_small {n : Nat} (h : n ≤ 64) : Is (Et 1) (Et (n : Int)) = some (0, (n : Int)) := mul_fin ⟨n, by omega⟩
theorem Aaj {v : Int} {n : Nat} (hn : n ≤ 64) : ∀ (m i : Nat) (l : List Int), n - i ≤ m → 1 ≤ i → i ≤ n → l.length = n → (∀ j, j < i → l.getD j 0 = v) → Aw Cd ((i : Int), l) = some (List.replicate n v) := by
  intro m
  induction m with
  | zero =>
    intro i l hm h1 h2 hl hv
    obtain rfl : i = n := by omega
    exact fin l hl hv
  | succ m ih =>
    intro i l hm h1 h2 hl hv
    by_cases e : i = n
    · subst e; exact fin l hl hv
    · have hs : Cd ((i : Int), l) = some (.next (((i + Nat.min i (n - i) : Nat) : Int), cpL l i (Nat.min i (n - i)) (fun j => l.getD (0 + j) 0))) := by
        unfold Cd; simp only [hl, Cb (show i < n by omega), cond_true, An, Nat.zero_add, Nat.sub_zero]; have hc : (0 : Int) ≤ (i : Int) ∧ i ≤ n := ⟨by omega, h2⟩; have hmn : Nat.min i (n - i) ≤ i := Nat.min_le_left _ _; rw [Ae hc, Ae hc, Kd (by omega) (by omega), Int.natCast_add]
      rw [Bf hs]; have hmn : Nat.min i (n - i) ≤ i ∧ Nat.min i (n - i) ≤ n - i := ⟨Nat.min_le_left _ _, Nat.min_le_right _ _⟩; have hge : 1 ≤ Nat.min i (n - i) := Nat.le_min.2 ⟨h1, by omega⟩; refine ih _ _ (by omega) (by omega) (by omega) (by rw [← Hz]; exact hl) fun j hj => ?_; rw [Uv _ _ _ _ _ _ (by omega)]
      by_cases hji : i ≤ j ∧ j < i + Nat.min i (n - i)
      · rw [if_pos hji, Nat.zero_add]; exact hv _ (by omega)
      · rw [if_neg hji]; exact hv _ (by omega)
where
  fin {v : Int} {i : Nat} (l : List Int) (hl : l.length = i) (hv : ∀ j, j < i → l.getD j 0 = v) : Aw Cd ((i : Int), l) = some (List.replicate i v) := by
    apply A6
    unfold Cd; simp only [hl, Dh, cond_false]
    congr 2
    refine List.ext_getElem (by simp [hl]) fun j h1 h2 => ?_; rw [← As _ _ 0 h1, hv j (by omega)]
    simp
theorem m_repeat {v : Int} {n : Nat} (h1 : 1 ≤ n) (hn : n ≤ 64) : D7 [v] (n : Int) = some (List.replicate n v) := by
  have hroom : (64 : Nat) ≤ room := by decide
  unfold D7; rw [show decide ((n : Int) < 0) = false from decide_eq_false (by omega), cond_false, Option.bind_some]
  show Option.bind (Is (Et 1) (Et (n : Int))) _ = _
  rw [mul_small hn, Option.bind_some]; have e1 : decide ((0 : Int) < (0 : Int)) = false := rfl; have e2 : decide ((9223372036854775807 : Int) < (n : Int)) = false := decide_eq_false (by omega); simp only [e1, e2, cond_false, Option.bind_some]; have ew : Bi (n : Int) = (n : Int) := Kd (by omega) (by omega); rw [ew, Ae ⟨by omega, by omega, by omega⟩, An, List.length_replicate, Nat.sub_zero]; have em : Nat.min [v].length n = 1 := Nat.min_eq_left h1; rw [em, Aaj hn n 1 _ (by omega) (Nat.le_refl _) h1 (by rw [← Hz]; simp) (fun j hj => ?_)]
  · rfl
  · rw [Uv _ _ _ _ _ _ (by simp; omega), if_pos ⟨by omega, by omega⟩]
    have : j - 0 = 0 := by omega
    rw [this]; rfl
theorem meet_v2 (t : List Int) (a b : Int) : Ho t a b = (G3 t a b).map fun c => (c, t) := by
  have e1 : Iu t = D1 t := rfl; have e2 : Ip t = Dz t := rfl; unfold Ho G3; rw [e1, e2]
  by_cases hc : 0 ≤ (t.length : Int) ∧ (t.length : Int) ≤ (t.length : Int) ∧ (t.length : Int) ≤ (room : Int)
  · rw [Ae hc, Ae hc]
    cases Aw (D1 t) (a, List.replicate ((t.length : Int)).toNat false) with
    | none => rfl
    | some x =>
      rw [Option.bind_some, Option.bind_some]
      cases Aw (Dz t x) b with
      | none => rfl
      | some y => rfl
  · have hf : ∀ {R : Type} (k : Option R), Bw (0 ≤ (t.length : Int) ∧ (t.length : Int) ≤ (t.length : Int) ∧ (t.length : Int) ≤ (room : Int)) k = none := fun k => if_neg hc; rw [hf, hf]
    rfl
section
variable {S : Nat → List Nat} {r n : Nat} {P : List Nat}
theorem Inv.tp {at_ : Nat → Nat} {t : List Int} (h : Inv S r n at_ (A7 t)) (hl : t.length = n) : ∀ m x, at_ x ≤ m → x < n → A7 t x ≠ -2 → ∃ k, Tp t x r k := by
  intro m
  induction m with
  | zero =>
    intro x hm hx hp; rcases h.kind x hx with h1 | h1 | ⟨z, hz⟩
    · exact absurd h1 hp
    · subst h1; exact ⟨0, .top (by omega) h.top⟩
    · obtain ⟨_, _, h3, _⟩ := h.up x hx z hz; omega
  | succ m ih =>
    intro x hm hx hp; rcases h.kind x hx with h1 | h1 | ⟨z, hz⟩
    · exact absurd h1 hp
    · subst h1; exact ⟨0, .top (by omega) h.top⟩
    · obtain ⟨z1, z2, z3, _⟩ := h.up x hx z hz; obtain ⟨k, hk⟩ := ih z (by omega) z1 z2; exact ⟨k + 1, .up (by omega) hz hk⟩
def Qc (t l : List Int) (i : Nat) (v : Int) : Prop :=
  (v = -2 ∧ ∀ j, j < i → A7 t (l.getD j 0).toNat = -2) ∨
  ∃ z : Nat, v = (z : Int) ∧ z < t.length ∧ A7 t z ≠ -2 ∧ (∀ w, UpTo (A7 t) z w ↔ ∀ j, j < i → A7 t (l.getD j 0).toNat ≠ -2 → UpTo (A7 t) (l.getD j 0).toNat w)
theorem Yu {at_ : Nat → Nat} {t l : List Int} (ht : t.length ≤ 64) (hll : l.length ≤ 64) (h : Inv S r n at_ (A7 t)) (hl : t.length = n) (hin : ∀ x ∈ l, 0 ≤ x ∧ x < (n : Int)) : ∀ (k i : Nat) (v : Int), i + k = l.length → Qc t l i v →
    ∃ v', Aw (Cx l) (v, (i : Int), t) = some (v', t) ∧ Qc t l l.length v' := by
  intro k
  induction k with
  | zero =>
    intro i v hi hv
    obtain rfl : i = l.length := by omega
    refine ⟨v, A6 ?_, hv⟩; unfold Cx; simp only [Dh, cond_false]
  | succ k ih =>
    intro i v hi hv
    have hil : i < l.length := by omega
    obtain ⟨x0, x1⟩ := hin _ (Hj (d := 0) hil); have hxe : (((l.getD i 0).toNat : Nat) : Int) = l.getD i 0 := Int.toNat_of_nonneg x0; have hxin : A4 (l.getD i 0) t.length := inbz x0 (by omega)
    have next : ∀ v', Cx l (v, (i : Int), t) = some (.next (v', ((i + 1 : Nat) : Int), t)) → Qc t l (i + 1) v' → ∃ v', Aw (Cx l) (v, (i : Int), t) = some (v', t) ∧ Qc t l l.length v' := fun v' hs hv' => by
      rw [Bf hs]; exact ih (i + 1) v' (by omega) hv'
    by_cases hp : A7 t (l.getD i 0).toNat = -2
    · have hb : ((t.getD (l.getD i 0).toNat 0 : Int) == -2) = true := beq_iff_eq.2 hp; refine next v ?_ ?_
      · unfold Cx; simp only [Cb hil, cond_true, An, hb]; rw [Ae (De hil), Ae hxin, Option.bind_some, w1 (by omega)]
      · have hstep : ∀ w, (∀ j, j < i → A7 t (l.getD j 0).toNat ≠ -2 → UpTo (A7 t) (l.getD j 0).toNat w) ↔ ∀ j, j < i + 1 → A7 t (l.getD j 0).toNat ≠ -2 → UpTo (A7 t) (l.getD j 0).toNat w := fun w => by
          refine ⟨fun hj j hj1 hj2 => ?_, fun hj j hj1 => hj j (by omega)⟩
          by_cases e : j = i
          · subst e; exact absurd hp hj2
          · exact hj j (by omega) hj2
        rcases hv with ⟨h1, h2⟩ | ⟨z, h1, h2, h3, h4⟩
        · refine .inl ⟨h1, fun j hj => ?_⟩
          by_cases e : j = i
          · subst e; exact hp
          · exact h2 j (by omega)
        · exact .inr ⟨z, h1, h2, h3, fun w => by rw [h4 w, hstep w]⟩
    · have hb : ((t.getD (l.getD i 0).toNat 0 : Int) == -2) = false := beq_eq_false_iff_ne.2 hp; rcases hv with ⟨h1, h2⟩ | ⟨z, h1, h2, h3, h4⟩
      · subst h1; refine next (l.getD i 0) ?_ (.inr ⟨(l.getD i 0).toNat, hxe.symm, by omega, hp, fun w => ⟨fun hw j hj hj2 => ?_, fun hw => hw i (by omega) hp⟩⟩)
        · unfold Cx; simp only [Cb hil, cond_true, An, hb, cond_false, show ((-2 : Int) == -2) = true from rfl]; rw [Ae (De hil), Ae hxin, Option.bind_some, w1 (by omega)]
        · by_cases e : j = i
          · subst e; exact hw
          · exact absurd (h2 j (by omega)) hj2
      · subst h1; have hb2 : ((z : Int) == -2) = false := beq_eq_false_iff_ne.2 (by omega); obtain ⟨k1, hk1⟩ := h.tp hl _ z (Nat.le_refl _) (by omega) h3; obtain ⟨k2, hk2⟩ := h.tp hl _ (l.getD i 0).toNat (Nat.le_refl _) (by omega) hp; obtain ⟨c, c1, c2⟩ := Sw (by omega) hk1 hk2; have hcz := (c2 c).1 (.refl _); obtain ⟨jc, _, hjc, _⟩ := hk1.on hcz.1
        have hcp : A7 t c ≠ -2 := by
          show t.getD c 0 ≠ -2
          cases hjc with
          | top _ h => omega
          | up _ h _ => omega
        refine next (c : Int) ?_ (.inr ⟨c, rfl, hjc.lt, hcp, fun w => ?_⟩)
        · rw [hxe] at c1; unfold Cx; simp only [Cb hil, cond_true, An, hb, cond_false, hb2, meet_v2, c1, Option.map_some, Option.bind_some]; rw [Ae (De hil), Ae hxin, Ae trivial, Option.bind_some, w1 (by omega)]
        · rw [c2 w, h4 w]; refine ⟨fun ⟨a1, a2⟩ j hj hj2 => ?_, fun ha => ⟨fun j hj => ha j (by omega), ha i (by omega) hp⟩⟩
          by_cases e : j = i
          · subst e; exact a2
          · exact a1 j (by omega) hj2
theorem m_meetAll {at_ : Nat → Nat} {t l : List Int} (ht : t.length ≤ 64) (hll : l.length ≤ 64) (h : Inv S r n at_ (A7 t)) (hl : t.length = n) (hin : ∀ x ∈ l, 0 ≤ x ∧ x < (n : Int)) :
    ∃ v, Ex t l = some (v, t) ∧ Qc t l l.length v := by
  obtain ⟨v, h1, h2⟩ := Yu ht hll h hl hin l.length 0 (-2) (by omega) (.inl ⟨rfl, fun j hj => absurd hj (Nat.not_lt_zero _)⟩); refine ⟨v, ?_, h2⟩; unfold Ex; rw [show ((0 : Int)) = ((0 : Nat) : Int) from rfl, h1]
  rfl
end
section
variable {L : List (List Int)} (hm : Ec L = true) {r : Nat} {P : List Nat}
include hm
theorem sN_iff {p y : Nat} (hp : p < L.length) : y ∈ sN L p ↔ F9 L p y = true := by
  rw [goes_iff]; obtain ⟨_, _, h3⟩ := mayS_iff.1 hm
  constructor
  · intro h; obtain ⟨x, hx, rfl⟩ := List.mem_map.1 h; have := K3 (h3 p hp) hx; rw [Int.toNat_of_nonneg this.1]; exact hx
  · intro h; exact List.mem_map.2 ⟨_, h, An y⟩
theorem U9 {y : Nat} (hy : y < L.length) {x : Int} : x ∈ (Bk L).getD y [] ↔ ∃ p : Nat, x = (p : Int) ∧ p < L.length ∧ y ∈ sN L p := by
  rw [H3 hy]; unfold Eb; rw [mem_filt]
  constructor
  · rintro ⟨k, h1, h2, h3⟩; exact ⟨k, h1, h2, (sN_iff hm h2).2 h3⟩
  · rintro ⟨k, h1, h2, h3⟩; exact ⟨k, h1, h2, (sN_iff hm h2).1 h3⟩
theorem Ye (o : Ordered (sN L) r L.length P) {t : List Int} {i : Nat} (h : Ready (sN L) r L.length P t i) (hi : i < P.length) :
    Ex t ((Bk L).getD (P.getD i 0) []) = some ((H1 (sN L) L.length t (P.getD i 0) : Int), t) := by
  obtain ⟨hL1, hL64, _⟩ := mayS_iff.1 hm; have hyn : P.getD i 0 < L.length := o.lt (List.mem_cons_of_mem _ (J7 hi))
  have hlen : ((Bk L).getD (P.getD i 0) []).length ≤ 64 := by
    rw [H3 hyn]; have := Km L L.length (P.getD i 0); omega
  obtain ⟨v, h1, h2⟩ := m_meetAll (by rw [h.len]; exact hL64) hlen h.inv h.len fun x hx => by
    obtain ⟨p, rfl, hp, _⟩ := (U9 hm hyn).1 hx; omega
  rw [h1]; have hb := h.best o hi
  have mem : ∀ p, p < L.length → P.getD i 0 ∈ sN L p → ∃ j, j < ((Bk L).getD (P.getD i 0) []).length ∧ (((Bk L).getD (P.getD i 0) []).getD j 0).toNat = p := fun p hp hy => by
    obtain ⟨j, hj, e⟩ := List.getElem_of_mem ((U9 hm hyn).2 ⟨p, rfl, hp, hy⟩); exact ⟨j, hj, by rw [As _ _ _ hj, e, An]⟩
  have mem' : ∀ j, j < ((Bk L).getD (P.getD i 0) []).length → (((Bk L).getD (P.getD i 0) []).getD j 0).toNat < L.length ∧ P.getD i 0 ∈ sN L (((Bk L).getD (P.getD i 0) []).getD j 0).toNat := fun j hj => by
    obtain ⟨p, e, hp, hy⟩ := (U9 hm hyn).1 (Hj (d := (0 : Int)) hj); rw [e, An]; exact ⟨hp, hy⟩
  rcases h2 with ⟨rfl, h3⟩ | ⟨z, rfl, hz, hz2, h4⟩
  · obtain ⟨p, hp, hyp, hp2, _⟩ := hb.fwd; obtain ⟨j, hj, e⟩ := mem p hp hyp; exact absurd (by rw [← e]; exact h3 j hj) hp2
  · have hbest : Best (sN L) L.length (A7 t) (P.getD i 0) z := fun w => by
      rw [h4 w]; refine ⟨fun ha p hp hyp hp2 => ?_, fun ha j hj hj2 => ?_⟩
      · obtain ⟨j, hj, e⟩ := mem p hp hyp; have := ha j hj (by rw [e]; exact hp2); rwa [e] at this
      · obtain ⟨q1, q2⟩ := mem' j hj; exact ha _ q1 q2 hj2
    rw [h.best_eq o hi (by rw [← h.len]; exact hz) hz2 hbest]
end
end
end Go.Proofs.Ytjdddniaokcgnaa

namespace Go.Proofs.Ytjdddniaokcgnaa
noncomputable section
open Go Go.RowKit
set_option linter.unusedVariables false
set_option linter.unusedSimpArgs false
theorem Aaz {P : List Nat} {i : Nat} (h : i < P.length) : (Ks P).getD i 0 = ((P.getD i 0 : Nat) : Int) := by
  unfold Ks; rw [As _ _ _ (by simpa using h), As _ _ _ h, List.getElem_map]
  rfl
theorem Aa9 {t : List Int} {x : Nat} {v : Int} (hx : x < t.length) (h : t.getD x 0 = v) : t.set x v = t := by
  subst h; rw [As _ _ _ hx]; exact List.set_getElem_self hx
section
variable {L : List (List Int)} (hm : Ec L = true) {r : Nat} {P : List Nat} (o : Ordered (sN L) r L.length P)
include hm o
theorem round_loop {t0 : List Int} (h : Ready (sN L) r L.length P t0 0) : ∀ (k i : Nat) (b : Bool), i + k = P.length →
    ∃ b', Aw (Dl (gOf L) (Ks (r :: P))) (b, (i : Int), M0 (sN L) L.length P t0 i) = some (b', M0 (sN L) L.length P t0 P.length) ∧
      (b' = false ↔ b = false ∧ ∀ j, i ≤ j → j < P.length → A7 (M0 (sN L) L.length P t0 j) (P.getD j 0) = (H1 (sN L) L.length (M0 (sN L) L.length P t0 j) (P.getD j 0) : Int)) := by
  have hP64 : P.length ≤ 64 := by
    have h1 := Ka L.length (r :: P) o.nodup fun x hx => o.lt hx; have h2 := (mayS_iff.1 hm).2.1; simp at h1; omega
  have hdl : (Ks (r :: P)).drop (1 : Int).toNat = Ks P := rfl
  have hlen : (Ks P).length = P.length := by simp [Ks]
  intro k
  induction k with
  | zero =>
    intro i b hi
    obtain rfl : i = P.length := by omega
    refine ⟨b, A6 ?_, fun h => ⟨h, fun j h1 h2 => by omega⟩, fun h => h.1⟩; unfold Dl; simp only [hdl, hlen, Dh, cond_false]
  | succ k ih =>
    intro i b hi
    have hil : i < P.length := by omega
    have rd := h.round o i (by omega); have hma := Ye hm o rd hil; have hyn : P.getD i 0 < L.length := o.lt (List.mem_cons_of_mem _ (J7 hil))
    have hyt : P.getD i 0 < (M0 (sN L) L.length P t0 i).length := by rw [rd.len]; exact hyn
    have hpred : (gOf L).Pred = Bk L := rfl
    by_cases he : A7 (M0 (sN L) L.length P t0 i) (P.getD i 0) = (H1 (sN L) L.length (M0 (sN L) L.length P t0 i) (P.getD i 0) : Int)
    · have hb : ((H1 (sN L) L.length (M0 (sN L) L.length P t0 i) (P.getD i 0) : Int) != (M0 (sN L) L.length P t0 i).getD (P.getD i 0) 0) = false := by
        have : (M0 (sN L) L.length P t0 i).getD (P.getD i 0) 0 = _ := he; rw [this]; simp
      have hnx : M0 (sN L) L.length P t0 (i + 1) = M0 (sN L) L.length P t0 i := Aa9 hyt he
      have hs : Dl (gOf L) (Ks (r :: P)) (b, (i : Int), M0 (sN L) L.length P t0 i) = some (.next (b, ((i + 1 : Nat) : Int), M0 (sN L) L.length P t0 (i + 1))) := by
        unfold Dl; simp only [hdl, hlen, Cb hil, cond_true, An, Aaz hil, hpred, hma, Option.bind_some, hb, cond_false]; rw [Ae (De hil), Ae (De (by rw [Dg]; exact hyn)), Ae trivial, Ae (De hyt), Option.bind_some, w1 (by omega), hnx]
      obtain ⟨b', e1, e2⟩ := ih (i + 1) b (by omega); refine ⟨b', by rw [Bf hs, e1], fun h => ?_, fun ⟨h1, h2⟩ => e2.2 ⟨h1, fun j hj => h2 j (by omega)⟩⟩; obtain ⟨h1, h2⟩ := e2.1 h; refine ⟨h1, fun j hj1 hj2 => ?_⟩
      by_cases e : j = i
      · subst e; exact he
      · exact h2 j (by omega) hj2
    · have hb : ((H1 (sN L) L.length (M0 (sN L) L.length P t0 i) (P.getD i 0) : Int) != (M0 (sN L) L.length P t0 i).getD (P.getD i 0) 0) = true := by
        rw [bne_iff_ne]; exact fun e => he e.symm
      have hs : Dl (gOf L) (Ks (r :: P)) (b, (i : Int), M0 (sN L) L.length P t0 i) = some (.next (true, ((i + 1 : Nat) : Int), M0 (sN L) L.length P t0 (i + 1))) := by
        unfold Dl; simp only [hdl, hlen, Cb hil, cond_true, An, Aaz hil, hpred, hma, Option.bind_some, hb]; rw [Ae (De hil), Ae (De (by rw [Dg]; exact hyn)), Ae trivial, Ae (De hyt), Ae (De hyt), Option.bind_some, w1 (by omega)]
        rfl
      obtain ⟨b', e1, e2⟩ := ih (i + 1) true (by omega); refine ⟨b', by rw [Bf hs, e1], fun h => ?_, fun ⟨h1, h2⟩ => absurd (h2 i (Nat.le_refl _) hil) he⟩; obtain ⟨h1, _⟩ := e2.1 h; cases h1
theorem round_all {t0 : List Int} (h : Ready (sN L) r L.length P t0 0) : ∃ b, Aw (Dl (gOf L) (Ks (r :: P))) (false, (0 : Int), t0) = some (b, M0 (sN L) L.length P t0 P.length) ∧ (b = false ↔ Mu (sN L) L.length P t0) := by
  obtain ⟨b, e1, e2⟩ := round_loop hm o h P.length 0 false (by omega); refine ⟨b, e1, e2.trans ⟨fun ⟨_, h2⟩ => ?_, fun hs => ⟨rfl, fun j _ hj => ?_⟩⟩⟩
  · have key : ∀ j, j ≤ P.length → M0 (sN L) L.length P t0 j = t0 := by
      intro j
      induction j with
      | zero => intro _; rfl
      | succ j ih =>
        intro hj; have ih' := ih (by omega); have rd := h.round o j (by omega)
        have hyn : P.getD j 0 < (M0 (sN L) L.length P t0 j).length := by rw [rd.len]; exact o.lt (List.mem_cons_of_mem _ (J7 (by omega)))
        have : M0 (sN L) L.length P t0 (j + 1) = M0 (sN L) L.length P t0 j := Aa9 hyn (h2 j (Nat.zero_le _) (by omega)); rw [this, ih']
    intro i hi; have := h2 i (Nat.zero_le _) hi; rwa [key i (by omega)] at this
  · rw [Nj o h.len hs j (by omega)]; exact hs j hj
open Classical in
theorem tree_F3 (j : Nat) : Ee (gOf L) (Ks (r :: P), Tw (sN L) L.length P (E0 L.length r) j) = some (if Mu (sN L) L.length P (Tw (sN L) L.length P (E0 L.length r) j) then .done (Tw (sN L) L.length P (E0 L.length r) (j + 1)) else .next (Ks (r :: P), Tw (sN L) L.length P (E0 L.length r) (j + 1))) := by
  obtain ⟨b, e1, e2⟩ := round_all hm o (Ready.rounds o j); have hL2 : Ix (gOf L) (Ks (r :: P)) = Dl (gOf L) (Ks (r :: P)) := rfl
  have hlen : (0 : Int) ≤ 1 ∧ (1 : Int) ≤ ((Ks (r :: P)).length : Int) := by simp [Ks]; omega
  unfold Ee; simp only [hL2, e1, Option.bind_some]; rw [Ae hlen]
  cases b with
  | false => rw [if_pos (e2.1 rfl)]; rfl
  | true => rw [if_neg (fun h => by have := e2.2 h; cases this)]; rfl
theorem tree_rounds : ∃ J, Mu (sN L) L.length P (Tw (sN L) L.length P (E0 L.length r) J) ∧ Aw (Ee (gOf L)) (Ks (r :: P), E0 L.length r) = some (Tw (sN L) L.length P (E0 L.length r) J) := by
  obtain ⟨J, h1, h2⟩ := stops o; refine ⟨J, h2, ?_⟩
  have key : ∀ d j, j + d = J → Aw (Ee (gOf L)) (Ks (r :: P), Tw (sN L) L.length P (E0 L.length r) j) = some (Tw (sN L) L.length P (E0 L.length r) J) := by
    intro d
    induction d with
    | zero =>
      intro j hj
      obtain rfl : j = J := by omega
      have hF := tree_F3 hm o j; rw [if_pos h2] at hF; rw [A6 hF]; have : Tw (sN L) L.length P (E0 L.length r) (j + 1) = Tw (sN L) L.length P (E0 L.length r) j := Nj o (Ready.rounds o j).len h2 P.length (Nat.le_refl _); rw [this]
    | succ d ih =>
      intro j hj; have hF := tree_F3 hm o j; rw [if_neg (h1 j (by omega))] at hF; rw [Bf hF]; exact ih (j + 1) (by omega)
  exact key J 0 (by omega)
end
theorem m_Tree (g : TGraph) (r : Int) (h1 : Fits g.Succ) (h2 : Fits g.Pred) : Gy g r = some (Abn g r) := by
  unfold Abn
  by_cases hc : Hn g = true ∧ 0 ≤ r ∧ r < (g.Succ.length : Int)
  · rw [if_pos hc]; obtain ⟨hG, h0, hlt⟩ := hc; obtain ⟨hm, hg⟩ := J4 hG; obtain ⟨hL1, hL64, _⟩ := mayS_iff.1 hm
    have hr : r.toNat < g.Succ.length := by omega
    have hrn : ((r.toNat : Nat) : Int) = r := Int.toNat_of_nonneg h0; obtain ⟨O, hO⟩ := Ord.exist (K9 hm) hr; have hord := (Y4 g h1 trivial r).1 hG h0 hlt O hO; obtain ⟨P, rfl, o⟩ := hO.ordered hr (K9 hm); obtain ⟨J, hJ, hl⟩ := tree_rounds hm o; have ht := (Sv o hJ).eq hm hr o; rw [ht] at hl; have hlen : (((Ks (r.toNat :: P)).length : Int) == 0) = false := beq_eq_false_iff_ne.2 (by simp [Ks]; omega)
    have hlen2 : (0 : Int) ≤ 1 ∧ (1 : Int) ≤ ((Ks (r.toNat :: P)).length : Int) := by simp [Ks]; omega
    have hL2 : Ix g (Ks (r.toNat :: P)) = Dl g (Ks (r.toNat :: P)) := rfl
    have hst : (Mp (Ee g (Ks (r.toNat :: P), E0 g.Succ.length r.toNat)) (Ee g)) = some (Hk g.Succ r.toNat) := by
      rw [Ky, hg]; exact hl
    unfold Gy; rw [hord, Option.bind_some, hlen, cond_false, m_repeat hL1 hL64, Option.bind_some, Ae (inbz h0 (by simpa using hlt)), Ae hlen2]
    have : (Ee g (Ks (r.toNat :: P), E0 g.Succ.length r.toNat)) = (Aw (Dl g (Ks (r.toNat :: P))) (false, 0, (List.replicate g.Succ.length (-2 : Int)).set r.toNat (-1))).bind (fun x22 => (match x22 with | (b10, l11) => (bif b10 then (some (.next (Ks (r.toNat :: P), l11))) else (some (.done l11))))) := by
      unfold Ee E0; simp only [hL2]; rw [Ae hlen2]
    rw [this] at hst; refine Eq.trans ?_ (congrArg (fun x : Option (List Int) => x.bind fun x42 => some x42) hst)
    rfl
  · rw [if_neg hc]; unfold Gy
    have : (Hn g && (decide (0 ≤ r) && decide (r < (g.Succ.length : Int)))) = false := by
      rw [Bool.eq_false_iff]; intro h; rw [Bool.and_eq_true, Bool.and_eq_true, decide_eq_true_eq, decide_eq_true_eq] at h; exact hc h
    rw [(Y4 g h1 trivial r).2 this, Option.bind_some]
    rfl
end
end Go.Proofs.Ytjdddniaokcgnaa

namespace Go.Proofs.Ytjdddniaokcgnaa
noncomputable section
open Go Go.RowKit
set_option linter.unusedVariables false
set_option linter.unusedSimpArgs false
theorem m_indexB (t : List Bool) (v : Bool) (ht : t.length ≤ 1000) : (∃ r : Nat, r < t.length ∧ t.getD r false = v ∧ (∀ i, i < r → t.getD i false ≠ v) ∧ Ct t v = some (r : Int)) ∨ ((∀ i, i < t.length → t.getD i false ≠ v) ∧ Ct t v = some (-1)) := by
  have key : ∀ k i : Nat, i + k = t.length → (∀ j, j < i → t.getD j false ≠ v) →
      (∃ r : Nat, r < t.length ∧ t.getD r false = v ∧ (∀ i, i < r → t.getD i false ≠ v) ∧ Aw (Br t v) (i : Int) = some (.inr (r : Int))) ∨ ((∀ i, i < t.length → t.getD i false ≠ v) ∧ Aw (Br t v) (i : Int) = some (.inl ())) := by
    intro k
    induction k with
    | zero =>
      intro i hi hj
      obtain rfl : i = t.length := by omega
      refine .inr ⟨hj, A6 ?_⟩; unfold Br; rw [Dh]; rfl
    | succ k ih =>
      intro i hi hj
      by_cases e : v = t.getD i false
      · refine .inl ⟨i, by omega, e.symm, hj, A6 ?_⟩; unfold Br; have hb : (v == t.getD i false) = true := beq_iff_eq.2 e; simp only [Cb (show i < t.length by omega), cond_true, An, hb]; rw [Ae (De (by omega))]
      · have hs : Br t v (i : Int) = some (.next ((i + 1 : Nat) : Int)) := by
          unfold Br; have hb : (v == t.getD i false) = false := beq_eq_false_iff_ne.2 e; simp only [Cb (show i < t.length by omega), cond_true, An, hb, cond_false]; rw [Ae (De (by omega)), w1 (by omega)]
        rw [Bf hs]
        exact ih (i + 1) (by omega) fun j hj2 => by
          by_cases ej : j = i
          · subst ej; exact fun h => e h.symm
          · exact hj j (by omega)
  have h0 := key t.length 0 (by omega) (fun j hj => absurd hj (Nat.not_lt_zero _)); unfold Ct; rcases h0 with ⟨r, h1, h2, h3, h4⟩ | ⟨h1, h2⟩
  · exact .inl ⟨r, h1, h2, h3, by rw [show ((0 : Int)) = ((0 : Nat) : Int) from rfl, h4]; rfl⟩
  · exact .inr ⟨h1, by rw [show ((0 : Int)) = ((0 : Nat) : Int) from rfl, h2]; rfl⟩
def Ge (L : List (List Int)) (S : Nat → Bool) (k : Nat) : Bool := decide (k < L.length) && Jr L S k
theorem Pr {L : List (List Int)} {S : Nat → Bool} {k : Nat} (h : k < L.length) : Ge L S k = Jr L S k := by simp [Ge, h]
theorem hitB_congr {L : List (List Int)} {S S' : Nat → Bool} (h : ∀ j, j < L.length → S j = S' j) (k : Nat) : Jr L S k = Jr L S' k := by
  unfold Jr; rw [Bool.eq_iff_iff, List.any_eq_true, List.any_eq_true]
  constructor
  · rintro ⟨j, hj, h'⟩; exact ⟨j, hj, by rwa [← h j (List.mem_range.1 hj)]⟩
  · rintro ⟨j, hj, h'⟩; exact ⟨j, hj, by rwa [h j (List.mem_range.1 hj)]⟩
theorem Ln {L : List (List Int)} {S S' : Nat → Bool} (h : ∀ j, j < L.length → S j = S' j) : Ge L S = Ge L S' := by
  funext k
  unfold Ge; rw [hitB_congr h]
section
variable {L : List (List Int)} (hm : Ec L = true)
include hm
theorem mark_loop {O : List Nat} (hO : ∀ z ∈ O, z < 64) (hl : O.length < 1000) : ∀ (k i : Nat) (l : List Bool) (s : Nat → Bool), i + k = O.length → RelS l s →
    ∃ l', Aw (D9 (Ks O)) ((i : Int), l) = some l' ∧ RelS l' (fun z => s z || (O.drop i).contains z) := by
  have _hm := hm
  have hlen : (Ks O).length = O.length := by simp [Ks]
  intro k
  induction k with
  | zero =>
    intro i l s hi hr
    obtain rfl : i = O.length := by omega
    refine ⟨l, A6 ?_, fun z hz => ?_⟩
    · unfold D9; simp only [hlen, Dh, cond_false]
    · rw [hr z hz, List.drop_length]; simp
  | succ k ih =>
    intro i l s hi hr
    have hil : i < O.length := by omega
    have hz : O[i] < 64 := hO _ (List.getElem_mem hil)
    have hr' : RelS (Gj 64 false l O[i] true) (fun z => s z || decide (z = O[i])) := fun z hz' => by
      rw [I4 hz', hr z hz']
      by_cases e : z = O[i]
      · simp [e]
      · simp [e]
    obtain ⟨l', h1, h2⟩ := ih (i + 1) _ _ (by omega) hr'
    have hs : D9 (Ks O) ((i : Int), l) = some (.next (((i + 1 : Nat) : Int), Gj 64 false l O[i] true)) := by
      unfold D9; simp only [hlen, Cb hil, cond_true, An, ofN_at hil]; rw [Ae (De hil), Ae (De hz), w1 (by omega)]
    refine ⟨l', by rw [Bf hs, h1], fun z hz' => ?_⟩; rw [h2 z hz', List.drop_eq_getElem_cons hil]
    show (s z || decide (z = O[i]) || (List.drop (i + 1) O).contains z) = (s z || (O[i] :: List.drop (i + 1) O).contains z)
    rw [List.contains_cons, Bool.or_assoc]
    rfl
theorem Aao {l : List Bool} {S : Nat → Bool} (hr : RelS l (Ge L S)) {at_ : Nat} (ha : at_ < L.length) :
    ∃ l', Eh l ⟨Bk L, L⟩ (at_ : Int) = some l' ∧ RelS l' (Ge L (fun j => S j || decide (j = at_))) := by
  obtain ⟨h1, h2, _⟩ := mayS_iff.1 hm; have hp := Oz hm; have hlp := Dg L; obtain ⟨O, hO⟩ := Ord.exist (K9 hp) (r := at_) (by rw [hlp]; exact ha); have hord := (Y4 ⟨Bk L, L⟩ (G5 hm).2 trivial (at_ : Int)).1 (Sf hm) (by omega) (by simp only [hlp]; omega) O (by rw [An]; exact hO)
  have hin : ∀ z, z ∈ O ↔ Rc (sN L) z at_ := fun z => by rw [hO.mem, ← rc_iff, Qe hm]
  have hlt : ∀ z ∈ O, z < L.length := fun z hz => by
    have := rch_lt hp ((hO.mem z).1 hz) (by rw [hlp]; exact ha); rwa [hlp] at this
  have hlen : O.length ≤ 64 := Nat.le_trans (Ka L.length O hO.nodup hlt) h2; obtain ⟨l', e1, e2⟩ := mark_loop hm (O := O) (fun z hz => by have := hlt z hz; omega) (by omega) O.length 0 l _ (by omega) hr; refine ⟨l', ?_, fun z hz => ?_⟩
  · unfold Eh; rw [hord, Option.bind_some]; exact congrArg (fun x : Option (List Bool) => x.bind fun x7 => some x7) e1
  · rw [e2 z hz, List.drop_zero, Bool.eq_iff_iff, Bool.or_eq_true, List.contains_iff_mem, hin]
    by_cases hzl : z < L.length
    · rw [Pr hzl, Pr hzl, J1 hm hzl, J1 hm hzl]
      constructor
      · rintro (⟨j, a, b, c⟩ | h)
        · exact ⟨j, a, b, by simp [c]⟩
        · exact ⟨at_, ha, h, by simp⟩
      · rintro ⟨j, a, b, c⟩; simp only [Bool.or_eq_true, decide_eq_true_eq] at c; rcases c with c | rfl
        · exact .inl ⟨j, a, b, c⟩
        · exact .inr b
    · have : ¬ Rc (sN L) z at_ := fun h => hzl (hlt z ((hin z).2 h)); simp [Ge, hzl, this]
theorem Za : ∃ l, Fs (gOf L) = some l ∧ RelS l (Ge L (goesE L 0)) := by
  obtain ⟨h1, h2, _⟩ := mayS_iff.1 hm
  have ht : Dy (gOf L) = some ⟨Bk L, L⟩ := by rw [Ve _ (G5 hm).1, N5 hm, cond_true]; rfl
  have hS : (gOf L).Succ = L := rfl; have key : ∀ (k i : Nat) (l : List Bool), i + k = L.length → RelS l (Ge L (fun j => decide (j < i) && goesE L 0 j)) →
      ∃ l', Aw (C6 (gOf L) ⟨Bk L, L⟩) ((i : Int), l) = some l' ∧ RelS l' (Ge L (goesE L 0)) := by
    intro k
    induction k with
    | zero =>
      intro i l hi hr
      obtain rfl : i = L.length := by omega
      refine ⟨l, A6 ?_, ?_⟩
      · unfold C6; simp only [hS, Dh, cond_false]
      · rwa [Ln (S' := goesE L 0) (fun j hj => by simp [hj])] at hr
    | succ k ih =>
      intro i l hi hr
      have hil : i < L.length := by omega
      cases he : (L.getD i []).isEmpty with
      | true =>
        obtain ⟨l', e1, e2⟩ := Aao hm hr hil
        have hs : C6 (gOf L) ⟨Bk L, L⟩ ((i : Int), l) = some (.next (((i + 1 : Nat) : Int), l')) := by
          unfold C6
          have hb : (((L.getD i []).length : Int) == 0) = true := by rw [beq_iff_eq]; have := List.isEmpty_iff.1 he; rw [this]; rfl
          simp only [hS, Cb hil, cond_true, An, hb, e1, Option.bind_some]; rw [Ae (De hil), Option.bind_some, w1 (by omega)]
        obtain ⟨l'', f1, f2⟩ := ih (i + 1) l' (by omega) (by
          rwa [Ln (S' := fun j => decide (j < i + 1) && goesE L 0 j) (fun j hj => ?_)] at e2; have hg : goesE L 0 i = true := he
          by_cases e : j = i
          · subst e; simp [hg]
          · by_cases h : j < i
            · simp [h, e, show j < i + 1 by omega]
            · simp [h, e, show ¬ j < i + 1 by omega])
        exact ⟨l'', by rw [Bf hs, f1], f2⟩
      | false =>
        have hs : C6 (gOf L) ⟨Bk L, L⟩ ((i : Int), l) = some (.next (((i + 1 : Nat) : Int), l)) := by
          unfold C6
          have hb : (((L.getD i []).length : Int) == 0) = false := by
            rw [beq_eq_false_iff_ne]; intro h
            have : (L.getD i []).length = 0 := by omega
            rw [List.length_eq_zero_iff.1 this] at he; cases he
          simp only [hS, Cb hil, cond_true, An, hb, cond_false]; rw [Ae (De hil), Option.bind_some, w1 (by omega)]
        obtain ⟨l'', f1, f2⟩ := ih (i + 1) l (by omega) (by
          rwa [Ln (S' := fun j => decide (j < i + 1) && goesE L 0 j) (fun j hj => ?_)] at hr; have hg : goesE L 0 i = false := he
          by_cases e : j = i
          · subst e; simp [hg]
          · by_cases h : j < i
            · simp [h, e, show j < i + 1 by omega]
            · simp [h, e, show ¬ j < i + 1 by omega])
        exact ⟨l'', by rw [Bf hs, f1], f2⟩
  obtain ⟨l, e1, e2⟩ := key L.length 0 (List.replicate 64 false) (by omega) (fun z hz => by
    rw [Jb]
    have : Jr L (fun j => decide (j < 0) && goesE L 0 j) z = false := by simp [Jr]
    unfold Ge
    rw [this, Bool.and_false])
  refine ⟨l, ?_, e2⟩; unfold Fs; rw [ht, Option.bind_some]; exact congrArg (fun x : Option (List Bool) => x.bind fun x7 => some x7) e1
theorem Vl {m : Nat} : ∀ d, (∀ j, m ≤ j → j < m + d → Jr L (goesE L m) j = true) → goesE L (m + d) = goesE L m := by
  have _hm := hm; intro d
  induction d with
  | zero => intro _; rfl
  | succ d ih =>
    intro h; have ih' := ih (fun j h1 h2 => h j h1 (by omega))
    funext k
    show (goesE L (m + d) k || (decide (k = m + d) && !Jr L (goesE L (m + d)) (m + d))) = _
    rw [ih', h (m + d) (by omega) (by omega)]
    simp
variable (hn : L.length < 64)
include hn
theorem exit_loop (k : Nat) : ∀ (m : Nat) (l : List Bool), L.length - m ≤ k → m ≤ L.length → RelS l (Ge L (goesE L m)) → (∀ j, j < m → Jr L (goesE L m) j = true) →
    Aw (E5 (gOf L)) (l, Bk L, L, withE L (goesE L m)) = some (gOf (exitL L), 0) := by
  obtain ⟨h1, h2, _⟩ := mayS_iff.1 hm; have hS : (gOf L).Succ = L := rfl
  have hroom : (1000 : Nat) ≤ room := by decide
  have step : ∀ (m : Nat) (l : List Bool), m ≤ L.length → RelS l (Ge L (goesE L m)) → (∀ j, j < m → Jr L (goesE L m) j = true) →
      (∃ (r : Nat) (l' : List Bool), r < L.length ∧ m ≤ r ∧ E5 (gOf L) (l, Bk L, L, withE L (goesE L m)) = some (.next (l', Bk L, L, withE L (goesE L (r + 1)))) ∧ RelS l' (Ge L (goesE L (r + 1))) ∧ (∀ j, j < r + 1 → Jr L (goesE L (r + 1)) j = true)) ∨
      E5 (gOf L) (l, Bk L, L, withE L (goesE L m)) = some (.done (gOf (exitL L), 0)) := by
    intro m l hmn hr hh
    have hsl : (subN false l 0 ((0 + ((L.length : Int)).toNat) - 0)).length = L.length := by rw [Abm, An]; omega
    have hsg : ∀ i, i < L.length → (subN false l 0 ((0 + ((L.length : Int)).toNat) - 0)).getD i false = Jr L (goesE L m) i := fun i hi => by
      rw [Vt (by rw [An]; omega), Nat.zero_add, hr i (by omega), Pr hi]
    have hwl : (withE L (goesE L m)).length = L.length + 1 := F3; have hwm := F2 hm hn (goesE L m); rcases m_indexB (subN false l 0 ((0 + ((L.length : Int)).toNat) - 0)) false (by rw [hsl]; omega) with ⟨r, q1, q2, q3, q4⟩ | ⟨q1, q2⟩
    · rw [hsl] at q1; rw [hsg r q1] at q2
      have hmr : m ≤ r := by
        rcases Nat.lt_or_ge r m with h | h
        · have := hh r h; rw [q2] at this; cases this
        · exact h
      have hsk : goesE L r = goesE L m := by
        have := Vl hm (m := m) (r - m) (fun j a b => by
          have := q3 j (by omega); rw [hsg j (by omega)] at this
          simpa using this)
        rwa [show m + (r - m) = r by omega] at this
      have hgr : goesE L m r = false := by
        cases hg : goesE L m r with
        | false => rfl
        | true => rw [(J1 hm q1).2 ⟨r, q1, .root, hg⟩] at q2; cases q2
      have hnew : goesE L (r + 1) = fun j => goesE L m j || decide (j = r) := by
        funext j
        show (goesE L r j || (decide (j = r) && !Jr L (goesE L r) r)) = _
        rw [hsk, q2]; simp
      obtain ⟨l', e1, e2⟩ := Aao hm hr q1; refine .inl ⟨r, l', q1, hmr, ?_, by rw [hnew]; exact e2, fun j hj => ?_⟩
      · unfold E5
        have hrow : (withE L (goesE L m)).getD r [] = L.getD r [] := by rw [Qz q1]; simp [Eo, hgr]
        have hrl : (L.getD r []).length ≤ 64 := by
          have := (Fk hm).2 (L.getD r []) (Hj (d := []) q1); exact this
        have d0 : decide ((0 : Int) ≤ (r : Int)) = true := by simp
        simp only [hS]; rw [Ae ⟨by omega, by rw [An]; omega⟩, q4, Option.bind_some, d0, cond_true]; simp only [An, hrow]; rw [Ae (De (by omega)), Ae (De (by omega)), Ae (by simp only [List.length_singleton]; omega), Ae (De (by omega)), e1, Option.bind_some]
        have hset : (withE L (goesE L m)).set r (L.getD r [] ++ [(L.length : Int)]) = withE L (goesE L (r + 1)) := by
          unfold withE; rw [List.set_append_left _ _ (by simpa using q1), Jm]
          congr 1
          refine Dp fun j hj => ?_
          by_cases e : j = r
          · subst e; simp [Eo, hnew]
          · simp [Eo, hnew, e]
        rw [hset]
      · rw [hnew]
        by_cases e : j = r
        · subst e; exact (J1 hm q1).2 ⟨j, q1, .root, by simp⟩
        · have hjl : j < L.length := by omega
          refine hit_mono hm hjl (s := goesE L m) (fun x hx => by simp [hx]) ?_
          by_cases hjm : j < m
          · exact hh j hjm
          · have := q3 j (by omega); rw [hsg j hjl] at this
            simpa using this
    · rw [hsl] at q1
      have hsk : goesE L L.length = goesE L m := by
        have := Vl hm (m := m) (L.length - m) (fun j a b => by
          have := q1 j (by omega); rw [hsg j (by omega)] at this
          simpa using this)
        rwa [show m + (L.length - m) = L.length by omega] at this
      refine .inr ?_; unfold E5
      have d0 : decide ((0 : Int) ≤ (-1 : Int)) = false := by decide
      simp only [hS]; rw [Ae ⟨by omega, by rw [An]; omega⟩, q2, Option.bind_some, d0, cond_false, m_make _ (G4 (Fk hwm)), hwm, cond_true, Option.bind_some]; unfold exitL; rw [hsk]
  induction k with
  | zero =>
    intro m l hk hmn hr hh; rcases step m l hmn hr hh with ⟨r, l', a, b, c, d, e⟩ | h
    · omega
    · exact A6 h
  | succ k ih =>
    intro m l hk hmn hr hh; rcases step m l hmn hr hh with ⟨r, l', a, b, c, d, e⟩ | h
    · rw [Bf c]; exact ih (r + 1) l' (by omega) (by omega) d e
    · exact A6 h
theorem exit_rows : Aw (E6 (gOf L)) ((0 : Int), List.replicate (L.length + 1) []) = some (withE L (goesE L 0)) := by
  obtain ⟨h1, h2, _⟩ := mayS_iff.1 hm; have hS : (gOf L).Succ = L := rfl
  have hroom : (1000 : Nat) ≤ room := by decide
  have e0 : (List.replicate (L.length + 1) ([] : List Int)) = (List.range (L.length + 1)).map fun k => if k < 0 then Eo L (goesE L 0) k else [] := by
    apply List.ext_getElem?
    intro i
    by_cases hi : i < L.length + 1 <;> simp [hi, List.getElem?_replicate]
  rw [e0]; refine Cy (E6 (gOf L)) (fun i => (((i : Nat) : Int), (List.range (L.length + 1)).map fun k => if k < i then Eo L (goesE L 0) k else [])) _ L.length (fun i hi => ?_) ?_
  · show E6 (gOf L) ((i : Int), _) = _
    unfold E6; have hrl : (L.getD i []).length ≤ 64 := (Fk hm).2 (L.getD i []) (Hj (d := []) hi)
    have hrow : ∀ x, x = Eo L (goesE L 0) i → ((List.range (L.length + 1)).map fun k => if k < i then Eo L (goesE L 0) k else []).set i x = (List.range (L.length + 1)).map fun k => if k < i + 1 then Eo L (goesE L 0) k else [] := fun x hx => by
      rw [Jm]; refine Dp fun j hj => ?_
      by_cases e : j = i
      · subst e; simp [hx]
      · by_cases h : j < i
        · simp [e, h, show j < i + 1 by omega]
        · simp [e, h, show ¬ j < i + 1 by omega]
    simp only [hS, Cb hi, cond_true, An]; rw [Ae (De hi), Ae (De (by simp; omega)), m_clone _ (by omega), Option.bind_some, Ae (De (by simp; omega))]
    cases he : (L.getD i []).isEmpty with
    | true =>
      have hnil := List.isEmpty_iff.1 he
      have hb : (((L.getD i []).length : Int) == 0) = true := by rw [beq_iff_eq, hnil]; rfl
      simp only [hb, cond_true]
      rw [Ae (De (by simp; omega)), Ae (De (by simp; omega)), Option.bind_some, w1 (by omega), List.set_set, hrow _ (by
        have hg : goesE L 0 i = true := he; unfold Eo
        rw [if_pos hg, hnil]; rfl)]
    | false =>
      have hb : (((L.getD i []).length : Int) == 0) = false := by
        rw [beq_eq_false_iff_ne]; intro h
        have : (L.getD i []).length = 0 := by omega
        rw [List.length_eq_zero_iff.1 this] at he; cases he
      simp only [hb, cond_false]
      rw [Option.bind_some, w1 (by omega), hrow _ (by
        have hg : ¬ goesE L 0 i = true := fun h => by have h' : (L.getD i []).isEmpty = true := h; rw [he] at h'; cases h'
        unfold Eo
        rw [if_neg hg, List.append_nil])]
  · show E6 (gOf L) ((L.length : Int), _) = _
    unfold E6; simp only [hS, Dh, cond_false]
    congr 2
    rw [List.range_succ, List.map_append]; unfold withE
    congr 1
    · exact Dp fun j hj => by simp [hj]
    · simp
theorem exit_spec : Ga (gOf L) = some (gOf (exitL L), 0) := by
  obtain ⟨h1, h2, _⟩ := mayS_iff.1 hm; obtain ⟨l, e1, e2⟩ := Za hm; have hS : (gOf L).Succ = L := rfl
  have hroom : (1000 : Nat) ≤ room := by decide
  have ht : Dy (gOf L) = some ⟨Bk L, L⟩ := by rw [Ve _ (G5 hm).1, N5 hm, cond_true]; rfl
  have hx := exit_loop hm hn L.length 0 l (by omega) (by omega) e2 (fun j hj => absurd hj (Nat.not_lt_zero _))
  have hb : (((L.length : Int) : Int) == 64) = false := by rw [beq_eq_false_iff_ne]; omega
  unfold Ga; simp only [hS]; rw [m_may _ (G5 hm).1, Option.bind_some, N5 hm, Bool.not_true, cond_false, hb, cond_false, w1 (by omega), Ae ⟨by omega, Int.le_refl _, by omega⟩, An, exit_rows hm hn, Option.bind_some, e1, Option.bind_some, ht, Option.bind_some]; refine Eq.trans ?_ (congrArg (fun x : Option (TGraph × Int) => x.bind fun x39 => some x39) hx); rw [← Ky (f := E5 (gOf L))]
  rfl
end
theorem m_pTree (g : TGraph) (h1 : Fits g.Succ) (h2 : Fits g.Pred) : Jd g = some (if Hn g = true ∧ g.Succ.length < 64 then Cj g.Succ else []) := by
  unfold Jd
  by_cases hc : Hn g = true ∧ g.Succ.length < 64
  · obtain ⟨hm, hg⟩ := J4 hc.1; have hn := hc.2; have he := Ls hm hn
    have hE : Ga g = some (gOf (exitL g.Succ), 0) := by rw [hg]; exact exit_spec hm hn
    have ht : Dy (gOf (exitL g.Succ)) = some ⟨Bk (exitL g.Succ), exitL g.Succ⟩ := by rw [Ve _ (G5 he).1, N5 he, cond_true]; rfl
    rw [if_pos hc, hE, Option.bind_some, bne_self_eq_false, cond_false, ht, Option.bind_some, m_Tree _ _ (G5 he).2 (G5 he).1, Option.bind_some]; unfold Abn Cj; rw [if_pos ⟨Sf he, by omega, by simp only [Dg, Iq]; omega⟩, An]
  · have hE : Ga g = some (g0, 5) := by
      unfold Ga
      have hb : (bif !(Hn g) then true else (((g.Succ.length : Int) : Int) == 64)) = true := by
        cases hm : Hn g with
        | false => rfl
        | true =>
          have h64 := (mayS_iff.1 (J4 hm).1).2.1; have : ¬ g.Succ.length < 64 := fun h => hc ⟨hm, h⟩
          show (((g.Succ.length : Int) : Int) == 64) = true
          rw [beq_iff_eq]; omega
      rw [m_may _ h1, Option.bind_some, hb, cond_true]
      rfl
    rw [if_neg hc, hE, Option.bind_some]
    rfl
end
end Go.Proofs.Ytjdddniaokcgnaa

namespace Go.Proofs.Ytjdddniaokcgnaa
noncomputable section
open Go Go.RowKit Go.Sort
set_option linter.unusedVariables false
set_option linter.unusedSimpArgs false
theorem sortedU {α : Type} {R : α → α → Prop} (hR : ∀ x y, R x y → ¬ R y x) : ∀ {a b : List α}, a.Pairwise R → b.Pairwise R → (∀ x, x ∈ a ↔ x ∈ b) → a = b
  | [], [], _, _, _ => rfl
  | [], y :: b, _, _, h => by have := (h y).2 (List.mem_cons_self ..); cases this
  | x :: a, [], _, _, h => by have := (h x).1 (List.mem_cons_self ..); cases this
  | x :: a, y :: b, ha, hb, h => by
    have hxx : ∀ z, ¬ R z z := fun z hz => hR z z hz hz; obtain ⟨ha1, ha2⟩ := List.pairwise_cons.1 ha; obtain ⟨hb1, hb2⟩ := List.pairwise_cons.1 hb
    have e : x = y := by
      rcases List.mem_cons.1 ((h x).1 (List.mem_cons_self ..)) with h1 | h1
      · exact h1
      · rcases List.mem_cons.1 ((h y).2 (List.mem_cons_self ..)) with h2 | h2
        · exact h2.symm
        · exact (hR _ _ (hb1 x h1) (ha1 y h2)).elim
    subst e; rw [sortedU hR ha2 hb2 fun z => ⟨fun hz => ?_, fun hz => ?_⟩]
    · rcases List.mem_cons.1 ((h z).1 (List.mem_cons_of_mem _ hz)) with h1 | h1
      · subst h1; exact (hxx _ (ha1 _ hz)).elim
      · exact h1
    · rcases List.mem_cons.1 ((h z).2 (List.mem_cons_of_mem _ hz)) with h1 | h1
      · subst h1; exact (hxx _ (hb1 _ hz)).elim
      · exact h1
theorem depLt_asym (x y : TDep) (h : Sq x y) : ¬ Sq y x := by unfold Sq at *; omega
theorem sortDep_eq {a b : List TDep} (ha : a.Nodup) (hb : b.Pairwise Sq) (h : ∀ x, x ∈ a ↔ x ∈ b) : Lg a = b := by
  have hp : (Lg a).Perm a := List.mergeSort_perm ..
  have hs : (Lg a).Pairwise fun x y => (!(ltOf N3) y x) = true := List.pairwise_mergeSort (fun x y z h1 h2 => by
    rw [Sj] at *; simp at *
    omega) (fun x y => by
    rw [Sj, Sj]
    simp
    omega) a
  refine sortedU depLt_asym ?_ hb fun x => (hp.mem_iff).trans (h x); have hn : (Lg a).Pairwise fun x y => x ≠ y := hp.nodup_iff.2 ha; refine (hs.and hn).imp ?_; rintro ⟨b1, o1, t1⟩ ⟨b2, o2, t2⟩ ⟨h1, h2⟩; rw [Sj] at h1; simp only [Bool.not_eq_true', decide_eq_false_iff_not, ne_eq, TDep.mk.injEq] at h1 h2; unfold Sq; simp only; omega
section
variable {L : List (List Int)} (hm : Ec L = true) (hn : L.length < 64)
include hm hn
theorem pUp {a b : Nat} (ha : a ≤ L.length) (hb : b ≤ L.length) : UpTo (A7 (Cj L)) b a ↔ ¬ Av (sN (exitL L)) b a L.length := by
  obtain ⟨P, h1, h2⟩ := Rr hm hn; have hin : ∀ x, x ≤ L.length → A7 (Cj L) x ≠ -2 := fun x hx => (h2.in_iff (by omega)).2 ((Qe (Ls hm hn)).2 (Qo hm hx)); rw [← pover hm hn ha hb, h2.over h1 (by omega) (by omega)]; exact ⟨fun h => ⟨hin b hb, h⟩, fun h => h.2⟩
theorem pUps : ∃ f : Nat → Nat, (∀ x, x ≤ L.length → f x ≤ 64) ∧ A7 (Cj L) L.length = -1 ∧ (∀ x, x < L.length → ∃ z : Nat, A7 (Cj L) x = (z : Int) ∧ z ≤ L.length) ∧
    (∀ x z : Nat, x ≤ L.length → A7 (Cj L) x = (z : Int) → z ≤ L.length ∧ f z < f x) ∧ ∀ x z, x ≤ L.length → UpTo (A7 (Cj L)) x z → f z ≤ f x ∧ z ≤ L.length := by
  obtain ⟨P, h1, h2⟩ := Rr hm hn; have hin : ∀ x, x ≤ L.length → A7 (Cj L) x ≠ -2 := fun x hx => (h2.in_iff (by omega)).2 ((Qe (Ls hm hn)).2 (Qo hm hx)); refine ⟨pos (L.length :: P), fun x hx => ?_, h2.inv.top, fun x hx => ?_, fun x z hx hz => ?_, fun x z hx hz => ?_⟩
  · have := h1.pos_lt ((h1.mem x).2 ((Qe (Ls hm hn)).2 (Qo hm hx))); omega
  · rcases h2.inv.kind x (by omega) with h | h | ⟨z, h⟩
    · exact (hin x (by omega) h).elim
    · omega
    · exact ⟨z, h, by have := (h2.inv.up x (by omega) z h).1; omega⟩
  · obtain ⟨g1, _, g3, _⟩ := h2.inv.up x (by omega) z hz; exact ⟨by omega, g3⟩
  · obtain ⟨g1, _, g3, _⟩ := h2.inv.anc hz (by omega) (hin x hx); exact ⟨g3, by omega⟩
theorem hang_loop {f : Nat → Nat} (hf : ∀ x z : Nat, x ≤ L.length → A7 (Cj L) x = (z : Int) → z ≤ L.length ∧ f z < f x) (hu : ∀ x z, x ≤ L.length → UpTo (A7 (Cj L)) x z → f z ≤ f x ∧ z ≤ L.length) {a p : Nat} (b : Int) (ha : a < L.length) (hp : A7 (Cj L) a = (p : Int)) {x : Nat} (hx : UpTo (A7 (Cj L)) x p) :
    x ≤ L.length → ∃ ks : List Nat, (∀ l : List TDep, l.length + f x ≤ 1000000 → Aw (C8 (Cj L) (a : Int) b) ((x : Int), l) = some (l ++ ks.map fun k => ⟨(k : Int), (a : Int), b⟩, l ++ ks.map fun k => ⟨(k : Int), (a : Int), b⟩)) ∧
      ks.Nodup ∧ ks.length ≤ f x ∧ ∀ k, k ∈ ks ↔ UpTo (A7 (Cj L)) x k ∧ ¬ UpTo (A7 (Cj L)) p k := by
  have hroom : (2000000 : Nat) ≤ room := by decide
  have hlen := X8 hm hn; have hpa : (Cj L).getD a 0 = (p : Int) := hp
  induction hx with
  | refl p =>
    intro hxl; refine ⟨[], fun l hl => ?_, .nil, by simp, fun k => by simp⟩; refine A6 ?_; unfold C8; simp only [An, hpa, beq_self_eq_true, cond_true]; rw [Ae (De (by omega))]
    simp
  | @up x y p hxy t ih =>
    intro hxl; obtain ⟨hy, hfy⟩ := hf x y hxl hxy; have hpy := hu y p hy t
    have hne : x ≠ p := fun e => by subst e; omega
    obtain ⟨ks, e1, e2, e3, e4⟩ := ih hp hpa hy
    have hxk : x ∉ ks := fun h => by
      have := hu y x hy ((e4 x).1 h).1; omega
    refine ⟨x :: ks, fun l hl => ?_, List.nodup_cons.2 ⟨hxk, e2⟩, by simp only [List.length_cons]; omega, fun k => ?_⟩
    · have hstep : C8 (Cj L) (a : Int) b ((x : Int), l) = some (.next ((y : Int), l ++ [⟨(x : Int), (a : Int), b⟩])) := by
        unfold C8
        have hb : (((x : Nat) : Int) == (p : Int)) = false := by rw [T6]; simpa using hne
        have hxp : (Cj L).getD x 0 = (y : Int) := hxy; simp only [An, hpa, hb, cond_false, hxp]; rw [Ae (De (by omega)), Ae (by simp only [List.length_singleton]; omega), Ae (De (by omega))]
      rw [Bf hstep, e1 _ (by simp only [List.length_append, List.length_singleton]; omega)]
      simp
    · rw [List.mem_cons, e4 k, anc_up hxy]
      constructor
      · rintro (rfl | ⟨h1, h2⟩)
        · exact ⟨.inl rfl, fun h => by have := hu p k hpy.2 h; omega⟩
        · exact ⟨.inr h1, h2⟩
      · rintro ⟨rfl | h1, h2⟩
        · exact .inl rfl
        · exact .inr ⟨h1, h2⟩
theorem up_entry {a b p : Nat} (ha : a < L.length) (hp : A7 (Cj L) a = (p : Int)) (hb : b ∈ sN (exitL L) a) (hbl : b ≤ L.length) : UpTo (A7 (Cj L)) b p := by
  obtain ⟨f, _, _, _, hf, hu⟩ := pUps hm hn; obtain ⟨hpl, hfp⟩ := hf a p (by omega) hp; rw [pUp hm hn hpl hbl]; intro h; have h2 : UpTo (A7 (Cj L)) a p := .up hp (.refl p); rw [pUp hm hn hpl (by omega)] at h2; exact h2 (h.front (fun e => by subst e; omega) hb)
theorem hang_dep {a b p k : Nat} (ha : a < L.length) (hp : A7 (Cj L) a = (p : Int)) (hb : b ∈ sN L a) : (UpTo (A7 (Cj L)) b k ∧ ¬ UpTo (A7 (Cj L)) p k) ↔ k < L.length ∧ La L k a b = true := by
  obtain ⟨f, _, htop, _, hf, hu⟩ := pUps hm hn; obtain ⟨hpl, hfp⟩ := hf a p (by omega) hp; have hbl := K9 hm _ ha _ hb; have hbe : b ∈ sN (exitL L) a := (Ir hm).2 ⟨ha, .inl hb⟩; have hend : ∀ x, x ≤ L.length → UpTo (A7 (Cj L)) x L.length := fun x hx => (pUp hm hn (Nat.le_refl _) hx).2 fun h => h.ne rfl
  have hpa : ∀ k, k ≤ L.length → (Mq L k a = true ↔ k = a ∨ UpTo (A7 (Cj L)) p k) := fun k hk => by
    rw [Zj hm hn (by omega), ← pUp hm hn hk (by omega), anc_up hp]
  constructor
  · rintro ⟨h1, h2⟩; have hk := (hu b k (by omega) h1).2; have hkn : k ≠ L.length := fun e => h2 (e ▸ hend p hpl); refine ⟨by omega, (Rp hm ha).2 ⟨?_, hb, (Zj hm hn (by omega)).2 ((pUp hm hn hk (by omega)).1 h1), ?_⟩⟩
    · rcases Nat.lt_or_ge 1 ((exitL L).getD a []).length with h | h
      · exact h
      · exfalso
        have hone : ∀ c, c ∈ sN (exitL L) a → c = b := fun c hc => by
          unfold sN at hc hbe
          cases hr : (exitL L).getD a [] with
          | nil => rw [hr] at hbe; cases hbe
          | cons x l =>
            rw [hr] at hc hbe h
            obtain rfl : l = [] := by
              cases l with
              | nil => rfl
              | cons _ _ => simp at h
            simp at hc hbe; omega
        have hab : UpTo (A7 (Cj L)) a b := by
          rw [pUp hm hn (by omega) (by omega)]; intro h; rcases h.head with e | ⟨c, c1, c2, _⟩
          · omega
          · exact c2 (hone c c1)
        rcases (anc_up hp).1 hab with e | e
        · subst e; have hr := Qo hm (b := b) (by omega)
          have : ∀ x, Rc (sN (exitL L)) b x → x = b := fun x hx => by
            induction hx with
            | root => rfl
            | step _ hy ih => subst ih; exact hone _ hy
          have := this _ hr; omega
        · exact h2 (e.trans h1)
    · by_cases e : k = a
      · exact .inl e
      · refine .inr ?_; rw [← Bool.not_eq_true, hpa k hk]; rintro (h | h)
        · exact e h
        · exact h2 h
  · rintro ⟨hk, hd⟩; obtain ⟨_, _, h3, h4⟩ := (Rp hm ha).1 hd; refine ⟨(pUp hm hn (by omega) (by omega)).2 ((Zj hm hn (by omega)).1 h3), fun h => ?_⟩; rcases h4 with rfl | h4
    · have := hu p k hpl h; omega
    · rw [← Bool.not_eq_true, hpa k (by omega)] at h4; exact h4 (.inr h)
theorem m_hang {a b : Nat} (ha : a < L.length) (hb : b ∈ sN L a) : ∃ ks : List Nat, (∀ l : List TDep, l.length ≤ 500000 → Dq l (Cj L) (a : Int) (b : Int) = some (l ++ ks.map fun k => ⟨(k : Int), (a : Int), (b : Int)⟩, l ++ ks.map fun k => ⟨(k : Int), (a : Int), (b : Int)⟩)) ∧
    ks.Nodup ∧ ks.length ≤ 64 ∧ ∀ k, k ∈ ks ↔ k < L.length ∧ La L k a b = true := by
  obtain ⟨f, f64, _, hpar, hf, hu⟩ := pUps hm hn; obtain ⟨p, hp, hpl⟩ := hpar a ha; have hbl := K9 hm _ ha _ hb; have hup := up_entry hm hn ha hp ((Ir hm).2 ⟨ha, .inl hb⟩) (by omega); have hfb := f64 b (by omega); obtain ⟨ks, e1, e2, e3, e4⟩ := hang_loop hm hn hf hu (b : Int) ha hp hup (by omega); refine ⟨ks, fun l hl => ?_, e2, by omega, fun k => by rw [e4 k, hang_dep hm hn ha hp hb]⟩; unfold Dq; refine Eq.trans ?_ (congrArg (fun x : Option (List TDep × List TDep) => x.bind fun x9 => some x9) (e1 l (by omega))); rw [← Ky (f := C8 (Cj L) (a : Int) (b : Int))]
  rfl
end
end
end Go.Proofs.Ytjdddniaokcgnaa

namespace Go.Proofs.Ytjdddniaokcgnaa
noncomputable section
open Go Go.RowKit Go.Sort
set_option linter.unusedVariables false
set_option linter.unusedSimpArgs false
def HangOK (L : List (List Int)) (a b : Nat) (ks : List Nat) : Prop :=
  (∀ l : List TDep, l.length ≤ 500000 → Dq l (Cj L) (a : Int) (b : Int) = some (l ++ ks.map fun k => ⟨(k : Int), (a : Int), (b : Int)⟩, l ++ ks.map fun k => ⟨(k : Int), (a : Int), (b : Int)⟩)) ∧
    ks.Nodup ∧ ks.length ≤ 64 ∧ ∀ k, k ∈ ks ↔ k < L.length ∧ La L k a b = true
open Classical in
def hangN (L : List (List Int)) (a b : Nat) : List Nat := if h : ∃ ks, HangOK L a b ks then Classical.choose h else []
def hgD (L : List (List Int)) (a : Nat) (b : Int) : List TDep := (hangN L a b.toNat).map fun k : Nat => ⟨(k : Int), (a : Int), b⟩
def Kt (L : List (List Int)) (a j : Nat) : List TDep := ((List.range j).map fun i => hgD L a ((L.getD a []).getD i 0)).flatten
def Qf (L : List (List Int)) (i : Nat) : List TDep := ((List.range i).map fun a => Kt L a (L.getD a []).length).flatten
theorem X7 (L : List (List Int)) (a j : Nat) : Kt L a (j + 1) = Kt L a j ++ hgD L a ((L.getD a []).getD j 0) := by
  unfold Kt; rw [List.range_succ, List.map_append, List.flatten_append]
  simp
theorem fst_hgTo (L : List (List Int)) (i : Nat) : Qf L (i + 1) = Qf L i ++ Kt L i (L.getD i []).length := by
  unfold Qf; rw [List.range_succ, List.map_append, List.flatten_append]
  simp
section
variable {L : List (List Int)} (hm : Ec L = true) (hn : L.length < 64)
include hm hn
theorem hangN_ok {a b : Nat} (ha : a < L.length) (hb : b ∈ sN L a) : HangOK L a b (hangN L a b) := by
  have h : ∃ ks, HangOK L a b ks := m_hang hm hn ha hb; unfold hangN; rw [dif_pos h]; exact Classical.choose_spec h
theorem row_at {a i : Nat} (ha : a < L.length) (hi : i < (L.getD a []).length) : ∃ b : Nat, (L.getD a []).getD i 0 = (b : Int) ∧ b ∈ sN L a ∧ b < L.length := by
  have h0 := hn; obtain ⟨_, _, h3⟩ := mayS_iff.1 hm; obtain ⟨h4, h5⟩ := Ob (h3 a ha) hi; refine ⟨((L.getD a []).getD i 0).toNat, by omega, List.mem_map.2 ⟨_, Hj (d := 0) hi, rfl⟩, by omega⟩
theorem Mc {a i : Nat} (ha : a < L.length) (hi : i < (L.getD a []).length) : (hgD L a ((L.getD a []).getD i 0)).length ≤ 64 ∧ (hgD L a ((L.getD a []).getD i 0)).Nodup ∧ (∀ d, d ∈ hgD L a ((L.getD a []).getD i 0) ↔ ∃ k b : Nat, (L.getD a []).getD i 0 = (b : Int) ∧ d = ⟨(k : Int), (a : Int), (b : Int)⟩ ∧ k < L.length ∧ La L k a b = true) ∧
    ∀ l : List TDep, l.length ≤ 500000 → Dq l (Cj L) (a : Int) ((L.getD a []).getD i 0) = some (l ++ hgD L a ((L.getD a []).getD i 0), l ++ hgD L a ((L.getD a []).getD i 0)) := by
  obtain ⟨b, e, hb, hbl⟩ := row_at hm hn ha hi; obtain ⟨h1, h2, h3, h4⟩ := hangN_ok hm hn ha hb; rw [e]; unfold hgD; rw [An]; refine ⟨by rw [List.length_map]; exact h3, ?_, fun d => ?_, h1⟩
  · refine List.pairwise_map.2 (h2.imp fun hne he => hne ?_); simp only [TDep.mk.injEq, Int.natCast_inj] at he; exact he.1
  · rw [List.mem_map]
    constructor
    · rintro ⟨k, hk, rfl⟩; exact ⟨k, b, rfl, rfl, (h4 k).1 hk⟩
    · rintro ⟨k, b', hb', rfl, hk⟩
      obtain rfl : b = b' := by omega
      exact ⟨k, (h4 k).2 hk, rfl⟩
theorem Rz {a : Nat} (ha : a < L.length) : ∀ j, j ≤ (L.getD a []).length → (Kt L a j).length ≤ j * 64
  | 0, _ => by simp [Kt]
  | j + 1, hj => by
    rw [X7, List.length_append]; have h1 := Rz ha j (by omega); have h2 := (Mc hm hn ha (i := j) (by omega)).1; omega
theorem row_le {a : Nat} (ha : a < L.length) : (L.getD a []).length ≤ 64 := by
  have h0 := hn; exact (Fk hm).2 (L.getD a []) (Hj (d := []) ha)
theorem Vc : ∀ i, i ≤ L.length → (Qf L i).length ≤ i * 4096
  | 0, _ => by simp [Qf]
  | i + 1, hi => by
    rw [fst_hgTo, List.length_append]; have h1 := Vc i (by omega); have h2 := Rz hm hn (a := i) (by omega) _ (Nat.le_refl _); have h3 := row_le hm hn (a := i) (by omega); omega
theorem all_L1 {a : Nat} (ha : a < L.length) (l : List TDep) (hl : l.length ≤ 400000) : Aw (Fu (gOf L) (Cj L) (a : Int)) ((0 : Int), l) = some (l ++ Kt L a (L.getD a []).length) := by
  have hrl := row_le hm hn ha; have := Cy (Fu (gOf L) (Cj L) (a : Int)) (fun j => (((j : Nat) : Int), l ++ Kt L a j)) (l ++ Kt L a (L.getD a []).length) (L.getD a []).length (fun j hj => ?_) ?_
  · simpa [Kt] using this
  · show Fu (gOf L) (Cj L) (a : Int) ((j : Int), _) = _
    have hg : (gOf L).Succ = L := rfl; have h1 := Rz hm hn ha j (by omega); have h2 := (Mc hm hn ha hj).2.2.2 (l ++ Kt L a j) (by rw [List.length_append]; omega); unfold Fu; simp only [hg, An, Cb hj, cond_true]; rw [Ae (De hj), h2, Option.bind_some, w1 (by omega), X7, List.append_assoc]
  · show Fu (gOf L) (Cj L) (a : Int) (((L.getD a []).length : Int), _) = _
    have hg : (gOf L).Succ = L := rfl; unfold Fu; simp only [hg, An, Dh, cond_false]
theorem all_L2 : Aw (E9 (gOf L) (Cj L)) ((0 : Int), ([] : List TDep)) = some (Qf L L.length) := by
  have hg : (gOf L).Succ = L := rfl; refine Cy (E9 (gOf L) (Cj L)) (fun i => (((i : Nat) : Int), Qf L i)) _ L.length (fun i hi => ?_) ?_
  · show E9 (gOf L) (Cj L) ((i : Int), _) = _
    have h1 := Vc hm hn i (by omega); unfold E9; simp only [hg, Cb hi, cond_true]; rw [Ae (De hi), all_L1 hm hn hi _ (by omega), Option.bind_some, w1 (by omega), fst_hgTo]
  · show E9 (gOf L) (Cj L) ((L.length : Int), _) = _
    unfold E9; simp only [hg, Dh, cond_false]
theorem hgTo_mem (d : TDep) : d ∈ Qf L L.length ↔ d ∈ Yy L := by
  rw [mem_depL]; unfold Qf Kt; simp only [List.mem_flatten, List.mem_map, List.mem_range]
  constructor
  · rintro ⟨_, ⟨a, ha, rfl⟩, hd⟩; simp only [List.mem_flatten, List.mem_map, List.mem_range] at hd; obtain ⟨_, ⟨i, hi, rfl⟩, hd⟩ := hd; obtain ⟨k, b, hb, rfl, hk, hdep⟩ := ((Mc hm hn ha hi).2.2.1 d).1 hd; obtain ⟨b', e, _, hbl⟩ := row_at hm hn ha hi; exact ⟨k, a, b, rfl, hk, ha, by omega, hdep⟩
  · rintro ⟨k, a, b, rfl, hk, ha, hb, hdep⟩; have hmem := (Rp hm ha).1 hdep; obtain ⟨x, hx, hxb⟩ := List.mem_map.1 hmem.2.1; obtain ⟨i, hi, hix⟩ := List.mem_iff_getElem.1 hx
    have hxn : x = (b : Int) := by
      have := K3 ((mayS_iff.1 hm).2.2 a ha) hx; omega
    have e : (L.getD a []).getD i 0 = (b : Int) := by rw [As _ _ _ hi, hix, hxn]
    refine ⟨_, ⟨a, ha, rfl⟩, ?_⟩; simp only [List.mem_flatten, List.mem_map, List.mem_range]; exact ⟨_, ⟨i, hi, rfl⟩, ((Mc hm hn ha hi).2.2.1 _).2 ⟨k, b, e, rfl, hk, hdep⟩⟩
theorem hgTo_nodup : (Qf L L.length).Nodup := by
  unfold Qf; refine List.pairwise_flatten.2 ⟨fun l hl => ?_, ?_⟩
  · obtain ⟨a, ha, rfl⟩ := List.mem_map.1 hl; have ha := List.mem_range.1 ha; unfold Kt; refine List.pairwise_flatten.2 ⟨fun l hl => ?_, ?_⟩
    · obtain ⟨i, hi, rfl⟩ := List.mem_map.1 hl; exact (Mc hm hn ha (List.mem_range.1 hi)).2.1
    · refine Rg _ fun i j hij hj x hx y hy he => ?_; obtain ⟨_, b, hb, rfl, _⟩ := ((Mc hm hn ha (by omega)).2.2.1 x).1 hx; obtain ⟨_, b', hb', rfl, _⟩ := ((Mc hm hn ha hj).2.2.1 y).1 hy; have := Yq ((mayS_iff.1 hm).2.2 a ha) hij hj; simp only [TDep.mk.injEq] at he; omega
  · refine Rg _ fun i j hij hj x hx y hy he => ?_; unfold Kt at hx hy; obtain ⟨l1, hl1, hx⟩ := List.mem_flatten.1 hx; obtain ⟨l2, hl2, hy⟩ := List.mem_flatten.1 hy; obtain ⟨u, hu, rfl⟩ := List.mem_map.1 hl1; obtain ⟨v, hv, rfl⟩ := List.mem_map.1 hl2; obtain ⟨_, b, hb, rfl, _⟩ := ((Mc hm hn (by omega) (List.mem_range.1 hu)).2.2.1 x).1 hx; obtain ⟨_, b', hb', rfl, _⟩ := ((Mc hm hn (by omega) (List.mem_range.1 hv)).2.2.1 y).1 hy; simp only [TDep.mk.injEq] at he; omega
theorem sort_hg : Lg (Qf L L.length) = Yy L := sortDep_eq (hgTo_nodup hm hn) (depTo_pw _) (hgTo_mem hm hn)
end
theorem m_All (g : TGraph) (h1 : Fits g.Succ) (h2 : Fits g.Pred) : Ha g = some (depG g) := by
  unfold Ha depG; rw [m_pTree g h1 h2, Option.bind_some]
  by_cases hc : Hn g = true ∧ g.Succ.length < 64
  · obtain ⟨hm, hg⟩ := J4 hc.1; have hn := hc.2; rw [if_pos hc, if_pos hc]
    have hb : (((Cj g.Succ).length : Int) == 0) = false := by
      rw [beq_eq_false_iff_ne, X8 hm hn]; omega
    have hl := Vc hm hn g.Succ.length (Nat.le_refl _)
    have hs : Gc (Qf g.Succ g.Succ.length) = some (Yy g.Succ) := by
      unfold Gc; rw [Ae (by omega), sort_hg hm hn]
    have hlen : (Qf g.Succ g.Succ.length).length = (Yy g.Succ).length := by
      rw [← sort_hg hm hn]; exact (List.length_mergeSort _).symm
    simp only [hb, cond_false]; rw [hg]
    show Option.bind (Aw (E9 (gOf g.Succ) (Cj g.Succ)) _) _ = _
    rw [all_L2 hm hn, Option.bind_some, hs, Option.bind_some, Ae hlen]
    rfl
  · rw [if_neg hc, if_neg hc]
    rfl
theorem m_Of (g : TGraph) (x : Int) (h1 : Fits g.Succ) (h2 : Fits g.Pred) : Ke g x = some ((depG g).filter fun d => d.Block == x) := by
  have hroom : (1000000 : Nat) ≤ room := by decide
  have hl := Rh g; unfold Ke; rw [m_All g h1 h2, Option.bind_some]
  generalize depG g = l at hl ⊢
  rw [Xb (f := Jh x l) l (fun d => d.Block == x) hl (fun o i hi ho => ?_) (fun o => ?_), Option.bind_some]
  · unfold Jh; simp only [Cb hi, cond_true, An]; rw [Ae (De hi)]
    cases hb : (l.getD i default).Block == x with
    | true =>
      rw [cond_true, Ae (by simp only [List.length_singleton]; omega), if_pos rfl, Option.bind_some, w1 (by omega)]
    | false =>
      rw [cond_false, if_neg (by simp), Option.bind_some, w1 (by omega), List.append_nil]
  · unfold Jh; simp only [Dh, cond_false]
theorem m_index_fn (l : List Int) (w : List Bool) (hl : l.length ≤ 64) (hin : ∀ x ∈ l, 0 ≤ x ∧ x < (w.length : Int)) : ∃ r : Int, Di l w = some (r, w) ∧ (decide (0 ≤ r) = l.any fun p => w.getD p.toNat false) := by
  have key : ∀ (k i : Nat), i + k = l.length → (∀ j, j < i → w.getD (l.getD j 0).toNat false = false) → ∃ x, Aw (Bx l) ((i : Int), w) = some x ∧
      ((x = .inl w ∧ ∀ j, j < l.length → w.getD (l.getD j 0).toNat false = false) ∨ ∃ r, r < l.length ∧ x = .inr ((r : Int), w) ∧ w.getD (l.getD r 0).toNat false = true) := by
    intro k
    induction k with
    | zero =>
      intro i hi h
      obtain rfl : i = l.length := by omega
      refine ⟨.inl w, A6 ?_, .inl ⟨rfl, h⟩⟩; unfold Bx; simp only [Dh, cond_false]
    | succ k ih =>
      intro i hi h
      have hil : i < l.length := by omega
      have hx := hin _ (Hj (d := 0) hil)
      have hc : F6 (l.getD i 0) w = some (w.getD (l.getD i 0).toNat false, w) := by
        unfold F6; rw [Ae (inbz hx.1 hx.2)]
      cases hb : w.getD (l.getD i 0).toNat false with
      | true =>
        refine ⟨.inr ((i : Int), w), A6 ?_, .inr ⟨i, hil, rfl, hb⟩⟩; unfold Bx; simp only [Cb hil, cond_true, An]; rw [Ae (De hil), hc, Option.bind_some]; simp only [hb, cond_true]
      | false =>
        obtain ⟨x, e1, e2⟩ := ih (i + 1) (by omega) (fun j hj => by
          by_cases e : j = i
          · subst e; exact hb
          · exact h j (by omega))
        refine ⟨x, ?_, e2⟩; rw [Bf (s' := (((i + 1 : Nat) : Int), w)) ?_]
        · exact e1
        · unfold Bx; simp only [Cb hil, cond_true, An]; rw [Ae (De hil), hc, Option.bind_some]; simp only [hb, cond_false]; rw [w1 (by omega)]
  obtain ⟨x, e1, e2⟩ := key l.length 0 (by omega) (fun j hj => absurd hj (Nat.not_lt_zero _)); unfold Di; have e1' : Aw (Bx l) ((0 : Int), w) = some x := e1; rw [e1', Option.bind_some]; rcases e2 with ⟨rfl, h⟩ | ⟨r, hr, rfl, h⟩
  · refine ⟨-1, rfl, ?_⟩
    have : (l.any fun p => w.getD p.toNat false) = false := by
      rw [List.any_eq_false]; intro p hp; obtain ⟨j, hj, rfl⟩ := List.mem_iff_getElem.1 hp; have := h j hj; rw [As _ _ _ hj] at this; rw [this]; simp
    rw [this]; rfl
  · refine ⟨(r : Int), rfl, ?_⟩; have : (l.any fun p => w.getD p.toNat false) = true := List.any_eq_true.2 ⟨_, Hj (d := 0) hr, h⟩; rw [this]; simp
theorem m_contains (l : List Int) (w : List Bool) (hl : l.length ≤ 64) (hin : ∀ x ∈ l, 0 ≤ x ∧ x < (w.length : Int)) : C3 l w = some (l.any fun p => w.getD p.toNat false, w) := by
  obtain ⟨r, h1, h2⟩ := m_index_fn l w hl hin; unfold C3; rw [h1, Option.bind_some]; simp only [h2]
section
variable {L : List (List Int)} (hm : Ec L = true)
include hm
theorem fr_L1 (x : Int) : Aw (Dt x (Hk L 0)) ((0 : Int), List.replicate ((((Hk L 0).length : Int)).toNat) false) = some ((List.range L.length).map fun i : Nat => Ig (Hk L 0) x (i : Int)) := by
  have h64 := (mayS_iff.1 hm).2.1; rw [An, Hc]
  have e0 : List.replicate L.length false = (List.range L.length).map fun j : Nat => if j < 0 then Ig (Hk L 0) x (j : Int) else false := by
    refine List.ext_getElem (by simp) fun i g1 g2 => by simp
  have e1 : ((List.range L.length).map fun i : Nat => Ig (Hk L 0) x (i : Int)) = (List.range L.length).map fun j : Nat => if j < L.length then Ig (Hk L 0) x (j : Int) else false := Dp fun i hi => by rw [if_pos hi]
  rw [e0, e1]; refine Cy (Dt x (Hk L 0)) (fun i => (((i : Nat) : Int), (List.range L.length).map fun j : Nat => if j < i then Ig (Hk L 0) x (j : Int) else false)) _ L.length (fun i hi => ?_) ?_
  · show Dt x (Hk L 0) ((i : Int), _) = _
    unfold Dt; simp only [An, Hc, List.length_replicate, Cb hi, cond_true]; rw [Yk (by rw [Hc]; omega), Option.bind_some, Ae (De (by simpa using hi)), w1 (by omega), Jm]
    congr 3
    refine Dp fun j hj => ?_
    by_cases e : j = i
    · subst e; rw [if_pos rfl, if_pos (by omega)]
    · rw [if_neg e]
      by_cases e2 : j < i
      · rw [if_pos e2, if_pos (by omega)]
      · rw [if_neg e2, if_neg (by omega)]
  · show Dt x (Hk L 0) ((L.length : Int), _) = _
    unfold Dt; simp only [An, Hc, List.length_replicate, Dh, cond_false]
theorem over_B {x i : Nat} (hx : x < L.length) (hi : i < L.length) : Ig (Hk L 0) (x : Int) (i : Int) = Ez L 0 x i := by
  have h1 := (mayS_iff.1 hm).1; obtain ⟨P, _, o, d⟩ := Xs hm (r := 0) (by omega); rw [Bool.eq_iff_iff, d.over_dom o hx hi, Rd hm (by omega) hi]
theorem fr_L2 {x : Nat} (hx : x < L.length) : Aw (Dd (gOf L) (x : Int)) (([] : List Int), (0 : Int), (List.range L.length).map fun i => Ez L 0 x i) = some (frontL L x) := by
  have hroom : (1000 : Nat) ≤ room := by decide
  have h64 := (mayS_iff.1 hm).2.1; have hg : (gOf L).Pred = Bk L := rfl; refine Cy (Dd (gOf L) (x : Int)) (fun i => (((List.range i).filter (Fo L x)).map Int.ofNat, ((i : Nat) : Int), (List.range L.length).map fun i => Ez L 0 x i)) _ L.length (fun i hi => ?_) ?_
  · show Dd (gOf L) (x : Int) (_, (i : Int), _) = _
    have hfl : (((List.range i).filter (Fo L x)).map Int.ofNat).length ≤ 64 := by
      have := List.length_filter_le (Fo L x) (List.range i); simp only [List.length_map, List.length_range] at this ⊢; omega
    have hpl : (Eb L L.length i).length ≤ 64 := Nat.le_trans (Km ..) h64
    have hin : ∀ y ∈ Eb L L.length i, 0 ≤ y ∧ y < ((((List.range L.length).map fun i => Ez L 0 x i).length : Nat) : Int) := fun y hy => by
      unfold Eb at hy; obtain ⟨k, hk, rfl⟩ := List.mem_map.1 hy; have := List.mem_range.1 (List.mem_filter.1 hk).1; simp only [List.length_map, List.length_range, Int.ofNat_eq_natCast]; omega
    have hany : ((Eb L L.length i).any fun p => ((List.range L.length).map fun i => Ez L 0 x i).getD p.toNat false) = (List.range L.length).any fun a => F9 L a i && Ez L 0 x a := by
      rw [Bool.eq_iff_iff, List.any_eq_true, List.any_eq_true]; unfold Eb
      constructor
      · rintro ⟨p, hp, h⟩; obtain ⟨k, hk, rfl⟩ := List.mem_map.1 hp; obtain ⟨hk1, hk2⟩ := List.mem_filter.1 hk; refine ⟨k, hk1, ?_⟩; rw [show (Int.ofNat k).toNat = k from rfl, Ht (List.mem_range.1 hk1)] at h; rw [hk2, h]; rfl
      · rintro ⟨k, hk1, h⟩; rw [Bool.and_eq_true] at h; refine ⟨Int.ofNat k, List.mem_map.2 ⟨k, List.mem_filter.2 ⟨hk1, h.1⟩, rfl⟩, ?_⟩; rw [show (Int.ofNat k).toNat = k from rfl, Ht (List.mem_range.1 hk1)]; exact h.2
    have hcf := m_contains _ _ hpl hin; rw [hany] at hcf; have hfr : Fo L x i = (((List.range L.length).any fun a => F9 L a i && Ez L 0 x a) && (decide (i = x) || !Ez L 0 x i)) := rfl; unfold Dd; simp only [hg, Dg, Cb hi, cond_true, An, T6, Ht hi, H3 hi]; rw [Ae (De hi), Ae (fun _ => De (by simpa using hi))]; rw [List.range_succ, List.filter_append, List.map_append]
    cases hA : decide (i = x) with
    | true =>
      rw [hA] at hfr; simp only [cond_true, beq_self_eq_true, hcf, Option.bind_some]
      cases hB : ((List.range L.length).any fun a => F9 L a i && Ez L 0 x a) with
      | true =>
        rw [hB] at hfr
        have : Fo L x i = true := by rw [hfr]; rfl
        rw [cond_true, Ae (by simp only [List.length_singleton]; omega), Option.bind_some]; simp only [w1 (show i < 4611686018427387904 by omega)]; simp [this]
      | false =>
        rw [hB] at hfr
        have : Fo L x i = false := by rw [hfr]; rfl
        rw [cond_false, Option.bind_some]; simp only [w1 (show i < 4611686018427387904 by omega)]; simp [this]
    | false =>
      rw [hA] at hfr
      cases hO : Ez L 0 x i with
      | true =>
        rw [hO] at hfr
        have : Fo L x i = false := by rw [hfr]; simp
        simp only [cond_false, Bool.not_true, show (false == true) = false from rfl, Option.bind_some]; simp only [w1 (show i < 4611686018427387904 by omega)]; simp [this]
      | false =>
        rw [hO] at hfr; simp only [cond_false, Bool.not_false, beq_self_eq_true, cond_true, hcf, Option.bind_some]
        cases hB : ((List.range L.length).any fun a => F9 L a i && Ez L 0 x a) with
        | true =>
          rw [hB] at hfr
          have : Fo L x i = true := by rw [hfr]; rfl
          rw [cond_true, Ae (by simp only [List.length_singleton]; omega), Option.bind_some]; simp only [w1 (show i < 4611686018427387904 by omega)]; simp [this]
        | false =>
          rw [hB] at hfr
          have : Fo L x i = false := by rw [hfr]; rfl
          rw [cond_false, Option.bind_some]; simp only [w1 (show i < 4611686018427387904 by omega)]; simp [this]
  · show Dd (gOf L) (x : Int) (_, (L.length : Int), _) = _
    unfold Dd; simp only [hg, Dg, Dh, cond_false]
    rfl
end
theorem overD_nil (a b : Int) : Ig [] a b = false := by
  unfold Ig; rw [R6 (by simp [M5])]
  by_cases h : a = -2
  · subst h; decide
  · simp [Ne.symm h]
theorem overD_out {t : List Int} {a b : Int} (h : ¬ (0 ≤ a ∧ a < (t.length : Int))) : Ig t a b = false := by
  unfold Ig
  have hb : M5 t a = false := by
    unfold M5
    by_cases h0 : 0 ≤ a
    · have : ¬ a < (t.length : Int) := fun h1 => h ⟨h0, h1⟩; simp [this]
    · simp [h0]
  rw [R6 (by rw [hb]; simp)]
  simp
theorem m_Front (g : TGraph) (x : Int) (h1 : Fits g.Succ) (h2 : Fits g.Pred) : E3 g x = some (Nh g x) := by
  have hroom : (1000 : Nat) ≤ room := by decide
  unfold E3 Nh; rw [m_Tree g 0 h1 h2, Option.bind_some]; unfold Abn
  by_cases hG : Hn g = true
  · obtain ⟨hm, hg⟩ := J4 hG; obtain ⟨hL1, h64, _⟩ := mayS_iff.1 hm; rw [if_pos ⟨hG, by omega, by omega⟩, show (0 : Int).toNat = 0 from rfl, Yk (by rw [Hc]; omega), Option.bind_some]
    by_cases hx : 0 ≤ x ∧ x < (g.Succ.length : Int)
    · obtain ⟨x, rfl⟩ : ∃ y : Nat, x = (y : Int) := ⟨x.toNat, by omega⟩
      have hxl : x < g.Succ.length := by omega
      rw [over_B hm hxl hxl]
      have hxx : Ez g.Succ 0 x x = (Gd g.Succ 0 (-1)).getD x false := by
        rw [Bool.eq_iff_iff, Rd hm (by omega) hxl, M9 hm (by omega)]; exact ⟨fun h => h.1, fun h => ⟨h, fun k => k.ne rfl⟩⟩
      rw [hxx]
      cases hr : (Gd g.Succ 0 (-1)).getD x false with
      | false => rw [if_neg (fun h => by rw [An, hr] at h; cases h.2.2.2)]; rfl
      | true =>
        rw [if_pos ⟨hG, by omega, by omega, by rw [An]; exact hr⟩]; simp only [Bool.not_true, cond_false]; rw [Ae ⟨by omega, Int.le_refl _, by rw [Hc]; omega⟩, fr_L1 hm, Option.bind_some]; have e : ((List.range g.Succ.length).map fun i : Nat => Ig (Hk g.Succ 0) (x : Int) (i : Int)) = (List.range g.Succ.length).map fun i => Ez g.Succ 0 x i := Dp fun i hi => over_B hm hxl hi; rw [e, hg]
        show Option.bind (Aw (Dd (gOf g.Succ) (x : Int)) _) _ = _
        rw [show (gOf g.Succ).Succ = g.Succ from rfl, fr_L2 hm hxl]
        rfl
    · rw [overD_out (by rw [Hc]; exact hx), if_neg (fun h => hx ⟨h.2.1, h.2.2.1⟩)]
      rfl
  · rw [if_neg (fun h => hG h.1), if_neg (fun h => hG h.1), Yk (by simp), Option.bind_some, overD_nil]
    rfl
theorem facts9 : Facts9 := ⟨m_All, m_Of, m_Front, m_Tree, fun t a b h => Yk (by omega) a b⟩
end
end Go.Proofs.Ytjdddniaokcgnaa

namespace Go.Proofs.Ytjdddniaokcgnaa
noncomputable section
open Go Go.RowKit
end
end Go.Proofs.Ytjdddniaokcgnaa

namespace Go.Proofs.Ytjdddniaokcgnaa
noncomputable section
open Go Go.RowKit
set_option linter.unusedVariables false
abbrev Iall (w : World) : Nat → Nat → Prop := fun b o => ∃ u, w.cell? ⟨b, o, none⟩ = some u
structure CRep (w : World) (cs : List Value) (avs : List AV) : Prop where
  len : cs.length = avs.length
  one : ∀ j, j < avs.length → (cs.getD j undef).oneCell' = true
  rep : ∀ j, j < avs.length → RepV (Iall w) w (cs.getD j undef) (avs.getD j .any)
structure Vk (P : Program) (t : TypeId) {α : Type} (e : α → List AV) (ok : α → Prop) : Prop where
  get : ∀ {H : Type} {enc : TypeId × Value → H} {w : World} {base : Nat} {spare : Nat → Bool} {held : Bool} {fuel : Nat} {cs : List Value} {x : DataW H × List MemPlace},
    DataW.trod enc P w base spare held fuel t cs = some x → ∃ a, ok a ∧ CRep w cs (e a)
theorem Vf {w : World} {v : Value} {x : AV} (h1 : v.oneCell' = true) (h : RepV (Iall w) w v x) : CRep w [v] [x] :=
  ⟨rfl, fun j hj => (by
      have hj0 : j = 0 := by simpa using hj
      subst hj0
      exact h1), fun j hj => (by
      have hj0 : j = 0 := by simpa using hj
      subst hj0
      exact h)⟩
theorem opens_int {P : Program} {t : TypeId} {k : IntKind} {e : Int → List AV} (ht : P.underlying t = some (.int k)) (he : ∀ n, e n = [.int k n]) : Vk P t e (fun n => (Lit.int k n).wf = true) := by
  refine ⟨?_⟩; intro H enc w base spare held fuel cs x h; obtain ⟨n, rfl, rfl, hw⟩ := DataW.trod_int ht h; exact ⟨n, hw, by rw [he]; exact Vf rfl (.int _ _)⟩
theorem cells?_get {w : World} {base : Nat} {a : Addr} {n : Nat} {cs : List Value} (h : w.cells? base a n = some cs) : cs.length = n ∧ ∀ i, i < n → w.cell? (a.add i) = some (cs.getD i undef) := by
  unfold World.cells? at h
  split at h
  · have hl := mapM_some_length h; simp at hl; refine ⟨hl, fun i hi => ?_⟩; have := mapM_some_get h i i (by simp [hi]); rw [this]; simp [List.getD, show i < cs.length by omega]
  · cases h
theorem Sr {P : Program} {t el : TypeId} {α : Type} {e : α → List AV} {ok : α → Prop} {sz : Nat} {d : α} {e' : List α → List AV} (ht : P.underlying t = some (.slice el)) (hs : P.cellsOf el = sz) (h1 : 1 ≤ sz) (he : Vk P el e ok) (hlen : ∀ a, (e a).length = sz)
    (he' : ∀ l, e' l = [AV.list sz e d l .none]) : Vk P t e' (fun l => (∀ a ∈ l, ok a) ∧ l.length ≤ maxLen) := by
  refine ⟨?_⟩; intro H enc w base spare held fuel cs x h; rcases DataW.trod_slice ht h with ⟨rfl, rfl⟩ | ⟨a, len, cap, elems, rest, n, _, rfl, rfl, hb, hl, hm, hlen2, hel, _⟩
  · exact ⟨[], ⟨by simp, by simp⟩, by rw [he']; exact Vf rfl (.slice none 0 0 sz _ (fun _ => undef) (Nat.le_refl _) (by simp) (fun h => by simp at h) (fun _ => rfl) (fun j hj => by simp at hj) (fun i hi => by simp at hi) (fun i c hi => by simp at hi))⟩
  · have each : ∀ i : Fin len, ∃ b, ok b ∧ ∃ cs, w.cells? base (a.add (i.1 * sz)) sz = some cs ∧ CRep w cs (e b) := fun ⟨i, hi⟩ => by
      have := hel i hi; rw [hs, List.getElem?_eq_getElem (by omega), Option.bind_eq_some_iff] at this; obtain ⟨cs, hcs, htr⟩ := this; obtain ⟨b, hb, hr⟩ := he.get htr; exact ⟨b, hb, cs, hcs, hr⟩
    let f : Fin len → α := fun i => (each i).choose
    have hf : ∀ i, ok (f i) ∧ ∃ cs, w.cells? base (a.add (i.1 * sz)) sz = some cs ∧ CRep w cs (e (f i)) := fun i => (each i).choose_spec
    have hlf : (List.ofFn f).length = len := by simp
    refine ⟨List.ofFn f, ⟨fun b hb => ?_, by simp; omega⟩, ?_⟩
    · obtain ⟨i, rfl⟩ := List.mem_ofFn.1 hb; exact (hf i).1
    rw [he']; refine Vf rfl ?_
    have hcell0 : ∀ i (hi : i < len), ∀ c, c < sz → ∃ u, w.cell? ((a.add (i * sz)).add c) = some u ∧ u.oneCell' = true ∧ RepV (Iall w) w u ((e (f ⟨i, hi⟩)).getD c .any) := fun i hi c hc => by
      obtain ⟨_, cs, hcs, hr⟩ := hf ⟨i, hi⟩; obtain ⟨hl, hg⟩ := cells?_get hcs; exact ⟨_, hg c hc, hr.one c (by rw [hlen]; exact hc), hr.rep c (by rw [hlen]; exact hc)⟩
    have hspot : 0 < len → a.spot = none := fun hp => by
      obtain ⟨u, hu, _⟩ := hcell0 0 hp 0 h1; have h2 := World.cell?_spot hu
      simpa [Addr.add] using h2
    have hcell : ∀ i (hi : i < len), ∀ c, c < sz → ∃ u, w.cell? ⟨a.block, a.off + (i * sz + c), none⟩ = some u ∧ u.oneCell' = true ∧ RepV (Iall w) w u ((e (f ⟨i, hi⟩)).getD c .any) := fun i hi c hc => by
      obtain ⟨u, hu, h1, h2⟩ := hcell0 i hi c hc; have hsp := hspot (by omega); rw [G2 hsp, Addr.add_lit] at hu; exact ⟨u, by rw [← Nat.add_assoc]; exact hu, h1, h2⟩
    have hdm : ∀ j, j < len * sz → ∃ i c, i < len ∧ c < sz ∧ j = i * sz + c := fun j hj => by
      refine ⟨j / sz, j % sz, (Nat.div_lt_iff_lt_mul (by omega)).2 hj, Nat.mod_lt _ (by omega), ?_⟩; rw [Nat.mul_comm]; exact (Nat.div_add_mod j sz).symm
    unfold AV.list; rw [hlf]; refine .slice (some a) len cap sz _ (fun j => (w.cell? ⟨a.block, a.off + j, none⟩).getD undef) hl hm (fun hp => ⟨a, rfl, hspot hp, fun j hj => ?_, fun j hj => ?_⟩) (fun h => by cases h) (fun j hj => ?_) (fun i hi => hlen _) (fun i c hi hc => ?_)
    · obtain ⟨i, c, hi, hc, rfl⟩ := hdm j hj; obtain ⟨u, hu, _⟩ := hcell i hi c hc; exact ⟨u, hu⟩
    · obtain ⟨i, c, hi, hc, rfl⟩ := hdm j hj; obtain ⟨u, hu, _⟩ := hcell i hi c hc; rw [hu]; rfl
    · obtain ⟨i, c, hi, hc, rfl⟩ := hdm j hj; obtain ⟨u, hu, h1, _⟩ := hcell i hi c hc; simp only [hu]; exact h1
    · obtain ⟨u, hu, _, h2⟩ := hcell i hi c hc
      have e1 : (List.ofFn f).getD i d = f ⟨i, hi⟩ := by simp [List.getD, hi]
      rw [e1, hu]; exact h2
structure OpensF (P : Program) (fs : List Field) (off N : Nat) {α : Type} (e : α → List AV) (ok : α → Prop) : Prop where
  get : ∀ {H : Type} {enc : TypeId × Value → H} {w : World} {base : Nat} {spare : Nat → Bool} {held : Bool} {n : Nat} {cs : List Value}, cs.length = N →
    (∀ f ∈ fs, ∃ x, DataW.trod enc P w base spare held n f.type ((cs.drop f.offset).take (P.cellsOf f.type)) = some x) → ∃ a, ok a ∧ CRep w (cs.drop off) (e a)
theorem arg_one {P : Program} {t : TypeId} {α : Type} {e : α → List AV} {ok : α → Prop} (h : Vk P t e ok) {x : α → AV} (he : ∀ a, e a = [x a]) {H : Type} {enc : TypeId × Value → H} {w : World} {base : Nat} {spare : Nat → Bool} {held : Bool} {v : Value} {d : DataW H} {ps : List MemPlace}
    (hv : v.cells = #[v]) (hd : DataW.Trod enc P w base spare held t v d ps) : ∃ a, ok a ∧ RepV (Iall w) w v (x a) := by
  obtain ⟨fuel, hf⟩ := hd; obtain ⟨a, ha, hr⟩ := h.get hf; refine ⟨a, ha, ?_⟩; have := hr.rep 0 (by simp [he])
  simpa [hv, he] using this
end
end Go.Proofs.Ytjdddniaokcgnaa

namespace Go.Proofs.Ytjdddniaokcgnaa
noncomputable section
open Go Go.RowKit
def okI64 (n : Int) : Prop := (Lit.int .i64 n).wf = true
theorem op_3 : Vk Try.prog 3 Ad okI64 := opens_int Try.underlying3 (fun _ => rfl)
def okLI64 (l : List (Int)) : Prop := (∀ a ∈ l, okI64 a) ∧ l.length ≤ maxLen
theorem op_31 : Vk Try.prog 31 eLI64 okLI64 := Sr (d := (0 : Int)) Try.underlying31 (by kernel_rfl) (by decide) op_3 (fun _ => rfl) (fun _ => rfl)
def okLLI64 (l : List (List (Int))) : Prop := (∀ a ∈ l, okLI64 a) ∧ l.length ≤ maxLen
theorem op_22 : Vk Try.prog 22 eLLI64 okLLI64 := Sr (d := []) Try.underlying22 (by kernel_rfl) (by decide) op_31 (fun _ => rfl) (fun _ => rfl)
end
end Go.Proofs.Ytjdddniaokcgnaa
