/-
  The machine, the program's functions and the laws' arithmetic: part 6 of 6.
-/
import Derived.Test.YtjpacggpipflcaaPk5
import Derived.OpenShut
import Derived.ShutString
set_option linter.unusedVariables false
set_option linter.unusedSimpArgs false
namespace Go.Proofs.Ytjpacggpipflcaa
noncomputable section
open Go Go.RowKit
set_option linter.unusedVariables false
set_option linter.unusedSimpArgs false
section
variable {S : Nat → List Nat} {s s' : Nat → Bool} {l o : List Nat}
theorem VL.before (h : VL S s l s' o) : ∀ A z B, o = A ++ z :: B → z ∈ l ∨ ∃ p ∈ B, z ∈ S p := by
  induction h with
  | nil s => intro A z B e; simp at e
  | skip h _ ih =>
    intro A z B e; rcases ih A z B e with h1 | h1
    · exact .inl (List.mem_cons_of_mem _ h1)
    · exact .inr h1
  | @step s s1 s2 y l o1 o2 h a b iha ihb =>
    intro A z B e; rcases List.append_eq_append_iff.1 e with ⟨C, hC1, hC2⟩ | ⟨C, hC1, hC2⟩
    ·
      cases C with
      | nil =>
        simp at hC2; obtain ⟨rfl, rfl⟩ := hC2; exact .inl (List.mem_cons_self ..)
      | cons c C =>
        simp at hC2; obtain ⟨rfl, hC2⟩ := hC2; rcases ihb C z B hC2 with h1 | h1
        · exact .inl (List.mem_cons_of_mem _ h1)
        · exact .inr h1
    · cases C with
      | nil =>
        simp at hC2; obtain ⟨rfl, rfl⟩ := hC2; exact .inl (List.mem_cons_self ..)
      | cons c C =>
        simp at hC2; obtain ⟨rfl, rfl⟩ := hC2; rcases iha A z C hC1 with h1 | ⟨p, hp, hz⟩
        · exact .inr ⟨y, by simp, h1⟩
        · exact .inr ⟨p, by simp [hp], hz⟩
theorem Ord.ordered {n r : Nat} {L : List Nat} (hr : r < n) (hS : ∀ x, x < n → ∀ w ∈ S x, w < n) (h : Ord S r L) : ∃ P, L = r :: P ∧ Ordered S r n P := by
  have h1 := h.nodup; have h2 := h.mem; obtain ⟨s', o, hv, rfl⟩ := h; refine ⟨o.reverse, rfl, hr, hS, h1, fun x => by rw [h2 x, rc_iff], fun i hi => ?_⟩
  have hi' : i < o.length := by simpa using hi
  have e : o.reverse = o.reverse.take i ++ o.reverse[i] :: o.reverse.drop (i + 1) := by rw [← List.drop_eq_getElem_cons hi, List.take_append_drop]
  have e2 : o = (o.reverse.drop (i + 1)).reverse ++ o.reverse[i] :: (o.reverse.take i).reverse := by
    have := congrArg List.reverse e; rw [List.reverse_reverse] at this; rw [List.reverse_append, List.reverse_cons] at this
    simpa using this
  rw [Ag _ _ _ hi]; rcases hv.before _ _ _ e2 with h3 | ⟨p, hp, hz⟩
  · exact ⟨r, List.mem_cons_self .., h3⟩
  · exact ⟨p, List.mem_cons_of_mem _ (List.mem_reverse.1 hp), hz⟩
end
def Zd (S : Nat → List Nat) (w : Int) : Nat → List Nat := fun x => (S x).filter fun y => decide ((y : Int) ≠ w)
theorem woI_none (S : Nat → List Nat) : Zd S (-1) = S := by
  funext x
  unfold Zd; exact List.filter_eq_self.2 fun y _ => decide_eq_true (by omega)
theorem woI_nat (S : Nat → List Nat) (z : Nat) : Zd S (z : Int) = wo S z := by
  funext x
  unfold Zd wo
  congr 1
  funext y
  exact decide_eq_decide.2 ⟨fun h e => h (by rw [e]), fun h e => h (Int.ofNat.inj e)⟩
def Ga (L : List (List Int)) (r : Nat) (w : Int) : List Bool := if (r : Int) = w then List.replicate L.length false else R4 (Zd (sN L) w) L.length ((List.replicate L.length false).set r true) L.length
theorem Sv (L : List (List Int)) (r : Nat) (w : Int) : (Ga L r w).length = L.length := by
  unfold Ga
  split
  · simp
  · rw [Qp]; simp
theorem Xx {L : List (List Int)} (hm : Ez L = true) {r : Nat} (hr : r < L.length) (w : Int) :
    Da (Gt L) (r : Int) w = some (Ga L r w) := by
  obtain ⟨h1, h2, h3⟩ := mayS_iff.1 hm
  have hroom : (1000 : Nat) ≤ room := by decide
  have hS := I5 hm; have hSw : ∀ z, z < L.length → ∀ y ∈ Zd (sN L) w z, y < L.length := fun z hz y hy => hS z hz y (List.mem_filter.1 hy).1; have hgs : (Gt L).Succ = L := rfl
  have hlenS : ∀ a, (sN L a).length = (L.getD a []).length := fun a => by simp [sN]
  let fl : List Nat → List Nat := fun l => l.filter fun y => decide ((y : Int) ≠ w)
  have hin : ∀ (o : List Bool) (i : Nat), o.length = L.length → i < L.length → At (Bp (Gt L) w (i : Int)) ((0 : Int), o) = some (if o.getD i false = true then mk o (Zd (sN L) w i) else o) := fun o i ho hi => by
    have hb := Jg (h3 i hi)
    by_cases hoi : o.getD i false = true
    · rw [if_pos hoi]; have hmi : ∀ k, (mk o (fl ((sN L i).take k))).getD i false = true := fun k => (mk_at (n := L.length) _ _ ho (fun y hy => hS i hi y (List.mem_of_mem_take (List.mem_filter.1 hy).1)) i).2 (.inl hoi)
      have hml : ∀ k, (mk o (fl ((sN L i).take k))).length = L.length := fun k => by rw [mk_len, ho]
      refine Dc (Bp (Gt L) w (i : Int)) (fun k => (((k : Nat) : Int), mk o (fl ((sN L i).take k)))) _ (L.getD i []).length (fun k hk => ?_) ?_
      · show Bp (Gt L) w (i : Int) (_, _) = _
        unfold Bp; obtain ⟨a0, a1⟩ := Nw (h3 i hi) hk; simp only [hgs, Aq, hmi]; rw [Ac (Dn (by rw [hml]; exact hi)), Mp (Dn hi), cond_true, Cs hk, cond_true, Ac (Dn hi), Ac (Dn hk)]
        have hk' : k < (sN L i).length := by rw [hlenS]; exact hk
        have hsk : (sN L i)[k] = ((L.getD i []).getD k 0).toNat := by rw [Ag _ _ _ hk]; simp [sN]
        have hski : (((sN L i)[k] : Nat) : Int) = (L.getD i []).getD k 0 := by rw [hsk]; exact Int.toNat_of_nonneg a0
        have e : mk o (fl ((sN L i).take (k + 1))) = if (L.getD i []).getD k 0 = w then mk o (fl ((sN L i).take k)) else (mk o (fl ((sN L i).take k))).set ((L.getD i []).getD k 0).toNat true := by
          rw [List.take_succ_eq_append_getElem hk']
          show mk o (List.filter _ (_ ++ [_])) = _
          rw [List.filter_append]
          by_cases hw : (L.getD i []).getD k 0 = w
          · rw [if_pos hw]
            have : List.filter (fun y : Nat => decide ((y : Int) ≠ w)) [(sN L i)[k]] = [] := by rw [List.filter_cons, hski, hw]; simp
            rw [this, List.append_nil]
          · rw [if_neg hw]
            have : List.filter (fun y : Nat => decide ((y : Int) ≠ w)) [(sN L i)[k]] = [(sN L i)[k]] := by rw [List.filter_cons, hski, if_pos (decide_eq_true hw)]; rfl
            rw [this]; unfold mk; rw [List.foldl_append, hsk]
            rfl
        by_cases hw : (L.getD i []).getD k 0 = w
        · have hne : ((L.getD i []).getD k 0 != w) = false := by rw [hw]; simp
          rw [hne, cond_false, Option.bind_some, w1 (by omega), e, if_pos hw]
        · have hne : ((L.getD i []).getD k 0 != w) = true := by rw [bne_iff_ne]; exact hw
          rw [hne, cond_true, Ac (Dn hi), Ac (Dn hk), Ac ⟨a0, by rw [hml]; exact a1⟩, w1 (by omega), e, if_neg hw]
          rfl
      · show Bp (Gt L) w (i : Int) (_, _) = _
        unfold Bp; simp only [hgs, Aq, hmi]; rw [Ac (Dn (by rw [hml]; exact hi)), Mp (Dn hi), cond_true, Ee, cond_false]
        have : (sN L i).take (L.getD i []).length = sN L i := by rw [← hlenS]; exact List.take_length ..
        rw [this]
        rfl
    · have hof : o.getD i false = false := by simpa using hoi
      rw [if_neg hoi]
      apply A6
      unfold Bp; simp only [hgs, Aq, hof]; rw [Ac (Dn (by rw [ho]; exact hi)), Mp (Dn hi), cond_false, cond_false]
  have hsw : ∀ o : List Bool, o.length = L.length → At (B0 (Gt L) w) ((0 : Int), o) = some (sw (Zd (sN L) w) o L.length) := fun o ho => by
    refine Dc (B0 (Gt L) w) (fun i => (((i : Nat) : Int), sw (Zd (sN L) w) o i)) _ L.length (fun i hi => ?_) ?_
    · show B0 (Gt L) w (_, _) = _
      unfold B0
      have hl : (sw (Zd (sN L) w) o i).length = L.length := by rw [Lv, ho]
      simp only [hl, Cs hi, cond_true]; rw [hin _ i hl hi, w1 (by omega)]
      rfl
    · show B0 (Gt L) w (_, _) = _
      unfold B0
      have hl : (sw (Zd (sN L) w) o L.length).length = L.length := by rw [Lv, ho]
      simp only [hl, Ee, cond_false]
  unfold Da; simp only [hgs, Aq]; rw [Ac ⟨by omega, Int.le_refl _, by omega⟩]; unfold Ga
  by_cases hrw : (r : Int) = w
  · rw [if_pos hrw]
    have : ((r : Int) == w) = true := by simpa using hrw
    rw [this, cond_true]
  · rw [if_neg hrw]
    have hne : ((r : Int) == w) = false := by rw [beq_eq_false_iff_ne]; exact hrw
    rw [hne, cond_false, Ac (Dn (by simpa using hr))]
    have hl0 : ((List.replicate L.length false).set r true).length = L.length := by simp
    have : At (Bz (Gt L) w) ((0 : Int), (List.replicate L.length false).set r true) = some (R4 (Zd (sN L) w) L.length ((List.replicate L.length false).set r true) L.length) := by
      refine Dc (Bz (Gt L) w) (fun j => (((j : Nat) : Int), R4 (Zd (sN L) w) L.length ((List.replicate L.length false).set r true) j)) _ L.length (fun j hj => ?_) ?_
      · show Bz (Gt L) w (_, _) = _
        unfold Bz
        have hl : (R4 (Zd (sN L) w) L.length ((List.replicate L.length false).set r true) j).length = L.length := by rw [Qp, hl0]
        simp only [hl, Cs hj, cond_true]; rw [hsw _ hl, w1 (by omega)]
        rfl
      · show Bz (Gt L) w (_, _) = _
        unfold Bz
        have hl : (R4 (Zd (sN L) w) L.length ((List.replicate L.length false).set r true) L.length).length = L.length := by rw [Qp, hl0]
        simp only [hl, Ee, cond_false]
    rw [this]
    rfl
theorem G7 {L : List (List Int)} (hm : Ez L = true) {r : Nat} (hr : r < L.length) {b : Nat} : (Ga L r (-1)).getD b false = true ↔ Rc (sN L) r b := by
  unfold Ga; rw [if_neg (by omega), woI_none, Xg (I5 hm) hr b, rc_iff]
theorem Ii {L : List (List Int)} (hm : Ez L = true) {r : Nat} (hr : r < L.length) {a b : Nat} (hb : b < L.length) : (Ga L r (a : Int)).getD b false = true ↔ Av (sN L) r a b := by
  unfold Ga; rw [av_iff]
  by_cases h : r = a
  · subst h; rw [if_pos rfl, Gh]
    simp
  · rw [if_neg (by omega), woI_nat, Xg (S := wo (sN L) a) (fun z hz y hy => I5 hm z hz y (List.mem_filter.1 hy).1) hr b]; simp [h]
def F8 (L : List (List Int)) (r a b : Nat) : Bool := (Ga L r (-1)).getD b false && !(Ga L r (a : Int)).getD b false
theorem L1 {L : List (List Int)} (hm : Ez L = true) {r a b : Nat} (hr : r < L.length) (hb : b < L.length) : F8 L r a b = true ↔ Rc (sN L) r b ∧ ¬ Av (sN L) r a b := by
  unfold F8; rw [Bool.and_eq_true, Bool.not_eq_true', ← Bool.not_eq_true, G7 hm hr, Ii hm hr hb]
theorem m_ref_over {L : List (List Int)} (hm : Ez L = true) {r a b : Nat} (hr : r < L.length) (hb : b < L.length) : Di (Gt L) (r : Int) (a : Int) (b : Int) = some (F8 L r a b) := by
  unfold Di; rw [Xx hm hr, Option.bind_some]; simp only [Aq]; rw [Ac (Dn (by rw [Sv]; exact hb))]; unfold F8
  cases h : (Ga L r (-1)).getD b false with
  | false => simp only [Bool.false_and]; rw [show (false == true) = false from rfl, cond_false, Option.bind_some, chk_off]; rfl
  | true =>
    rw [show (true == true) = true from rfl, cond_true, Xx hm hr, Option.bind_some, Mp (Dn (by rw [Sv]; exact hb))]
    rfl
def Wn (L : List (List Int)) (r a b : Nat) : Bool := (List.range L.length).all fun c => decide (c = b) || !F8 L r c b || F8 L r c a
def X7 (L : List (List Int)) (r b : Nat) : Nat → Int
  | 0 => -2
  | a + 1 => if a ≠ b ∧ F8 L r a b = true ∧ Wn L r a b = true then (a : Int) else X7 L r b a
def Zv (L : List (List Int)) (r b : Nat) : Int := if b = r then -1 else X7 L r b L.length
def Hy (L : List (List Int)) (r : Nat) : List Int := (List.range L.length).map (Zv L r)
theorem Pl (L : List (List Int)) (r : Nat) : (Hy L r).length = L.length := by simp [Hy]
theorem treeD_at {L : List (List Int)} {r b : Nat} (hb : b < L.length) : (Hy L r).getD b 0 = Zv L r b := by unfold Hy; rw [I9 hb]
theorem pick_cases (L : List (List Int)) (r b : Nat) : ∀ m, (X7 L r b m = -2 ∧ ∀ a, a < m → ¬ (a ≠ b ∧ F8 L r a b = true ∧ Wn L r a b = true)) ∨ ∃ a, a < m ∧ X7 L r b m = (a : Int) ∧ a ≠ b ∧ F8 L r a b = true ∧ Wn L r a b = true := by
  intro m
  induction m with
  | zero => exact .inl ⟨rfl, fun a ha => absurd ha (Nat.not_lt_zero a)⟩
  | succ m ih =>
    unfold X7
    by_cases h : m ≠ b ∧ F8 L r m b = true ∧ Wn L r m b = true
    · rw [if_pos h]; exact .inr ⟨m, by omega, rfl, h⟩
    · rw [if_neg h]; rcases ih with ⟨h1, h2⟩ | ⟨a, h1, h2⟩
      · refine .inl ⟨h1, fun a ha => ?_⟩; rcases Nat.lt_succ_iff_lt_or_eq.1 ha with h3 | rfl
        · exact h2 a h3
        · exact h
      · exact .inr ⟨a, by omega, h2⟩
theorem DomTree.eq {L : List (List Int)} (hm : Ez L = true) {r : Nat} (hr : r < L.length) {P t : List _} (o : Ordered (sN L) r L.length P) (h : DomTree (sN L) r L.length P t) : t = Hy L r := by
  refine List.ext_getElem (by rw [h.len, Pl]) fun b h1 h2 => ?_
  have hb : b < L.length := by rw [← h.len]; exact h1
  rw [← Ag _ _ 0 h1, ← Ag _ _ 0 h2, treeD_at hb]
  show Bf t b = _
  have hov : ∀ a b, b < L.length → Bf t b ≠ -2 → (F8 L r a b = true ↔ UpTo (Bf t) b a) := fun a b hb hp => by
    rw [L1 hm hr hb, h.exact_ b hb hp]; exact ⟨fun k => k.2, fun k => ⟨h.inv.rc b hb hp, k⟩⟩
  unfold Zv
  by_cases hbr : b = r
  · subst hbr; rw [if_pos rfl]; exact h.inv.top
  · rw [if_neg hbr]; rcases h.inv.kind b hb with hk | hk | ⟨z, hz⟩
    ·
      have hn : ¬ Rc (sN L) r b := fun k => h.full b hb k hk; rcases pick_cases L r b L.length with ⟨h3, _⟩ | ⟨a, _, _, _, h6, _⟩
      · rw [hk, h3]
      · exact absurd ((L1 hm hr hb).1 h6).1 hn
    · exact absurd hk hbr
    · obtain ⟨z1, z2, z3, z4⟩ := h.inv.up b hb z hz
      have hp : Bf t b ≠ -2 := by omega
      have hzo : F8 L r z b = true := (hov z b hb hp).2 (.up hz (.refl _))
      have hzb : z ≠ b := by rintro rfl; omega
      have hnear : Wn L r z b = true := all_range.2 fun c hc => by
        by_cases e : c = b
        · simp [e]
        · cases ho : F8 L r c b with
          | false => simp
          | true =>
            have := (hov c b hb hp).1 ho; rcases (anc_up hz).1 this with h3 | h3
            · exact absurd h3 e
            · rw [(hov c z z1 z2).2 h3]; simp
      rcases pick_cases L r b L.length with ⟨_, h3⟩ | ⟨a, h3, h4, h5, h6, h7⟩
      · exact absurd ⟨hzb, hzo, hnear⟩ (h3 z z1)
      · rw [h4, hz]; have haU := (hov a b hb hp).1 h6
        have ha1 : UpTo (Bf t) z a := by
          rcases (anc_up hz).1 haU with h8 | h8
          · exact absurd h8 h5
          · exact h8
        have hap := (h.inv.anc ha1 z1 z2).2.1
        have hza : UpTo (Bf t) a z := by
          have := all_range.1 h7 z z1; simp only [hzo, hzb, decide_false, Bool.not_true, Bool.false_or] at this; exact (hov z a h3 hap).1 this
        rw [h.inv.antisymm ha1 hza z1 z2]
end
end Go.Proofs.Ytjpacggpipflcaa

namespace Go.Proofs.Ytjpacggpipflcaa
noncomputable section
open Go Go.RowKit
set_option linter.unusedVariables false
set_option linter.unusedSimpArgs false
theorem Mk {g : An} (h : H9 g = true) : Ez g.Succ = true ∧ g = Gt g.Succ := by
  unfold H9 at h; rw [Bool.and_eq_true] at h; refine ⟨h.1, ?_⟩; obtain ⟨s, p⟩ := g; have := of_decide_eq_true h.2; simp only at this; unfold Gt; rw [this]
section
variable {L : List (List Int)} (hm : Ez L = true) {r : Nat} (hr : r < L.length)
include hm hr
omit hr in
omit hr in
omit hm hr in
omit hm hr in
omit hm hr in
omit hr in
omit hr in
end
def treeG (g : An) (r : Int) : List Int := if H9 g = true ∧ 0 ≤ r ∧ r < (g.Succ.length : Int) then Hy g.Succ r.toNat else []
end
end Go.Proofs.Ytjpacggpipflcaa

namespace Go.Proofs.Ytjpacggpipflcaa
noncomputable section
open Go Go.RowKit
set_option linter.unusedVariables false
set_option linter.unusedSimpArgs false
def upD (t : List Int) : Nat → Int → Option (List Int)
  | 0, _ => none
  | k + 1, a => if 0 ≤ a ∧ a < (t.length : Int) then (if t.getD a.toNat 0 = -1 then some [a] else (upD t k (t.getD a.toNat 0)).map fun l => a :: l) else none
def E9 (t : List Int) (a : Int) : List Int := (upD t t.length a).getD []
theorem upD_len (t : List Int) : ∀ k a q, upD t k a = some q → q.length ≤ k ∧ 1 ≤ q.length := by
  intro k
  induction k with
  | zero => intro a q h; cases h
  | succ k ih =>
    intro a q h; unfold upD at h
    split at h
    · split at h
      · cases h; simp
      · cases hu : upD t k (t.getD a.toNat 0) with
        | none => rw [hu] at h; cases h
        | some q' => rw [hu] at h; cases h; have := ih _ _ hu; simp; omega
    · cases h
theorem pathD_nil {t : List Int} {a : Int} : E9 t a = [] ↔ upD t t.length a = none := by
  unfold E9
  cases h : upD t t.length a with
  | none => simp
  | some q => have := (upD_len t _ _ _ h).2; simp; intro e; subst e; simp at this
def Of (t : List Int) (k : Nat) : Nat := ((List.range k).filter fun a => decide (t.getD a 0 = -1)).length
def okR (t : List Int) (a : Nat) : Bool := decide (t.getD a 0 = -2) || !decide (E9 t (a : Int) = [])
def Fs (t : List Int) : Bool := (List.range t.length).all (okR t) && decide (Of t t.length = 1)
theorem R3 (t : List Int) (k : Nat) : Of t (k + 1) = Of t k + if t.getD k 0 = -1 then 1 else 0 := by
  unfold Of; rw [List.range_succ, List.filter_append, List.length_append]
  by_cases h : t.getD k 0 = -1
  · rw [if_pos h]
    have : List.filter (fun a => decide (t.getD a 0 = -1)) [k] = [k] := by rw [List.filter_cons, if_pos (decide_eq_true h)]; rfl
    rw [this]; rfl
  · rw [if_neg h]
    have : List.filter (fun a => decide (t.getD a 0 = -1)) [k] = [] := by rw [List.filter_cons, if_neg (by simpa using h)]; rfl
    rw [this]; rfl
def J0 (t : List Int) (a b : Int) : Int := if Fs t = true then ((E9 t a).find? fun x => (E9 t b).contains x).getD (-2) else -2
def Uz (t : List Int) (a b : Int) : Bool := J0 t a b == a && J0 t a b != -2
theorem filt_succ (p : Nat → Bool) (k : Nat) : ((List.range (k + 1)).filter p).map Int.ofNat = ((List.range k).filter p).map Int.ofNat ++ (if p k = true then [(k : Int)] else []) := by
  rw [List.range_succ, List.filter_append, List.map_append]
  congr 1
  cases h : p k with
  | true => simp [List.filter_cons, h]
  | false => simp [List.filter_cons, h]
theorem X8 (p : Nat → Bool) (k : Nat) : (((List.range k).filter p).map Int.ofNat).length ≤ k := by
  rw [List.length_map]; exact Nat.le_trans (List.length_filter_le ..) (by simp)
end
end Go.Proofs.Ytjpacggpipflcaa

namespace Go.Proofs.Ytjpacggpipflcaa
noncomputable section
open Go Go.RowKit
set_option linter.unusedVariables false
set_option linter.unusedSimpArgs false
section
variable {S : Nat → List Nat} {r n : Nat} {P : List Nat} {t : List Int}
theorem DomTree.up (h : DomTree S r n P t) : ∀ k x, x < n → Bf t x ≠ -2 → pos (r :: P) x < k → ∃ q, upD t k (x : Int) = some q ∧ (∀ w : Int, w ∈ q ↔ ∃ z : Nat, w = (z : Int) ∧ UpTo (Bf t) x z) ∧
    ∀ p : Int → Bool, (q.find? p = none ∧ ∀ z : Nat, UpTo (Bf t) x z → p (z : Int) = false) ∨ ∃ f : Nat, q.find? p = some (f : Int) ∧ UpTo (Bf t) x f ∧ p (f : Int) = true ∧ ∀ z : Nat, UpTo (Bf t) x z → p (z : Int) = true → UpTo (Bf t) f z := by
  intro k
  induction k with
  | zero => intro x _ _ hk; exact absurd hk (Nat.not_lt_zero _)
  | succ k ih =>
    intro x hx hp hk
    have hxt : (0 : Int) ≤ (x : Int) ∧ (x : Int) < (t.length : Int) := by rw [h.len]; omega
    unfold upD; rw [if_pos hxt, Aq]; have hpx : t.getD x 0 = Bf t x := rfl; rw [hpx]; rcases h.inv.kind x hx with h1 | rfl | ⟨z, hz⟩
    · exact absurd h1 hp
    · rw [if_pos h.inv.top]; refine ⟨_, rfl, fun w => ?_, fun p => ?_⟩
      · rw [List.mem_singleton]
        constructor
        · rintro rfl; exact ⟨x, rfl, .refl _⟩
        · rintro ⟨z, rfl, hz⟩; rw [h.inv.root_anc.1 hz]
      · cases hpp : p (x : Int) with
        | false => exact .inl ⟨by simp [List.find?, hpp], fun z hz => by rw [h.inv.root_anc.1 hz]; exact hpp⟩
        | true => exact .inr ⟨x, by simp [List.find?, hpp], .refl _, hpp, fun z hz _ => hz⟩
    · obtain ⟨z1, z2, z3, z4⟩ := h.inv.up x hx z hz; rw [hz, if_neg (by omega)]; obtain ⟨q, hq1, hq2, hq3⟩ := ih z z1 z2 (by omega); rw [hq1]; refine ⟨(x : Int) :: q, rfl, fun w => ?_, fun p => ?_⟩
      · rw [List.mem_cons, hq2 w]
        constructor
        · rintro (rfl | ⟨y, rfl, hy⟩)
          · exact ⟨x, rfl, .refl _⟩
          · exact ⟨y, rfl, .up hz hy⟩
        · rintro ⟨y, rfl, hy⟩; rcases (anc_up hz).1 hy with rfl | hy
          · exact .inl rfl
          · exact .inr ⟨y, rfl, hy⟩
      · cases hpp : p (x : Int) with
        | true => exact .inr ⟨x, by simp [List.find?, hpp], .refl _, hpp, fun y hy _ => hy⟩
        | false =>
          have hf : ((x : Int) :: q).find? p = q.find? p := by simp [List.find?, hpp]
          rw [hf]; rcases hq3 p with ⟨e1, e2⟩ | ⟨f, e1, e2, e3, e4⟩
          · refine .inl ⟨e1, fun y hy => ?_⟩; rcases (anc_up hz).1 hy with rfl | hy
            · exact hpp
            · exact e2 y hy
          · refine .inr ⟨f, e1, .up hz e2, e3, fun y hy hpy => ?_⟩; rcases (anc_up hz).1 hy with rfl | hy
            · rw [hpp] at hpy; cases hpy
            · exact e4 y hy hpy
theorem Ordered.pos_lt (o : Ordered S r n P) {x : Nat} (hx : x ∈ r :: P) : pos (r :: P) x < n := by
  obtain ⟨j, hj, rfl⟩ := List.getElem_of_mem hx; rw [(I8 o.nodup hj).2]; have := Ig n (r :: P) o.nodup fun y hy => o.lt hy; omega
theorem DomTree.path (h : DomTree S r n P t) (o : Ordered S r n P) {x : Nat} (hx : x < n) (hp : Bf t x ≠ -2) : E9 t (x : Int) ≠ [] ∧ (∀ w : Int, w ∈ E9 t (x : Int) ↔ ∃ z : Nat, w = (z : Int) ∧ UpTo (Bf t) x z) ∧
    ∀ p : Int → Bool, ((E9 t (x : Int)).find? p = none ∧ ∀ z : Nat, UpTo (Bf t) x z → p (z : Int) = false) ∨ ∃ f : Nat, (E9 t (x : Int)).find? p = some (f : Int) ∧ UpTo (Bf t) x f ∧ p (f : Int) = true ∧ ∀ z : Nat, UpTo (Bf t) x z → p (z : Int) = true → UpTo (Bf t) f z := by
  have hm := (o.mem x).2 (h.inv.rc x hx hp); obtain ⟨q, h1, h2, h3⟩ := h.up n x hx hp (o.pos_lt hm)
  have e : E9 t (x : Int) = q := by unfold E9; rw [h.len, h1]; rfl
  rw [e]; refine ⟨fun e => ?_, h2, h3⟩; have := (h2 (x : Int)).2 ⟨x, rfl, .refl _⟩; rw [e] at this
  cases this
theorem DomTree.nopath (h : DomTree S r n P t) {x : Nat} (hx : x < n) (hp : Bf t x = -2) : E9 t (x : Int) = [] := by
  rw [pathD_nil]
  cases hl : t.length with
  | zero => rfl
  | succ k =>
    unfold upD; rw [if_pos ⟨by omega, by rw [h.len]; omega⟩, Aq, show t.getD x 0 = Bf t x from rfl, hp, if_neg (by omega)]
    cases k with
    | zero => rfl
    | succ k => unfold upD; rw [if_neg (by omega)]; rfl
theorem DomTree.right (h : DomTree S r n P t) (o : Ordered S r n P) : Fs t = true := by
  unfold Fs; rw [Bool.and_eq_true]
  constructor
  · refine all_range.2 fun x hx => ?_; rw [h.len] at hx; unfold okR
    by_cases hp : Bf t x = -2
    · rw [show t.getD x 0 = Bf t x from rfl, hp]; rfl
    · rw [decide_eq_false (h.path o hx hp).1]; simp
  · apply decide_eq_true
    have key : ∀ k, k ≤ n → Of t k = if r < k then 1 else 0 := by
      intro k
      induction k with
      | zero => intro _; rfl
      | succ k ih =>
        intro hk; rw [R3, ih (by omega)]
        have hr : t.getD k 0 = -1 ↔ k = r := by
          constructor
          · intro he; rcases h.inv.kind k (by omega) with h1 | h1 | ⟨z, hz⟩
            · rw [show t.getD k 0 = Bf t k from rfl, h1] at he; omega
            · exact h1
            · rw [show t.getD k 0 = Bf t k from rfl, hz] at he; omega
          · rintro rfl; exact h.inv.top
        by_cases hkr : k = r
        · subst hkr; rw [if_neg (by omega), if_pos (hr.2 rfl), if_pos (by omega)]
        · rw [if_neg (fun e => hkr (hr.1 e))]
          by_cases h2 : r < k
          · rw [if_pos h2, if_pos (by omega)]
          · rw [if_neg h2, if_neg (by omega)]
    rw [h.len, key n (Nat.le_refl _), if_pos o.hr]
theorem DomTree.meet (h : DomTree S r n P t) (o : Ordered S r n P) {a b : Nat} (ha : a < n) (hb : b < n) (hpa : Bf t a ≠ -2) (hpb : Bf t b ≠ -2) : ∃ m : Nat, J0 t (a : Int) (b : Int) = (m : Int) ∧ MeetAt (Bf t) a b m ∧ m < n ∧ Bf t m ≠ -2 := by
  have rd : Ready S r n P t P.length := ⟨h.inv, h.len, fun x hx => by rw [List.take_length] at hx; exact h.full x (o.lt hx) ((o.mem x).1 hx)⟩; obtain ⟨c, hc1, hc2, hc3⟩ := h.inv.meets (rd.inj o) Ya _ a b (Nat.le_refl _) ha hb hpa hpb; refine ⟨c, ?_, hc1, hc2, hc3⟩; unfold J0; rw [if_pos (h.right o)]; obtain ⟨hca, hcb⟩ := (hc1 c).1 (.refl _)
  have hin : ∀ z : Nat, (E9 t (b : Int)).contains (z : Int) = true ↔ UpTo (Bf t) b z := fun z => by
    rw [List.contains_iff_mem, (h.path o hb hpb).2.1]
    constructor
    · rintro ⟨y, hy, hu⟩; cases Int.ofNat.inj hy; exact hu
    · intro hu; exact ⟨z, rfl, hu⟩
  rcases (h.path o ha hpa).2.2 fun x => (E9 t (b : Int)).contains x with ⟨_, h2⟩ | ⟨f, h1, h2, h3, h4⟩
  · have := h2 c hca; rw [(hin c).2 hcb] at this
    cases this
  · rw [h1]; have hfc := h4 c hca ((hin c).2 hcb); have hcf := (hc1 f).2 ⟨h2, (hin f).1 h3⟩; rw [h.inv.antisymm hcf hfc hc2 hc3]
    rfl
theorem DomTree.meet_none (h : DomTree S r n P t) (o : Ordered S r n P) {a b : Nat} (ha : a < n) (hb : b < n) (hp : Bf t a = -2 ∨ Bf t b = -2) : J0 t (a : Int) (b : Int) = -2 := by
  unfold J0; rw [if_pos (h.right o)]; rcases hp with hp | hp
  · rw [h.nopath ha hp]; rfl
  · rw [h.nopath hb hp]
    have : (E9 t (a : Int)).find? (fun x => ([] : List Int).contains x) = none := List.find?_eq_none.2 fun x _ => by simp
    rw [this]; rfl
theorem DomTree.over (h : DomTree S r n P t) (o : Ordered S r n P) {a b : Nat} (ha : a < n) (hb : b < n) : Uz t (a : Int) (b : Int) = true ↔ Bf t b ≠ -2 ∧ UpTo (Bf t) b a := by
  unfold Uz; rw [Bool.and_eq_true, beq_iff_eq, bne_iff_ne]
  by_cases hpa : Bf t a = -2
  · rw [h.meet_none o ha hb (.inl hpa)]
    constructor
    · rintro ⟨h1, _⟩; omega
    · rintro ⟨h1, h2⟩; exact absurd hpa (h.inv.anc h2 hb h1).2.1
  · by_cases hpb : Bf t b = -2
    · rw [h.meet_none o ha hb (.inr hpb)]
      constructor
      · rintro ⟨h1, _⟩; omega
      · rintro ⟨h1, _⟩; exact absurd hpb h1
    · obtain ⟨m, hm1, hm2, hm3, hm4⟩ := h.meet o ha hb hpa hpb; rw [hm1]
      constructor
      · rintro ⟨h1, _⟩; have h1 := Int.ofNat.inj h1; subst h1; exact ⟨hpb, ((hm2 _).1 (.refl _)).2⟩
      · rintro ⟨_, h2⟩; have := (hm2 a).2 ⟨.refl _, h2⟩; have h3 := ((hm2 m).1 (.refl _)).1; rw [h.inv.antisymm h3 this ha hpa]; exact ⟨rfl, by omega⟩
theorem DomTree.over_dom (h : DomTree S r n P t) (o : Ordered S r n P) {a b : Nat} (ha : a < n) (hb : b < n) : Uz t (a : Int) (b : Int) = true ↔ Rc S r b ∧ ¬ Av S r a b := by
  rw [h.over o ha hb]
  constructor
  · rintro ⟨h1, h2⟩; exact ⟨h.inv.rc b hb h1, (h.exact_ b hb h1 a).1 h2⟩
  · rintro ⟨h1, h2⟩; have := h.full b hb h1; exact ⟨this, (h.exact_ b hb this a).2 h2⟩
theorem DomTree.in_iff (h : DomTree S r n P t) {x : Nat} (hx : x < n) : Bf t x ≠ -2 ↔ Rc S r x := ⟨h.inv.rc x hx, h.full x hx⟩
end
section
variable {L : List (List Int)} (hm : Ez L = true) {r : Nat} (hr : r < L.length)
include hm hr
theorem Pc : ∃ P, Ord (sN L) r (r :: P) ∧ Ordered (sN L) r L.length P ∧ DomTree (sN L) r L.length P (Hy L r) := by
  obtain ⟨O, hO⟩ := Ord.exist (I5 hm) hr; obtain ⟨P, rfl, o⟩ := hO.ordered hr (I5 hm); obtain ⟨J, _, hJ⟩ := stops o; have hd := P3 o hJ; refine ⟨P, hO, o, ?_⟩; rw [← hd.eq hm hr o]; exact hd
end
end
end Go.Proofs.Ytjpacggpipflcaa

namespace Go.Proofs.Ytjpacggpipflcaa
noncomputable section
open Go Go.RowKit
set_option linter.unusedVariables false
set_option linter.unusedSimpArgs false
def Ni (L : List (List Int)) (a b : Nat) : Bool := Ng L a b && F8 L 0 b a
def H8 (L : List (List Int)) (a m : Nat) : List (Int × Int) := ((List.range m).filter (Ni L a)).map fun b => ((a : Int), ((b : Nat) : Int))
def Mc (L : List (List Int)) (m : Nat) : List (Int × Int) := ((List.range m).map fun a => H8 L a L.length).flatten
def C3 (L : List (List Int)) : List (Int × Int) := Mc L L.length
def Ka (L : List (List Int)) (x : Nat) : Bool := (Ga L 0 (-1)).getD x false
def Eo (L : List (List Int)) (h : Nat) : Bool := (C3 L).any fun p => p.2 == (h : Int)
def inBy (L : List (List Int)) (h x : Nat) (p : Int × Int) : Bool := (p.2 == (h : Int)) && (decide (x ≠ h) && (Ka L x && (Ga L x (h : Int)).getD p.1.toNat false))
def Eb (L : List (List Int)) (h x : Nat) : Bool := decide (x = h) || (C3 L).any (inBy L h x)
def Dq (L : List (List Int)) (h : Nat) : List Int := ((List.range L.length).filter (Eb L h)).map Int.ofNat
def B4 (L : List (List Int)) : List Ax := ((List.range L.length).filter (Eo L)).map fun h => ⟨((h : Nat) : Int), Dq L h⟩
section
variable {L : List (List Int)}
theorem Xk (a m : Nat) : (H8 L a m).length ≤ m := by
  unfold H8; rw [List.length_map]; exact Nat.le_trans (List.length_filter_le ..) (by simp)
theorem Xn (m : Nat) : Mc L (m + 1) = Mc L m ++ H8 L m L.length := by
  unfold Mc; rw [List.range_succ, List.map_append, List.flatten_append]
  simp
theorem Tb (m : Nat) : (Mc L m).length ≤ m * L.length := by
  have := flat_bound (List.range m) (fun a => H8 L a L.length) L.length fun a _ => Xk a _; rw [List.length_range] at this; exact this
theorem mem_backs {p : Int × Int} : p ∈ C3 L ↔ ∃ a b : Nat, p = ((a : Int), (b : Int)) ∧ a < L.length ∧ b < L.length ∧ Ni L a b = true := by
  unfold C3 Mc H8; simp only [List.mem_flatten, List.mem_map, List.mem_range]
  constructor
  · rintro ⟨_, ⟨a, ha, rfl⟩, hd⟩; obtain ⟨b, hb, rfl⟩ := List.mem_map.1 hd; obtain ⟨h1, h2⟩ := List.mem_filter.1 hb; exact ⟨a, b, rfl, ha, List.mem_range.1 h1, h2⟩
  · rintro ⟨a, b, rfl, ha, hb, h⟩; exact ⟨_, ⟨a, ha, rfl⟩, List.mem_map.2 ⟨b, List.mem_filter.2 ⟨List.mem_range.2 hb, h⟩, rfl⟩⟩
theorem Pd (h : L.length ≤ 64) : (C3 L).length ≤ 4096 := Nat.le_trans (Tb _) (Nat.mul_le_mul h h)
variable (hm : Ez L = true)
include hm
end
def Nr (g : An) : List (Int × Int) := if H9 g = true then C3 g.Succ else []
def D9 (g : An) : List Ax := if H9 g = true then B4 g.Succ else []
end
end Go.Proofs.Ytjpacggpipflcaa

namespace Go.Proofs.Ytjpacggpipflcaa
noncomputable section
open Go Go.RowKit
set_option linter.unusedVariables false
set_option linter.unusedSimpArgs false
def Gf (W : List (Int × Int)) (a y : Int) : Bool := W.all fun p => !((p.1 == a) && (p.2 == y))
def Kv (L : List (List Int)) (W : List (Int × Int)) (a : Nat) : List Int := (L.getD a []).filter (Gf W (a : Int))
def Ou (L : List (List Int)) (W : List (Int × Int)) : List (List Int) := (List.range L.length).map (Kv L W)
def Vm (C : List (List Int)) (a : Nat) : Bool := (Ga C 0 (-1)).getD a false && (C.getD a []).any fun y => (Ga C y.toNat (-1)).getD a false
def Rp (C : List (List Int)) : Bool := (List.range C.length).any (Vm C)
def Is (L : List (List Int)) (W : List (Int × Int)) : Bool := Rp (Ou L W)
section
variable {L : List (List Int)}
theorem Or {W : List (Int × Int)} : (Ou L W).length = L.length := by simp [Ou]
theorem cutL_at {W : List (Int × Int)} {a : Nat} (ha : a < L.length) : (Ou L W).getD a [] = Kv L W a := by unfold Ou; rw [I9 ha]
theorem Xq : Ou L [] = L := by
  have e : L = (List.range L.length).map fun i => L.getD i [] := List.ext_getElem (by simp) fun i h1 h2 => by rw [List.getElem_map, List.getElem_range, Ag _ _ _ h1]
  conv => rhs; rw [e]
  unfold Ou; refine Gx fun i hi => ?_; unfold Kv; exact List.filter_eq_self.2 (fun y _ => by simp [Gf])
variable (hm : Ez L = true)
include hm
theorem cutL_may (W : List (Int × Int)) : Ez (Ou L W) = true := by
  obtain ⟨h1, h2, h3⟩ := mayS_iff.1 hm; refine mayS_iff.2 ⟨by rw [Or]; exact h1, by rw [Or]; exact h2, fun i hi => ?_⟩; rw [Or] at hi; rw [cutL_at hi, Or]; unfold Kv; exact okL_of (fun x hx => H5 (h3 i hi) (List.mem_filter.1 hx).1) (List.Pairwise.filter _ (X4 (h3 i hi)))
end
def W7 (g : An) : Bool := H9 g && !Is g.Succ (C3 g.Succ)
def Zk (g : An) : Bool := H9 g && !Is g.Succ []
def Jr (l : List Ax) (x : Int) : Nat := (l.filter fun z => z.Body.contains x).length
structure V4 : Prop where
  backs : ∀ (g : An), Fits g.Succ → Fits g.Pred → Eh g = some (Nr g)
  all : ∀ (g : An), Fits g.Succ → Fits g.Pred → Fc g = some (D9 g)
  depth : ∀ (g : An) (x : Int), Fits g.Succ → Fits g.Pred → Fe g x = some ((Jr (D9 g) x : Nat) : Int)
  red : ∀ (g : An), Fits g.Succ → Fits g.Pred → Dh g = some (W7 g)
  fwd : ∀ (g : An), Fits g.Succ → Fits g.Pred → Em g = some (Zk g)
theorem Po (L : List (List Int)) (h : Nat) : (Dq L h).length ≤ L.length := X8 _ _
theorem Rr (g : An) : (D9 g).length ≤ 64 ∧ ∀ l ∈ D9 g, l.Body.length ≤ 64 := by
  unfold D9
  split
  · rename_i h
    have h64 := (mayS_iff.1 (Mk h).1).2.1; refine ⟨?_, fun l hl => ?_⟩
    · unfold B4; rw [List.length_map]; exact Nat.le_trans (List.length_filter_le ..) (by simpa using h64)
    · unfold B4 at hl; obtain ⟨k, _, rfl⟩ := List.mem_map.1 hl; exact Nat.le_trans (Po _ _) h64
  · exact ⟨by simp, fun l hl => by cases hl⟩
def Gb : List (List Int) := [[1], [2, 3], [1], []]
theorem Kf : Ez Gb = true := by decide
theorem Vk : B4 Gb = [⟨1, [1, 2]⟩] := by decide +kernel
theorem U4 : C3 Gb = [(2, 1)] := by decide +kernel
theorem Yz : Is Gb (C3 Gb) = false := by decide +kernel
theorem wake10_fwd : Is Gb [] = true := by decide +kernel
theorem m_awake10 (F : V4) : D1 = some true := by
  unfold D1
  show Option.bind (Ey Gb) _ = _
  obtain ⟨h1, h2⟩ := Oj Kf; have hG : H9 (Gt Gb) = true := Ob Kf
  have hl : D9 (Gt Gb) = [⟨1, [1, 2]⟩] := by unfold D9; rw [if_pos hG]; exact Vk
  have hb : Nr (Gt Gb) = [(2, 1)] := by unfold Nr; rw [if_pos hG]; exact U4
  have hr : W7 (Gt Gb) = true := by unfold W7; rw [hG, Bool.true_and]; show (!Is Gb (C3 Gb)) = true; rw [Yz]; rfl
  have hf : Zk (Gt Gb) = false := by unfold Zk; rw [hG, Bool.true_and]; show (!Is Gb []) = false; rw [wake10_fwd]; rfl
  rw [Y6 Gb (Kw (Mo Kf)), Kf, cond_true, Option.bind_some]; simp only [F.all _ h1 h2, F.backs _ h1 h2, F.depth _ _ h1 h2, F.red _ h1 h2, F.fwd _ h1 h2, Option.bind_some, hl, hb, hr, hf]; have i0 : A4 (0 : Int) ([⟨1, [1, 2]⟩] : List Ax).length := ⟨by decide, by decide⟩; have i1 : A4 (0 : Int) ([((2 : Int), (1 : Int))] : List (Int × Int)).length := ⟨by decide, by decide⟩
  have hi : Cw [1, 2] ([(1 : Int), (2 : Int)] : List (Int)) = some true := by rw [m_ints _ _ (by decide)]; rfl
  rw [Ac (fun _ => i0), Ac (fun _ => i0)]
  show Option.bind (Cw [1, 2] [(1 : Int), (2 : Int)]) _ = _
  rw [hi, Option.bind_some, Ac (fun _ => i1)]; have d2 : Jr [⟨1, [1, 2]⟩] 2 = 1 := rfl; have d3 : Jr [⟨1, [1, 2]⟩] 3 = 0 := rfl; rw [d2, d3]
  rfl
theorem Zq (l : List Ax) (x : Int) {m : Nat} (hm : m < l.length) : Jr (l.take (m + 1)) x = Jr (l.take m) x + if (l.getD m default).Body.contains x = true then 1 else 0 := by
  unfold Jr; rw [List.take_succ_eq_append_getElem hm, List.filter_append, List.length_append, Ag _ _ _ hm]
  congr 1
  rw [List.filter_cons, List.filter_nil]
  split <;> rfl
theorem deepN_le (l : List Ax) (x : Int) : Jr l x ≤ l.length := List.length_filter_le ..
end
end Go.Proofs.Ytjpacggpipflcaa

namespace Go.Proofs.Ytjpacggpipflcaa
noncomputable section
open Go Go.RowKit
set_option linter.unusedVariables false
set_option linter.unusedSimpArgs false
section
variable {S : Nat → List Nat}
theorem N8 {z a b c : Nat} (h : Av S a z b) (k : Av S b z c) : Av S a z c := by
  induction k with
  | root _ => exact h
  | step _ hy hz ih => exact .step ih hy hz
theorem rc_split {r z t : Nat} (h : Rc S r t) : Av S r z t ∨ (Rc S r z ∧ Rc S z t) := by
  induction h with
  | root =>
    by_cases e : r = z
    · subst e; exact .inr ⟨.root, .root⟩
    · exact .inl (.root e)
  | @step x y h hy ih =>
    rcases ih with ih | ⟨i1, i2⟩
    · by_cases e : y = z
      · subst e; exact .inr ⟨.step h hy, .root⟩
      · exact .inl (.step ih hy e)
    · exact .inr ⟨i1, .step i2 hy⟩
theorem rc_last {r u v y : Nat} (huv : u ≠ v) (h : Rc S r y) : Av S r v y ∨ Av S v u y ∨ Av S u v y := by
  induction h with
  | root =>
    by_cases e : r = v
    · subst e; exact .inr (.inl (.root (Ne.symm huv)))
    · exact .inl (.root e)
  | @step x y h hy ih =>
    by_cases e : y = v
    · subst e; exact .inr (.inl (.root (Ne.symm huv)))
    · rcases ih with ih | ih | ih
      · exact .inl (.step ih hy e)
      · by_cases e2 : y = u
        · subst e2; exact .inr (.inr (.root huv))
        · exact .inr (.inl (.step ih hy e2))
      · exact .inr (.inr (.step ih hy e))
theorem av_split {y u v t : Nat} (huv : u ≠ v) (h : Av S y v t) : Av S y u t ∨ Av S u v t := by
  induction h with
  | root _ =>
    by_cases e : y = u
    · subst e; exact .inr (.root huv)
    · exact .inl (.root e)
  | @step x z h hy hz ih =>
    rcases ih with ih | ih
    · by_cases e : z = u
      · subst e; exact .inr (.root huv)
      · exact .inl (.step ih hy e)
    · exact .inr (.step ih hy hz)
theorem up_linear {par : Nat → Int} {x a b : Nat} (h : UpTo par x a) (k : UpTo par x b) : UpTo par a b ∨ UpTo par b a := by
  induction h with
  | refl => exact .inl k
  | up hp t ih =>
    cases k with
    | refl => exact .inr (.up hp t)
    | up hq s => rw [hp] at hq; cases Int.ofNat.inj hq; exact ih s
end
section
variable {L : List (List Int)} (hm : Ez L = true)
include hm
theorem goes_sN {p y : Nat} (hp : p < L.length) : y ∈ sN L p ↔ Ng L p y = true := by
  rw [On]; obtain ⟨_, _, h3⟩ := mayS_iff.1 hm
  constructor
  · intro h; obtain ⟨z, hz, rfl⟩ := List.mem_map.1 h; have := H5 (h3 p hp) hz; rw [Int.toNat_of_nonneg this.1]; exact hz
  · intro h; exact List.mem_map.2 ⟨_, h, Aq y⟩
theorem J4 {t h : Nat} (ht : t < L.length) : Ni L t h = true ↔ h ∈ sN L t ∧ Rc (sN L) 0 t ∧ ¬ Av (sN L) 0 h t := by
  have h1 := (mayS_iff.1 hm).1; unfold Ni; rw [Bool.and_eq_true, L1 hm (by omega) ht, goes_sN hm ht]
theorem Xv {h : Nat} : Eo L h = true ↔ ∃ t, t < L.length ∧ Ni L t h = true := by
  unfold Eo; rw [List.any_eq_true]
  constructor
  · rintro ⟨p, hp, he⟩; obtain ⟨a, b, rfl, ha, hb, hB⟩ := mem_backs.1 hp
    have : b = h := by have := beq_iff_eq.1 he; exact Int.ofNat.inj this
    subst this; exact ⟨a, ha, hB⟩
  · rintro ⟨t, ht, hB⟩; have hh := I5 hm t ht h ((J4 hm ht).1 hB).1; exact ⟨((t : Int), (h : Int)), mem_backs.2 ⟨t, h, rfl, ht, hh, hB⟩, by simp⟩
theorem body_iff {h x : Nat} (hx : x < L.length) : Eb L h x = true ↔ x = h ∨ (x ≠ h ∧ Rc (sN L) 0 x ∧ ∃ t, t < L.length ∧ Ni L t h = true ∧ Av (sN L) x h t) := by
  have h1 := (mayS_iff.1 hm).1; unfold Eb; rw [Bool.or_eq_true, decide_eq_true_eq, List.any_eq_true]
  constructor
  · rintro (e | ⟨p, hp, he⟩)
    · exact .inl e
    · obtain ⟨a, b, rfl, ha, hb, hB⟩ := mem_backs.1 hp; unfold inBy at he; rw [Bool.and_eq_true, Bool.and_eq_true, Bool.and_eq_true, decide_eq_true_eq] at he; obtain ⟨e1, e2, e3, e4⟩ := he
      have : b = h := by have := beq_iff_eq.1 e1; exact Int.ofNat.inj this
      subst this; refine .inr ⟨e2, (G7 hm (by omega)).1 e3, a, ha, hB, (Ii hm hx ha).1 ?_⟩
      simpa using e4
  · rintro (e | ⟨e2, e3, t, ht, hB, hA⟩)
    · exact .inl e
    · have hh := I5 hm t ht h ((J4 hm ht).1 hB).1; refine .inr ⟨((t : Int), (h : Int)), mem_backs.2 ⟨t, h, rfl, ht, hh, hB⟩, ?_⟩; unfold inBy; rw [Bool.and_eq_true, Bool.and_eq_true, Bool.and_eq_true, decide_eq_true_eq]; refine ⟨by simp, e2, (G7 hm (by omega)).2 e3, ?_⟩
      show (Ga L x (h : Int)).getD ((t : Int)).toNat false = true
      rw [Aq]; exact (Ii hm hx ht).2 hA
theorem head_reached {h : Nat} (hh : Eo L h = true) : Rc (sN L) 0 h := by
  obtain ⟨t, ht, hB⟩ := (Xv hm).1 hh; obtain ⟨_, h2, h3⟩ := (J4 hm ht).1 hB; rcases rc_split (z := h) h2 with h4 | h4
  · exact absurd h4 h3
  · exact h4.1
theorem Qz {h : Nat} (hh : Eo L h = true) : h < L.length := by
  obtain ⟨t, ht, hB⟩ := (Xv hm).1 hh; exact I5 hm t ht h ((J4 hm ht).1 hB).1
theorem head_dom {h x : Nat} (hh : Eo L h = true) (hx : x < L.length) (hb : Eb L h x = true) : Rc (sN L) 0 x ∧ ¬ Av (sN L) 0 h x := by
  rcases (body_iff hm hx).1 hb with rfl | ⟨_, h2, t, ht, hB, hA⟩
  · exact ⟨head_reached hm hh, fun h => h.ne rfl⟩
  · exact ⟨h2, fun h => ((J4 hm ht).1 hB).2.2 (N8 h hA)⟩
theorem dom_anti {a b : Nat} (ha : a < L.length) (hb : b < L.length) (h1 : Rc (sN L) 0 b ∧ ¬ Av (sN L) 0 a b) (h2 : Rc (sN L) 0 a ∧ ¬ Av (sN L) 0 b a) : a = b := by
  have hn := (mayS_iff.1 hm).1; obtain ⟨P, _, o, h⟩ := Pc hm (r := 0) (by omega); have e1 := (h.over o ha hb).1 ((h.over_dom o ha hb).2 h1); have e2 := (h.over o hb ha).1 ((h.over_dom o hb ha).2 h2); exact h.inv.antisymm e1.2 e2.2 hb e1.1
theorem dom_linear {a b x : Nat} (ha : a < L.length) (hb : b < L.length) (hx : x < L.length) (h1 : Rc (sN L) 0 x ∧ ¬ Av (sN L) 0 a x) (h2 : Rc (sN L) 0 x ∧ ¬ Av (sN L) 0 b x) (ra : Rc (sN L) 0 a) (rb : Rc (sN L) 0 b) : ¬ Av (sN L) 0 a b ∨ ¬ Av (sN L) 0 b a := by
  have hn := (mayS_iff.1 hm).1; obtain ⟨P, _, o, h⟩ := Pc hm (r := 0) (by omega); have e1 := (h.over o ha hx).1 ((h.over_dom o ha hx).2 h1); have e2 := (h.over o hb hx).1 ((h.over_dom o hb hx).2 h2); rcases up_linear e1.2 e2.2 with u | u
  · exact .inr ((h.over_dom o hb ha).1 ((h.over o hb ha).2 ⟨(h.in_iff ha).2 ra, u⟩)).2
  · exact .inl ((h.over_dom o ha hb).1 ((h.over o ha hb).2 ⟨(h.in_iff hb).2 rb, u⟩)).2
theorem P9 {u v x : Nat} (huv : u ≠ v) (hu : Eo L u = true) (hv : Eo L v = true) (hx : x < L.length) (xu : Eb L u x = true) (xv : Eb L v x = true) (hd : ¬ Av (sN L) 0 u v) : ∀ y, y < L.length → Eb L v y = true → Eb L u y = true := by
  have ul := Qz hm hu; have vl := Qz hm hv; have ru := head_reached hm hu; have rv := head_reached hm hv; have hvu : Av (sN L) 0 v u := Classical.byContradiction fun hn => huv (dom_anti hm ul vl ⟨rv, hd⟩ ⟨ru, hn⟩)
  have notin : Eb L v u = false := by
    cases h : Eb L v u with
    | false => rfl
    | true => exact absurd hvu (head_dom hm hv ul h).2
  have hxu : x ≠ u := by rintro rfl; rw [notin] at xv; cases xv
  obtain ⟨rx, nvx⟩ := head_dom hm hv hx xv
  obtain ⟨_, _, t, ht, hB, hA⟩ : x ≠ u ∧ Rc (sN L) 0 x ∧ ∃ t, t < L.length ∧ Ni L t u = true ∧ Av (sN L) x u t := by
    rcases (body_iff hm hx).1 xu with e | e
    · exact absurd e hxu
    · exact e
  have vx : Av (sN L) v u x := by
    rcases rc_last huv rx with h | h | h
    · exact absurd h nvx
    · exact h
    · exact absurd (N8 hvu h) nvx
  have vt : Av (sN L) v u t := N8 vx hA; intro y hy yv; rcases (body_iff hm hy).1 yv with rfl | ⟨yne, ry, s, hs, hBs, hAs⟩
  · exact (body_iff hm hy).2 (.inr ⟨Ne.symm huv, rv, t, ht, hB, vt⟩)
  · have yu : y ≠ u := by rintro rfl; rw [notin] at yv; cases yv
    refine (body_iff hm hy).2 (.inr ⟨yu, ry, t, ht, hB, ?_⟩); rcases av_split huv hAs with h | h
    · exact N8 (.step h ((J4 hm hs).1 hBs).1 (Ne.symm huv)) vt
    · have : Eb L v u = true := (body_iff hm ul).2 (.inr ⟨huv, ru, s, hs, hBs, h⟩); rw [notin] at this; cases this
theorem loop_nest {u v : Nat} (huv : u ≠ v) (hu : Eo L u = true) (hv : Eo L v = true) :
    (∀ x, x < L.length → ¬ (Eb L u x = true ∧ Eb L v x = true)) ∨ (∀ x, x < L.length → Eb L v x = true → Eb L u x = true) ∨ (∀ x, x < L.length → Eb L u x = true → Eb L v x = true) := by
  by_cases h : ∃ x, x < L.length ∧ Eb L u x = true ∧ Eb L v x = true
  · obtain ⟨x, hx, xu, xv⟩ := h; have ul := Qz hm hu; have vl := Qz hm hv; rcases dom_linear hm ul vl hx (head_dom hm hu hx xu) (head_dom hm hv hx xv) (head_reached hm hu) (head_reached hm hv) with d | d
    · exact .inr (.inl (P9 hm huv hu hv hx xu xv d))
    · exact .inr (.inr (P9 hm (Ne.symm huv) hv hu hx xv xu d))
  · exact .inl fun x hx hb => h ⟨x, hx, hb⟩
end
theorem Ug {L : List (List Int)} {h x : Nat} (hx : x < L.length) : (Dq L h).contains (x : Int) = Eb L h x := by
  rw [Bool.eq_iff_iff, List.contains_iff_mem]; unfold Dq; rw [mem_filt]
  constructor
  · rintro ⟨k, e, h1, h2⟩; cases Int.ofNat.inj e; exact h2
  · intro h; exact ⟨x, rfl, hx, h⟩
theorem mem_loops {L : List (List Int)} {z : Ax} : z ∈ B4 L ↔ ∃ h, h < L.length ∧ Eo L h = true ∧ z = ⟨((h : Nat) : Int), Dq L h⟩ := by
  unfold B4
  constructor
  · intro hz; obtain ⟨h, hh, rfl⟩ := List.mem_map.1 hz; obtain ⟨h1, h2⟩ := List.mem_filter.1 hh; exact ⟨h, List.mem_range.1 h1, h2, rfl⟩
  · rintro ⟨h, h1, h2, rfl⟩; exact List.mem_map.2 ⟨h, List.mem_filter.2 ⟨List.mem_range.2 h1, h2⟩, rfl⟩
theorem Xe {L : List (List Int)} {i k : Nat} (hi : i < (B4 L).length) (hk : k < i) : ∃ u v, Eo L u = true ∧ Eo L v = true ∧ u ≠ v ∧ (B4 L).getD i default = ⟨((u : Nat) : Int), Dq L u⟩ ∧ (B4 L).getD k default = ⟨((v : Nat) : Int), Dq L v⟩ := by
  have hlen : (B4 L).length = ((List.range L.length).filter (Eo L)).length := by unfold B4; rw [List.length_map]
  have hg : ∀ j (hj : j < (B4 L).length), (B4 L).getD j default = ⟨((((List.range L.length).filter (Eo L))[j]'(by omega) : Nat) : Int), Dq L (((List.range L.length).filter (Eo L))[j]'(by omega))⟩ := fun j hj => by
    rw [Ag _ _ _ hj]; exact List.getElem_map _
  have hmem : ∀ j (hj : j < (B4 L).length), Eo L (((List.range L.length).filter (Eo L))[j]'(by omega)) = true := fun j hj => (List.mem_filter.1 (List.getElem_mem _)).2; have hpw : ((List.range L.length).filter (Eo L)).Pairwise (· < ·) := List.Pairwise.filter _ List.pairwise_lt_range; have hlt := List.pairwise_iff_getElem.1 hpw k i (by omega) (by omega) hk; exact ⟨_, _, hmem i hi, hmem k (by omega), by omega, hg i hi, hg k (by omega)⟩
theorem heads10 (F : V4) (a : List (List Int)) (ha : a.length ≤ maxLen) : Dz a = some true := by
  unfold Dz; rw [m_awake10 F, Option.bind_some, Bool.not_true, cond_false]
  by_cases h12 : (12 : Int) < (a.length : Int)
  · rw [decide_eq_true h12]; rfl
  · rw [decide_eq_false h12]; simp only [beq_self_eq_true, cond_true, cond_false, m_small a (small_len ha), Option.bind_some]
    cases hs : Sy a with
    | false => rfl
    | true =>
      have fa := Wf hs; simp only [Bool.not_true, cond_false, Y6 a fa, Option.bind_some]
      cases hm : Ez a with
      | false =>
        have e : ((5 : Int) != 0) = true := rfl; have hf : Fits g0.Succ ∧ Fits g0.Pred := ⟨Qx (by simp [g0]), Qx (by simp [g0])⟩
        have hl : D9 g0 = [] := by unfold D9; rw [if_neg (fun h => by rw [mayG_g0] at h; exact absurd h (by decide))]
        have hr : W7 g0 = false := by unfold W7; rw [mayG_g0]; rfl
        simp only [cond_false, e, cond_true, F.all _ hf.1 hf.2, F.red _ hf.1 hf.2, Option.bind_some, hl, hr]
        rfl
      | true =>
        obtain ⟨h1, h64, _⟩ := mayS_iff.1 hm; obtain ⟨g1, g2⟩ := Oj hm
        have hl : D9 (Gt a) = B4 a := by unfold D9; rw [if_pos (Ob hm)]; rfl
        obtain ⟨hll, hlb⟩ := Rr (Gt a); rw [hl] at hll hlb; simp only [cond_true, bne_self_eq_false, cond_false, F.all _ g1 g2, Option.bind_some, hl]
        have l1 : ∀ i, i < (B4 a).length → At (Bl (Gt a, 0) (B4 a) (i : Int)) (0 : Int) = some (.inl ()) := fun i hi => by
          obtain ⟨h, hh, hd, he⟩ := mem_loops.1 (Ef (d := (default : Ax)) hi); refine Dc (Bl (Gt a, 0) (B4 a) (i : Int)) (fun k => ((k : Nat) : Int)) _ (Dq a h).length (fun k hk => ?_) ?_
          · show Bl _ _ _ (k : Int) = _
            unfold Bl; have hmem : (Dq a h).getD k 0 ∈ Dq a h := Ef hk; unfold Dq at hmem; obtain ⟨y, hy, hyl, hyb⟩ := mem_filt.1 hmem; have hy : (Dq a h).getD k 0 = (y : Int) := hy; have hov : F8 a 0 h y = true := (L1 hm (by omega) hyl).2 (head_dom hm hd hyl hyb); have ho : Di (Gt a) 0 (h : Int) (y : Int) = some (F8 a 0 h y) := m_ref_over hm (r := 0) (by omega) hyl; have hbl := Po a h; simp only [Aq, he, Cs hk, cond_true, hy, ho, hov, Option.bind_some, Bool.not_true, cond_false]; rw [Ac (Dn hi), Ac (Dn hi), Ac (Dn hi), Ac (Dn hk), w1 (by omega)]
          · show Bl _ _ _ _ = _
            unfold Bl; simp only [Aq, he, Ee, cond_false]; rw [Ac (Dn hi)]
        have l2 : ∀ i k, i < (B4 a).length → k < (B4 a).length → At (Bm (B4 a) (i : Int) (k : Int)) ((0 : Int), (0 : Int)) = some (((((B4 a).getD i default).Body.filter fun y => ((B4 a).getD k default).Body.contains y).length : Nat) : Int) := fun i k hi hk => by
          have hbi := hlb _ (Ef (d := (default : Ax)) hi); have hbk := hlb _ (Ef (d := (default : Ax)) hk)
          have e : ((B4 a).getD i default).Body.filter (fun y => ((B4 a).getD k default).Body.contains y) = (((B4 a).getD i default).Body.take ((B4 a).getD i default).Body.length).filter fun y => ((B4 a).getD k default).Body.contains y := by rw [List.take_length]
          rw [e]; refine Dc (Bm (B4 a) (i : Int) (k : Int)) (fun m => ((((((B4 a).getD i default).Body.take m).filter fun y => ((B4 a).getD k default).Body.contains y).length : Nat), ((m : Nat) : Int))) _ ((B4 a).getD i default).Body.length (fun m hmm => ?_) ?_
          · show Bm _ _ _ (_, (m : Int)) = _
            unfold Bm; have hc : ((((B4 a).getD i default).Body.take m).filter fun y => ((B4 a).getD k default).Body.contains y).length ≤ m := Nat.le_trans (List.length_filter_le ..) (by rw [List.length_take]; omega); simp only [Aq, Cs hmm, cond_true, m_has _ _ (show ((B4 a).getD k default).Body.length < 4611686018427387904 by omega), Option.bind_some]; rw [Ac (Dn hi), Ac (Dn hk), Ac (Dn hi), Ac (Dn hmm), List.take_succ_eq_append_getElem hmm, List.filter_append, List.length_append, List.filter_cons, List.filter_nil, ← Ag _ _ 0 hmm]
            cases ((B4 a).getD k default).Body.contains (((B4 a).getD i default).Body.getD m 0) with
            | true => rw [cond_true, Option.bind_some, w1 (by omega), w1 (by omega)]; rfl
            | false => rw [cond_false, Option.bind_some, w1 (by omega)]; rfl
          · show Bm _ _ _ (_, _) = _
            unfold Bm; simp only [Aq, Ee, cond_false]; rw [Ac (Dn hi)]
        have l3 : ∀ i, i < (B4 a).length → At (A9 (Gt a, 0) (B4 a) (i : Int)) (0 : Int) = some (.inl ()) := fun i hi => by
          cases hred : W7 (Gt a) with
          | false =>
            apply A6
            unfold A9; simp only [F.red _ g1 g2, hred]
            cases decide ((0 : Int) < (i : Int)) <;> rfl
          | true =>
            refine Dc (A9 (Gt a, 0) (B4 a) (i : Int)) (fun k => ((k : Nat) : Int)) _ i (fun k hk => ?_) ?_
            · show A9 _ _ _ (k : Int) = _
              unfold A9; obtain ⟨u, v, hu, hv, huv, eu, ev⟩ := Xe hi hk; simp only [F.red _ g1 g2, hred, Cs hk, cond_true, beq_self_eq_true, Option.bind_some, l2 i k hi (by omega), Aq, eu, ev]; rw [Ac (fun _ => Dn hi), Ac (fun _ => Dn (by omega)), w1 (by omega)]
              have hcount : (Dq a u).filter (fun y => (Dq a v).contains y) = ((List.range a.length).filter fun x => Eb a u x && Eb a v x).map Int.ofNat := by
                unfold Dq; rw [List.filter_map, List.filter_filter]
                congr 1
                refine List.filter_congr fun x hx => ?_; have hx := List.mem_range.1 hx; have := Ug (L := a) (h := v) hx; unfold Dq at this
                show ((List.map Int.ofNat (List.filter (Eb a v) (List.range a.length))).contains (x : Int) && Eb a u x) = _
                rw [this, Bool.and_comm]
              have hz : (bif (bif ((((((Dq a u).filter fun y => (Dq a v).contains y).length : Nat) : Int)) != 0) then ((((((Dq a u).filter fun y => (Dq a v).contains y).length : Nat) : Int)) != ((Dq a u).length : Int)) else false) then ((((((Dq a u).filter fun y => (Dq a v).contains y).length : Nat) : Int)) != ((Dq a v).length : Int)) else false) = false := by
                rw [hcount]; rcases loop_nest hm huv hu hv with h | h | h
                · have : ((List.range a.length).filter fun x => Eb a u x && Eb a v x) = [] := List.filter_eq_nil_iff.2 fun x hx => by
                    have := h x (List.mem_range.1 hx); rw [← Bool.and_eq_true] at this; exact this
                  rw [this]
                  rfl
                · have : ((List.range a.length).filter fun x => Eb a u x && Eb a v x).map Int.ofNat = Dq a v := by
                    unfold Dq
                    congr 1
                    refine List.filter_congr fun x hx => ?_
                    cases hb : Eb a v x with
                    | false => simp
                    | true => rw [h x (List.mem_range.1 hx) hb]; rfl
                  rw [this, bne_self_eq_false]
                  cases (bif (((Dq a v).length : Int) != 0) then (((Dq a v).length : Int) != ((Dq a u).length : Int)) else false) <;> rfl
                · have : ((List.range a.length).filter fun x => Eb a u x && Eb a v x).map Int.ofNat = Dq a u := by
                    unfold Dq
                    congr 1
                    refine List.filter_congr fun x hx => ?_
                    cases hb : Eb a u x with
                    | false => simp
                    | true => rw [h x (List.mem_range.1 hx) hb]; rfl
                  rw [this, bne_self_eq_false]
                  cases (((Dq a u).length : Int) != 0) <;> rfl
              rw [hz]
              rfl
            · show A9 _ _ _ _ = _
              unfold A9; simp only [Ee]
              rfl
        have l4 : At (Bk (Gt a, 0) (B4 a)) (0 : Int) = some (.inl ()) := by
          refine Dc (Bk (Gt a, 0) (B4 a)) (fun i => ((i : Nat) : Int)) _ (B4 a).length (fun i hi => ?_) ?_
          · show Bk _ _ (i : Int) = _
            unfold Bk; obtain ⟨h, hh, hd, he⟩ := mem_loops.1 (Ef (d := (default : Ax)) hi); have hbl := Po a h
            have hin : (Dq a h).contains (h : Int) = true := by rw [Ug hh]; exact (body_iff hm hh).2 (.inl rfl)
            have hhas : C2 (Dq a h) (h : Int) = some true := by rw [m_has _ _ (by omega), hin]
            simp only [Cs hi, cond_true, Aq, l1 i hi, l3 i hi, Option.bind_some]; rw [Ac (Dn hi), Ac (Dn hi), he]; simp only [hhas, Option.bind_some, Bool.not_true, cond_false, w1 (show i < 4611686018427387904 by omega)]
          · show Bk _ _ _ = _
            unfold Bk; simp only [Ee, cond_false]
        rw [l4]
        rfl
end
end Go.Proofs.Ytjpacggpipflcaa

namespace Go.Proofs.Ytjpacggpipflcaa
noncomputable section
open Go Go.RowKit
set_option linter.unusedVariables false
set_option linter.unusedSimpArgs false
section
variable {L : List (List Int)} (hm : Ez L = true)
include hm
end
end
end Go.Proofs.Ytjpacggpipflcaa

namespace Go.Proofs.Ytjpacggpipflcaa
noncomputable section
open Go Go.RowKit
set_option linter.unusedVariables false
set_option linter.unusedSimpArgs false
section
variable {k h : Nat}
variable (hh : h < k) (hk : k ≤ 60)
include hh hk
omit hh hk in
omit hh hk in
omit hk in
omit hh hk in
end
end
end Go.Proofs.Ytjpacggpipflcaa

namespace Go.Proofs.Ytjpacggpipflcaa
noncomputable section
open Go Go.RowKit
set_option linter.unusedVariables false
set_option linter.unusedSimpArgs false
end
end Go.Proofs.Ytjpacggpipflcaa

namespace Go.Proofs.Ytjpacggpipflcaa
noncomputable section
open Go Go.RowKit
set_option linter.unusedVariables false
set_option linter.unusedSimpArgs false
inductive Tp (t : List Int) : Nat → Nat → Nat → Prop
  | top {x : Nat} (hx : x < t.length) (h : t.getD x 0 = -1) : Tp t x x 0
  | up {x y r k : Nat} (hx : x < t.length) (h : t.getD x 0 = (y : Int)) (hk : Tp t y r k) : Tp t x r (k + 1)
section
variable {t : List Int}
theorem Tp.lt {x r k : Nat} (h : Tp t x r k) : x < t.length := by cases h <;> assumption
theorem Tp.tops {x r k : Nat} (h : Tp t x r k) : r < t.length ∧ t.getD r 0 = -1 := by
  induction h with
  | top hx h => exact ⟨hx, h⟩
  | up _ _ _ ih => exact ih
theorem Tp.det {x r k r' k' : Nat} (h : Tp t x r k) (h' : Tp t x r' k') : r = r' ∧ k = k' := by
  induction h generalizing k' with
  | top hx h => cases h' with
    | top => exact ⟨rfl, rfl⟩
    | up _ h2 _ => omega
  | up hx h1 _ ih => cases h' with
    | top _ h2 => omega
    | up _ h2 k2 =>
      have : _ = _ := h1.symm.trans h2
      cases Int.ofNat.inj this
      obtain ⟨e1, e2⟩ := ih k2; exact ⟨e1, by omega⟩
theorem Tp.upTo {x r k : Nat} (h : Tp t x r k) : UpTo (Bf t) x r := by
  induction h with
  | top => exact .refl _
  | up _ h _ ih => exact .up h ih
theorem Tp.on {x r k z : Nat} (h : Tp t x r k) (hz : UpTo (Bf t) x z) : ∃ j, j ≤ k ∧ Tp t z r j ∧ (j = k → z = x) := by
  induction hz generalizing k with
  | refl x => exact ⟨k, Nat.le_refl _, h, fun _ => rfl⟩
  | up hp _ ih =>
    cases h with
    | top _ h2 => have : _ = _ := hp.symm.trans h2; omega
    | up _ h2 k2 =>
      have : _ = _ := hp.symm.trans h2
      cases Int.ofNat.inj this
      obtain ⟨j, h1, h3, _⟩ := ih k2; exact ⟨j, by omega, h3, fun e => by omega⟩
theorem Tp.anti {x r k z : Nat} (h : Tp t x r k) (h1 : UpTo (Bf t) x z) (h2 : UpTo (Bf t) z x) : z = x := by
  obtain ⟨j, j1, j2, j3⟩ := h.on h1; obtain ⟨i, i1, i2, i3⟩ := j2.on h2; have := h.det i2; exact j3 (by omega)
theorem Tp.list {x r k : Nat} (h : Tp t x r k) : ∃ l : List Nat, l.length = k + 1 ∧ l.Nodup ∧ ∀ y ∈ l, y < t.length ∧ ∃ j, j ≤ k ∧ Tp t y r j := by
  induction h with
  | top hx h => exact ⟨[_], rfl, by simp, fun y hy => by rw [List.mem_singleton.1 hy]; exact ⟨hx, 0, Nat.le_refl _, .top hx h⟩⟩
  | @up x y r k hx h hk ih =>
    obtain ⟨l, h1, h2, h3⟩ := ih; refine ⟨x :: l, by simp [h1], List.nodup_cons.2 ⟨fun hm => ?_, h2⟩, fun z hz => ?_⟩
    · obtain ⟨_, j, hj, hj2⟩ := h3 _ hm; have := (Tp.up hx h hk).det hj2; omega
    · rcases List.mem_cons.1 hz with rfl | hz
      · exact ⟨hx, k + 1, Nat.le_refl _, .up hx h hk⟩
      · obtain ⟨e1, j, e2, e3⟩ := h3 z hz; exact ⟨e1, j, by omega, e3⟩
theorem Tp.short {x r k : Nat} (h : Tp t x r k) : k < t.length := by
  obtain ⟨l, h1, h2, h3⟩ := h.list; have := Ig t.length l h2 fun y hy => (h3 y hy).1; omega
theorem Tp.upD {x r k : Nat} (h : Tp t x r k) : ∀ m, k < m → ∃ q, upD t m (x : Int) = some q ∧ (∀ w : Int, w ∈ q ↔ ∃ z : Nat, w = (z : Int) ∧ UpTo (Bf t) x z) ∧
    ∀ p : Int → Bool, (q.find? p = none ∧ ∀ z : Nat, UpTo (Bf t) x z → p (z : Int) = false) ∨ ∃ f : Nat, q.find? p = some (f : Int) ∧ UpTo (Bf t) x f ∧ p (f : Int) = true ∧ ∀ z : Nat, UpTo (Bf t) x z → p (z : Int) = true → UpTo (Bf t) f z := by
  induction h with
  | @top x hx h =>
    intro m hm; obtain ⟨m, rfl⟩ : ∃ i, m = i + 1 := ⟨m - 1, by omega⟩
    have htop : ∀ z, UpTo (Bf t) x z ↔ z = x := fun z => Qr fun p hp => by have : _ = _ := hp.symm.trans h; omega
    unfold Go.Proofs.Ytjpacggpipflcaa.upD; rw [if_pos ⟨by omega, by omega⟩, Aq, if_pos h]; refine ⟨_, rfl, fun w => ?_, fun p => ?_⟩
    · rw [List.mem_singleton]
      constructor
      · rintro rfl; exact ⟨x, rfl, .refl _⟩
      · rintro ⟨z, rfl, hz⟩; rw [(htop z).1 hz]
    · cases hpp : p (x : Int) with
      | false => exact .inl ⟨by simp [List.find?, hpp], fun z hz => by rw [(htop z).1 hz]; exact hpp⟩
      | true => exact .inr ⟨x, by simp [List.find?, hpp], .refl _, hpp, fun z hz _ => hz⟩
  | @up x y r k hx h hk ih =>
    intro m hm; obtain ⟨m, rfl⟩ : ∃ i, m = i + 1 := ⟨m - 1, by omega⟩; unfold Go.Proofs.Ytjpacggpipflcaa.upD; rw [if_pos ⟨by omega, by omega⟩, Aq, if_neg (by omega), h]; obtain ⟨q, hq1, hq2, hq3⟩ := ih m (by omega); rw [hq1]; refine ⟨(x : Int) :: q, rfl, fun w => ?_, fun p => ?_⟩
    · rw [List.mem_cons, hq2 w]
      constructor
      · rintro (rfl | ⟨y, rfl, hy⟩)
        · exact ⟨x, rfl, .refl _⟩
        · exact ⟨y, rfl, .up h hy⟩
      · rintro ⟨y, rfl, hy⟩; rcases (anc_up h).1 hy with rfl | hy
        · exact .inl rfl
        · exact .inr ⟨y, rfl, hy⟩
    · cases hpp : p (x : Int) with
      | true => exact .inr ⟨x, by simp [List.find?, hpp], .refl _, hpp, fun y hy _ => hy⟩
      | false =>
        have hf : ((x : Int) :: q).find? p = q.find? p := by simp [List.find?, hpp]
        rw [hf]; rcases hq3 p with ⟨e1, e2⟩ | ⟨f, e1, e2, e3, e4⟩
        · refine .inl ⟨e1, fun y hy => ?_⟩; rcases (anc_up h).1 hy with rfl | hy
          · exact hpp
          · exact e2 y hy
        · refine .inr ⟨f, e1, .up h e2, e3, fun y hy hpy => ?_⟩; rcases (anc_up h).1 hy with rfl | hy
          · rw [hpp] at hpy; cases hpy
          · exact e4 y hy hpy
theorem upD_tp : ∀ m (a : Int) q, upD t m a = some q → ∃ x r k : Nat, a = (x : Int) ∧ k < m ∧ Tp t x r k := by
  intro m
  induction m with
  | zero => intro a q h; cases h
  | succ m ih =>
    intro a q h; unfold Go.Proofs.Ytjpacggpipflcaa.upD at h
    by_cases ha : 0 ≤ a ∧ a < (t.length : Int)
    · rw [if_pos ha] at h; have e : ((a.toNat : Nat) : Int) = a := Int.toNat_of_nonneg ha.1
      by_cases h1 : t.getD a.toNat 0 = -1
      · exact ⟨a.toNat, a.toNat, 0, e.symm, by omega, .top (by omega) h1⟩
      · rw [if_neg h1] at h
        cases hu : Go.Proofs.Ytjpacggpipflcaa.upD t m (t.getD a.toNat 0) with
        | none => rw [hu] at h; cases h
        | some q' =>
          obtain ⟨y, r, k, e1, e2, e3⟩ := ih _ _ hu; exact ⟨a.toNat, r, k + 1, e.symm, by omega, .up (by omega) e1 e3⟩
    · rw [if_neg ha] at h; cases h
theorem pathD_tp {a : Int} : E9 t a ≠ [] ↔ ∃ x r k : Nat, a = (x : Int) ∧ Tp t x r k := by
  constructor
  · intro h
    cases hu : upD t t.length a with
    | none => exact absurd (pathD_nil.2 hu) h
    | some q => obtain ⟨x, r, k, e1, _, e2⟩ := upD_tp _ _ _ hu; exact ⟨x, r, k, e1, e2⟩
  · rintro ⟨x, r, k, rfl, h⟩ e; obtain ⟨q, hq, _⟩ := h.upD t.length h.short; rw [pathD_nil.1 e] at hq; cases hq
theorem Tp.path {x r k : Nat} (h : Tp t x r k) : (∀ w : Int, w ∈ E9 t (x : Int) ↔ ∃ z : Nat, w = (z : Int) ∧ UpTo (Bf t) x z) ∧
    ∀ p : Int → Bool, ((E9 t (x : Int)).find? p = none ∧ ∀ z : Nat, UpTo (Bf t) x z → p (z : Int) = false) ∨ ∃ f : Nat, (E9 t (x : Int)).find? p = some (f : Int) ∧ UpTo (Bf t) x f ∧ p (f : Int) = true ∧ ∀ z : Nat, UpTo (Bf t) x z → p (z : Int) = true → UpTo (Bf t) f z := by
  obtain ⟨q, h1, h2, h3⟩ := h.upD t.length h.short
  have e : E9 t (x : Int) = q := by unfold E9; rw [h1]; rfl
  rw [e]; exact ⟨h2, h3⟩
theorem Rv {α : Type} {l : List α} {i j : Nat} {x d : α} (hi : i < l.length) : (l.set i x).getD j d = if j = i then x else l.getD j d := by
  by_cases h : j = i
  · subst h; simp [List.getD, hi]
  · simp [List.getD, h, Ne.symm h]
theorem meet_L1 {x r k : Nat} (h : Tp t x r k) : ∀ l : List Bool, l.length = t.length → ∃ l', At (De t) ((x : Int), l) = some l' ∧ l'.length = t.length ∧ ∀ z, z < t.length → (l'.getD z false = true ↔ l.getD z false = true ∨ UpTo (Bf t) x z) := by
  induction h with
  | @top x hx h =>
    intro l hl
    have hs : De t ((x : Int), l) = some (.next (-1, l.set x true)) := by
      unfold De
      have hb : ((x : Int) != (-1 : Int)) = true := by rw [bne_iff_ne]; omega
      simp only [hb, cond_true, Aq, h]; rw [Ac (Dn (by omega)), Ac (Dn hx)]
    have hd : De t (-1, l.set x true) = some (.done (l.set x true)) := by
      unfold De
      rfl
    refine ⟨l.set x true, by rw [Bu hs, A6 hd], by simp [hl], fun z hz => ?_⟩; rw [Rv (by omega)]
    have htop : UpTo (Bf t) x z ↔ z = x := Qr fun p hp => by have : _ = _ := hp.symm.trans h; omega
    rw [htop]
    by_cases e : z = x
    · simp [e]
    · simp [e]
  | @up x y r k hx h hk ih =>
    intro l hl
    have hs : De t ((x : Int), l) = some (.next ((y : Int), l.set x true)) := by
      unfold De
      have hb : ((x : Int) != (-1 : Int)) = true := by rw [bne_iff_ne]; omega
      simp only [hb, cond_true, Aq, h]; rw [Ac (Dn (by omega)), Ac (Dn hx)]
    obtain ⟨l', e1, e2, e3⟩ := ih (l.set x true) (by simp [hl]); refine ⟨l', by rw [Bu hs, e1], e2, fun z hz => ?_⟩; rw [e3 z hz, Rv (by omega), anc_up (par := Bf t) h]
    by_cases e : z = x
    · simp [e]
    · simp [e]
theorem meet_L2 {b r k : Nat} (h : Tp t b r k) (l : List Bool) (hl : l.length = t.length) : l.getD r false = true → ∃ c : Nat, At (Db t l) (b : Int) = some (c : Int) ∧ UpTo (Bf t) b c ∧ l.getD c false = true ∧ ∀ z, UpTo (Bf t) b z → l.getD z false = true → UpTo (Bf t) c z := by
  induction h with
  | @top x hx h =>
    intro hr
    have hd : Db t l (x : Int) = some (.done (x : Int)) := by
      unfold Db; rw [Ac (Dn (by omega)), Aq, hr]
      rfl
    exact ⟨x, A6 hd, .refl _, hr, fun z hz _ => hz⟩
  | @up x y r k hx h hk ih =>
    intro hr
    cases hx2 : l.getD x false with
    | true =>
      have hd : Db t l (x : Int) = some (.done (x : Int)) := by
        unfold Db; rw [Ac (Dn (by omega)), Aq, hx2]
        rfl
      exact ⟨x, A6 hd, .refl _, hx2, fun z hz _ => hz⟩
    | false =>
      have hs : Db t l (x : Int) = some (.next (y : Int)) := by
        unfold Db; rw [Ac (Dn (by omega)), Aq, hx2, Bool.not_false, cond_true, Ac (Dn hx), h]
      obtain ⟨c, e1, e2, e3, e4⟩ := ih hr; refine ⟨c, by rw [Bu hs, e1], .up h e2, e3, fun z hz hlz => ?_⟩; rcases (anc_up (par := Bf t) h).1 hz with rfl | hz
      · rw [hx2] at hlz; cases hlz
      · exact e4 z hz hlz
theorem Qb (ht : t.length ≤ 1000) {a b r k m : Nat} (ha : Tp t a r k) (hb : Tp t b r m) : ∃ c : Nat, Fu t (a : Int) (b : Int) = some (c : Int) ∧ MeetAt (Bf t) a b c := by
  unfold Fu
  have hroom : (1000 : Nat) ≤ room := by decide
  rw [Ac ⟨by omega, by omega, by omega⟩, Aq]; obtain ⟨l', h1, h2, h3⟩ := meet_L1 ha (List.replicate t.length false) (by simp); rw [h1, Option.bind_some]
  have h3' : ∀ z, z < t.length → (l'.getD z false = true ↔ UpTo (Bf t) a z) := fun z hz => by rw [h3 z hz, Gh]; simp
  obtain ⟨c, e1, e2, e3, e4⟩ := meet_L2 hb l' h2 ((h3' r ha.tops.1).2 ha.upTo)
  have hc : c < t.length := by obtain ⟨j, _, hj, _⟩ := hb.on e2; exact hj.lt
  refine ⟨c, by rw [e1]; rfl, fun w => ⟨fun hw => ⟨((h3' c hc).1 e3).trans hw, e2.trans hw⟩, fun ⟨hw1, hw2⟩ => ?_⟩⟩; obtain ⟨j, _, hj, _⟩ := ha.on hw1; exact e4 w hw2 ((h3' w hj.lt).2 hw1)
theorem meetD_at (hR : Fs t = true) {a b r k m : Nat} (ha : Tp t a r k) (hb : Tp t b r m) : ∃ c : Nat, J0 t (a : Int) (b : Int) = (c : Int) ∧ MeetAt (Bf t) a b c := by
  unfold J0; rw [if_pos hR]
  have hcon : ∀ z : Nat, (E9 t (b : Int)).contains (z : Int) = true ↔ UpTo (Bf t) b z := fun z => by
    rw [List.contains_iff_mem, hb.path.1]
    constructor
    · rintro ⟨y, e, hy⟩; cases Int.ofNat.inj e; exact hy
    · intro hz; exact ⟨z, rfl, hz⟩
  rcases ha.path.2 (fun x => (E9 t (b : Int)).contains x) with ⟨e1, e2⟩ | ⟨f, e1, e2, e3, e4⟩
  · have := e2 r ha.upTo; rw [(hcon r).2 hb.upTo] at this
    cases this
  · exact ⟨f, by rw [e1]; rfl, fun w => ⟨fun hw => ⟨e2.trans hw, ((hcon f).1 e3).trans hw⟩, fun ⟨hw1, hw2⟩ => e4 w hw1 ((hcon w).2 hw2)⟩⟩
theorem MeetAt.same {a b r k c d : Nat} (ha : Tp t a r k) (hc : MeetAt (Bf t) a b c) (hd : MeetAt (Bf t) a b d) : c = d := by
  obtain ⟨j, _, hj, _⟩ := ha.on ((hc c).1 (.refl _)).1; exact (hj.anti ((hc d).2 ((hd d).1 (.refl _))) ((hd c).2 ((hc c).1 (.refl _)))).symm
end
end
end Go.Proofs.Ytjpacggpipflcaa

namespace Go.Proofs.Ytjpacggpipflcaa
noncomputable section
open Go Go.RowKit
set_option linter.unusedVariables false
set_option linter.unusedSimpArgs false
theorem m_index (t : List Int) (v : Int) (ht : t.length ≤ 1000) : (∃ r : Nat, r < t.length ∧ t.getD r 0 = v ∧ (∀ i, i < r → t.getD i 0 ≠ v) ∧ Cn t v = some (r : Int)) ∨ ((∀ i, i < t.length → t.getD i 0 ≠ v) ∧ Cn t v = some (-1)) := by
  have key : ∀ k i : Nat, i + k = t.length → (∀ j, j < i → t.getD j 0 ≠ v) →
      (∃ r : Nat, r < t.length ∧ t.getD r 0 = v ∧ (∀ i, i < r → t.getD i 0 ≠ v) ∧ At (Bw t v) (i : Int) = some (.inr (r : Int))) ∨ ((∀ i, i < t.length → t.getD i 0 ≠ v) ∧ At (Bw t v) (i : Int) = some (.inl ())) := by
    intro k
    induction k with
    | zero =>
      intro i hi hj
      obtain rfl : i = t.length := by omega
      refine .inr ⟨hj, A6 ?_⟩; unfold Bw; rw [Ee]; rfl
    | succ k ih =>
      intro i hi hj
      by_cases e : v = t.getD i 0
      · refine .inl ⟨i, by omega, e.symm, hj, A6 ?_⟩; unfold Bw; have hb : ((v : Int) == t.getD i 0) = true := beq_iff_eq.2 e; simp only [Cs (show i < t.length by omega), cond_true, Aq, hb]; rw [Ac (Dn (by omega))]
      · have hs : Bw t v (i : Int) = some (.next ((i + 1 : Nat) : Int)) := by
          unfold Bw; have hb : ((v : Int) == t.getD i 0) = false := beq_eq_false_iff_ne.2 e; simp only [Cs (show i < t.length by omega), cond_true, Aq, hb, cond_false]; rw [Ac (Dn (by omega)), w1 (by omega)]
        rw [Bu hs]
        exact ih (i + 1) (by omega) fun j hj2 => by
          by_cases ej : j = i
          · subst ej; exact fun h => e h.symm
          · exact hj j (by omega)
  have h0 := key t.length 0 (by omega) (fun j hj => absurd hj (Nat.not_lt_zero _)); unfold Cn; rcases h0 with ⟨r, h1, h2, h3, h4⟩ | ⟨h1, h2⟩
  · exact .inl ⟨r, h1, h2, h3, by rw [show ((0 : Int)) = ((0 : Nat) : Int) from rfl, h4]; rfl⟩
  · exact .inr ⟨h1, by rw [show ((0 : Int)) = ((0 : Nat) : Int) from rfl, h2]; rfl⟩
section
variable {t : List Int}
structure Nf (t : List Int) (r f : Nat) (w : List Int) : Prop where
  len : w.length = t.length
  old : ∀ y, y < t.length → w.getD y 0 ≠ 0 → (w.getD y 0 ≤ (f : Int)) ∧ ∃ k, Tp t y r k
structure Walk (t : List Int) (r f x : Nat) (w : List Int) : Prop where
  len : w.length = t.length
  hx : x < t.length
  old : ∀ y, y < t.length → w.getD y 0 ≠ 0 → w.getD y 0 ≤ (f : Int) ∧ (∃ k, Tp t y r k) ∨ w.getD y 0 = ((f + 1 : Nat) : Int) ∧ ∀ r' k, Tp t x r' k → ∃ j, k < j ∧ Tp t y r' j
  fwd : ∀ r' k, Tp t x r' k → ∃ j, k ≤ j ∧ Tp t f r' j
  back : ∀ r' k, Tp t f r' k → ∃ j, Tp t x r' j
def Uc (w : List Int) : Nat := w.countP fun z => z == 0
theorem zeros_set {w : List Int} {x : Nat} {v : Int} (hx : x < w.length) (h0 : w.getD x 0 = 0) (hv : v ≠ 0) : Uc (w.set x v) < Uc w := by
  unfold Uc; rw [List.countP_set hx]; rw [Ag _ _ _ hx] at h0; have hp : 0 < w.countP fun z => z == 0 := List.countP_pos_iff.2 ⟨w[x], List.getElem_mem hx, by simp [h0]⟩; have hb : (v == 0) = false := beq_eq_false_iff_ne.2 hv; simp only [h0, beq_self_eq_true, if_true, hb, Bool.false_eq_true, if_false]; omega
theorem leads_loop (ht : t.length ≤ 1000) {r : Nat} (hr : r < t.length) (htop : t.getD r 0 = -1) {f : Nat} (hf : f < t.length) : ∀ (m x : Nat) (w : List Int), Uc w ≤ m → Walk t r f x w →
    (∃ w', At (Cf t (f : Int) (r : Int)) ((x : Int), w) = some (.inl w') ∧ Nf t r (f + 1) w' ∧ ∃ k, Tp t f r k) ∨
    ∃ b w', At (Cf t (f : Int) (r : Int)) ((x : Int), w) = some (.inr (b, w')) ∧ w'.length = t.length ∧ (b = true → Nf t r (f + 1) w' ∧ ∃ k, Tp t f r k) ∧ (b = false → ∀ k, ¬ Tp t f r k) := by
  intro m
  induction m with
  | zero =>
    intro x w hz hw; exact go 0 (fun x w hz => absurd hz (Nat.not_lt_zero _)) x w hz hw
  | succ m ih =>
    intro x w hz hw; exact go (m + 1) (fun x w hz => ih x w (Nat.le_of_lt_succ hz)) x w hz hw
where
  go (m : Nat) (ih : ∀ (x : Nat) (w : List Int), Uc w < m → Walk t r f x w →
    (∃ w', At (Cf t (f : Int) (r : Int)) ((x : Int), w) = some (.inl w') ∧ Nf t r (f + 1) w' ∧ ∃ k, Tp t f r k) ∨
    ∃ b w', At (Cf t (f : Int) (r : Int)) ((x : Int), w) = some (.inr (b, w')) ∧ w'.length = t.length ∧ (b = true → Nf t r (f + 1) w' ∧ ∃ k, Tp t f r k) ∧ (b = false → ∀ k, ¬ Tp t f r k)) (x : Nat) (w : List Int) (hz : Uc w ≤ m) (hw : Walk t r f x w) :
    (∃ w', At (Cf t (f : Int) (r : Int)) ((x : Int), w) = some (.inl w') ∧ Nf t r (f + 1) w' ∧ ∃ k, Tp t f r k) ∨
    ∃ b w', At (Cf t (f : Int) (r : Int)) ((x : Int), w) = some (.inr (b, w')) ∧ w'.length = t.length ∧ (b = true → Nf t r (f + 1) w' ∧ ∃ k, Tp t f r k) ∧ (b = false → ∀ k, ¬ Tp t f r k) := by
    have hxl := hw.hx
    have told : ∀ k, Tp t x r k → Nf t r (f + 1) w ∧ ∃ k, Tp t f r k := fun k hk => by
      obtain ⟨j, _, hj⟩ := hw.fwd _ _ hk; refine ⟨⟨hw.len, fun y hy hy0 => ?_⟩, j, hj⟩; rcases hw.old y hy hy0 with ⟨h1, h2⟩ | ⟨h1, h2⟩
      · exact ⟨by omega, h2⟩
      · obtain ⟨i, _, hi⟩ := h2 _ _ hk; exact ⟨by omega, i, hi⟩
    by_cases hxr : x = r
    · subst hxr; refine .inl ⟨w, A6 ?_, told 0 (.top hr htop)⟩; unfold Cf
      have hb : ((x : Int) != (x : Int)) = false := by simp
      simp only [hb, cond_false]
    · have hb : ((x : Int) != (r : Int)) = true := by rw [bne_iff_ne]; omega
      have hin : A4 (x : Int) w.length := Dn (by rw [hw.len]; exact hxl)
      by_cases hw0 : w.getD x 0 = 0
      · have hb0 : ((w.getD x 0 : Int) != 0) = false := by rw [hw0]; rfl
        by_cases hpl : 0 ≤ t.getD x 0 ∧ t.getD x 0 < (t.length : Int)
        · have hwf : Bg ((f : Int) + 1) = ((f + 1 : Nat) : Int) := w1 (by omega)
          have hs : Cf t (f : Int) (r : Int) ((x : Int), w) = some (.next (t.getD x 0, w.set x ((f + 1 : Nat) : Int))) := by
            unfold Cf E2; simp only [hb, cond_true, Aq, hb0, cond_false]; rw [Ac hin, Ac (Dn hxl), decide_eq_true hpl.1, decide_eq_true hpl.2, cond_true, Option.bind_some, Bool.not_true, cond_false, Ac hin, Ac (Dn hxl), hwf]
          rw [Bu hs]; obtain ⟨y, hy⟩ : ∃ y : Nat, t.getD x 0 = (y : Int) := ⟨(t.getD x 0).toNat, (Int.toNat_of_nonneg hpl.1).symm⟩; rw [hy] at hpl ⊢
          have hyl : y < t.length := by omega
          have hst : ∀ r' k, Tp t y r' k → Tp t x r' (k + 1) := fun r' k hk => .up hxl hy hk
          have hset : ∀ z, z < t.length → (w.set x ((f + 1 : Nat) : Int)).getD z 0 = if z = x then ((f + 1 : Nat) : Int) else w.getD z 0 := fun z _ => Rv (by rw [hw.len]; exact hxl)
          have hW : Walk t r f y (w.set x ((f + 1 : Nat) : Int)) := by
            refine ⟨by simp [hw.len], hyl, fun z hzl hz0 => ?_, fun r' k hk => ?_, fun r' k hk => ?_⟩
            · rw [hset z hzl] at hz0 ⊢
              by_cases e : z = x
              · subst e; rw [if_pos rfl]; exact .inr ⟨rfl, fun r' k hk => ⟨k + 1, by omega, hst r' k hk⟩⟩
              · rw [if_neg e] at hz0 ⊢; rcases hw.old z hzl hz0 with h1 | ⟨h1, h2⟩
                · exact .inl h1
                · refine .inr ⟨h1, fun r' k hk => ?_⟩; obtain ⟨j, hj1, hj2⟩ := h2 _ _ (hst r' k hk); exact ⟨j, by omega, hj2⟩
            · obtain ⟨j, hj1, hj2⟩ := hw.fwd _ _ (hst r' k hk); exact ⟨j, by omega, hj2⟩
            · obtain ⟨j, hj⟩ := hw.back _ _ hk
              cases hj with
              | top _ h2 => omega
              | up _ h2 h3 =>
                have := hy.symm.trans h2
                cases Int.ofNat.inj this
                exact ⟨_, h3⟩
          have hzz := zeros_set (x := x) (v := ((f + 1 : Nat) : Int)) (by rw [hw.len]; exact hxl) hw0 (by omega); exact ih y _ (by omega) hW
        · refine .inr ⟨false, w, A6 ?_, hw.len, ⟨fun h => (by cases h), fun _ k hk => ?_⟩⟩
          · unfold Cf E2; simp only [hb, cond_true, Aq, hb0, cond_false]; rw [Ac hin, Ac (Dn hxl)]
            have : (bif decide ((0 : Int) ≤ t.getD x 0) then decide (t.getD x 0 < (t.length : Int)) else false) = false := by
              cases h1 : decide ((0 : Int) ≤ t.getD x 0) with
              | false => rfl
              | true => rw [cond_true]; exact decide_eq_false fun h2 => hpl ⟨of_decide_eq_true h1, h2⟩
            rw [this, Option.bind_some]
            rfl
          · obtain ⟨j, hj⟩ := hw.back _ _ hk
            cases hj with
            | top => exact hxr rfl
            | up _ h2 h3 => have := h3.lt; exact hpl ⟨by omega, by omega⟩
      · have hb0 : ((w.getD x 0 : Int) != 0) = true := by rw [bne_iff_ne]; exact hw0
        have hwf : Bg ((f : Int) + 1) = ((f + 1 : Nat) : Int) := w1 (by omega); refine .inr ⟨w.getD x 0 != ((f + 1 : Nat) : Int), w, A6 ?_, hw.len, ⟨fun h => ?_, fun h k hk => ?_⟩⟩
        · unfold Cf; simp only [hb, cond_true, Aq, hb0]; rw [Ac hin, Ac hin, hwf]
        · rcases hw.old x hxl hw0 with ⟨_, k, hk⟩ | ⟨h1, _⟩
          · exact told k hk
          · rw [h1] at h; simp at h
        · have he : w.getD x 0 = ((f + 1 : Nat) : Int) := by simpa using h
          obtain ⟨j, hj⟩ := hw.back _ _ hk; rcases hw.old x hxl hw0 with ⟨h1, _⟩ | ⟨_, h2⟩
          · omega
          · obtain ⟨i, hi1, hi2⟩ := h2 _ _ hj; have := hj.det hi2; omega
end
end
end Go.Proofs.Ytjpacggpipflcaa

namespace Go.Proofs.Ytjpacggpipflcaa
noncomputable section
open Go Go.RowKit
set_option linter.unusedVariables false
set_option linter.unusedSimpArgs false
section
variable {t : List Int}
theorem m_leads (ht : t.length ≤ 1000) {r : Nat} (hr : r < t.length) (htop : t.getD r 0 = -1) {f : Nat} (hf : f < t.length) {w : List Int} (hw : Nf t r f w) :
    ∃ b w', Hz t w (f : Int) (r : Int) = some (b, w') ∧ w'.length = t.length ∧ (b = true → Nf t r (f + 1) w' ∧ ∃ k, Tp t f r k) ∧ (b = false → ∀ k, ¬ Tp t f r k) := by
  unfold Hz; have hW : Walk t r f f w := ⟨hw.len, hf, fun y hy h0 => .inl (hw.old y hy h0), fun r' k hk => ⟨k, Nat.le_refl _, hk⟩, fun r' k hk => ⟨k, hk⟩⟩; rcases leads_loop ht hr htop hf _ f w (Nat.le_refl _) hW with ⟨w', e1, e2⟩ | ⟨b, w', e1, e2, e3, e4⟩
  · exact ⟨true, w', by rw [e1]; rfl, e2.1.len, fun _ => e2, fun h => by cases h⟩
  · exact ⟨b, w', by rw [e1]; rfl, e2, e3, e4⟩
def Uv (t : List Int) (r : Nat) : Prop := ∀ f, f < t.length → t.getD f 0 ≠ -2 → ∃ k, Tp t f r k
open Classical in
theorem Yp (ht : t.length ≤ 1000) {r : Nat} (hr : r < t.length) (htop : t.getD r 0 = -1) : ∀ (k f : Nat) (w : List Int), f + k = t.length → Nf t r f w → (∀ y, y < f → t.getD y 0 ≠ -2 → ∃ k, Tp t y r k) →
    At (Df t (r : Int)) ((f : Int), w) = some (if Uv t r then .inl () else .inr false) := by
  intro k
  induction k with
  | zero =>
    intro f w hk hw hd
    obtain rfl : f = t.length := by omega
    apply A6
    unfold Df; simp only [Ee, cond_false]; rw [if_pos (show Uv t r from hd)]
  | succ k ih =>
    intro f w hk hw hd
    have hf : f < t.length := by omega
    by_cases h2 : t.getD f 0 = -2
    · have hb : ((t.getD f 0 : Int) != (-2)) = false := by rw [h2]; rfl
      have hs : Df t (r : Int) ((f : Int), w) = some (.next (((f + 1 : Nat) : Int), w)) := by
        unfold Df; simp only [Cs hf, cond_true, Aq, hb, show (false == true) = false from rfl, cond_false, Option.bind_some]; rw [Ac (Dn hf), Ac (fun h => by cases h), w1 (by omega)]
      rw [Bu hs]; refine ih (f + 1) w (by omega) ⟨hw.len, fun y hy h0 => ?_⟩ fun y hy hy2 => ?_
      · obtain ⟨e1, e2⟩ := hw.old y hy h0; exact ⟨by omega, e2⟩
      · by_cases e : y = f
        · subst e; exact absurd h2 hy2
        · exact hd y (by omega) hy2
    · have hb : ((t.getD f 0 : Int) != (-2)) = true := by rw [bne_iff_ne]; exact h2
      obtain ⟨b, w', e1, e2, e3, e4⟩ := m_leads ht hr htop hf hw
      cases b with
      | false =>
        rw [if_neg (fun hA : Uv t r => by obtain ⟨k, hk⟩ := hA f hf h2; exact e4 rfl k hk)]
        apply A6
        unfold Df; simp only [Cs hf, cond_true, Aq, hb, show (true == true) = true from rfl, e1, Option.bind_some]; rw [Ac (Dn hf), Ac (fun _ => by rw [hw.len, e2])]
        rfl
      | true =>
        have hs : Df t (r : Int) ((f : Int), w) = some (.next (((f + 1 : Nat) : Int), w')) := by
          unfold Df; simp only [Cs hf, cond_true, Aq, hb, show (true == true) = true from rfl, e1, Option.bind_some]; rw [Ac (Dn hf), Ac (fun _ => by rw [hw.len, e2]), w1 (by omega)]
          rfl
        rw [Bu hs]; obtain ⟨e5, e6⟩ := e3 rfl; refine ih (f + 1) w' (by omega) e5 fun y hy hy2 => ?_
        by_cases e : y = f
        · subst e; exact e6
        · exact hd y (by omega) hy2
theorem tops_one : Of t t.length = 1 ↔ ∃ r, r < t.length ∧ t.getD r 0 = -1 ∧ ∀ x, x < t.length → t.getD x 0 = -1 → x = r := by
  have key : ∀ n, (Of t n = 0 ↔ ∀ x, x < n → t.getD x 0 ≠ -1) ∧ (Of t n = 1 ↔ ∃ r, r < n ∧ t.getD r 0 = -1 ∧ ∀ x, x < n → t.getD x 0 = -1 → x = r) := by
    intro n
    induction n with
    | zero => exact ⟨⟨fun _ x hx => absurd hx (Nat.not_lt_zero _), fun _ => rfl⟩, ⟨fun h => by simp [Of] at h, fun ⟨r, h, _⟩ => absurd h (Nat.not_lt_zero _)⟩⟩
    | succ n ih =>
      rw [R3]
      by_cases e : t.getD n 0 = -1
      · rw [if_pos e]; refine ⟨⟨fun h => by omega, fun h => absurd e (h n (by omega))⟩, ⟨fun h => ⟨n, by omega, e, fun x hx hx1 => ?_⟩, fun ⟨r, h1, h2, h3⟩ => ?_⟩⟩
        · by_cases ex : x = n
          · exact ex
          · exact absurd hx1 (ih.1.1 (by omega) x (by omega))
        · have := ih.1.2 fun x hx hx1 => by
            have := h3 x (by omega) hx1; have := h3 n (by omega) e; omega
          omega
      · rw [if_neg e, Nat.add_zero]; refine ⟨⟨fun h x hx => ?_, fun h => ih.1.2 fun x hx => h x (by omega)⟩, ⟨fun h => ?_, fun ⟨r, h1, h2, h3⟩ => ?_⟩⟩
        · by_cases ex : x = n
          · subst ex; exact e
          · exact ih.1.1 h x (by omega)
        · obtain ⟨r, h1, h2, h3⟩ := ih.2.1 h; refine ⟨r, by omega, h2, fun x hx hx1 => ?_⟩
          by_cases ex : x = n
          · subst ex; exact absurd hx1 e
          · exact h3 x (by omega) hx1
        · refine ih.2.2 ⟨r, ?_, h2, fun x hx hx1 => h3 x (by omega) hx1⟩
          by_cases ex : r = n
          · subst ex; exact absurd h2 e
          · omega
  exact (key _).2
theorem rightD_iff : Fs t = true ↔ ∃ r, r < t.length ∧ t.getD r 0 = -1 ∧ Uv t r := by
  unfold Fs; rw [Bool.and_eq_true, all_range, decide_eq_true_eq, tops_one]
  constructor
  · rintro ⟨h1, r, h2, h3, h4⟩; refine ⟨r, h2, h3, fun f hf hf2 => ?_⟩; have := h1 f hf; unfold okR at this; rw [Bool.or_eq_true, decide_eq_true_eq, Bool.not_eq_true', decide_eq_false_iff_not] at this; rcases this with h | h
    · exact absurd h hf2
    · obtain ⟨x, r', k, e, hk⟩ := pathD_tp.1 h
      cases Int.ofNat.inj e
      have := h4 _ hk.tops.1 hk.tops.2; subst this; exact ⟨k, hk⟩
  · rintro ⟨r, h2, h3, h4⟩; refine ⟨fun f hf => ?_, r, h2, h3, fun x hx hx1 => ?_⟩
    · unfold okR; rw [Bool.or_eq_true, decide_eq_true_eq, Bool.not_eq_true', decide_eq_false_iff_not]
      by_cases e : t.getD f 0 = -2
      · exact .inl e
      · obtain ⟨k, hk⟩ := h4 f hf e; exact .inr (pathD_tp.2 ⟨f, r, k, rfl, hk⟩)
    · obtain ⟨k, hk⟩ := h4 x hx (by omega); exact ((hk.det (.top hx hx1)).1).symm
theorem Ut (hR : Fs t = true) : ∃ r, Uv t r := by obtain ⟨r, _, _, h⟩ := rightD_iff.1 hR; exact ⟨r, h⟩
theorem m_isTree (ht : t.length ≤ 1000) : Gu t = some (Fs t) := by
  unfold Gu
  have hroom : (1000 : Nat) ≤ room := by decide
  rcases m_index t (-1) ht with ⟨r, h1, h2, h3, h4⟩ | ⟨h1, h2⟩
  · rw [h4, Option.bind_some, show decide ((r : Int) < 0) = false from decide_eq_false (by omega), cond_false, Ac ⟨by omega, by omega, by omega⟩, Aq]; have hl := Yp ht h1 h2 t.length 0 (List.replicate t.length 0) (by omega) ⟨by simp, fun y hy h0 => absurd Gh h0⟩ (fun y hy => absurd hy (Nat.not_lt_zero _)); rw [show (((0 : Nat) : Int)) = 0 from rfl] at hl; rw [hl, Option.bind_some]
    by_cases hA : Uv t r
    · rw [if_pos hA, rightD_iff.2 ⟨r, h1, h2, hA⟩]
    · rw [if_neg hA]
      have : Fs t = false := Bool.eq_false_iff.2 fun hR => by
        obtain ⟨r', g1, g2, g3⟩ := rightD_iff.1 hR; obtain ⟨k, hk⟩ := g3 r h1 (by omega); have := (hk.det (.top h1 h2)).1; subst this; exact hA g3
      rw [this]
  · rw [h2, Option.bind_some]
    have : Fs t = false := Bool.eq_false_iff.2 fun hR => by
      obtain ⟨r', g1, g2, g3⟩ := rightD_iff.1 hR; exact h1 r' g1 g2
    rw [this]
    rfl
def Ny (t : List Int) (a : Int) : Bool := decide (0 ≤ a) && decide (a < (t.length : Int)) && decide (t.getD a.toNat 0 ≠ -2)
theorem Ry (hR : Fs t = true) {a : Int} : Ny t a = true ↔ ∃ x k r : Nat, a = (x : Int) ∧ Tp t x r k := by
  unfold Ny; rw [Bool.and_eq_true, Bool.and_eq_true, decide_eq_true_eq, decide_eq_true_eq, decide_eq_true_eq]
  constructor
  · rintro ⟨⟨h1, h2⟩, h3⟩; obtain ⟨r, hA⟩ := Ut hR; obtain ⟨k, hk⟩ := hA a.toNat (by omega) h3; exact ⟨a.toNat, k, r, (Int.toNat_of_nonneg h1).symm, hk⟩
  · rintro ⟨x, k, r, rfl, h⟩; have := h.lt; refine ⟨⟨by omega, by omega⟩, ?_⟩; rw [Aq]
    cases h with
    | top _ h2 => omega
    | up _ h2 _ => omega
theorem R8 (a : Int) : E4 t a = some (Ny t a) := by
  unfold E4 E2 Ny; rw [Option.bind_some]
  cases h1 : decide ((0 : Int) ≤ a) with
  | false => rfl
  | true =>
    rw [cond_true, Bool.true_and]
    cases h2 : decide (a < (t.length : Int)) with
    | false => rfl
    | true =>
      rw [Ac (fun _ => ⟨of_decide_eq_true h1, of_decide_eq_true h2⟩), cond_true, Bool.true_and]
      congr 1
      rw [Bool.eq_iff_iff, bne_iff_ne, decide_eq_true_eq]
theorem m_areIn (ht : t.length ≤ 1000) (a b : Int) : Hs t a b = some (Fs t && Ny t a && Ny t b) := by
  unfold Hs; rw [m_isTree ht, Option.bind_some]
  cases Fs t with
  | false => rfl
  | true =>
    simp only [show (true == true) = true from rfl, cond_true, R8, Option.bind_some, Bool.true_and]
    cases Ny t a with
    | false => rfl
    | true => simp only [show (true == true) = true from rfl, cond_true, R8, Option.bind_some, Bool.true_and]
theorem meetD_out {a b : Int} (h : (Fs t && Ny t a && Ny t b) = false) : J0 t a b = -2 := by
  unfold J0
  by_cases hR : Fs t = true
  · rw [if_pos hR]; rw [hR, Bool.true_and] at h
    have hno : ∀ c, Ny t c = false → E9 t c = [] := fun c hc => by
      by_cases e : E9 t c = []
      · exact e
      · obtain ⟨x, r, k, e1, e2⟩ := pathD_tp.1 e; rw [(Ry hR).2 ⟨x, k, r, e1, e2⟩] at hc; cases hc
    cases ha : Ny t a with
    | false => rw [hno a ha]; rfl
    | true =>
      rw [ha, Bool.true_and] at h; rw [hno b h]
      have : ((E9 t a).find? fun x => ([] : List Int).contains x) = none := List.find?_eq_none.2 fun x _ => by simp
      rw [this]
      rfl
  · rw [if_neg hR]
theorem Tt (ht : t.length ≤ 1000) {a b : Int} (h : (Fs t && Ny t a && Ny t b) = true) : Fu t a b = some (J0 t a b) ∧ 0 ≤ J0 t a b := by
  rw [Bool.and_eq_true, Bool.and_eq_true] at h; obtain ⟨⟨hR, ha⟩, hb⟩ := h; obtain ⟨x, k, r, rfl, hx⟩ := (Ry hR).1 ha; obtain ⟨y, m, r', rfl, hy⟩ := (Ry hR).1 hb; obtain ⟨rr, hA⟩ := Ut hR
  have top : ∀ {x r k}, Tp t x r k → r = rr := fun {x r k} h => by
    obtain ⟨i, hi⟩ := hA r h.tops.1 (by rw [h.tops.2]; omega); exact ((Tp.top h.tops.1 h.tops.2).det hi).1
  obtain rfl := top hx; obtain rfl := top hy; obtain ⟨c, h1, h2⟩ := Qb ht hx hy; obtain ⟨d, h3, h4⟩ := meetD_at hR hx hy; have := h2.same hx h4; subst this; exact ⟨by rw [h1, h3], by omega⟩
theorem m_Over (ht : t.length ≤ 1000) (a b : Int) : Hb t a b = some (Uz t a b) := by
  unfold Hb Uz; rw [m_areIn ht, Option.bind_some]
  cases h : (Fs t && Ny t a && Ny t b) with
  | false =>
    rw [meetD_out h]
    have : ((-2 : Int) == a && ((-2 : Int) != -2)) = false := by simp
    rw [this]
    rfl
  | true =>
    obtain ⟨h1, h2⟩ := Tt ht h; simp only [show (true == true) = true from rfl, cond_true, h1, Option.bind_some]
    have : (J0 t a b != -2) = true := by rw [bne_iff_ne]; omega
    rw [this, Bool.and_true]
end
end
end Go.Proofs.Ytjpacggpipflcaa

namespace Go.Proofs.Ytjpacggpipflcaa
noncomputable section
open Go Go.RowKit
set_option linter.unusedVariables false
set_option linter.unusedSimpArgs false
theorem mul_fin : ∀ n : Fin 65, Hm (Fn 1) (Fn ((n.val : Nat) : Int)) = some (0, ((n.val : Nat) : Int)) := by decide +kernel
theorem mul_small {n : Nat} (h : n ≤ 64) : Hm (Fn 1) (Fn (n : Int)) = some (0, (n : Int)) := mul_fin ⟨n, by omega⟩
theorem Ye {v : Int} {n : Nat} (hn : n ≤ 64) : ∀ (m i : Nat) (l : List Int), n - i ≤ m → 1 ≤ i → i ≤ n → l.length = n → (∀ j, j < i → l.getD j 0 = v) → At B1 ((i : Int), l) = some (List.replicate n v) := by
  intro m
  induction m with
  | zero =>
    intro i l hm h1 h2 hl hv
    obtain rfl : i = n := by omega
    exact fin l hl hv
  | succ m ih =>
    intro i l hm h1 h2 hl hv
    by_cases e : i = n
    · subst e; exact fin l hl hv
    · have hs : B1 ((i : Int), l) = some (.next (((i + Nat.min i (n - i) : Nat) : Int), cpL l i (Nat.min i (n - i)) (fun j => l.getD (0 + j) 0))) := by
        unfold B1; simp only [hl, Cs (show i < n by omega), cond_true, Aq, Nat.zero_add, Nat.sub_zero]; have hc : (0 : Int) ≤ (i : Int) ∧ i ≤ n := ⟨by omega, h2⟩; have hmn : Nat.min i (n - i) ≤ i := Nat.min_le_left _ _; rw [Ac hc, Ac hc, J9 (by omega) (by omega), Int.natCast_add]
      rw [Bu hs]; have hmn : Nat.min i (n - i) ≤ i ∧ Nat.min i (n - i) ≤ n - i := ⟨Nat.min_le_left _ _, Nat.min_le_right _ _⟩; have hge : 1 ≤ Nat.min i (n - i) := Nat.le_min.2 ⟨h1, by omega⟩; refine ih _ _ (by omega) (by omega) (by omega) (by rw [← Gl]; exact hl) fun j hj => ?_; rw [Rf _ _ _ _ _ _ (by omega)]
      by_cases hji : i ≤ j ∧ j < i + Nat.min i (n - i)
      · rw [if_pos hji, Nat.zero_add]; exact hv _ (by omega)
      · rw [if_neg hji]; exact hv _ (by omega)
where
  fin {v : Int} {i : Nat} (l : List Int) (hl : l.length = i) (hv : ∀ j, j < i → l.getD j 0 = v) : At B1 ((i : Int), l) = some (List.replicate i v) := by
    apply A6
    unfold B1; simp only [hl, Ee, cond_false]
    congr 2
    refine List.ext_getElem (by simp [hl]) fun j h1 h2 => ?_; rw [← Ag _ _ 0 h1, hv j (by omega)]
    simp
theorem m_repeat {v : Int} {n : Nat} (h1 : 1 ≤ n) (hn : n ≤ 64) : Dj [v] (n : Int) = some (List.replicate n v) := by
  have hroom : (64 : Nat) ≤ room := by decide
  unfold Dj; rw [show decide ((n : Int) < 0) = false from decide_eq_false (by omega), cond_false, Option.bind_some]
  show Option.bind (Hm (Fn 1) (Fn (n : Int))) _ = _
  rw [mul_small hn, Option.bind_some]; have e1 : decide ((0 : Int) < (0 : Int)) = false := rfl; have e2 : decide ((9223372036854775807 : Int) < (n : Int)) = false := decide_eq_false (by omega); simp only [e1, e2, cond_false, Option.bind_some]; have ew : Bg (n : Int) = (n : Int) := J9 (by omega) (by omega); rw [ew, Ac ⟨by omega, by omega, by omega⟩, Aq, List.length_replicate, Nat.sub_zero]; have em : Nat.min [v].length n = 1 := Nat.min_eq_left h1; rw [em, Ye hn n 1 _ (by omega) (Nat.le_refl _) h1 (by rw [← Gl]; simp) (fun j hj => ?_)]
  · rfl
  · rw [Rf _ _ _ _ _ _ (by simp; omega), if_pos ⟨by omega, by omega⟩]
    have : j - 0 = 0 := by omega
    rw [this]; rfl
theorem meet_v2 (t : List Int) (a b : Int) : Gd t a b = (Fu t a b).map fun c => (c, t) := by
  have e1 : Hi t = De t := rfl; have e2 : Hd t = Db t := rfl; unfold Gd Fu; rw [e1, e2]
  by_cases hc : 0 ≤ (t.length : Int) ∧ (t.length : Int) ≤ (t.length : Int) ∧ (t.length : Int) ≤ (room : Int)
  · rw [Ac hc, Ac hc]
    cases At (De t) (a, List.replicate ((t.length : Int)).toNat false) with
    | none => rfl
    | some x =>
      rw [Option.bind_some, Option.bind_some]
      cases At (Db t x) b with
      | none => rfl
      | some y => rfl
  · have hf : ∀ {R : Type} (k : Option R), Cc (0 ≤ (t.length : Int) ∧ (t.length : Int) ≤ (t.length : Int) ∧ (t.length : Int) ≤ (room : Int)) k = none := fun k => if_neg hc; rw [hf, hf]
    rfl
section
variable {S : Nat → List Nat} {r n : Nat} {P : List Nat}
theorem Inv.tp {at_ : Nat → Nat} {t : List Int} (h : Inv S r n at_ (Bf t)) (hl : t.length = n) : ∀ m x, at_ x ≤ m → x < n → Bf t x ≠ -2 → ∃ k, Tp t x r k := by
  intro m
  induction m with
  | zero =>
    intro x hm hx hp; rcases h.kind x hx with h1 | h1 | ⟨z, hz⟩
    · exact absurd h1 hp
    · subst h1; exact ⟨0, .top (by omega) h.top⟩
    · obtain ⟨_, _, h3, _⟩ := h.up x hx z hz; omega
  | succ m ih =>
    intro x hm hx hp; rcases h.kind x hx with h1 | h1 | ⟨z, hz⟩
    · exact absurd h1 hp
    · subst h1; exact ⟨0, .top (by omega) h.top⟩
    · obtain ⟨z1, z2, z3, _⟩ := h.up x hx z hz; obtain ⟨k, hk⟩ := ih z (by omega) z1 z2; exact ⟨k + 1, .up (by omega) hz hk⟩
def O4 (t l : List Int) (i : Nat) (v : Int) : Prop :=
  (v = -2 ∧ ∀ j, j < i → Bf t (l.getD j 0).toNat = -2) ∨
  ∃ z : Nat, v = (z : Int) ∧ z < t.length ∧ Bf t z ≠ -2 ∧ (∀ w, UpTo (Bf t) z w ↔ ∀ j, j < i → Bf t (l.getD j 0).toNat ≠ -2 → UpTo (Bf t) (l.getD j 0).toNat w)
theorem Vg {at_ : Nat → Nat} {t l : List Int} (ht : t.length ≤ 64) (hll : l.length ≤ 64) (h : Inv S r n at_ (Bf t)) (hl : t.length = n) (hin : ∀ x ∈ l, 0 ≤ x ∧ x < (n : Int)) : ∀ (k i : Nat) (v : Int), i + k = l.length → O4 t l i v →
    ∃ v', At (Cd l) (v, (i : Int), t) = some (v', t) ∧ O4 t l l.length v' := by
  intro k
  induction k with
  | zero =>
    intro i v hi hv
    obtain rfl : i = l.length := by omega
    refine ⟨v, A6 ?_, hv⟩; unfold Cd; simp only [Ee, cond_false]
  | succ k ih =>
    intro i v hi hv
    have hil : i < l.length := by omega
    obtain ⟨x0, x1⟩ := hin _ (Ef (d := 0) hil); have hxe : (((l.getD i 0).toNat : Nat) : Int) = l.getD i 0 := Int.toNat_of_nonneg x0; have hxin : A4 (l.getD i 0) t.length := inbz x0 (by omega)
    have next : ∀ v', Cd l (v, (i : Int), t) = some (.next (v', ((i + 1 : Nat) : Int), t)) → O4 t l (i + 1) v' → ∃ v', At (Cd l) (v, (i : Int), t) = some (v', t) ∧ O4 t l l.length v' := fun v' hs hv' => by
      rw [Bu hs]; exact ih (i + 1) v' (by omega) hv'
    by_cases hp : Bf t (l.getD i 0).toNat = -2
    · have hb : ((t.getD (l.getD i 0).toNat 0 : Int) == -2) = true := beq_iff_eq.2 hp; refine next v ?_ ?_
      · unfold Cd; simp only [Cs hil, cond_true, Aq, hb]; rw [Ac (Dn hil), Ac hxin, Option.bind_some, w1 (by omega)]
      · have hstep : ∀ w, (∀ j, j < i → Bf t (l.getD j 0).toNat ≠ -2 → UpTo (Bf t) (l.getD j 0).toNat w) ↔ ∀ j, j < i + 1 → Bf t (l.getD j 0).toNat ≠ -2 → UpTo (Bf t) (l.getD j 0).toNat w := fun w => by
          refine ⟨fun hj j hj1 hj2 => ?_, fun hj j hj1 => hj j (by omega)⟩
          by_cases e : j = i
          · subst e; exact absurd hp hj2
          · exact hj j (by omega) hj2
        rcases hv with ⟨h1, h2⟩ | ⟨z, h1, h2, h3, h4⟩
        · refine .inl ⟨h1, fun j hj => ?_⟩
          by_cases e : j = i
          · subst e; exact hp
          · exact h2 j (by omega)
        · exact .inr ⟨z, h1, h2, h3, fun w => by rw [h4 w, hstep w]⟩
    · have hb : ((t.getD (l.getD i 0).toNat 0 : Int) == -2) = false := beq_eq_false_iff_ne.2 hp; rcases hv with ⟨h1, h2⟩ | ⟨z, h1, h2, h3, h4⟩
      · subst h1; refine next (l.getD i 0) ?_ (.inr ⟨(l.getD i 0).toNat, hxe.symm, by omega, hp, fun w => ⟨fun hw j hj hj2 => ?_, fun hw => hw i (by omega) hp⟩⟩)
        · unfold Cd; simp only [Cs hil, cond_true, Aq, hb, cond_false, show ((-2 : Int) == -2) = true from rfl]; rw [Ac (Dn hil), Ac hxin, Option.bind_some, w1 (by omega)]
        · by_cases e : j = i
          · subst e; exact hw
          · exact absurd (h2 j (by omega)) hj2
      · subst h1; have hb2 : ((z : Int) == -2) = false := beq_eq_false_iff_ne.2 (by omega); obtain ⟨k1, hk1⟩ := h.tp hl _ z (Nat.le_refl _) (by omega) h3; obtain ⟨k2, hk2⟩ := h.tp hl _ (l.getD i 0).toNat (Nat.le_refl _) (by omega) hp; obtain ⟨c, c1, c2⟩ := Qb (by omega) hk1 hk2; have hcz := (c2 c).1 (.refl _); obtain ⟨jc, _, hjc, _⟩ := hk1.on hcz.1
        have hcp : Bf t c ≠ -2 := by
          show t.getD c 0 ≠ -2
          cases hjc with
          | top _ h => omega
          | up _ h _ => omega
        refine next (c : Int) ?_ (.inr ⟨c, rfl, hjc.lt, hcp, fun w => ?_⟩)
        · rw [hxe] at c1; unfold Cd; simp only [Cs hil, cond_true, Aq, hb, cond_false, hb2, meet_v2, c1, Option.map_some, Option.bind_some]; rw [Ac (Dn hil), Ac hxin, Ac trivial, Option.bind_some, w1 (by omega)]
        · rw [c2 w, h4 w]; refine ⟨fun ⟨a1, a2⟩ j hj hj2 => ?_, fun ha => ⟨fun j hj => ha j (by omega), ha i (by omega) hp⟩⟩
          by_cases e : j = i
          · subst e; exact a2
          · exact a1 j (by omega) hj2
theorem m_meetAll {at_ : Nat → Nat} {t l : List Int} (ht : t.length ≤ 64) (hll : l.length ≤ 64) (h : Inv S r n at_ (Bf t)) (hl : t.length = n) (hin : ∀ x ∈ l, 0 ≤ x ∧ x < (n : Int)) :
    ∃ v, D2 t l = some (v, t) ∧ O4 t l l.length v := by
  obtain ⟨v, h1, h2⟩ := Vg ht hll h hl hin l.length 0 (-2) (by omega) (.inl ⟨rfl, fun j hj => absurd hj (Nat.not_lt_zero _)⟩); refine ⟨v, ?_, h2⟩; unfold D2; rw [show ((0 : Int)) = ((0 : Nat) : Int) from rfl, h1]
  rfl
end
section
variable {L : List (List Int)} (hm : Ez L = true) {r : Nat} {P : List Nat}
include hm
theorem sN_iff {p y : Nat} (hp : p < L.length) : y ∈ sN L p ↔ Ng L p y = true := by
  rw [On]; obtain ⟨_, _, h3⟩ := mayS_iff.1 hm
  constructor
  · intro h; obtain ⟨x, hx, rfl⟩ := List.mem_map.1 h; have := H5 (h3 p hp) hx; rw [Int.toNat_of_nonneg this.1]; exact hx
  · intro h; exact List.mem_map.2 ⟨_, h, Aq y⟩
theorem L7 {y : Nat} (hy : y < L.length) {x : Int} : x ∈ (Ec L).getD y [] ↔ ∃ p : Nat, x = (p : Int) ∧ p < L.length ∧ y ∈ sN L p := by
  rw [Ph hy]; unfold E3; rw [mem_filt]
  constructor
  · rintro ⟨k, h1, h2, h3⟩; exact ⟨k, h1, h2, (sN_iff hm h2).2 h3⟩
  · rintro ⟨k, h1, h2, h3⟩; exact ⟨k, h1, h2, (sN_iff hm h2).1 h3⟩
theorem V2 (o : Ordered (sN L) r L.length P) {t : List Int} {i : Nat} (h : Ready (sN L) r L.length P t i) (hi : i < P.length) :
    D2 t ((Ec L).getD (P.getD i 0) []) = some ((Gm (sN L) L.length t (P.getD i 0) : Int), t) := by
  obtain ⟨hL1, hL64, _⟩ := mayS_iff.1 hm; have hyn : P.getD i 0 < L.length := o.lt (List.mem_cons_of_mem _ (Ih hi))
  have hlen : ((Ec L).getD (P.getD i 0) []).length ≤ 64 := by
    rw [Ph hyn]; have := Kh L L.length (P.getD i 0); omega
  obtain ⟨v, h1, h2⟩ := m_meetAll (by rw [h.len]; exact hL64) hlen h.inv h.len fun x hx => by
    obtain ⟨p, rfl, hp, _⟩ := (L7 hm hyn).1 hx; omega
  rw [h1]; have hb := h.best o hi
  have mem : ∀ p, p < L.length → P.getD i 0 ∈ sN L p → ∃ j, j < ((Ec L).getD (P.getD i 0) []).length ∧ (((Ec L).getD (P.getD i 0) []).getD j 0).toNat = p := fun p hp hy => by
    obtain ⟨j, hj, e⟩ := List.getElem_of_mem ((L7 hm hyn).2 ⟨p, rfl, hp, hy⟩); exact ⟨j, hj, by rw [Ag _ _ _ hj, e, Aq]⟩
  have mem' : ∀ j, j < ((Ec L).getD (P.getD i 0) []).length → (((Ec L).getD (P.getD i 0) []).getD j 0).toNat < L.length ∧ P.getD i 0 ∈ sN L (((Ec L).getD (P.getD i 0) []).getD j 0).toNat := fun j hj => by
    obtain ⟨p, e, hp, hy⟩ := (L7 hm hyn).1 (Ef (d := (0 : Int)) hj); rw [e, Aq]; exact ⟨hp, hy⟩
  rcases h2 with ⟨rfl, h3⟩ | ⟨z, rfl, hz, hz2, h4⟩
  · obtain ⟨p, hp, hyp, hp2, _⟩ := hb.fwd; obtain ⟨j, hj, e⟩ := mem p hp hyp; exact absurd (by rw [← e]; exact h3 j hj) hp2
  · have hbest : Zl (sN L) L.length (Bf t) (P.getD i 0) z := fun w => by
      rw [h4 w]; refine ⟨fun ha p hp hyp hp2 => ?_, fun ha j hj hj2 => ?_⟩
      · obtain ⟨j, hj, e⟩ := mem p hp hyp; have := ha j hj (by rw [e]; exact hp2); rwa [e] at this
      · obtain ⟨q1, q2⟩ := mem' j hj; exact ha _ q1 q2 hj2
    rw [h.best_eq o hi (by rw [← h.len]; exact hz) hz2 hbest]
end
end
end Go.Proofs.Ytjpacggpipflcaa

namespace Go.Proofs.Ytjpacggpipflcaa
noncomputable section
open Go Go.RowKit
set_option linter.unusedVariables false
set_option linter.unusedSimpArgs false
theorem Xr {P : List Nat} {i : Nat} (h : i < P.length) : (Gs P).getD i 0 = ((P.getD i 0 : Nat) : Int) := by
  unfold Gs; rw [Ag _ _ _ (by simpa using h), Ag _ _ _ h, List.getElem_map]
  rfl
theorem Yk {t : List Int} {x : Nat} {v : Int} (hx : x < t.length) (h : t.getD x 0 = v) : t.set x v = t := by
  subst h; rw [Ag _ _ _ hx]; exact List.set_getElem_self hx
section
variable {L : List (List Int)} (hm : Ez L = true) {r : Nat} {P : List Nat} (o : Ordered (sN L) r L.length P)
include hm o
theorem Y2 {t0 : List Int} (h : Ready (sN L) r L.length P t0 0) : ∀ (k i : Nat) (b : Bool), i + k = P.length →
    ∃ b', At (Cx (Gt L) (Gs (r :: P))) (b, (i : Int), Lg (sN L) L.length P t0 i) = some (b', Lg (sN L) L.length P t0 P.length) ∧
      (b' = false ↔ b = false ∧ ∀ j, i ≤ j → j < P.length → Bf (Lg (sN L) L.length P t0 j) (P.getD j 0) = (Gm (sN L) L.length (Lg (sN L) L.length P t0 j) (P.getD j 0) : Int)) := by
  have hP64 : P.length ≤ 64 := by
    have h1 := Ig L.length (r :: P) o.nodup fun x hx => o.lt hx; have h2 := (mayS_iff.1 hm).2.1; simp at h1; omega
  have hdl : (Gs (r :: P)).drop (1 : Int).toNat = Gs P := rfl
  have hlen : (Gs P).length = P.length := by simp [Gs]
  intro k
  induction k with
  | zero =>
    intro i b hi
    obtain rfl : i = P.length := by omega
    refine ⟨b, A6 ?_, fun h => ⟨h, fun j h1 h2 => by omega⟩, fun h => h.1⟩; unfold Cx; simp only [hdl, hlen, Ee, cond_false]
  | succ k ih =>
    intro i b hi
    have hil : i < P.length := by omega
    have rd := h.round o i (by omega); have hma := V2 hm o rd hil; have hyn : P.getD i 0 < L.length := o.lt (List.mem_cons_of_mem _ (Ih hil))
    have hyt : P.getD i 0 < (Lg (sN L) L.length P t0 i).length := by rw [rd.len]; exact hyn
    have hpred : (Gt L).Pred = Ec L := rfl
    by_cases he : Bf (Lg (sN L) L.length P t0 i) (P.getD i 0) = (Gm (sN L) L.length (Lg (sN L) L.length P t0 i) (P.getD i 0) : Int)
    · have hb : ((Gm (sN L) L.length (Lg (sN L) L.length P t0 i) (P.getD i 0) : Int) != (Lg (sN L) L.length P t0 i).getD (P.getD i 0) 0) = false := by
        have : (Lg (sN L) L.length P t0 i).getD (P.getD i 0) 0 = _ := he; rw [this]; simp
      have hnx : Lg (sN L) L.length P t0 (i + 1) = Lg (sN L) L.length P t0 i := Yk hyt he
      have hs : Cx (Gt L) (Gs (r :: P)) (b, (i : Int), Lg (sN L) L.length P t0 i) = some (.next (b, ((i + 1 : Nat) : Int), Lg (sN L) L.length P t0 (i + 1))) := by
        unfold Cx; simp only [hdl, hlen, Cs hil, cond_true, Aq, Xr hil, hpred, hma, Option.bind_some, hb, cond_false]; rw [Ac (Dn hil), Ac (Dn (by rw [Ko]; exact hyn)), Ac trivial, Ac (Dn hyt), Option.bind_some, w1 (by omega), hnx]
      obtain ⟨b', e1, e2⟩ := ih (i + 1) b (by omega); refine ⟨b', by rw [Bu hs, e1], fun h => ?_, fun ⟨h1, h2⟩ => e2.2 ⟨h1, fun j hj => h2 j (by omega)⟩⟩; obtain ⟨h1, h2⟩ := e2.1 h; refine ⟨h1, fun j hj1 hj2 => ?_⟩
      by_cases e : j = i
      · subst e; exact he
      · exact h2 j (by omega) hj2
    · have hb : ((Gm (sN L) L.length (Lg (sN L) L.length P t0 i) (P.getD i 0) : Int) != (Lg (sN L) L.length P t0 i).getD (P.getD i 0) 0) = true := by
        rw [bne_iff_ne]; exact fun e => he e.symm
      have hs : Cx (Gt L) (Gs (r :: P)) (b, (i : Int), Lg (sN L) L.length P t0 i) = some (.next (true, ((i + 1 : Nat) : Int), Lg (sN L) L.length P t0 (i + 1))) := by
        unfold Cx; simp only [hdl, hlen, Cs hil, cond_true, Aq, Xr hil, hpred, hma, Option.bind_some, hb]; rw [Ac (Dn hil), Ac (Dn (by rw [Ko]; exact hyn)), Ac trivial, Ac (Dn hyt), Ac (Dn hyt), Option.bind_some, w1 (by omega)]
        rfl
      obtain ⟨b', e1, e2⟩ := ih (i + 1) true (by omega); refine ⟨b', by rw [Bu hs, e1], fun h => ?_, fun ⟨h1, h2⟩ => absurd (h2 i (Nat.le_refl _) hil) he⟩; obtain ⟨h1, _⟩ := e2.1 h; cases h1
theorem round_all {t0 : List Int} (h : Ready (sN L) r L.length P t0 0) : ∃ b, At (Cx (Gt L) (Gs (r :: P))) (false, (0 : Int), t0) = some (b, Lg (sN L) L.length P t0 P.length) ∧ (b = false ↔ K3 (sN L) L.length P t0) := by
  obtain ⟨b, e1, e2⟩ := Y2 hm o h P.length 0 false (by omega); refine ⟨b, e1, e2.trans ⟨fun ⟨_, h2⟩ => ?_, fun hs => ⟨rfl, fun j _ hj => ?_⟩⟩⟩
  · have key : ∀ j, j ≤ P.length → Lg (sN L) L.length P t0 j = t0 := by
      intro j
      induction j with
      | zero => intro _; rfl
      | succ j ih =>
        intro hj; have ih' := ih (by omega); have rd := h.round o j (by omega)
        have hyn : P.getD j 0 < (Lg (sN L) L.length P t0 j).length := by rw [rd.len]; exact o.lt (List.mem_cons_of_mem _ (Ih (by omega)))
        have : Lg (sN L) L.length P t0 (j + 1) = Lg (sN L) L.length P t0 j := Yk hyn (h2 j (Nat.zero_le _) (by omega)); rw [this, ih']
    intro i hi; have := h2 i (Nat.zero_le _) hi; rwa [key i (by omega)] at this
  · rw [Lm o h.len hs j (by omega)]; exact hs j hj
open Classical in
theorem tree_F3 (j : Nat) : Dl (Gt L) (Gs (r :: P), Ra (sN L) L.length P (D6 L.length r) j) = some (if K3 (sN L) L.length P (Ra (sN L) L.length P (D6 L.length r) j) then .done (Ra (sN L) L.length P (D6 L.length r) (j + 1)) else .next (Gs (r :: P), Ra (sN L) L.length P (D6 L.length r) (j + 1))) := by
  obtain ⟨b, e1, e2⟩ := round_all hm o (Ready.rounds o j); have hL2 : Hp (Gt L) (Gs (r :: P)) = Cx (Gt L) (Gs (r :: P)) := rfl
  have hlen : (0 : Int) ≤ 1 ∧ (1 : Int) ≤ ((Gs (r :: P)).length : Int) := by simp [Gs]; omega
  unfold Dl; simp only [hL2, e1, Option.bind_some]; rw [Ac hlen]
  cases b with
  | false => rw [if_pos (e2.1 rfl)]; rfl
  | true => rw [if_neg (fun h => by have := e2.2 h; cases this)]; rfl
theorem Xd : ∃ J, K3 (sN L) L.length P (Ra (sN L) L.length P (D6 L.length r) J) ∧ At (Dl (Gt L)) (Gs (r :: P), D6 L.length r) = some (Ra (sN L) L.length P (D6 L.length r) J) := by
  obtain ⟨J, h1, h2⟩ := stops o; refine ⟨J, h2, ?_⟩
  have key : ∀ d j, j + d = J → At (Dl (Gt L)) (Gs (r :: P), Ra (sN L) L.length P (D6 L.length r) j) = some (Ra (sN L) L.length P (D6 L.length r) J) := by
    intro d
    induction d with
    | zero =>
      intro j hj
      obtain rfl : j = J := by omega
      have hF := tree_F3 hm o j; rw [if_pos h2] at hF; rw [A6 hF]; have : Ra (sN L) L.length P (D6 L.length r) (j + 1) = Ra (sN L) L.length P (D6 L.length r) j := Lm o (Ready.rounds o j).len h2 P.length (Nat.le_refl _); rw [this]
    | succ d ih =>
      intro j hj; have hF := tree_F3 hm o j; rw [if_neg (h1 j (by omega))] at hF; rw [Bu hF]; exact ih (j + 1) (by omega)
  exact key J 0 (by omega)
end
theorem m_Tree (g : An) (r : Int) (h1 : Fits g.Succ) (h2 : Fits g.Pred) : Hh g r = some (treeG g r) := by
  unfold treeG
  by_cases hc : H9 g = true ∧ 0 ≤ r ∧ r < (g.Succ.length : Int)
  · rw [if_pos hc]; obtain ⟨hG, h0, hlt⟩ := hc; obtain ⟨hm, hg⟩ := Mk hG; obtain ⟨hL1, hL64, _⟩ := mayS_iff.1 hm
    have hr : r.toNat < g.Succ.length := by omega
    have hrn : ((r.toNat : Nat) : Int) = r := Int.toNat_of_nonneg h0; obtain ⟨O, hO⟩ := Ord.exist (I5 hm) hr; have hord := (Qs g h1 trivial r).1 hG h0 hlt O hO; obtain ⟨P, rfl, o⟩ := hO.ordered hr (I5 hm); obtain ⟨J, hJ, hl⟩ := Xd hm o; have ht := (P3 o hJ).eq hm hr o; rw [ht] at hl; have hlen : (((Gs (r.toNat :: P)).length : Int) == 0) = false := beq_eq_false_iff_ne.2 (by simp [Gs]; omega)
    have hlen2 : (0 : Int) ≤ 1 ∧ (1 : Int) ≤ ((Gs (r.toNat :: P)).length : Int) := by simp [Gs]; omega
    have hL2 : Hp g (Gs (r.toNat :: P)) = Cx g (Gs (r.toNat :: P)) := rfl
    have hst : (Ki (Dl g (Gs (r.toNat :: P), D6 g.Succ.length r.toNat)) (Dl g)) = some (Hy g.Succ r.toNat) := by
      rw [Li, hg]; exact hl
    unfold Hh; rw [hord, Option.bind_some, hlen, cond_false, m_repeat hL1 hL64, Option.bind_some, Ac (inbz h0 (by simpa using hlt)), Ac hlen2]
    have : (Dl g (Gs (r.toNat :: P), D6 g.Succ.length r.toNat)) = (At (Cx g (Gs (r.toNat :: P))) (false, 0, (List.replicate g.Succ.length (-2 : Int)).set r.toNat (-1))).bind (fun x22 => (match x22 with | (b10, l11) => (bif b10 then (some (.next (Gs (r.toNat :: P), l11))) else (some (.done l11))))) := by
      unfold Dl D6; simp only [hL2]; rw [Ac hlen2]
    rw [this] at hst; refine Eq.trans ?_ (congrArg (fun x : Option (List Int) => x.bind fun x42 => some x42) hst)
    rfl
  · rw [if_neg hc]; unfold Hh
    have : (H9 g && (decide (0 ≤ r) && decide (r < (g.Succ.length : Int)))) = false := by
      rw [Bool.eq_false_iff]; intro h; rw [Bool.and_eq_true, Bool.and_eq_true, decide_eq_true_eq, decide_eq_true_eq] at h; exact hc h
    rw [(Qs g h1 trivial r).2 this, Option.bind_some]
    rfl
end
end Go.Proofs.Ytjpacggpipflcaa

namespace Go.Proofs.Ytjpacggpipflcaa
noncomputable section
open Go Go.RowKit
set_option linter.unusedVariables false
set_option linter.unusedSimpArgs false
section
variable {L : List (List Int)} (hm : Ez L = true)
include hm
theorem over_tree {a b : Nat} (ha : a < L.length) (hb : b < L.length) : Uz (Hy L 0) (a : Int) (b : Int) = F8 L 0 a b := by
  have h1 := (mayS_iff.1 hm).1; obtain ⟨P, _, o, h⟩ := Pc hm (r := 0) (by omega); rw [Bool.eq_iff_iff, h.over_dom o ha hb, L1 hm (by omega) hb]
def Ts (L : List (List Int)) (a : Nat) (l : List Int) : List (Int × Int) := (l.filter fun y => F8 L 0 y.toNat a).map fun y => ((a : Int), y)
theorem rowW_all {a : Nat} (ha : a < L.length) : Ts L a (L.getD a []) = H8 L a L.length := by
  obtain ⟨h1, h64, hok⟩ := mayS_iff.1 hm
  have e : (L.getD a []).filter (fun y => F8 L 0 y.toNat a) = ((List.range L.length).filter (Ni L a)).map Int.ofNat := by
    refine Np (List.Pairwise.filter _ (X4 (hok a ha))) (Lt _ _) fun x => ?_; rw [mem_filt, List.mem_filter]
    constructor
    · rintro ⟨hx, ho⟩; obtain ⟨x0, x1⟩ := H5 (hok a ha) hx; refine ⟨x.toNat, by omega, by omega, ?_⟩; unfold Ni; rw [ho, Bool.and_true, On, Int.toNat_of_nonneg x0]; exact hx
    · rintro ⟨k, rfl, hk, hb⟩; unfold Ni at hb; rw [Bool.and_eq_true, On] at hb; exact ⟨hb.1, by rw [Aq]; exact hb.2⟩
  unfold Ts H8; rw [e, List.map_map]
  rfl
theorem prog_L1 {a : Nat} (ha : a < L.length) (l : List (Int × Int)) (hl : l.length ≤ 10000) : At (Dv (Gt L) (Hy L 0) (a : Int)) (l, (0 : Int)) = some (l ++ H8 L a L.length) := by
  have hroom : (1000000 : Nat) ≤ room := by decide
  have hg : (Gt L).Succ = L := rfl; obtain ⟨h1, h64, hok⟩ := mayS_iff.1 hm
  have hrl : (L.getD a []).length ≤ 64 := by have := Jg (hok a ha); omega
  have hlen : ∀ m, (Ts L a ((L.getD a []).take m)).length ≤ m := fun m => by
    unfold Ts; rw [List.length_map]; exact Nat.le_trans (List.length_filter_le ..) (by rw [List.length_take]; omega)
  have e0 : (l, (0 : Int)) = (l ++ Ts L a ((L.getD a []).take 0), ((0 : Nat) : Int)) := by simp [Ts]
  rw [← rowW_all hm ha, e0]; refine Dc (Dv (Gt L) (Hy L 0) (a : Int)) (fun m => (l ++ Ts L a ((L.getD a []).take m), ((m : Nat) : Int))) _ (L.getD a []).length (fun m hmm => ?_) ?_
  · show Dv _ _ _ (_, (m : Int)) = _
    unfold Dv; have hlm := hlen m; obtain ⟨z0, z1⟩ := H5 (hok a ha) (Ef (d := (0 : Int)) hmm); have ho := over_tree hm (a := ((L.getD a []).getD m 0).toNat) (b := a) (by omega) ha; rw [Int.toNat_of_nonneg z0] at ho
    have hO : Hb (Hy L 0) ((L.getD a []).getD m 0) (a : Int) = some (F8 L 0 ((L.getD a []).getD m 0).toNat a) := by rw [m_Over (by rw [Pl]; omega), ho]
    have ht : Ts L a ((L.getD a []).take (m + 1)) = Ts L a ((L.getD a []).take m) ++ (if F8 L 0 ((L.getD a []).getD m 0).toNat a = true then [((a : Int), (L.getD a []).getD m 0)] else []) := by
      unfold Ts; rw [Ps hmm, List.filter_append, List.map_append, List.filter_cons, List.filter_nil]
      split <;> rfl
    simp only [hg, Aq, Cs hmm, cond_true, hO, Option.bind_some]; rw [Ac (Dn hmm), ht]
    cases F8 L 0 ((L.getD a []).getD m 0).toNat a with
    | true => rw [cond_true, Ac (by rw [List.length_append]; simp only [List.length_cons, List.length_nil]; omega), Option.bind_some, w1 (by omega), if_pos rfl, List.append_assoc]
    | false => rw [cond_false, Option.bind_some, w1 (by omega), if_neg (by simp), List.append_nil]
  · show Dv _ _ _ (_, _) = _
    unfold Dv; simp only [hg, Aq, Ee, cond_false]; rw [List.take_length]
theorem prog_L2 : At (Cp (Gt L) (Hy L 0)) (([] : List (Int × Int)), (0 : Int)) = some (C3 L) := by
  have hg : (Gt L).Succ = L := rfl; obtain ⟨_, h64, _⟩ := mayS_iff.1 hm; have htl := Pl L 0
  have e : C3 L = Mc L (Hy L 0).length := by rw [htl]; rfl
  rw [e]; refine Dc (Cp (Gt L) (Hy L 0)) (fun m => (Mc L m, ((m : Nat) : Int))) _ (Hy L 0).length (fun m hmm => ?_) ?_
  · show Cp _ _ (_, (m : Int)) = _
    unfold Cp; have h1 := Tb (L := L) m; have h2 : m * L.length ≤ 64 * 64 := Nat.mul_le_mul (by omega) (by omega); simp only [hg, Cs hmm, cond_true]; rw [Ac (Dn (by omega)), prog_L1 hm (by omega) _ (by omega), Option.bind_some, w1 (by omega), Xn]
  · show Cp _ _ (_, _) = _
    unfold Cp; simp only [Ee, cond_false]
end
theorem Kg (g : An) (h1 : Fits g.Succ) (h2 : Fits g.Pred) : Eh g = some (Nr g) := by
  unfold Eh; rw [m_Tree g 0 h1 h2, Option.bind_some]; unfold treeG Nr
  cases hG : H9 g with
  | false =>
    rw [if_neg (by simp), if_neg (by simp)]; rw [A6 (f := Cp g []) (x := ([] : List (Int × Int))) (by unfold Cp; rfl)]
    rfl
  | true =>
    obtain ⟨hm, hg⟩ := Mk hG; have hL := (mayS_iff.1 hm).1; have hl := prog_L2 hm; rw [← hg] at hl; rw [if_pos ⟨rfl, by omega, by omega⟩, if_pos rfl]
    show Option.bind (At (Cp g (Hy g.Succ 0)) _) _ = _
    rw [hl]
    rfl
def G1 (W : List (Int × Int)) (h : Nat) : List Int := (W.filter fun p => p.2 == (h : Int)).map Prod.fst
def Lc (W : List (Int × Int)) : List (List Int) := (List.range 64).map (G1 W)
theorem Va {W : List (Int × Int)} {h : Nat} (hh : h < 64) : (Lc W).getD h [] = G1 W h := by unfold Lc; rw [I9 hh]
theorem Ur (W : List (Int × Int)) (h : Nat) : (G1 W h).length ≤ W.length := by unfold G1; rw [List.length_map]; exact List.length_filter_le ..
theorem Pu {W : List (Int × Int)} (hW : W.length ≤ 4096) (hin : ∀ p ∈ W, 0 ≤ p.2 ∧ p.2 < 64) : At (Ej W) ((0 : Int), List.replicate 64 ([] : List Int)) = some (Lc W) := by
  have hroom : (10000 : Nat) ≤ room := by decide
  have e0 : ((0 : Int), List.replicate 64 ([] : List Int)) = (((0 : Nat) : Int), Lc (W.take 0)) := by
    have : List.replicate 64 ([] : List Int) = Lc (W.take 0) := by
      unfold Lc; rw [List.take_zero]
      rfl
    rw [this]; rfl
  have e1 : Lc W = Lc (W.take W.length) := by rw [List.take_length]
  rw [e0, e1]; refine Dc (Ej W) (fun m => (((m : Nat) : Int), Lc (W.take m))) _ W.length (fun m hmm => ?_) ?_
  · show Ej W ((m : Int), _) = _
    unfold Ej; obtain ⟨z0, z1⟩ := hin _ (Ef (d := ((0 : Int), (0 : Int))) hmm); obtain ⟨t, ht⟩ : ∃ t : Nat, (W.getD m ((0 : Int), (0 : Int))).2 = (t : Int) := ⟨_, (Int.toNat_of_nonneg z0).symm⟩
    have ht64 : t < 64 := by omega
    have hp : Fj 64 [] (Lc (W.take m)) = Lc (W.take m) := (Uu (by simp [Lc])).symm; have hl := Ur (W.take m) t; rw [List.length_take] at hl; simp only [Cs hmm, cond_true, Aq, ht, hp, Va ht64]; rw [Ac (Dn hmm), Ac (Dn ht64), Ac (Dn ht64), Ac (by simp only [List.length_cons, List.length_nil]; omega), Ac (Dn ht64), w1 (by omega)]
    congr 3
    unfold Lc; rw [Pj]; refine Gx fun x hx => ?_
    have htk : W.take (m + 1) = W.take m ++ [W.getD m ((0 : Int), (0 : Int))] := by rw [List.take_succ_eq_append_getElem hmm, Ag _ _ _ hmm]
    have : G1 (W.take (m + 1)) x = G1 (W.take m) x ++ (if x = t then [(W.getD m ((0 : Int), (0 : Int))).1] else []) := by
      unfold G1; rw [htk, List.filter_append, List.map_append, List.filter_cons, List.filter_nil, ht]
      by_cases e : x = t
      · subst e; rw [if_pos (by simp), if_pos rfl]; rfl
      · rw [if_neg (by simp; omega), if_neg e]; rfl
    rw [this]
    by_cases e : x = t
    · subst e; rw [if_pos rfl, if_pos rfl]
    · rw [if_neg e, if_neg e, List.append_nil]
  · show Ej W (_, _) = _
    unfold Ej; simp only [Ee, cond_false]
theorem R5 {R : List Bool} {s : Nat → Bool} (h : RelS R s) : Du R = some (((List.range 64).filter s).map Int.ofNat) := by
  have hroom : (1000 : Nat) ≤ room := by decide
  unfold Du
  have hl : At (B8 R) (([] : List Int), (0 : Int)) = some (((List.range 64).filter s).map Int.ofNat) := by
    refine Dc (B8 R) (fun m => (((List.range m).filter s).map Int.ofNat, ((m : Nat) : Int))) _ 64 (fun m hmm => ?_) ?_
    · show B8 R (_, (m : Int)) = _
      unfold B8; have hlen := X8 s m
      have hd : decide ((m : Int) < (64 : Int)) = true := by simpa using (show (m : Int) < 64 by omega)
      simp only [hd, cond_true, Aq, h m hmm]; rw [Ac (Dn hmm), filt_succ]
      cases s m with
      | true => rw [cond_true, Ac (by simp only [List.length_cons, List.length_nil]; omega), Option.bind_some, w1 (by omega), if_pos rfl]
      | false => rw [cond_false, Option.bind_some, w1 (by omega), if_neg (by simp), List.append_nil]
    · show B8 R (_, _) = _
      unfold B8
      rfl
  rw [hl]
  rfl
theorem R0 {O : List Nat} (hO : ∀ z ∈ O, z < 64) (hl : O.length < 1000) : ∃ l, Fl (Gs O) = some l ∧ RelS l (fun z => O.contains z) := by
  have hlen : (Gs O).length = O.length := by simp [Gs]
  have key : ∀ (k i : Nat) (l : List Bool) (s : Nat → Bool), i + k = O.length → RelS l s → ∃ l', At (D3 (Gs O)) ((i : Int), l) = some l' ∧ RelS l' (fun z => s z || (O.drop i).contains z) := by
    intro k
    induction k with
    | zero =>
      intro i l s hi hr
      obtain rfl : i = O.length := by omega
      refine ⟨l, A6 ?_, fun z hz => ?_⟩
      · unfold D3; simp only [hlen, Ee, cond_false]
      · rw [hr z hz, List.drop_length]; simp
    | succ k ih =>
      intro i l s hi hr
      have hil : i < O.length := by omega
      have hz : O[i] < 64 := hO _ (List.getElem_mem hil)
      have hr' : RelS (Dx 64 false l O[i] true) (fun z => s z || decide (z = O[i])) := fun z hz' => by
        rw [G5 hz', hr z hz']
        by_cases e : z = O[i]
        · simp [e]
        · simp [e]
      obtain ⟨l', h1, h2⟩ := ih (i + 1) _ _ (by omega) hr'
      have hs : D3 (Gs O) ((i : Int), l) = some (.next (((i + 1 : Nat) : Int), Dx 64 false l O[i] true)) := by
        unfold D3; simp only [hlen, Cs hil, cond_true, Aq, ofN_at hil]; rw [Ac (Dn hil), Ac (Dn hz), w1 (by omega)]
      refine ⟨l', by rw [Bu hs, h1], fun z hz' => ?_⟩; rw [h2 z hz', List.drop_eq_getElem_cons hil]
      show (s z || decide (z = O[i]) || (List.drop (i + 1) O).contains z) = (s z || (O[i] :: List.drop (i + 1) O).contains z)
      rw [List.contains_cons, Bool.or_assoc]
      rfl
  obtain ⟨l', e1, e2⟩ := key O.length 0 (List.replicate 64 false) (fun _ => false) (by omega) (fun z hz => Gh); refine ⟨l', ?_, fun z hz => ?_⟩
  · unfold Fl
    show Option.bind (At (D3 (Gs O)) (((0 : Nat) : Int), _)) _ = _
    rw [e1]
    rfl
  · rw [e2 z hz]
    show (false || (List.drop 0 O).contains z) = O.contains z
    rw [List.drop_zero, Bool.false_or]
theorem Av.head {S : Nat → List Nat} {h x y b : Nat} (hy : y ≠ h) (hx : x ∈ S y) (k : Av S x h b) : Av S y h b := by
  induction k with
  | root hx' => exact .step (.root hy) hx hx'
  | step _ h2 h3 ih => exact .step ih h2 h3
theorem filt_cut {n : Nat} {s p : Nat → Bool} (hn : n ≤ 64) (h : ∀ x, x < 64 → s x = (decide (x < n) && p x)) : ((List.range 64).filter s).map Int.ofNat = ((List.range n).filter p).map Int.ofNat := by
  refine Np (Lt _ _) (Lt _ _) fun x => ?_; rw [mem_filt, mem_filt]
  constructor
  · rintro ⟨k, rfl, hk, hs⟩; rw [h k hk, Bool.and_eq_true, decide_eq_true_eq] at hs; exact ⟨k, rfl, hs.1, hs.2⟩
  · rintro ⟨k, rfl, hk, hs⟩; exact ⟨k, rfl, by omega, by rw [h k (by omega), hs, Bool.and_true]; exact decide_eq_true hk⟩
section
variable {L : List (List Int)} (hm : Ez L = true)
include hm
structure Goes (L : List (List Int)) (re : Nat → Bool) (h : Nat) (B : List Int) (Q : Nat → Prop) (s : Nat → Bool) (rest : List Int) : Prop where
  inr : ∀ x ∈ rest, 0 ≤ x ∧ x < (L.length : Int)
  head : s h = true
  only : ∀ x, s x = true → x = h ∨ Q x
  onlyr : ∀ x : Nat, (x : Int) ∈ rest → re x = true → x = h ∨ Q x
  begs : ∀ b : Nat, (b : Int) ∈ B → re b = true → s b = true ∨ (b : Int) ∈ rest
  preds : ∀ x, s x = true → x ≠ h → ∀ y, y < L.length → x ∈ sN L y → re y = true → s y = true ∨ (y : Int) ∈ rest
theorem body_loop {re : Nat → Bool} {h : Nat} {B : List Int} {Q : Nat → Prop} {Re : List Bool} (hRe : RelS Re re) (hQn : ∀ x, Q x → x < L.length) (hQ : ∀ x, Q x → ∀ y, y < L.length → x ∈ sN L y → re y = true → y = h ∨ Q y) :
    ∀ (m : Nat) (R : List Bool) (s : Nat → Bool) (rest : List Int), 65 * Tn 64 s + rest.length ≤ m → m ≤ 10000 → RelS R s → Goes L re h B Q s rest →
      ∃ s', At (Do (Ec L) Re) (R, rest) = some (((List.range 64).filter s').map Int.ofNat) ∧ Goes L re h B Q s' [] := by
  have hroom : (100000 : Nat) ≤ room := by decide
  obtain ⟨h1, h64, hok⟩ := mayS_iff.1 hm; have hpl := Ko L; intro m
  induction m with
  | zero =>
    intro R s rest hmeas _ hR hG; obtain rfl : rest = [] := List.eq_nil_of_length_eq_zero (by omega); refine ⟨s, A6 ?_, hG⟩; unfold Do; simp only [List.length_nil]
    show (bif (((0 : Nat) : Int) == (0 : Int)) then _ else _) = _
    rw [show ((((0 : Nat) : Int) == (0 : Int))) = true from rfl, cond_true, R5 hR]
    rfl
  | succ m ih =>
    intro R s rest hmeas hm1 hR hG; rcases List.eq_nil_or_concat rest with rfl | ⟨st, a, rfl⟩
    · refine ⟨s, A6 ?_, hG⟩; unfold Do
      show (bif (((0 : Nat) : Int) == (0 : Int)) then _ else _) = _
      rw [show ((((0 : Nat) : Int) == (0 : Int))) = true from rfl, cond_true, R5 hR]
      rfl
    · rw [List.concat_eq_append] at hG hmeas ⊢; rw [List.length_append, List.length_singleton] at hmeas; obtain ⟨a0, a1⟩ := hG.inr a (by simp); obtain ⟨n, rfl⟩ : ∃ n : Nat, a = (n : Int) := ⟨_, (Int.toNat_of_nonneg a0).symm⟩
      have hn : n < L.length := by omega
      have htop := top (st := st) (a := (n : Int)) (by omega); have htopi := topi (st := st) (a := (n : Int)) (by omega)
      have hne : (((((st ++ [(n : Int)]).length : Nat) : Int)) == (0 : Int)) = false := by
        rw [beq_eq_false_iff_ne, List.length_append, List.length_singleton]; omega
      have hgd : (st ++ [(n : Int)]).getD st.length 0 = (n : Int) := by rw [List.getD_eq_getElem?_getD, List.getElem?_append_right (Nat.le_refl _)]; simp
      have htk : (st ++ [(n : Int)]).take st.length = st := by rw [List.take_append_of_le_length (Nat.le_refl _), List.take_length]
      have hi1 : A4 ((st.length : Nat) : Int) (st ++ [(n : Int)]).length := Dn (by rw [List.length_append, List.length_singleton]; omega); have hi2 : 0 ≤ ((st.length : Nat) : Int) ∧ 0 + st.length ≤ (st ++ [(n : Int)]).length := ⟨by omega, by rw [List.length_append, List.length_singleton]; omega⟩; have hi3 : A4 ((n : Nat) : Int) 64 := Dn (by omega)
      cases hc : re n && !s n with
      | true =>
        rw [Bool.and_eq_true, Bool.not_eq_true'] at hc; obtain ⟨hre, hsn⟩ := hc; have hpr : (Ec L).getD n [] = E3 L L.length n := Ph hn
        have hpm : ∀ x ∈ E3 L L.length n, ∃ p : Nat, x = (p : Int) ∧ p < L.length ∧ n ∈ sN L p := fun x hx => by rw [← hpr] at hx; exact (L7 hm hn).1 hx
        have hplen : (E3 L L.length n).length ≤ 64 := by have := Kh L L.length n; omega
        have hcn := Kq (n := 64) (s := s) (y := n) (by omega) hsn; have hQa : n = h ∨ Q n := hG.onlyr n (by simp) hre
        have hnh : n ≠ h := by rintro rfl; rw [hG.head] at hsn; cases hsn
        have hQn' : Q n := hQa.resolve_left hnh
        have hG' : Goes L re h B Q (upd s n) (st ++ E3 L L.length n) := by
          refine ⟨fun x hx => ?_, upd_true.2 (.inr hG.head), fun x hx => ?_, fun x hx hrx => ?_, fun b hb hrb => ?_, fun x hx hxh y hy hxy hry => ?_⟩
          · rcases List.mem_append.1 hx with h | h
            · exact hG.inr x (by simp [h])
            · obtain ⟨p, rfl, hp, _⟩ := hpm x h; omega
          · rcases upd_true.1 hx with rfl | h
            · exact .inr hQn'
            · exact hG.only x h
          · rcases List.mem_append.1 hx with h | h
            · exact hG.onlyr x (by simp [h]) hrx
            · obtain ⟨p, e, hp, hnp⟩ := hpm _ h
              obtain rfl : x = p := by omega
              exact hQ n hQn' x hp hnp hrx
          · rcases hG.begs b hb hrb with h | h
            · exact .inl (upd_true.2 (.inr h))
            · rcases List.mem_append.1 h with h | h
              · exact .inr (by simp [h])
              · rw [List.mem_singleton] at h; exact .inl (upd_true.2 (.inl (by omega)))
          · rcases upd_true.1 hx with rfl | hsx
            · refine .inr (List.mem_append.2 (.inr ?_)); rw [← hpr]; exact (L7 hm hn).2 ⟨y, rfl, hy, hxy⟩
            · rcases hG.preds x hsx hxh y hy hxy hry with h | h
              · exact .inl (upd_true.2 (.inr h))
              · rcases List.mem_append.1 h with h | h
                · exact .inr (by simp [h])
                · rw [List.mem_singleton] at h; exact .inl (upd_true.2 (.inl (by omega)))
        obtain ⟨s', e1, e2⟩ := ih (Dx 64 false R n true) (upd s n) (st ++ E3 L L.length n) (by rw [List.length_append]; omega) (by omega) hR.set hG'; refine ⟨s', ?_, e2⟩; rw [Bu (s' := (Dx 64 false R n true, st ++ E3 L L.length n)) ?_, e1]; unfold Do; simp only [hne, cond_false, htopi, Aq, hgd, htk, hRe n (by omega), hR n (by omega), hre, hsn, Bool.not_false, cond_true, hpr]; rw [Ac hi1, Ac hi2, Ac hi3, Mp hi3, Ac hi3, Ac (Dn (by omega)), Ac (by omega), Option.bind_some]
      | false =>
        have hG' : Goes L re h B Q s st := by
          have hdrop : ∀ b : Nat, (b : Int) ∈ st ++ [(n : Int)] → re b = true → s b = true ∨ (b : Int) ∈ st := fun b hb hrb => by
            rcases List.mem_append.1 hb with h | h
            · exact .inr h
            · rw [List.mem_singleton] at h
              obtain rfl : b = n := by omega
              rw [hrb, Bool.true_and] at hc; exact .inl (by simpa using hc)
          refine ⟨fun x hx => hG.inr x (by simp [hx]), hG.head, hG.only, fun x hx => hG.onlyr x (by simp [hx]), fun b hb hrb => ?_, fun x hx hxh y hy hxy hry => ?_⟩
          · rcases hG.begs b hb hrb with h | h
            · exact .inl h
            · exact hdrop b h hrb
          · rcases hG.preds x hx hxh y hy hxy hry with h | h
            · exact .inl h
            · exact hdrop y h hry
        obtain ⟨s', e1, e2⟩ := ih R s st (by omega) (by omega) hR hG'; refine ⟨s', ?_, e2⟩; rw [Bu (s' := (R, st)) ?_, e1]; unfold Do
        have hcc : (bif re n then !s n else false) = false := by rw [← hc]; cases re n <;> rfl
        simp only [hne, cond_false, htopi, Aq, hgd, htk, hRe n (by omega), hR n (by omega), hcc]; rw [Ac hi1, Ac hi2, Ac hi3, Mp hi3, Option.bind_some]
end
end
end Go.Proofs.Ytjpacggpipflcaa

namespace Go.Proofs.Ytjpacggpipflcaa
noncomputable section
open Go Go.RowKit
set_option linter.unusedVariables false
set_option linter.unusedSimpArgs false
theorem Z5 (l : List Int) (h : l.length ≤ room) : C0 l = some l := by
  unfold C0; rw [Ac h]
section
variable {L : List (List Int)} (hm : Ez L = true)
include hm
theorem Oa {h b : Nat} : (b : Int) ∈ G1 (C3 L) h ↔ ((b : Int), (h : Int)) ∈ C3 L := by
  have _hm := hm; unfold G1; rw [List.mem_map]
  constructor
  · rintro ⟨p, hp, e⟩; obtain ⟨h1, h2⟩ := List.mem_filter.1 hp; have : p = ((b : Int), (h : Int)) := Prod.ext e (by simpa using h2); rw [← this]; exact h1
  · intro hp; exact ⟨_, List.mem_filter.2 ⟨hp, by simp⟩, rfl⟩
theorem m_body {Re : List Bool} (hRe : RelS Re fun z => Ka L z) {h : Nat} (hh : h < L.length) : Hw (Ec L) Re (h : Int) (G1 (C3 L) h) = some (Dq L h) := by
  have hroom : (100000 : Nat) ≤ room := by decide
  obtain ⟨h1, h64, hok⟩ := mayS_iff.1 hm; have hbl := Pd (L := L) h64; have hbg := Ur (C3 L) h
  let Q : Nat → Prop := fun x => x ≠ h ∧ x < L.length ∧ Ka L x = true ∧ ∃ b : Nat, (b : Int) ∈ G1 (C3 L) h ∧ Av (sN L) x h b
  have hst : ∀ x, x < L.length → (Ka L x = true ↔ Rc (sN L) 0 x) := fun x hx => G7 hm (by omega)
  have hG : Goes L (fun z => Ka L z) h (G1 (C3 L) h) Q (upd (fun _ => false) h) (G1 (C3 L) h) := by
    refine ⟨fun x hx => ?_, upd_true.2 (.inl rfl), fun x hx => ?_, fun x hx hrx => ?_, fun b hb hrb => .inr hb, fun x hx hxh => ?_⟩
    · unfold G1 at hx; obtain ⟨p, hp, rfl⟩ := List.mem_map.1 hx; obtain ⟨a, b, rfl, ha, _⟩ := mem_backs.1 (List.mem_filter.1 hp).1; exact ⟨by omega, by show (a : Int) < _; omega⟩
    · rcases upd_true.1 hx with rfl | h'
      · exact .inl rfl
      · cases h'
    · by_cases e : x = h
      · exact .inl e
      · obtain ⟨a, b, hp, ha, _⟩ := mem_backs.1 ((Oa hm).1 hx)
        have : x = a := by have := congrArg Prod.fst hp; exact Int.ofNat.inj this
        exact .inr ⟨e, by omega, hrx, x, hx, .root e⟩
    · rcases upd_true.1 hx with rfl | h'
      · exact absurd rfl hxh
      · cases h'
  obtain ⟨s', e1, e2⟩ := body_loop hm hRe (h := h) (B := G1 (C3 L) h) (Q := Q) (fun x hx => hx.2.1) (fun x hx y hy hxy hry => by
      by_cases e : y = h
      · exact .inl e
      · obtain ⟨_, _, _, b, hb, k⟩ := hx
        exact .inr ⟨e, hy, hry, b, hb, k.head e hxy⟩) 9000 (Dx 64 false (List.replicate 64 false) h true) _ _ (by
      have : Tn 64 (upd (fun _ => false) h) ≤ 64 := by
        unfold Tn; exact Nat.le_trans (List.length_filter_le ..) (by simp)
      omega) (by omega) (RelS.set (s := fun _ => false) (fun z hz => Gh)) hG
  have hfin : ∀ x, x < 64 → s' x = (decide (x < L.length) && Eb L h x) := fun x hx => by
    rw [Bool.eq_iff_iff, Bool.and_eq_true, decide_eq_true_eq]
    have hb : x < L.length → (Eb L h x = true ↔ x = h ∨ (x ≠ h ∧ Ka L x = true ∧ ∃ b : Nat, (b : Int) ∈ G1 (C3 L) h ∧ Av (sN L) x h b)) := fun hxn => by
      unfold Eb; rw [Bool.or_eq_true, decide_eq_true_eq, List.any_eq_true]; refine or_congr Iff.rfl ⟨?_, ?_⟩
      · rintro ⟨p, hp, hi⟩; obtain ⟨a, b, rfl, ha, hbn, _⟩ := mem_backs.1 hp; unfold inBy at hi; simp only [Bool.and_eq_true, decide_eq_true_eq, beq_iff_eq, Aq] at hi; obtain ⟨i1, i2, i3, i4⟩ := hi
        obtain rfl : b = h := by omega
        exact ⟨i2, i3, a, (Oa hm).2 hp, (Ii hm hxn ha).1 i4⟩
      · rintro ⟨i2, i3, b, hbb, k⟩; refine ⟨_, (Oa hm).1 hbb, ?_⟩; obtain ⟨a, c, hp, ha, _⟩ := mem_backs.1 ((Oa hm).1 hbb)
        have hba : b < L.length := by have := congrArg Prod.fst hp; have : b = a := Int.ofNat.inj this; omega
        unfold inBy; simp only [Bool.and_eq_true, decide_eq_true_eq, beq_iff_eq, Aq]; exact ⟨trivial, i2, i3, (Ii hm hxn hba).2 k⟩
    constructor
    · intro hs; rcases e2.only x hs with rfl | ⟨q1, q2, q0, b, q3, q4⟩
      · exact ⟨hh, (hb hh).2 (.inl rfl)⟩
      · exact ⟨q2, (hb q2).2 (.inr ⟨q1, q0, b, q3, q4⟩)⟩
    · rintro ⟨hxn, hbx⟩; rcases (hb hxn).1 hbx with rfl | ⟨q1, q2, b, q3, q4⟩
      · exact e2.head
      · have hrc : ∀ w, Av (sN L) x h w → Rc (sN L) 0 w := fun w k => by
          induction k with
          | root _ => exact (hst x hxn).1 q2
          | step _ k2 _ ih => exact .step ih k2
        have hlt : ∀ w, Av (sN L) x h w → w < L.length := fun w k => Ww (I5 hm) (by omega) (hrc w k)
        have back : ∀ w, Av (sN L) x h w → s' w = true → s' x = true := fun w k => by
          induction k with
          | root _ => exact id
          | @step u w k1 k2 k3 ih =>
            intro hw; have hu := hlt _ k1; rcases e2.preds w hw k3 u hu k2 ((hst u hu).2 (hrc u k1)) with h' | h'
            · exact ih h'
            · cases h'
        have hbn := hlt b q4; rcases e2.begs b q3 ((hst b hbn).2 (hrc b q4)) with h' | h'
        · exact back b q4 h'
        · cases h'
  unfold Hw; rw [Aq, Ac (Dn (by omega)), Z5 _ (by omega), Option.bind_some]
  show Option.bind (Ki (Do (Ec L) Re (Dx 64 false (List.replicate 64 false) h true, G1 (C3 L) h)) (Do (Ec L) Re)) _ = _
  rw [Li, e1, Option.bind_some, filt_cut h64 hfin]
  rfl
theorem heads_beg {h : Nat} : decide ((0 : Int) < (((G1 (C3 L) h).length : Nat) : Int)) = Eo L h := by
  have _hm := hm; rw [Bool.eq_iff_iff, decide_eq_true_eq]; unfold Eo G1; rw [List.length_map, List.any_eq_true]
  constructor
  · intro hl
    have : 0 < ((C3 L).filter fun p => p.2 == (h : Int)).length := by omega
    obtain ⟨p, hp⟩ := List.exists_mem_of_length_pos this; exact ⟨p, (List.mem_filter.1 hp).1, (List.mem_filter.1 hp).2⟩
  · rintro ⟨p, hp, e⟩; have : 0 < ((C3 L).filter fun p => p.2 == (h : Int)).length := List.length_pos_of_mem (List.mem_filter.2 ⟨hp, e⟩); omega
theorem Wu {h : Nat} (hh : Eo L h = true) : h < L.length := by
  have _hm := hm; unfold Eo at hh; rw [List.any_eq_true] at hh; obtain ⟨p, hp, e⟩ := hh; obtain ⟨a, b, rfl, _, hb, _⟩ := mem_backs.1 hp
  have : (b : Int) = (h : Int) := by simpa using e
  omega
theorem prog_all {Re : List Bool} (hRe : RelS Re fun z => Ka L z) : At (Cj (Gt L) (Lc (C3 L)) Re) (([] : List Ax), (0 : Int)) = some (B4 L) := by
  have hroom : (1000 : Nat) ≤ room := by decide
  have hp : (Gt L).Pred = Ec L := rfl; obtain ⟨h1, h64, _⟩ := mayS_iff.1 hm
  have hlen : ∀ m, (((List.range m).filter (Eo L)).map fun h => (⟨((h : Nat) : Int), Dq L h⟩ : Ax)).length ≤ m := fun m => by
    rw [List.length_map]; exact Nat.le_trans (List.length_filter_le ..) (by simp)
  have e : B4 L = ((List.range 64).filter (Eo L)).map fun h => (⟨((h : Nat) : Int), Dq L h⟩ : Ax) := by
    unfold B4
    congr 1
    have hk : ∀ k, L.length + k ≤ 64 → (List.range (L.length + k)).filter (Eo L) = (List.range L.length).filter (Eo L) := fun k => by
      induction k with
      | zero => intro _; rfl
      | succ k ih =>
        intro hk; rw [← Nat.add_assoc, List.range_succ, List.filter_append, ih (by omega)]
        have : Eo L (L.length + k) = false := by
          cases hh : Eo L (L.length + k) with
          | false => rfl
          | true => have := Wu hm hh; omega
        simp [this]
    have := hk (64 - L.length) (by omega); rw [show L.length + (64 - L.length) = 64 by omega] at this; exact this.symm
  rw [e]; refine Dc (Cj (Gt L) (Lc (C3 L)) Re) (fun m => (((List.range m).filter (Eo L)).map fun h => (⟨((h : Nat) : Int), Dq L h⟩ : Ax), ((m : Nat) : Int))) _ 64 (fun m hmm => ?_) ?_
  · show Cj _ _ _ (_, (m : Int)) = _
    unfold Cj; have hl := hlen m
    have hd : decide ((m : Int) < (64 : Int)) = true := by simpa using (show (m : Int) < 64 by omega)
    simp only [hd, cond_true, Aq, hp, Va hmm, heads_beg hm]; rw [Ac (Dn hmm), List.range_succ, List.filter_append, List.map_append]
    cases hh : Eo L m with
    | true =>
      rw [cond_true, m_body hm hRe (Wu hm hh), Option.bind_some, Ac (by simp only [List.length_cons, List.length_nil]; omega), Option.bind_some, w1 (by omega)]; simp [hh]
    | false =>
      rw [cond_false, Option.bind_some, w1 (by omega)]; simp [hh]
  · show Cj _ _ _ (_, _) = _
    unfold Cj
    rfl
end
theorem order0 {L : List (List Int)} (hm : Ez L = true) : ∃ O : List Nat, Ord (sN L) 0 O ∧ Dd (Gt L) 0 = some (Gs O) ∧ (∀ z ∈ O, z < L.length) ∧ O.length ≤ 64 := by
  obtain ⟨h1, h64, _⟩ := mayS_iff.1 hm; obtain ⟨O, hO⟩ := Ord.exist (I5 hm) (r := 0) (by omega); have hord := (Qs (Gt L) (Oj hm).1 trivial 0).1 (Ob hm) (by omega) (by show (0 : Int) < (L.length : Int); omega) O hO; have hlt : ∀ z ∈ O, z < L.length := fun z hz => rch_lt hm ((hO.mem z).1 hz) (by omega); exact ⟨O, hO, hord, hlt, Nat.le_trans (Ig L.length O hO.nodup hlt) h64⟩
theorem S8 {g : An} (h : Fits g.Succ) (hG : H9 g = false) : Dd g 0 = some [] := (Qs g h trivial 0).2 (by rw [hG]; rfl)
theorem S1 (g : An) (h1 : Fits g.Succ) (h2 : Fits g.Pred) : Fc g = some (D9 g) := by
  unfold Fc D9; rw [Kg g h1 h2, Option.bind_some]; unfold Nr
  cases hG : H9 g with
  | false =>
    rw [if_neg (by simp), if_neg (by simp)]; rw [Pu (by simp) (fun p hp => by cases hp), Option.bind_some, S8 h1 hG, Option.bind_some]; obtain ⟨l, hl, _⟩ := R0 (O := []) (fun z hz => by cases hz) (by simp); rw [show Fl [] = some l from hl, Option.bind_some]
    have hn : ∀ m, m < 64 → (Lc []).getD m [] = [] := fun m hm => by rw [Va hm]; rfl
    have hloop : At (Cj g (Lc []) l) (([] : List Ax), (0 : Int)) = some [] := by
      refine Dc (Cj g (Lc []) l) (fun m => (([] : List Ax), ((m : Nat) : Int))) _ 64 (fun m hmm => ?_) ?_
      · show Cj _ _ _ (_, (m : Int)) = _
        unfold Cj
        have hd : decide ((m : Int) < (64 : Int)) = true := by simpa using (show (m : Int) < 64 by omega)
        simp only [hd, cond_true, Aq, hn m hmm]; rw [Ac (Dn hmm)]
        show Option.bind (some _) _ = _
        rw [Option.bind_some, w1 (by omega)]
      · show Cj _ _ _ (_, _) = _
        unfold Cj
        rfl
    rw [hloop]
    rfl
  | true =>
    obtain ⟨hm, hg⟩ := Mk hG; obtain ⟨_, h64, _⟩ := mayS_iff.1 hm
    rw [if_pos rfl, if_pos rfl, Pu (Pd h64) (fun p hp => by
      obtain ⟨a, b, rfl, _, hb, _⟩ := mem_backs.1 hp
      exact ⟨by show (0 : Int) ≤ (b : Int); omega, by show (b : Int) < 64; omega⟩), Option.bind_some]
    obtain ⟨O, hO, hord, hlt, hlen⟩ := order0 hm; rw [← hg] at hord; obtain ⟨l, hl, hr⟩ := R0 (O := O) (fun z hz => by have := hlt z hz; omega) (by omega)
    have hRe : RelS l fun z => Ka g.Succ z := fun z hz => by
      rw [hr z hz, Bool.eq_iff_iff, List.contains_iff_mem, hO.mem, ← rc_iff]; unfold Ka; rw [G7 hm (by have := (mayS_iff.1 hm).1; omega)]
    have ha := prog_all hm hRe; rw [← hg] at ha; rw [hord, Option.bind_some, hl, Option.bind_some, ha]
    rfl
theorem Wb (l : List Int) (v : Int) (hl : l.length ≤ 1000) : C1 l v = some (l.contains v) := by
  unfold C1; rcases m_index l v hl with ⟨r, h1, h2, h3, h4⟩ | ⟨h1, h2⟩
  · rw [h4, Option.bind_some]; have : l.contains v = true := List.contains_iff_mem.2 (by rw [← h2]; exact Ef h1); rw [this, decide_eq_true (by omega)]
  · rw [h2, Option.bind_some]
    have : l.contains v = false := by
      cases hc : l.contains v with
      | false => rfl
      | true =>
        obtain ⟨i, hi, e⟩ := List.getElem_of_mem (List.contains_iff_mem.1 hc); exact absurd (by rw [Ag _ _ _ hi]; exact e) (h1 i hi)
    rw [this]
    rfl
theorem Ve (g : An) (x : Int) (h1 : Fits g.Succ) (h2 : Fits g.Pred) : Fe g x = some ((Jr (D9 g) x : Nat) : Int) := by
  unfold Fe; obtain ⟨hll, hlb⟩ := Rr g; rw [S1 g h1 h2, Option.bind_some]
  have l2 : At (Dw x (D9 g)) ((0 : Int), (0 : Int)) = some ((Jr (D9 g) x : Nat) : Int) := by
    have e : Jr (D9 g) x = Jr ((D9 g).take (D9 g).length) x := by rw [List.take_length]
    rw [e]; refine Dc (Dw x (D9 g)) (fun m => (((Jr ((D9 g).take m) x : Nat) : Int), ((m : Nat) : Int))) _ (D9 g).length (fun m hmm => ?_) ?_
    · show Dw _ _ (_, (m : Int)) = _
      unfold Dw; have hb := hlb _ (Ef (d := (default : Ax)) hmm); have hd := deepN_le ((D9 g).take m) x; have hd : Jr ((D9 g).take m) x ≤ 64 := Nat.le_trans hd (by rw [List.length_take]; omega); simp only [Cs hmm, cond_true, Aq, Wb _ _ (show ((D9 g).getD m default).Body.length ≤ 1000 by omega), Option.bind_some]; rw [Ac (Dn hmm), Zq _ _ hmm]
      cases ((D9 g).getD m default).Body.contains x with
      | true => rw [cond_true, Option.bind_some, w1 (by omega), w1 (by omega)]; rfl
      | false => rw [cond_false, Option.bind_some, w1 (by omega)]; rfl
    · show Dw _ _ (_, _) = _
      unfold Dw; simp only [Ee, cond_false]
  rw [l2]
  rfl
end
end Go.Proofs.Ytjpacggpipflcaa

namespace Go.Proofs.Ytjpacggpipflcaa
noncomputable section
open Go Go.RowKit
set_option linter.unusedVariables false
set_option linter.unusedSimpArgs false
section
variable {S : Nat → List Nat}
theorem VL.edges {s s' : Nat → Bool} {l o : List Nat} (h : VL S s l s' o) : ∀ z ∈ o, ∀ y ∈ S z, s y = true ∨ (∃ A B, o = A ++ z :: B ∧ y ∈ A) ∨ Rch S y z := by
  induction h with
  | nil => intro z hz; cases hz
  | skip _ _ ih => exact ih
  | @step s s1 s2 y0 l o1 o2 h0 a b iha ihb =>
    intro z hz y hy; rcases List.mem_append.1 hz with hz1 | hz1
    · rcases iha z hz1 y hy with h | ⟨A, B, e, hA⟩ | h
      · rcases upd_true.1 h with rfl | h
        · obtain ⟨w, hw, hr⟩ := a.rch hz1; exact .inr (.inr (.head hw hr))
        · exact .inl h
      · exact .inr (.inl ⟨A, B ++ y0 :: o2, by rw [e]; simp, hA⟩)
      · exact .inr (.inr h)
    · rcases List.mem_cons.1 hz1 with rfl | hz2
      · rcases (a.seen y).1 (a.closed.1 y hy) with h | h
        · rcases upd_true.1 h with rfl | h
          · exact .inr (.inr (.refl _))
          · exact .inl h
        · exact .inr (.inl ⟨o1, o2, rfl, h⟩)
      · rcases ihb z hz2 y hy with h | ⟨A, B, e, hA⟩ | h
        · rcases (a.seen y).1 h with h | h
          · rcases upd_true.1 h with rfl | h
            · obtain ⟨A, B, e⟩ := List.append_of_mem hz2; exact .inr (.inl ⟨o1 ++ y :: A, B, by rw [e]; simp, by simp⟩)
            · exact .inl h
          · obtain ⟨A, B, e⟩ := List.append_of_mem hz2; exact .inr (.inl ⟨o1 ++ y0 :: A, B, by rw [e]; simp, by simp [h]⟩)
        · exact .inr (.inl ⟨o1 ++ y0 :: A, B, by rw [e]; simp, by simp [hA]⟩)
        · exact .inr (.inr h)
theorem Ord.edges {r : Nat} {O : List Nat} (h : Ord S r O) : ∀ z ∈ O, ∀ y ∈ S z, (∃ A B, O = A ++ z :: B ∧ y ∈ B) ∨ Rch S y z := by
  obtain ⟨s', o, hv, rfl⟩ := h; intro z hz0 y hy; rcases List.mem_cons.1 hz0 with rfl | hz
  · rcases (hv.seen y).1 (hv.closed.1 y hy) with h | h
    · have : y = z := by simpa [one] using h
      subst this; exact .inr (.refl _)
    · exact .inl ⟨[], o.reverse, rfl, by simpa using h⟩
  · have hz3 := List.mem_reverse.1 hz; rcases hv.edges z hz3 y hy with h | ⟨A, B, e, hA⟩ | h
    · have : y = r := by simpa [one] using h
      subst this; obtain ⟨w, hw, hr⟩ := hv.rch hz3; exact .inr (.head hw hr)
    · exact .inl ⟨r :: B.reverse, A.reverse, by rw [e]; simp, by simpa using hA⟩
    · exact .inr h
end
def Ku (S : Nat → List Nat) (O : List Nat) (i : Nat) : Bool := !(S (O.getD i 0)).any fun y => (O.take (i + 1)).contains y
section
variable {L : List (List Int)} (hm : Ez L = true)
include hm
theorem roundC_at : Rp L = true ↔ ∃ a y, a < L.length ∧ Rch (sN L) 0 a ∧ y ∈ sN L a ∧ Rch (sN L) y a := by
  have h1 := (mayS_iff.1 hm).1; unfold Rp; rw [List.any_eq_true]
  constructor
  · rintro ⟨a, ha, h⟩; rw [List.mem_range] at ha; unfold Vm at h; rw [Bool.and_eq_true, G7 hm (by omega), List.any_eq_true] at h; obtain ⟨h2, y, hy, h3⟩ := h; obtain ⟨y0, y1⟩ := H5 ((mayS_iff.1 hm).2.2 a ha) hy; refine ⟨a, y.toNat, ha, rc_iff.1 h2, ?_, rc_iff.1 ((G7 hm (by omega)).1 h3)⟩; rw [mem_sN hm ha, Int.toNat_of_nonneg y0]; exact hy
  · rintro ⟨a, y, ha, h2, hy, h3⟩; refine ⟨a, List.mem_range.2 ha, ?_⟩; have hyl := I5 hm a ha y hy; unfold Vm; rw [Bool.and_eq_true, G7 hm (by omega), List.any_eq_true]; refine ⟨rc_iff.2 h2, (y : Int), (mem_sN hm ha).1 hy, ?_⟩; rw [Aq, G7 hm hyl]; exact rc_iff.2 h3
theorem okAt_all {O : List Nat} (hO : Ord (sN L) 0 O) : (List.range O.length).all (Ku (sN L) O) = !Rp L := by
  have h1 := (mayS_iff.1 hm).1; have hd := hO.nodup
  have hinj : ∀ (i j : Nat) (hi : i < O.length) (hj : j < O.length), O[i] = O[j] → i = j := fun i j hi hj e => by
    have h1 := (I8 hd hi).2; rw [e, (I8 hd hj).2] at h1; exact h1.symm
  have hin : ∀ z, z ∈ O ↔ Rch (sN L) 0 z := hO.mem; have hlt : ∀ z ∈ O, z < L.length := fun z hz => rch_lt hm ((hin z).1 hz) (by omega); rw [Bool.eq_iff_iff, all_range, Bool.not_eq_true', ← Bool.not_eq_true, roundC_at hm]
  constructor
  · rintro hall ⟨a, y, ha, h2, hy, h3⟩
    have step : ∀ u v, u ∈ O → v ∈ sN L u → pos O u < pos O v := fun u v hu hv => by
      have hvO : v ∈ O := (hin v).2 (((hin u).1 hu).tail hv); obtain ⟨i, hi, rfl⟩ := List.getElem_of_mem hu; obtain ⟨j, hj, rfl⟩ := List.getElem_of_mem hvO; rw [(I8 hd hi).2, (I8 hd hj).2]; refine Nat.lt_of_not_le fun hji => ?_; have := hall i hi; unfold Ku at this; rw [Bool.not_eq_true', ← Bool.not_eq_true, List.any_eq_true] at this; refine this ⟨O[j], by rw [Ag _ _ _ hi]; exact hv, List.contains_iff_mem.2 ?_⟩; rw [List.mem_take_iff_getElem]; exact ⟨j, by omega, rfl⟩
    have path : ∀ u v, Rch (sN L) u v → u ∈ O → pos O u ≤ pos O v := fun u v h => by
      induction h with
      | refl => intro _; exact Nat.le_refl _
      | @head u w v hw _ ih =>
        intro hu; have h5 := step u w hu hw; have := ih ((hin w).2 (((hin u).1 hu).tail hw)); omega
    have haO : a ∈ O := (hin a).2 h2; have h5 := step a y haO hy; have := path y a h3 ((hin y).2 (((hin a).1 haO).tail hy)); omega
  · intro hno i hi; unfold Ku; rw [Bool.not_eq_true', ← Bool.not_eq_true, List.any_eq_true]; rintro ⟨y, hy, hc⟩; rw [List.contains_iff_mem] at hc; rw [Ag _ _ _ hi] at hy; have hzO : O[i] ∈ O := List.getElem_mem hi; rcases hO.edges _ hzO y hy with ⟨A, B, e, hB⟩ | h
    · obtain ⟨j, hj, hjy⟩ := List.mem_take_iff_getElem.1 hc
      have hjl : j < O.length := by omega
      have hAi : A.length = i := by
        have hA : A.length < O.length := by rw [e]; simp
        have : O[A.length] = O[i] := by
          have h6 : O[A.length]? = some O[i] := by
            conv => lhs; rw [e]
            rw [List.getElem?_append_right (Nat.le_refl _)]; simp
          rw [List.getElem?_eq_getElem hA] at h6; exact OI h6
        exact hinj _ _ hA hi this
      obtain ⟨k, hk, hky⟩ := List.getElem_of_mem hB
      have hkl : A.length + (k + 1) < O.length := by rw [e]; simp; omega
      have h7 : O[A.length + (k + 1)] = y := by
        have h6 : O[A.length + (k + 1)]? = some y := by
          conv => lhs; rw [e]
          rw [List.getElem?_append_right (by omega)]; simp [hk, hky]
        rw [List.getElem?_eq_getElem hkl] at h6; exact OI h6
      have := hinj _ _ hjl hkl (hjy.trans h7.symm); omega
    · exact hno ⟨O[i], y, hlt _ hzO, (hin _).1 hzO, hy, h⟩
end
theorem m_any {l : List Int} {R : List Bool} (hl : l.length ≤ 64) (hin : ∀ x ∈ l, 0 ≤ x ∧ x < 64) : Cl l R = some (l.any fun y => R.getD y.toNat false, R) := by
  have key : ∀ k i : Nat, i + k = l.length → (∀ j, j < i → R.getD (l.getD j 0).toNat false = false) →
      (∃ r : Nat, r < l.length ∧ R.getD (l.getD r 0).toNat false = true ∧ At (Bi l) ((i : Int), R) = some (.inr ((r : Int), R))) ∨ ((∀ j, j < l.length → R.getD (l.getD j 0).toNat false = false) ∧ At (Bi l) ((i : Int), R) = some (.inl R)) := by
    intro k
    induction k with
    | zero =>
      intro i hi hj
      obtain rfl : i = l.length := by omega
      refine .inr ⟨hj, A6 ?_⟩; unfold Bi; simp only [Ee, cond_false]
    | succ k ih =>
      intro i hi hj; obtain ⟨z0, z1⟩ := hin _ (Ef (d := (0 : Int)) (show i < l.length by omega))
      have hf : E6 (l.getD i 0) R = some (R.getD (l.getD i 0).toNat false, R) := by
        unfold E6; rw [Ac ⟨z0, z1⟩]
      cases e : R.getD (l.getD i 0).toNat false with
      | true =>
        refine .inl ⟨i, by omega, e, A6 ?_⟩; unfold Bi; simp only [Cs (show i < l.length by omega), cond_true, Aq, hf, Option.bind_some, e]; rw [Ac (Dn (by omega))]
      | false =>
        have hs : Bi l ((i : Int), R) = some (.next (((i + 1 : Nat) : Int), R)) := by
          unfold Bi; simp only [Cs (show i < l.length by omega), cond_true, Aq, hf, Option.bind_some, e, cond_false]; rw [Ac (Dn (by omega)), w1 (by omega)]
        rw [Bu hs]
        exact ih (i + 1) (by omega) fun j hj2 => by
          by_cases ej : j = i
          · subst ej; exact e
          · exact hj j (by omega)
  unfold Cl Dm; rcases key l.length 0 (by omega) (fun j hj => absurd hj (Nat.not_lt_zero _)) with ⟨r, h1, h2, h3⟩ | ⟨h1, h2⟩
  · have : (l.any fun y => R.getD y.toNat false) = true := List.any_eq_true.2 ⟨_, Ef h1, h2⟩; rw [this]
    show Option.bind (Option.bind (At _ (((0 : Nat) : Int), R)) _) _ = _
    rw [h3]; simp only [Option.bind_some]; rw [decide_eq_true (by omega)]
  · have : (l.any fun y => R.getD y.toNat false) = false := by
      cases hc : (l.any fun y => R.getD y.toNat false) with
      | false => rfl
      | true =>
        obtain ⟨y, hy, e⟩ := List.any_eq_true.1 hc; obtain ⟨i, hi, ei⟩ := List.getElem_of_mem hy; have := h1 i hi; rw [Ag _ _ _ hi, ei, e] at this
        cases this
    rw [this]
    show Option.bind (Option.bind (At _ (((0 : Nat) : Int), R)) _) _ = _
    rw [h2]
    rfl
def Gz (O : List Nat) : Nat → List Bool
  | 0 => List.replicate 64 false
  | i + 1 => Dx 64 false (Gz O i) (O.getD i 0) true
theorem Sa {O : List Nat} : ∀ i, i ≤ O.length → RelS (Gz O i) (fun z => (O.take i).contains z)
  | 0, _ => fun z hz => by rw [Gz, Gh]; simp
  | i + 1, h => fun z hz => by
    rw [Gz, G5 hz, Sa i (by omega) z hz]
    have e : O.take (i + 1) = O.take i ++ [O.getD i 0] := by rw [List.take_succ_eq_append_getElem (show i < O.length by omega), Ag _ _ _ (show i < O.length by omega)]
    rw [e, Bool.eq_iff_iff]
    by_cases hz' : z = O.getD i 0
    · rw [if_pos hz']; simp [hz']
    · rw [if_neg hz', List.contains_iff_mem, List.contains_iff_mem, List.mem_append, List.mem_singleton]; exact ⟨.inl, fun h => h.resolve_right hz'⟩
theorem R6 (g : An) (h1 : Fits g.Succ) (h2 : Fits g.Pred) : Em g = some (Zk g) := by
  unfold Em Zk
  cases hG : H9 g with
  | false =>
    rw [S8 h1 hG, Option.bind_some]
    rfl
  | true =>
    obtain ⟨hm, hg⟩ := Mk hG; obtain ⟨_, h64, hok⟩ := mayS_iff.1 hm; obtain ⟨O, hO, hord, hlt, hlen⟩ := order0 hm; rw [← hg] at hord; have h0 : 0 ∈ O := (hO.mem 0).2 (.refl 0); have hpos : 0 < O.length := List.length_pos_of_mem h0
    have hol : (Gs O).length = O.length := by simp [Gs]
    have hne : ((((Gs O).length : Nat) : Int) == (0 : Int)) = false := beq_eq_false_iff_ne.2 (by rw [hol]; omega)
    have hr : Is g.Succ [] = Rp g.Succ := by unfold Is; rw [Xq]
    rw [hord, Option.bind_some, hne, cond_false, Bool.true_and, hr, ← okAt_all hm hO]
    have hstep : ∀ i, i < O.length → Ch g (Gs O) ((i : Int), Gz O i) = bif Ku (sN g.Succ) O i then some (.next (((i + 1 : Nat) : Int), Gz O (i + 1))) else some (.done (.inr false)) := fun i hi => by
      unfold Ch; have hz : O[i] < g.Succ.length := hlt _ (List.getElem_mem hi)
      have hd : decide ((i : Int) < (((Gs O).length : Nat) : Int)) = true := by rw [hol]; exact Cs hi
      have hmk : Dx 64 false (Gz O i) O[i] true = Gz O (i + 1) := by rw [Gz, Ag _ _ _ hi]
      have hrl : (g.Succ.getD O[i] []).length ≤ 64 := by have := Jg (hok _ hz); omega
      have hsm : ∀ x ∈ g.Succ.getD O[i] [], 0 ≤ x ∧ x < (g.Succ.length : Int) := fun x hx => H5 (hok _ hz) hx
      have hany : ((g.Succ.getD O[i] []).any fun y => (Gz O (i + 1)).getD y.toNat false) = !Ku (sN g.Succ) O i := by
        unfold Ku; rw [Bool.not_not, Ag _ _ _ hi]; unfold sN; rw [List.any_map, Bool.eq_iff_iff, List.any_eq_true, List.any_eq_true]; refine exists_congr fun x => and_congr_right fun hx => ?_; obtain ⟨x0, x1⟩ := hsm x hx; rw [Sa (i + 1) hi x.toNat (by omega)]
        rfl
      simp only [hd, cond_true, Aq, ofN_at hi, hmk]; rw [Ac (Dn (by rw [hol]; exact hi)), Ac (Dn (show O[i] < 64 by omega)), Ac (Dn hz), m_any hrl (fun x hx => by have := hsm x hx; omega), Option.bind_some]; simp only [hany]
      cases Ku (sN g.Succ) O i with
      | true => rw [cond_true, Bool.not_true, cond_false, w1 (by omega)]
      | false => rfl
    have hfind := Gn (Ch g (Gs O)) (fun i => (((i : Nat) : Int), Gz O i)) (Ku (sN g.Succ) O) (.inl ()) (.inr false) O.length
      (fun i hi hp => by show Ch g (Gs O) ((i : Int), Gz O i) = _; rw [hstep i hi, hp]; rfl)
      (fun i hi hp => by show Ch g (Gs O) ((i : Int), Gz O i) = _; rw [hstep i hi, hp]; rfl)
      (by
        show Ch g (Gs O) (_, _) = _
        unfold Ch; rw [hol]
        simp only [Ee, cond_false])
    show Option.bind (At (Ch g (Gs O)) (((0 : Nat) : Int), Gz O 0)) _ = _
    rw [hfind]
    cases (List.range O.length).all (Ku (sN g.Succ) O) <;> rfl
theorem m_has2 (W : List (Int × Int)) (v : Int × Int) (hW : W.length ≤ 5000) : Ck W v = some (!Gf W v.1 v.2) := by
  have key : ∀ k i : Nat, i + k = W.length → (∀ j, j < i → ((W.getD j ((0 : Int), (0 : Int))).1 == v.1 && (W.getD j ((0 : Int), (0 : Int))).2 == v.2) = false) →
      (∃ r : Nat, r < W.length ∧ ((W.getD r ((0 : Int), (0 : Int))).1 == v.1 && (W.getD r ((0 : Int), (0 : Int))).2 == v.2) = true ∧ At (Bh W v) (i : Int) = some (.inr (r : Int))) ∨
      ((∀ j, j < W.length → ((W.getD j ((0 : Int), (0 : Int))).1 == v.1 && (W.getD j ((0 : Int), (0 : Int))).2 == v.2) = false) ∧ At (Bh W v) (i : Int) = some (.inl ())) := by
    intro k
    induction k with
    | zero =>
      intro i hi hj
      obtain rfl : i = W.length := by omega
      refine .inr ⟨hj, A6 ?_⟩; unfold Bh; simp only [Ee, cond_false]
    | succ k ih =>
      intro i hi hj
      have hcm : ((v.1 == (W.getD i ((0 : Int), (0 : Int))).1) && ((v.2 == (W.getD i ((0 : Int), (0 : Int))).2) && true)) = ((W.getD i ((0 : Int), (0 : Int))).1 == v.1 && (W.getD i ((0 : Int), (0 : Int))).2 == v.2) := by
        rw [Bool.and_true, Bool.eq_iff_iff, Bool.and_eq_true, Bool.and_eq_true, beq_iff_eq, beq_iff_eq, beq_iff_eq, beq_iff_eq]; exact ⟨fun h => ⟨h.1.symm, h.2.symm⟩, fun h => ⟨h.1.symm, h.2.symm⟩⟩
      cases e : ((W.getD i ((0 : Int), (0 : Int))).1 == v.1 && (W.getD i ((0 : Int), (0 : Int))).2 == v.2) with
      | true =>
        refine .inl ⟨i, by omega, e, A6 ?_⟩; unfold Bh; simp only [Cs (show i < W.length by omega), cond_true, Aq, hcm, e]; rw [Ac (Dn (by omega))]
      | false =>
        have hs : Bh W v (i : Int) = some (.next ((i + 1 : Nat) : Int)) := by
          unfold Bh; simp only [Cs (show i < W.length by omega), cond_true, Aq, hcm, e, cond_false]; rw [Ac (Dn (by omega)), w1 (by omega)]
        rw [Bu hs]
        exact ih (i + 1) (by omega) fun j hj2 => by
          by_cases ej : j = i
          · subst ej; exact e
          · exact hj j (by omega)
  unfold Ck Dt; rcases key W.length 0 (by omega) (fun j hj => absurd hj (Nat.not_lt_zero _)) with ⟨r, h1, h2, h3⟩ | ⟨h1, h2⟩
  · have : Gf W v.1 v.2 = false := by
      cases hk : Gf W v.1 v.2 with
      | false => rfl
      | true =>
        unfold Gf at hk; have := List.all_eq_true.1 hk _ (Ef (d := ((0 : Int), (0 : Int))) h1); rw [h2] at this
        cases this
    rw [this]
    show Option.bind (Option.bind (At _ ((0 : Nat) : Int)) _) _ = _
    rw [h3]; simp only [Option.bind_some]; rw [decide_eq_true (by omega)]
    rfl
  · have : Gf W v.1 v.2 = true := by
      unfold Gf; refine List.all_eq_true.2 fun p hp => ?_; obtain ⟨i, hi, e⟩ := List.getElem_of_mem hp; have := h1 i hi; rw [Ag _ _ _ hi, e] at this; rw [this]; rfl
    rw [this]
    show Option.bind (Option.bind (At _ ((0 : Nat) : Int)) _) _ = _
    rw [h2]
    rfl
section
variable {L : List (List Int)} (hm : Ez L = true)
include hm
theorem Yy {W : List (Int × Int)} (hW : W.length ≤ 4096) {a : Nat} (ha : a < L.length) (l : List (List Int)) (hl : l.length = L.length) (h0 : l.getD a [] = []) : At (Ci L W (a : Int)) ((0 : Int), l) = some (l.set a (Kv L W a)) := by
  have hroom : (1000 : Nat) ≤ room := by decide
  obtain ⟨_, h64, hok⟩ := mayS_iff.1 hm
  have hrl : (L.getD a []).length ≤ 64 := by have := Jg (hok a ha); omega
  have hal : a < l.length := by omega
  have hlen : ∀ m, (((L.getD a []).take m).filter (Gf W (a : Int))).length ≤ m := fun m => Nat.le_trans (List.length_filter_le ..) (by simp; omega)
  have e : l.set a (Kv L W a) = l.set a (((L.getD a []).take (L.getD a []).length).filter (Gf W (a : Int))) := by rw [List.take_length]; rfl
  have e0 : l = l.set a (((L.getD a []).take 0).filter (Gf W (a : Int))) := by
    rw [List.take_zero, List.filter_nil]; rw [Ag _ _ _ hal] at h0; rw [← h0]; exact (List.set_getElem_self hal).symm
  have hgo : At (Ci L W (a : Int)) ((0 : Int), l.set a (((L.getD a []).take 0).filter (Gf W (a : Int)))) = some (l.set a (((L.getD a []).take (L.getD a []).length).filter (Gf W (a : Int)))) := by
    refine Dc (Ci L W (a : Int)) (fun m => (((m : Nat) : Int), l.set a (((L.getD a []).take m).filter (Gf W (a : Int))))) _ (L.getD a []).length (fun m hmm => ?_) ?_
    · show Ci _ _ _ ((m : Int), _) = _
      unfold Ci
      have hat : (l.set a (((L.getD a []).take m).filter (Gf W (a : Int)))).getD a [] = ((L.getD a []).take m).filter (Gf W (a : Int)) := by rw [Ag _ _ _ (by simpa using hal)]; simp
      have hil : A4 (a : Int) (l.set a (((L.getD a []).take m).filter (Gf W (a : Int)))).length := Dn (by simpa using hal); have hl2 := hlen m; have hh := m_has2 W ((a : Int), (L.getD a []).getD m 0) (by omega); simp only [Aq, Cs hmm, cond_true, hh, Option.bind_some, hat, List.set_set, Bool.not_not]
      have hnx : ((L.getD a []).take (m + 1)).filter (Gf W (a : Int)) = ((L.getD a []).take m).filter (Gf W (a : Int)) ++ (if Gf W (a : Int) ((L.getD a []).getD m 0) = true then [(L.getD a []).getD m 0] else []) := by
        rw [List.take_succ_eq_append_getElem hmm, List.filter_append, Ag _ _ _ hmm]; rw [List.filter_cons, List.filter_nil]
      rw [Ac (Dn hmm), hnx]
      cases Gf W (a : Int) ((L.getD a []).getD m 0) with
      | true => rw [cond_true, Ac hil, Ac hil, Ac (by simp only [List.length_cons, List.length_nil]; omega), Ac hil, Option.bind_some, w1 (by omega), if_pos rfl]
      | false => rw [cond_false, Option.bind_some, w1 (by omega), if_neg (by simp), List.append_nil]
    · show Ci _ _ _ (_, _) = _
      unfold Ci; simp only [Aq, Ee, cond_false]
  rw [e, ← hgo]; exact congrArg (fun z => At (Ci L W (a : Int)) ((0 : Int), z)) e0
theorem m_without {W : List (Int × Int)} (hW : W.length ≤ 4096) : F0 L W = some (Ou L W) := by
  have hroom : (1000 : Nat) ≤ room := by decide
  obtain ⟨_, h64, _⟩ := mayS_iff.1 hm
  have e0 : List.replicate L.length ([] : List Int) = (List.range L.length).map fun a => if a < 0 then Kv L W a else [] := by
    refine List.ext_getElem (by simp) fun i g1 g2 => by simp
  have e1 : Ou L W = (List.range L.length).map fun a => if a < L.length then Kv L W a else [] := Gx fun a ha => by rw [if_pos ha]
  have hl : At (C9 L W) ((0 : Int), List.replicate L.length ([] : List Int)) = some (Ou L W) := by
    rw [e0, e1]; refine Dc (C9 L W) (fun m => (((m : Nat) : Int), (List.range L.length).map fun a => if a < m then Kv L W a else [])) _ L.length (fun m hmm => ?_) ?_
    · show C9 _ _ ((m : Int), _) = _
      unfold C9; simp only [Cs hmm, cond_true]; rw [Ac (Dn hmm), Yy hm hW hmm _ (by simp) (by rw [I9 hmm, if_neg (by omega)]), Option.bind_some, w1 (by omega), Pj]
      congr 3
      refine Gx fun x hx => ?_
      by_cases e : x = m
      · subst e; rw [if_pos rfl, if_pos (by omega)]
      · rw [if_neg e]
        by_cases e2 : x < m
        · rw [if_pos e2, if_pos (by omega)]
        · rw [if_neg e2, if_neg (by omega)]
    · show C9 _ _ (_, _) = _
      unfold C9; simp only [Ee, cond_false]
  unfold F0; rw [Ac ⟨by omega, by omega, by omega⟩, Aq, hl]
  rfl
end
theorem Z0 (g : An) (h1 : Fits g.Succ) (h2 : Fits g.Pred) : Dh g = some (W7 g) := by
  unfold Dh W7; rw [m_may g h1, Option.bind_some]
  cases hG : H9 g with
  | false => rfl
  | true =>
    obtain ⟨hm, hg⟩ := Mk hG
    have hb : Eh g = some (C3 g.Succ) := by rw [Kg g h1 h2]; unfold Nr; rw [if_pos hG]
    have hW := Pd (mayS_iff.1 hm).2.1; have hc := cutL_may hm (C3 g.Succ); obtain ⟨f1, f2⟩ := Oj hc
    have hf : Zk (Gt (Ou g.Succ (C3 g.Succ))) = !Is g.Succ (C3 g.Succ) := by
      unfold Zk; rw [Ob hc, Bool.true_and]
      show (!Is (Ou g.Succ (C3 g.Succ)) []) = _
      unfold Is; rw [Xq]
    rw [Bool.not_true, cond_false, hb, Option.bind_some, m_without hm hW, Option.bind_some, Y6 (Ou g.Succ (C3 g.Succ)) f1, hc, cond_true, Option.bind_some, R6 _ f1 f2, Option.bind_some, hf, Bool.true_and]
theorem facts10 : V4 := ⟨Kg, S1, Ve, Z0, R6⟩
end
end Go.Proofs.Ytjpacggpipflcaa

namespace Go.Proofs.Ytjpacggpipflcaa
noncomputable section
open Go Go.RowKit
end
end Go.Proofs.Ytjpacggpipflcaa

namespace Go.Proofs.Ytjpacggpipflcaa
noncomputable section
open Go Go.RowKit
set_option linter.unusedVariables false
abbrev Iall (w : World) : Nat → Nat → Prop := fun b o => ∃ u, w.cell? ⟨b, o, none⟩ = some u
structure CRep (w : World) (cs : List Value) (avs : List AV) : Prop where
  len : cs.length = avs.length
  one : ∀ j, j < avs.length → (cs.getD j undef).oneCell' = true
  rep : ∀ j, j < avs.length → RepV (Iall w) w (cs.getD j undef) (avs.getD j .any)
structure S4 (P : Program) (t : TypeId) {α : Type} (e : α → List AV) (ok : α → Prop) : Prop where
  get : ∀ {H : Type} {enc : TypeId × Value → H} {w : World} {base : Nat} {spare : Nat → Bool} {held : Bool} {fuel : Nat} {cs : List Value} {x : DataW H × List MemPlace},
    DataW.trod enc P w base spare held fuel t cs = some x → ∃ a, ok a ∧ CRep w cs (e a)
theorem S9 {w : World} {v : Value} {x : AV} (h1 : v.oneCell' = true) (h : RepV (Iall w) w v x) : CRep w [v] [x] :=
  ⟨rfl, fun j hj => (by
      have hj0 : j = 0 := by simpa using hj
      subst hj0
      exact h1), fun j hj => (by
      have hj0 : j = 0 := by simpa using hj
      subst hj0
      exact h)⟩
theorem opens_int {P : Program} {t : TypeId} {k : IntKind} {e : Int → List AV} (ht : P.underlying t = some (.int k)) (he : ∀ n, e n = [.int k n]) : S4 P t e (fun n => (Lit.int k n).wf = true) := by
  refine ⟨?_⟩; intro H enc w base spare held fuel cs x h; obtain ⟨n, rfl, rfl, hw⟩ := DataW.trod_int ht h; exact ⟨n, hw, by rw [he]; exact S9 rfl (.int _ _)⟩
theorem Y4 {w : World} {base : Nat} {a : Addr} {n : Nat} {cs : List Value} (h : w.cells? base a n = some cs) : cs.length = n ∧ ∀ i, i < n → w.cell? (a.add i) = some (cs.getD i undef) := by
  unfold World.cells? at h
  split at h
  · have hl := mapM_some_length h; simp at hl; refine ⟨hl, fun i hi => ?_⟩; have := mapM_some_get h i i (by simp [hi]); rw [this]; simp [List.getD, show i < cs.length by omega]
  · cases h
theorem Qc {P : Program} {t el : TypeId} {α : Type} {e : α → List AV} {ok : α → Prop} {sz : Nat} {d : α} {e' : List α → List AV} (ht : P.underlying t = some (.slice el)) (hs : P.cellsOf el = sz) (h1 : 1 ≤ sz) (he : S4 P el e ok) (hlen : ∀ a, (e a).length = sz)
    (he' : ∀ l, e' l = [AV.list sz e d l .none]) : S4 P t e' (fun l => (∀ a ∈ l, ok a) ∧ l.length ≤ maxLen) := by
  refine ⟨?_⟩; intro H enc w base spare held fuel cs x h; rcases DataW.trod_slice ht h with ⟨rfl, rfl⟩ | ⟨a, len, cap, elems, rest, n, _, rfl, rfl, hb, hl, hm, hlen2, hel, _⟩
  · exact ⟨[], ⟨by simp, by simp⟩, by rw [he']; exact S9 rfl (.slice none 0 0 sz _ (fun _ => undef) (Nat.le_refl _) (by simp) (fun h => by simp at h) (fun _ => rfl) (fun j hj => by simp at hj) (fun i hi => by simp at hi) (fun i c hi => by simp at hi))⟩
  · have each : ∀ i : Fin len, ∃ b, ok b ∧ ∃ cs, w.cells? base (a.add (i.1 * sz)) sz = some cs ∧ CRep w cs (e b) := fun ⟨i, hi⟩ => by
      have := hel i hi; rw [hs, List.getElem?_eq_getElem (by omega), Option.bind_eq_some_iff] at this; obtain ⟨cs, hcs, htr⟩ := this; obtain ⟨b, hb, hr⟩ := he.get htr; exact ⟨b, hb, cs, hcs, hr⟩
    let f : Fin len → α := fun i => (each i).choose
    have hf : ∀ i, ok (f i) ∧ ∃ cs, w.cells? base (a.add (i.1 * sz)) sz = some cs ∧ CRep w cs (e (f i)) := fun i => (each i).choose_spec
    have hlf : (List.ofFn f).length = len := by simp
    refine ⟨List.ofFn f, ⟨fun b hb => ?_, by simp; omega⟩, ?_⟩
    · obtain ⟨i, rfl⟩ := List.mem_ofFn.1 hb; exact (hf i).1
    rw [he']; refine S9 rfl ?_
    have hcell0 : ∀ i (hi : i < len), ∀ c, c < sz → ∃ u, w.cell? ((a.add (i * sz)).add c) = some u ∧ u.oneCell' = true ∧ RepV (Iall w) w u ((e (f ⟨i, hi⟩)).getD c .any) := fun i hi c hc => by
      obtain ⟨_, cs, hcs, hr⟩ := hf ⟨i, hi⟩; obtain ⟨hl, hg⟩ := Y4 hcs; exact ⟨_, hg c hc, hr.one c (by rw [hlen]; exact hc), hr.rep c (by rw [hlen]; exact hc)⟩
    have hspot : 0 < len → a.spot = none := fun hp => by
      obtain ⟨u, hu, _⟩ := hcell0 0 hp 0 h1; have h2 := World.cell?_spot hu
      simpa [Addr.add] using h2
    have hcell : ∀ i (hi : i < len), ∀ c, c < sz → ∃ u, w.cell? ⟨a.block, a.off + (i * sz + c), none⟩ = some u ∧ u.oneCell' = true ∧ RepV (Iall w) w u ((e (f ⟨i, hi⟩)).getD c .any) := fun i hi c hc => by
      obtain ⟨u, hu, h1, h2⟩ := hcell0 i hi c hc; have hsp := hspot (by omega); rw [Fv hsp, Addr.add_lit] at hu; exact ⟨u, by rw [← Nat.add_assoc]; exact hu, h1, h2⟩
    have hdm : ∀ j, j < len * sz → ∃ i c, i < len ∧ c < sz ∧ j = i * sz + c := fun j hj => by
      refine ⟨j / sz, j % sz, (Nat.div_lt_iff_lt_mul (by omega)).2 hj, Nat.mod_lt _ (by omega), ?_⟩; rw [Nat.mul_comm]; exact (Nat.div_add_mod j sz).symm
    unfold AV.list; rw [hlf]; refine .slice (some a) len cap sz _ (fun j => (w.cell? ⟨a.block, a.off + j, none⟩).getD undef) hl hm (fun hp => ⟨a, rfl, hspot hp, fun j hj => ?_, fun j hj => ?_⟩) (fun h => by cases h) (fun j hj => ?_) (fun i hi => hlen _) (fun i c hi hc => ?_)
    · obtain ⟨i, c, hi, hc, rfl⟩ := hdm j hj; obtain ⟨u, hu, _⟩ := hcell i hi c hc; exact ⟨u, hu⟩
    · obtain ⟨i, c, hi, hc, rfl⟩ := hdm j hj; obtain ⟨u, hu, _⟩ := hcell i hi c hc; rw [hu]; rfl
    · obtain ⟨i, c, hi, hc, rfl⟩ := hdm j hj; obtain ⟨u, hu, h1, _⟩ := hcell i hi c hc; simp only [hu]; exact h1
    · obtain ⟨u, hu, _, h2⟩ := hcell i hi c hc
      have e1 : (List.ofFn f).getD i d = f ⟨i, hi⟩ := by simp [List.getD, hi]
      rw [e1, hu]; exact h2
structure OpensF (P : Program) (fs : List Field) (off N : Nat) {α : Type} (e : α → List AV) (ok : α → Prop) : Prop where
  get : ∀ {H : Type} {enc : TypeId × Value → H} {w : World} {base : Nat} {spare : Nat → Bool} {held : Bool} {n : Nat} {cs : List Value}, cs.length = N →
    (∀ f ∈ fs, ∃ x, DataW.trod enc P w base spare held n f.type ((cs.drop f.offset).take (P.cellsOf f.type)) = some x) → ∃ a, ok a ∧ CRep w (cs.drop off) (e a)
theorem arg_one {P : Program} {t : TypeId} {α : Type} {e : α → List AV} {ok : α → Prop} (h : S4 P t e ok) {x : α → AV} (he : ∀ a, e a = [x a]) {H : Type} {enc : TypeId × Value → H} {w : World} {base : Nat} {spare : Nat → Bool} {held : Bool} {v : Value} {d : DataW H} {ps : List MemPlace}
    (hv : v.cells = #[v]) (hd : DataW.Trod enc P w base spare held t v d ps) : ∃ a, ok a ∧ RepV (Iall w) w v (x a) := by
  obtain ⟨fuel, hf⟩ := hd; obtain ⟨a, ha, hr⟩ := h.get hf; refine ⟨a, ha, ?_⟩; have := hr.rep 0 (by simp [he])
  simpa [hv, he] using this
end
end Go.Proofs.Ytjpacggpipflcaa

namespace Go.Proofs.Ytjpacggpipflcaa
noncomputable section
open Go Go.RowKit
def okI64 (n : Int) : Prop := (Lit.int .i64 n).wf = true
theorem op_3 : S4 Try.prog 3 Ad okI64 := opens_int Try.underlying3 (fun _ => rfl)
def okLI64 (l : List (Int)) : Prop := (∀ a ∈ l, okI64 a) ∧ l.length ≤ maxLen
theorem op_36 : S4 Try.prog 36 eLI64 okLI64 := Qc (d := (0 : Int)) Try.underlying36 (by kernel_rfl) (by decide) op_3 (fun _ => rfl) (fun _ => rfl)
def okLLI64 (l : List (List (Int))) : Prop := (∀ a ∈ l, okLI64 a) ∧ l.length ≤ maxLen
theorem op_22 : S4 Try.prog 22 eLLI64 okLLI64 := Qc (d := []) Try.underlying22 (by kernel_rfl) (by decide) op_36 (fun _ => rfl) (fun _ => rfl)
end
end Go.Proofs.Ytjpacggpipflcaa
