/-
  Which blocks are reached, round by round; the order has each of them once, the root first.
-/
import Derived.Test.YtcpopeamoipjlaaGrK
namespace Go.Proofs.Ytcpopeamoipjlaa
open Go Go.RowKit
set_option linter.unusedVariables false
set_option linter.unusedSimpArgs false

def mk (o : List Bool) (l : List Nat) : List Bool := l.foldl (fun o y => o.set y true) o
theorem mk_len (l : List Nat) : ∀ o : List Bool, (mk o l).length = o.length := by
  induction l with
  | nil => intro o; rfl
  | cons y l ih => intro o; show (mk (o.set y true) l).length = _; rw [ih, List.length_set]
theorem mk_at {n : Nat} (l : List Nat) : ∀ (o : List Bool), o.length = n → (∀ y ∈ l, y < n) → ∀ z, (mk o l).getD z false = true ↔ o.getD z false = true ∨ z ∈ l := by
  induction l with
  | nil => intro o _ _ z; simp [mk]
  | cons y l ih =>
    intro o ho hl z
    show (mk (o.set y true) l).getD z false = true ↔ _
    rw [ih (o.set y true) (by rw [List.length_set]; exact ho) (fun u hu => hl u (List.mem_cons_of_mem _ hu)) z]
    have hy := hl y (List.mem_cons_self ..)
    have e : (o.set y true).getD z false = true ↔ o.getD z false = true ∨ z = y := by
      rw [List.getD_eq_getElem?_getD, List.getElem?_set, List.getD_eq_getElem?_getD]
      by_cases h : y = z
      · subst h; simp [ho, hy]
      · simp [h, Ne.symm h]
    rw [e, List.mem_cons]
    constructor
    · rintro ((h | h) | h)
      · exact .inl h
      · exact .inr (.inl h)
      · exact .inr (.inr h)
    · rintro (h | h | h)
      · exact .inl (.inl h)
      · exact .inl (.inr h)
      · exact .inr h
def sw (S : Nat → List Nat) (o : List Bool) : Nat → List Bool
  | 0 => o
  | i + 1 => if (sw S o i).getD i false = true then mk (sw S o i) (S i) else sw S o i
def rds (S : Nat → List Nat) (n : Nat) (o : List Bool) : Nat → List Bool
  | 0 => o
  | j + 1 => sw S (rds S n o j) n
section
variable {S : Nat → List Nat} {n : Nat} (hS : ∀ z, z < n → ∀ y ∈ S z, y < n)
theorem sw_len (o : List Bool) : ∀ i, (sw S o i).length = o.length := by
  intro i
  induction i with
  | zero => rfl
  | succ i ih => unfold sw; split; rw [mk_len, ih]; exact ih
theorem rds_len (o : List Bool) : ∀ j, (rds S n o j).length = o.length := by
  intro j
  induction j with
  | zero => rfl
  | succ j ih => unfold rds; rw [sw_len, ih]
include hS
theorem sw_mono {o : List Bool} (ho : o.length = n) : ∀ i, i ≤ n → ∀ z, o.getD z false = true → (sw S o i).getD z false = true := by
  intro i
  induction i with
  | zero => intro _ z h; exact h
  | succ i ih =>
    intro hi z h
    unfold sw
    split
    · exact (mk_at (n := n) _ _ (by rw [sw_len]; exact ho) (hS i (by omega)) z).2 (.inl (ih (by omega) z h))
    · exact ih (by omega) z h
theorem sw_sound {o : List Bool} {r : Nat} (ho : o.length = n) (h : ∀ z, o.getD z false = true → Rch S r z) : ∀ i, i ≤ n → ∀ z, (sw S o i).getD z false = true → Rch S r z := by
  intro i
  induction i with
  | zero => intro _ z hz; exact h z hz
  | succ i ih =>
    intro hi z hz
    unfold sw at hz
    split at hz
    · rename_i hsi
      rcases (mk_at (n := n) _ _ (by rw [sw_len]; exact ho) (hS i (by omega)) z).1 hz with h1 | h1
      · exact ih (by omega) z h1
      · exact (ih (by omega) i hsi).tail h1
    · exact ih (by omega) z hz
theorem sw_step {o : List Bool} (ho : o.length = n) : ∀ i, i ≤ n → ∀ j, j < i → o.getD j false = true → ∀ y ∈ S j, (sw S o i).getD y false = true := by
  intro i
  induction i with
  | zero => intro _ j hj; omega
  | succ i ih =>
    intro hi j hj hoj y hy
    unfold sw
    by_cases hji : j = i
    · subst hji
      have h1 := sw_mono hS ho j (by omega) j hoj
      rw [if_pos h1]
      exact (mk_at (n := n) _ _ (by rw [sw_len]; exact ho) (hS j (by omega)) y).2 (.inr hy)
    · have h1 := ih (by omega) j (by omega) hoj y hy
      split
      · exact (mk_at (n := n) _ _ (by rw [sw_len]; exact ho) (hS i (by omega)) y).2 (.inl h1)
      · exact h1
theorem sw_closed {o : List Bool} (ho : o.length = n) (hc : ∀ j, j < n → o.getD j false = true → ∀ y ∈ S j, o.getD y false = true) : ∀ i, i ≤ n → ∀ z, (sw S o i).getD z false = true → o.getD z false = true := by
  intro i
  induction i with
  | zero => intro _ z h; exact h
  | succ i ih =>
    intro hi z hz
    unfold sw at hz
    split at hz
    · rename_i hsi
      rcases (mk_at (n := n) _ _ (by rw [sw_len]; exact ho) (hS i (by omega)) z).1 hz with h1 | h1
      · exact ih (by omega) z h1
      · exact hc i (by omega) (ih (by omega) i hsi) z h1
    · exact ih (by omega) z hz
theorem rds_spec {r : Nat} (hr : r < n) (z : Nat) : (rds S n ((List.replicate n false).set r true) n).getD z false = true ↔ Rch S r z := by
  let o0 := (List.replicate n false).set r true
  have ho0 : o0.length = n := by simp [o0]
  have hat0 : ∀ z, o0.getD z false = true ↔ z = r := fun z => by
    show ((List.replicate n false).set r true).getD z false = true ↔ z = r
    rw [List.getD_eq_getElem?_getD, List.getElem?_set]
    by_cases h : r = z
    · subst h; simp [hr]
    · rw [if_neg h, ← List.getD_eq_getElem?_getD, rep_getD]
      simp [Ne.symm h]
  have hlen : ∀ j, (rds S n o0 j).length = n := fun j => by rw [rds_len, ho0]
  have hsound : ∀ j z, (rds S n o0 j).getD z false = true → Rch S r z := by
    intro j
    induction j with
    | zero => intro z hz; rw [(hat0 z).1 hz]; exact .refl _
    | succ j ih => intro z hz; exact sw_sound hS (hlen j) ih n (Nat.le_refl _) z hz
  have hmono : ∀ j, ∀ z, o0.getD z false = true → (rds S n o0 j).getD z false = true := by
    intro j
    induction j with
    | zero => intro z h; exact h
    | succ j ih => intro z h; exact sw_mono hS (hlen j) n (Nat.le_refl _) z (ih z h)
  let C : Nat → Prop := fun j => ∀ i, i < n → (rds S n o0 j).getD i false = true → ∀ y ∈ S i, (rds S n o0 j).getD y false = true
  have key : ∀ j, C j ∨ cnt n (fun z => (rds S n o0 j).getD z false) + j + 1 ≤ n := by
    intro j
    induction j with
    | zero =>
      refine .inr ?_
      have h1 := cnt_upd (n := n) (s := fun _ => false) hr rfl
      have e : upd (fun _ => false) r = fun z => (rds S n o0 0).getD z false := by
        funext z
        rw [Bool.eq_iff_iff, upd_true]
        show _ ↔ o0.getD z false = true
        rw [hat0]
        simp
      rw [e] at h1
      have hcl : cnt n (fun _ => false) = n := by
        unfold cnt
        rw [List.filter_eq_self.2 (by simp)]
        simp
      omega
    | succ j ih =>
      by_cases hc : C j
      · refine .inl fun i hi h y hy => ?_
        have h1 := sw_closed hS (hlen j) hc n (Nat.le_refl _) i h
        exact sw_mono hS (hlen j) n (Nat.le_refl _) y (hc i hi h1 y hy)
      · rcases ih with ih | ih
        · exact (hc ih).elim
        · refine .inr ?_
          have hex : ∃ i, i < n ∧ (rds S n o0 j).getD i false = true ∧ ∃ y, y ∈ S i ∧ (rds S n o0 j).getD y false = false := by
            simp only [C] at hc
            simp only [Classical.not_forall] at hc
            obtain ⟨i, hi, h1, y, hy, h2⟩ := hc
            exact ⟨i, hi, h1, y, hy, by simpa using h2⟩
          obtain ⟨i, hi, h1, y, hy, h2⟩ := hex
          have h3 := sw_step hS (hlen j) n (Nat.le_refl _) i hi h1 y hy
          have hyn := hS i hi y hy
          have h4 := cnt_upd (n := n) (s := fun z => (rds S n o0 j).getD z false) hyn h2
          have h5 : cnt n (fun z => (rds S n o0 (j + 1)).getD z false) ≤ cnt n (upd (fun z => (rds S n o0 j).getD z false) y) := cnt_mono fun z hz => by
            rcases upd_true.1 hz with rfl | hz
            · exact h3
            · exact sw_mono hS (hlen j) n (Nat.le_refl _) z hz
          omega
  have hC : C n := by
    rcases key n with h | h
    · exact h
    · omega
  constructor
  · exact hsound n z
  · intro hrch
    have hlt : ∀ x z, Rch S x z → x < n → z < n ∧ ((rds S n o0 n).getD x false = true → (rds S n o0 n).getD z false = true) := by
      intro x z hxz
      induction hxz with
      | refl x => exact fun hx => ⟨hx, id⟩
      | @head x y z hy _ ih =>
        intro hx
        have := ih (hS x hx y hy)
        exact ⟨this.1, fun h => this.2 (hC x hx h y hy)⟩
    exact (hlt r z hrch hr).2 (hmono n r ((hat0 r).2 rfl))
end
theorem m_reach {L : List (List Int)} (hm : mayS L = true) {r : Nat} (hr : r < L.length) :
    m_lockstepref06_Reach (gOf L) (r : Int) (-1 : Int) = some (rds (sN L) L.length ((List.replicate L.length false).set r true) L.length) := by
  obtain ⟨h1, h2, h3⟩ := mayS_iff.1 hm
  have hroom : (1000 : Nat) ≤ room := by decide
  have hS := sN_lt hm
  have hgs : (gOf L).Succ = L := rfl
  have hlenS : ∀ a, (sN L a).length = (L.getD a []).length := fun a => by simp [sN]
  have hin : ∀ (o : List Bool) (i : Nat), o.length = L.length → i < L.length → loopO (m_lockstepref06_Reach_L1 (gOf L) (-1) (i : Int)) ((0 : Int), o) = some (if o.getD i false = true then mk o (sN L i) else o) := fun o i ho hi => by
    have hb := okL_len (h3 i hi)
    by_cases hoi : o.getD i false = true
    · rw [if_pos hoi]
      have hmi : ∀ k, (mk o ((sN L i).take k)).getD i false = true := fun k => (mk_at (n := L.length) _ _ ho (fun y hy => hS i hi y (List.mem_of_mem_take hy)) i).2 (.inl hoi)
      have hml : ∀ k, (mk o ((sN L i).take k)).length = L.length := fun k => by rw [mk_len, ho]
      refine loop_seq (m_lockstepref06_Reach_L1 (gOf L) (-1) (i : Int)) (fun k => (((k : Nat) : Int), mk o ((sN L i).take k))) _ (L.getD i []).length (fun k hk => ?_) ?_
      · show m_lockstepref06_Reach_L1 (gOf L) (-1) (i : Int) (_, _) = _
        unfold m_lockstepref06_Reach_L1
        obtain ⟨a0, a1⟩ := okL_at (h3 i hi) hk
        simp only [hgs, nat_nat, hmi]
        rw [chk_pos (inb (by rw [hml]; exact hi)), chk_imp (inb hi), cond_true, dlt_t hk, cond_true, chk_pos (inb hi), chk_pos (inb hk)]
        have hne : ((L.getD i []).getD k 0 != (-1 : Int)) = true := by rw [bne_iff_ne]; omega
        rw [hne, cond_true, chk_pos (inb hi), chk_pos (inb hk), chk_pos ⟨a0, by rw [hml]; exact a1⟩, w1 (by omega)]
        have e : mk o ((sN L i).take (k + 1)) = (mk o ((sN L i).take k)).set ((L.getD i []).getD k 0).toNat true := by
          have hk' : k < (sN L i).length := by rw [hlenS]; exact hk
          rw [List.take_succ_eq_append_getElem hk']
          unfold mk
          rw [List.foldl_append]
          have : (sN L i)[k] = ((L.getD i []).getD k 0).toNat := by rw [getD_eq_of_lt _ _ _ hk]; simp [sN]
          rw [this]
          rfl
        rw [e]
        rfl
      · show m_lockstepref06_Reach_L1 (gOf L) (-1) (i : Int) (_, _) = _
        unfold m_lockstepref06_Reach_L1
        simp only [hgs, nat_nat, hmi]
        rw [chk_pos (inb (by rw [hml]; exact hi)), chk_imp (inb hi), cond_true, dlt_f, cond_false]
        have : (sN L i).take (L.getD i []).length = sN L i := by rw [← hlenS]; exact List.take_length ..
        rw [this]
    · have hof : o.getD i false = false := by simpa using hoi
      rw [if_neg hoi]
      apply loopO_done
      unfold m_lockstepref06_Reach_L1
      simp only [hgs, nat_nat, hof]
      rw [chk_pos (inb (by rw [ho]; exact hi)), chk_imp (inb hi), cond_false, cond_false]
  have hsw : ∀ o : List Bool, o.length = L.length → loopO (m_lockstepref06_Reach_L2 (gOf L) (-1)) ((0 : Int), o) = some (sw (sN L) o L.length) := fun o ho => by
    refine loop_seq (m_lockstepref06_Reach_L2 (gOf L) (-1)) (fun i => (((i : Nat) : Int), sw (sN L) o i)) _ L.length (fun i hi => ?_) ?_
    · show m_lockstepref06_Reach_L2 (gOf L) (-1) (_, _) = _
      unfold m_lockstepref06_Reach_L2
      have hl : (sw (sN L) o i).length = L.length := by rw [sw_len, ho]
      simp only [hl, dlt_t hi, cond_true]
      rw [hin _ i hl hi, w1 (by omega)]
      rfl
    · show m_lockstepref06_Reach_L2 (gOf L) (-1) (_, _) = _
      unfold m_lockstepref06_Reach_L2
      have hl : (sw (sN L) o L.length).length = L.length := by rw [sw_len, ho]
      simp only [hl, dlt_f, cond_false]
  unfold m_lockstepref06_Reach
  simp only [hgs, nat_nat]
  rw [chk_pos ⟨by omega, Int.le_refl _, by omega⟩]
  have hne : ((r : Int) == (-1 : Int)) = false := by rw [beq_eq_false_iff_ne]; omega
  rw [hne, cond_false, chk_pos (inb (by simpa using hr))]
  have hl0 : ((List.replicate L.length false).set r true).length = L.length := by simp
  have : loopO (m_lockstepref06_Reach_L3 (gOf L) (-1)) ((0 : Int), (List.replicate L.length false).set r true) = some (rds (sN L) L.length ((List.replicate L.length false).set r true) L.length) := by
    refine loop_seq (m_lockstepref06_Reach_L3 (gOf L) (-1)) (fun j => (((j : Nat) : Int), rds (sN L) L.length ((List.replicate L.length false).set r true) j)) _ L.length (fun j hj => ?_) ?_
    · show m_lockstepref06_Reach_L3 (gOf L) (-1) (_, _) = _
      unfold m_lockstepref06_Reach_L3
      have hl : (rds (sN L) L.length ((List.replicate L.length false).set r true) j).length = L.length := by rw [rds_len, hl0]
      simp only [hl, dlt_t hj, cond_true]
      rw [hsw _ hl, w1 (by omega)]
      rfl
    · show m_lockstepref06_Reach_L3 (gOf L) (-1) (_, _) = _
      unfold m_lockstepref06_Reach_L3
      have hl : (rds (sN L) L.length ((List.replicate L.length false).set r true) L.length).length = L.length := by rw [rds_len, hl0]
      simp only [hl, dlt_f, cond_false]
  rw [this]
  rfl
end Go.Proofs.Ytcpopeamoipjlaa
