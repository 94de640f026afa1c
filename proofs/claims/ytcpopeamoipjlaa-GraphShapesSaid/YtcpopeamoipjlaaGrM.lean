/-
  The order has each block that can be reached once, the root first; where no way leads back, each ahead of those at which it goes on.
-/
import Derived.Test.YtcpopeamoipjlaaGrL
namespace Go.Proofs.Ytcpopeamoipjlaa
open Go Go.RowKit
set_option linter.unusedVariables false
set_option linter.unusedSimpArgs false

def pos : List Nat → Nat → Nat
  | [], _ => 0
  | x :: l, z => if x = z then 0 else pos l z + 1
theorem pos_cons (x : Nat) (l : List Nat) (z : Nat) : pos (x :: l) z = if x = z then 0 else pos l z + 1 := rfl
theorem pos_app {A l : List Nat} {z : Nat} (h : z ∉ A) : pos (A ++ l) z = A.length + pos l z := by
  induction A with
  | nil => simp
  | cons x A ih =>
    have h1 : x ≠ z := fun e => h (by rw [e]; exact List.mem_cons_self ..)
    have h2 : z ∉ A := fun e => h (List.mem_cons_of_mem _ e)
    rw [List.cons_append, pos_cons, if_neg h1, ih h2, List.length_cons]
    omega
theorem pos_get {P : List Nat} (hd : P.Nodup) {i : Nat} (hi : i < P.length) : P[i] ∉ P.take i ∧ pos P P[i] = i := by
  have e : P = P.take i ++ P[i] :: P.drop (i + 1) := by rw [← List.drop_eq_getElem_cons hi, List.take_append_drop]
  have hn : P[i] ∉ P.take i := by
    rw [e] at hd
    have := (List.nodup_append.1 hd).2.2
    exact fun hm => this _ hm _ (List.mem_cons_self ..) rfl
  refine ⟨hn, ?_⟩
  have h2 : pos (P.take i ++ P[i] :: P.drop (i + 1)) P[i] = i := by
    rw [pos_app hn]
    have : pos (P[i] :: P.drop (i + 1)) P[i] = 0 := by rw [pos_cons, if_pos rfl]
    rw [this, List.length_take]
    omega
  rw [← e] at h2
  exact h2
def atL (P : List Nat) (n i : Nat) : List Int := (List.range n).map fun z => if z ∈ P.take i then ((pos P z + 1 : Nat) : Int) else 0
theorem atL_len (P : List Nat) (n i : Nat) : (atL P n i).length = n := by simp [atL]
theorem atL_at {P : List Nat} {n i z : Nat} (hz : z < n) : (atL P n i).getD z 0 = if z ∈ P.take i then ((pos P z + 1 : Nat) : Int) else 0 := by unfold atL; rw [getD_mr hz]
theorem atL_set {P : List Nat} {n i : Nat} (hd : P.Nodup) (hi : i < P.length) : (atL P n i).set P[i] ((i + 1 : Nat) : Int) = atL P n (i + 1) := by
  obtain ⟨h1, h2⟩ := pos_get hd hi
  unfold atL
  rw [set_mr]
  apply mr_congr
  intro z hz
  by_cases hzi : z = P[i]
  · rw [if_pos hzi, if_pos (by rw [List.take_succ_eq_append_getElem hi, hzi]; exact List.mem_append.2 (.inr (List.mem_singleton.2 rfl))), hzi, h2]
  · rw [if_neg hzi]
    have : z ∈ P.take (i + 1) ↔ z ∈ P.take i := by
      rw [List.take_succ_eq_append_getElem hi, List.mem_append]
      simp [hzi]
    simp only [this]

def fwdAt (L : List (List Int)) (j k : Nat) : Bool := (List.range k).all fun m => decide ((j : Int) < (L.getD j []).getD m 0)
def fwdTo (L : List (List Int)) (i : Nat) : Bool := (List.range i).all fun j => fwdAt L j (L.getD j []).length
theorem all_succ {n : Nat} {p : Nat → Bool} : (List.range (n + 1)).all p = ((List.range n).all p && p n) := by
  rw [List.range_succ, List.all_append]; simp
theorem m_fwd (L : List (List Int)) (i : Nat) (hi : i < L.length) (b : Bool) (hl : (L.getD i []).length < 4611686018427387904) : loopO (m_locksteplaw06_GraphReaches_L2 L (i : Int)) (b, (0 : Int)) = some (b && fwdAt L i (L.getD i []).length) := by
  refine loop_seq (m_locksteplaw06_GraphReaches_L2 L (i : Int)) (fun k => (b && fwdAt L i k, ((k : Nat) : Int))) _ (L.getD i []).length (fun k hk => ?_) ?_ |> fun h => by
    have e : (b && fwdAt L i 0) = b := by unfold fwdAt; simp
    simp only [e] at h
    exact h
  · show m_locksteplaw06_GraphReaches_L2 L (i : Int) (_, _) = _
    unfold m_locksteplaw06_GraphReaches_L2
    simp only [nat_nat, dlt_t hk, cond_true]
    rw [chk_pos (inb hi), chk_imp (inb hi), chk_imp (inb hk), w1 (by omega)]
    congr 3
    unfold fwdAt
    rw [all_succ]
    cases b <;> cases (List.range k).all fun m => decide ((i : Int) < (L.getD i []).getD m 0) <;> simp
  · show m_locksteplaw06_GraphReaches_L2 L (i : Int) (_, _) = _
    unfold m_locksteplaw06_GraphReaches_L2
    simp only [nat_nat, dlt_f, cond_false]
    rw [chk_pos (inb hi)]

theorem reaches6 (a : List (List Int)) (f : Int) (ha : a.length ≤ maxLen) (hf : 0 ≤ f ∧ f < 256) : m_locksteplaw06_GraphReaches a f = some true := by
  have hroom : (1000 : Nat) ≤ room := by decide
  unfold m_locksteplaw06_GraphReaches
  rw [m_awake, Option.bind_some]
  simp only [Bool.not_true, cond_false]
  rw [m_small a (small_len ha), Option.bind_some]
  cases hsa : smallS a with
  | false => rfl
  | true =>
    have fa := smallS_fits hsa
    simp only [Bool.not_true, cond_false]
    rw [m_make a fa, Option.bind_some]
    cases hm : mayS a with
    | false =>
      simp only [cond_false]
      rw [show (((5 : Int) != 0) = true) from rfl]
      simp only [cond_true]
      obtain ⟨l, o1, _, _, _, o5⟩ := orders_same g0 g0_fits.1 0
      have : l = [] := o5 (by rw [mayG_g0]; rfl)
      subst this
      rw [o1]
      rfl
    | true =>
      obtain ⟨hn1, hn64, hok⟩ := mayS_iff.1 hm
      have ff := gOf_fits hm
      have hS := sN_lt hm
      have hwf : w64 f = f := w64_of (by omega) (by omega)
      obtain ⟨r, hr, hrn⟩ : ∃ r : Nat, Int.tmod (w64 f) (a.length : Int) = (r : Int) ∧ r < a.length := by
        rw [hwf, Int.tmod_eq_emod_of_nonneg hf.1]
        have h1 := Int.emod_nonneg f (show (a.length : Int) ≠ 0 by omega)
        have h2 := Int.emod_lt_of_pos f (show (0 : Int) < a.length by omega)
        exact ⟨(f % (a.length : Int)).toNat, by omega, by omega⟩
      simp only [cond_true, bne_self_eq_false, cond_false, hr]
      rw [chk_pos (by omega)]
      obtain ⟨l, o1, _, o3, o4, _⟩ := orders_same (gOf a) ff.1 (r : Int)
      obtain ⟨P, rfl, hP⟩ := o4 (mayG_gOf hm) (by omega) (by show (r : Int) < (a.length : Int); omega)
      rw [nat_nat] at hP
      have hPs : ∀ z, z ∈ P ↔ Rch (sN a) r z := hP.mem
      have hPl : (ofN P).length = P.length := by simp [ofN]
      rw [o1, Option.bind_some, m_reach hm hrn, Option.bind_some, nat_nat]
      have hRs := rds_spec (S := sN a) (n := a.length) hS hrn
      have hRl : (rds (sN a) a.length ((List.replicate a.length false).set r true) a.length).length = a.length := by rw [rds_len]; simp
      generalize rds (sN a) a.length ((List.replicate a.length false).set r true) a.length = R at hRs hRl ⊢
      have hPn : ∀ z ∈ P, z < a.length := fun z hz => rch_lt hm ((hPs z).1 hz) hrn
      have hnd := hP.nodup
      rw [chk_pos ⟨by omega, Int.le_refl _, by omega⟩]
      have hl1 : loopO (m_locksteplaw06_GraphReaches_L1 a (ofN P) R) ((0 : Int), List.replicate a.length (0 : Int)) = some (.inl (atL P a.length P.length)) := by
        have e0 : List.replicate a.length (0 : Int) = atL P a.length 0 := by
          unfold atL
          apply List.ext_getElem?
          intro i
          by_cases hi : i < a.length <;> simp [hi, List.getElem?_replicate]
        rw [e0]
        refine loop_seq (m_locksteplaw06_GraphReaches_L1 a (ofN P) R) (fun i => (((i : Nat) : Int), atL P a.length i)) (.inl (atL P a.length P.length)) P.length (fun i hi => ?_) ?_
        · show m_locksteplaw06_GraphReaches_L1 a (ofN P) R (_, _) = _
          unfold m_locksteplaw06_GraphReaches_L1
          have hi' : i < (ofN P).length := by omega
          have hz := hPn _ (List.getElem_mem hi)
          obtain ⟨p1, p2⟩ := pos_get hnd hi
          have hat : (atL P a.length i).getD P[i] 0 = 0 := by rw [atL_at hz, if_neg p1]
          have hRt : R.getD P[i] false = true := (hRs _).2 ((hPs _).1 (List.getElem_mem hi))
          have d1 : decide (((P[i] : Nat) : Int) < 0) = false := decide_eq_false (by omega)
          have d2 : decide ((a.length : Int) ≤ ((P[i] : Nat) : Int)) = false := decide_eq_false (by omega)
          simp only [dlt_t hi', cond_true, nat_nat, ofN_at hi, d1, d2, cond_false, hat, hRt, bne_self_eq_false, Bool.not_true]
          rw [chk_pos (inb hi'), chk_imp (inb hi'), chk_imp (inb hi'), chk_imp (inb (by rw [atL_len]; exact hz)), chk_imp (inb hi'), chk_imp (inb (by rw [hRl]; exact hz)), chk_pos (inb hi'), chk_pos (inb (by rw [atL_len]; exact hz)), w1 (by omega), atL_set hnd hi]
        · show m_locksteplaw06_GraphReaches_L1 a (ofN P) R (_, _) = _
          unfold m_locksteplaw06_GraphReaches_L1
          simp only [hPl, dlt_f, cond_false]
      rw [hl1]
      simp only [Option.bind_some]
      have htk : P.take P.length = P := List.take_length ..
      have hAt : ∀ z, z < a.length → (atL P a.length P.length).getD z 0 = if z ∈ P then ((pos P z + 1 : Nat) : Int) else 0 := fun z hz => by rw [atL_at hz, htk]
      have hl3 : loopO (m_locksteplaw06_GraphReaches_L3 a R (atL P a.length P.length)) (true, (0 : Int)) = some (.inl (fwdTo a a.length)) := by
        refine loop_seq (m_locksteplaw06_GraphReaches_L3 a R (atL P a.length P.length)) (fun i => (fwdTo a i, ((i : Nat) : Int))) (.inl (fwdTo a a.length)) a.length (fun i hi => ?_) ?_
        · show m_locksteplaw06_GraphReaches_L3 a R (atL P a.length P.length) (_, _) = _
          unfold m_locksteplaw06_GraphReaches_L3
          simp only [dlt_t hi, cond_true, nat_nat]
          rw [chk_pos (inb (by rw [hRl]; exact hi)), chk_pos (inb (by rw [atL_len]; exact hi))]
          have hb : (R.getD i false != decide ((0 : Int) < (atL P a.length P.length).getD i 0)) = false := by
            rw [hAt i hi]
            by_cases hiP : i ∈ P
            · rw [if_pos hiP, (hRs i).2 ((hPs i).1 hiP), decide_eq_true (by omega)]; rfl
            · have : R.getD i false = false := by
                cases h : R.getD i false with
                | false => rfl
                | true => exact (hiP ((hPs i).2 ((hRs i).1 h))).elim
              rw [if_neg hiP, this]; rfl
          rw [hb, cond_false, m_fwd a i hi _ (fa.at i), w1 (by omega)]
          simp only [Option.bind_some]
          have : fwdTo a (i + 1) = (fwdTo a i && fwdAt a i (a.getD i []).length) := by unfold fwdTo; rw [all_succ]
          rw [this]
        · show m_locksteplaw06_GraphReaches_L3 a R (atL P a.length P.length) (_, _) = _
          unfold m_locksteplaw06_GraphReaches_L3
          simp only [dlt_f, cond_false]
      rw [hl3]
      simp only [Option.bind_some]
      have hl5 : loopO (m_locksteplaw06_GraphReaches_L5 a (atL P a.length P.length) (fwdTo a a.length)) (0 : Int) = some (.inl ()) := by
        cases hfw : fwdTo a a.length with
        | false =>
          apply loopO_done
          unfold m_locksteplaw06_GraphReaches_L5
          have : (bif decide ((0 : Int) < (a.length : Int)) then false else false) = false := by cases decide ((0 : Int) < (a.length : Int)) <;> rfl
          rw [this, cond_false]
        | true =>
          have hfS : ∀ z, ∀ y ∈ sN a z, z < y := fun z y hy => by
            by_cases hz : z < a.length
            · have h1 := (all_range.1 hfw) z hz
              unfold fwdAt at h1
              rw [all_range] at h1
              have h2 := (mem_sN hm hz).1 hy
              obtain ⟨m, hm', he⟩ := List.getElem_of_mem h2
              have h3 := of_decide_eq_true (h1 m hm')
              rw [getD_eq_of_lt _ _ _ hm', he] at h3
              omega
            · unfold sN at hy
              rw [List.getD_eq_getElem?_getD, List.getElem?_eq_none (by omega)] at hy
              simp at hy
          refine loop_seq (m_locksteplaw06_GraphReaches_L5 a (atL P a.length P.length) true) (fun i => ((i : Nat) : Int)) (.inl ()) a.length (fun i hi => ?_) ?_
          · show m_locksteplaw06_GraphReaches_L5 a (atL P a.length P.length) true (i : Int) = _
            unfold m_locksteplaw06_GraphReaches_L5
            simp only [dlt_t hi, cond_true]
            have hb := okL_len (hok i hi)
            have hl4 : loopO (m_locksteplaw06_GraphReaches_L4 a (atL P a.length P.length) (i : Int)) (0 : Int) = some (.inl ()) := by
              refine loop_seq (m_locksteplaw06_GraphReaches_L4 a (atL P a.length P.length) (i : Int)) (fun k => ((k : Nat) : Int)) (.inl ()) (a.getD i []).length (fun k hk => ?_) ?_
              · show m_locksteplaw06_GraphReaches_L4 a (atL P a.length P.length) (i : Int) (k : Int) = _
                unfold m_locksteplaw06_GraphReaches_L4
                obtain ⟨a0, a1⟩ := okL_at (hok i hi) hk
                obtain ⟨y, hy⟩ : ∃ y : Nat, (a.getD i []).getD k 0 = (y : Int) := ⟨((a.getD i []).getD k 0).toNat, by omega⟩
                rw [hy] at a0 a1
                have hyn : y < a.length := by omega
                have hyS : y ∈ sN a i := (mem_sN hm hi).2 (by rw [← hy]; exact getD_mem hk)
                simp only [nat_nat, dlt_t hk, cond_true, hy]
                rw [chk_pos (inb hi), chk_pos (inb (by rw [atL_len]; exact hi)), chk_imp (inb (by rw [atL_len]; exact hi)), chk_imp (inb hi), chk_imp (inb hk), chk_imp (inb (by rw [atL_len]; exact hyn)), hAt i hi, hAt y hyn]
                have hb2 : (bif decide ((0 : Int) < if i ∈ P then ((pos P i + 1 : Nat) : Int) else 0) then decide ((if y ∈ P then ((pos P y + 1 : Nat) : Int) else 0) ≤ if i ∈ P then ((pos P i + 1 : Nat) : Int) else 0) else false) = false := by
                  by_cases hiP : i ∈ P
                  · obtain ⟨A, B, hAB, hyB⟩ := hP.fwd hfS i hiP y hyS
                    have hyP : y ∈ P := by rw [hAB]; simp [hyB]
                    have hnd' := hnd
                    rw [hAB] at hnd'
                    obtain ⟨n1, n2, n3⟩ := List.nodup_append.1 hnd'
                    have hiA : i ∉ A := fun h => n3 i h i (List.mem_cons_self ..) rfl
                    have hyA : y ∉ A := fun h => n3 y h y (List.mem_cons_of_mem _ hyB) rfl
                    have hiy : i ≠ y := fun e => by subst e; exact (List.nodup_cons.1 n2).1 hyB
                    have q1 : pos P i = A.length := by
                      rw [hAB, pos_app hiA, pos_cons, if_pos rfl]; rfl
                    have q2 : pos P y = A.length + (pos B y + 1) := by
                      rw [hAB, pos_app hyA]
                      rw [pos_cons, if_neg hiy]
                    rw [if_pos hiP, if_pos hyP, q1, q2, decide_eq_true (by omega), cond_true, decide_eq_false (by omega)]
                  · rw [if_neg hiP]; rfl
                rw [hb2, cond_false, w1 (by omega)]
              · show m_locksteplaw06_GraphReaches_L4 a (atL P a.length P.length) (i : Int) _ = _
                unfold m_locksteplaw06_GraphReaches_L4
                simp only [nat_nat, dlt_f, cond_false]
                rw [chk_pos (inb hi)]
            rw [hl4, w1 (by omega)]
            rfl
          · show m_locksteplaw06_GraphReaches_L5 a (atL P a.length P.length) true _ = _
            unfold m_locksteplaw06_GraphReaches_L5
            simp only [dlt_f, cond_false]
      rw [hl5]
      simp only [Option.bind_some]
      obtain ⟨s', o, _, rfl⟩ := hP
      rw [chk_pos (by show InB 0 _; exact inb (i := 0) (by rw [hPl]; simp))]
      simp [ofN]
end Go.Proofs.Ytcpopeamoipjlaa
