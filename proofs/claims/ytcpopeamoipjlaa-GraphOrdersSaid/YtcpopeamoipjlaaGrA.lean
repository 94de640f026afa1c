/-
  Graphs, plainly: which lists of ways on may be, who goes on at whom; and what the program's checks and copies compute.
-/
import Derived.Test.YtcpopeamoipjlaaGen
import Derived.Test.YtcpopeamoipjlaaLoops
namespace Go.Proofs.Ytcpopeamoipjlaa
open Go Go.RowKit
set_option linter.unusedVariables false
set_option linter.unusedSimpArgs false

/-! ### Loops, step by step -/
theorem loop_seq {S X : Type} (f : S → Option (LR S X)) (T : Nat → S) (x : X) : ∀ (n : Nat), (∀ i, i < n → f (T i) = some (.next (T (i + 1)))) → f (T n) = some (.done x) → loopO f (T 0) = some x := by
  suffices h : ∀ (k i n : Nat), i + k = n → (∀ j, i ≤ j → j < n → f (T j) = some (.next (T (j + 1)))) → f (T n) = some (.done x) → loopO f (T i) = some x from
    fun n h1 h2 => h n 0 n (by omega) (fun j _ hj => h1 j hj) h2
  intro k
  induction k with
  | zero =>
    intro i n hi _ h2
    have hin : n = i := by omega
    subst hin
    exact loopO_done h2
  | succ k ih => intro i n hi h1 h2; rw [loopO_next (h1 i (Nat.le_refl _) (by omega))]; exact ih (i + 1) n (by omega) (fun j hj hj' => h1 j (by omega) hj') h2
theorem loop_seq_part {S X : Type} (f : S → Option (LR S X)) (T : Nat → S) : ∀ (n : Nat), (∀ i, i < n → f (T i) = some (.next (T (i + 1)))) → loopO f (T 0) = loopO f (T n) := by
  intro n
  induction n with
  | zero => intro _; rfl
  | succ n ih => intro h; rw [ih (fun i hi => h i (by omega)), loopO_next (h n (by omega))]
/-- .. till one does not fit. -/
theorem loop_find {S X : Type} (f : S → Option (LR S X)) (T : Nat → S) (p : Nat → Bool) (yes no : X) (n : Nat) (hn : ∀ i, i < n → p i = true → f (T i) = some (.next (T (i + 1)))) (hf : ∀ i, i < n → p i = false → f (T i) = some (.done no))
    (he : f (T n) = some (.done yes)) : loopO f (T 0) = some (bif (List.range n).all p then yes else no) := by
  cases hall : (List.range n).all p with
  | true =>
    rw [cond_true]
    exact loop_seq f T yes n (fun i hi => hn i hi (List.all_eq_true.1 hall i (List.mem_range.2 hi))) he
  | false =>
    rw [cond_false]
    have hex : ∃ i, i < n ∧ p i = false := by
      have : ¬ ∀ i ∈ List.range n, p i = true := fun h => by rw [List.all_eq_true.2 h] at hall; cases hall
      simpa using this
    let P : Nat → Prop := fun m => m < n ∧ p m = false
    obtain ⟨m, hm⟩ := hex
    have key : ∀ m, m < n → p m = false → ∃ k, k < n ∧ p k = false ∧ ∀ j, j < k → p j = true := by
      intro m
      induction m using Nat.strongRecOn with
      | ind m ih =>
        intro h1 h2
        by_cases h : ∃ j, j < m ∧ p j = false
        · obtain ⟨j, hj, hpj⟩ := h
          exact ih j hj (by omega) hpj
        · refine ⟨m, h1, h2, fun j hj => ?_⟩
          cases hpj : p j with
          | true => rfl
          | false => exact (h ⟨j, hj, hpj⟩).elim
    obtain ⟨k, hk, hpk, hlt⟩ := key m hm.1 hm.2
    rw [loop_seq_part f T k (fun i hi => hn i (by omega) (hlt i hi))]
    exact loopO_done (hf k hk hpk)

theorem all_range {n : Nat} {p : Nat → Bool} : (List.range n).all p = true ↔ ∀ i, i < n → p i = true := by
  rw [List.all_eq_true]
  exact ⟨fun h i hi => h i (List.mem_range.2 hi), fun h i hi => h i (List.mem_range.1 hi)⟩
theorem nat_nat (i : Nat) : ((i : Int)).toNat = i := Int.toNat_natCast i
theorem w1 {i : Nat} (h : i < 4611686018427387904) : w64 ((i : Int) + 1) = ((i + 1 : Nat) : Int) := by rw [w64_of (by omega) (by omega)]; omega
theorem dlt {i n : Nat} : decide (((i : Nat) : Int) < ((n : Nat) : Int)) = decide (i < n) := by simp
theorem dlt_t {i n : Nat} (h : i < n) : decide (((i : Nat) : Int) < ((n : Nat) : Int)) = true := by simpa using h
theorem dlt_f {n : Nat} : decide (((n : Nat) : Int) < ((n : Nat) : Int)) = false := by simp
theorem inb {i n : Nat} (h : i < n) : InB ((i : Nat) : Int) n := inB_nat h
theorem inbz {x : Int} {n : Nat} (h0 : 0 ≤ x) (h1 : x < n) : InB x n := ⟨h0, h1⟩
theorem room_big : (64 : Nat) ≤ room := by decide

/-! ### Which may be -/
/-- One element of a list of places: more than the one ahead, and a place. -/
def okAt (n : Nat) (l : List Int) (i : Nat) : Bool := decide ((if i = 0 then (-1 : Int) else l.getD (i - 1) 0) < l.getD i 0) && (decide (0 ≤ l.getD i 0) && decide (l.getD i 0 < n))
def okL (n : Nat) (l : List Int) : Bool := (List.range l.length).all (okAt n l)
def mayS (L : List (List Int)) : Bool := decide (1 ≤ L.length) && decide (L.length ≤ 64) && (List.range L.length).all fun i => okL L.length (L.getD i [])
def goesB (L : List (List Int)) (k i : Nat) : Bool := (L.getD k []).contains (i : Int)
/-- Those that go on at 'i', of the first 'm'. -/
def predAt (L : List (List Int)) (m i : Nat) : List Int := ((List.range m).filter fun k => goesB L k i).map Int.ofNat
def predOf (L : List (List Int)) : List (List Int) := (List.range L.length).map (predAt L L.length)

theorem m_isPlace (a n : Int) : m_graph_isPlace a n = some (decide (0 ≤ a) && decide (a < n)) := by
  unfold m_graph_isPlace
  cases decide ((0 : Int) ≤ a) <;> rfl
theorem m_isCount (n : Nat) : m_graph_isCount (n : Int) = some (decide (1 ≤ n) && decide (n ≤ 64)) := by
  unfold m_graph_isCount
  have h1 : decide ((1 : Int) ≤ (n : Int)) = decide (1 ≤ n) := by apply decide_eq_decide.2; omega
  have h2 : decide ((n : Int) ≤ (64 : Int)) = decide (n ≤ 64) := by apply decide_eq_decide.2; omega
  rw [h1, h2]
  cases decide (1 ≤ n) <;> rfl

theorem succMay_L1 (L : List (List Int)) (i : Nat) (hl : (L.getD i []).length < 4611686018427387904) :
    loopO (m_graph_succMay_L1 L (i : Int)) ((-1 : Int), (0 : Int)) = some (bif okL L.length (L.getD i []) then .inl () else .inr false) := by
  refine loop_find (m_graph_succMay_L1 L (i : Int)) (fun j => ((if j = 0 then (-1 : Int) else (L.getD i []).getD (j - 1) 0), ((j : Nat) : Int))) (okAt L.length (L.getD i [])) (.inl ()) (.inr false) _ (fun j hj hp => ?_) (fun j hj hp => ?_) ?_
  · unfold okAt at hp
    simp only [Bool.and_eq_true, decide_eq_true_eq] at hp
    obtain ⟨h1, h2, h3⟩ := hp
    show m_graph_succMay_L1 L (i : Int) (_, _) = _
    unfold m_graph_succMay_L1
    simp only [nat_nat, dlt_t hj, cond_true, m_isPlace]
    rw [chk_pos (inb hj)]
    have e1 : decide ((L.getD i []).getD j 0 ≤ (if j = 0 then (-1 : Int) else (L.getD i []).getD (j - 1) 0)) = false := by simpa using h1
    simp only [e1, decide_eq_true h2, decide_eq_true h3, Bool.and_self, beq_self_eq_true, cond_true, cond_false, Option.bind_some, Bool.not_true]
    rw [w1 (show j < 4611686018427387904 by omega)]
    simp
  · show m_graph_succMay_L1 L (i : Int) (_, _) = _
    unfold m_graph_succMay_L1
    simp only [nat_nat, dlt_t hj, cond_true, m_isPlace]
    rw [chk_pos (inb hj)]
    cases h1 : decide ((L.getD i []).getD j 0 ≤ (if j = 0 then (-1 : Int) else (L.getD i []).getD (j - 1) 0)) with
    | true => simp only [cond_true, show ((true == false) = false) from rfl, cond_false, Option.bind_some]
    | false =>
      have h1' : decide ((if j = 0 then (-1 : Int) else (L.getD i []).getD (j - 1) 0) < (L.getD i []).getD j 0) = true := by simpa using h1
      unfold okAt at hp
      rw [h1', Bool.true_and] at hp
      simp only [beq_self_eq_true, cond_true, cond_false, Option.bind_some, hp, Bool.not_false]
  · show m_graph_succMay_L1 L (i : Int) (_, _) = _
    unfold m_graph_succMay_L1
    simp only [nat_nat, dlt_f, cond_false]

/-- No list is longer than any machine's memory. -/
def Fits (L : List (List Int)) : Prop := L.length < 4611686018427387904 ∧ ∀ l ∈ L, l.length < 4611686018427387904
theorem Fits.at {L : List (List Int)} (h : Fits L) (i : Nat) : (L.getD i []).length < 4611686018427387904 := by
  by_cases hi : i < L.length
  · exact h.2 _ (getD_mem hi)
  · rw [List.getD_eq_getElem?_getD, List.getElem?_eq_none (by omega)]; simp
theorem m_succMay (L : List (List Int)) (h : Fits L) : m_graph_succMay L = some (mayS L) := by
  unfold m_graph_succMay
  rw [m_isCount, Option.bind_some]
  unfold mayS
  cases hc : (decide (1 ≤ L.length) && decide (L.length ≤ 64)) with
  | false => rfl
  | true =>
    simp only [Bool.not_true, cond_false, Bool.true_and]
    have := loop_find (m_graph_succMay_L2 L) (fun j => ((j : Nat) : Int)) (fun i => okL L.length (L.getD i [])) (.inl ()) (.inr false) L.length (fun j hj hp => ?_) (fun j hj hp => ?_) ?_
    · rw [show loopO (m_graph_succMay_L2 L) (0 : Int) = _ from this]
      cases (List.range L.length).all fun i => okL L.length (L.getD i []) <;> rfl
    · show m_graph_succMay_L2 L (j : Int) = _
      unfold m_graph_succMay_L2
      simp only [dlt_t hj, cond_true]
      rw [chk_pos (inb hj), succMay_L1 L j (h.at j), hp]
      simp only [cond_true, Option.bind_some, w1 (show j < 4611686018427387904 by have := h.1; omega)]
    · show m_graph_succMay_L2 L (j : Int) = _
      unfold m_graph_succMay_L2
      simp only [dlt_t hj, cond_true]
      rw [chk_pos (inb hj), succMay_L1 L j (h.at j), hp]
      rfl
    · show m_graph_succMay_L2 L _ = _
      unfold m_graph_succMay_L2
      simp only [dlt_f, cond_false]
end Go.Proofs.Ytcpopeamoipjlaa
