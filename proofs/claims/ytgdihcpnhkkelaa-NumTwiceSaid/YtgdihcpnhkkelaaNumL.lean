/-
  What Row and List compute.
-/
import Derived.Test.YtgdihcpnhkkelaaNumM
namespace Go.Proofs.Ytgdihcpnhkkelaa
open Go Go.RowKit
set_option linter.unusedVariables false

/-- Numbers' bytes, one behind the other. -/
def flat (l : List Int) : List Int := (l.map fun x => putN x.toNat).flatten
theorem flat_nil : flat [] = [] := rfl
theorem flat_cons (x : Int) (l : List Int) : flat (x :: l) = putN x.toNat ++ flat l := rfl
theorem flat_app (l m : List Int) : flat (l ++ m) = flat l ++ flat m := by simp [flat]
theorem flat_byte (l : List Int) : Bytes (flat l) := by
  intro x hx
  simp only [flat, List.mem_flatten, List.mem_map] at hx
  obtain ⟨_, ⟨y, _, rfl⟩, hx⟩ := hx
  exact putN_byte _ x hx
def I64 (l : List Int) : Prop := ∀ x ∈ l, -9223372036854775808 ≤ x ∧ x < 9223372036854775808
theorem I64.len {l : List Int} (h : I64 l) : (flat l).length ≤ 10 * l.length := by
  induction l with
  | nil => simp [flat]
  | cons x l ih =>
    have := ih fun y hy => h y (List.mem_cons_of_mem _ hy)
    have hx := h x List.mem_cons_self
    have := putN_len10 (v := x.toNat) (by rw [two64]; omega)
    simp [flat_cons]
    omega
theorem Bytes.app {a b : List Int} (h : Bytes a) (k : Bytes b) : Bytes (a ++ b) := fun x hx => (List.mem_append.1 hx).elim (h x) (k x)
theorem putN_bytes (v : Nat) : Bytes (putN v) := putN_byte v

theorem row_loop (l : List Int) (hl : l.length ≤ 1000) (hv : I64 l) (p : Int → Option (List Int)) (hp : ∀ v : Nat, v < 2 ^ 64 → p v = some (putN v)) (f : List Int × Int → Option (LR (List Int × Int) (List Int ⊕ List Int)))
    (hf : ∀ (acc : List Int) (i : Nat), f (acc, i) = (bif (decide ((i : Int) < (l.length : Int))) then (chk (InB i l.length) (bif (decide (((l.getD ((i : Int)).toNat (0 : Int)) : Int) < (0 : Int))) then (some (.done (.inr ([] : List Int)))) else (chk (InB i l.length) ((p (wu64 (l.getD ((i : Int)).toNat (0 : Int)))).bind fun x7 => (chk (acc.length + x7.length ≤ room) (some (.next ((acc ++ x7), (w64 ((i : Int) + (1 : Int))))))))))) else (some (.done (.inl acc))))) :
    ∀ (r pre acc : List Int), l = pre ++ r → acc.length ≤ 10 * (pre.length + 1) → loopO f (acc, (pre.length : Int)) = some (if ∃ x ∈ r, x < 0 then .inr [] else .inl (acc ++ flat r)) := by
  intro r
  induction r with
  | nil =>
    intro pre acc hlr ha
    have hlen : l.length = pre.length := by rw [hlr]; simp
    have h1 : decide ((pre.length : Int) < (l.length : Int)) = false := by simp; omega
    rw [loopO_done (x := Sum.inl acc) (by rw [hf, h1]; rfl)]
    simp [flat]
  | cons x r ih =>
    intro pre acc hlr ha
    have hlen : l.length = pre.length + (r.length + 1) := by rw [hlr]; simp
    have hx : l.getD pre.length 0 = x := by rw [hlr, List.getD, List.getElem?_append_right (by omega)]; simp
    have hxb := hv x (by rw [hlr]; simp)
    have h1 : decide ((pre.length : Int) < (l.length : Int)) = true := by simp; omega
    have e := hf acc pre.length
    rw [h1, cond_true, chk_pos' (p := InB _ _) ⟨by omega, by omega⟩, Int.toNat_natCast, hx] at e
    by_cases hneg : x < 0
    · rw [decide_eq_true hneg, cond_true] at e
      rw [loopO_done e, if_pos ⟨x, List.mem_cons_self, hneg⟩]
    · have hput := putN_len10 (v := x.toNat) (by rw [two64]; omega)
      rw [decide_eq_false hneg, cond_false, chk_pos' (p := InB _ _) ⟨by omega, by omega⟩, wu64_of (by omega) (by omega), show p x = some (putN x.toNat) by rw [← hp x.toNat (by rw [two64]; omega)]; congr 1; omega,
        Option.bind_some, chk_pos' (by simp only [room]; omega), w64_of (by omega) (by omega)] at e
      have := ih (pre ++ [x]) (acc ++ putN x.toNat) (by simp [hlr]) (by simp; omega)
      rw [loopO_next e, show ((pre.length : Int) + 1) = ((pre ++ [x]).length : Int) by simp, this]
      have hiff : (∃ y ∈ x :: r, y < 0) ↔ ∃ y ∈ r, y < 0 := by
        simp only [List.mem_cons]
        constructor
        · rintro ⟨y, rfl | hy, h⟩
          · omega
          · exact ⟨y, hy, h⟩
        · rintro ⟨y, hy, h⟩; exact ⟨y, .inr hy, h⟩
      simp only [hiff, flat_cons, List.append_assoc]
/-- A list as bytes. -/
noncomputable def rowS (l : List Int) : List Int := open Classical in if ∃ x ∈ l, x < 0 then [] else putN l.length ++ flat l
theorem row_eq (l : List Int) (hl : l.length ≤ 1000) (hv : I64 l) : m_num_Row l = some (rowS l) := by
  have hput := putN_len10 (v := l.length) (by rw [two64]; omega)
  unfold m_num_Row
  rw [wu64_of (by omega) (by omega), put_eq (by rw [two64]; omega), Option.bind_some]
  have := row_loop l hl hv m_num_Put (fun v h => put_eq h) (m_num_Row_L1 l) (fun acc i => rfl) l [] (putN l.length) rfl (by simpa using hput)
  rw [show (([] : List Int).length : Int) = 0 from rfl] at this
  rw [this]
  unfold rowS
  split <;> rfl
theorem rrow_eq (l : List Int) (hl : l.length ≤ 1000) (hv : I64 l) : m_lockstepref02_Row l = some (rowS l) := by
  have hput := putN_len10 (v := l.length) (by rw [two64]; omega)
  unfold m_lockstepref02_Row
  rw [wu64_of (by omega) (by omega), rput_eq (by rw [two64]; omega), Option.bind_some]
  have := row_loop l hl hv m_lockstepref02_Put (fun v h => rput_eq h) (m_lockstepref02_Row_L1 l) (fun acc i => rfl) l [] (putN l.length) rfl (by simpa using hput)
  rw [show (([] : List Int).length : Int) = 0 from rfl] at this
  rw [this]
  unfold rowS
  split <;> rfl

theorem list_loop (b more l : List Int) (k : Nat) (x1 : Int × Int × Int) (hx1 : x1.1 = k) (hb : b = putN k ++ flat l ++ more) (hB : Bytes b) (hbl : b.length < 2 ^ 62) (hk : l.length = k) (hv : I64 l) (hp : ∀ x ∈ l, 0 ≤ x) (hk' : k ≤ 1000000) :
    ∀ (r pre : List Int) (great : Bool), l = pre ++ r →
      loopO (m_num_List_L1 b x1) ((((putN k).length + (flat pre).length : Nat) : Int), pre, great, (pre.length : Int)) =
        some (.inl ((((putN k).length + (flat l).length : Nat) : Int), l, great || decide (∃ x ∈ r, x > 2147483647))) := by
  intro r
  induction r with
  | nil =>
    intro pre great hlr
    have e : l = pre := by rw [hlr]; simp
    subst e
    have h1 : decide ((l.length : Int) < w64 x1.1) = false := by rw [hx1, w64_of (by omega) (by omega)]; simp; omega
    rw [loopO_done (x := Sum.inl (_, l, great)) (by unfold m_num_List_L1; simp only [h1, cond_false]; rfl)]
    simp
  | cons x r ih =>
    intro pre great hlr
    have hlen : l.length = pre.length + (r.length + 1) := by rw [hlr]; simp
    have hxb := hv x (by rw [hlr]; simp)
    have hx0 := hp x (by rw [hlr]; simp)
    have h1 : decide ((pre.length : Int) < w64 x1.1) = true := by rw [hx1, w64_of (by omega) (by omega)]; simp; omega
    have hbs : b = (putN k ++ flat pre) ++ (putN x.toNat ++ (flat r ++ more)) := by rw [hb, hlr, flat_app, flat_cons]; simp
    have hdrop : b.drop ((putN k).length + (flat pre).length) = putN x.toNat ++ (flat r ++ more) := by
      conv => lhs; rw [hbs]
      rw [List.drop_append_of_le_length (by simp), List.drop_of_length_le (by simp)]
      rfl
    have hbl2 : b.length = (putN k).length + (flat pre).length + ((putN x.toNat).length + ((flat r).length + more.length)) := by
      conv => lhs; rw [hbs]
      simp
      omega
    have hg : m_num_Get (b.drop ((putN k).length + (flat pre).length)) = some (x, ((putN x.toNat).length : Int), 0) := by
      rw [get_eq _ (fun y hy => hB y (List.mem_of_mem_drop hy)) (by simp; omega), hdrop, getS_put (by rw [two64]; omega)]
      congr 2
      omega
    have e : m_num_List_L1 b x1 ((((putN k).length + (flat pre).length : Nat) : Int), pre, great, (pre.length : Int)) =
        some (.next ((((putN k).length + (flat (pre ++ [x])).length : Nat) : Int), pre ++ [x], great || decide (x > 2147483647), ((pre ++ [x]).length : Int))) := by
      unfold m_num_List_L1
      simp only [h1, cond_true]
      rw [chk_pos' (by omega)]
      simp only [Int.toNat_natCast, hg, Option.bind_some]
      rw [show ((0 : Int) != 0) = false from rfl, cond_false, chk_pos' (by simp [room]; omega), w64_of (by omega) (by omega), w64_of (by omega) (by omega), w64_of (by omega) (by omega)]
      congr 2
      refine Prod.ext ?_ (Prod.ext rfl (Prod.ext ?_ ?_))
      · show (_ : Int) = ((_ : Nat) : Int)
        simp [flat_app, flat_cons, flat_nil]
        omega
      · show (bif great then true else _) = _
        cases great <;> simp
      · show (_ : Int) = ((_ : Nat) : Int)
        simp
    rw [loopO_next e, ih (pre ++ [x]) _ (by simp [hlr])]
    congr 4
    rw [Bool.or_assoc]
    congr 1
    rw [Bool.eq_iff_iff]
    simp
theorem list_eq (b more l : List Int) (most : Int) (hb : b = putN l.length ++ flat l ++ more) (hM : Bytes more) (hbl : b.length < 2 ^ 62) (hv : I64 l) (hp : ∀ x ∈ l, 0 ≤ x) (hk : l.length ≤ 1000000) (hm : l.length ≤ most) (hm' : most < 2 ^ 62) :
    m_num_List b most = some (if ∃ x ∈ l, x > 2147483647 then ([], 0, 4) else (l, (((putN l.length).length + (flat l).length : Nat) : Int), 0)) := by
  have hB : Bytes b := by rw [hb]; exact ((putN_bytes _).app (flat_byte _)).app hM
  have hg : m_num_Get b = some ((l.length : Int), ((putN l.length).length : Int), 0) := by
    rw [get_eq _ hB hbl, hb, List.append_assoc, getS_put (by rw [two64]; omega)]
  unfold m_num_List
  rw [hg, Option.bind_some]
  have h1 : decide (most < 0) = false := by simp; omega
  have h2 : decide (wu64 most < (l.length : Int)) = false := by rw [wu64_of (by omega) (by omega)]; simp; omega
  simp only [h1, h2, cond_false]
  rw [show ((0 : Int) != 0) = false from rfl, cond_false]
  have := list_loop b more l l.length ((l.length : Int), ((putN l.length).length : Int), 0) rfl hb hB hbl rfl hv hp hk l [] false rfl
  simp only [flat_nil, List.length_nil, Nat.add_zero] at this
  rw [show ((0 : Nat) : Int) = 0 from rfl] at this
  rw [this]
  simp only [Option.bind_some, Bool.false_or]
  by_cases hgr : ∃ x ∈ l, x > 2147483647
  · rw [decide_eq_true hgr, if_pos hgr]; rfl
  · rw [decide_eq_false hgr, if_neg hgr]; rfl
theorem list_size (b more l : List Int) (most : Int) (hb : b = putN l.length ++ flat l ++ more) (hM : Bytes more) (hbl : b.length < 2 ^ 62) (hk : l.length ≤ 1000000) (hm : most < l.length) (hm' : -2 ^ 62 < most) :
    m_num_List b most = some ([], 0, 4) := by
  have hB : Bytes b := by rw [hb]; exact ((putN_bytes _).app (flat_byte _)).app hM
  have hg : m_num_Get b = some ((l.length : Int), ((putN l.length).length : Int), 0) := by
    rw [get_eq _ hB hbl, hb, List.append_assoc, getS_put (by rw [two64]; omega)]
  unfold m_num_List
  rw [hg, Option.bind_some]
  have h12 : (bif decide (most < 0) then true else decide (wu64 most < (l.length : Int))) = true := by
    by_cases h : most < 0
    · simp [h]
    · rw [wu64_of (by omega) (by omega)]; simp; omega
  simp only [h12, cond_true]
  rfl

theorem awake_eq : m_locksteplaw02_awake = some true := by
  have hp : putN 300 = [172, 2] := by rw [putN_ge (by omega), putN_lt (by omega)]; rfl
  have p2 : putN 2 = [2] := putN_lt (by omega)
  have p5 : putN 5 = [5] := putN_lt (by omega)
  have p6 : putN 6 = [6] := putN_lt (by omega)
  have e1 : m_num_Put 300 = some [172, 2] := by rw [← hp]; exact put_eq (v := 300) (by decide)
  have e2 : m_num_Get [172, 2, 9] = some (300, 2, 0) := by
    rw [get_eq _ (by intro x hx; simp at hx; omega) (by simp), show ([172, 2, 9] : List Int) = putN 300 ++ [9] by rw [hp]; rfl, getS_put (by decide), hp]; rfl
  have e3 : m_num_Get [128, 0] = some (0, 0, 3) := by
    rw [get_eq _ (by intro x hx; simp at hx; omega) (by simp)]; simp [getS, getL]
  have e4 : m_num_List [2, 5, 6, 7] 9 = some ([5, 6], 3, 0) := by
    have := list_eq [2, 5, 6, 7] [7] [5, 6] 9 (by show _ = putN 2 ++ flat [5, 6] ++ [7]; simp [flat, p2, p5, p6]) (by intro x hx; simp at hx; omega) (by simp) (by intro x hx; simp at hx; omega) (by intro x hx; simp at hx; omega) (by simp) (by simp) (by decide)
    rw [this]
    simp [flat, p2, p5, p6]
  unfold m_locksteplaw02_awake
  rw [e1, e2, e3, e4]
  simp [chk, InB]
end Go.Proofs.Ytgdihcpnhkkelaa
