/-
  Numbers one behind the other.
-/
import Derived.Test.YtgdihcpnhkkelaaNumQ
namespace Go.Proofs.Ytgdihcpnhkkelaa
open Go Go.RowKit
set_option linter.unusedVariables false

def U32 (l : List Int) : Prop := ∀ x ∈ l, 0 ≤ x ∧ x < 4294967296
def low31 (l : List Int) : List Int := l.map (· % 2147483648)
theorem low31_app (l m : List Int) : low31 (l ++ m) = low31 l ++ low31 m := by simp [low31]
theorem low31_len (l : List Int) : (low31 l).length = l.length := by simp [low31]
theorem low31_mem {l : List Int} {x : Int} (h : x ∈ low31 l) : 0 ≤ x ∧ x < 2147483648 := by
  simp only [low31, List.mem_map] at h
  obtain ⟨y, _, rfl⟩ := h
  omega
theorem low31_i64 (l : List Int) : I64 (low31 l) := fun x hx => by have := low31_mem hx; omega

theorem stream_loop1 (l : List Int) (hl : l.length ≤ 100) (hu : U32 l) : ∀ (r pre : List Int), l = pre ++ r →
    loopO (m_locksteplaw02_NumStream_L1 l) (flat (low31 pre), low31 pre, (pre.length : Int)) = some (flat (low31 l), low31 l) := by
  intro r
  induction r with
  | nil =>
    intro pre hlr
    have e : l = pre := by rw [hlr]; simp
    subst e
    have h1 : decide ((l.length : Int) < (l.length : Int)) = false := by simp
    exact loopO_done (by unfold m_locksteplaw02_NumStream_L1; simp only [h1, cond_false])
  | cons x r ih =>
    intro pre hlr
    have hlen : l.length = pre.length + (r.length + 1) := by rw [hlr]; simp
    have hx : l.getD pre.length 0 = x := by rw [hlr, List.getD, List.getElem?_append_right (by omega)]; simp
    have hxb := hu x (by rw [hlr]; simp)
    obtain ⟨n, rfl⟩ : ∃ n : Nat, x = n := ⟨x.toNat, by omega⟩
    have h1 : decide ((pre.length : Int) < (l.length : Int)) = true := by simp; omega
    have hb : bitsV .and .u32 (n : Int) 2147483647 = ((n % 2147483648 : Nat) : Int) := and_low .u32 rfl 31 (by decide) (by show n < 2 ^ 32; omega) (by decide)
    have hput := putN_len10 (v := n % 2147483648) (by rw [two64]; omega)
    have hfl := (low31_i64 pre).len
    rw [low31_len] at hfl
    have hn : low31 [(n : Int)] = [((n % 2147483648 : Nat) : Int)] := by simp [low31]
    have e : m_locksteplaw02_NumStream_L1 l (flat (low31 pre), low31 pre, (pre.length : Int)) = some (.next (flat (low31 (pre ++ [(n : Int)])), low31 (pre ++ [(n : Int)]), ((pre ++ [(n : Int)]).length : Int))) := by
      unfold m_locksteplaw02_NumStream_L1
      simp only [h1, cond_true, Int.toNat_natCast, hx, hb]
      rw [chk_pos' ⟨by omega, by omega⟩, wu64_of (by omega) (by omega), put_eq (by rw [two64]; omega), Option.bind_some, chk_pos' (by simp only [room]; omega), chk_pos' ⟨by omega, by omega⟩,
        chk_pos' (by simp [room, low31_len]; omega), w64_of (by omega) (by omega), w64_of (by omega) (by omega), low31_app, flat_app, hn]
      congr 2
      refine Prod.ext ?_ (Prod.ext rfl (by simp))
      simp [flat]
      exact congrArg putN (by omega)
    rw [loopO_next e]
    exact ih (pre ++ [(n : Int)]) (by simp [hlr])
theorem stream_loop2 (l : List Int) (hl : l.length ≤ 100) : ∀ (r pre : List Int), low31 l = pre ++ r →
    loopO (m_locksteplaw02_NumStream_L2 l (flat (low31 l)) (low31 l)) (((flat pre).length : Int), (pre.length : Int)) = some (.inl ((flat (low31 l)).length : Int)) := by
  have hfl := (low31_i64 l).len
  rw [low31_len] at hfl
  intro r
  induction r with
  | nil =>
    intro pre hlr
    have e : low31 l = pre := by rw [hlr]; simp
    have hlen : l.length = pre.length := by rw [← low31_len, e]
    have h1 : decide ((pre.length : Int) < (l.length : Int)) = false := by simp; omega
    rw [e]
    exact loopO_done (by unfold m_locksteplaw02_NumStream_L2; simp only [h1, cond_false])
  | cons x r ih =>
    intro pre hlr
    have hlen : l.length = pre.length + (r.length + 1) := by rw [← low31_len, hlr]; simp
    have hx : (low31 l).getD pre.length 0 = x := by rw [hlr, List.getD, List.getElem?_append_right (by omega)]; simp
    have hxb : 0 ≤ x ∧ x < 2147483648 := low31_mem (by rw [hlr]; simp)
    have h1 : decide ((pre.length : Int) < (l.length : Int)) = true := by simp; omega
    have hfs : flat (low31 l) = flat pre ++ (putN x.toNat ++ flat r) := by rw [hlr, flat_app, flat_cons]
    have hdrop : (flat (low31 l)).drop (flat pre).length = putN x.toNat ++ flat r := by
      rw [hfs, List.drop_append_of_le_length (by simp), List.drop_of_length_le (by simp)]
      rfl
    have hll : (flat (low31 l)).length = (flat pre).length + ((putN x.toNat).length + (flat r).length) := by rw [hfs]; simp
    have e : m_locksteplaw02_NumStream_L2 l (flat (low31 l)) (low31 l) (((flat pre).length : Int), (pre.length : Int)) = some (.next (((flat (pre ++ [x])).length : Int), ((pre ++ [x]).length : Int))) := by
      unfold m_locksteplaw02_NumStream_L2
      simp only [h1, cond_true, Int.toNat_natCast]
      rw [chk_pos' (by omega), hdrop, get_eq _ ((putN_bytes _).app (flat_byte _)) (by simp; omega), Option.bind_some, getS_put (by rw [two64]; omega)]
      simp only [hx]
      rw [show ((0 : Int) != 0) = false from rfl, chk_pos' (fun _ => ⟨by omega, by rw [low31_len]; omega⟩), cond_false, wu64_of (by omega) (by omega), show (((x.toNat : Nat) : Int) != x) = false by simp; omega,
        cond_false, w64_of (by omega) (by omega), w64_of (by omega) (by omega)]
      congr 2
      refine Prod.ext ?_ (by simp)
      simp [flat_app, flat_cons, flat_nil]
    rw [loopO_next e]
    exact ih (pre ++ [x]) (by simp [hlr])

theorem stream_true (l : List Int) (hu : U32 l) : m_locksteplaw02_NumStream l = some true := by
  unfold m_locksteplaw02_NumStream
  rw [awake_eq]
  simp only [Option.bind_some, Bool.not_true, cond_false]
  by_cases hlen : (100 : Int) < l.length
  · rw [decide_eq_true hlen]; rfl
  rw [decide_eq_false hlen, cond_false]
  have h1 := stream_loop1 l (by omega) hu l [] rfl
  rw [show (([] : List Int).length : Int) = 0 from rfl, show low31 [] = [] from rfl, flat_nil] at h1
  rw [h1]
  simp only [Option.bind_some]
  have h2 := stream_loop2 l (by omega) (low31 l) [] rfl
  rw [flat_nil, show (([] : List Int).length : Int) = 0 from rfl] at h2
  rw [h2]
  simp only [Option.bind_some]
  have hfl := (low31_i64 l).len
  have hll := low31_len l
  have hput := putN_len10 (v := l.length) (by rw [two64]; omega)
  have hpos : ∀ x ∈ low31 l, 0 ≤ x := fun x hx => (low31_mem hx).1
  have hneg : ¬ ∃ x ∈ low31 l, x < 0 := fun ⟨x, hx, h⟩ => by have := low31_mem hx; omega
  have hgr : ¬ ∃ x ∈ low31 l, x > 2147483647 := fun ⟨x, hx, h⟩ => by have := low31_mem hx; omega
  have hr : rowS (low31 l) = putN l.length ++ flat (low31 l) := by unfold rowS; rw [if_neg hneg, low31_len]
  rw [wu64_of (by omega) (by omega), put_eq (by rw [two64]; omega), Option.bind_some, chk_pos' (by simp only [room]; omega),
    list_eq _ [] (low31 l) 100 (by rw [low31_len]; simp) (by intro x hx; cases hx) (by simp; omega) (low31_i64 l) hpos (by omega) (by omega) (by omega), Option.bind_some, if_neg hgr]
  have e1 : ((((putN (low31 l).length).length + (flat (low31 l)).length : Nat) : Int) == ((putN l.length ++ flat (low31 l)).length : Int)) = true := by rw [low31_len]; simp
  simp only [e1]
  rw [show ((0 : Int) == 0) = true from rfl]
  simp only [cond_true, beq_self_eq_true]
  rw [ints_eq _ _ (by omega) (by omega), Option.bind_some]
  simp only [decide_true, cond_true, beq_self_eq_true]
  rw [row_eq _ (by omega) (low31_i64 l), Option.bind_some, hr, same_put (by simp; omega) (by simp; omega), Option.bind_some]
  simp
end Go.Proofs.Ytgdihcpnhkkelaa
