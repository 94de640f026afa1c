/-
  A number's bytes with a byte more, or with a bit turned.
-/
import Derived.Test.YtgdihcpnhkkelaaNumQ
namespace Go.Proofs.Ytgdihcpnhkkelaa
open Go Go.RowKit
set_option linter.unusedVariables false

def High (l : List Int) : Prop := ∀ x ∈ l, 128 ≤ x ∧ x < 256
def valN (n : Nat) : List Int → Nat
  | [] => 0
  | h :: t => h.toNat % 128 * 128 ^ n + valN (n + 1) t
theorem getL_high : ∀ (hs : List Int) (n acc : Nat) (r : List Int), High hs → n + hs.length ≤ 10 → getL n acc (hs ++ r) = getL (n + hs.length) (acc + valN n hs) r
  | [], n, acc, r, _, _ => by simp [valN]
  | h :: t, n, acc, r, hh, hn => by
    have h1 := hh h List.mem_cons_self
    simp only [List.length_cons] at hn
    simp only [List.cons_append, getL, if_neg (by omega : ¬ n = 10), if_pos h1.1]
    rw [getL_high t (n + 1) _ r (fun x hx => hh x (List.mem_cons_of_mem _ hx)) (by omega)]
    simp only [List.length_cons, valN]
    congr 1 <;> omega
theorem putN_split (v : Nat) : ∃ (hs : List Int) (c : Nat), putN v = hs ++ [(c : Int)] ∧ High hs ∧ c < 128 := by
  induction v using Nat.strongRecOn with
  | _ v ih =>
    by_cases h : v < 128
    · exact ⟨[], v, by simp [putN_lt h], (by intro x hx; cases hx), h⟩
    · obtain ⟨hs, c, h1, h2, h3⟩ := ih (v / 128) (by omega)
      refine ⟨((v % 128 + 128 : Nat) : Int) :: hs, c, by rw [putN_ge h, h1]; rfl, fun x hx => ?_, h3⟩
      rcases List.mem_cons.1 hx with rfl | hx
      · omega
      · exact h2 x hx
theorem valN_set : ∀ (hs : List Int) (n k : Nat) (y : Int), k < hs.length → valN n (hs.set k y) + (hs.getD k 0).toNat % 128 * 128 ^ (n + k) = valN n hs + y.toNat % 128 * 128 ^ (n + k)
  | h :: t, n, 0, y, _ => by simp [valN]; omega
  | h :: t, n, k + 1, y, hk => by
    have := valN_set t (n + 1) k y (by simpa using hk)
    have e : n + (k + 1) = n + 1 + k := by omega
    rw [e]
    simp only [List.set_cons_succ, valN, List.getD_cons_succ]
    omega
theorem xor_one : ∀ x : Nat, x < 256 → x ^^^ 1 = if x % 2 = 0 then x + 1 else x - 1 := by decide +kernel

theorem twice_true (v at_ : Int) (hv : 0 ≤ v ∧ v < 18446744073709551616) (ha : 0 ≤ at_ ∧ at_ < 256) : m_locksteplaw02_NumTwice v at_ = some true := by
  obtain ⟨n, rfl⟩ : ∃ n : Nat, v = n := ⟨v.toNat, by omega⟩
  have hn : n < 2 ^ 64 := by rw [two64]; omega
  have h1 := putN_pos n
  have h10 := putN_len10 hn
  obtain ⟨hs, c, hP, hH, hc⟩ := putN_split n
  have hlen : (putN n).length = hs.length + 1 := by rw [hP]; simp
  have hget := getS_put hn []
  rw [List.append_nil] at hget
  -- what the bytes come to
  have hgetP : getS (putN n) = getL hs.length (valN 0 hs) [(c : Int)] := by
    unfold getS
    rw [hP, getL_high hs 0 0 _ hH (by omega)]
    simp
  have hcl : ∀ (m acc : Nat) (x : Nat), x < 128 → m ≠ 10 → getL m acc [(x : Int)] = if m = 0 ∨ ((x : Int) ≠ 0 ∧ (m < 9 ∨ (x : Int) = 1)) then (((acc + x * 128 ^ m : Nat) : Int), ((m + 1 : Nat) : Int), 0) else (0, 0, 3) := fun m acc x hx hm => by
    simp only [getL, if_neg hm, if_neg (by omega : ¬ (128 : Int) ≤ x), Int.toNat_natCast]
  have hends : hs.length = 0 ∨ ((c : Int) ≠ 0 ∧ (hs.length < 9 ∨ (c : Int) = 1)) := by
    rw [hgetP, hcl _ _ _ hc (by omega)] at hget
    split at hget
    · assumption
    · simp at hget
  have hval : n = valN 0 hs + c * 128 ^ hs.length := by
    rw [hgetP, hcl _ _ _ hc (by omega), if_pos hends] at hget
    simp only [Prod.mk.injEq] at hget
    omega
  unfold m_locksteplaw02_NumTwice
  rw [awake_eq]
  simp only [Option.bind_some, Bool.not_true, cond_false]
  rw [put_eq hn, Option.bind_some]
  have h0 : ((putN n).length : Int) ≠ 0 := by omega
  have h0' : (((putN n).length : Int) == 0) = false := by simpa using h0
  rw [h0', cond_false, chk_pos' (by simp only [room]; omega)]
  have hi : w64 (((putN n).length : Int) - 1) = (hs.length : Int) := by rw [w64_of (by omega) (by omega)]; omega
  rw [hi, chk_pos' (p := InB _ _) ⟨by omega, by omega⟩, chk_pos' (p := InB _ _) ⟨by omega, by omega⟩, Int.toNat_natCast]
  -- a mark at the end
  have hlast : (putN n).getD hs.length 0 = c := by rw [hP, List.getD, List.getElem?_append_right (by omega)]; simp
  have hor : bitsV .or .u8 (c : Int) 128 = ((c + 128 : Nat) : Int) := by
    have := or_add .u8 rfl 7 (a := c) (b := 1) hc (by show c + 1 * 2 ^ 7 < 2 ^ 8; omega) (y := 128) (by decide)
    rw [this]
  have hlong : (putN n).set hs.length ((c + 128 : Nat) : Int) = hs ++ [((c + 128 : Nat) : Int)] := by
    rw [hP]; simp
  rw [hlast, hor, hlong]
  have hHl : High (hs ++ [((c + 128 : Nat) : Int)]) := fun x hx => by
    rcases List.mem_append.1 hx with hx | hx
    · exact hH x hx
    · simp at hx; omega
  have hBl : Bytes (hs ++ [((c + 128 : Nat) : Int)]) := fun x hx => by have := hHl x hx; omega
  rw [get_eq _ hBl (by simp; omega), Option.bind_some]
  have hll : (hs ++ [((c + 128 : Nat) : Int)]).length = hs.length + 1 := by simp
  have e1 : ((getS (hs ++ [((c + 128 : Nat) : Int)])).2.2 != 0) = true := by
    have := getL_high (hs ++ [((c + 128 : Nat) : Int)]) 0 0 [] hHl (by omega)
    unfold getS
    rw [List.append_nil] at this
    rw [this]
    simp only [getL]
    split <;> rfl
  have e2 : getS (hs ++ [((c + 128 : Nat) : Int)] ++ [0]) = (0, 0, 3) := by
    unfold getS
    rw [getL_high _ 0 0 _ hHl (by omega), hll]
    by_cases h9 : 0 + (hs.length + 1) = 10
    · rw [h9]; simp [getL]
    · have := hcl (0 + (hs.length + 1)) (0 + valN 0 (hs ++ [((c + 128 : Nat) : Int)])) 0 (by omega) h9
      rw [show ((0 : Nat) : Int) = 0 from rfl] at this
      rw [this, if_neg (by omega)]
  simp only [List.nil_append]
  rw [chk_pos' (by simp [room]; omega), chk_pos' (by simp [room]; omega), get_eq _ (hBl.app (by intro x hx; simp at hx; omega)) (by simp; omega), Option.bind_some, e2, e1]
  -- a bit turned
  have hk : Int.tmod (w64 at_) ((putN n).length : Int) = ((at_.toNat % (putN n).length : Nat) : Int) := by
    rw [w64_of (by omega) (by omega), Int.tmod_eq_emod_of_nonneg (by omega), Int.natCast_emod]
    congr 1
    omega
  have hlt := Nat.mod_lt at_.toNat (y := (putN n).length) (by omega)
  generalize at_.toNat % (putN n).length = k at hk hlt
  rw [hk, chk_pos' h0, chk_pos' (by simp only [room]; omega), chk_pos' (p := InB _ _) ⟨by omega, by omega⟩, chk_pos' (p := InB _ _) ⟨by omega, by omega⟩, Int.toNat_natCast]
  have hxb := putN_byte n ((putN n).getD k 0) (by rw [getD_eq_of_lt _ _ _ hlt]; exact List.getElem_mem _)
  obtain ⟨x, hx⟩ : ∃ x : Nat, (putN n).getD k 0 = x := ⟨((putN n).getD k 0).toNat, by omega⟩
  rw [hx] at hxb
  have hx256 : x < 256 := by omega
  have hxor : bitsV .xor .u8 (x : Int) 1 = ((x ^^^ 1 : Nat) : Int) := bits_xor .u8 rfl (a := x) (b := 1) hx256 (by decide)
  rw [hx, hxor]
  have hx1 := xor_one x hx256
  have hyB : x ^^^ 1 < 256 := by rw [hx1]; split <;> omega
  have hBo : Bytes ((putN n).set k ((x ^^^ 1 : Nat) : Int)) := fun z hz => by
    rcases List.mem_or_eq_of_mem_set hz with hz | rfl
    · exact putN_byte n z hz
    · omega
  rw [get_eq _ hBo (by simp; omega), Option.bind_some]
  have fin : (bif ((getS ((putN n).set k ((x ^^^ 1 : Nat) : Int))).2.2 != 0) then true else (bif ((getS ((putN n).set k ((x ^^^ 1 : Nat) : Int))).2.1 == ((putN n).length : Int)) then ((getS ((putN n).set k ((x ^^^ 1 : Nat) : Int))).1 != (n : Int)) else false)) = true := by
    by_cases hkm : k < hs.length
    · have hset : (putN n).set k ((x ^^^ 1 : Nat) : Int) = hs.set k ((x ^^^ 1 : Nat) : Int) ++ [(c : Int)] := by rw [hP, List.set_append_left _ _ hkm]
      have hxh : hs.getD k 0 = x := by rw [← hx, hP, List.getD, List.getD, List.getElem?_append_left hkm]
      have hx128 : 128 ≤ x := by have := hH (hs.getD k 0) (by rw [getD_eq_of_lt _ _ _ hkm]; exact List.getElem_mem _); rw [hxh] at this; omega
      have hHo : High (hs.set k ((x ^^^ 1 : Nat) : Int)) := fun z hz => by
        rcases List.mem_or_eq_of_mem_set hz with hz | rfl
        · exact hH z hz
        · rw [hx1]; split <;> omega
      have hv' := valN_set hs 0 k ((x ^^^ 1 : Nat) : Int) hkm
      rw [hxh, Int.toNat_natCast, Int.toNat_natCast, Nat.zero_add] at hv'
      have hdig : x % 128 ≠ (x ^^^ 1) % 128 := by rw [hx1]; split <;> omega
      have hne : valN 0 (hs.set k ((x ^^^ 1 : Nat) : Int)) ≠ valN 0 hs := fun he => by
        rw [he] at hv'
        have : x % 128 * 128 ^ k = (x ^^^ 1) % 128 * 128 ^ k := by omega
        exact hdig (Nat.eq_of_mul_eq_mul_right (Nat.pow_pos (by decide)) this)
      have hg : getS ((putN n).set k ((x ^^^ 1 : Nat) : Int)) = (((valN 0 (hs.set k ((x ^^^ 1 : Nat) : Int)) + c * 128 ^ hs.length : Nat) : Int), ((hs.length + 1 : Nat) : Int), 0) := by
        unfold getS
        rw [hset, getL_high _ 0 0 _ hHo (by simp; omega)]
        simp only [List.length_set, Nat.zero_add]
        rw [hcl _ _ _ hc (by omega), if_pos hends]
      rw [hg, hlen]
      have : (((valN 0 (hs.set k ((x ^^^ 1 : Nat) : Int)) + c * 128 ^ hs.length : Nat) : Int) != (n : Int)) = true := by simp only [bne_iff_ne, ne_eq]; omega
      rw [this]
      simp
    · have hkm' : k = hs.length := by omega
      subst hkm'
      have hset : (putN n).set hs.length ((x ^^^ 1 : Nat) : Int) = hs ++ [((x ^^^ 1 : Nat) : Int)] := by rw [hP]; simp
      have hxc : x = c := by rw [hlast] at hx; omega
      subst hxc
      have hy128 : x ^^^ 1 < 128 := by rw [hx1]; split <;> omega
      have hyne : x ^^^ 1 ≠ x := by rw [hx1]; split <;> omega
      have hg : getS ((putN n).set hs.length ((x ^^^ 1 : Nat) : Int)) = getL hs.length (valN 0 hs) [((x ^^^ 1 : Nat) : Int)] := by
        unfold getS
        rw [hset, getL_high hs 0 0 _ hH (by omega)]
        simp
      rw [hg, hcl _ _ _ hy128 (by omega)]
      split
      · have : (((valN 0 hs + (x ^^^ 1) * 128 ^ hs.length : Nat) : Int) != (n : Int)) = true := by
          simp only [bne_iff_ne, ne_eq]
          intro he
          have : (x ^^^ 1) * 128 ^ hs.length = x * 128 ^ hs.length := by omega
          exact hyne (Nat.eq_of_mul_eq_mul_right (Nat.pow_pos (by decide)) this)
        rw [this, hlen]
        simp
      · rfl
  rw [fin]
  rfl
end Go.Proofs.Ytgdihcpnhkkelaa
