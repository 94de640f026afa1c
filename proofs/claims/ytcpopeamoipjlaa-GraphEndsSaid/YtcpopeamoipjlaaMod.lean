/-
  For what the models compute: words, bits, rounds.
-/
import Derived.Test.YtcpopeamoipjlaaTyped
namespace Go.Proofs.Ytcpopeamoipjlaa
open Go Go.RowKit

theorem w64_of {n : Int} (h : -9223372036854775808 ≤ n) (h' : n < 9223372036854775808) : w64 n = n := by
  show IntKind.i64.wrap n = n
  simp only [IntKind.wrap, IntKind.bits, IntKind.signed]
  simp
  split <;> omega
theorem wu64_of {n : Int} (h : 0 ≤ n) (h' : n < 18446744073709551616) : wu64 n = n := by
  show IntKind.u64.wrap n = n
  simp [IntKind.wrap, IntKind.bits, IntKind.signed]
  omega
theorem wu64_mod (n : Int) : wu64 n = n % 18446744073709551616 := by
  show IntKind.u64.wrap n = _
  simp [IntKind.wrap, IntKind.bits, IntKind.signed]
theorem wu8_of {n : Int} (h : 0 ≤ n) (h' : n < 256) : wu8 n = n := by
  show IntKind.u8.wrap n = n
  simp [IntKind.wrap, IntKind.bits, IntKind.signed]
  omega
theorem wu8_mod (n : Int) : wu8 n = n % 256 := by
  show IntKind.u8.wrap n = _
  simp [IntKind.wrap, IntKind.bits, IntKind.signed]

theorem ofInt_nat (w n : Nat) (h : n < 2 ^ w) : (BitVec.ofInt w (n : Int)).toNat = n := by
  rw [BitVec.toNat_ofInt, ← Int.natCast_emod, Int.toNat_natCast, Nat.mod_eq_of_lt h]

theorem uwrap_of (k : IntKind) (hk : k.signed = false) {n : Nat} (h : n < 2 ^ k.bits) : k.wrap (n : Int) = n := by
  simp only [IntKind.wrap, hk, Bool.false_and, Bool.false_eq_true, if_false]
  have : ((2 : Int) ^ k.bits) = ((2 ^ k.bits : Nat) : Int) := by simp
  rw [this, ← Int.natCast_emod, Nat.mod_eq_of_lt h]

theorem bits_and (k : IntKind) (hk : k.signed = false) {a b : Nat} (ha : a < 2 ^ k.bits) (hb : b < 2 ^ k.bits) : bitsV .and k a b = ((a &&& b : Nat) : Int) := by
  simp only [bitsV, BitVec.toNat_and, ofInt_nat _ _ ha, ofInt_nat _ _ hb]
  exact uwrap_of k hk (Nat.lt_of_le_of_lt Nat.and_le_left ha)
theorem bits_or (k : IntKind) (hk : k.signed = false) {a b : Nat} (ha : a < 2 ^ k.bits) (hb : b < 2 ^ k.bits) : bitsV .or k a b = ((a ||| b : Nat) : Int) := by
  simp only [bitsV, BitVec.toNat_or, ofInt_nat _ _ ha, ofInt_nat _ _ hb]
  exact uwrap_of k hk (Nat.or_lt_two_pow ha hb)
theorem bits_xor (k : IntKind) (hk : k.signed = false) {a b : Nat} (ha : a < 2 ^ k.bits) (hb : b < 2 ^ k.bits) : bitsV .xor k a b = ((a ^^^ b : Nat) : Int) := by
  simp only [bitsV, BitVec.toNat_xor, ofInt_nat _ _ ha, ofInt_nat _ _ hb]
  exact uwrap_of k hk (Nat.xor_lt_two_pow ha hb)

theorem and_low (k : IntKind) (hk : k.signed = false) (j : Nat) (hj : j ≤ k.bits) {a : Nat} (ha : a < 2 ^ k.bits) {m : Int} (hm : m = ((2 ^ j - 1 : Nat) : Int)) : bitsV .and k a m = ((a % 2 ^ j : Nat) : Int) := by
  subst hm
  rw [bits_and k hk ha, Nat.and_two_pow_sub_one_eq_mod]
  have := Nat.pow_le_pow_right (n := 2) (by omega) hj
  have := Nat.two_pow_pos j
  omega
theorem or_add (k : IntKind) (hk : k.signed = false) (j : Nat) {a b : Nat} (ha : a < 2 ^ j) (hb : a + b * 2 ^ j < 2 ^ k.bits) {y : Int} (hy : y = ((b * 2 ^ j : Nat) : Int)) : bitsV .or k a y = ((a + b * 2 ^ j : Nat) : Int) := by
  subst hy
  rw [bits_or k hk (by omega) (by omega), Nat.or_comm, Nat.mul_comm b, ← Nat.two_pow_add_eq_or_of_lt ha, Nat.add_comm]

theorem chk_pos' {R : Type} {p : Prop} [Decidable p] {k : Option R} (h : p) : chk p k = k := if_pos h
theorem scopeO_self {S X : Type} (f : S → Option (LR S X)) (s : S) : scopeO (f s) f = loopO f s := by
  unfold scopeO
  cases h : f s with
  | none => rw [Option.bind_none, loopO_none h]
  | some y => cases y with
    | next s' => rw [loopO_next h]; rfl
    | done x => rw [loopO_done h]; rfl
theorem fdiv_pow {x : Int} (j : Nat) : x.fdiv (2 ^ j) = x / 2 ^ j := by rw [Int.fdiv_eq_ediv_of_nonneg _ (by exact Int.le_of_lt (Int.pow_pos (by decide)))]
theorem toNat_cast {n : Nat} : ((n : Int)).toNat = n := rfl

/-- What is asked of each element in turn. -/
theorem getD_eq_of_lt {α : Type} (l : List α) (i : Nat) (d : α) (h : i < l.length) : l.getD i d = l[i] := by simp [List.getD, h]
theorem take_succ_getD {α : Type} (l : List α) (i : Nat) (d : α) (h : i < l.length) : l.take (i + 1) = l.take i ++ [l.getD i d] := by
  rw [List.take_add_one, getD_eq_of_lt _ _ _ h]; simp [h]
theorem bytesF_eq {l : List Int} {f : Nat → List AV} (h : ∀ i, f i = [.int .u8 (l.getD i 0)]) : bytesF l.length f = l := by
  apply List.ext_getElem (by simp [bytesF])
  intro i h1 h2
  simp only [bytesF, List.getElem_map, List.getElem_range, h, AV.num]
  exact getD_eq_of_lt _ _ _ h2
theorem byteF_of {l : List Int} {f : Nat → List AV} (h : ∀ i, f i = [.int .u8 (l.getD i 0)]) (hl : ∀ x ∈ l, 0 ≤ x ∧ x < 256) : ByteF l.length f := fun i hi => by
  rw [h i]
  refine ⟨rfl, ?_⟩
  simp only [AV.num]
  rw [getD_eq_of_lt _ _ _ hi]
  exact hl _ (List.getElem_mem hi)
theorem two64 : (2 : Nat) ^ 64 = 18446744073709551616 := by decide
end Go.Proofs.Ytcpopeamoipjlaa
