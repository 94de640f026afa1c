/-
  What the program's 'rising' does, by the contracts of Go's library.
-/
import Derived.Test.YtcpopeamoipjlaaFam
import Derived.Test.YtcpopeamoipjlaaShelf
import Derived.Sort.OwnSortedInts
import Derived.BigCall
import Derived.Lib.RowBridge
namespace Go.Proofs.Ytcpopeamoipjlaa
open Go Go.Shelf Go.RowKit Go.Sort
set_option linter.unusedVariables false

section
variable {I : Nat → Nat → Prop} {θ : Nat → Option (Nat × Nat)} {w w' : World}
theorem ownRel_nil (I : Nat → Nat → Prop) (θ : Nat → Option (Nat × Nat)) (w : World) : OwnRel I (look []) θ w :=
  ⟨(fun _ _ _ h => by cases h), (fun _ _ _ _ h => by cases h), (fun _ _ _ _ _ h => (h rfl).elim), (fun _ _ _ _ _ h => by cases h), (fun _ _ h => by cases h), (fun _ _ _ h => by cases h)⟩
theorem repL_one {own : Nat → Option Own} {zs : Array Value} {x : AV} (h : RepL I own θ w zs.toList [x]) : ∃ v, zs = #[v] ∧ Rep I own θ w v x := by
  obtain ⟨l⟩ := zs
  cases h with
  | cons h1 h2 => cases h2; exact ⟨_, rfl, h1⟩
/-- New cells besides, that never change any more. -/
theorem chg_below_new (hb : Below w.heap.size w w') (hval : ∀ b o, I b o → ∃ u, w.cell? ⟨b, o, none⟩ = some u) {N : Nat → Nat → Prop} (hN : ∀ b o, N b o → w.heap.size ≤ b ∧ ∃ u, w'.cell? ⟨b, o, none⟩ = some u) :
    Chg (look []) θ I w (look []) θ (fun b o => I b o ∨ N b o) w' :=
  have hcell : ∀ b o, I b o → w'.cell? ⟨b, o, none⟩ = w.cell? ⟨b, o, none⟩ := fun b o hi => by
    obtain ⟨u, hu⟩ := hval b o hi
    exact World.cell?_of_block (a := ⟨b, o, none⟩) (hb.block b (cell_lt hu))
  { imm := fun _ _ h => .inl h, cell := hcell, le := fun _ _ h => (by cases h), rel := ownRel_nil _ _ _,
    valid := fun b o hi => by
      rcases hi with hi | hi
      · obtain ⟨u, hu⟩ := hval b o hi; exact ⟨u, (hcell b o hi).trans hu⟩
      · exact (hN b o hi).2,
    os := hb.os, tape := hb.tape, output := hb.output, grow := hb.size, frame := fun b hlt _ => hb.block b hlt, new := fun _ _ _ h => (h rfl).elim,
    immNew := fun b o hi => by
      rcases hi with hi | hi
      · exact .inl hi
      · exact .inr (.inl (hN b o hi).1) }
end

theorem below_sorted {w W : World} {g n : Nat} {os : Array Obj} {d : Array Int} (hb : Below w.heap.size w W) (hg : w.heap.size ≤ g) : Below w.heap.size w (grow (putRow (Value.int .i64) (Sort.ahead W n) g 0 d) os) := by
  have k := grownBy_sortedI (w := W) (g := g) (n := n) (os := os) d
  refine hb.trans ⟨k.os, k.tape, k.output, k.size, fun b hlt => k.block b (Nat.lt_of_lt_of_le hlt hb.size) (fun e => ?_)⟩
  have := Option.some.inj e
  omega

/-- A row of integers in memory of the call's own. -/
def Own3 (w W : World) (g cap n : Nat) (zs : List Int) : Prop :=
  Below w.heap.size w W ∧ w.heap.size ≤ g ∧ ∃ cur, W.heap[g]? = some (.cells cur 3 (0, 0)) ∧ n ≤ cap ∧ cap ≤ maxLen ∧ cur.size = cap ∧ cur.toList.take zs.length = zs.map (Value.int .i64) ∧ zs.length = n
theorem own3_of {w W : World} {v : Value} {n : Nat} {zs : List Int} (h : W.ownsRow w.heap.size 3 1 v n (zs.map (Value.int .i64))) (hne : v ≠ .slice none 0 0) (hb : Below w.heap.size w W) : ∃ g cap, v = .slice (some ⟨g, 0, none⟩) n cap ∧ Own3 w W g cap n zs := by
  have hl : zs.length = n := by have := h.1; simpa using this
  rcases h.2 with ⟨rfl, _⟩ | ⟨g, cap, cur, rfl, hg, hcur, hcap, hmax, hsz, ht⟩
  · exact (hne rfl).elim
  · rw [Nat.mul_one] at hsz ht
    exact ⟨g, cap, rfl, hb, hg, cur, hcur, hcap, hmax, hsz, by rw [hl]; exact ht, hl⟩
theorem c_clone0 (ad : Addr) (c : Nat) (w : World) : Calls Try.prog 36 #[.slice (some ad) 0 c] w fun e W => ∃ g cap, e = .returned (.slice (some ⟨g, 0, none⟩) 0 cap) ∧ Own3 w W g cap 0 [] :=
  (Any.slices_Clone_int_zero laysNm215 ad c w).mono fun e W ⟨v, he, hown, hne, hb⟩ => by
    obtain ⟨g, cap, rfl, h⟩ := own3_of (zs := []) hown hne hb
    exact ⟨g, cap, he, h⟩
theorem c_clone (b off n c : Nat) (zs : List Int) (w : World) (hz : zs.length = n) (hbig : n ≤ 17592186044416) (hc : ∀ j, j < n → w.cell? ⟨b, off + j, none⟩ = some (.int .i64 (zs.getD j 0))) :
    Calls Try.prog 36 #[.slice (some ⟨b, off, none⟩) n c] w fun e W => ∃ g cap, e = .returned (.slice (some ⟨g, 0, none⟩) n cap) ∧ Own3 w W g cap n zs :=
  (Any.slices_Clone_int laysNm215 b off n c zs w (by omega) (by omega) (fun j hj => hc j (by omega))).mono fun e W ⟨v, he, hown, hne, hb⟩ => by
    rw [show zs.take n = zs by rw [← hz]; exact List.take_length ..] at hown
    obtain ⟨g, cap, rfl, h⟩ := own3_of hown hne hb
    exact ⟨g, cap, he, h⟩
theorem c_sort {w W : World} {g cap n : Nat} {zs : List Int} (h : Own3 w W g cap n zs) (hbig : n ≤ 17592186044416) : Calls Try.prog 37 #[.slice (some ⟨g, 0, none⟩) n cap] W fun e W2 => e = .returned (.tuple #[]) ∧ Own3 w W2 g cap n (zs.mergeSort fun x y => decide (x ≤ y)) := by
  obtain ⟨hb, hg, cur, hcur, hcap, hmax, hsz, ht, rfl⟩ := h
  refine (Any.slices_Sort_int lays189 g 0 cap zs W (holds_of_blockI hcur ht) (heap_lt hcur) (by omega)).mono fun e W2 ⟨he, q, os, hW⟩ => ⟨he, ?_⟩
  subst hW
  have hl : (zs.mergeSort fun x y => decide (x ≤ y)).length = zs.length := List.length_mergeSort ..
  have b2 := below_sorted (n := q) (os := os) (d := (zs.mergeSort fun x y => decide (x ≤ y)).toArray) hb hg
  exact ⟨b2, hg, _, heap_sortedI _ hcur, hcap, hmax, by simp [putCells, hsz], take_putCellsI cur _ (by omega), hl⟩
theorem c_compact {w W : World} {g cap n : Nat} {zs : List Int} (h : Own3 w W g cap n zs) (hbig : n ≤ 17592186044416) : Calls Try.prog 38 #[.slice (some ⟨g, 0, none⟩) n cap] W fun e W2 => e = .returned (.slice (some ⟨g, 0, none⟩) (Lib.compact zs).length cap) ∧ Own3 w W2 g cap (Lib.compact zs).length (Lib.compact zs) := by
  obtain ⟨hb, hg, cur, hcur, hcap, hmax, hsz, ht, rfl⟩ := h
  refine (Any.slices_Compact_int laysNm220 g 0 cap zs W (holds_of_blockI hcur ht) (by omega) hcap).mono fun e W2 ⟨he, q, hW⟩ => ⟨he, ?_⟩
  subst hW
  have hcl := Lib.compact_length_le zs
  generalize Lib.compact zs = cs at hcl ⊢
  generalize hts : cs ++ List.replicate (zs.length - cs.length) (0 : Int) = ts
  have htl : ts.length = zs.length := by rw [← hts, List.length_append, List.length_replicate]; omega
  have b2 := below_sorted (n := q) (os := #[]) (d := ts.toArray) hb hg
  have h2 := heap_sortedI (n := q) (os := #[]) ts.toArray hcur
  rw [grow_empty] at b2 h2
  have h3 := take_putCellsI cur ts (by omega)
  refine ⟨b2, hg, _, h2, by omega, hmax, by simp [putCells, hsz], ?_, rfl⟩
  have := congrArg (List.take cs.length) h3
  rw [List.take_take, Nat.min_eq_left (by omega), ← List.map_take, ← hts, List.take_left' rfl] at this
  rw [← hts]
  exact this

/-- A slice of integers in memory of the call's own. -/
def IntsOut (w w' : World) (v : Value) (r : List Int) : Prop :=
  (v = .slice none 0 0 ∧ r = []) ∨ ∃ g cap, v = .slice (some ⟨g, 0, none⟩) r.length cap ∧ Own3 w w' g cap r.length r

set_option maxHeartbeats 4000000 in
set_option maxRecDepth 100000 in
theorem w_rising (a : Option Addr) (n c : Nat) (zs : List Int) (w : World) (hz : zs.length = n) (hn : a = none → n = 0) (hbig : n ≤ 17592186044416)
    (hc : 0 < n → ∃ b off, a = some ⟨b, off, none⟩ ∧ ∀ j, j < n → w.cell? ⟨b, off + j, none⟩ = some (.int .i64 (zs.getD j 0))) :
    Calls Try.prog 27 #[.slice a n c] w fun e w' => ∃ v, e = .returned v ∧ Below w.heap.size w w' ∧ IntsOut w w' v (Lib.compact (zs.mergeSort fun x y => decide (x ≤ y))) := by
  cases a with
  | none =>
    obtain rfl := hn rfl
    obtain rfl : zs = [] := List.length_eq_zero_iff.1 hz
    have hr : Lib.compact (([] : List Int).mergeSort fun x y => decide (x ≤ y)) = [] := by simp [Lib.compact, Lib.compactUpTo]
    rw [hr]
    have h1 : Calls Try.prog 36 #[.slice none 0 c] w fun e w' => e = .returned (.slice none 0 0) ∧ w' = w := Any.slices_Clone_int_nil laysNm215 0 c w
    have h2 : Calls Try.prog 37 #[.slice none 0 0] w fun e w' => e = .returned (.tuple #[]) ∧ w' = w := Any.slices_Sort_int_none lays189 none 0 w
    have h3 : Calls Try.prog 38 #[.slice none 0 0] w fun e w' => e = .returned (.slice none 0 0) ∧ w' = w := Any.slices_Compact_int_empty laysNm220 none 0 w
    go_enter Try.func27, Try.ntmps27
    go_wp2_with (first
      | (go_at_call 36; refine h1.mono ?_; rintro e W ⟨rfl, rfl⟩)
      | (go_at_call 37; refine h2.mono ?_; rintro e W ⟨rfl, rfl⟩)
      | (go_at_call 38; refine h3.mono ?_; rintro e W ⟨rfl, rfl⟩))
    go_ret
    exact ⟨_, rfl, Below.refl _ _, .inl ⟨rfl, rfl⟩⟩
  | some ad =>
    have h1 : Calls Try.prog 36 #[.slice (some ad) n c] w fun e W => ∃ g cap, e = .returned (.slice (some ⟨g, 0, none⟩) n cap) ∧ Own3 w W g cap n zs := by
      by_cases h0 : n = 0
      · subst h0
        obtain rfl : zs = [] := List.length_eq_zero_iff.1 hz
        exact c_clone0 ad c w
      · obtain ⟨b, off, hab, hcell⟩ := hc (by omega)
        obtain rfl := Option.some.inj hab
        exact c_clone b off n c zs w hz hbig hcell
    go_enter Try.func27, Try.ntmps27
    go_wp2_with (first
      | (go_at_call 36; refine h1.mono ?_; rintro e W ⟨g, cap, rfl, hO⟩)
      | (go_at_call 37; refine (c_sort hO hbig).mono ?_; rintro e W2 ⟨rfl, hO2⟩)
      | (go_at_call 38; refine (c_compact hO2 hbig).mono ?_; rintro e W3 ⟨rfl, hO3⟩))
    go_ret
    exact ⟨_, rfl, hO3.1, .inr ⟨_, _, rfl, hO3⟩⟩

noncomputable def x_rising (l : List Int) : Option (List Int) := chk (l.length ≤ 17592186044416) (some (Lib.compact (l.mergeSort fun x y => decide (x ≤ y))))
theorem xok_rising (l r : List Int) (h : x_rising l = some r) : Spec Try.prog 27 [AV.list 1 (fun x => [.int .i64 x]) (0 : Int) l .none] [] (AV.list 1 (fun x => [.int .i64 x]) (0 : Int) r .none) [] := by
  obtain ⟨hlen, h⟩ := chk_some h
  obtain rfl := Option.some.inj h
  refine ⟨enters_of Try.func27 (by kernel_rfl) rfl, fun w I θ zs hargs _ hval _ => ?_⟩
  obtain ⟨v, rfl, hv⟩ := repL_one hargs
  obtain ⟨_, a, cap, us, rfl, hcap, hmax, hz, hnn, h1, hl, hr⟩ := hv.slice_val.slice_inv
  have hint : ∀ i, i < l.length → us i = .int .i64 (l.getD i 0) := fun i hi => by
    have := hr i 0 hi (by omega)
    rw [Nat.mul_one, Nat.add_zero] at this
    have h2 : RepV I w (us i) (.int .i64 (l.getD i 0)) := this
    exact Rep.int_inv (own := look []) (θ := θ) (.val _ _ h2)
  refine (w_rising a l.length cap l w rfl (fun ha => by have := hnn ha; omega) hlen (fun hp => ?_)).mono fun e w' ⟨v, he, hb, hout⟩ => ?_
  · obtain ⟨b, rfl, hs, _, hcell⟩ := hz hp
    obtain ⟨blk, off, spot⟩ := b
    simp only at hs hcell
    subst hs
    exact ⟨blk, off, rfl, fun j hj => by rw [hcell j (by omega), hint j hj]⟩
  · generalize Lib.compact (l.mergeSort fun x y => decide (x ≤ y)) = r at hout ⊢
    rcases hout with ⟨rfl, rfl⟩ | ⟨g, cap', rfl, _, hg, cur, hcur, hc1, hc2, hc3, htake, _⟩
    · exact ⟨_, _, θ, he, chg_below_new hb hval (N := fun _ _ => False) (fun _ _ h => h.elim), .val _ _ (.slice none 0 0 1 _ (fun _ => undef) (Nat.le_refl _) (Nat.zero_le _) (fun h => by cases h) (fun _ => rfl) (fun j hj => by simp at hj) (fun i hi => by cases hi) (fun i c hi => by cases hi))⟩
    · have hcell : ∀ j, j < r.length → w'.cell? ⟨g, j, none⟩ = some (.int .i64 (r.getD j 0)) := fun j hj => by
        rw [cell_of_row _ _ _ cur 3 (0, 0) hcur]
        have h2 : (cur.toList.take r.length)[j]? = (r.map (Value.int .i64))[j]? := by rw [htake]
        rw [List.getElem?_take_of_lt hj, Array.getElem?_toList] at h2
        rw [h2]
        simp [List.getD, hj]
      refine ⟨_, _, θ, he, chg_below_new hb hval (N := fun b o => b = g ∧ o < r.length) (fun b o ⟨hbg, ho⟩ => ⟨by omega, by subst hbg; exact ⟨_, hcell o ho⟩⟩), .val _ _ (.slice (some ⟨g, 0, none⟩) r.length cap' 1 _ (fun j => .int .i64 (r.getD j 0)) hc1 hc2 (fun _ => ⟨⟨g, 0, none⟩, rfl, rfl, fun j hj => .inr ⟨rfl, by simpa using hj⟩, fun j hj => by rw [Nat.zero_add]; exact hcell j (by omega)⟩) (fun h => by cases h) (fun _ _ => rfl) (fun _ _ => rfl) (fun i c hi hc => ?_))⟩
      obtain rfl : c = 0 := by omega
      rw [Nat.mul_one, Nat.add_zero]
      exact .int _ _
end Go.Proofs.Ytcpopeamoipjlaa
