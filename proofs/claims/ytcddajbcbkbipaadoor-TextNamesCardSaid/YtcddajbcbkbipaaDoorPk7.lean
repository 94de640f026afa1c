/-
  The machine, the program's functions and the laws' arithmetic: part 7 of 7.
-/
import Derived.Test.YtcddajbcbkbipaaDoorPk6
import Derived.FnData
import Derived.LaidMore
import Derived.MakeChecks
import Derived.OpenShut
import Derived.Test.YtcddajbcbkbipaaDoorRows
namespace Go.Proofs.YtcddajbcbkbipaaDoor
open Go Go.RowKit Go.ChangeShapes
set_option linter.unusedVariables false
set_option maxRecDepth 100000

theorem rptr_all {w : World} {g : Nat} {cells : List AV} (h : ∀ j, j < cells.length → ∃ u, w.cell? ⟨g, j, none⟩ = some u ∧ u.oneCell' = true ∧ RepV (Iall w) w u (cells.getD j .any)) : RepV (Iall w) w (.pointer (some ⟨g, 0, none⟩)) (.rptr cells) := by
  refine .rptr ⟨g, 0, none⟩ cells (fun j => (w.cell? ⟨g, j, none⟩).getD undef) rfl (fun j hj => ?_) (fun j hj => ?_) (fun j hj => ?_) (fun j hj => ?_)
  all_goals obtain ⟨u, h1, h2, h3⟩ := h j hj
  · exact ⟨u, by simpa using h1⟩
  · show w.cell? ⟨g, 0 + j, none⟩ = some ((w.cell? ⟨g, j, none⟩).getD undef)
    rw [Nat.zero_add, h1]; rfl
  · show ((w.cell? ⟨g, j, none⟩).getD undef).oneCell' = true
    rw [h1]; exact h2
  · show RepV (Iall w) w ((w.cell? ⟨g, j, none⟩).getD undef) _
    rw [h1]; exact h3
theorem laid_var {P : Program} {w : World} {n : String} {d : DataW Unit} : ∀ (l : List (String × DataW Unit)) (ps : List MemPlace), DataW.LaidVars P w l ps → (n, d) ∈ l →
    ∃ g t cs fuel p, P.globalNamed n = some g ∧ (P.globals[g]?).map (·.type) = some t ∧ w.var? P n = some cs ∧ DataW.trod (fun _ => ()) P w 0 (fun _ => true) false fuel t cs.toList = some (d, p)
  | [], ps, _, hm => by cases hm
  | (n', d') :: r, ps, h, hm => by
    obtain ⟨g, t, cs, fuel, p, q, h1, h2, h3, h4, h5, _⟩ := h
    rcases List.mem_cons.1 hm with e | hm
    · obtain ⟨rfl, rfl⟩ := Prod.mk.inj e
      exact ⟨g, t, cs, fuel, p, h1, h2, h3, h4⟩
    · exact laid_var r q h5 hm
theorem one_cell {cs : Array Value} {i : Nat} {v : Value} (h : (cs.toList.drop (i * 1)).take 1 = [v]) : cs[i]? = some v := by
  have h1 := congrArg (fun l : List Value => l[0]?) h
  simp only [Nat.mul_one] at h1
  simpa using h1
/-- A table of texts. -/
theorem laid_strs {P : Program} {w : World} {n : String} {g t e : Nat} {N : Nat} {ls : List (List Int)} (l : List (String × DataW Unit)) {ps : List MemPlace} (h : DataW.LaidVars P w l ps) (hm : (n, DataW.agg (ls.map fun s => DataW.lit (.string (toU8 s)))) ∈ l)
    (hg : P.globalNamed n = some g) (ht : (P.globals[g]?).map (·.type) = some t) (hu : P.underlying t = some (.array N e)) (he : P.underlying e = some .string) (hc : P.cellsOf e = 1) (hb : ls.all (fun s => s.all fun x => decide (0 ≤ x) && decide (x < 256)) = true) :
    RepV (Iall w) w (.pointer (some ⟨g, 0, none⟩)) (.rptr (ls.map AV.str)) := by
  obtain ⟨g', t', cs, fuel, p, h1, h2, h3, h4⟩ := laid_var l ps h hm
  obtain rfl := Option.some.inj (h1.symm.trans hg)
  obtain rfl := Option.some.inj (h2.symm.trans ht)
  obtain ⟨xs, m, _, hx, _, hn, hel⟩ := DataW.trod_array hu h4
  obtain ⟨hx, _⟩ := Prod.mk.inj hx
  have hx := DataW.agg.inj hx
  have hlen : ls.length = N := by have := congrArg List.length hx; simp only [List.length_map] at this; omega
  refine rptr_all fun j hj => ?_
  rw [List.length_map] at hj
  have hj2 : j < xs.length := by omega
  have := hel j (by omega)
  rw [hc, List.getElem?_eq_getElem hj2] at this
  obtain ⟨s, hs, hx2, _⟩ := DataW.trod_string he this
  have hat := congrArg (fun l => l[j]?) hx
  simp only [List.getElem?_map, List.getElem?_eq_getElem hj, List.getElem?_eq_getElem hj2, Option.map_some, hx2, Option.some.injEq, DataW.lit.injEq, Lit.string.injEq] at hat
  refine ⟨.string s, by rw [World.var?_cell h1 h3 j]; exact one_cell hs, rfl, ?_⟩
  have e1 : bytesI s = ls[j] := by
    have hbl := List.all_eq_true.1 (List.all_eq_true.1 hb _ (List.getElem_mem hj))
    unfold bytesI
    rw [← hat, toU8, List.map_map]
    conv => rhs; rw [← List.map_id ls[j]]
    apply List.map_congr_left
    intro x hx
    have := hbl x hx
    simp only [Bool.and_eq_true, decide_eq_true_eq] at this
    show ((UInt8.ofNat x.toNat).toNat : Int) = x
    rw [UInt8.toNat_ofNat']
    omega
  have e2 : (ls.map AV.str).getD j .any = .str (bytesI s) := by simp [List.getD, hj, e1]
  rw [e2]
  exact .str s
/-- A table of numbers. -/
theorem laid_ints {P : Program} {w : World} {n : String} {g t e : Nat} {N : Nat} {k : IntKind} {ls : List Int} (l : List (String × DataW Unit)) {ps : List MemPlace} (h : DataW.LaidVars P w l ps) (hm : (n, DataW.agg (ls.map fun s => DataW.lit (.int k s))) ∈ l)
    (hg : P.globalNamed n = some g) (ht : (P.globals[g]?).map (·.type) = some t) (hu : P.underlying t = some (.array N e)) (he : P.underlying e = some (.int k)) (hc : P.cellsOf e = 1) :
    RepV (Iall w) w (.pointer (some ⟨g, 0, none⟩)) (.rptr (ls.map (AV.int k))) := by
  obtain ⟨g', t', cs, fuel, p, h1, h2, h3, h4⟩ := laid_var l ps h hm
  obtain rfl := Option.some.inj (h1.symm.trans hg)
  obtain rfl := Option.some.inj (h2.symm.trans ht)
  obtain ⟨xs, m, _, hx, _, hn, hel⟩ := DataW.trod_array hu h4
  obtain ⟨hx, _⟩ := Prod.mk.inj hx
  have hx := DataW.agg.inj hx
  have hlen : ls.length = N := by have := congrArg List.length hx; simp only [List.length_map] at this; omega
  refine rptr_all fun j hj => ?_
  rw [List.length_map] at hj
  have hj2 : j < xs.length := by omega
  have := hel j (by omega)
  rw [hc, List.getElem?_eq_getElem hj2] at this
  obtain ⟨s, hs, hx2, _⟩ := DataW.trod_int he this
  have hat := congrArg (fun l => l[j]?) hx
  simp only [List.getElem?_map, List.getElem?_eq_getElem hj, List.getElem?_eq_getElem hj2, Option.map_some, hx2, Option.some.injEq, DataW.lit.injEq, Lit.int.injEq, true_and] at hat
  refine ⟨.int k s, by rw [World.var?_cell h1 h3 j]; exact one_cell hs, rfl, ?_⟩
  have e2 : (ls.map (AV.int k)).getD j .any = .int k s := by simp [List.getD, hj, hat]
  rw [e2]
  exact .int k s
/-- An error that is one of the program's own. -/
theorem laid_err {P : Program} {w : World} {n : String} {g t : Nat} {ms : Array (String × TypeId)} {nm : String} {d : DataW Unit} (l : List (String × DataW Unit)) {ps : List MemPlace} (h : DataW.LaidVars P w l ps) (hm : (n, DataW.iface nm d) ∈ l)
    (hg : P.globalNamed n = some g) (ht : (P.globals[g]?).map (·.type) = some t) (hu : P.underlying t = some (.interface ms)) :
    RepV (Iall w) w (.pointer (some ⟨g, 0, none⟩)) (.rptr [.err true]) := by
  obtain ⟨g', t', cs, fuel, p, h1, h2, h3, h4⟩ := laid_var l ps h hm
  obtain rfl := Option.some.inj (h1.symm.trans hg)
  obtain rfl := Option.some.inj (h2.symm.trans ht)
  have : ∃ u v, cs.toList = [.iface u v] := by
    cases fuel with
    | zero => simp [DataW.trod] at h4
    | succ m =>
      unfold DataW.trod at h4
      rw [hu] at h4
      split at h4 <;> simp_all
  obtain ⟨u, v, e⟩ := this
  refine rptr_all fun j hj => ?_
  obtain rfl : j = 0 := by change j < 1 at hj; omega
  refine ⟨.iface u v, ?_, rfl, .err1 u v⟩
  rw [World.var?_cell h1 h3 0]
  exact one_cell (by rw [e]; rfl)

/-- What the rows list. -/
def laidL : List (String × DataW Unit) := Rows.textTellsRow.laid
theorem gok {w : World} (h : laidMetH Tryd.prog laidL w) : GOk (Iall w) w := by
  rw [MakeChecks.laidMetH_plain _ _ _ (by kernel_rfl)] at h
  obtain ⟨ps, hl, _, _⟩ := h
  intro g cells hg
  match g, hg with
  | 0, hg => obtain rfl := Option.some.inj hg; exact laid_strs (ls := gl0) laidL hl (List.mem_of_getElem? (i := 5) rfl) (by kernel_rfl) (by kernel_rfl) Tryd.underlying60 Tryd.underlying9 (by kernel_rfl) (by decide)
  | 1, hg => obtain rfl := Option.some.inj hg; exact laid_strs (ls := gl1) laidL hl (List.mem_of_getElem? (i := 6) rfl) (by kernel_rfl) (by kernel_rfl) Tryd.underlying62 Tryd.underlying9 (by kernel_rfl) (by decide)
  | 2, hg => obtain rfl := Option.some.inj hg; exact laid_ints (ls := gl2) laidL hl (List.mem_of_getElem? (i := 2) rfl) (by kernel_rfl) (by kernel_rfl) Tryd.underlying117 Tryd.underlying41 (by kernel_rfl)
  | 4, hg => obtain rfl := Option.some.inj hg; exact laid_ints (ls := gl4) laidL hl (List.mem_of_getElem? (i := 0) rfl) (by kernel_rfl) (by kernel_rfl) Tryd.underlying127 Tryd.underlying5 (by kernel_rfl)
  | 5, hg => obtain rfl := Option.some.inj hg; exact laid_ints (ls := gl5) laidL hl (List.mem_of_getElem? (i := 1) rfl) (by kernel_rfl) (by kernel_rfl) Tryd.underlying128 Tryd.underlying5 (by kernel_rfl)
  | 6, hg => obtain rfl := Option.some.inj hg; exact laid_err laidL hl (List.mem_of_getElem? (i := 4) rfl) (by kernel_rfl) (by kernel_rfl) Tryd.underlying85
  | 7, hg => obtain rfl := Option.some.inj hg; exact laid_err laidL hl (List.mem_of_getElem? (i := 3) rfl) (by kernel_rfl) (by kernel_rfl) Tryd.underlying85
  | 3, hg => cases hg
  | n + 8, hg => cases hg
/-- The door's own heap meets the condition. -/
theorem door_met (os : Os) (args : Array Value) : laidMetH Tryd.prog laidL ((World.doorLaid Tryd.prog 400 os).forCall (fun _ _ => 0) ⟨#[], args, []⟩).memory :=
  laidMetH_of_parts3 (fuel := 8) (laidMet_of_run' 8 (by kernel_rfl) (by kernel_rfl)) (by kernel_rfl) (by kernel_rfl)
end Go.Proofs.YtcddajbcbkbipaaDoor
