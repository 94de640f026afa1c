/-
  What comes in: numbers, texts, lists and structs of these, by what it is read as.
-/
import Derived.Test.YtcpopeamoipjlaaLaw
import Derived.OpenShut
import Derived.ShutString
namespace Go.Proofs.Ytcpopeamoipjlaa
open Go Go.RowKit
set_option linter.unusedVariables false

/-- The cells that there are. -/
abbrev Iall (w : World) : Nat → Nat → Prop := fun b o => ∃ u, w.cell? ⟨b, o, none⟩ = some u
structure CRep (w : World) (cs : List Value) (avs : List AV) : Prop where
  len : cs.length = avs.length
  one : ∀ j, j < avs.length → (cs.getD j undef).oneCell' = true
  rep : ∀ j, j < avs.length → RepV (Iall w) w (cs.getD j undef) (avs.getD j .any)
structure Opens (P : Program) (t : TypeId) {α : Type} (e : α → List AV) (ok : α → Prop) : Prop where
  get : ∀ {H : Type} {enc : TypeId × Value → H} {w : World} {base : Nat} {spare : Nat → Bool} {held : Bool} {fuel : Nat} {cs : List Value} {x : DataW H × List MemPlace},
    DataW.trod enc P w base spare held fuel t cs = some x → ∃ a, ok a ∧ CRep w cs (e a)

theorem crep_one {w : World} {v : Value} {x : AV} (h1 : v.oneCell' = true) (h : RepV (Iall w) w v x) : CRep w [v] [x] :=
  ⟨rfl, fun j hj => (by
      have hj0 : j = 0 := by simpa using hj
      subst hj0
      exact h1), fun j hj => (by
      have hj0 : j = 0 := by simpa using hj
      subst hj0
      exact h)⟩
theorem opens_int {P : Program} {t : TypeId} {k : IntKind} {e : Int → List AV} (ht : P.underlying t = some (.int k)) (he : ∀ n, e n = [.int k n]) : Opens P t e (fun n => (Lit.int k n).wf = true) := by
  refine ⟨?_⟩
  intro H enc w base spare held fuel cs x h
  obtain ⟨n, rfl, rfl, hw⟩ := DataW.trod_int ht h
  exact ⟨n, hw, by rw [he]; exact crep_one rfl (.int _ _)⟩
theorem opens_bool {P : Program} {t : TypeId} {e : Bool → List AV} (ht : P.underlying t = some .bool) (he : ∀ n, e n = [.bool n]) : Opens P t e (fun _ => True) := by
  refine ⟨?_⟩
  intro H enc w base spare held fuel cs x h
  obtain ⟨n, rfl, rfl⟩ := DataW.trod_bool ht h
  exact ⟨n, trivial, by rw [he]; exact crep_one rfl (.bool _)⟩
theorem opens_string {P : Program} {t : TypeId} {e : List Int → List AV} (ht : P.underlying t = some .string) (he : ∀ n, e n = [.str n]) : Opens P t e (fun s => (∀ x ∈ s, 0 ≤ x ∧ x < 256) ∧ s.length ≤ maxLen) := by
  refine ⟨?_⟩
  intro H enc w base spare held fuel cs x h
  obtain ⟨s, rfl, rfl, hs⟩ := DataW.trod_string ht h
  exact ⟨bytesI s, ⟨bytesI_byte s, by rw [bytesI_length]; exact hs⟩, by rw [he]; exact crep_one rfl (.str _)⟩

theorem cells?_get {w : World} {base : Nat} {a : Addr} {n : Nat} {cs : List Value} (h : w.cells? base a n = some cs) : cs.length = n ∧ ∀ i, i < n → w.cell? (a.add i) = some (cs.getD i undef) := by
  unfold World.cells? at h
  split at h
  · have hl := mapM_some_length h
    simp at hl
    refine ⟨hl, fun i hi => ?_⟩
    have := mapM_some_get h i i (by simp [hi])
    rw [this]
    simp [List.getD, show i < cs.length by omega]
  · cases h

theorem opens_slice {P : Program} {t el : TypeId} {α : Type} {e : α → List AV} {ok : α → Prop} {sz : Nat} {d : α} {e' : List α → List AV} (ht : P.underlying t = some (.slice el)) (hs : P.cellsOf el = sz) (h1 : 1 ≤ sz) (he : Opens P el e ok) (hlen : ∀ a, (e a).length = sz)
    (he' : ∀ l, e' l = [AV.list sz e d l .none]) : Opens P t e' (fun l => (∀ a ∈ l, ok a) ∧ l.length ≤ maxLen) := by
  refine ⟨?_⟩
  intro H enc w base spare held fuel cs x h
  rcases DataW.trod_slice ht h with ⟨rfl, rfl⟩ | ⟨a, len, cap, elems, rest, n, _, rfl, rfl, hb, hl, hm, hlen2, hel, _⟩
  · exact ⟨[], ⟨by simp, by simp⟩, by rw [he']; exact crep_one rfl (.slice none 0 0 sz _ (fun _ => undef) (Nat.le_refl _) (by simp) (fun h => by simp at h) (fun _ => rfl) (fun j hj => by simp at hj) (fun i hi => by simp at hi) (fun i c hi => by simp at hi))⟩
  · have each : ∀ i : Fin len, ∃ b, ok b ∧ ∃ cs, w.cells? base (a.add (i.1 * sz)) sz = some cs ∧ CRep w cs (e b) := fun ⟨i, hi⟩ => by
      have := hel i hi
      rw [hs, List.getElem?_eq_getElem (by omega), Option.bind_eq_some_iff] at this
      obtain ⟨cs, hcs, htr⟩ := this
      obtain ⟨b, hb, hr⟩ := he.get htr
      exact ⟨b, hb, cs, hcs, hr⟩
    let f : Fin len → α := fun i => (each i).choose
    have hf : ∀ i, ok (f i) ∧ ∃ cs, w.cells? base (a.add (i.1 * sz)) sz = some cs ∧ CRep w cs (e (f i)) := fun i => (each i).choose_spec
    have hlf : (List.ofFn f).length = len := by simp
    refine ⟨List.ofFn f, ⟨fun b hb => ?_, by simp; omega⟩, ?_⟩
    · obtain ⟨i, rfl⟩ := List.mem_ofFn.1 hb
      exact (hf i).1
    rw [he']
    refine crep_one rfl ?_
    have hcell0 : ∀ i (hi : i < len), ∀ c, c < sz → ∃ u, w.cell? ((a.add (i * sz)).add c) = some u ∧ u.oneCell' = true ∧ RepV (Iall w) w u ((e (f ⟨i, hi⟩)).getD c .any) := fun i hi c hc => by
      obtain ⟨_, cs, hcs, hr⟩ := hf ⟨i, hi⟩
      obtain ⟨hl, hg⟩ := cells?_get hcs
      exact ⟨_, hg c hc, hr.one c (by rw [hlen]; exact hc), hr.rep c (by rw [hlen]; exact hc)⟩
    have hspot : 0 < len → a.spot = none := fun hp => by
      obtain ⟨u, hu, _⟩ := hcell0 0 hp 0 h1
      have h2 := World.cell?_spot hu
      simpa [Addr.add] using h2
    have hcell : ∀ i (hi : i < len), ∀ c, c < sz → ∃ u, w.cell? ⟨a.block, a.off + (i * sz + c), none⟩ = some u ∧ u.oneCell' = true ∧ RepV (Iall w) w u ((e (f ⟨i, hi⟩)).getD c .any) := fun i hi c hc => by
      obtain ⟨u, hu, h1, h2⟩ := hcell0 i hi c hc
      have hsp := hspot (by omega)
      rw [add_none hsp, Addr.add_lit] at hu
      exact ⟨u, by rw [← Nat.add_assoc]; exact hu, h1, h2⟩
    have hdm : ∀ j, j < len * sz → ∃ i c, i < len ∧ c < sz ∧ j = i * sz + c := fun j hj => by
      refine ⟨j / sz, j % sz, (Nat.div_lt_iff_lt_mul (by omega)).2 hj, Nat.mod_lt _ (by omega), ?_⟩
      rw [Nat.mul_comm]; exact (Nat.div_add_mod j sz).symm
    unfold AV.list
    rw [hlf]
    refine .slice (some a) len cap sz _ (fun j => (w.cell? ⟨a.block, a.off + j, none⟩).getD undef) hl hm (fun hp => ⟨a, rfl, hspot hp, fun j hj => ?_, fun j hj => ?_⟩) (fun h => by cases h) (fun j hj => ?_) (fun i hi => hlen _) (fun i c hi hc => ?_)
    · obtain ⟨i, c, hi, hc, rfl⟩ := hdm j hj
      obtain ⟨u, hu, _⟩ := hcell i hi c hc
      exact ⟨u, hu⟩
    · obtain ⟨i, c, hi, hc, rfl⟩ := hdm j hj
      obtain ⟨u, hu, _⟩ := hcell i hi c hc
      rw [hu]; rfl
    · obtain ⟨i, c, hi, hc, rfl⟩ := hdm j hj
      obtain ⟨u, hu, h1, _⟩ := hcell i hi c hc
      simp only [hu]; exact h1
    · obtain ⟨u, hu, _, h2⟩ := hcell i hi c hc
      have e1 : (List.ofFn f).getD i d = f ⟨i, hi⟩ := by simp [List.getD, hi]
      rw [e1, hu]
      exact h2

theorem crep_two {w : World} {c d : Value} {l m : List AV} (h : CRep w [c] l) (k : CRep w [d] m) : CRep w [c, d] (l ++ m) := by
  have h1 : l.length = 1 := h.len.symm
  have k1 : m.length = 1 := k.len.symm
  refine ⟨by simp [h1, k1], fun j hj => ?_, fun j hj => ?_⟩
  · have hj' : j < 2 := by simp [h1, k1] at hj; omega
    by_cases h0 : j = 0
    · subst h0; exact h.one 0 (by omega)
    · obtain rfl : j = 1 := by omega
      exact k.one 0 (by omega)
  · have hj' : j < 2 := by simp [h1, k1] at hj; omega
    by_cases h0 : j = 0
    · subst h0
      have := h.rep 0 (by omega)
      rwa [List.getD_eq_getElem?_getD (l := l ++ m), List.getElem?_append_left (by omega), ← List.getD_eq_getElem?_getD]
    · obtain rfl : j = 1 := by omega
      have := k.rep 0 (by omega)
      rw [List.getD_eq_getElem?_getD (l := l ++ m), List.getElem?_append_right (by omega), h1, ← List.getD_eq_getElem?_getD]
      exact this
/-- An array of two. -/
theorem opens_array2 {P : Program} {t el : TypeId} {α : Type} {e : α → List AV} {ok : α → Prop} {e' : α × α → List AV} (ht : P.underlying t = some (.array 2 el)) (htc : P.cellsOf t = 2) (hs : P.cellsOf el = 1) (he : Opens P el e ok) (he' : ∀ p, e' p = e p.1 ++ e p.2) :
    Opens P t e' (fun p => ok p.1 ∧ ok p.2) := by
  refine ⟨?_⟩
  intro H enc w base spare held fuel cs x h
  obtain ⟨xs, n, _, _, hcl, hxl, hall⟩ := DataW.trod_array ht h
  rw [htc] at hcl
  match cs, hcl, hall with
  | [c0, c1], _, hall =>
    have h0 := hall 0 (by omega)
    have h1 := hall 1 (by omega)
    rw [hs, List.getElem?_eq_getElem (by omega)] at h0 h1
    obtain ⟨a, ha, hra⟩ := he.get h0
    obtain ⟨b, hb, hrb⟩ := he.get h1
    exact ⟨(a, b), ⟨ha, hb⟩, by rw [he']; exact crep_two hra hrb⟩

/-- Fields, from a place on. -/
structure OpensF (P : Program) (fs : List Field) (off N : Nat) {α : Type} (e : α → List AV) (ok : α → Prop) : Prop where
  get : ∀ {H : Type} {enc : TypeId × Value → H} {w : World} {base : Nat} {spare : Nat → Bool} {held : Bool} {n : Nat} {cs : List Value}, cs.length = N →
    (∀ f ∈ fs, ∃ x, DataW.trod enc P w base spare held n f.type ((cs.drop f.offset).take (P.cellsOf f.type)) = some x) → ∃ a, ok a ∧ CRep w (cs.drop off) (e a)
theorem opensF_nil {P : Program} {N : Nat} : OpensF P [] N N (fun _ : Unit => []) (fun _ => True) := by
  refine ⟨?_⟩
  intro H enc w base spare held n cs hN _
  rw [List.drop_eq_nil_of_le (by omega)]
  exact ⟨(), trivial, rfl, (fun j hj => by simp at hj), (fun j hj => by simp at hj)⟩
theorem opensF_cons {P : Program} {f : Field} {fs : List Field} {off sz N : Nat} {α β : Type} {e : α → List AV} {ok : α → Prop} {e' : β → List AV} {ok' : β → Prop} (hoff : f.offset = off) (hsz : P.cellsOf f.type = sz) (hle : off + sz ≤ N)
    (h : Opens P f.type e ok) (h' : OpensF P fs (off + sz) N e' ok') : OpensF P (f :: fs) off N (fun p : α × β => e p.1 ++ e' p.2) (fun p => ok p.1 ∧ ok' p.2) := by
  refine ⟨?_⟩
  intro H enc w base spare held n cs hN hall
  obtain ⟨x, hx⟩ := hall f (by simp)
  rw [hoff, hsz] at hx
  obtain ⟨a, ha, hr⟩ := h.get hx
  obtain ⟨b, hb, hr'⟩ := h'.get hN (fun g hg => hall g (by simp [hg]))
  have hl : (e a).length = sz := by rw [← hr.len]; simp; omega
  have hl' : (e' b).length = N - (off + sz) := by rw [← hr'.len]; simp; omega
  have hsplit : cs.drop off = (cs.drop off).take sz ++ cs.drop (off + sz) := by rw [← List.drop_drop]; exact (List.take_append_drop sz _).symm
  have hl2 : ((cs.drop off).take sz).length = sz := by simp; omega
  refine ⟨(a, b), ⟨ha, hb⟩, ?_, fun j hj => ?_, fun j hj => ?_⟩
  · simp [hl, hl']; omega
  · rw [hsplit]
    replace hj : j < (e a ++ e' b).length := hj
    show _
    by_cases hlt : j < sz
    · have := hr.one j (by omega)
      rwa [List.getD, List.getElem?_append_left (by omega)]
    · have := hr'.one (j - sz) (by simp at hj; omega)
      rwa [List.getD, List.getElem?_append_right (by omega), hl2]
  · rw [hsplit]
    replace hj : j < (e a ++ e' b).length := hj
    show RepV (Iall w) w _ ((e a ++ e' b).getD j .any)
    by_cases hlt : j < sz
    · have := hr.rep j (by omega)
      rwa [List.getD, List.getElem?_append_left (by omega), List.getD, List.getElem?_append_left (by omega)]
    · have := hr'.rep (j - sz) (by simp at hj; omega)
      rwa [List.getD, List.getElem?_append_right (by omega), hl2, List.getD, List.getElem?_append_right (by omega), hl]
theorem opens_struct {P : Program} {t : TypeId} {fs : Array Field} {N : Nat} {α : Type} {e : α → List AV} {ok : α → Prop} (ht : P.underlying t = some (.struct fs)) (hN : P.cellsOf t = N) (h : OpensF P fs.toList 0 N e ok) : Opens P t e ok := by
  refine ⟨?_⟩
  intro H enc w base spare held fuel cs x hx
  obtain ⟨xs, n, _, _, hl, hxl, hall⟩ := DataW.trod_struct ht hx
  have := h.get (n := n) (hl.trans hN) (enc := enc) (w := w) (base := base) (spare := spare) (held := held) (fun f hf => by
    obtain ⟨i, hi, rfl⟩ := List.mem_iff_getElem.1 hf
    have hi' : i < fs.size := by simpa using hi
    have := hall i fs.toList[i] (by simp [hi'])
    rw [List.getElem?_eq_getElem (by omega)] at this
    exact ⟨_, this⟩)
  simpa using this
theorem Opens.to {P : Program} {t : TypeId} {α β : Type} {e : α → List AV} {ok : α → Prop} (h : Opens P t e ok) {e' : β → List AV} {ok' : β → Prop} (g : α → β) (he : ∀ a, e' (g a) = e a) (hok : ∀ a, ok a → ok' (g a)) : Opens P t e' ok' := by
  refine ⟨?_⟩
  intro H enc w base spare held fuel cs x hx
  obtain ⟨a, ha, hr⟩ := h.get hx
  exact ⟨g a, hok a ha, by rw [he]; exact hr⟩

/-! ### Arguments -/
theorem arg_one {P : Program} {t : TypeId} {α : Type} {e : α → List AV} {ok : α → Prop} (h : Opens P t e ok) {x : α → AV} (he : ∀ a, e a = [x a]) {H : Type} {enc : TypeId × Value → H} {w : World} {base : Nat} {spare : Nat → Bool} {held : Bool} {v : Value} {d : DataW H} {ps : List MemPlace}
    (hv : v.cells = #[v]) (hd : DataW.Trod enc P w base spare held t v d ps) : ∃ a, ok a ∧ RepV (Iall w) w v (x a) := by
  obtain ⟨fuel, hf⟩ := hd
  obtain ⟨a, ha, hr⟩ := h.get hf
  refine ⟨a, ha, ?_⟩
  have := hr.rep 0 (by simp [he])
  simpa [hv, he] using this
theorem arg_agg {P : Program} {t : TypeId} {α : Type} {e : α → List AV} {ok : α → Prop} (h : Opens P t e ok) {H : Type} {enc : TypeId × Value → H} {w : World} {base : Nat} {spare : Nat → Bool} {held : Bool} {cs : Array Value} {d : DataW H} {ps : List MemPlace}
    (hd : DataW.Trod enc P w base spare held t (.agg cs) d ps) : ∃ a, ok a ∧ RepV (Iall w) w (.agg cs) (.agg (e a)) := by
  obtain ⟨fuel, hf⟩ := hd
  obtain ⟨a, ha, hr⟩ := h.get hf
  have e1 : (Value.agg cs).cells.toList = cs.toList := rfl
  rw [e1] at hr
  have e2 : ∀ j, cs.toList.getD j undef = cs.getD j undef := fun j => by simp [Array.getD_eq_getD_getElem?, List.getD]
  refine ⟨a, ha, .agg _ _ (by simpa using hr.len) (fun j hj => ?_) (fun j hj => ?_)⟩
  · rw [← e2]; exact hr.one j hj
  · rw [← e2]; exact hr.rep j hj
end Go.Proofs.Ytcpopeamoipjlaa
