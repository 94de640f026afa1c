/-
  append.
-/
import Derived.Test.YtcpopeamoipjlaaOpsE
import Derived.Lib.FrozenHead
namespace Go.Proofs.Ytcpopeamoipjlaa
open Go Go.RowKit

section
variable {P : Program} {Γ : Env} {σ : Sto} {I : Nat → Nat → Prop} {θ : Nat → Option (Nat × Nat)} {a : Act} {w : World} {o : Oper}

theorem chg_tok {own : Nat → Option Own} (hrel : OwnRel I own θ w) {nm s m' : Nat} {e : TypeId} {t' : Option (Nat × Nat)} {I' : Nat → Nat → Prop} {w' : World}
    (hI : ∀ b o, I b o → I' b o) (hcell : ∀ b o, I b o → w'.cell? ⟨b, o, none⟩ = w.cell? ⟨b, o, none⟩)
    (hle : own nm = none ∨ ∃ m, own nm = some (.tok s e m) ∧ m ≤ m' ∧ (m = m' → t' = θ nm))
    (hblk : ∀ b, b < w.heap.size → (∀ c, own nm ≠ none → θ nm ≠ some (b, c)) → w'.heap[b]? = w.heap[b]?)
    (hnew : ∀ b o, I' b o → I b o ∨ ∃ c, t' = some (b, c)) (hval : ∀ b o, I' b o → ∃ u, w'.cell? ⟨b, o, none⟩ = some u)
    (hos : w'.os = w.os) (htape : w'.tape = w.tape) (hout : w'.output = w.output) (hgrow : w.heap.size ≤ w'.heap.size)
    (htok : ∀ g c, t' = some (g, c) → ∃ cur fz, w'.heap[g]? = some (.cells cur e (0, fz)) ∧ m' ≤ c ∧ c ≤ maxLen ∧ cur.size = c * s ∧ fz ≤ m' * s ∧ ∀ j, I' g j → j < m' * s)
    (hloc : ∀ g c, t' = some (g, c) → w.heap.size ≤ g ∨ (own nm ≠ none ∧ ∃ c', θ nm = some (g, c'))) (h8 : t' = none → e = tokU8 → m' = 0) :
    Chg own θ I w (ownUp own nm (.tok s e m')) (thUp θ nm t') I' w' := by
  have hle' : ∀ nm' o, own nm' = some o → ∃ o', ownUp own nm (.tok s e m') nm' = some o' ∧ OwnLe o (θ nm') o' (thUp θ nm t' nm') := fun nm' o ho => by
    by_cases hne : nm' = nm
    · subst hne
      rcases hle with h | ⟨m, h, h1, h2⟩
      · rw [h] at ho; cases ho
      · rw [h] at ho
        obtain rfl := Option.some.inj ho
        exact ⟨.tok s e m', by simp [ownUp], rfl, rfl, h1, fun he => by simpa [thUp] using h2 he⟩
    · exact ⟨o, by simp [ownUp, hne, ho], by simp [thUp, hne, OwnLe.refl]⟩
  have hmono : ∀ v x, Rep I own θ w v x → Rep I' (ownUp own nm (.tok s e m')) (thUp θ nm t') w' v x := fun v x h => h.mono hI hcell hle'
  have hother : ∀ nm' g c, nm' ≠ nm → own nm' ≠ none → θ nm' = some (g, c) → ∀ c', own nm ≠ none → θ nm ≠ some (g, c') := fun nm' g c hne ho hg c' ho' hg' => hne (hrel.inj nm' nm g c c' ho ho' hg hg')
  refine { imm := hI, cell := hcell, le := hle', rel := ?_, valid := hval, os := hos, tape := htape, output := hout, grow := hgrow, frame := fun b hb hn => hblk b hb (fun c ho hg => hn nm c ho hg),
           new := fun nm' g c ho hg => ?_, immNew := fun b o h => ?_ }
  · refine ownRel_upd hrel (· = nm) hmono (fun nm' hne => ⟨by simp [ownUp, hne], by simp [thUp, hne]⟩) (fun nm' g c hne ho hg => ⟨hblk g (owned_lt hrel ho hg) (hother nm' g c hne ho hg), fun j hj => ?_⟩) ?_ ?_ ?_ (fun _ _ h h' => h.trans h'.symm) (hobj' := fun _ _ h => h.mono hI hcell) (htok8 := by
      rintro nm' sz' m rfl ho hn
      simp only [ownUp, if_true, Option.some.injEq, Own.tok.injEq] at ho
      obtain ⟨rfl, rfl, rfl⟩ := ho
      exact h8 (by simpa [thUp] using hn) rfl)
    · rcases hnew g j hj with h | ⟨c', hc'⟩
      · exact h
      · rcases hloc g c' hc' with h | ⟨h1, c'', h2⟩
        · have := owned_lt hrel ho hg; omega
        · exact (hother nm' g c hne ho hg c'' h1 h2).elim
    · rintro nm' e' cells rfl ho
      simp [ownUp] at ho
    · rintro nm' sz' e' m rfl ho g c hg
      simp only [ownUp, if_true, Option.some.injEq, Own.tok.injEq] at ho
      obtain ⟨rfl, rfl, rfl⟩ := ho
      exact htok g c (by simpa [thUp] using hg)
    · rintro nm' nm'' g c c' rfl hne _ ho' hg hg'
      rcases hloc g c (by simpa [thUp] using hg) with h | ⟨h1, c'', h2⟩
      · have := owned_lt hrel ho' hg'; omega
      · exact hother nm'' g c' hne ho' hg' c'' h1 h2
  · by_cases hne : nm' = nm
    · subst hne
      rcases hloc g c (by simpa [thUp] using hg) with h | ⟨h1, c', h2⟩
      · exact .inl h
      · exact .inr ⟨nm', c', h1, h2⟩
    · exact .inr ⟨nm', c, by simpa [ownUp, hne] using ho, by simpa [thUp, hne] using hg⟩
  · rcases hnew b o h with h | ⟨c, hc⟩
    · exact .inl h
    · rcases hloc b c hc with h | ⟨h1, c', h2⟩
      · exact .inr (.inl h)
      · exact .inr (.inr ⟨nm, c', h1, h2⟩)

theorem appF_lt {n i : Nat} (f g : Nat → List AV) (h : i < n) : appF n f g i = f i := by
  have : Nat.blt i n = true := by simpa [Nat.blt_eq] using h
  simp [appF, this]
theorem appF_ge {n i : Nat} (f g : Nat → List AV) (h : n ≤ i) : appF n f g i = g (i - n) := by
  have : Nat.blt i n = false := by cases hb : Nat.blt i n with | false => rfl | true => rw [Nat.blt_eq] at hb; omega
  simp [appF, this]

/-- The cells of a slice that is told by value, as a list. -/
theorem cells_list {v : Value} {sz n : Nat} {f : Nat → List AV} (h : RepV I w v (.slice sz n f .none)) : ∃ (ad : Option Addr) (cap : Nat) (cs : List Value), v = .slice ad n cap ∧ n ≤ cap ∧ cap ≤ maxLen ∧ (ad = none → cap = 0) ∧ cs.length = n * sz ∧
    (∀ u ∈ cs, u.oneCell' = true) ∧ (∀ i, i < n → (f i).length = sz) ∧ (∀ i c, i < n → c < sz → RepV I w (cs.getD (i * sz + c) undef) ((f i).getD c .any)) ∧
    (0 < n → ∃ b, ad = some b ∧ b.spot = none ∧ (∀ j, j < n * sz → I b.block (b.off + j)) ∧ (∀ j u, cs[j]? = some u → w.cell? (b.add j) = some u)) := by
  obtain ⟨_, ad, cap, us, rfl, hcap, hmax, hz, hn, h1, hl, hr⟩ := h.slice_inv
  refine ⟨ad, cap, (List.range (n * sz)).map us, rfl, hcap, hmax, hn, by simp, fun u hu => ?_, hl, fun i c hi hc => ?_, fun hp => ?_⟩
  · obtain ⟨j, hj, rfl⟩ := List.mem_map.1 hu
    exact h1 j (List.mem_range.1 hj)
  · have : (i + 1) * sz ≤ n * sz := Nat.mul_le_mul_right _ hi
    rw [Nat.add_mul] at this
    rw [list_getD _ _ _ (by omega)]
    exact hr i c hi hc
  · obtain ⟨b, rfl, hs, hI, hc⟩ := hz hp
    refine ⟨b, rfl, hs, hI, fun j u hu => ?_⟩
    rw [List.getElem?_map] at hu
    by_cases hj : j < n * sz
    · rw [List.getElem?_range hj] at hu
      simp only [Option.map_some, Option.some.injEq] at hu
      subst hu
      rw [add_none hs]
      exact hc j hj
    · rw [List.getElem?_eq_none (by simp; omega)] at hu
      cases hu

/-- Elements behind elements, as they lie in one block. -/
theorem repV_app {s n n' : Nat} {f f' : Nat → List AV} {cs cs' : List Value} {I' : Nat → Nat → Prop} {w' : World} (hmono : ∀ v x, RepV I w v x → RepV I' w' v x)
    (hl : cs.length = n * s) (hl' : cs'.length = n' * s) (h1 : ∀ u ∈ cs, u.oneCell' = true) (h1' : ∀ u ∈ cs', u.oneCell' = true) (hf : ∀ i, i < n → (f i).length = s) (hf' : ∀ i, i < n' → (f' i).length = s)
    (hr : ∀ i c, i < n → c < s → RepV I w (cs.getD (i * s + c) undef) ((f i).getD c .any)) (hr' : ∀ i c, i < n' → c < s → RepV I w (cs'.getD (i * s + c) undef) ((f' i).getD c .any))
    {g cap : Nat} (hcap : n + n' ≤ cap) (hmax : cap ≤ maxLen) (hI : ∀ j, j < (n + n') * s → I' g j) (hcell : ∀ j, j < (n + n') * s → w'.cell? ⟨g, j, none⟩ = some ((cs ++ cs').getD j undef)) :
    RepV I' w' (.slice (some ⟨g, 0, none⟩) (n + n') cap) (.slice s (n + n') (appF n f f') .none) := by
  have hlen : (cs ++ cs').length = (n + n') * s := by rw [List.length_append, hl, hl', Nat.add_mul]
  refine .slice _ _ _ s _ (fun j => (cs ++ cs').getD j undef) hcap hmax (fun _ => ⟨_, rfl, rfl, fun j hj => by simpa using hI j hj, fun j hj => by simpa using hcell j hj⟩) (by simp) (fun j hj => ?_) (fun i hi => ?_) (fun i c hi hc => ?_)
  · have hm : (cs ++ cs').getD j undef ∈ cs ++ cs' := by
      rw [List.getD, List.getElem?_eq_getElem (by omega)]
      exact List.getElem_mem _
    rcases List.mem_append.1 hm with h | h
    · exact h1 _ h
    · exact h1' _ h
  · by_cases hlt : i < n
    · rw [appF_lt _ _ hlt]; exact hf i hlt
    · rw [appF_ge _ _ (by omega)]; exact hf' _ (by omega)
  · apply hmono
    by_cases hlt : i < n
    · rw [appF_lt _ _ hlt]
      have : (i + 1) * s ≤ n * s := Nat.mul_le_mul_right _ hlt
      rw [Nat.add_mul] at this
      have e : (cs ++ cs').getD (i * s + c) undef = cs.getD (i * s + c) undef := by
        rw [List.getD, List.getElem?_append_left (by omega)]; rfl
      rw [e]
      exact hr i c hlt hc
    · rw [appF_ge _ _ (by omega)]
      have h2 : n * s ≤ i * s := Nat.mul_le_mul_right _ (by omega)
      have e : (cs ++ cs').getD (i * s + c) undef = cs'.getD ((i - n) * s + c) undef := by
        rw [List.getD, List.getElem?_append_right (by omega), hl]
        have : i * s + c - n * s = (i - n) * s + c := by rw [Nat.sub_mul]; omega
        rw [this]; rfl
      rw [e]
      exact hr' _ c (by omega) hc

theorem repV_sz0 {v : Value} {sz s n : Nat} {f : Nat → List AV} (h : RepV I w v (.slice sz n f .none)) (hs : sz = s ∨ n = 0) : RepV I w v (.slice s n f .none) := by
  rcases hs with rfl | rfl
  · exact h
  · obtain ⟨_, ad, cap, us, rfl, hcap, hmax, hz, hn, h1, hl, hr⟩ := h.slice_inv
    exact .slice ad 0 cap s f us hcap hmax (fun h => by omega) hn (fun j hj => by omega) (fun i hi => by omega) (fun i c hi => by omega)

/-- How 'append' runs, told by its outcome: 'cs' is there, 'cs\'' comes. -/
def AppRuns (P : Program) (ts : Array TypeId) (ty e : TypeId) (i : TypeInfo) (z : Value) (w : World) (ad : Option Addr) (n cap : Nat) (x : Value) (n' : Nat) (cs cs' : List Value) : Prop :=
  (n' = 0 → (Builtin.append_ ts ty #[.slice ad n cap, x]).run P w = .ok (.slice ad n cap) w) ∧
  (0 < n' → n + n' ≤ cap → ∀ g cur fz, ad = some ⟨g, 0, none⟩ → w.heap[g]? = some (.cells cur e (0, fz)) → fz ≤ n * i.size → n * i.size + cs'.length ≤ cur.size →
    (Builtin.append_ ts ty #[.slice ad n cap, x]).run P w = .ok (.slice ad (n + n') cap) (w.setRow g (cur.toList.take (n * i.size) ++ cs' ++ cur.toList.drop (n * i.size + cs'.length)).toArray)) ∧
  (0 < n' → cap < n + n' → ∃ (zs : Array Value) (nc : Nat), n + n' ≤ nc ∧ nc ≤ maxLen ∧ zs.size = (nc - (n + n')) * z.cells.size ∧
    (Builtin.append_ ts ty #[.slice ad n cap, x]).run P w = .ok (.slice (some ⟨w.heap.size, 0, none⟩) (n + n') nc) (w.drew.alloc (.cells (cs.toArray ++ cs'.toArray ++ zs) e)))

theorem run_append_all {t e : TypeId} {i : TypeInfo} {z : Value} (ty : TypeId) (ht : P.underlying t = some (.slice e)) (hi : P.info? e = some i) (hz : i.zero = some z) {ad bd : Option Addr} {n cap n' cap' : Nat} {cs cs' : List Value}
    (hl : cs.length = n * i.size) (hl' : cs'.length = n' * i.size) (hcap : n ≤ cap) (hnn : ad = none → cap = 0) (h1' : ∀ u ∈ cs', u.oneCell' = true)
    (hc : 0 < n → ∃ b, ad = some b ∧ ∀ j u, cs[j]? = some u → w.cell? (b.add j) = some u) (hc' : 0 < n' → ∃ b, bd = some b ∧ ∀ j u, cs'[j]? = some u → w.cell? (b.add j) = some u)
    (hroom : (n + n') ≤ room) (hby : i.bytes ≤ 128) : AppRuns P #[t, t] ty e i z w ad n cap (.slice bd n' cap') n' cs cs' := by
  unfold room at hroom
  refine ⟨fun h0 => ?_, fun hp hr g cur fz had hh hfz hfit => ?_, fun hp hg => ?_⟩
  · subst h0
    cases bd <;> cases ad <;> simp [Builtin.append_, run_underlying ht, sizeOf, typeInfo, hi, Builtin.lenOf, hcap, Builtin.firstCells, loadCells, loadCellsFrom, storeCells]
  · obtain ⟨b, rfl, hcb⟩ := hc' hp
    subst had
    have hf := run_firstCells_some (P := P) w i.size n' b n' cap' cs' hl' hcb
    have hst := run_storeCells_atF P g (n * i.size) e (0, fz) cs' 0 cur w hh (by simpa using hfz) (by simpa using hfit) h1'
    simp only [Nat.add_zero] at hst
    simp [Builtin.append_, run_underlying ht, sizeOf, typeInfo, hi, Builtin.lenOf, hr, hf, Addr.add_lit, hst]
  · obtain ⟨b, rfl, hcb⟩ := hc' hp
    have hby' : (n + n') * i.bytes ≤ 140737488355328 := by
      have : (n + n') * i.bytes ≤ 1099511627776 * 128 := Nat.mul_le_mul hroom hby
      omega
    have hm : n + n' ≤ maxLen := by unfold maxLen; omega
    refine ⟨Builtin.zeroCells z.cells (grownCap w (n + n') cap e - (n + n')), grownCap w (n + n') cap e, grownCap_ge w _ _ e, grownCap_le_maxLen w _ _ e hm, size_zeroCells _ _, ?_⟩
    cases ad with
    | none =>
      have h0 := hnn rfl
      subst h0
      have hn0 : n = 0 := by omega
      subst hn0
      have hcs : cs = [] := List.eq_nil_of_length_eq_zero (by simpa using hl)
      subst hcs
      have := run_append_nil (P := P) w t ty e i z ht hi hz b n' cap' cs' hl' hcb hp (by omega) (by have := hby'; simp only [Nat.zero_add] at this; omega)
      simpa using this
    | some ad =>
      have hco : ∀ j u, cs[j]? = some u → w.cell? (ad.add j) = some u := by
        by_cases hn0 : 0 < n
        · obtain ⟨b', hb', hcc⟩ := hc hn0
          simp only [Option.some.injEq] at hb'
          subst hb'
          exact hcc
        · have hn0 : n = 0 := by omega
          subst hn0
          have hcs : cs = [] := List.eq_nil_of_length_eq_zero (by simpa using hl)
          subst hcs
          intro j u hu
          simp at hu
      exact run_append_grow (P := P) w t ty e i z ht hi hz ad n cap cs hl hco b n' cap' cs' hl' hcb hg (by omega) (growslice_fits hg hby')

/-- The same, of a string's bytes. -/
theorem run_append_all_string {t u e : TypeId} {i : TypeInfo} (ty : TypeId) (ht : P.underlying t = some (.slice e)) (hu : P.underlying u = some .string) (hi : P.info? e = some i) (hz : i.zero = some (.int .u8 0)) (hs1 : i.size = 1) {ad : Option Addr} {n cap : Nat} {cs : List Value} (s : ByteArray)
    (hl : cs.length = n * i.size) (hcap : n ≤ cap) (hnn : ad = none → cap = 0)
    (hc : 0 < n → ∃ b, ad = some b ∧ ∀ j u, cs[j]? = some u → w.cell? (b.add j) = some u)
    (hroom : (n + s.size) ≤ room) (hby : i.bytes ≤ 128) : AppRuns P #[t, u] ty e i (.int .u8 0) w ad n cap (.string s) s.size cs (Lib.strCells s) := by
  unfold room at hroom
  refine ⟨fun h0 => ?_, fun hp hr g cur fz had hh hfz hfit => ?_, fun hp hg => ?_⟩
  · have hs : s = ⟨#[]⟩ := by
      apply ByteArray.ext
      exact Array.eq_empty_of_size_eq_zero h0
    subst hs
    have e0 : (⟨#[]⟩ : ByteArray).size = 0 := rfl
    cases ad <;> simp [Builtin.append_, run_underlying ht, run_underlying hu, sizeOf, typeInfo, hi, Builtin.lenOf, hcap, Builtin.firstCells, storeCells, e0]
  · subst had
    rw [hs1, Nat.mul_one] at hfz ⊢
    rw [hs1, Nat.mul_one, Lib.strCells_length] at hfit
    rw [Lib.strCells_length]
    exact Lib.run_append_room_stringF (P := P) w t u ty e i ht hu hi hs1 g n cap cur (0, fz) hh hfz s hr hfit
  · have hby' : (n + s.size) * i.bytes ≤ 140737488355328 := by
      have : (n + s.size) * i.bytes ≤ 1099511627776 * 128 := Nat.mul_le_mul hroom hby
      omega
    have hm : n + s.size ≤ maxLen := by unfold maxLen; omega
    refine ⟨Builtin.zeroCells (Value.int IntKind.u8 0).cells (grownCap w (n + s.size) cap e - (n + s.size)), grownCap w (n + s.size) cap e, grownCap_ge w _ _ e, grownCap_le_maxLen w _ _ e hm, size_zeroCells _ _, ?_⟩
    have ec : (Lib.strCells s).toArray = s.data.map (fun b => Value.int .u8 b.toNat) := by
      apply Array.ext'
      simp [Lib.strCells]
    cases ad with
    | none =>
      have h0 := hnn rfl
      subst h0
      have hn0 : n = 0 := by omega
      subst hn0
      have hcs : cs = [] := List.eq_nil_of_length_eq_zero (by simpa using hl)
      subst hcs
      have := run_append_nil_string (P := P) w t u ty e i (.int .u8 0) ht hu hi hz s hp (by omega) (by have := hby'; simp only [Nat.zero_add] at this; omega)
      rw [ec]
      simpa using this
    | some ad =>
      have hco : ∀ j u, cs[j]? = some u → w.cell? (ad.add j) = some u := by
        by_cases hn0 : 0 < n
        · obtain ⟨b', hb', hcc⟩ := hc hn0
          simp only [Option.some.injEq] at hb'
          subst hb'
          exact hcc
        · have hn0 : n = 0 := by omega
          subst hn0
          have hcs : cs = [] := List.eq_nil_of_length_eq_zero (by simpa using hl)
          subst hcs
          intro j u hu
          simp at hu
      have := Lib.run_append_grow_string (P := P) w t u ty e i (.int .u8 0) ht hu hi hz ad n cap cs hl hco s hg (by omega) (growslice_fits hg hby')
      exact this
end
end Go.Proofs.Ytcpopeamoipjlaa
