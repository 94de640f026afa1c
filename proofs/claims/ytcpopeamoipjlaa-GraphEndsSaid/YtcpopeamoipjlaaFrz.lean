/-
  A row that may be written is written no more; what was nothing becomes one.
-/
import Derived.Test.YtcpopeamoipjlaaTyped
namespace Go.Proofs.Ytcpopeamoipjlaa
open Go Go.RowKit
set_option linter.unusedVariables false

section
variable {P : Program} {Γ : Env}

def notB (nm : Nat) (k : Nat) : Bool := !Nat.beq k nm
mutual
/-- The row 'nm' is written no more: what bears it whole is a slice whose elements never change any more. -/
def AV.frz (nm sz n : Nat) (g : Nat → List AV) : AV → AV
  | .slice s m f (.own k) => .slice s m f (bif Nat.beq k nm then .none else .own k)
  | .ptr k off => bif Nat.beq k nm then .any else .ptr k off
  | .vsl k j => bif Nat.beq k nm then .slice sz n g (.own nm) else .vsl k j
  | .vpt k j i c => bif Nat.beq k nm then .any else .vpt k j i c
  | .vsub k j l h => bif Nat.beq k nm then .any else .vsub k j l h
  | .optr k => bif Nat.beq k nm then .any else .optr k
  | .clo f xs ys => .clo f (AV.frzAll nm sz n g xs) (AV.frzAll nm sz n g ys)
  | .agg cs => .agg (AV.frzAll nm sz n g cs)
  | .tuple cs => .tuple (AV.frzAll nm sz n g cs)
  | .cond c x => .cond c (x.frz nm sz n g)
  | x => x
def AV.frzAll (nm sz n : Nat) (g : Nat → List AV) : List AV → List AV
  | [] => []
  | x :: l => x.frz nm sz n g :: AV.frzAll nm sz n g l
end
mutual
/-- What bears the row bears it whole. -/
def AV.wholes (nm n : Nat) : AV → List Prop
  | .vsl k j => bif Nat.beq k nm then [j = n] else []
  | .agg cs => AV.wholesAll nm n cs
  | .tuple cs => AV.wholesAll nm n cs
  | .cond _ x => x.wholes nm n
  | .clo _ xs ys => AV.wholesAll nm n xs ++ AV.wholesAll nm n ys
  | _ => []
def AV.wholesAll (nm n : Nat) : List AV → List Prop
  | [] => []
  | x :: l => x.wholes nm n ++ AV.wholesAll nm n l
end
def Own.frz (nm sz n : Nat) (g : Nat → List AV) : Own → Own
  | .row e cells => .row e (AV.frzAll nm sz n g cells)
  | .arr s e m f => .arr s e m (fun i => AV.eraseAll (notB nm) (f i))
  | .obj x => .obj x
  | .tok s e m => .tok s e m
def Own.wholes (nm n : Nat) : Own → List Prop
  | .row _ cells => AV.wholesAll nm n cells
  | _ => []
def St.wholes (st : St) (nm n : Nat) : List Prop := (st.tmps.map fun x => x.2.wholes nm n).flatten ++ (st.own.map fun x => x.2.wholes nm n).flatten
def St.freeze (st : St) (nm sz n : Nat) (e : TypeId) (g : Nat → List AV) : St :=
  ⟨st.tmps.map fun x => (x.1, x.2.frz nm sz n g), st.own.map fun x => (x.1, bif Nat.beq x.1 nm then .tok sz e n else x.2.frz nm sz n g), st.fam⟩

theorem frz_length (nm sz n : Nat) (g : Nat → List AV) (l : List AV) : (AV.frzAll nm sz n g l).length = l.length := by induction l with | nil => rfl | cons x l ih => simp [AV.frzAll, ih]
theorem frz_getD (nm sz n : Nat) (g : Nat → List AV) (l : List AV) (j : Nat) : (AV.frzAll nm sz n g l).getD j .any = (l.getD j .any).frz nm sz n g := by
  induction l generalizing j with
  | nil => simp [AV.frzAll, AV.frz]
  | cons x l ih => cases j with
    | zero => simp [AV.frzAll]
    | succ j => simpa [AV.frzAll] using ih j
theorem wholes_getD {nm n : Nat} {l : List AV} (h : ∀ p ∈ AV.wholesAll nm n l, p) (j : Nat) : ∀ p ∈ (l.getD j .any).wholes nm n, p := by
  induction l generalizing j with
  | nil => intro p hp; simp [AV.wholes] at hp
  | cons x l ih =>
    simp only [AV.wholesAll] at h
    cases j with
    | zero => intro p hp; exact h p (List.mem_append.2 (.inl (by simpa using hp)))
    | succ j => intro p hp; exact ih (fun q hq => h q (List.mem_append.2 (.inr hq))) j p (by simpa using hp)

theorem RepV.frz {I : Nat → Nat → Prop} {w : World} {v : Value} {x : AV} (h : RepV I w v x) (nm sz n : Nat) (g : Nat → List AV) : RepV I w v (x.frz nm sz n g) := by
  induction h with
  | any v => exact .any v
  | undef => exact .undef
  | int k n => exact .int k n
  | bool b => exact .bool b
  | str s => exact .str s
  | clo f => exact .clo f
  | nxt1 i r => exact .nxt1 i r
  | nxt0 i r => exact .nxt0 i r
  | nilq b pos n h => exact .nilq b pos n h
  | err0 => exact .err0
  | err1 t v => exact .err1 t v
  | nilp => exact .nilp
  | cond v c x _ h' ih => exact .cond v c _ ih h'
  | rptr a cells us hs hI' hc h1 hr _ => exact .rptr a cells us hs hI' hc h1 hr
  | slice a n cap sz f us hcap hmax hz hn h1 hl hr _ => exact .slice a n cap sz f us hcap hmax hz hn h1 hl hr
  | agg vs cs hl h1 _ ih => exact .agg vs _ (by rw [frz_length, hl]) (fun j hj => h1 j (by rwa [frz_length] at hj)) (fun j hj => by rw [frz_getD]; exact ih j (by rwa [frz_length] at hj))
  | tuple vs cs hl _ ih => exact .tuple vs _ (by rw [frz_length, hl]) (fun j hj => by rw [frz_getD]; exact ih j (by rwa [frz_length] at hj))
theorem Rep.frz {I I' : Nat → Nat → Prop} {own own' : Nat → Option Own} {θ : Nat → Option (Nat × Nat)} {w : World} {v : Value} {x : AV} {nm sz n : Nat} {g : Nat → List AV} (h : Rep I own θ w v x) (hp : ∀ p ∈ x.wholes nm n, p) (hI : ∀ b o, I b o → I' b o)
    (ho : ∀ k o, own k = some o → Nat.beq k nm = false → own' k = some (o.frz nm sz n g)) (hk : ∀ v, Rep I own θ w v (.vsl nm n) → Rep I' own' θ w v (.slice sz n g (.own nm))) (hlt' : ∀ b i, Nat.beq (big b i) nm = false) : Rep I' own' θ w v (x.frz nm sz n g) := by
  induction h with
  | val v x h => exact .val _ _ ((h.frz nm sz n g).mono hI (fun _ _ _ => rfl))
  | exact a n sz f h => exact .exact a n sz f (h.mono hI (fun _ _ _ => rfl))
  | own k sz e m a n cap f hn hm hv h =>
    simp only [AV.frz]
    cases hb : Nat.beq k nm with
    | true => exact .val _ _ (h.mono hI (fun _ _ _ => rfl))
    | false => exact .own k sz e m a n cap f (ho k _ hn hb) hm hv (h.mono hI (fun _ _ _ => rfl))
  | fam b i sz e m a n cap f hi hn hm hv h =>
    exact .fam b i sz e m a n cap f hi (ho _ _ hn (hlt' b i)) hm hv (h.mono hI (fun _ _ _ => rfl))
  | ptr k off e0 cells g c hn hg =>
    simp only [AV.frz]
    cases hb : Nat.beq k nm with
    | true => exact .val _ _ (.any _)
    | false => exact .ptr k off e0 _ g c (ho k _ hn hb) hg
  | vsl k s2 e m f a j cap hn hm hcap hmax hnn hv =>
    simp only [AV.frz]
    cases hb : Nat.beq k nm with
    | true =>
      obtain rfl := Nat.eq_of_beq_eq_true hb
      obtain rfl : j = n := hp _ (by simp [AV.wholes])
      exact hk _ (.vsl k s2 e m f a j cap hn hm hcap hmax hnn hv)
    | false => exact .vsl k s2 e m _ a j cap (ho k _ hn hb) hm hcap hmax hnn hv
  | vpt k s2 e m f j i c ad hn hm hi hv =>
    simp only [AV.frz]
    cases hb : Nat.beq k nm with
    | true => exact .val _ _ (.any _)
    | false => exact .vpt k s2 e m _ j i c ad (ho k _ hn hb) hm hi hv
  | clo f fs cs xs ys hl hl' _ _ ih ih' =>
    simp only [AV.wholes, List.mem_append] at hp
    exact .clo f fs cs _ _ (by rw [frz_length, hl]) (by rw [frz_length, hl']) (fun j hj => by rw [frz_getD]; exact ih j (by rwa [frz_length] at hj) (wholes_getD (fun p h => hp p (.inl h)) j)) (fun j hj => by rw [frz_getD]; exact ih' j (by rwa [frz_length] at hj) (wholes_getD (fun p h => hp p (.inr h)) j))
  | vsub k s2 e m f j lo hi a cap hn hm hlo hhi hcap hmax hnn hv =>
    simp only [AV.frz]
    cases hb : Nat.beq k nm with
    | true => exact .val _ _ (.any _)
    | false => exact .vsub k s2 e m _ j lo hi a cap (ho k _ hn hb) hm hlo hhi hcap hmax hnn hv
  | optr k x g c hn hg =>
    simp only [AV.frz]
    cases hb : Nat.beq k nm with
    | true => exact .val _ _ (.any _)
    | false => exact .optr k x g c (ho k _ hn hb) hg
  | cond v c x _ h' ih => exact .cond v c _ (fun hc => ih hc (by simpa [AV.wholes] using hp)) h'
  | agg vs cs hl h1 _ ih => exact .agg vs _ (by rw [frz_length, hl]) (fun j hj => h1 j (by rwa [frz_length] at hj)) (fun j hj => by rw [frz_getD]; exact ih j (by rwa [frz_length] at hj) (wholes_getD (by simpa [AV.wholes] using hp) j))
  | tuple vs cs hl _ ih => exact .tuple vs _ (by rw [frz_length, hl]) (fun j hj => by rw [frz_getD]; exact ih j (by rwa [frz_length] at hj) (wholes_getD (by simpa [AV.wholes] using hp) j))

theorem look_mapK {α β : Type} (l : List (Nat × α)) (g : Nat → α → β) (k : Nat) : look (l.map fun x => (x.1, g x.1 x.2)) k = (look l k).map (g k) := by
  induction l with
  | nil => rfl
  | cons x l ih =>
    obtain ⟨a, b⟩ := x
    simp only [List.map_cons, look]
    cases hb : Nat.beq a k with
    | true => have := Nat.eq_of_beq_eq_true hb; subst this; simp
    | false => simpa using ih

theorem memW {α β : Type} {l : List (Nat × α)} {g : α → List β} {k : Nat} {x : α} (h : look l k = some x) {p : β} (hp : p ∈ g x) : p ∈ (l.map fun y => g y.2).flatten :=
  List.mem_flatten.2 ⟨g x, List.mem_map.2 ⟨(k, x), look_mem h, rfl⟩, hp⟩

theorem le_freeze {st : St} {nm sz n : Nat} {e : TypeId} {f g : Nat → List AV} (ho : look st.own nm = some (.arr sz e n f)) (hwh : conjL (st.wholes nm n)) (hf : ∀ i, i < n → AV.stripAll (f i) = g i) (h0 : Γ.own0 nm = none) (hlt : Nat.blt nm famB = true := by rfl) :
    Le Γ st (st.freeze nm sz n e g) := by
  intro I θ a w h
  have hall := conjL_all hwh
  have hlt : nm < famB := by simpa [Nat.blt_eq] using hlt
  have ho : st.sto.own nm = some (.arr sz e n f) := (famOwn_lt hlt).trans ho
  have hown' : (st.freeze nm sz n e g).sto.own = fun k => (st.sto.own k).map fun o => bif Nat.beq k nm then Own.tok sz e n else o.frz nm sz n g := by
    funext k
    by_cases hk : k < famB
    · show famOwn _ _ k = (famOwn _ _ k).map _
      rw [famOwn_lt hk, famOwn_lt hk]
      exact look_mapK st.own (fun k o => bif Nat.beq k nm then Own.tok sz e n else o.frz nm sz n g) k
    · have hb : Nat.beq k nm = false := by cases hb : Nat.beq k nm with | false => rfl | true => exact absurd (Nat.eq_of_beq_eq_true hb) (by rintro rfl; exact hk hlt)
      show famOwn _ _ k = (famOwn _ _ k).map _
      rw [famOwn_ge hk, famOwn_ge hk, hb]
      show (look st.fam (k / famB - 1)).bind _ = _
      cases look st.fam (k / famB - 1) with
      | none => rfl
      | some F => simp only [Option.bind_some, Option.map_map]; cases F.m (k % famB) <;> rfl
  have hnm : (st.freeze nm sz n e g).sto.own nm = some (.tok sz e n) := by rw [hown']; simp [ho]
  have hne : ∀ k, k ≠ nm → (st.freeze nm sz n e g).sto.own k = (st.sto.own k).map (Own.frz nm sz n g) := fun k hk => by
    have : Nat.beq k nm = false := by cases hb : Nat.beq k nm with | false => rfl | true => exact absurd (Nat.eq_of_beq_eq_true hb) hk
    rw [hown']; simp [this]
  have hkeep : ∀ k o, st.sto.own k = some o → Nat.beq k nm = false → (st.freeze nm sz n e g).sto.own k = some (o.frz nm sz n g) := fun k o hk hb => by
    have : k ≠ nm := by rintro rfl; simp at hb
    rw [hne k this]
    rw [hk]; rfl
  have hback : ∀ k, k ≠ nm → ∀ o', (st.freeze nm sz n e g).sto.own k = some o' → ∃ o, st.sto.own k = some o ∧ o' = o.frz nm sz n g := fun k hk o' ho' => by
    rw [hne k hk] at ho'
    obtain ⟨o, h1, h2⟩ := Option.map_eq_some_iff.1 ho'
    exact ⟨o, h1, h2.symm⟩
  have hnone : ∀ k, (st.freeze nm sz n e g).sto.own k ≠ none → st.sto.own k ≠ none := fun k hk => by
    by_cases hkn : k = nm
    · subst hkn; simp [ho]
    · cases hx : (st.freeze nm sz n e g).sto.own k with
      | none => exact (hk hx).elim
      | some o' => obtain ⟨o, h1, _⟩ := hback k hkn o' hx; simp [h1]
  have hrel := h.chg.rel
  obtain ⟨q0, q1⟩ := hrel.arr nm sz e n f ho
  let I' : Nat → Nat → Prop := fun b o => I b o ∨ ((∃ c, θ nm = some (b, c)) ∧ o < n * sz)
  have hII : ∀ b o, I b o → I' b o := fun _ _ h => .inl h
  have hkey : ∀ v, Rep I st.sto.own θ w v (.vsl nm n) → Rep I' (st.freeze nm sz n e g).sto.own θ w v (.slice sz n g (.own nm)) := fun v hs => by
    obtain ⟨sz', e', m, f2, ad, cap, hval, ho', hmm, hcap, hmax, hnn, hvv⟩ := hs.vsl_inv
    have ho'' : st.sto.own nm = some (.arr sz' e' m f2) := ho'
    rw [ho] at ho''
    simp only [Option.some.injEq, Own.arr.injEq] at ho''
    obtain ⟨rfl, rfl, rfl, rfl⟩ := ho''
    have hvv := hvv rfl
    rw [hval]
    refine .own nm sz e n ad n cap g hnm (Nat.le_refl _) (fun _ => hvv) ?_
    cases hθ : θ nm with
    | none =>
      have hn0 := q0 hθ
      subst hn0
      exact .slice ad 0 cap sz g (fun _ => undef) hcap hmax (fun h => by omega) hnn (fun j hj => by omega) (fun i hi => by omega) (fun i c hi => by omega)
    | some gc =>
      obtain ⟨b, c⟩ := gc
      rw [hθ] at hvv
      simp only at hvv
      obtain ⟨rfl, rfl⟩ := hvv
      obtain ⟨cur, r1, r2, r3, r4, r5, r6, r7⟩ := q1 b cap hθ
      have hcell : ∀ j, j < n * sz → w.cell? ⟨b, j, none⟩ = some (cur.getD j undef) := fun j hj => by
        have : n * sz ≤ cap * sz := Nat.mul_le_mul_right _ r2
        rw [cell_of_row w b j cur e (0, 0) r1]
        exact agetD_of (by omega)
      refine .slice _ n cap sz g (fun j => cur.getD j undef) hcap hmax (fun _ => ⟨⟨b, 0, none⟩, rfl, rfl, fun j hj => .inr ⟨⟨cap, hθ⟩, by simpa using hj⟩, fun j hj => by simpa using hcell j hj⟩) (by simp) (fun j hj => ?_) (fun i hi => ?_) (fun i k hi hk => ?_)
      · have hs : 0 < sz := by
          rcases Nat.eq_zero_or_pos sz with h0 | h0
          · rw [h0] at hj; omega
          · exact h0
        have e2 : j / sz * sz + j % sz = j := by rw [Nat.mul_comm]; exact Nat.div_add_mod j sz
        have := (r6 (j / sz) (j % sz) (by rw [Nat.div_lt_iff_lt_mul hs]; exact hj) (Nat.mod_lt _ hs)).1
        rwa [e2] at this
      · rw [← hf i hi, stripAll_length]; exact r5 i hi
      · rw [← hf i hi, stripAll_getD]
        exact ((r6 i k hi hk).2.strip).mono hII (fun _ _ _ => rfl)
  have hlt' : ∀ b i, Nat.beq (big b i) nm = false := fun b i => by cases hb : Nat.beq (big b i) nm with | false => rfl | true => exact absurd (Nat.eq_of_beq_eq_true hb) (by rintro rfl; exact big_ge b i hlt)
  have hcast : ∀ v x, Rep I st.sto.own θ w v x → (∀ p ∈ x.wholes nm n, p) → Rep I' (st.freeze nm sz n e g).sto.own θ w v (x.frz nm sz n g) := fun v x hx hp => hx.frz hp hII hkeep hkey hlt'
  have hfar : ∀ k b c, k ≠ nm → st.sto.own k ≠ none → θ k = some (b, c) → ∀ j, I' b j → I b j := fun k b c hk hk' hg j hj => by
    rcases hj with hj | ⟨⟨c', hc'⟩, _⟩
    · exact hj
    · exact (hk (hrel.inj k nm b c c' hk' (by simp [ho]) hg hc')).elim
  -- what is told of elements elsewhere: nothing that bears the row
  have hcast2 : ∀ v x, Rep I st.sto.own θ w v x → Rep I' (st.freeze nm sz n e g).sto.own θ w v (x.erase (notB nm)) := fun v x hx => by
    have key : ∀ {v : Value} {x : AV}, Rep I st.sto.own θ w v x → Rep I' (st.freeze nm sz n e g).sto.own θ w v (x.erase (notB nm)) := by
      intro v x h
      induction h with
      | val v x h => exact .val _ _ ((h.erase _).mono hII (fun _ _ _ => rfl))
      | exact a n sz f h => exact .exact a n sz f (h.mono hII (fun _ _ _ => rfl))
      | own k sz e m a n cap f hn hm hv h =>
        simp only [AV.erase, notB]
        cases hb : Nat.beq k nm with
        | true => exact .val _ _ (h.mono hII (fun _ _ _ => rfl))
        | false => exact .own k sz e m a n cap f (hkeep k _ hn hb) hm hv (h.mono hII (fun _ _ _ => rfl))
      | fam b i sz e m a n cap f hi hn hm hv h =>
        simp only [AV.erase, notB]
        cases hb : Nat.beq b nm with
        | true => exact .val _ _ (h.mono hII (fun _ _ _ => rfl))
        | false => exact .fam b i sz e m a n cap f hi (hkeep _ _ hn (hlt' b i)) hm hv (h.mono hII (fun _ _ _ => rfl))
      | ptr k off e0 cells g c hn hg =>
        simp only [AV.erase, notB]
        cases hb : Nat.beq k nm with
        | true => exact .val _ _ (.any _)
        | false => exact .ptr k off e0 _ g c (hkeep k _ hn hb) hg
      | vsl k s2 e m f a j cap hn hm hcap hmax hnn hv =>
        simp only [AV.erase, notB]
        cases hb : Nat.beq k nm with
        | true => exact .val _ _ (.any _)
        | false => exact .vsl k s2 e m _ a j cap (hkeep k _ hn hb) hm hcap hmax hnn hv
      | vpt k s2 e m f j i c ad hn hm hi hv =>
        simp only [AV.erase, notB]
        cases hb : Nat.beq k nm with
        | true => exact .val _ _ (.any _)
        | false => exact .vpt k s2 e m _ j i c ad (hkeep k _ hn hb) hm hi hv
      | clo f fs cs xs ys hl hl' _ _ ih ih' => exact .clo f fs cs _ _ (by rw [eraseAll_length, hl]) (by rw [eraseAll_length, hl']) (fun j hj => by rw [eraseAll_getD]; exact ih j (by rwa [eraseAll_length] at hj)) (fun j hj => by rw [eraseAll_getD]; exact ih' j (by rwa [eraseAll_length] at hj))
      | vsub k s2 e m f j lo hi a cap hn hm hlo hhi hcap hmax hnn hv =>
        simp only [AV.erase, notB]
        cases hb : Nat.beq k nm with
        | true => exact .val _ _ (.any _)
        | false => exact .vsub k s2 e m _ j lo hi a cap (hkeep k _ hn hb) hm hlo hhi hcap hmax hnn hv
      | optr k x g c hn hg =>
        simp only [AV.erase, notB]
        cases hb : Nat.beq k nm with
        | true => exact .val _ _ (.any _)
        | false => exact .optr k x g c (hkeep k _ hn hb) hg
      | cond v c x _ h' ih => exact .cond v c _ ih h'
      | agg vs cs hl h1 _ ih => exact .agg vs _ (by rw [eraseAll_length, hl]) (fun j hj => h1 j (by rwa [eraseAll_length] at hj)) (fun j hj => by rw [eraseAll_getD]; exact ih j (by rwa [eraseAll_length] at hj))
      | tuple vs cs hl _ ih => exact .tuple vs _ (by rw [eraseAll_length, hl]) (fun j hj => by rw [eraseAll_getD]; exact ih j (by rwa [eraseAll_length] at hj))
    exact key hx
  refine ⟨I', θ, h.size, h.defers, fun t => ?_, ?_⟩
  · have hslot : (st.freeze nm sz n e g).sto.tmp t = match look st.tmps t with | some x => x.frz nm sz n g | none => .any := by
      show (match look (st.tmps.map fun x => (x.1, x.2.frz nm sz n g)) t with | some x => x | none => .any) = _
      rw [look_mapK st.tmps (fun _ x => x.frz nm sz n g) t]
      cases look st.tmps t <;> rfl
    rw [hslot]
    have hs := h.slots t
    have hget : st.sto.tmp t = match look st.tmps t with | some x => x | none => .any := rfl
    cases hl : look st.tmps t with
    | none => exact .val _ _ (.any _)
    | some x =>
      rw [hget, hl] at hs
      exact hcast _ _ hs (fun p hp => hall p (List.mem_append.2 (.inl (memW (g := fun x => x.wholes nm n) hl hp))))
  · refine { h.chg with imm := fun b o hi => .inl (h.chg.imm b o hi), le := fun k o hk => ?_, rel := ⟨fun k e0 cells hk => ?_, fun k s2 e2 m hk b c hg => ?_, fun k k' b c c' hk hk' => ?_, fun k s2 e2 m f2 hk => ?_, fun k x hk => ?_, fun k s2 m hk hnn => ?_⟩, valid := fun b o hi => ?_, new := fun k b c hk hg => ?_, immNew := fun b o hi => ?_ }
    · obtain ⟨o', ho', hl⟩ := h.chg.le k o hk
      have hkn : k ≠ nm := by rintro rfl; rw [h0] at hk; cases hk
      have hkb : Nat.beq k nm = false := by cases hb : Nat.beq k nm with | false => rfl | true => exact absurd (Nat.eq_of_beq_eq_true hb) hkn
      refine ⟨_, hkeep k o' ho' hkb, ?_⟩
      cases o <;> cases o' <;> first | exact hl | exact hl.elim
    rotate_left 4
    · have hkn : k ≠ nm := by rintro rfl; rw [hnm] at hk; cases hk
      obtain ⟨o, h1, h2⟩ := hback k hkn _ hk
      cases o with
      | row => simp [Own.frz] at h2
      | tok => simp [Own.frz] at h2
      | arr => simp [Own.frz] at h2
      | obj x' =>
        simp only [Own.frz, Own.obj.injEq] at h2
        subst h2
        exact obj_map (hrel.obj k _ h1) rfl (fun _ _ _ => rfl) (fun b c j hg hj => hfar k b c hkn (by simp [h1]) hg j hj) (fun _ h => h.mono (fun _ _ h => .inl h) (fun _ _ _ => rfl))
    · by_cases hkn : k = nm
      · subst hkn
        rw [hnm] at hk
        simp only [Option.some.injEq, Own.tok.injEq] at hk
        obtain ⟨rfl, _, rfl⟩ := hk
        exact q0 hnn
      · obtain ⟨o, h1, h2⟩ := hback k hkn _ hk
        cases o with
        | row => simp [Own.frz] at h2
        | arr => simp [Own.frz] at h2
        | obj => simp [Own.frz] at h2
        | tok =>
          simp only [Own.frz, Own.tok.injEq] at h2
          obtain ⟨rfl, rfl, rfl⟩ := h2
          exact hrel.tok8 k _ _ h1 hnn
    rotate_left 3
    · have hkn : k ≠ nm := by rintro rfl; rw [hnm] at hk; cases hk
      obtain ⟨o, h1, h2⟩ := hback k hkn _ hk
      cases o with
      | tok => simp [Own.frz] at h2
      | arr => simp [Own.frz] at h2
      | obj => simp [Own.frz] at h2
      | row e' cs =>
        simp only [Own.frz, Own.row.injEq] at h2
        obtain ⟨rfl, rfl⟩ := h2
        obtain ⟨b, c, vs, r1, r2, r3, r4, r5, r6⟩ := hrel.row k _ cs h1
        refine ⟨b, c, vs, r1, r2, by rw [frz_length]; exact r3, fun j hj => r4 j (by rwa [frz_length] at hj), fun j hj => ?_, fun j hj => r6 j (hfar k b c hkn (by simp [h1]) r1 j hj)⟩
        rw [frz_getD]
        refine hcast _ _ (r5 j (by rwa [frz_length] at hj)) (wholes_getD (fun p hp => hall p (List.mem_append.2 (.inr (memW (g := fun x => x.wholes nm n) (famOwn_look h1 (fun _ _ _ h => by cases h)) (by simpa [Own.wholes] using hp))))) j)
    · by_cases hkn : k = nm
      · subst hkn
        rw [hnm] at hk
        simp only [Option.some.injEq, Own.tok.injEq] at hk
        obtain ⟨rfl, rfl, rfl⟩ := hk
        obtain ⟨cur, r1, r2, r3, r4, r5, r6, r7⟩ := q1 b c hg
        refine ⟨cur, 0, r1, r2, r3, r4, Nat.zero_le _, fun j hj => ?_⟩
        rcases hj with hj | ⟨_, hj⟩
        · exact (r7 j hj).elim
        · exact hj
      · obtain ⟨o, h1, h2⟩ := hback k hkn _ hk
        cases o with
        | row => simp [Own.frz] at h2
        | arr => simp [Own.frz] at h2
        | obj => simp [Own.frz] at h2
        | tok =>
          simp only [Own.frz, Own.tok.injEq] at h2
          obtain ⟨rfl, rfl, rfl⟩ := h2
          obtain ⟨cur, fz, r1, r2, r3, r4, r5', r5⟩ := hrel.tok k _ _ _ h1 b c hg
          exact ⟨cur, fz, r1, r2, r3, r4, r5', fun j hj => r5 j (hfar k b c hkn (by simp [h1]) hg j hj)⟩
    · exact hrel.inj k k' b c c' (hnone k hk) (hnone k' hk')
    · have hkn : k ≠ nm := by rintro rfl; rw [hnm] at hk; cases hk
      obtain ⟨o, h1, h2⟩ := hback k hkn _ hk
      cases o with
      | row => simp [Own.frz] at h2
      | tok => simp [Own.frz] at h2
      | obj => simp [Own.frz] at h2
      | arr s3 e3 m3 f3 =>
        simp only [Own.frz, Own.arr.injEq] at h2
        obtain ⟨rfl, rfl, rfl, rfl⟩ := h2
        exact arr_map (hrel.arr k _ _ _ _ h1) rfl (fun _ _ _ => rfl) (fun b c j hg hj => hfar k b c hkn (by simp [h1]) hg j hj) (fun i _ => eraseAll_length _ _) (fun v i j _ _ hv => by rw [eraseAll_getD]; exact hcast2 _ _ hv)
    · rcases hi with hi | ⟨⟨c, hc⟩, hj⟩
      · exact h.chg.valid b o hi
      · obtain ⟨cur, r1, r2, r3, r4, r5, r6, r7⟩ := q1 b c hc
        have : n * sz ≤ c * sz := Nat.mul_le_mul_right _ r2
        exact ⟨cur.getD o undef, by rw [cell_of_row w b o cur e (0, 0) r1]; exact agetD_of (by omega)⟩
    · exact h.chg.new k b c (hnone k hk) hg
    · rcases hi with hi | ⟨⟨c, hc⟩, _⟩
      · exact h.chg.immNew b o hi
      · exact .inr (h.chg.new nm b c (by simp [ho]) hc)
end

section
variable {α : Type} {e : α → List AV} {d : α}
/-- One element written, as lists. -/
theorem putF_set {f : Nat → List AV} {l : List α} {i j : Nat} {cs : List AV} {x : α} (hf : ∀ k, k < l.length → f k = e (l.getD k d)) (hi : i < l.length) (hx : (e (l.getD i d)).take j ++ cs ++ (e (l.getD i d)).drop (j + cs.length) = e x) :
    ∀ k, k < (l.set i x).length → putF f i j cs k = e ((l.set i x).getD k d) := by
  intro k hk
  rw [List.length_set] at hk
  by_cases h : k = i
  · subst h
    rw [putF_here, hf k hk, hx]
    simp [List.getD, hk]
  · rw [putF_else f cs h, hf k hk]
    simp [List.getD, Ne.symm h]
/-- Elements copied over others, as lists. -/
def cpL {α : Type} (l : List α) (lo k : Nat) (s : Nat → α) : List α := l.mapIdx fun i x => if lo ≤ i ∧ i < lo + k then s (i - lo) else x
theorem cpL_length (l : List α) (lo k : Nat) (s : Nat → α) : l.length = (cpL l lo k s).length := by simp [cpL]
theorem cpL_getD (l : List α) (lo k : Nat) (s : Nat → α) (i : Nat) (d : α) (h : i < l.length) : (cpL l lo k s).getD i d = if lo ≤ i ∧ i < lo + k then s (i - lo) else l.getD i d := by
  simp [cpL, List.getD, h]
theorem cpF_cpL {f g : Nat → List AV} {l : List α} {s : Nat → α} {lo k : Nat} (hf : ∀ i, i < l.length → f i = e (l.getD i d)) (hg : ∀ i, i < k → g i = e (s i)) : ∀ i, i < (cpL l lo k s).length → cpF f lo k g i = e ((cpL l lo k s).getD i d) := by
  intro i hi
  rw [← cpL_length] at hi
  rw [cpL_getD _ _ _ _ _ _ hi]
  by_cases h : lo ≤ i ∧ i < lo + k
  · rw [cpF_in f g h, if_pos h, hg _ (by omega)]
  · rw [cpF_out f g h, if_neg h, hf i hi]
theorem eraseAll_append (keep : Nat → Bool) (l m : List AV) : AV.eraseAll keep (l ++ m) = AV.eraseAll keep l ++ AV.eraseAll keep m := by induction l with | nil => rfl | cons x l ih => simp [AV.eraseAll, ih]
theorem eraseAll_take (keep : Nat → Bool) (l : List AV) (n : Nat) : AV.eraseAll keep (l.take n) = (AV.eraseAll keep l).take n := by
  induction l generalizing n with
  | nil => simp [AV.eraseAll]
  | cons x l ih => cases n with
    | zero => simp [AV.eraseAll]
    | succ n => simp [AV.eraseAll, ih]
theorem eraseAll_drop (keep : Nat → Bool) (l : List AV) (n : Nat) : AV.eraseAll keep (l.drop n) = (AV.eraseAll keep l).drop n := by
  induction l generalizing n with
  | nil => simp [AV.eraseAll]
  | cons x l ih => cases n with
    | zero => simp
    | succ n => simpa [AV.eraseAll] using ih n
/-- One element written, whose names are then forgotten, as lists. -/
theorem putF_erase {keep : Nat → Bool} {f : Nat → List AV} {l : List α} {i j : Nat} {cs : List AV} {x : α} (hf : ∀ k, k < l.length → f k = e (l.getD k d)) (he : ∀ a, AV.eraseAll keep (e a) = e a) (hi : i < l.length) (hx : (e (l.getD i d)).take j ++ AV.eraseAll keep cs ++ (e (l.getD i d)).drop (j + cs.length) = e x) :
    ∀ k, k < (l.set i x).length → AV.eraseAll keep (putF f i j cs k) = e ((l.set i x).getD k d) := by
  intro k hk
  rw [List.length_set] at hk
  by_cases h : k = i
  · subst h
    rw [putF_here, eraseAll_append, eraseAll_append, eraseAll_take, eraseAll_drop, hf k hk, he, hx]
    simp [List.getD, hk]
  · rw [putF_else f cs h, hf k hk, he]
    simp [List.getD, Ne.symm h]
theorem appF_app {f f' : Nat → List AV} {l m : List α} (hf : ∀ k, k < l.length → f k = e (l.getD k d)) (hf' : ∀ k, k < m.length → f' k = e (m.getD k d)) : ∀ k, k < (l ++ m).length → appF l.length f f' k = e ((l ++ m).getD k d) := by
  intro k hk
  rw [List.length_append] at hk
  rw [← app_get (e := e) (d := d) l m k hk]
  by_cases h : k < l.length
  · rw [appF_lt _ _ h, appF_lt _ _ h, hf k h]
  · rw [appF_ge _ _ (by omega), appF_ge _ _ (by omega), hf' _ (by omega)]
theorem make_le {z : List AV} (h : AVleL z (e d)) (n : Nat) : ∀ k, k < (List.replicate n d).length → AVleL z (e ((List.replicate n d).getD k d)) := fun k hk => by
  have : (List.replicate n d).getD k d = d := by simp at hk; simp [List.getD, hk]
  rw [this]; exact h
theorem leL_of_eq {f g : Nat → List AV} {n m : Nat} (hn : n = m) (h : ∀ k, k < m → f k = g k) : ∀ k, k < n → AVleL (f k) (g k) := fun k hk => by rw [h k (by omega)]; exact .refl _
end
section
variable {α : Type} {e : α → List AV} {d : α}
theorem lit_nil {n : Nat} (h : n = 0) {l : List (List AV)} {as : List α} : ∀ i, i < n → AVleL (l.getD i []) (e (as.getD i d)) := fun i hi => by omega
theorem lit_cons {n : Nat} {x : List AV} {l : List (List AV)} {a : α} {as : List α} (h : AVleL x (e a)) (t : ∀ i, i < n → AVleL (l.getD i []) (e (as.getD i d))) : ∀ i, i < n + 1 → AVleL ((x :: l).getD i []) (e ((a :: as).getD i d)) := fun i hi => by
  cases i with
  | zero => simpa using h
  | succ i => simpa using t i (by omega)
/-- A literal whose elements are told as more. -/
theorem av_litL {sz n : Nat} {f : Nat → List AV} {xs : List α} (hn : n = xs.length) (h : ∀ i, i < n → AVleL (f i) (e (xs.getD i d))) (hs : ∀ a, AV.stripAll (e a) = e a) : AVle (.slice sz n f .exact) (AV.list sz e d xs .exact) := by
  intro I own θ w v hv
  obtain ⟨ad, rfl⟩ := hv.exact_inv
  have hV := hv.slice_val
  obtain ⟨_, ad', cap, us, he, hcap, hmax, hz, hnn, h1, hl, hr⟩ := hV.slice_inv
  simp only [Value.slice.injEq, true_and] at he
  obtain ⟨rfl, rfl⟩ := he
  unfold AV.list
  subst hn
  refine .exact _ _ sz _ (.slice _ _ _ sz _ us hcap hmax hz hnn h1 (fun i hi => ?_) (fun i c hi hc => ?_))
  · rw [← (h i hi).length]; exact hl i hi
  · have := (h i hi).get c I (fun _ => none) (fun _ => none) w _ (.val _ _ (hr i c hi hc))
    have := this.strip
    rw [← stripAll_getD, hs] at this
    exact this
end
noncomputable instance (n : Nat) (f : Nat → List AV) : Decidable (ByteF n f) := Classical.propDecidable _
/-- Of numbers that are there. -/
theorem nl {a b : Nat} (h : Nat.ble a b = true) : a ≤ b := Nat.le_of_ble_eq_true h
theorem gT {c : Bool} (h : c = true) : (c == true) = true := by rw [h]; rfl
theorem gF {c : Bool} (h : c = false) : (c == false) = true := by rw [h]; rfl
theorem aT {g c : Bool} (hg : g = true) (h : c = true) : (g && (c == true)) = true := by rw [hg, h]; rfl
theorem aF {g c : Bool} (hg : g = true) (h : c = false) : (g && (c == false)) = true := by rw [hg, h]; rfl
theorem inB_lt0 {α : Type} {i : Int} {l : List α} (h : InB i l.length) : i.toNat < l.length := by unfold InB at h; omega
theorem inB_lt1 {α : Type} {i : Int} {l : List α} {a : Nat} {x : α} (h : InB i l.length) : i.toNat < (l.set a x).length := by rw [List.length_set]; exact inB_lt0 h
theorem inB_lt2 {α : Type} {i : Int} {l : List α} {a b : Nat} {x y : α} (h : InB i l.length) : i.toNat < ((l.set a x).set b y).length := by rw [List.length_set]; exact inB_lt1 h
theorem inB_lt3 {α : Type} {i : Int} {l : List α} {a b c : Nat} {x y z : α} (h : InB i l.length) : i.toNat < (((l.set a x).set b y).set c z).length := by rw [List.length_set]; exact inB_lt2 h
theorem toNat_le2 {h : Int} {n : Nat} (q : 0 ≤ h ∧ h ≤ (n : Int)) : h.toNat ≤ n := by omega
theorem toNat_le3 {l h : Int} {n : Nat} (q : 0 ≤ l ∧ l ≤ h ∧ h ≤ (n : Int)) : h.toNat ≤ n := by omega
theorem repl_lt {α : Type} {d : α} {n k : Nat} (h : k < n) : k < (List.replicate n d).length := by rw [List.length_replicate]; exact h
/-- A list of N elements, one of them anew. -/
def setN {α : Type} (N : Nat) (d : α) (l : List α) (i : Nat) (x : α) : List α := (List.range N).map fun j => bif Nat.beq j i then x else l.getD j d
theorem setN_getD {α : Type} {N : Nat} {d : α} {l : List α} {i : Nat} {x : α} {k : Nat} (hk : k < N) : (setN N d l i x).getD k d = bif Nat.beq k i then x else l.getD k d := by
  unfold setN
  rw [List.getD, List.getElem?_map, List.getElem?_range hk]
  rfl
theorem setN_length {α : Type} {N : Nat} {d : α} {l : List α} {i : Nat} {x : α} : (setN N d l i x).length = N := by simp [setN]
theorem putF_setN {α : Type} {e : α → List AV} {d : α} {f : Nat → List AV} {l : List α} {N i j : Nat} {cs : List AV} {x : α} (hf : ∀ k, k < N → f k = e (l.getD k d)) (hi : i < N) (hx : (e (l.getD i d)).take j ++ cs ++ (e (l.getD i d)).drop (j + cs.length) = e x) :
    ∀ k, k < N → putF f i j cs k = e ((setN N d l i x).getD k d) := by
  intro k hk
  rw [setN_getD hk]
  unfold putF
  cases hb : Nat.beq k i with
  | true =>
    obtain rfl := Nat.eq_of_beq_eq_true hb
    rw [cond_true, cond_true, hf k hk]
    exact hx
  | false => rw [cond_false, cond_false, hf k hk]
theorem inB_lit {i : Int} {N : Nat} (h : InB i N) : i.toNat < N := by unfold InB at h; omega
theorem flat_rep {α : Type} (z : List α) (sz : Nat) (hz : z.length = sz) : ∀ (N k : Nat), k < N → (((List.replicate N z).flatten).drop (k * sz)).take sz = z
  | 0, k, h => by omega
  | N + 1, 0, h => by
    rw [List.replicate_succ, List.flatten_cons, Nat.zero_mul, List.drop_zero, List.take_append_of_le_length (by omega), List.take_of_length_le (by omega)]
  | N + 1, k + 1, h => by
    rw [List.replicate_succ, List.flatten_cons, show (k + 1) * sz = z.length + k * sz by rw [Nat.add_mul, hz]; omega, List.drop_append, List.drop_eq_nil_of_le (by omega), List.nil_append, Nat.add_sub_cancel_left]
    exact flat_rep z sz hz N k (by omega)
theorem arr_zero {α : Type} {e : α → List AV} {d : α} {z : List AV} {N sz : Nat} (hz : z.length = sz) (h : z = e d) : ∀ k, k < N → AVleL ((((List.replicate N z).flatten).drop (k * sz)).take sz) (e ((List.replicate N d).getD k d)) := fun k hk => by
  have : (List.replicate N d).getD k d = d := by simp [List.getD, hk]
  rw [flat_rep z sz hz N k hk, this, h]
  exact .refl _
end Go.Proofs.Ytcpopeamoipjlaa
