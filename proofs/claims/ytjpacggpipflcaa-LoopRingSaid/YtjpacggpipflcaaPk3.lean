/-
  The machine, the program's functions and the laws' arithmetic: part 3 of 6.
-/
import Derived.Test.YtjpacggpipflcaaPk2
set_option linter.unusedVariables false
set_option linter.unusedSimpArgs false
namespace Go.Proofs.Ytjpacggpipflcaa
noncomputable section
open Go Go.RowKit
set_option linter.unusedVariables false
section
variable {P : Program} {Γ : Ic}
def Mz (nm : Nat) (k : Nat) : Bool := !Nat.beq k nm
mutual
def AV.frz (nm sz n : Nat) (g : Nat → List AV) : AV → AV
  | .slice s m f (.own k) => .slice s m f (bif Nat.beq k nm then .none else .own k)
  | .ptr k off => bif Nat.beq k nm then .any else .ptr k off
  | .vsl k j => bif Nat.beq k nm then .slice sz n g (.own nm) else .vsl k j
  | .vpt k j i c => bif Nat.beq k nm then .any else .vpt k j i c
  | .vsub k j l h => bif Nat.beq k nm then .any else .vsub k j l h
  | .optr k m => bif Nat.beq k nm then .any else .optr k m
  | .omap k => bif Nat.beq k nm then .any else .omap k
  | .clo f xs ys => .clo f (AV.frzAll nm sz n g xs) (AV.frzAll nm sz n g ys)
  | .agg cs => .agg (AV.frzAll nm sz n g cs)
  | .tuple cs => .tuple (AV.frzAll nm sz n g cs)
  | .cond c x => .cond c (x.frz nm sz n g)
  | x => x
def AV.frzAll (nm sz n : Nat) (g : Nat → List AV) : List AV → List AV
  | [] => []
  | x :: l => x.frz nm sz n g :: AV.frzAll nm sz n g l
end
mutual
def AV.wholes (nm n : Nat) : AV → List Prop
  | .vsl k j => bif Nat.beq k nm then [j = n] else []
  | .agg cs => AV.wholesAll nm n cs
  | .tuple cs => AV.wholesAll nm n cs
  | .cond _ x => x.wholes nm n
  | .clo _ xs ys => AV.wholesAll nm n xs ++ AV.wholesAll nm n ys
  | _ => []
def AV.wholesAll (nm n : Nat) : List AV → List Prop
  | [] => []
  | x :: l => x.wholes nm n ++ AV.wholesAll nm n l
end
mutual
def AV.frw (nm sz n : Nat) (g : Nat → List AV) : AV → AV
  | .slice s m f (.own k) => .slice s m f (bif Mz nm k then .own k else .none)
  | .slice s m f (.fam b i) => .slice s m f (bif Mz nm b then .fam b i else .none)
  | .ptr k off => bif Mz nm k then .ptr k off else .any
  | .vsl k j => bif Mz nm k then .vsl k j else bif Nat.beq j n then .slice sz n g .none else .any
  | .vpt k j i c => bif Mz nm k then .vpt k j i c else .any
  | .vsub k j l h => bif Mz nm k then .vsub k j l h else .any
  | .optr k m => bif Mz nm k then .optr k m else .any
  | .omap k => bif Mz nm k then .omap k else .any
  | .clo f xs ys => .clo f (AV.frwAll nm sz n g xs) (AV.frwAll nm sz n g ys)
  | .agg cs => .agg (AV.frwAll nm sz n g cs)
  | .tuple cs => .tuple (AV.frwAll nm sz n g cs)
  | .cond c x => .cond c (x.frw nm sz n g)
  | x => x
def AV.frwAll (nm sz n : Nat) (g : Nat → List AV) : List AV → List AV
  | [] => []
  | x :: l => x.frw nm sz n g :: AV.frwAll nm sz n g l
end
theorem Db (nm sz n : Nat) (g : Nat → List AV) (l : List AV) : (AV.frwAll nm sz n g l).length = l.length := by induction l with | nil => rfl | cons x l ih => simp [AV.frwAll, ih]
theorem Iq (nm sz n : Nat) (g : Nat → List AV) (l : List AV) (j : Nat) : (AV.frwAll nm sz n g l).getD j .any = (l.getD j .any).frw nm sz n g := by
  induction l generalizing j with
  | nil => simp [AV.frwAll, AV.frw]
  | cons x l ih => cases j with
    | zero => simp [AV.frwAll]
    | succ j => simpa [AV.frwAll] using ih j
theorem RepV.frw {I : Nat → Nat → Prop} {w : World} {v : Value} {x : AV} (h : RepV I w v x) (nm sz n : Nat) (g : Nat → List AV) : RepV I w v (x.frw nm sz n g) := by
  induction h with
  | any v => exact .any v
  | undef => exact .undef
  | int k n => exact .int k n
  | bool b => exact .bool b
  | str s => exact .str s
  | clo f => exact .clo f
  | nxt1 i r => exact .nxt1 i r
  | nxt0 i r => exact .nxt0 i r
  | nilq b pos n h => exact .nilq b pos n h
  | err0 => exact .err0
  | err1 t v => exact .err1 t v
  | nilp => exact .nilp
  | nilm => exact .nilm
  | cond v c x _ h' ih => exact .cond v c _ ih h'
  | rptr a cells us hs hI' hc h1 hr _ => exact .rptr a cells us hs hI' hc h1 hr
  | slice a n cap sz f us hcap hmax hz hn h1 hl hr _ => exact .slice a n cap sz f us hcap hmax hz hn h1 hl hr
  | agg vs cs hl h1 _ ih => exact .agg vs _ (by rw [Db, hl]) (fun j hj => h1 j (by rwa [Db] at hj)) (fun j hj => by rw [Iq]; exact ih j (by rwa [Db] at hj))
  | tuple vs cs hl _ ih => exact .tuple vs _ (by rw [Db, hl]) (fun j hj => by rw [Iq]; exact ih j (by rwa [Db] at hj))
def Own.frz (nm sz n : Nat) (g : Nat → List AV) : Own → Own
  | .row e cells => .row e (AV.frzAll nm sz n g cells)
  | .arr s e m f => .arr s e m (fun i => AV.frwAll nm sz n g (f i))
  | .obj x => .obj (x.on (AV.frw nm sz n g))
  | .tok s e m => .tok s e m
def Own.wholes (nm n : Nat) : Own → List Prop
  | .row _ cells => AV.wholesAll nm n cells
  | _ => []
def St.wholes (st : St) (nm n : Nat) : List Prop := (st.tmps.map fun x => x.2.wholes nm n).flatten ++ (st.own.map fun x => x.2.wholes nm n).flatten
def St.freeze (st : St) (nm sz n : Nat) (e : TypeId) (g : Nat → List AV) : St :=
  ⟨st.tmps.map fun x => (x.1, x.2.frz nm sz n g), st.own.map fun x => (x.1, bif Nat.beq x.1 nm then .tok sz e n else x.2.frz nm sz n g), st.fam⟩
theorem Cs (nm sz n : Nat) (g : Nat → List AV) (l : List AV) : (AV.frzAll nm sz n g l).length = l.length := by induction l with | nil => rfl | cons x l ih => simp [AV.frzAll, ih]
theorem Ir (nm sz n : Nat) (g : Nat → List AV) (l : List AV) (j : Nat) : (AV.frzAll nm sz n g l).getD j .any = (l.getD j .any).frz nm sz n g := by
  induction l generalizing j with
  | nil => simp [AV.frzAll, AV.frz]
  | cons x l ih => cases j with
    | zero => simp [AV.frzAll]
    | succ j => simpa [AV.frzAll] using ih j
theorem Hq {nm n : Nat} {l : List AV} (h : ∀ p ∈ AV.wholesAll nm n l, p) (j : Nat) : ∀ p ∈ (l.getD j .any).wholes nm n, p := by
  induction l generalizing j with
  | nil => intro p hp; simp [AV.wholes] at hp
  | cons x l ih =>
    simp only [AV.wholesAll] at h
    cases j with
    | zero => intro p hp; exact h p (List.mem_append.2 (.inl (by simpa using hp)))
    | succ j => intro p hp; exact ih (fun q hq => h q (List.mem_append.2 (.inr hq))) j p (by simpa using hp)
theorem RepV.frz {I : Nat → Nat → Prop} {w : World} {v : Value} {x : AV} (h : RepV I w v x) (nm sz n : Nat) (g : Nat → List AV) : RepV I w v (x.frz nm sz n g) := by
  induction h with
  | any v => exact .any v
  | undef => exact .undef
  | int k n => exact .int k n
  | bool b => exact .bool b
  | str s => exact .str s
  | clo f => exact .clo f
  | nxt1 i r => exact .nxt1 i r
  | nxt0 i r => exact .nxt0 i r
  | nilq b pos n h => exact .nilq b pos n h
  | err0 => exact .err0
  | err1 t v => exact .err1 t v
  | nilp => exact .nilp
  | nilm => exact .nilm
  | cond v c x _ h' ih => exact .cond v c _ ih h'
  | rptr a cells us hs hI' hc h1 hr _ => exact .rptr a cells us hs hI' hc h1 hr
  | slice a n cap sz f us hcap hmax hz hn h1 hl hr _ => exact .slice a n cap sz f us hcap hmax hz hn h1 hl hr
  | agg vs cs hl h1 _ ih => exact .agg vs _ (by rw [Cs, hl]) (fun j hj => h1 j (by rwa [Cs] at hj)) (fun j hj => by rw [Ir]; exact ih j (by rwa [Cs] at hj))
  | tuple vs cs hl _ ih => exact .tuple vs _ (by rw [Cs, hl]) (fun j hj => by rw [Ir]; exact ih j (by rwa [Cs] at hj))
theorem Rep.frz {I I' : Nat → Nat → Prop} {own own' : Nat → Option Own} {θ : Nat → Option (Nat × Nat)} {w : World} {v : Value} {x : AV} {nm sz n : Nat} {g : Nat → List AV} (h : Rep I own θ w v x) (hp : ∀ p ∈ x.wholes nm n, p) (hI : ∀ b o, I b o → I' b o)
    (ho : ∀ k o, own k = some o → Nat.beq k nm = false → own' k = some (o.frz nm sz n g)) (hk : ∀ v, Rep I own θ w v (.vsl nm n) → Rep I' own' θ w v (.slice sz n g (.own nm))) (hlt' : ∀ b i, Nat.beq (Hg b i) nm = false) : Rep I' own' θ w v (x.frz nm sz n g) := by
  induction h with
  | val v x h => exact .val _ _ ((h.frz nm sz n g).mono hI (fun _ _ _ => rfl))
  | exact a n sz f h => exact .exact a n sz f (h.mono hI (fun _ _ _ => rfl))
  | own k sz e m a n cap f hn hm hv h =>
    simp only [AV.frz]
    cases hb : Nat.beq k nm with
    | true => exact .val _ _ (h.mono hI (fun _ _ _ => rfl))
    | false => exact .own k sz e m a n cap f (ho k _ hn hb) hm hv (h.mono hI (fun _ _ _ => rfl))
  | fam b i sz e m a n cap f hi hn hm hv h =>
    exact .fam b i sz e m a n cap f hi (ho _ _ hn (hlt' b i)) hm hv (h.mono hI (fun _ _ _ => rfl))
  | ptr k off e0 cells g c hn hg =>
    simp only [AV.frz]
    cases hb : Nat.beq k nm with
    | true => exact .val _ _ (.any _)
    | false => exact .ptr k off e0 _ g c (ho k _ hn hb) hg
  | vsl k s2 e m f a j cap hn hm hcap hmax hnn hv =>
    simp only [AV.frz]
    cases hb : Nat.beq k nm with
    | true =>
      obtain rfl := Nat.eq_of_beq_eq_true hb; obtain rfl : j = n := hp _ (by simp [AV.wholes]); exact hk _ (.vsl k s2 e m f a j cap hn hm hcap hmax hnn hv)
    | false => exact .vsl k s2 e m _ a j cap (ho k _ hn hb) hm hcap hmax hnn hv
  | vpt k s2 e m f j i c ad hn hm hi hv =>
    simp only [AV.frz]
    cases hb : Nat.beq k nm with
    | true => exact .val _ _ (.any _)
    | false => exact .vpt k s2 e m _ j i c ad (ho k _ hn hb) hm hi hv
  | clo f fs cs xs ys hl hl' _ _ ih ih' =>
    simp only [AV.wholes, List.mem_append] at hp; exact .clo f fs cs _ _ (by rw [Cs, hl]) (by rw [Cs, hl']) (fun j hj => by rw [Ir]; exact ih j (by rwa [Cs] at hj) (Hq (fun p h => hp p (.inl h)) j)) (fun j hj => by rw [Ir]; exact ih' j (by rwa [Cs] at hj) (Hq (fun p h => hp p (.inr h)) j))
  | vsub k s2 e m f j lo hi a cap hn hm hlo hhi hcap hmax hnn hv =>
    simp only [AV.frz]
    cases hb : Nat.beq k nm with
    | true => exact .val _ _ (.any _)
    | false => exact .vsub k s2 e m _ j lo hi a cap (ho k _ hn hb) hm hlo hhi hcap hmax hnn hv
  | optr k mm x g c hn hg =>
    simp only [AV.frz]
    cases hb : Nat.beq k nm with
    | true => exact .val _ _ (.any _)
    | false => exact .optr k _ _ g c (ho k _ hn hb) hg
  | omap k x hn =>
    simp only [AV.frz]
    cases hb : Nat.beq k nm with
    | true => exact .val _ _ (.any _)
    | false => exact .omap k _ (ho k _ hn hb)
  | cond v c x _ h' ih => exact .cond v c _ (fun hc => ih hc (by simpa [AV.wholes] using hp)) h'
  | agg vs cs hl h1 _ ih => exact .agg vs _ (by rw [Cs, hl]) (fun j hj => h1 j (by rwa [Cs] at hj)) (fun j hj => by rw [Ir]; exact ih j (by rwa [Cs] at hj) (Hq (by simpa [AV.wholes] using hp) j))
  | tuple vs cs hl _ ih => exact .tuple vs _ (by rw [Cs, hl]) (fun j hj => by rw [Ir]; exact ih j (by rwa [Cs] at hj) (Hq (by simpa [AV.wholes] using hp) j))
theorem Uh {α β : Type} (l : List (Nat × α)) (g : Nat → α → β) (k : Nat) : Ah (l.map fun x => (x.1, g x.1 x.2)) k = (Ah l k).map (g k) := by
  induction l with
  | nil => rfl
  | cons x l ih =>
    obtain ⟨a, b⟩ := x; simp only [List.map_cons, Ah]
    cases hb : Nat.beq a k with
    | true => have := Nat.eq_of_beq_eq_true hb; subst this; simp
    | false => simpa using ih
theorem memW {α β : Type} {l : List (Nat × α)} {g : α → List β} {k : Nat} {x : α} (h : Ah l k = some x) {p : β} (hp : p ∈ g x) : p ∈ (l.map fun y => g y.2).flatten :=
  List.mem_flatten.2 ⟨g x, List.mem_map.2 ⟨(k, x), Fp h, rfl⟩, hp⟩
theorem Gi {st : St} {nm sz n : Nat} {e : TypeId} {f g : Nat → List AV} (ho : Ah st.own nm = some (.arr sz e n f)) (hwh : Uo (st.wholes nm n)) (hf : ∀ i, i < n → AV.stripAll (f i) = g i) (h0 : Γ.own0 nm = none) (hlt : Nat.blt nm Bq = true := by rfl) :
    Le Γ st (st.freeze nm sz n e g) := by
  intro I θ a w h; have hall := Ut hwh
  have hlt : nm < Bq := by simpa [Nat.blt_eq] using hlt
  have ho : st.sto.own nm = some (.arr sz e n f) := (Ba hlt).trans ho
  have hown' : (st.freeze nm sz n e g).sto.own = fun k => (st.sto.own k).map fun o => bif Nat.beq k nm then Own.tok sz e n else o.frz nm sz n g := by
    funext k
    by_cases hk : k < Bq
    · show Cm _ _ k = (Cm _ _ k).map _
      rw [Ba hk, Ba hk]; exact Uh st.own (fun k o => bif Nat.beq k nm then Own.tok sz e n else o.frz nm sz n g) k
    · have hb : Nat.beq k nm = false := by cases hb : Nat.beq k nm with | false => rfl | true => exact absurd (Nat.eq_of_beq_eq_true hb) (by rintro rfl; exact hk hlt)
      show Cm _ _ k = (Cm _ _ k).map _
      rw [Ci hk, Ci hk, hb]
      show (Ah st.fam (k / Bq - 1)).bind _ = _
      cases Ah st.fam (k / Bq - 1) with
      | none => rfl
      | some F => simp only [Option.bind_some, Option.map_map]; cases F.m (k % Bq) <;> rfl
  have hnm : (st.freeze nm sz n e g).sto.own nm = some (.tok sz e n) := by rw [hown']; simp [ho]
  have hne : ∀ k, k ≠ nm → (st.freeze nm sz n e g).sto.own k = (st.sto.own k).map (Own.frz nm sz n g) := fun k hk => by
    have : Nat.beq k nm = false := by cases hb : Nat.beq k nm with | false => rfl | true => exact absurd (Nat.eq_of_beq_eq_true hb) hk
    rw [hown']; simp [this]
  have hkeep : ∀ k o, st.sto.own k = some o → Nat.beq k nm = false → (st.freeze nm sz n e g).sto.own k = some (o.frz nm sz n g) := fun k o hk hb => by
    have : k ≠ nm := by rintro rfl; simp at hb
    rw [hne k this]; rw [hk]; rfl
  have hback : ∀ k, k ≠ nm → ∀ o', (st.freeze nm sz n e g).sto.own k = some o' → ∃ o, st.sto.own k = some o ∧ o' = o.frz nm sz n g := fun k hk o' ho' => by
    rw [hne k hk] at ho'; obtain ⟨o, h1, h2⟩ := Option.map_eq_some_iff.1 ho'; exact ⟨o, h1, h2.symm⟩
  have hnone : ∀ k, (st.freeze nm sz n e g).sto.own k ≠ none → st.sto.own k ≠ none := fun k hk => by
    by_cases hkn : k = nm
    · subst hkn; simp [ho]
    · cases hx : (st.freeze nm sz n e g).sto.own k with
      | none => exact (hk hx).elim
      | some o' => obtain ⟨o, h1, _⟩ := hback k hkn o' hx; simp [h1]
  have hrel := h.chg.rel; obtain ⟨q0, q1⟩ := hrel.arr nm sz e n f ho
  let I' : Nat → Nat → Prop := fun b o => I b o ∨ ((∃ c, θ nm = some (b, c)) ∧ o < n * sz)
  have hII : ∀ b o, I b o → I' b o := fun _ _ h => .inl h
  have hkey : ∀ v, Rep I st.sto.own θ w v (.vsl nm n) → Rep I' (st.freeze nm sz n e g).sto.own θ w v (.slice sz n g (.own nm)) := fun v hs => by
    obtain ⟨sz', e', m, f2, ad, cap, hval, ho', hmm, hcap, hmax, hnn, hvv⟩ := hs.vsl_inv; have ho'' : st.sto.own nm = some (.arr sz' e' m f2) := ho'; rw [ho] at ho''; simp only [Option.some.injEq, Own.arr.injEq] at ho''; obtain ⟨rfl, rfl, rfl, rfl⟩ := ho''; have hvv := hvv rfl; rw [hval]; refine .own nm sz e n ad n cap g hnm (Nat.le_refl _) (fun _ => hvv) ?_
    cases hθ : θ nm with
    | none =>
      have hn0 := q0 hθ; subst hn0; exact .slice ad 0 cap sz g (fun _ => undef) hcap hmax (fun h => by omega) hnn (fun j hj => by omega) (fun i hi => by omega) (fun i c hi => by omega)
    | some gc =>
      obtain ⟨b, c⟩ := gc; rw [hθ] at hvv; simp only at hvv; obtain ⟨rfl, rfl⟩ := hvv; obtain ⟨cur, r1, r2, r3, r4, r5, r6, r7⟩ := q1 b cap hθ
      have hcell : ∀ j, j < n * sz → w.cell? ⟨b, j, none⟩ = some (cur.getD j undef) := fun j hj => by
        have : n * sz ≤ cap * sz := Nat.mul_le_mul_right _ r2; rw [cell_of_row w b j cur e (0, 0) r1]; exact Fj (by omega)
      refine .slice _ n cap sz g (fun j => cur.getD j undef) hcap hmax (fun _ => ⟨⟨b, 0, none⟩, rfl, rfl, fun j hj => .inr ⟨⟨cap, hθ⟩, by simpa using hj⟩, fun j hj => by simpa using hcell j hj⟩) (by simp) (fun j hj => ?_) (fun i hi => ?_) (fun i k hi hk => ?_)
      · have hs : 0 < sz := by
          rcases Nat.eq_zero_or_pos sz with h0 | h0
          · rw [h0] at hj; omega
          · exact h0
        have e2 : j / sz * sz + j % sz = j := by rw [Nat.mul_comm]; exact Nat.div_add_mod j sz
        have := (r6 (j / sz) (j % sz) (by rw [Nat.div_lt_iff_lt_mul hs]; exact hj) (Nat.mod_lt _ hs)).1; rwa [e2] at this
      · rw [← hf i hi, Bt]; exact r5 i hi
      · rw [← hf i hi, D0]; exact ((r6 i k hi hk).2.strip).mono hII (fun _ _ _ => rfl)
  have hlt' : ∀ b i, Nat.beq (Hg b i) nm = false := fun b i => by cases hb : Nat.beq (Hg b i) nm with | false => rfl | true => exact absurd (Nat.eq_of_beq_eq_true hb) (by rintro rfl; exact F1 b i hlt)
  have hcast : ∀ v x, Rep I st.sto.own θ w v x → (∀ p ∈ x.wholes nm n, p) → Rep I' (st.freeze nm sz n e g).sto.own θ w v (x.frz nm sz n g) := fun v x hx hp => hx.frz hp hII hkeep hkey hlt'
  have hfar : ∀ k b c, k ≠ nm → st.sto.own k ≠ none → θ k = some (b, c) → ∀ j, I' b j → I b j := fun k b c hk hk' hg j hj => by
    rcases hj with hj | ⟨⟨c', hc'⟩, _⟩
    · exact hj
    · exact (hk (hrel.inj k nm b c c' hk' (by simp [ho]) hg hc')).elim
  have hcast2 : ∀ v x, Rep I st.sto.own θ w v x → Rep I' (st.freeze nm sz n e g).sto.own θ w v (x.frw nm sz n g) := fun v x hx => by
    have key : ∀ {v : Value} {x : AV}, Rep I st.sto.own θ w v x → Rep I' (st.freeze nm sz n e g).sto.own θ w v (x.frw nm sz n g) := by
      intro v x h
      induction h with
      | val v x h => exact .val _ _ ((h.frw nm sz n g).mono hII (fun _ _ _ => rfl))
      | exact a n sz f h => exact .exact a n sz f (h.mono hII (fun _ _ _ => rfl))
      | own k sz e m a n cap f hn hm hv h =>
        simp only [AV.frw, Mz]
        cases hb : Nat.beq k nm with
        | true => exact .val _ _ (h.mono hII (fun _ _ _ => rfl))
        | false => exact .own k sz e m a n cap f (hkeep k _ hn hb) hm hv (h.mono hII (fun _ _ _ => rfl))
      | fam b i sz e m a n cap f hi hn hm hv h =>
        simp only [AV.frw, Mz]
        cases hb : Nat.beq b nm with
        | true => exact .val _ _ (h.mono hII (fun _ _ _ => rfl))
        | false => exact .fam b i sz e m a n cap f hi (hkeep _ _ hn (hlt' b i)) hm hv (h.mono hII (fun _ _ _ => rfl))
      | ptr k off e0 cells g c hn hg =>
        simp only [AV.frw, Mz]
        cases hb : Nat.beq k nm with
        | true => exact .val _ _ (.any _)
        | false => exact .ptr k off e0 _ g c (hkeep k _ hn hb) hg
      | vsl k s2 e m f a j cap hn hm hcap hmax hnn hv =>
        simp only [AV.frw, Mz]
        cases hb : Nat.beq k nm with
        | true =>
          simp only [Bool.not_true, cond_false]
          cases hj : Nat.beq j n with
          | false => exact .val _ _ (.any _)
          | true =>
            obtain rfl := Nat.eq_of_beq_eq_true hb; obtain rfl := Nat.eq_of_beq_eq_true hj; exact .val _ _ (hkey _ (.vsl k s2 e m f a j cap hn hm hcap hmax hnn hv)).slice_val
        | false => exact .vsl k s2 e m _ a j cap (hkeep k _ hn hb) hm hcap hmax hnn hv
      | vpt k s2 e m f j i c ad hn hm hi hv =>
        simp only [AV.frw, Mz]
        cases hb : Nat.beq k nm with
        | true => exact .val _ _ (.any _)
        | false => exact .vpt k s2 e m _ j i c ad (hkeep k _ hn hb) hm hi hv
      | clo f fs cs xs ys hl hl' _ _ ih ih' => exact .clo f fs cs _ _ (by rw [Db, hl]) (by rw [Db, hl']) (fun j hj => by rw [Iq]; exact ih j (by rwa [Db] at hj)) (fun j hj => by rw [Iq]; exact ih' j (by rwa [Db] at hj))
      | vsub k s2 e m f j lo hi a cap hn hm hlo hhi hcap hmax hnn hv =>
        simp only [AV.frw, Mz]
        cases hb : Nat.beq k nm with
        | true => exact .val _ _ (.any _)
        | false => exact .vsub k s2 e m _ j lo hi a cap (hkeep k _ hn hb) hm hlo hhi hcap hmax hnn hv
      | optr k mm x g c hn hg =>
        simp only [AV.frw, Mz]
        cases hb : Nat.beq k nm with
        | true => exact .val _ _ (.any _)
        | false => exact .optr k _ _ g c (hkeep k _ hn hb) hg
      | omap k x hn =>
        simp only [AV.frw, Mz]
        cases hb : Nat.beq k nm with
        | true => exact .val _ _ (.any _)
        | false => exact .omap k _ (hkeep k _ hn hb)
      | cond v c x _ h' ih => exact .cond v c _ ih h'
      | agg vs cs hl h1 _ ih => exact .agg vs _ (by rw [Db, hl]) (fun j hj => h1 j (by rwa [Db] at hj)) (fun j hj => by rw [Iq]; exact ih j (by rwa [Db] at hj))
      | tuple vs cs hl _ ih => exact .tuple vs _ (by rw [Db, hl]) (fun j hj => by rw [Iq]; exact ih j (by rwa [Db] at hj))
    exact key hx
  refine ⟨I', θ, h.size, h.defers, fun t => ?_, ?_⟩
  · have hslot : (st.freeze nm sz n e g).sto.tmp t = match Ah st.tmps t with | some x => x.frz nm sz n g | none => .any := by
      show (match Ah (st.tmps.map fun x => (x.1, x.2.frz nm sz n g)) t with | some x => x | none => .any) = _
      rw [Uh st.tmps (fun _ x => x.frz nm sz n g) t]
      cases Ah st.tmps t <;> rfl
    rw [hslot]; have hs := h.slots t
    have hget : st.sto.tmp t = match Ah st.tmps t with | some x => x | none => .any := rfl
    cases hl : Ah st.tmps t with
    | none => exact .val _ _ (.any _)
    | some x =>
      rw [hget, hl] at hs; exact hcast _ _ hs (fun p hp => hall p (List.mem_append.2 (.inl (memW (g := fun x => x.wholes nm n) hl hp))))
  · refine { h.chg with imm := fun b o hi => .inl (h.chg.imm b o hi), le := fun k o hk => ?_, rel := ⟨fun k e0 cells hk => ?_, fun k s2 e2 m hk b c hg => ?_, fun k k' b c c' hk hk' => ?_, fun k s2 e2 m f2 hk => ?_, fun k x hk => ?_, fun k s2 m hk hnn => ?_⟩, valid := fun b o hi => ?_, new := fun k b c hk hg => ?_, immNew := fun b o hi => ?_ }
    · obtain ⟨o', ho', hl⟩ := h.chg.le k o hk
      have hkn : k ≠ nm := by rintro rfl; rw [h0] at hk; cases hk
      have hkb : Nat.beq k nm = false := by cases hb : Nat.beq k nm with | false => rfl | true => exact absurd (Nat.eq_of_beq_eq_true hb) hkn
      refine ⟨_, hkeep k o' ho' hkb, ?_⟩
      cases o <;> cases o' <;> first | exact hl | exact hl.elim
    rotate_left 4
    · have hkn : k ≠ nm := by rintro rfl; rw [hnm] at hk; cases hk
      obtain ⟨o, h1, h2⟩ := hback k hkn _ hk
      cases o with
      | row => simp [Own.frz] at h2
      | tok => simp [Own.frz] at h2
      | arr => simp [Own.frz] at h2
      | obj x' =>
        simp only [Own.frz, Own.obj.injEq] at h2; subst h2; exact Gb (hrel.obj k _ h1) rfl (fun _ _ _ => rfl) (fun b c j hg hj => hfar k b c hkn (by simp [h1]) hg j hj) (fun _ hh => hh.on _ hII (fun _ _ _ => rfl) fun v y hv => hcast2 _ _ hv) R9
    · by_cases hkn : k = nm
      · subst hkn; rw [hnm] at hk; simp only [Option.some.injEq, Own.tok.injEq] at hk; obtain ⟨rfl, _, rfl⟩ := hk; exact q0 hnn
      · obtain ⟨o, h1, h2⟩ := hback k hkn _ hk
        cases o with
        | row => simp [Own.frz] at h2
        | arr => simp [Own.frz] at h2
        | obj => simp [Own.frz] at h2
        | tok =>
          simp only [Own.frz, Own.tok.injEq] at h2; obtain ⟨rfl, rfl, rfl⟩ := h2; exact hrel.tok8 k _ _ h1 hnn
    rotate_left 3
    · have hkn : k ≠ nm := by rintro rfl; rw [hnm] at hk; cases hk
      obtain ⟨o, h1, h2⟩ := hback k hkn _ hk
      cases o with
      | tok => simp [Own.frz] at h2
      | arr => simp [Own.frz] at h2
      | obj => simp [Own.frz] at h2
      | row e' cs =>
        simp only [Own.frz, Own.row.injEq] at h2; obtain ⟨rfl, rfl⟩ := h2; obtain ⟨b, c, vs, r1, r2, r3, r4, r5, r6⟩ := hrel.row k _ cs h1; refine ⟨b, c, vs, r1, r2, by rw [Cs]; exact r3, fun j hj => r4 j (by rwa [Cs] at hj), fun j hj => ?_, fun j hj => r6 j (hfar k b c hkn (by simp [h1]) r1 j hj)⟩; rw [Ir]; refine hcast _ _ (r5 j (by rwa [Cs] at hj)) (Hq (fun p hp => hall p (List.mem_append.2 (.inr (memW (g := fun x => x.wholes nm n) (X0 h1 (fun _ _ _ h => by cases h)) (by simpa [Own.wholes] using hp))))) j)
    · by_cases hkn : k = nm
      · subst hkn; rw [hnm] at hk; simp only [Option.some.injEq, Own.tok.injEq] at hk; obtain ⟨rfl, rfl, rfl⟩ := hk; obtain ⟨cur, r1, r2, r3, r4, r5, r6, r7⟩ := q1 b c hg; refine ⟨cur, 0, r1, r2, r3, r4, Nat.zero_le _, fun j hj => ?_⟩; rcases hj with hj | ⟨_, hj⟩
        · exact (r7 j hj).elim
        · exact hj
      · obtain ⟨o, h1, h2⟩ := hback k hkn _ hk
        cases o with
        | row => simp [Own.frz] at h2
        | arr => simp [Own.frz] at h2
        | obj => simp [Own.frz] at h2
        | tok =>
          simp only [Own.frz, Own.tok.injEq] at h2; obtain ⟨rfl, rfl, rfl⟩ := h2; obtain ⟨cur, fz, r1, r2, r3, r4, r5', r5⟩ := hrel.tok k _ _ _ h1 b c hg; exact ⟨cur, fz, r1, r2, r3, r4, r5', fun j hj => r5 j (hfar k b c hkn (by simp [h1]) hg j hj)⟩
    · exact hrel.inj k k' b c c' (hnone k hk) (hnone k' hk')
    · have hkn : k ≠ nm := by rintro rfl; rw [hnm] at hk; cases hk
      obtain ⟨o, h1, h2⟩ := hback k hkn _ hk
      cases o with
      | row => simp [Own.frz] at h2
      | tok => simp [Own.frz] at h2
      | obj => simp [Own.frz] at h2
      | arr s3 e3 m3 f3 =>
        simp only [Own.frz, Own.arr.injEq] at h2; obtain ⟨rfl, rfl, rfl, rfl⟩ := h2; exact H4 (hrel.arr k _ _ _ _ h1) rfl (fun _ _ _ => rfl) (fun b c j hg hj => hfar k b c hkn (by simp [h1]) hg j hj) (fun i _ => Db _ _ _ _ _) (fun v i j _ _ hv => by rw [Iq]; exact hcast2 _ _ hv)
    · rcases hi with hi | ⟨⟨c, hc⟩, hj⟩
      · exact h.chg.valid b o hi
      · obtain ⟨cur, r1, r2, r3, r4, r5, r6, r7⟩ := q1 b c hc; have : n * sz ≤ c * sz := Nat.mul_le_mul_right _ r2; exact ⟨cur.getD o undef, by rw [cell_of_row w b o cur e (0, 0) r1]; exact Fj (by omega)⟩
    · exact h.chg.new k b c (hnone k hk) hg
    · rcases hi with hi | ⟨⟨c, hc⟩, _⟩
      · exact h.chg.immNew b o hi
      · exact .inr (h.chg.new nm b c (by simp [ho]) hc)
end
section
variable {α : Type} {e : α → List AV} {d : α}
theorem F8 {f : Nat → List AV} {l : List α} {i j : Nat} {cs : List AV} {x : α} (hf : ∀ k, k < l.length → f k = e (l.getD k d)) (hi : i < l.length) (hx : (e (l.getD i d)).take j ++ cs ++ (e (l.getD i d)).drop (j + cs.length) = e x) :
    ∀ k, k < (l.set i x).length → E6 f i j cs k = e ((l.set i x).getD k d) := by
  intro k hk; rw [List.length_set] at hk
  by_cases h : k = i
  · subst h; rw [Mi, hf k hk, hx]; simp [List.getD, hk]
  · rw [Ms f cs h, hf k hk]; simp [List.getD, Ne.symm h]
def cpL {α : Type} (l : List α) (lo k : Nat) (s : Nat → α) : List α := l.mapIdx fun i x => if lo ≤ i ∧ i < lo + k then s (i - lo) else x
theorem Gg (l : List α) (lo k : Nat) (s : Nat → α) : l.length = (cpL l lo k s).length := by simp [cpL]
theorem Rr (l : List α) (lo k : Nat) (s : Nat → α) (i : Nat) (d : α) (h : i < l.length) : (cpL l lo k s).getD i d = if lo ≤ i ∧ i < lo + k then s (i - lo) else l.getD i d := by
  simp [cpL, List.getD, h]
theorem cpF_cpL {f g : Nat → List AV} {l : List α} {s : Nat → α} {lo k : Nat} (hf : ∀ i, i < l.length → f i = e (l.getD i d)) (hg : ∀ i, i < k → g i = e (s i)) : ∀ i, i < (cpL l lo k s).length → cpF f lo k g i = e ((cpL l lo k s).getD i d) := by
  intro i hi; rw [← Gg] at hi; rw [Rr _ _ _ _ _ _ hi]
  by_cases h : lo ≤ i ∧ i < lo + k
  · rw [Yv f g h, if_pos h, hg _ (by omega)]
  · rw [Ot f g h, if_neg h, hf i hi]
theorem Ky (keep : Nat → Bool) (l m : List AV) : AV.eraseAll keep (l ++ m) = AV.eraseAll keep l ++ AV.eraseAll keep m := by induction l with | nil => rfl | cons x l ih => simp [AV.eraseAll, ih]
theorem Td (keep : Nat → Bool) (l : List AV) (n : Nat) : AV.eraseAll keep (l.take n) = (AV.eraseAll keep l).take n := by
  induction l generalizing n with
  | nil => simp [AV.eraseAll]
  | cons x l ih => cases n with
    | zero => simp [AV.eraseAll]
    | succ n => simp [AV.eraseAll, ih]
theorem Tb (keep : Nat → Bool) (l : List AV) (n : Nat) : AV.eraseAll keep (l.drop n) = (AV.eraseAll keep l).drop n := by
  induction l generalizing n with
  | nil => simp [AV.eraseAll]
  | cons x l ih => cases n with
    | zero => simp
    | succ n => simpa [AV.eraseAll] using ih n
theorem Y4 {keep : Nat → Bool} {f : Nat → List AV} {l : List α} {i j : Nat} {cs : List AV} {x : α} (hf : ∀ k, k < l.length → f k = e (l.getD k d)) (he : ∀ a, AV.eraseAll keep (e a) = e a) (hi : i < l.length) (hx : (e (l.getD i d)).take j ++ AV.eraseAll keep cs ++ (e (l.getD i d)).drop (j + cs.length) = e x) :
    ∀ k, k < (l.set i x).length → AV.eraseAll keep (E6 f i j cs k) = e ((l.set i x).getD k d) := by
  intro k hk; rw [List.length_set] at hk
  by_cases h : k = i
  · subst h; rw [Mi, Ky, Ky, Td, Tb, hf k hk, he, hx]; simp [List.getD, hk]
  · rw [Ms f cs h, hf k hk, he]; simp [List.getD, Ne.symm h]
theorem Jt {f f' : Nat → List AV} {l m : List α} (hf : ∀ k, k < l.length → f k = e (l.getD k d)) (hf' : ∀ k, k < m.length → f' k = e (m.getD k d)) : ∀ k, k < (l ++ m).length → E1 l.length f f' k = e ((l ++ m).getD k d) := by
  intro k hk; rw [List.length_append] at hk; rw [← app_get (e := e) (d := d) l m k hk]
  by_cases h : k < l.length
  · rw [Gu _ _ h, Gu _ _ h, hf k h]
  · rw [I8 _ _ (by omega), I8 _ _ (by omega), hf' _ (by omega)]
theorem Mj {z : List AV} (h : AVleL z (e d)) (n : Nat) : ∀ k, k < (List.replicate n d).length → AVleL z (e ((List.replicate n d).getD k d)) := fun k hk => by
  have : (List.replicate n d).getD k d = d := by simp at hk; simp [List.getD, hk]
  rw [this]; exact h
theorem Bc {f g : Nat → List AV} {n m : Nat} (hn : n = m) (h : ∀ k, k < m → f k = g k) : ∀ k, k < n → AVleL (f k) (g k) := fun k hk => by rw [h k (by omega)]; exact .refl _
end
section
variable {α : Type} {e : α → List AV} {d : α}
theorem lit_nil {n : Nat} (h : n = 0) {l : List (List AV)} {az : List α} : ∀ i, i < n → AVleL (l.getD i []) (e (az.getD i d)) := fun i hi => by omega
theorem Ov {n : Nat} {x : List AV} {l : List (List AV)} {a : α} {az : List α} (h : AVleL x (e a)) (t : ∀ i, i < n → AVleL (l.getD i []) (e (az.getD i d))) : ∀ i, i < n + 1 → AVleL ((x :: l).getD i []) (e ((a :: az).getD i d)) := fun i hi => by
  cases i with
  | zero => simpa using h
  | succ i => simpa using t i (by omega)
theorem av_litL {sz n : Nat} {f : Nat → List AV} {xs : List α} (hn : n = xs.length) (h : ∀ i, i < n → AVleL (f i) (e (xs.getD i d))) (hs : ∀ a, AV.stripAll (e a) = e a) : AVle (.slice sz n f .exact) (AV.list sz e d xs .exact) := by
  intro I own θ w v hv; obtain ⟨ad, rfl⟩ := hv.exact_inv; have hV := hv.slice_val; obtain ⟨_, ad', cap, us, he, hcap, hmax, hz, hnn, h1, hl, hr⟩ := hV.slice_inv; simp only [Value.slice.injEq, true_and] at he; obtain ⟨rfl, rfl⟩ := he; unfold AV.list; subst hn; refine .exact _ _ sz _ (.slice _ _ _ sz _ us hcap hmax hz hnn h1 (fun i hi => ?_) (fun i c hi hc => ?_))
  · rw [← (h i hi).length]; exact hl i hi
  · have := (h i hi).get c I (fun _ => none) (fun _ => none) w _ (.val _ _ (hr i c hi hc)); have := this.strip; rw [← D0, hs] at this; exact this
end
noncomputable instance (n : Nat) (f : Nat → List AV) : Decidable (ByteF n f) := Classical.propDecidable _
theorem gT {c : Bool} (h : c = true) : (c == true) = true := by rw [h]; rfl
theorem gF {c : Bool} (h : c = false) : (c == false) = true := by rw [h]; rfl
theorem Gx {α : Type} {i : Int} {l : List α} (h : A8 i l.length) : i.toNat < l.length := by unfold A8 at h; omega
theorem inB_lt1 {α : Type} {i : Int} {l : List α} {a : Nat} {x : α} (h : A8 i l.length) : i.toNat < (l.set a x).length := by rw [List.length_set]; exact Gx h
theorem Mm {α : Type} {d : α} {n k : Nat} (h : k < n) : k < (List.replicate n d).length := by rw [List.length_replicate]; exact h
def Dp {α : Type} (N : Nat) (d : α) (l : List α) (i : Nat) (x : α) : List α := (List.range N).map fun j => bif Nat.beq j i then x else l.getD j d
theorem T0 {α : Type} {N : Nat} {d : α} {l : List α} {i : Nat} {x : α} {k : Nat} (hk : k < N) : (Dp N d l i x).getD k d = bif Nat.beq k i then x else l.getD k d := by
  unfold Dp; rw [List.getD, List.getElem?_map, List.getElem?_range hk]
  rfl
theorem Fc {α : Type} {e : α → List AV} {d : α} {f : Nat → List AV} {l : List α} {N i j : Nat} {cs : List AV} {x : α} (hf : ∀ k, k < N → f k = e (l.getD k d)) (hi : i < N) (hx : (e (l.getD i d)).take j ++ cs ++ (e (l.getD i d)).drop (j + cs.length) = e x) :
    ∀ k, k < N → E6 f i j cs k = e ((Dp N d l i x).getD k d) := by
  intro k hk; rw [T0 hk]; unfold E6
  cases hb : Nat.beq k i with
  | true =>
    obtain rfl := Nat.eq_of_beq_eq_true hb; rw [cond_true, cond_true, hf k hk]; exact hx
  | false => rw [cond_false, cond_false, hf k hk]
theorem Dy {i : Int} {N : Nat} (h : A8 i N) : i.toNat < N := by unfold A8 at h; omega
theorem Qx {α : Type} (z : List α) (sz : Nat) (hz : z.length = sz) : ∀ (N k : Nat), k < N → (((List.replicate N z).flatten).drop (k * sz)).take sz = z
  | 0, k, h => by omega
  | N + 1, 0, h => by
    rw [List.replicate_succ, List.flatten_cons, Nat.zero_mul, List.drop_zero, List.take_append_of_le_length (by omega), List.take_of_length_le (by omega)]
  | N + 1, k + 1, h => by
    rw [List.replicate_succ, List.flatten_cons, show (k + 1) * sz = z.length + k * sz by rw [Nat.add_mul, hz]; omega, List.drop_append, List.drop_eq_nil_of_le (by omega), List.nil_append, Nat.add_sub_cancel_left]; exact Qx z sz hz N k (by omega)
end
end Go.Proofs.Ytjpacggpipflcaa

namespace Go.Proofs.Ytjpacggpipflcaa
noncomputable section
open Go Go.RowKit
def Ct {α : Type} (sz : Nat) (e : α → List AV) (d : α) (L : List (List α)) (t : Nat → Tag) : Nat → List AV := fun j => [AV.list sz e d (L.getD j []) (t j)]
def Dd (b i k j : Nat) : Tag := bif Nat.beq j i then .own k else .fam b j
def Cw {α : Type} (L : List (List α)) : Nat → Option Nat := fun j => if j < L.length then some (L.getD j []).length else none
def Jp {α : Type} (L : List (List α)) (i : Nat) : Nat → Option Nat := fun j => if j = i then none else Cw L j
mutual
def AV.free (p : Tag → Bool) : AV → Bool
  | .slice _ _ _ t => p t
  | .clo _ xs ys => AV.freeAll p xs && AV.freeAll p ys
  | .agg cs => AV.freeAll p cs
  | .tuple cs => AV.freeAll p cs
  | .cond _ x => x.free p
  | _ => true
def AV.freeAll (p : Tag → Bool) : List AV → Bool
  | [] => true
  | x :: l => x.free p && AV.freeAll p l
end
theorem Fx {p : Tag → Bool} {l : List AV} (h : AV.freeAll p l = true) (j : Nat) : (l.getD j .any).free p = true := by
  induction l generalizing j with
  | nil => simp [AV.free]
  | cons x l ih =>
    simp only [AV.freeAll, Bool.and_eq_true] at h
    cases j with
    | zero => simpa using h.1
    | succ j => simpa using ih h.2 j
def AObj.Al (P : AV → Prop) : AObj → Prop
  | .iter _ _ => True
  | .map _ _ _ => True
  | .miter m _ _ => P m
theorem AObj.Al.imp {P Q : AV → Prop} {x : AObj} (h : x.Al P) (k : ∀ y, P y → Q y) : x.Al Q := by
  cases x with
  | iter => trivial
  | map => trivial
  | miter => exact k _ h
theorem ObjR.al {P : AV → Prop} {I I' : Nat → Nat → Prop} {own own' : Nat → Option Own} {θ θ' : Nat → Option (Nat × Nat)} {w w' : World} {o : Obj} {x : AObj} (h : ObjR I own θ w o x) (hx : x.Al P) (hI : ∀ b o, I b o → I' b o) (hw : ∀ b o, I b o → w'.cell? ⟨b, o, none⟩ = w.cell? ⟨b, o, none⟩) (hf : ∀ v y, P y → Rep I own θ w v y → Rep I' own' θ' w' v y) : ObjR I' own' θ' w' o x := by
  cases h with
  | iter s p => exact .iter s p
  | map es nn k l hs hr =>
    refine .map es nn k l hs fun i hi => ?_; obtain ⟨v, h1, h2, h3⟩ := hr i hi; exact ⟨v, h1, h2.mono hI hw, h3⟩
  | miter r m n c seen hc hr => exact .miter r m n c seen hc (hf _ _ hx hr)
def Ua (b : Nat) : Tag → Bool
  | .fam b' _ => !Nat.beq b' b
  | .own nm => Nat.blt nm Bq
  | _ => true
def Wm (k : Nat) : Tag → Bool
  | .own k' => !Nat.beq k' k
  | _ => true
def Fr (q : Nat) (x : AV) : Prop := ∀ (I : Nat → Nat → Prop) (own own' : Nat → Option Own) (θ θ' : Nat → Option (Nat × Nat)) (w : World) (v : Value), (∃ sz e m, own q = some (.tok sz e m)) →
  (∀ nm o, nm ≠ q → own nm = some o → ∃ o', own' nm = some o' ∧ OwnLe o (θ nm) o' (θ' nm)) → Rep I own θ w v x → Rep I own' θ' w v x
theorem fr_of {q : Nat} {p : Tag → Bool} (hp : ∀ nm, p (.own nm) = true → nm ≠ q) (hf : ∀ b i, i < Bq → p (.fam b i) = true → Hg b i ≠ q) {x : AV} (hx : x.free p = true) : Fr q x := by
  intro I own own' θ θ' w v hq ho h; obtain ⟨s0, e0, m0, hq⟩ := hq; have hall : ∀ nm o, nm ≠ q → own nm = some o → ∃ o', own' nm = some o' ∧ OwnLe o (θ nm) o' (θ' nm) := ho
  have hne : ∀ {nm o}, own nm = some o → (∀ sz e m, o ≠ .tok sz e m) → nm ≠ q := fun hn hh => by
    rintro rfl; rw [hq] at hn; exact hh _ _ _ (OI hn).symm
  induction h with
  | val v x h => exact .val v x h
  | exact a n sz f h => exact .exact a n sz f h
  | own nm sz e m a n cap f hn hm hv h =>
    obtain ⟨o', ho', hle⟩ := ho nm _ (hp nm hx) hn
    cases o' with
    | tok sz' e' m' =>
      obtain ⟨rfl, rfl, hmm, hθ⟩ := hle; refine .own nm _ _ m' a n cap f ho' (Nat.le_trans hm hmm) (fun he => ?_) h; rw [hθ (by omega)]; exact hv (by omega)
    | _ => exact hle.elim
  | fam b i sz e m a n cap f hi hn hm hv h =>
    obtain ⟨o', ho', hle⟩ := ho (Hg b i) _ (hf b i hi hx) hn
    cases o' with
    | tok sz' e' m' =>
      obtain ⟨rfl, rfl, hmm, hθ⟩ := hle; refine .fam b i _ _ m' a n cap f hi ho' (Nat.le_trans hm hmm) (fun he => ?_) h; rw [hθ (by omega)]; exact hv (by omega)
    | _ => exact hle.elim
  | ptr nm off e cells g c hn hg =>
    obtain ⟨o', ho', hle⟩ := ho nm _ (hne hn (fun _ _ _ h => by cases h)) hn
    cases o' with
    | row e' cells' =>
      have e : θ' nm = θ nm := hle.2; exact .ptr nm off e' cells' g c ho' (e.trans hg)
    | _ => exact hle.elim
  | vsl nm sz e m f a n cap hn hm hcap hmax hnn hv =>
    obtain ⟨o', ho', hle⟩ := ho nm _ (hne hn (fun _ _ _ h => by cases h)) hn
    cases o' with
    | arr sz' e' m' f' =>
      obtain ⟨rfl, rfl, hmm, hθ⟩ := hle; refine .vsl nm _ _ m' f' a n cap ho' (Nat.le_trans hm hmm) hcap hmax hnn (fun he => ?_); rw [hθ (by omega)]; exact hv (by omega)
    | _ => exact hle.elim
  | vpt nm sz e m f n i j ad hn hm hi hv =>
    obtain ⟨o', ho', hle⟩ := ho nm _ (hne hn (fun _ _ _ h => by cases h)) hn
    cases o' with
    | arr sz' e' m' f' =>
      obtain ⟨rfl, rfl, hmm, hθ⟩ := hle; refine .vpt nm _ _ m' f' n i j ad ho' (Nat.le_trans hm hmm) hi (fun he => ?_); rw [hθ (by omega)]; exact hv (by omega)
    | _ => exact hle.elim
  | clo f fs cs xs ys hl hl' _ _ ih ih' =>
    simp only [AV.free, Bool.and_eq_true] at hx; exact .clo f fs cs xs ys hl hl' (fun j hj => ih j hj (Fx hx.1 j)) (fun j hj => ih' j hj (Fx hx.2 j))
  | optr nm mm x g c hn hg =>
    obtain ⟨o', ho', hle⟩ := ho nm _ (hne hn (fun _ _ _ h => by cases h)) hn
    cases o' with
    | obj x' => exact .optr nm mm x' g c ho' (by rw [hle, hg])
    | _ => exact hle.elim
  | omap nm x hn =>
    obtain ⟨o', ho', hle⟩ := ho nm _ (hne hn (fun _ _ _ h => by cases h)) hn
    cases o' with
    | obj x' =>
      have hle : θ' nm = θ nm := hle; rw [← hle]; exact .omap nm x' ho'
    | _ => exact hle.elim
  | vsub nm sz e m f n lo hi a cap hn hm hlo hhi hcap hmax hnn hv =>
    obtain ⟨o', ho', hle⟩ := ho nm _ (hne hn (fun _ _ _ h => by cases h)) hn
    cases o' with
    | arr sz' e' m' f' =>
      obtain ⟨rfl, rfl, hmm, hθ⟩ := hle; refine .vsub nm _ _ m' f' n lo hi a cap ho' (Nat.le_trans hm hmm) hlo hhi hcap hmax hnn (fun he => ?_); rw [hθ (by omega)]; exact hv (by omega)
    | _ => exact hle.elim
  | cond v c x _ h' ih => exact .cond v c x (fun hc => ih hc hx) h'
  | agg vs cs hl h1 _ ih => exact .agg vs cs hl h1 (fun j hj => ih j hj (Fx hx j))
  | tuple vs cs hl _ ih => exact .tuple vs cs hl (fun j hj => ih j hj (Fx hx j))
theorem fr_fam {b i : Nat} (hi : i < Bq) {x : AV} (hx : x.free (Ua b) = true) : Fr (Hg b i) x :=
  fr_of (p := Ua b) (fun nm hp he => by
    have hlt : nm < Bq := by simpa [Ua, Nat.blt_eq] using hp
    rw [he] at hlt
    exact F1 b i hlt) (fun b' i' hi' hp he => by
    have h1 := Kr (b := b') hi'; rw [he, Kr hi] at h1; subst h1
    simp [Ua] at hp) hx
theorem fr_own {k : Nat} (hk : k < Bq) {x : AV} (hx : x.free (Wm k) = true) : Fr k x :=
  fr_of (p := Wm k) (fun nm hp he => by subst he; simp [Wm] at hp) (fun b i _ _ he => by rw [← he] at hk; exact F1 b i hk) hx
def OwnFr (q : Nat) : Own → Prop
  | .row _ cells => ∀ j, j < cells.length → Fr q (cells.getD j .any)
  | .arr sz _ m f => ∀ i j, i < m → j < sz → Fr q ((f i).getD j .any)
  | .obj x => x.Al (Fr q)
  | .tok .. => True
theorem L7 {I : Nat → Nat → Prop} {own own' : Nat → Option Own} {θ θ' : Nat → Option (Nat × Nat)} {w : World} {nm sz m : Nat} {e : TypeId} {f f' : Nat → List AV}
    (h : (θ nm = none → m = 0) ∧ ∀ g c, θ nm = some (g, c) → ∃ cur, w.heap[g]? = some (.cells cur e (0, 0)) ∧ m ≤ c ∧ c ≤ maxLen ∧ cur.size = c * sz ∧
      (∀ i, i < m → (f i).length = sz) ∧ (∀ i j, i < m → j < sz → (cur.getD (i * sz + j) undef).oneCell' = true ∧ Rep I own θ w (cur.getD (i * sz + j) undef) ((f i).getD j .any)) ∧ ∀ j, ¬ I g j)
    (hθ : θ' nm = θ nm) (hf : ∀ i, i < m → (f' i).length = (f i).length) (hr : ∀ i j v, i < m → j < sz → Rep I own θ w v ((f i).getD j .any) → Rep I own' θ' w v ((f' i).getD j .any)) :
    (θ' nm = none → m = 0) ∧ ∀ g c, θ' nm = some (g, c) → ∃ cur, w.heap[g]? = some (.cells cur e (0, 0)) ∧ m ≤ c ∧ c ≤ maxLen ∧ cur.size = c * sz ∧
      (∀ i, i < m → (f' i).length = sz) ∧ (∀ i j, i < m → j < sz → (cur.getD (i * sz + j) undef).oneCell' = true ∧ Rep I own' θ' w (cur.getD (i * sz + j) undef) ((f' i).getD j .any)) ∧ ∀ j, ¬ I g j := by
  rw [hθ]; refine ⟨h.1, fun g c hg => ?_⟩; obtain ⟨cur, q1, q2, q3, q4, q5, q6, q7⟩ := h.2 g c hg; exact ⟨cur, q1, q2, q3, q4, fun i hi => (hf i hi).trans (q5 i hi), fun i j hi hj => ⟨(q6 i j hi hj).1, hr i j _ hi hj (q6 i j hi hj).2⟩, q7⟩
section
variable {Γ : Ic} {σ : Sto} {I : Nat → Nat → Prop} {θ : Nat → Option (Nat × Nat)} {a : Act} {w : World}
theorem R3 (h : Rel Γ σ I θ a w) {p q r sz m s1 n : Nat} {e e1 : TypeId} {F F' : Nat → List AV} (hp : σ.own p = some (.tok sz e m)) (hq : σ.own q = none) (hr : σ.own r = some (.arr s1 e1 n F)) (hp0 : Γ.own0 p = none)
    (hfree : ∀ t, Fr p (σ.tmp t)) (hrows : ∀ nm o, nm ≠ r → σ.own nm = some o → OwnFr p o) {own' : Nat → Option Own} {θ' : Nat → Option (Nat × Nat)}
    (hown : own' = fun x => if x = q then some (.tok sz e m) else if x = p then none else if x = r then some (.arr s1 e1 n F') else σ.own x)
    (hθ : θ' = fun x => if x = q then θ p else if x = p then none else θ x)
    (hlen : ∀ j, j < n → (F' j).length = (F j).length)
    (hF : ∀ j c v, j < n → c < s1 → Rep I σ.own θ w v ((F j).getD c .any) → Rep I own' θ' w v ((F' j).getD c .any)) :
    Rel Γ ⟨σ.tmp, own'⟩ I θ' a w := by
  have hpq : p ≠ q := by rintro rfl; rw [hp] at hq; cases hq
  have hpr : p ≠ r := by rintro rfl; rw [hp] at hr; cases hr
  have hqr : q ≠ r := by rintro rfl; rw [hq] at hr; cases hr
  have hkeep : ∀ nm o, nm ≠ p → σ.own nm = some o → ∃ o', own' nm = some o' ∧ OwnLe o (θ nm) o' (θ' nm) := fun nm o hnp ho => by
    have hnq : nm ≠ q := by rintro rfl; rw [hq] at ho; cases ho
    by_cases hnr : nm = r
    · subst hnr; rw [hr] at ho; obtain rfl := OI ho; exact ⟨.arr s1 e1 n F', by simp [hown, hnq, hnp], by simp [hθ, hnq, hnp, OwnLe]⟩
    · exact ⟨o, by simp [hown, hnq, hnp, hnr, ho], by simp [hθ, hnq, hnp, OwnLe.refl]⟩
  have hT : ∀ v x, Fr p x → Rep I σ.own θ w v x → Rep I own' θ' w v x := fun v x hx hv => hx I _ _ _ _ w v ⟨_, _, _, hp⟩ hkeep hv
  have hinv : ∀ nm o, nm ≠ q → nm ≠ r → own' nm = some o → nm ≠ p ∧ σ.own nm = some o ∧ θ' nm = θ nm := fun nm o h1 h2 ho => by
    by_cases h3 : nm = p
    · simp [hown, h3, hpq] at ho
    · simp [hown, h1, h2, h3] at ho; exact ⟨h3, ho, by simp [hθ, h1, h3]⟩
  have hnone : ∀ nm, own' nm ≠ none → ∃ nm', σ.own nm' ≠ none ∧ θ' nm = θ nm' ∧ (nm = q → nm' = p) ∧ (nm ≠ q → nm' = nm ∧ nm ≠ p) := fun nm hn => by
    by_cases h1 : nm = q
    · exact ⟨p, by simp [hp], by simp [hθ, h1], fun _ => rfl, fun h => (h h1).elim⟩
    · by_cases h2 : nm = r
      · subst h2; exact ⟨nm, by simp [hr], by simp [hθ, h1, Ne.symm hpr], fun h => (h1 h).elim, fun _ => ⟨rfl, Ne.symm hpr⟩⟩
      · cases hx : own' nm with
        | none => exact (hn hx).elim
        | some o =>
          obtain ⟨h3, h4, h5⟩ := hinv nm o h1 h2 hx; exact ⟨nm, by simp [h4], h5, fun h => (h1 h).elim, fun _ => ⟨rfl, h3⟩⟩
  have hq' : own' q = some (.tok sz e m) := by simp [hown]
  have hr' : own' r = some (.arr s1 e1 n F') := by simp [hown, Ne.symm hqr, Ne.symm hpr]
  have hrel := h.chg.rel
  have hθr : θ' r = θ r := by simp [hθ, Ne.symm hqr, Ne.symm hpr]
  have hθq : θ' q = θ p := by simp [hθ]
  refine ⟨h.size, h.defers, fun t => hT _ _ (hfree t) (h.slots t), { h.chg with le := fun nm o ho => ?_, rel := ⟨fun nm e0 cells ho => ?_, fun nm s' e' m' ho g c hg => ?_, fun nm nm' g c c' ho ho' hg hg' => ?_, fun nm s' e' m' f' ho => ?_, fun nm x ho => ?_, fun nm s' m' ho hnn => ?_⟩, new := fun nm g c ho hg => ?_ }⟩
  · obtain ⟨o', ho', hl⟩ := h.chg.le nm o ho
    have hnp : nm ≠ p := by rintro rfl; rw [hp0] at ho; cases ho
    obtain ⟨o'', h1, h2⟩ := hkeep nm o' hnp ho'; exact ⟨o'', h1, hl.trans h2⟩
  · replace ho : own' nm = some _ := ho
    have h1 : nm ≠ q := by rintro rfl; rw [hq'] at ho; cases ho
    have h2 : nm ≠ r := by rintro rfl; rw [hr'] at ho; cases ho
    obtain ⟨h3, h4, h5⟩ := hinv nm _ h1 h2 ho; obtain ⟨g, c, vs, r1, r2, r3, r4, r5, r6⟩ := hrel.row nm e0 cells h4; exact ⟨g, c, vs, h5.trans r1, r2, r3, r4, fun j hj => hT _ _ (hrows nm _ h2 h4 j hj) (r5 j hj), r6⟩
  · replace ho : own' nm = some _ := ho
    by_cases h1 : nm = q
    · subst h1; rw [hq'] at ho; simp only [Option.some.injEq, Own.tok.injEq] at ho; obtain ⟨rfl, rfl, rfl⟩ := ho; exact hrel.tok p _ _ _ hp g c (hθq.symm.trans hg)
    · have h2 : nm ≠ r := by rintro rfl; rw [hr'] at ho; cases ho
      obtain ⟨h3, h4, h5⟩ := hinv nm _ h1 h2 ho; exact hrel.tok nm _ _ _ h4 g c (h5.symm.trans hg)
  · obtain ⟨n1, a1, a2, a3, a4⟩ := hnone nm ho; obtain ⟨n2, b1, b2, b3, b4⟩ := hnone nm' ho'; have := hrel.inj n1 n2 g c c' a1 b1 (a2.symm.trans hg) (b2.symm.trans hg')
    by_cases h1 : nm = q
    · by_cases h2 : nm' = q
      · rw [h1, h2]
      · have := a3 h1; have := b4 h2; omega
    · by_cases h2 : nm' = q
      · have := a4 h1; have := b3 h2; omega
      · have := a4 h1; have := b4 h2; omega
  · replace ho : own' nm = some _ := ho
    have h1 : nm ≠ q := by rintro rfl; rw [hq'] at ho; cases ho
    by_cases h2 : nm = r
    · subst h2; rw [hr'] at ho; simp only [Option.some.injEq, Own.arr.injEq] at ho; obtain ⟨rfl, rfl, rfl, rfl⟩ := ho; exact L7 (hrel.arr nm _ _ _ _ hr) hθr hlen hF
    · obtain ⟨h3, h4, h5⟩ := hinv nm _ h1 h2 ho; exact L7 (hrel.arr nm _ _ _ _ h4) h5 (fun _ _ => rfl) (fun i j v hi hj hv => hT _ _ (hrows nm _ h2 h4 i j hi hj) hv)
  · replace ho : own' nm = some _ := ho
    have h1 : nm ≠ q := by rintro rfl; rw [hq'] at ho; cases ho
    have h2 : nm ≠ r := by rintro rfl; rw [hr'] at ho; cases ho
    obtain ⟨h3, h4, h5⟩ := hinv nm _ h1 h2 ho; exact Gb (hrel.obj nm _ h4) h5 (fun _ _ _ => rfl) (fun _ _ _ _ h => h) (fun _ hh => hh.al (hrows nm _ h2 h4) (fun _ _ h => h) (fun _ _ _ => rfl) fun v y hy hv => hT v y hy hv) Nc
  · replace ho : own' nm = some _ := ho
    by_cases h1 : nm = q
    · subst h1; rw [hq'] at ho; simp only [Option.some.injEq, Own.tok.injEq] at ho; obtain ⟨rfl, he, rfl⟩ := ho; exact hrel.tok8 p _ _ (by rw [hp, he]) (hθq.symm.trans hnn)
    · have h2 : nm ≠ r := by rintro rfl; rw [hr'] at ho; cases ho
      obtain ⟨h3, h4, h5⟩ := hinv nm _ h1 h2 ho; exact hrel.tok8 nm _ _ h4 (h5.symm.trans hnn)
  · obtain ⟨n1, a1, a2, _, _⟩ := hnone nm ho; exact h.chg.new n1 g c a1 (a2.symm.trans hg)
theorem Aah (h : Rel Γ σ I θ a w) {r s1 n : Nat} {e1 : TypeId} {F F' : Nat → List AV} (hr : σ.own r = some (.arr s1 e1 n F)) {S : Nat → Option (Nat × TypeId × Nat)} (hS : ∀ x y, S x = some y → σ.own x = none)
    (h8 : ∀ x sz m, S x = some (sz, M2, m) → m = 0) {own' : Nat → Option Own} {θ' : Nat → Option (Nat × Nat)}
    (hown : own' = fun x => match S x with | some y => some (.tok y.1 y.2.1 y.2.2) | none => if x = r then some (.arr s1 e1 n F') else σ.own x)
    (hθ : θ' = fun x => match S x with | some _ => none | none => θ x) (hlen : ∀ j, j < n → (F' j).length = (F j).length)
    (hF : ∀ j c v, j < n → c < s1 → Rep I σ.own θ w v ((F j).getD c .any) → Rep I own' θ' w v ((F' j).getD c .any)) :
    Rel Γ ⟨σ.tmp, own'⟩ I θ' a w := by
  have hSn : ∀ nm o, σ.own nm = some o → S nm = none := fun nm o ho => by
    cases hx : S nm with
    | none => rfl
    | some y => rw [hS nm y hx] at ho; cases ho
  have hkeep : ∀ nm o, σ.own nm = some o → ∃ o', own' nm = some o' ∧ OwnLe o (θ nm) o' (θ' nm) := fun nm o ho => by
    have h1 := hSn nm o ho
    by_cases hnr : nm = r
    · subst hnr; rw [hr] at ho; obtain rfl := OI ho; exact ⟨.arr s1 e1 n F', by simp [hown, h1], by simp [hθ, h1, OwnLe]⟩
    · exact ⟨o, by simp [hown, h1, hnr, ho], by simp [hθ, h1, OwnLe.refl]⟩
  have hT : ∀ v x, Rep I σ.own θ w v x → Rep I own' θ' w v x := fun v x hv => hv.mono (fun _ _ h => h) (fun _ _ _ => rfl) hkeep
  have hinv : ∀ nm o, own' nm = some o → (∀ sz e m, o ≠ .tok sz e m) → nm ≠ r → σ.own nm = some o ∧ θ' nm = θ nm := fun nm o ho hn h2 => by
    cases hx : S nm with
    | none => simp [hown, hx, h2] at ho; exact ⟨ho, by simp [hθ, hx]⟩
    | some y => simp [hown, hx] at ho; exact (hn _ _ _ ho.symm).elim
  have hold : ∀ nm g c, own' nm ≠ none → θ' nm = some (g, c) → σ.own nm ≠ none ∧ θ nm = some (g, c) := fun nm g c ho hg => by
    cases hx : S nm with
    | some y => simp [hθ, hx] at hg
    | none =>
      simp [hθ, hx] at hg; refine ⟨?_, hg⟩
      by_cases h2 : nm = r
      · subst h2; simp [hr]
      · simpa [hown, hx, h2] using ho
  have hSr : S r = none := hSn r _ hr
  have hr' : own' r = some (.arr s1 e1 n F') := by simp [hown, hSr]
  have hθr : θ' r = θ r := by simp [hθ, hSr]
  have hrel := h.chg.rel; refine ⟨h.size, h.defers, fun t => hT _ _ (h.slots t), { h.chg with le := fun nm o ho => ?_, rel := ⟨fun nm e0 cells ho => ?_, fun nm s' e' m' ho g c hg => ?_, fun nm nm' g c c' ho ho' hg hg' => ?_, fun nm s' e' m' f' ho => ?_, fun nm x ho => ?_, fun nm s' m' ho hnn => ?_⟩, new := fun nm g c ho hg => ?_ }⟩
  · obtain ⟨o', ho', hl⟩ := h.chg.le nm o ho; obtain ⟨o'', h1, h2⟩ := hkeep nm o' ho'; exact ⟨o'', h1, hl.trans h2⟩
  · replace ho : own' nm = some _ := ho
    have h2 : nm ≠ r := by rintro rfl; rw [hr'] at ho; cases ho
    obtain ⟨h4, h5⟩ := hinv nm _ ho (fun _ _ _ h => by cases h) h2; obtain ⟨g, c, vs, r1, r2, r3, r4, r5, r6⟩ := hrel.row nm e0 cells h4; exact ⟨g, c, vs, h5.trans r1, r2, r3, r4, fun j hj => hT _ _ (r5 j hj), r6⟩
  · replace ho : own' nm = some _ := ho; obtain ⟨h1, h2⟩ := hold nm g c (by rw [ho]; simp) hg
    cases hx : S nm with
    | some y => simp [hθ, hx] at hg
    | none =>
      have h3 : nm ≠ r := by rintro rfl; rw [hr'] at ho; cases ho
      simp [hown, hx, h3] at ho; exact hrel.tok nm _ _ _ ho g c h2
  · obtain ⟨a1, a2⟩ := hold nm g c ho hg; obtain ⟨b1, b2⟩ := hold nm' g c' ho' hg'; exact hrel.inj nm nm' g c c' a1 b1 a2 b2
  · replace ho : own' nm = some _ := ho
    by_cases h2 : nm = r
    · subst h2; rw [hr'] at ho; simp only [Option.some.injEq, Own.arr.injEq] at ho; obtain ⟨rfl, rfl, rfl, rfl⟩ := ho; exact L7 (hrel.arr nm _ _ _ _ hr) hθr hlen hF
    · obtain ⟨h4, h5⟩ := hinv nm _ ho (fun _ _ _ h => by cases h) h2; exact L7 (hrel.arr nm _ _ _ _ h4) h5 (fun _ _ => rfl) (fun i j v _ _ hv => hT _ _ hv)
  · replace ho : own' nm = some _ := ho
    have h2 : nm ≠ r := by rintro rfl; rw [hr'] at ho; cases ho
    obtain ⟨h4, h5⟩ := hinv nm _ ho (fun _ _ _ h => by cases h) h2; exact Gb (hrel.obj nm _ h4) h5 (fun _ _ _ => rfl) (fun _ _ _ _ h => h) (fun _ hh => hh.mono hT) Nc
  · replace ho : own' nm = some _ := ho
    cases hx : S nm with
    | some y =>
      simp only [hown, hx, Option.some.injEq, Own.tok.injEq] at ho; obtain ⟨h1, h2, h3⟩ := ho; rw [← h3]; exact h8 nm y.1 y.2.2 (by rw [hx, ← h2])
    | none =>
      have h3 : nm ≠ r := by rintro rfl; rw [hr'] at ho; cases ho
      simp [hown, hx, h3] at ho; simp [hθ, hx] at hnn; exact hrel.tok8 nm _ _ ho hnn
  · obtain ⟨a1, a2⟩ := hold nm g c ho hg; exact h.chg.new nm g c a1 a2
inductive OwnsFr (p : Tag → Bool) (r : Nat) : List (Nat × Own) → Prop
  | nil : OwnsFr p r []
  | row {nm : Nat} {e : TypeId} {cells : List AV} {l : List (Nat × Own)} (h : AV.freeAll p cells = true) (t : OwnsFr p r l) : OwnsFr p r ((nm, .row e cells) :: l)
  | here {o : Own} {l : List (Nat × Own)} (t : OwnsFr p r l) : OwnsFr p r ((r, o) :: l)
  | arr {nm sz m : Nat} {e : TypeId} {f : Nat → List AV} {l : List (Nat × Own)} (h : ∀ j, AV.freeAll p (f j) = true) (t : OwnsFr p r l) : OwnsFr p r ((nm, .arr sz e m f) :: l)
  | tok {nm sz m : Nat} {e : TypeId} {l : List (Nat × Own)} (t : OwnsFr p r l) : OwnsFr p r ((nm, .tok sz e m) :: l)
  | obj {nm : Nat} {x : AObj} {l : List (Nat × Own)} (t : OwnsFr p r l) (h : x.Al (fun y => y.free p = true) := by first | trivial | rfl) : OwnsFr p r ((nm, .obj x) :: l)
theorem OwnsFr.get {p : Tag → Bool} {r q : Nat} (hp : ∀ x : AV, x.free p = true → Fr q x) {l : List (Nat × Own)} (h : OwnsFr p r l) {nm : Nat} {o : Own} (hn : nm ≠ r) (ho : Ah l nm = some o) : OwnFr q o := by
  induction h with
  | nil => cases ho
  | @row k e cells l h _ ih =>
    simp only [Ah] at ho
    cases hb : Nat.beq k nm with
    | true => rw [hb] at ho; simp only [cond_true, Option.some.injEq] at ho; subst ho; exact fun j _ => hp _ (Fx h j)
    | false => rw [hb] at ho; exact ih ho
  | @here o' l _ ih =>
    simp only [Ah] at ho
    cases hb : Nat.beq r nm with
    | true => exact (hn (Nat.eq_of_beq_eq_true hb).symm).elim
    | false => rw [hb] at ho; exact ih ho
  | @arr k sz m e f l h _ ih =>
    simp only [Ah] at ho
    cases hb : Nat.beq k nm with
    | true => rw [hb] at ho; simp only [cond_true, Option.some.injEq] at ho; subst ho; exact fun i j _ _ => hp _ (Fx (h i) j)
    | false => rw [hb] at ho; exact ih ho
  | @tok k sz m e l _ ih =>
    simp only [Ah] at ho
    cases hb : Nat.beq k nm with
    | true => rw [hb] at ho; simp only [cond_true, Option.some.injEq] at ho; subst ho; trivial
    | false => rw [hb] at ho; exact ih ho
  | @obj k x l _ h ih =>
    simp only [Ah] at ho
    cases hb : Nat.beq k nm with
    | true => rw [hb] at ho; simp only [cond_true, Option.some.injEq] at ho; subst ho; exact h.imp fun y hy => hp y hy
    | false => rw [hb] at ho; exact ih ho
theorem OwnsFr.sto {p : Tag → Bool} {r q : Nat} (hp : ∀ x : AV, x.free p = true → Fr q x) {st : St} (h : OwnsFr p r st.own) {nm : Nat} {o : Own} (hn : nm ≠ r) (ho : st.sto.own nm = some o) : OwnFr q o := by
  by_cases hlt : nm < Bq
  · exact h.get hp hn ((Ba hlt).symm.trans ho)
  · obtain ⟨sz, e, m, rfl⟩ := Kd hlt ho
    trivial
theorem tmps_fr {p : Tag → Bool} {q : Nat} (hp : ∀ x : AV, x.free p = true → Fr q x) {st : St} (h : st.tmps.all (fun x => x.2.free p) = true) (t : Nat) : Fr q (st.sto.tmp t) := by
  show Fr q (match Ah st.tmps t with | some x => x | none => .any)
  cases hx : Ah st.tmps t with
  | none => exact hp _ rfl
  | some x => exact hp _ (List.all_eq_true.1 h _ (Pi hx))
def remA {α : Type} (l : List (Nat × α)) (k : Nat) : List (Nat × α) := l.filter fun p => !Nat.beq p.1 k
theorem look_remA {α : Type} (l : List (Nat × α)) (k n : Nat) : Ah (remA l k) n = if k = n then none else Ah l n := by
  induction l with
  | nil => simp [remA, Ah]
  | cons p l ih =>
    obtain ⟨m, x⟩ := p
    have ih' : Ah (List.filter (fun p => !Nat.beq p.1 k) l) n = if k = n then none else Ah l n := ih
    simp only [remA, List.filter_cons, Ah]
    cases hb : Nat.beq m k with
    | true =>
      have := Nat.eq_of_beq_eq_true hb; subst this; simp only [Bool.not_true, Bool.false_eq_true, if_false, ih']
      by_cases h : m = n
      · simp [h]
      · have : Nat.beq m n = false := by cases hb : Nat.beq m n with | false => rfl | true => exact absurd (Nat.eq_of_beq_eq_true hb) h
        simp [h, this]
    | false =>
      simp only [Bool.not_false, if_true, Ah, ih']
      cases hb' : Nat.beq m n with
      | true =>
        have := Nat.eq_of_beq_eq_true hb'; subst this
        have : k ≠ m := by rintro rfl; simp at hb
        simp [this]
      | false => simp
theorem rep_out {I : Nat → Nat → Prop} {own own' : Nat → Option Own} {θ θ' : Nat → Option (Nat × Nat)} {w : World} {v : Value} {sz n b i p q m : Nat} {e : TypeId} {f : Nat → List AV} (hv : Rep I own θ w v (.slice sz n f (.fam b i))) (hb : Hg b i = p) (hp : own p = some (.tok sz e m))
    (hq : own' q = some (.tok sz e m)) (hθ : θ' q = θ p) : Rep I own' θ' w v (.slice sz n f (.own q)) := by
  cases hv with
  | val v x h => obtain ⟨h, _⟩ := h.slice_inv; cases h
  | fam _ _ _ e' m a n' cap f hi' ho' hm hv' h' =>
    rw [hb] at ho' hv'; rw [hp] at ho'; simp only [Option.some.injEq, Own.tok.injEq] at ho'; obtain ⟨_, rfl, rfl⟩ := ho'; exact .own q sz e _ _ _ _ _ hq hm (fun hh => by rw [hθ]; exact hv' hh) h'
theorem W0 {I : Nat → Nat → Prop} {own own' : Nat → Option Own} {θ θ' : Nat → Option (Nat × Nat)} {w : World} {v : Value} {sz n b i p : Nat} {f : Nat → List AV} (hv : Rep I own θ w v (.slice sz n f (.fam b i))) (hb : Hg b i = p) (ho : i < Bq → own' p = own p) (hθ : i < Bq → θ' p = θ p) : Rep I own' θ' w v (.slice sz n f (.fam b i)) := by
  cases hv with
  | val v x h => obtain ⟨h, _⟩ := h.slice_inv; cases h
  | fam _ _ _ e' m a n' cap f hi' ho' hm hv' h' =>
    rw [hb] at ho' hv'; exact .fam b i sz e' m _ _ _ _ hi' (by rw [hb, ho hi']; exact ho') hm (fun hh => by rw [hb, hθ hi']; exact hv' hh) h'
theorem rep_back {I : Nat → Nat → Prop} {own own' : Nat → Option Own} {θ θ' : Nat → Option (Nat × Nat)} {w : World} {v : Value} {sz n b i p q m : Nat} {e : TypeId} {f : Nat → List AV} (hv : Rep I own θ w v (.slice sz n f (.own p))) (hb : Hg b i = q) (hi : i < Bq) (hp : own p = some (.tok sz e m))
    (hq : own' q = some (.tok sz e m)) (hθ : θ' q = θ p) : Rep I own' θ' w v (.slice sz n f (.fam b i)) := by
  cases hv with
  | val v x h => obtain ⟨h, _⟩ := h.slice_inv; cases h
  | own _ _ e' m' a n' cap f ho' hm' hv' h' =>
    rw [hp] at ho'; simp only [Option.some.injEq, Own.tok.injEq] at ho'; obtain ⟨_, rfl, rfl⟩ := ho'; exact .fam b i sz e m _ _ _ _ hi (by rw [hb]; exact hq) hm' (fun hh => by rw [hb, hθ]; exact hv' hh) h'
theorem rep_new {I : Nat → Nat → Prop} {own own' : Nat → Option Own} {θ θ' : Nat → Option (Nat × Nat)} {w : World} {v : Value} {sz n b i q : Nat} {e : TypeId} {f : Nat → List AV} (hv : Rep I own θ w v (.slice sz n f .exact)) (hb : Hg b i = q) (hi : i < Bq) (hq : own' q = some (.tok sz e n)) (hθ : θ' q = none) :
    Rep I own' θ' w v (.slice sz n f (.fam b i)) := by
  cases hv with
  | val v x h => obtain ⟨h, _⟩ := h.slice_inv; cases h
  | exact a n' s' f h' => exact .fam b i sz e _ _ _ _ _ hi (by rw [hb]; exact hq) (Nat.le_refl _) (fun _ => by rw [hb, hθ]) h'
section
variable {α : Type} {st : St} {r b k n sz : Nat} {e1 : TypeId}
theorem Aaf {I : Nat → Nat → Prop} {own : Nat → Option Own} {θ : Nat → Option (Nat × Nat)} {w : World} (h : E3 I own θ w) {s1 : Nat} {F : Nat → List AV} (hr : own r = some (.arr s1 e1 n F)) {i : Nat} (hi : i < n) : i < Bq := by
  have hm : maxLen < Bq := by decide
  obtain ⟨h1, h2⟩ := h.arr r _ _ _ _ hr
  cases hx : θ r with
  | none => have := h1 hx; omega
  | some y => obtain ⟨_, _, h3, h4, _⟩ := h2 y.1 y.2 hx; omega
theorem V1 (enc : α → List AV) (d : α) (L : List (List α)) (i : Nat) (e : TypeId) (hr : Ah st.own r = some (.arr 1 e1 n (Ct sz enc d L (Tag.fam b)))) (hb : Ah st.fam b = some ⟨sz, e, Cw L⟩) (hk : Ah st.own k = none) (hn : n = L.length) (hi : i < L.length)
    (ht : st.tmps.all (fun x => x.2.free (Ua b)) = true) (ho : OwnsFr (Ua b) r st.own) (hlr : Nat.blt r Bq = true := by rfl) (hlk : Nat.blt k Bq = true := by rfl) :
    Le Γ st ⟨st.tmps, D5 (D5 st.own r (.arr 1 e1 n (Ct sz enc d L (Dd b i k)))) k (.tok sz e (L.getD i []).length), D5 st.fam b ⟨sz, e, Jp L i⟩⟩ := by
  intro I θ a w h
  have hlr : r < Bq := by simpa [Nat.blt_eq] using hlr
  have hlk : k < Bq := by simpa [Nat.blt_eq] using hlk
  have hr' : st.sto.own r = some (.arr 1 e1 n (Ct sz enc d L (Tag.fam b))) := (Ba hlr).trans hr; have hk' : st.sto.own k = none := (Ba hlk).trans hk; have hib : i < Bq := Aaf h.chg.rel hr' (by omega)
  have hp : st.sto.own (Hg b i) = some (.tok sz e (L.getD i []).length) := by
    show Cm _ _ _ = _
    rw [Rn hib, hb]; simp [Cw, hi]
  have hkb : k ≠ Hg b i := fun he => by rw [he] at hlk; exact F1 b i hlk
  have hrb : r ≠ Hg b i := fun he => by rw [he] at hlr; exact F1 b i hlr
  have hown : (⟨st.tmps, D5 (D5 st.own r (.arr 1 e1 n (Ct sz enc d L (Dd b i k)))) k (.tok sz e (L.getD i []).length), D5 st.fam b ⟨sz, e, Jp L i⟩⟩ : St).sto.own =
      fun x => if x = k then some (.tok sz e (L.getD i []).length) else if x = Hg b i then none else if x = r then some (.arr 1 e1 n (Ct sz enc d L (Dd b i k))) else st.sto.own x := by
    funext x
    show Cm (D5 (D5 st.own r _) k _) (D5 st.fam b _) x = if x = k then _ else if x = Hg b i then none else if x = r then _ else Cm st.own st.fam x
    by_cases hx : x < Bq
    · have h1 : x ≠ Hg b i := fun he => by rw [he] at hx; exact F1 b i hx
      rw [Ba hx, Ba hx, Ed, Ed]; simp only [eq_comm (a := k), eq_comm (a := r), h1, if_false]
    · have h1 : x ≠ k := by rintro rfl; exact hx hlk
      have h2 : x ≠ r := by rintro rfl; exact hx hlr
      rw [Ci hx, Ci hx, Ed, if_neg h1, if_neg h2]
      by_cases hd : b = x / Bq - 1
      · have hxe := big_of hx; rw [← hd] at hxe
        by_cases hm : x % Bq = i
        · rw [hm] at hxe; rw [if_pos hd, if_pos hxe, hm]; simp [Jp]
        · have h3 : x ≠ Hg b i := fun he => hm (by rw [he, Iv hib]); rw [if_pos hd, if_neg h3, ← hd, hb]; simp [Jp, hm]
      · have h3 : x ≠ Hg b i := fun he => hd (by rw [he, Kr hib]); rw [if_neg hd, if_neg h3]
  let θ' : Nat → Option (Nat × Nat) := fun x => if x = k then θ (Hg b i) else if x = Hg b i then none else θ x
  refine ⟨I, θ', ?_⟩; have hrr := R3 (θ' := θ') h hp hk' hr' (by cases hx : Γ.own0 (Hg b i) with | none => rfl | some o => exact (F1 b i (Γ.lt0 _ (by rw [hx]; simp))).elim)
    (fun t => tmps_fr (fun x hx => fr_fam hib hx) ht t) (fun nm o hne ho' => ho.sto (fun x hx => fr_fam hib hx) hne ho') hown rfl (fun j _ => rfl) (fun j c v hj hc hv => ?_)
  · exact hrr
  · obtain rfl : c = 0 := by omega
    show Rep I _ θ' w v (.slice sz _ _ (Dd b i k j))
    replace hv : Rep I st.sto.own θ w v (.slice sz (L.getD j []).length (fun i_ => enc ((L.getD j []).getD i_ d)) (.fam b j)) := hv
    cases hji : Nat.beq j i with
    | true =>
      have := Nat.eq_of_beq_eq_true hji; subst this; rw [show Dd b j k j = .own k by simp [Dd]]; exact rep_out hv rfl hp ((congrFun hown k).trans (if_pos rfl)) (if_pos rfl)
    | false =>
      have hne : j ≠ i := by rintro rfl; simp at hji
      rw [show Dd b i k j = .fam b j by simp [Dd, hji]]; have h3 : j < Bq → Hg b j ≠ Hg b i := fun hi' he => hne (by rw [← Iv (b := b) hi', he, Iv hib])
      have h4 : Hg b j ≠ k := fun he => by rw [← he] at hlk; exact F1 b j hlk
      have h5 : Hg b j ≠ r := fun he => by rw [← he] at hlr; exact F1 b j hlr
      exact W0 hv rfl (fun hi' => (congrFun hown _).trans ((if_neg h4).trans ((if_neg (h3 hi')).trans (if_neg h5)))) (fun hi' => (if_neg h4).trans (if_neg (h3 hi')))
theorem Z4 (enc : α → List AV) (d : α) (L : List (List α)) (i : Nat) (x : List α) (e : TypeId) {F : Nat → List AV} {m : Nat} (hr : Ah st.own r = some (.arr 1 e1 n F)) (hF : ∀ j, j < n → F j = Ct sz enc d (L.set i x) (Dd b i k) j) (hb : Ah st.fam b = some ⟨sz, e, Jp L i⟩) (hk : Ah st.own k = some (.tok sz e m)) (hm : m = x.length) (hn : n = L.length) (hi : i < L.length)
    (ht : st.tmps.all (fun x => x.2.free (Wm k)) = true) (ho : OwnsFr (Wm k) r st.own) (h0 : Γ.own0 k = none) (hlr : Nat.blt r Bq = true := by rfl) (hlk : Nat.blt k Bq = true := by rfl) :
    Le Γ st ⟨st.tmps, remA (D5 st.own r (.arr 1 e1 n (Ct sz enc d (L.set i x) (Tag.fam b)))) k, D5 st.fam b ⟨sz, e, Cw (L.set i x)⟩⟩ := by
  intro I θ a w h
  have hlr : r < Bq := by simpa [Nat.blt_eq] using hlr
  have hlk : k < Bq := by simpa [Nat.blt_eq] using hlk
  have hr' : st.sto.own r = some (.arr 1 e1 n F) := (Ba hlr).trans hr; have hk' : st.sto.own k = some (.tok sz e m) := (Ba hlk).trans hk; have hib : i < Bq := Aaf h.chg.rel hr' (by omega)
  have hp : st.sto.own (Hg b i) = none := by
    show Cm _ _ _ = _
    rw [Rn hib, hb]; simp [Jp]
  have hgi : (L.set i x).getD i [] = x := by simp [List.getD, hi]
  have hgj : ∀ j, j ≠ i → (L.set i x).getD j [] = L.getD j [] := fun j hj => by simp [List.getD, Ne.symm hj]
  have hkr : k ≠ r := by rintro rfl; rw [hk] at hr; cases hr
  have hkb : k ≠ Hg b i := fun he => by rw [he] at hlk; exact F1 b i hlk
  have hown : (⟨st.tmps, remA (D5 st.own r (.arr 1 e1 n (Ct sz enc d (L.set i x) (Tag.fam b)))) k, D5 st.fam b ⟨sz, e, Cw (L.set i x)⟩⟩ : St).sto.own =
      fun y => if y = Hg b i then some (.tok sz e m) else if y = k then none else if y = r then some (.arr 1 e1 n (Ct sz enc d (L.set i x) (Tag.fam b))) else st.sto.own y := by
    funext y
    show Cm (remA (D5 st.own r _) k) (D5 st.fam b _) y = if y = Hg b i then _ else if y = k then none else if y = r then _ else Cm st.own st.fam y
    by_cases hx : y < Bq
    · have h1 : y ≠ Hg b i := fun he => by rw [he] at hx; exact F1 b i hx
      rw [Ba hx, Ba hx, look_remA, Ed]; simp only [eq_comm (a := k), eq_comm (a := r), h1, if_false]
    · have h1 : y ≠ k := by rintro rfl; exact hx hlk
      have h2 : y ≠ r := by rintro rfl; exact hx hlr
      rw [Ci hx, Ci hx, Ed, if_neg h1, if_neg h2]
      by_cases hd : b = y / Bq - 1
      · have hxe := big_of hx; rw [← hd] at hxe
        by_cases hm' : y % Bq = i
        · rw [hm'] at hxe; rw [if_pos hd, if_pos hxe, hm', Option.bind_some]
          show (Cw (L.set i x) i).map _ = _
          simp only [Cw, List.length_set, hi, if_true, hgi, hm, Option.map_some]
        · have h3 : y ≠ Hg b i := fun he => hm' (by rw [he, Iv hib]); rw [if_pos hd, if_neg h3, ← hd, hb]; simp only [Option.bind_some, Jp, hm', if_false, Cw, List.length_set, hgj _ hm']
      · have h3 : y ≠ Hg b i := fun he => hd (by rw [he, Kr hib]); rw [if_neg hd, if_neg h3]
  let θ' : Nat → Option (Nat × Nat) := fun y => if y = Hg b i then θ k else if y = k then none else θ y
  refine ⟨I, θ', ?_⟩; have hrr := R3 (θ' := θ') h hk' hp hr' h0 (fun t => tmps_fr (fun x hx => fr_own hlk hx) ht t) (fun nm o hne ho' => ho.sto (fun x hx => fr_own hlk hx) hne ho') hown rfl
    (fun j hj => by rw [hF j hj]; rfl) (fun j c v hj hc hv => ?_)
  · exact hrr
  · obtain rfl : c = 0 := by omega
    rw [hF j hj] at hv
    show Rep I _ θ' w v (.slice sz _ _ (.fam b j))
    replace hv : Rep I st.sto.own θ w v (.slice sz ((L.set i x).getD j []).length (fun i_ => enc (((L.set i x).getD j []).getD i_ d)) (Dd b i k j)) := hv
    cases hji : Nat.beq j i with
    | true =>
      have := Nat.eq_of_beq_eq_true hji; subst this; rw [show Dd b j k j = .own k by simp [Dd]] at hv; exact rep_back hv rfl hib hk' ((congrFun hown _).trans (if_pos rfl)) (if_pos rfl)
    | false =>
      have hne : j ≠ i := by rintro rfl; simp at hji
      rw [show Dd b i k j = .fam b j by simp [Dd, hji]] at hv; have h3 : j < Bq → Hg b j ≠ Hg b i := fun hi' he => hne (by rw [← Iv (b := b) hi', he, Iv hib])
      have h4 : Hg b j ≠ k := fun he => by rw [← he] at hlk; exact F1 b j hlk
      have h5 : Hg b j ≠ r := fun he => by rw [← he] at hlr; exact F1 b j hlr
      exact W0 hv rfl (fun hi' => (congrFun hown _).trans ((if_neg (h3 hi')).trans ((if_neg h4).trans (if_neg h5)))) (fun hi' => (if_neg (h3 hi')).trans (if_neg h4))
theorem Rs (enc : α → List AV) (d : α) (L : List (List α)) (e : TypeId) (hr : Ah st.own r = some (.arr 1 e1 n (Ct sz enc d L (fun _ => .exact)))) (hb : Ah st.fam b = none) (hn : n = L.length) (h8 : e = M2 → ∀ j, (L.getD j []).length = 0) (hlr : Nat.blt r Bq = true := by rfl) :
    Le Γ st ⟨st.tmps, D5 st.own r (.arr 1 e1 n (Ct sz enc d L (Tag.fam b))), D5 st.fam b ⟨sz, e, Cw L⟩⟩ := by
  intro I θ a w h
  have hlr : r < Bq := by simpa [Nat.blt_eq] using hlr
  have hr' : st.sto.own r = some (.arr 1 e1 n (Ct sz enc d L (fun _ => .exact))) := (Ba hlr).trans hr
  let S : Nat → Option (Nat × TypeId × Nat) := fun x => if x < Bq then none else if b = x / Bq - 1 then (Cw L (x % Bq)).map fun m => (sz, e, m) else none
  have hown : (⟨st.tmps, D5 st.own r (.arr 1 e1 n (Ct sz enc d L (Tag.fam b))), D5 st.fam b ⟨sz, e, Cw L⟩⟩ : St).sto.own =
      fun x => match S x with | some y => some (.tok y.1 y.2.1 y.2.2) | none => if x = r then some (.arr 1 e1 n (Ct sz enc d L (Tag.fam b))) else st.sto.own x := by
    funext x
    show Cm (D5 st.own r _) (D5 st.fam b _) x = match S x with | some y => _ | none => if x = r then _ else Cm st.own st.fam x
    by_cases hx : x < Bq
    · have : S x = none := by simp [S, hx]
      rw [Ba hx, Ba hx, Ed, this]; simp only [eq_comm (a := r)]
    · have h2 : x ≠ r := by rintro rfl; exact hx hlr
      rw [Ci hx, Ci hx, Ed]
      by_cases hd : b = x / Bq - 1
      · have : S x = (Cw L (x % Bq)).map fun m => (sz, e, m) := by simp only [S, hx, if_false, if_pos hd]
        rw [if_pos hd, this, if_neg h2, ← hd, hb]; simp only [Option.bind_some]
        cases Cw L (x % Bq) <;> rfl
      · have : S x = none := by simp only [S, hx, if_false, if_neg hd]
        rw [if_neg hd, this, if_neg h2]
  have hS : ∀ x y, S x = some y → st.sto.own x = none := fun x y hx => by
    by_cases h1 : x < Bq
    · simp [S, h1] at hx
    · by_cases hd : b = x / Bq - 1
      · show Cm _ _ x = none
        rw [Ci h1, ← hd, hb]; rfl
      · simp only [S, h1, if_false, if_neg hd] at hx; cases hx
  refine ⟨I, _, Aah h hr' hS (fun x s m hx => ?_) hown rfl (fun j _ => rfl) (fun j c v hj hc hv => ?_)⟩
  · by_cases h1 : x < Bq
    · simp [S, h1] at hx
    · by_cases hd : b = x / Bq - 1
      · simp only [S, h1, if_false, if_pos hd] at hx; obtain ⟨m', hm', he⟩ := Option.map_eq_some_iff.1 hx; simp only [Prod.mk.injEq] at he; obtain ⟨_, he, rfl⟩ := he; unfold Cw at hm'
        split at hm'
        · simp only [Option.some.injEq] at hm'; rw [← hm']; exact h8 he _
        · cases hm'
      · simp only [S, h1, if_false, if_neg hd] at hx; cases hx
  · obtain rfl : c = 0 := by omega
    have hjb : j < Bq := Aaf h.chg.rel hr' hj; replace hv : Rep I st.sto.own θ w v (.slice sz (L.getD j []).length (fun i_ => enc ((L.getD j []).getD i_ d)) .exact) := hv
    show Rep I _ _ w v (.slice sz (L.getD j []).length (fun i_ => enc ((L.getD j []).getD i_ d)) (.fam b j))
    have hSj : S (Hg b j) = some (sz, e, (L.getD j []).length) := by
      simp only [S, F1 b j, if_false, Kr hjb, if_true, Iv hjb, Cw]; rw [if_pos (by omega)]; rfl
    exact rep_new hv rfl hjb ((congrFun hown _).trans (by rw [hSj])) (by rw [hSj])
end
end
theorem Pc {α : Type} {sz b i k : Nat} {e : α → List AV} {d : α} {l : List α} : AVle (AV.list sz e d l (Dd b i k i)) (AV.list sz e d l (.own k)) := by
  have : Dd b i k i = .own k := by simp [Dd]
  rw [this]; exact AVle.refl _
theorem R4 {α : Type} {sz b i k k0 : Nat} {e : α → List AV} {d : α} {L : List (List α)} {x : List α} {n : Nat} {keep : Nat → Bool} (hi : i < L.length) (hk : keep k = true) (hb : keep b = true) :
    ∀ j, j < n → AV.eraseAll keep (E6 (Ct sz e d L (Dd b i k0)) i 0 [AV.list sz e d x (.own k)] j) = Ct sz e d (L.set i x) (Dd b i k) j := fun j _ => by
  unfold E6
  cases hji : Nat.beq j i with
  | true =>
    have := Nat.eq_of_beq_eq_true hji; subst this; simp [Ct, AV.eraseAll, AV.erase, AV.list, Dd, hk, List.getD, hi]
  | false =>
    have hne : i ≠ j := by rintro rfl; simp at hji
    simp [Ct, AV.eraseAll, AV.erase, AV.list, Dd, hji, hb, List.getD, hne]
theorem X2 {α : Type} {sz n : Nat} {e : α → List AV} {d : α} {keep : Nat → Bool} : ∀ k, k < n → AVleL (AV.eraseAll keep [.slice 0 0 (fun _ => []) .exact]) (Ct sz e d (List.replicate n []) (fun _ => .exact) k) := fun k hk => by
  have : (List.replicate n ([] : List α)).getD k [] = [] := by simp [List.getD, hk]
  unfold Ct; rw [this]; exact .cons D2 .nil
theorem Kn {n sz : Nat} {f : Nat → List AV} (hf : ∀ i, i < n → (f i).length = sz) : ∀ k, k < n → ((Gw n f).drop (k * sz)).take sz = f k := fun k hk => by
  have hl := Mr hf; have h1 : (k + 1) * sz ≤ n * sz := Nat.mul_le_mul_right _ hk; rw [Nat.add_mul] at h1
  apply List.ext_getElem
  · rw [List.length_take, List.length_drop, hl, hf k hk]; omega
  · intro j h2 h3
    have hj : j < sz := by rw [hf k hk] at h3; exact h3
    have := Md hf k j hk hj; rw [List.getElem_take, List.getElem_drop]; rw [List.getD_eq_getElem?_getD, List.getElem?_eq_getElem (by omega), List.getD_eq_getElem?_getD, List.getElem?_eq_getElem h3] at this
    simpa using this
mutual
def AV.freeN (r : Nat) : AV → Bool
  | .vsl nm _ => !Nat.beq nm r
  | .vpt nm _ _ _ => !Nat.beq nm r
  | .vsub nm _ _ _ => !Nat.beq nm r
  | .clo _ xs ys => AV.freeNAll r xs && AV.freeNAll r ys
  | .agg cs => AV.freeNAll r cs
  | .tuple cs => AV.freeNAll r cs
  | .cond _ x => x.freeN r
  | _ => true
def AV.freeNAll (r : Nat) : List AV → Bool
  | [] => true
  | x :: l => x.freeN r && AV.freeNAll r l
end
theorem Ep {r : Nat} {l : List AV} (h : AV.freeNAll r l = true) (j : Nat) : (l.getD j .any).freeN r = true := by
  induction l generalizing j with
  | nil => simp [AV.freeN]
  | cons x l ih =>
    simp only [AV.freeNAll, Bool.and_eq_true] at h
    cases j with
    | zero => simpa using h.1
    | succ j => simpa using ih h.2 j
theorem rep_freeN {I : Nat → Nat → Prop} {own own' : Nat → Option Own} {θ : Nat → Option (Nat × Nat)} {w : World} {v : Value} {x : AV} {r : Nat} (h : Rep I own θ w v x) (hx : x.freeN r = true) (hr : ∃ sz e m f, own r = some (.arr sz e m f))
    (ho : ∀ nm, nm ≠ r → own' nm = own nm) : Rep I own' θ w v x := by
  obtain ⟨s0, e0, m0, f0, hr⟩ := hr
  have hne : ∀ {nm o}, own nm = some o → (∀ sz e m f, o ≠ .arr sz e m f) → own' nm = some o := fun {nm o} hn hh => by
    rw [ho nm (by rintro rfl; rw [hr] at hn; exact hh _ _ _ _ (OI hn).symm)]; exact hn
  have hbq : ∀ {nm : Nat}, (!Nat.beq nm r) = true → nm ≠ r := fun h e => by subst e; simp at h
  induction h with
  | val v x h => exact .val v x h
  | exact a n sz f h => exact .exact a n sz f h
  | own nm sz e m a n cap f hn hm hv h => exact .own nm sz e m a n cap f (hne hn (fun _ _ _ _ h => by cases h)) hm hv h
  | fam b i sz e m a n cap f hi hn hm hv h => exact .fam b i sz e m a n cap f hi (hne hn (fun _ _ _ _ h => by cases h)) hm hv h
  | ptr nm off e cells g c hn hg => exact .ptr nm off e cells g c (hne hn (fun _ _ _ _ h => by cases h)) hg
  | vsl nm sz e m f a n cap hn hm hcap hmax hnn hv => exact .vsl nm sz e m f a n cap ((ho nm (hbq hx)).trans hn) hm hcap hmax hnn hv
  | vpt nm sz e m f n i j ad hn hm hi hv => exact .vpt nm sz e m f n i j ad ((ho nm (hbq hx)).trans hn) hm hi hv
  | clo f fs cs xs ys hl hl' _ _ ih ih' =>
    simp only [AV.freeN, Bool.and_eq_true] at hx; exact .clo f fs cs xs ys hl hl' (fun j hj => ih j hj (Ep hx.1 j)) (fun j hj => ih' j hj (Ep hx.2 j))
  | optr nm mm x g c hn hg => exact .optr nm mm x g c (hne hn (fun _ _ _ _ h => by cases h)) hg
  | omap nm x hn => exact .omap nm x (hne hn (fun _ _ _ _ h => by cases h))
  | vsub nm sz e m f n lo hi a cap hn hm hlo hhi hcap hmax hnn hv => exact .vsub nm sz e m f n lo hi a cap ((ho nm (hbq hx)).trans hn) hm hlo hhi hcap hmax hnn hv
  | cond v c x _ h' ih => exact .cond v c x (fun hc => ih hc hx) h'
  | agg vs cs hl h1 _ ih => exact .agg vs cs hl h1 (fun j hj => ih j hj (Ep hx j))
  | tuple vs cs hl _ ih => exact .tuple vs cs hl (fun j hj => ih j hj (Ep hx j))
inductive OwnsFrN (r : Nat) : List (Nat × Own) → Prop
  | nil : OwnsFrN r []
  | row {nm : Nat} {e : TypeId} {cells : List AV} {l : List (Nat × Own)} (h : AV.freeNAll r cells = true) (t : OwnsFrN r l) : OwnsFrN r ((nm, .row e cells) :: l)
  | arr {nm sz m : Nat} {e : TypeId} {f : Nat → List AV} {l : List (Nat × Own)} (h : ∀ j, AV.freeNAll r (f j) = true) (t : OwnsFrN r l) : OwnsFrN r ((nm, .arr sz e m f) :: l)
  | tok {nm sz m : Nat} {e : TypeId} {l : List (Nat × Own)} (t : OwnsFrN r l) : OwnsFrN r ((nm, .tok sz e m) :: l)
  | obj {nm : Nat} {x : AObj} {l : List (Nat × Own)} (t : OwnsFrN r l) (h : x.Al (fun y => y.freeN r = true) := by first | trivial | rfl) : OwnsFrN r ((nm, .obj x) :: l)
def OwnN (r : Nat) : Own → Prop
  | .row _ cells => AV.freeNAll r cells = true
  | .arr _ _ _ f => ∀ j, AV.freeNAll r (f j) = true
  | .obj x => x.Al (fun y => y.freeN r = true)
  | .tok .. => True
theorem OwnsFrN.get {r : Nat} {l : List (Nat × Own)} (h : OwnsFrN r l) {nm : Nat} {o : Own} (ho : Ah l nm = some o) : OwnN r o := by
  induction h with
  | nil => cases ho
  | @row k e cells l h _ ih =>
    simp only [Ah] at ho
    cases hb : Nat.beq k nm with
    | true => rw [hb] at ho; simp only [cond_true, Option.some.injEq] at ho; subst ho; exact h
    | false => rw [hb] at ho; exact ih ho
  | @arr k sz m e f l h _ ih =>
    simp only [Ah] at ho
    cases hb : Nat.beq k nm with
    | true => rw [hb] at ho; simp only [cond_true, Option.some.injEq] at ho; subst ho; exact h
    | false => rw [hb] at ho; exact ih ho
  | @tok k sz m e l _ ih =>
    simp only [Ah] at ho
    cases hb : Nat.beq k nm with
    | true => rw [hb] at ho; simp only [cond_true, Option.some.injEq] at ho; subst ho; trivial
    | false => rw [hb] at ho; exact ih ho
  | @obj k x l _ h ih =>
    simp only [Ah] at ho
    cases hb : Nat.beq k nm with
    | true => rw [hb] at ho; simp only [cond_true, Option.some.injEq] at ho; subst ho; exact h
    | false => rw [hb] at ho; exact ih ho
theorem Og {Γ : Ic} {st : St} {t r s n k : Nat} {e : TypeId} {f : Nat → List AV} (hs : st.get t = .vsub r n 0 k) (hr : Ah st.own r = some (.arr s e n f)) (hk : k ≤ n)
    (ht : (st.tmps.all fun x => Nat.beq x.1 t || x.2.freeN r) = true) (ho : OwnsFrN r st.own) (h0 : Γ.own0 r = none) (hlt : Nat.blt r Bq = true := by rfl) (hB : arrB e = false := by rfl) :
    Le Γ st ⟨D5 st.tmps t (.vsl r k), D5 st.own r (.arr s e k f), st.fam⟩ := by
  intro I θ a w h
  have hlt : r < Bq := by simpa [Nat.blt_eq] using hlt
  have hr' : st.sto.own r = some (.arr s e n f) := (Ba hlt).trans hr
  have hown : (⟨D5 st.tmps t (.vsl r k), D5 st.own r (.arr s e k f), st.fam⟩ : St).sto.own = Az st.sto.own r (.arr s e k f) := by
    funext x
    show Cm (D5 st.own r _) _ x = _
    rw [L1 hlt]; simp only [Az]
    by_cases hx : r = x
    · subst hx; simp
    · simp [hx, Ne.symm hx]; rfl
  have hsame : ∀ nm, nm ≠ r → Az st.sto.own r (.arr s e k f) nm = st.sto.own nm := fun nm hn => by simp [Az, hn]
  have hT : ∀ v x, x.freeN r = true → Rep I st.sto.own θ w v x → Rep I (Az st.sto.own r (.arr s e k f)) θ w v x := fun v x hx hv => rep_freeN hv hx ⟨_, _, _, _, hr'⟩ hsame; have hrel := h.chg.rel
  have hrows : ∀ nm o, st.sto.own nm = some o → OwnN r o := fun nm o hn => by
    by_cases hl : nm < Bq
    · exact ho.get ((Ba hl).symm.trans hn)
    · obtain ⟨_, _, _, rfl⟩ := Kd hl hn; trivial
  have hget : ∀ t', (⟨D5 st.tmps t (.vsl r k), D5 st.own r (.arr s e k f), st.fam⟩ : St).sto.tmp t' = if t = t' then .vsl r k else st.get t' := fun t' => by
    show (match Ah (D5 st.tmps t _) t' with | some x => x | none => .any) = _
    rw [Ed]
    by_cases hk : t = t'
    · simp [hk]
    · simp [hk]; rfl
  refine ⟨I, θ, h.size, h.defers, fun t' => ?_, ?_⟩
  · rw [hown, hget]
    split
    · rename_i htt
      subst htt; have hv := h.slots t
      have hv' : Rep I st.sto.own θ w (a.tmps.getD t undef) (.vsub r n 0 k) := by rw [← hs]; exact hv
      obtain ⟨sz, e', m, f', ad, cap, he, ho', hm, _, hhi, hcap, hmax, hn, hvv⟩ := hv'.vsub_inv; rw [hr'] at ho'; simp only [Option.some.injEq, Own.arr.injEq] at ho'; obtain ⟨rfl, rfl, rfl, rfl⟩ := ho'; rw [he]; refine .vsl r s e k f ad _ cap (by simp [Az]) (Nat.le_refl _) hcap hmax hn (fun _ => ?_); have hz := (hvv rfl).2 rfl
      cases hθ : θ r with
      | none => rw [hθ] at hz; have := (hrel.arr r _ _ _ _ hr').1 hθ; simp only at hz ⊢; omega
      | some gc => rw [hθ] at hz; exact ⟨hz.1, hz.2.resolve_right (by rw [hB]; decide)⟩
    · rename_i htt
      have hx : (st.get t').freeN r = true := by
        unfold St.get
        cases hl : Ah st.tmps t' with
        | none => rfl
        | some x =>
          have := List.all_eq_true.1 ht _ (Pi hl); simp only [Bool.or_eq_true] at this; rcases this with h' | h'
          · exact (htt (Nat.eq_of_beq_eq_true h').symm).elim
          · exact h'
      exact hT _ _ hx (h.slots t')
  · rw [hown]; refine { h.chg with le := fun nm o hno => ?_, rel := ⟨fun nm e0 cells hn => ?_, fun nm s' e' m' hn g c hg => ?_, fun nm nm' g c c' hn hn' hg hg' => ?_, fun nm s' e' m' f' hn => ?_, fun nm x hn => ?_, fun nm s' m' hn hnn => ?_⟩, new := fun nm g c hn hg => ?_ }
    · obtain ⟨o', ho', hl⟩ := h.chg.le nm o hno; exact ⟨o', (hsame nm (by rintro rfl; rw [h0] at hno; cases hno)).trans ho', hl⟩
    · have hne : nm ≠ r := by rintro rfl; simp [Az] at hn
      rw [hsame nm hne] at hn; obtain ⟨g, c, vs, r1, r2, r3, r4, r5, r6⟩ := hrel.row nm e0 cells hn; exact ⟨g, c, vs, r1, r2, r3, r4, fun j hj => hT _ _ (Ep (hrows nm _ hn) j) (r5 j hj), r6⟩
    · have hne : nm ≠ r := by rintro rfl; simp [Az] at hn
      rw [hsame nm hne] at hn; exact hrel.tok nm _ _ _ hn g c hg
    · have hx : ∀ nm, Az st.sto.own r (.arr s e k f) nm ≠ none → st.sto.own nm ≠ none := fun nm hn => by
        by_cases hne : nm = r
        · subst hne; rw [hr']; simp
        · rwa [hsame nm hne] at hn
      exact hrel.inj nm nm' g c c' (hx nm hn) (hx nm' hn') hg hg'
    · by_cases hne : nm = r
      · subst hne; simp only [Az, if_true, Option.some.injEq, Own.arr.injEq] at hn; obtain ⟨rfl, rfl, rfl, rfl⟩ := hn; obtain ⟨q0, q1⟩ := hrel.arr nm _ _ _ _ hr'; refine ⟨fun hθ => by have := q0 hθ; omega, fun g c hg => ?_⟩; obtain ⟨cur, p1, p2, p3, p4, p5, p6, p7⟩ := q1 g c hg; exact ⟨cur, p1, by omega, p3, p4, fun i hi => p5 i (by omega), fun i j hi hj => ⟨(p6 i j (by omega) hj).1, hT _ _ (Ep (hrows nm _ hr' i) j) (p6 i j (by omega) hj).2⟩, p7⟩
      · rw [hsame nm hne] at hn; exact L7 (hrel.arr nm _ _ _ _ hn) rfl (fun _ _ => rfl) (fun i j v _ _ hv => hT _ _ (Ep (hrows nm _ hn i) j) hv)
    · have hne : nm ≠ r := by rintro rfl; simp [Az] at hn
      rw [hsame nm hne] at hn; exact Gb (hrel.obj nm _ hn) rfl (fun _ _ _ => rfl) (fun _ _ _ _ h => h) (fun _ hh => hh.al (P := fun y => y.freeN r = true) (hrows nm _ hn) (fun _ _ h => h) (fun _ _ _ => rfl) fun v y hy hv => hT v y hy hv) Nc
    · have hne : nm ≠ r := by rintro rfl; simp [Az] at hn
      rw [hsame nm hne] at hn; exact hrel.tok8 nm _ _ hn hnn
    · have hx : st.sto.own nm ≠ none := by
        by_cases hne : nm = r
        · subst hne; rw [hr']; simp
        · rwa [hsame nm hne] at hn
      exact h.chg.new nm g c hx hg
theorem Qj {α : Type} {e : α → List AV} {d : α} {l : List α} {k : Nat} : ∀ i, i < 0 + k → AVleL (e (l.getD i d)) (e ((l.take k).getD i d)) := fun i hi => by
  have : (l.take k).getD i d = l.getD i d := by simp [List.getD, show i < k by omega]
  rw [this]; exact .refl _
theorem Ok {α : Type} {l : List α} {k : Nat} (h : 0 + k ≤ l.length) : 0 + k = (l.take k).length := by simp; omega
theorem pw_nil {f g : Nat → List AV} : ∀ k, k < 0 → f k = g k := fun _ h => by omega
theorem pw_snoc {n : Nat} {f g : Nat → List AV} (h : ∀ k, k < n → f k = g k) (h' : f n = g n) : ∀ k, k < n + 1 → f k = g k := fun k hk => by
  by_cases hkn : k = n
  · subst hkn; exact h'
  · exact h k (by omega)
theorem H7 {α : Type} {keep : Nat → Bool} {e : α → List AV} {d : α} {z : List AV} {N sz : Nat} (hz : z.length = sz) (h : z = e d) (hk : AV.eraseAll keep z = z) : ∀ k, k < N → AVleL (AV.eraseAll keep ((((List.replicate N z).flatten).drop (k * sz)).take sz)) (e ((List.replicate N d).getD k d)) := fun k hk' => by
  have : (List.replicate N d).getD k d = d := by simp [List.getD, hk']
  rw [Qx z sz hz N k hk', this, hk, h]; exact .refl _
section
variable {α : Type} {g : Bool} {a b : List α}
theorem Aam : (bif g then a.length else b.length) = (bif g then a else b).length := by cases g <;> rfl
theorem bif_row {e : α → List AV} {d : α} {k : Nat} : (bif g then e (a.getD k d) else e (b.getD k d)) = e ((bif g then a else b).getD k d) := by cases g <;> rfl
theorem bif_was (h : g = true → b.length = a.length) : b.length = (bif g then a else b).length := by
  cases g with
  | false => rfl
  | true => exact h rfl
end
section
variable {V : Type} {f : V → AV} {l : List (Int × V)} {r : List (Int × AV)} {k : Int}
end
def E8 {α : Type} (N : Nat) (d : α) (l : List α) : List α := (List.range N).map fun j => l.getD j d
theorem padN_len {α : Type} {N : Nat} {d : α} {l : List α} : (E8 N d l).length = N := by simp [E8]
theorem Vk {α : Type} {N i : Nat} {d : α} {l : List α} (h : i < N) : i < (E8 N d l).length := by rw [padN_len]; exact h
theorem T4 {α : Type} {N k : Nat} {d : α} {l : List α} (h : k < N) : (E8 N d l).getD k d = l.getD k d := by simp [E8, List.getD, h]
theorem Ub {α : Type} {N : Nat} {d : α} {l : List α} (h : l.length = N) : l = E8 N d l := by
  apply List.ext_getElem
  · rw [padN_len, h]
  · intro j h1 h2; simp [E8, List.getD, h1]
theorem U7 {α : Type} {N sz : Nat} {e : α → List AV} {d : α} {keep : Nat → Bool} : ∀ k, k < N → AVleL (AV.eraseAll keep ((((List.replicate N [AV.slice 0 0 (fun _ => []) .exact]).flatten).drop (k * 1)).take 1)) (Ct sz e d (E8 N [] (List.replicate N [])) (fun _ => .exact) k) := fun k hk => by
  rw [Qx _ 1 rfl N k hk]; unfold Ct; rw [T4 hk, show (List.replicate N ([] : List α)).getD k [] = [] from by simp [List.getD, hk]]; exact .cons D2 .nil
theorem W4 {f g : Nat → List AV} : ∀ {n : Nat}, (∀ k, k < n → AVleL (f k) (g k)) → AVleL (Gw n f) (Gw n g)
  | 0, _ => .nil
  | n + 1, h => by
    have happ : ∀ {a b c d : List AV}, AVleL a b → AVleL c d → AVleL (a ++ c) (b ++ d) := fun h1 h2 => by
      induction h1 with
      | nil => exact h2
      | cons hx _ ih => exact .cons hx ih
    unfold Gw; rw [List.range_succ, List.flatMap_append, List.flatMap_append]; refine happ (W4 (n := n) fun k hk => h k (by omega)) ?_
    simpa using h n (by omega)
theorem Vg {α : Type} {N sz : Nat} {e : α → List AV} {d : α} {l : List (List α)} {t : Nat → Tag} {ys : List AV} (hy : ys = Gw N fun i => [AV.list sz e d (l.getD i []) .none]) :
    AVle (.agg (Gw N (Ct sz e d (E8 N [] l) t))) (.agg ys) := by
  subst hy; refine .agg (W4 fun k hk => ?_); unfold Ct; rw [T4 hk]; exact .cons .untag .nil
theorem flat_at {n k : Nat} {f : Nat → List AV} {ys : List AV} {y : AV} (hy : ys = Gw n f) (hf : ∀ i, i < n → (f i).length = 1) (h : k < n) (he : (f k).getD 0 .any = y) : AVle (ys.getD k .any) y := by
  subst hy he; have := Md hf k 0 h (by omega); simp only [Nat.mul_one, Nat.add_zero] at this; rw [this]; exact .refl _
end
end Go.Proofs.Ytjpacggpipflcaa

namespace Go.Proofs.Ytjpacggpipflcaa
noncomputable section
open Go Go.RowKit
set_option linter.unusedVariables false
section
variable {P : Program} {Γ : Ic} {σ : Sto} {I : Nat → Nat → Prop} {θ : Nat → Option (Nat × Nat)} {a : Act} {w : World} {o : Oper}
end
open Classical in
section
variable {P : Program} {Γ : Ic}
end
section
variable {P : Program} {Γ : Ic}
end
end
end Go.Proofs.Ytjpacggpipflcaa
