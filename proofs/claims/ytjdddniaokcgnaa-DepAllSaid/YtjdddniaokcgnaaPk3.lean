/-
  The machine, the program's functions and the laws' arithmetic: part 3 of 7.
-/
import Derived.Test.YtjdddniaokcgnaaPk2
import Derived.Shelf.SlSortCmp.NoneTotal
import Derived.Shelf.SlSortCmp.WholeK
import Derived.Shelf.SlicesG.Cmp
import Derived.Test.YtjdddniaokcgnaaProg
set_option linter.unusedVariables false
set_option linter.unusedSimpArgs false
namespace Go.Proofs.Ytjdddniaokcgnaa
noncomputable section
open Go Go.RowKit
set_option linter.unusedVariables false
section
variable {P : Program} {Γ : K2}
def M1 (nm : Nat) (k : Nat) : Bool := !Nat.beq k nm
mutual
def AV.frz (nm sz n : Nat) (g : Nat → List AV) : AV → AV
  | .slice s m f (.own k) => .slice s m f (bif Nat.beq k nm then .none else .own k)
  | .ptr k off => bif Nat.beq k nm then .any else .ptr k off
  | .vsl k j => bif Nat.beq k nm then .slice sz n g (.own nm) else .vsl k j
  | .vpt k j i c => bif Nat.beq k nm then .any else .vpt k j i c
  | .vsub k j l h => bif Nat.beq k nm then .any else .vsub k j l h
  | .optr k => bif Nat.beq k nm then .any else .optr k
  | .omap k => bif Nat.beq k nm then .any else .omap k
  | .clo f xs ys => .clo f (AV.frzAll nm sz n g xs) (AV.frzAll nm sz n g ys)
  | .agg cs => .agg (AV.frzAll nm sz n g cs)
  | .tuple cs => .tuple (AV.frzAll nm sz n g cs)
  | .cond c x => .cond c (x.frz nm sz n g)
  | x => x
def AV.frzAll (nm sz n : Nat) (g : Nat → List AV) : List AV → List AV
  | [] => []
  | x :: l => x.frz nm sz n g :: AV.frzAll nm sz n g l
end
mutual
def AV.wholes (nm n : Nat) : AV → List Prop
  | .vsl k j => bif Nat.beq k nm then [j = n] else []
  | .agg cs => AV.wholesAll nm n cs
  | .tuple cs => AV.wholesAll nm n cs
  | .cond _ x => x.wholes nm n
  | .clo _ xs ys => AV.wholesAll nm n xs ++ AV.wholesAll nm n ys
  | _ => []
def AV.wholesAll (nm n : Nat) : List AV → List Prop
  | [] => []
  | x :: l => x.wholes nm n ++ AV.wholesAll nm n l
end
mutual
def AV.frw (nm sz n : Nat) (g : Nat → List AV) : AV → AV
  | .slice s m f (.own k) => .slice s m f (bif M1 nm k then .own k else .none)
  | .slice s m f (.fam b i) => .slice s m f (bif M1 nm b then .fam b i else .none)
  | .ptr k off => bif M1 nm k then .ptr k off else .any
  | .vsl k j => bif M1 nm k then .vsl k j else bif Nat.beq j n then .slice sz n g .none else .any
  | .vpt k j i c => bif M1 nm k then .vpt k j i c else .any
  | .vsub k j l h => bif M1 nm k then .vsub k j l h else .any
  | .optr k => bif M1 nm k then .optr k else .any
  | .omap k => bif M1 nm k then .omap k else .any
  | .clo f xs ys => .clo f (AV.frwAll nm sz n g xs) (AV.frwAll nm sz n g ys)
  | .agg cs => .agg (AV.frwAll nm sz n g cs)
  | .tuple cs => .tuple (AV.frwAll nm sz n g cs)
  | .cond c x => .cond c (x.frw nm sz n g)
  | x => x
def AV.frwAll (nm sz n : Nat) (g : Nat → List AV) : List AV → List AV
  | [] => []
  | x :: l => x.frw nm sz n g :: AV.frwAll nm sz n g l
end
theorem D4 (nm sz n : Nat) (g : Nat → List AV) (l : List AV) : (AV.frwAll nm sz n g l).length = l.length := by induction l with | nil => rfl | cons x l ih => simp [AV.frwAll, ih]
theorem Ki (nm sz n : Nat) (g : Nat → List AV) (l : List AV) (j : Nat) : (AV.frwAll nm sz n g l).getD j .any = (l.getD j .any).frw nm sz n g := by
  induction l generalizing j with
  | nil => simp [AV.frwAll, AV.frw]
  | cons x l ih => cases j with
    | zero => simp [AV.frwAll]
    | succ j => simpa [AV.frwAll] using ih j
theorem RepV.frw {I : Nat → Nat → Prop} {w : World} {v : Value} {x : AV} (h : RepV I w v x) (nm sz n : Nat) (g : Nat → List AV) : RepV I w v (x.frw nm sz n g) := by
  induction h with
  | any v => exact .any v
  | undef => exact .undef
  | int k n => exact .int k n
  | bool b => exact .bool b
  | str s => exact .str s
  | clo f => exact .clo f
  | nxt1 i r => exact .nxt1 i r
  | nxt0 i r => exact .nxt0 i r
  | nilq b pos n h => exact .nilq b pos n h
  | err0 => exact .err0
  | err1 t v => exact .err1 t v
  | nilp => exact .nilp
  | nilm => exact .nilm
  | cond v c x _ h' ih => exact .cond v c _ ih h'
  | rptr a cells us hs hI' hc h1 hr _ => exact .rptr a cells us hs hI' hc h1 hr
  | slice a n cap sz f us hcap hmax hz hn h1 hl hr _ => exact .slice a n cap sz f us hcap hmax hz hn h1 hl hr
  | agg vs cs hl h1 _ ih => exact .agg vs _ (by rw [D4, hl]) (fun j hj => h1 j (by rwa [D4] at hj)) (fun j hj => by rw [Ki]; exact ih j (by rwa [D4] at hj))
  | tuple vs cs hl _ ih => exact .tuple vs _ (by rw [D4, hl]) (fun j hj => by rw [Ki]; exact ih j (by rwa [D4] at hj))
def Own.frz (nm sz n : Nat) (g : Nat → List AV) : Own → Own
  | .row e cells => .row e (AV.frzAll nm sz n g cells)
  | .arr s e m f => .arr s e m (fun i => AV.frwAll nm sz n g (f i))
  | .obj x => .obj (x.on (AV.frw nm sz n g))
  | .tok s e m => .tok s e m
def Own.wholes (nm n : Nat) : Own → List Prop
  | .row _ cells => AV.wholesAll nm n cells
  | _ => []
def St.wholes (st : St) (nm n : Nat) : List Prop := (st.tmps.map fun x => x.2.wholes nm n).flatten ++ (st.own.map fun x => x.2.wholes nm n).flatten
def St.freeze (st : St) (nm sz n : Nat) (e : TypeId) (g : Nat → List AV) : St :=
  ⟨st.tmps.map fun x => (x.1, x.2.frz nm sz n g), st.own.map fun x => (x.1, bif Nat.beq x.1 nm then .tok sz e n else x.2.frz nm sz n g), st.fam⟩
theorem Dj (nm sz n : Nat) (g : Nat → List AV) (l : List AV) : (AV.frzAll nm sz n g l).length = l.length := by induction l with | nil => rfl | cons x l ih => simp [AV.frzAll, ih]
theorem Kq (nm sz n : Nat) (g : Nat → List AV) (l : List AV) (j : Nat) : (AV.frzAll nm sz n g l).getD j .any = (l.getD j .any).frz nm sz n g := by
  induction l generalizing j with
  | nil => simp [AV.frzAll, AV.frz]
  | cons x l ih => cases j with
    | zero => simp [AV.frzAll]
    | succ j => simpa [AV.frzAll] using ih j
theorem Jj {nm n : Nat} {l : List AV} (h : ∀ p ∈ AV.wholesAll nm n l, p) (j : Nat) : ∀ p ∈ (l.getD j .any).wholes nm n, p := by
  induction l generalizing j with
  | nil => intro p hp; simp [AV.wholes] at hp
  | cons x l ih =>
    simp only [AV.wholesAll] at h
    cases j with
    | zero => intro p hp; exact h p (List.mem_append.2 (.inl (by simpa using hp)))
    | succ j => intro p hp; exact ih (fun q hq => h q (List.mem_append.2 (.inr hq))) j p (by simpa using hp)
theorem RepV.frz {I : Nat → Nat → Prop} {w : World} {v : Value} {x : AV} (h : RepV I w v x) (nm sz n : Nat) (g : Nat → List AV) : RepV I w v (x.frz nm sz n g) := by
  induction h with
  | any v => exact .any v
  | undef => exact .undef
  | int k n => exact .int k n
  | bool b => exact .bool b
  | str s => exact .str s
  | clo f => exact .clo f
  | nxt1 i r => exact .nxt1 i r
  | nxt0 i r => exact .nxt0 i r
  | nilq b pos n h => exact .nilq b pos n h
  | err0 => exact .err0
  | err1 t v => exact .err1 t v
  | nilp => exact .nilp
  | nilm => exact .nilm
  | cond v c x _ h' ih => exact .cond v c _ ih h'
  | rptr a cells us hs hI' hc h1 hr _ => exact .rptr a cells us hs hI' hc h1 hr
  | slice a n cap sz f us hcap hmax hz hn h1 hl hr _ => exact .slice a n cap sz f us hcap hmax hz hn h1 hl hr
  | agg vs cs hl h1 _ ih => exact .agg vs _ (by rw [Dj, hl]) (fun j hj => h1 j (by rwa [Dj] at hj)) (fun j hj => by rw [Kq]; exact ih j (by rwa [Dj] at hj))
  | tuple vs cs hl _ ih => exact .tuple vs _ (by rw [Dj, hl]) (fun j hj => by rw [Kq]; exact ih j (by rwa [Dj] at hj))
theorem Rep.frz {I I' : Nat → Nat → Prop} {own own' : Nat → Option Own} {θ : Nat → Option (Nat × Nat)} {w : World} {v : Value} {x : AV} {nm sz n : Nat} {g : Nat → List AV} (h : Rep I own θ w v x) (hp : ∀ p ∈ x.wholes nm n, p) (hI : ∀ b o, I b o → I' b o)
    (ho : ∀ k o, own k = some o → Nat.beq k nm = false → own' k = some (o.frz nm sz n g)) (hk : ∀ v, Rep I own θ w v (.vsl nm n) → Rep I' own' θ w v (.slice sz n g (.own nm))) (hlt' : ∀ b i, Nat.beq (Ij b i) nm = false) : Rep I' own' θ w v (x.frz nm sz n g) := by
  induction h with
  | val v x h => exact .val _ _ ((h.frz nm sz n g).mono hI (fun _ _ _ => rfl))
  | exact a n sz f h => exact .exact a n sz f (h.mono hI (fun _ _ _ => rfl))
  | own k sz e m a n cap f hn hm hv h =>
    simp only [AV.frz]
    cases hb : Nat.beq k nm with
    | true => exact .val _ _ (h.mono hI (fun _ _ _ => rfl))
    | false => exact .own k sz e m a n cap f (ho k _ hn hb) hm hv (h.mono hI (fun _ _ _ => rfl))
  | fam b i sz e m a n cap f hi hn hm hv h =>
    exact .fam b i sz e m a n cap f hi (ho _ _ hn (hlt' b i)) hm hv (h.mono hI (fun _ _ _ => rfl))
  | ptr k off e0 cells g c hn hg =>
    simp only [AV.frz]
    cases hb : Nat.beq k nm with
    | true => exact .val _ _ (.any _)
    | false => exact .ptr k off e0 _ g c (ho k _ hn hb) hg
  | vsl k s2 e m f a j cap hn hm hcap hmax hnn hv =>
    simp only [AV.frz]
    cases hb : Nat.beq k nm with
    | true =>
      obtain rfl := Nat.eq_of_beq_eq_true hb; obtain rfl : j = n := hp _ (by simp [AV.wholes]); exact hk _ (.vsl k s2 e m f a j cap hn hm hcap hmax hnn hv)
    | false => exact .vsl k s2 e m _ a j cap (ho k _ hn hb) hm hcap hmax hnn hv
  | vpt k s2 e m f j i c ad hn hm hi hv =>
    simp only [AV.frz]
    cases hb : Nat.beq k nm with
    | true => exact .val _ _ (.any _)
    | false => exact .vpt k s2 e m _ j i c ad (ho k _ hn hb) hm hi hv
  | clo f fs cs xs ys hl hl' _ _ ih ih' =>
    simp only [AV.wholes, List.mem_append] at hp; exact .clo f fs cs _ _ (by rw [Dj, hl]) (by rw [Dj, hl']) (fun j hj => by rw [Kq]; exact ih j (by rwa [Dj] at hj) (Jj (fun p h => hp p (.inl h)) j)) (fun j hj => by rw [Kq]; exact ih' j (by rwa [Dj] at hj) (Jj (fun p h => hp p (.inr h)) j))
  | vsub k s2 e m f j lo hi a cap hn hm hlo hhi hcap hmax hnn hv =>
    simp only [AV.frz]
    cases hb : Nat.beq k nm with
    | true => exact .val _ _ (.any _)
    | false => exact .vsub k s2 e m _ j lo hi a cap (ho k _ hn hb) hm hlo hhi hcap hmax hnn hv
  | optr k x g c hn hg =>
    simp only [AV.frz]
    cases hb : Nat.beq k nm with
    | true => exact .val _ _ (.any _)
    | false => exact .optr k _ g c (ho k _ hn hb) hg
  | omap k x hn =>
    simp only [AV.frz]
    cases hb : Nat.beq k nm with
    | true => exact .val _ _ (.any _)
    | false => exact .omap k _ (ho k _ hn hb)
  | cond v c x _ h' ih => exact .cond v c _ (fun hc => ih hc (by simpa [AV.wholes] using hp)) h'
  | agg vs cs hl h1 _ ih => exact .agg vs _ (by rw [Dj, hl]) (fun j hj => h1 j (by rwa [Dj] at hj)) (fun j hj => by rw [Kq]; exact ih j (by rwa [Dj] at hj) (Jj (by simpa [AV.wholes] using hp) j))
  | tuple vs cs hl _ ih => exact .tuple vs _ (by rw [Dj, hl]) (fun j hj => by rw [Kq]; exact ih j (by rwa [Dj] at hj) (Jj (by simpa [AV.wholes] using hp) j))
theorem Xc {α β : Type} (l : List (Nat × α)) (g : Nat → α → β) (k : Nat) : Am (l.map fun x => (x.1, g x.1 x.2)) k = (Am l k).map (g k) := by
  induction l with
  | nil => rfl
  | cons x l ih =>
    obtain ⟨a, b⟩ := x; simp only [List.map_cons, Am]
    cases hb : Nat.beq a k with
    | true => have := Nat.eq_of_beq_eq_true hb; subst this; simp
    | false => simpa using ih
theorem memW {α β : Type} {l : List (Nat × α)} {g : α → List β} {k : Nat} {x : α} (h : Am l k = some x) {p : β} (hp : p ∈ g x) : p ∈ (l.map fun y => g y.2).flatten :=
  List.mem_flatten.2 ⟨g x, List.mem_map.2 ⟨(k, x), G1 h, rfl⟩, hp⟩
theorem Es {st : St} {nm sz n : Nat} {e : TypeId} {f g : Nat → List AV} (ho : Am st.own nm = some (.arr sz e n f)) (hwh : Xq (st.wholes nm n)) (hf : ∀ i, i < n → AV.stripAll (f i) = g i) (h0 : Γ.own0 nm = none) (hlt : Nat.blt nm Bj = true := by rfl) :
    Le Γ st (st.freeze nm sz n e g) := by
  intro I θ a w h; have hall := Xm hwh
  have hlt : nm < Bj := by simpa [Nat.blt_eq] using hlt
  have ho : st.sto.own nm = some (.arr sz e n f) := (A9 hlt).trans ho
  have hown' : (st.freeze nm sz n e g).sto.own = fun k => (st.sto.own k).map fun o => bif Nat.beq k nm then Own.tok sz e n else o.frz nm sz n g := by
    funext k
    by_cases hk : k < Bj
    · show Cz _ _ k = (Cz _ _ k).map _
      rw [A9 hk, A9 hk]; exact Xc st.own (fun k o => bif Nat.beq k nm then Own.tok sz e n else o.frz nm sz n g) k
    · have hb : Nat.beq k nm = false := by cases hb : Nat.beq k nm with | false => rfl | true => exact absurd (Nat.eq_of_beq_eq_true hb) (by rintro rfl; exact hk hlt)
      show Cz _ _ k = (Cz _ _ k).map _
      rw [Cw hk, Cw hk, hb]
      show (Am st.fam (k / Bj - 1)).bind _ = _
      cases Am st.fam (k / Bj - 1) with
      | none => rfl
      | some F => simp only [Option.bind_some, Option.map_map]; cases F.m (k % Bj) <;> rfl
  have hnm : (st.freeze nm sz n e g).sto.own nm = some (.tok sz e n) := by rw [hown']; simp [ho]
  have hne : ∀ k, k ≠ nm → (st.freeze nm sz n e g).sto.own k = (st.sto.own k).map (Own.frz nm sz n g) := fun k hk => by
    have : Nat.beq k nm = false := by cases hb : Nat.beq k nm with | false => rfl | true => exact absurd (Nat.eq_of_beq_eq_true hb) hk
    rw [hown']; simp [this]
  have hkeep : ∀ k o, st.sto.own k = some o → Nat.beq k nm = false → (st.freeze nm sz n e g).sto.own k = some (o.frz nm sz n g) := fun k o hk hb => by
    have : k ≠ nm := by rintro rfl; simp at hb
    rw [hne k this]; rw [hk]; rfl
  have hback : ∀ k, k ≠ nm → ∀ o', (st.freeze nm sz n e g).sto.own k = some o' → ∃ o, st.sto.own k = some o ∧ o' = o.frz nm sz n g := fun k hk o' ho' => by
    rw [hne k hk] at ho'; obtain ⟨o, h1, h2⟩ := Option.map_eq_some_iff.1 ho'; exact ⟨o, h1, h2.symm⟩
  have hnone : ∀ k, (st.freeze nm sz n e g).sto.own k ≠ none → st.sto.own k ≠ none := fun k hk => by
    by_cases hkn : k = nm
    · subst hkn; simp [ho]
    · cases hx : (st.freeze nm sz n e g).sto.own k with
      | none => exact (hk hx).elim
      | some o' => obtain ⟨o, h1, _⟩ := hback k hkn o' hx; simp [h1]
  have hrel := h.chg.rel; obtain ⟨q0, q1⟩ := hrel.arr nm sz e n f ho
  let I' : Nat → Nat → Prop := fun b o => I b o ∨ ((∃ c, θ nm = some (b, c)) ∧ o < n * sz)
  have hII : ∀ b o, I b o → I' b o := fun _ _ h => .inl h
  have hkey : ∀ v, Rep I st.sto.own θ w v (.vsl nm n) → Rep I' (st.freeze nm sz n e g).sto.own θ w v (.slice sz n g (.own nm)) := fun v hs => by
    obtain ⟨sz', e', m, f2, ad, cap, hval, ho', hmm, hcap, hmax, hnn, hvv⟩ := hs.vsl_inv; have ho'' : st.sto.own nm = some (.arr sz' e' m f2) := ho'; rw [ho] at ho''; simp only [Option.some.injEq, Own.arr.injEq] at ho''; obtain ⟨rfl, rfl, rfl, rfl⟩ := ho''; have hvv := hvv rfl; rw [hval]; refine .own nm sz e n ad n cap g hnm (Nat.le_refl _) (fun _ => hvv) ?_
    cases hθ : θ nm with
    | none =>
      have hn0 := q0 hθ; subst hn0; exact .slice ad 0 cap sz g (fun _ => undef) hcap hmax (fun h => by omega) hnn (fun j hj => by omega) (fun i hi => by omega) (fun i c hi => by omega)
    | some gc =>
      obtain ⟨b, c⟩ := gc; rw [hθ] at hvv; simp only at hvv; obtain ⟨rfl, rfl⟩ := hvv; obtain ⟨cur, r1, r2, r3, r4, r5, r6, r7⟩ := q1 b cap hθ
      have hcell : ∀ j, j < n * sz → w.cell? ⟨b, j, none⟩ = some (cur.getD j undef) := fun j hj => by
        have : n * sz ≤ cap * sz := Nat.mul_le_mul_right _ r2; rw [cell_of_row w b j cur e (0, 0) r1]; exact Gw (by omega)
      refine .slice _ n cap sz g (fun j => cur.getD j undef) hcap hmax (fun _ => ⟨⟨b, 0, none⟩, rfl, rfl, fun j hj => .inr ⟨⟨cap, hθ⟩, by simpa using hj⟩, fun j hj => by simpa using hcell j hj⟩) (by simp) (fun j hj => ?_) (fun i hi => ?_) (fun i k hi hk => ?_)
      · have hs : 0 < sz := by
          rcases Nat.eq_zero_or_pos sz with h0 | h0
          · rw [h0] at hj; omega
          · exact h0
        have e2 : j / sz * sz + j % sz = j := by rw [Nat.mul_comm]; exact Nat.div_add_mod j sz
        have := (r6 (j / sz) (j % sz) (by rw [Nat.div_lt_iff_lt_mul hs]; exact hj) (Nat.mod_lt _ hs)).1; rwa [e2] at this
      · rw [← hf i hi, B3]; exact r5 i hi
      · rw [← hf i hi, E1]; exact ((r6 i k hi hk).2.strip).mono hII (fun _ _ _ => rfl)
  have hlt' : ∀ b i, Nat.beq (Ij b i) nm = false := fun b i => by cases hb : Nat.beq (Ij b i) nm with | false => rfl | true => exact absurd (Nat.eq_of_beq_eq_true hb) (by rintro rfl; exact Gn b i hlt)
  have hcast : ∀ v x, Rep I st.sto.own θ w v x → (∀ p ∈ x.wholes nm n, p) → Rep I' (st.freeze nm sz n e g).sto.own θ w v (x.frz nm sz n g) := fun v x hx hp => hx.frz hp hII hkeep hkey hlt'
  have hfar : ∀ k b c, k ≠ nm → st.sto.own k ≠ none → θ k = some (b, c) → ∀ j, I' b j → I b j := fun k b c hk hk' hg j hj => by
    rcases hj with hj | ⟨⟨c', hc'⟩, _⟩
    · exact hj
    · exact (hk (hrel.inj k nm b c c' hk' (by simp [ho]) hg hc')).elim
  have hcast2 : ∀ v x, Rep I st.sto.own θ w v x → Rep I' (st.freeze nm sz n e g).sto.own θ w v (x.frw nm sz n g) := fun v x hx => by
    have key : ∀ {v : Value} {x : AV}, Rep I st.sto.own θ w v x → Rep I' (st.freeze nm sz n e g).sto.own θ w v (x.frw nm sz n g) := by
      intro v x h
      induction h with
      | val v x h => exact .val _ _ ((h.frw nm sz n g).mono hII (fun _ _ _ => rfl))
      | exact a n sz f h => exact .exact a n sz f (h.mono hII (fun _ _ _ => rfl))
      | own k sz e m a n cap f hn hm hv h =>
        simp only [AV.frw, M1]
        cases hb : Nat.beq k nm with
        | true => exact .val _ _ (h.mono hII (fun _ _ _ => rfl))
        | false => exact .own k sz e m a n cap f (hkeep k _ hn hb) hm hv (h.mono hII (fun _ _ _ => rfl))
      | fam b i sz e m a n cap f hi hn hm hv h =>
        simp only [AV.frw, M1]
        cases hb : Nat.beq b nm with
        | true => exact .val _ _ (h.mono hII (fun _ _ _ => rfl))
        | false => exact .fam b i sz e m a n cap f hi (hkeep _ _ hn (hlt' b i)) hm hv (h.mono hII (fun _ _ _ => rfl))
      | ptr k off e0 cells g c hn hg =>
        simp only [AV.frw, M1]
        cases hb : Nat.beq k nm with
        | true => exact .val _ _ (.any _)
        | false => exact .ptr k off e0 _ g c (hkeep k _ hn hb) hg
      | vsl k s2 e m f a j cap hn hm hcap hmax hnn hv =>
        simp only [AV.frw, M1]
        cases hb : Nat.beq k nm with
        | true =>
          simp only [Bool.not_true, cond_false]
          cases hj : Nat.beq j n with
          | false => exact .val _ _ (.any _)
          | true =>
            obtain rfl := Nat.eq_of_beq_eq_true hb; obtain rfl := Nat.eq_of_beq_eq_true hj; exact .val _ _ (hkey _ (.vsl k s2 e m f a j cap hn hm hcap hmax hnn hv)).slice_val
        | false => exact .vsl k s2 e m _ a j cap (hkeep k _ hn hb) hm hcap hmax hnn hv
      | vpt k s2 e m f j i c ad hn hm hi hv =>
        simp only [AV.frw, M1]
        cases hb : Nat.beq k nm with
        | true => exact .val _ _ (.any _)
        | false => exact .vpt k s2 e m _ j i c ad (hkeep k _ hn hb) hm hi hv
      | clo f fs cs xs ys hl hl' _ _ ih ih' => exact .clo f fs cs _ _ (by rw [D4, hl]) (by rw [D4, hl']) (fun j hj => by rw [Ki]; exact ih j (by rwa [D4] at hj)) (fun j hj => by rw [Ki]; exact ih' j (by rwa [D4] at hj))
      | vsub k s2 e m f j lo hi a cap hn hm hlo hhi hcap hmax hnn hv =>
        simp only [AV.frw, M1]
        cases hb : Nat.beq k nm with
        | true => exact .val _ _ (.any _)
        | false => exact .vsub k s2 e m _ j lo hi a cap (hkeep k _ hn hb) hm hlo hhi hcap hmax hnn hv
      | optr k x g c hn hg =>
        simp only [AV.frw, M1]
        cases hb : Nat.beq k nm with
        | true => exact .val _ _ (.any _)
        | false => exact .optr k _ g c (hkeep k _ hn hb) hg
      | omap k x hn =>
        simp only [AV.frw, M1]
        cases hb : Nat.beq k nm with
        | true => exact .val _ _ (.any _)
        | false => exact .omap k _ (hkeep k _ hn hb)
      | cond v c x _ h' ih => exact .cond v c _ ih h'
      | agg vs cs hl h1 _ ih => exact .agg vs _ (by rw [D4, hl]) (fun j hj => h1 j (by rwa [D4] at hj)) (fun j hj => by rw [Ki]; exact ih j (by rwa [D4] at hj))
      | tuple vs cs hl _ ih => exact .tuple vs _ (by rw [D4, hl]) (fun j hj => by rw [Ki]; exact ih j (by rwa [D4] at hj))
    exact key hx
  refine ⟨I', θ, h.size, h.defers, fun t => ?_, ?_⟩
  · have hslot : (st.freeze nm sz n e g).sto.tmp t = match Am st.tmps t with | some x => x.frz nm sz n g | none => .any := by
      show (match Am (st.tmps.map fun x => (x.1, x.2.frz nm sz n g)) t with | some x => x | none => .any) = _
      rw [Xc st.tmps (fun _ x => x.frz nm sz n g) t]
      cases Am st.tmps t <;> rfl
    rw [hslot]; have hs := h.slots t
    have hget : st.sto.tmp t = match Am st.tmps t with | some x => x | none => .any := rfl
    cases hl : Am st.tmps t with
    | none => exact .val _ _ (.any _)
    | some x =>
      rw [hget, hl] at hs; exact hcast _ _ hs (fun p hp => hall p (List.mem_append.2 (.inl (memW (g := fun x => x.wholes nm n) hl hp))))
  · refine { h.chg with imm := fun b o hi => .inl (h.chg.imm b o hi), le := fun k o hk => ?_, rel := ⟨fun k e0 cells hk => ?_, fun k s2 e2 m hk b c hg => ?_, fun k k' b c c' hk hk' => ?_, fun k s2 e2 m f2 hk => ?_, fun k x hk => ?_, fun k s2 m hk hnn => ?_⟩, valid := fun b o hi => ?_, new := fun k b c hk hg => ?_, immNew := fun b o hi => ?_ }
    · obtain ⟨o', ho', hl⟩ := h.chg.le k o hk
      have hkn : k ≠ nm := by rintro rfl; rw [h0] at hk; cases hk
      have hkb : Nat.beq k nm = false := by cases hb : Nat.beq k nm with | false => rfl | true => exact absurd (Nat.eq_of_beq_eq_true hb) hkn
      refine ⟨_, hkeep k o' ho' hkb, ?_⟩
      cases o <;> cases o' <;> first | exact hl | exact hl.elim
    rotate_left 4
    · have hkn : k ≠ nm := by rintro rfl; rw [hnm] at hk; cases hk
      obtain ⟨o, h1, h2⟩ := hback k hkn _ hk
      cases o with
      | row => simp [Own.frz] at h2
      | tok => simp [Own.frz] at h2
      | arr => simp [Own.frz] at h2
      | obj x' =>
        simp only [Own.frz, Own.obj.injEq] at h2; subst h2; exact Hv (hrel.obj k _ h1) rfl (fun _ _ _ => rfl) (fun b c j hg hj => hfar k b c hkn (by simp [h1]) hg j hj) (fun _ hh => hh.on _ hII (fun _ _ _ => rfl) fun v y hv => hcast2 _ _ hv) Vy
    · by_cases hkn : k = nm
      · subst hkn; rw [hnm] at hk; simp only [Option.some.injEq, Own.tok.injEq] at hk; obtain ⟨rfl, _, rfl⟩ := hk; exact q0 hnn
      · obtain ⟨o, h1, h2⟩ := hback k hkn _ hk
        cases o with
        | row => simp [Own.frz] at h2
        | arr => simp [Own.frz] at h2
        | obj => simp [Own.frz] at h2
        | tok =>
          simp only [Own.frz, Own.tok.injEq] at h2; obtain ⟨rfl, rfl, rfl⟩ := h2; exact hrel.tok8 k _ _ h1 hnn
    rotate_left 3
    · have hkn : k ≠ nm := by rintro rfl; rw [hnm] at hk; cases hk
      obtain ⟨o, h1, h2⟩ := hback k hkn _ hk
      cases o with
      | tok => simp [Own.frz] at h2
      | arr => simp [Own.frz] at h2
      | obj => simp [Own.frz] at h2
      | row e' cs =>
        simp only [Own.frz, Own.row.injEq] at h2; obtain ⟨rfl, rfl⟩ := h2; obtain ⟨b, c, vs, r1, r2, r3, r4, r5, r6⟩ := hrel.row k _ cs h1; refine ⟨b, c, vs, r1, r2, by rw [Dj]; exact r3, fun j hj => r4 j (by rwa [Dj] at hj), fun j hj => ?_, fun j hj => r6 j (hfar k b c hkn (by simp [h1]) r1 j hj)⟩; rw [Kq]; refine hcast _ _ (r5 j (by rwa [Dj] at hj)) (Jj (fun p hp => hall p (List.mem_append.2 (.inr (memW (g := fun x => x.wholes nm n) (Aab h1 (fun _ _ _ h => by cases h)) (by simpa [Own.wholes] using hp))))) j)
    · by_cases hkn : k = nm
      · subst hkn; rw [hnm] at hk; simp only [Option.some.injEq, Own.tok.injEq] at hk; obtain ⟨rfl, rfl, rfl⟩ := hk; obtain ⟨cur, r1, r2, r3, r4, r5, r6, r7⟩ := q1 b c hg; refine ⟨cur, 0, r1, r2, r3, r4, Nat.zero_le _, fun j hj => ?_⟩; rcases hj with hj | ⟨_, hj⟩
        · exact (r7 j hj).elim
        · exact hj
      · obtain ⟨o, h1, h2⟩ := hback k hkn _ hk
        cases o with
        | row => simp [Own.frz] at h2
        | arr => simp [Own.frz] at h2
        | obj => simp [Own.frz] at h2
        | tok =>
          simp only [Own.frz, Own.tok.injEq] at h2; obtain ⟨rfl, rfl, rfl⟩ := h2; obtain ⟨cur, fz, r1, r2, r3, r4, r5', r5⟩ := hrel.tok k _ _ _ h1 b c hg; exact ⟨cur, fz, r1, r2, r3, r4, r5', fun j hj => r5 j (hfar k b c hkn (by simp [h1]) hg j hj)⟩
    · exact hrel.inj k k' b c c' (hnone k hk) (hnone k' hk')
    · have hkn : k ≠ nm := by rintro rfl; rw [hnm] at hk; cases hk
      obtain ⟨o, h1, h2⟩ := hback k hkn _ hk
      cases o with
      | row => simp [Own.frz] at h2
      | tok => simp [Own.frz] at h2
      | obj => simp [Own.frz] at h2
      | arr s3 e3 m3 f3 =>
        simp only [Own.frz, Own.arr.injEq] at h2; obtain ⟨rfl, rfl, rfl, rfl⟩ := h2; exact Jw (hrel.arr k _ _ _ _ h1) rfl (fun _ _ _ => rfl) (fun b c j hg hj => hfar k b c hkn (by simp [h1]) hg j hj) (fun i _ => D4 _ _ _ _ _) (fun v i j _ _ hv => by rw [Ki]; exact hcast2 _ _ hv)
    · rcases hi with hi | ⟨⟨c, hc⟩, hj⟩
      · exact h.chg.valid b o hi
      · obtain ⟨cur, r1, r2, r3, r4, r5, r6, r7⟩ := q1 b c hc; have : n * sz ≤ c * sz := Nat.mul_le_mul_right _ r2; exact ⟨cur.getD o undef, by rw [cell_of_row w b o cur e (0, 0) r1]; exact Gw (by omega)⟩
    · exact h.chg.new k b c (hnone k hk) hg
    · rcases hi with hi | ⟨⟨c, hc⟩, _⟩
      · exact h.chg.immNew b o hi
      · exact .inr (h.chg.new nm b c (by simp [ho]) hc)
end
section
variable {α : Type} {e : α → List AV} {d : α}
theorem Gf {f : Nat → List AV} {l : List α} {i j : Nat} {cs : List AV} {x : α} (hf : ∀ k, k < l.length → f k = e (l.getD k d)) (hi : i < l.length) (hx : (e (l.getD i d)).take j ++ cs ++ (e (l.getD i d)).drop (j + cs.length) = e x) :
    ∀ k, k < (l.set i x).length → D0 f i j cs k = e ((l.set i x).getD k d) := by
  intro k hk; rw [List.length_set] at hk
  by_cases h : k = i
  · subst h; rw [Il, hf k hk, hx]; simp [List.getD, hk]
  · rw [J6 f cs h, hf k hk]; simp [List.getD, Ne.symm h]
def cpL {α : Type} (l : List α) (lo k : Nat) (s : Nat → α) : List α := l.mapIdx fun i x => if lo ≤ i ∧ i < lo + k then s (i - lo) else x
theorem Hz (l : List α) (lo k : Nat) (s : Nat → α) : l.length = (cpL l lo k s).length := by simp [cpL]
theorem Uv (l : List α) (lo k : Nat) (s : Nat → α) (i : Nat) (d : α) (h : i < l.length) : (cpL l lo k s).getD i d = if lo ≤ i ∧ i < lo + k then s (i - lo) else l.getD i d := by
  simp [cpL, List.getD, h]
theorem cpF_cpL {f g : Nat → List AV} {l : List α} {s : Nat → α} {lo k : Nat} (hf : ∀ i, i < l.length → f i = e (l.getD i d)) (hg : ∀ i, i < k → g i = e (s i)) : ∀ i, i < (cpL l lo k s).length → cpF f lo k g i = e ((cpL l lo k s).getD i d) := by
  intro i hi; rw [← Hz] at hi; rw [Uv _ _ _ _ _ _ hi]
  by_cases h : lo ≤ i ∧ i < lo + k
  · rw [cpF_in f g h, if_pos h, hg _ (by omega)]
  · rw [Ql f g h, if_neg h, hf i hi]
theorem Hu (keep : Nat → Bool) (l m : List AV) : AV.eraseAll keep (l ++ m) = AV.eraseAll keep l ++ AV.eraseAll keep m := by induction l with | nil => rfl | cons x l ih => simp [AV.eraseAll, ih]
theorem Ph (keep : Nat → Bool) (l : List AV) (n : Nat) : AV.eraseAll keep (l.take n) = (AV.eraseAll keep l).take n := by
  induction l generalizing n with
  | nil => simp [AV.eraseAll]
  | cons x l ih => cases n with
    | zero => simp [AV.eraseAll]
    | succ n => simp [AV.eraseAll, ih]
theorem O9 (keep : Nat → Bool) (l : List AV) (n : Nat) : AV.eraseAll keep (l.drop n) = (AV.eraseAll keep l).drop n := by
  induction l generalizing n with
  | nil => simp [AV.eraseAll]
  | cons x l ih => cases n with
    | zero => simp
    | succ n => simpa [AV.eraseAll] using ih n
theorem putF_erase {keep : Nat → Bool} {f : Nat → List AV} {l : List α} {i j : Nat} {cs : List AV} {x : α} (hf : ∀ k, k < l.length → f k = e (l.getD k d)) (he : ∀ a, AV.eraseAll keep (e a) = e a) (hi : i < l.length) (hx : (e (l.getD i d)).take j ++ AV.eraseAll keep cs ++ (e (l.getD i d)).drop (j + cs.length) = e x) :
    ∀ k, k < (l.set i x).length → AV.eraseAll keep (D0 f i j cs k) = e ((l.set i x).getD k d) := by
  intro k hk; rw [List.length_set] at hk
  by_cases h : k = i
  · subst h; rw [Il, Hu, Hu, Ph, O9, hf k hk, he, hx]; simp [List.getD, hk]
  · rw [J6 f cs h, hf k hk, he]; simp [List.getD, Ne.symm h]
theorem L3 {f f' : Nat → List AV} {l m : List α} (hf : ∀ k, k < l.length → f k = e (l.getD k d)) (hf' : ∀ k, k < m.length → f' k = e (m.getD k d)) : ∀ k, k < (l ++ m).length → Ff l.length f f' k = e ((l ++ m).getD k d) := by
  intro k hk; rw [List.length_append] at hk; rw [← app_get (e := e) (d := d) l m k hk]
  by_cases h : k < l.length
  · rw [H9 _ _ h, H9 _ _ h, hf k h]
  · rw [Lc _ _ (by omega), Lc _ _ (by omega), hf' _ (by omega)]
theorem J5 {z : List AV} (h : AVleL z (e d)) (n : Nat) : ∀ k, k < (List.replicate n d).length → AVleL z (e ((List.replicate n d).getD k d)) := fun k hk => by
  have : (List.replicate n d).getD k d = d := by simp at hk; simp [List.getD, hk]
  rw [this]; exact h
theorem Bv {f g : Nat → List AV} {n m : Nat} (hn : n = m) (h : ∀ k, k < m → f k = g k) : ∀ k, k < n → AVleL (f k) (g k) := fun k hk => by rw [h k (by omega)]; exact .refl _
end
section
variable {α : Type} {e : α → List AV} {d : α}
theorem lit_nil {n : Nat} (h : n = 0) {l : List (List AV)} {az : List α} : ∀ i, i < n → AVleL (l.getD i []) (e (az.getD i d)) := fun i hi => by omega
theorem Qx {n : Nat} {x : List AV} {l : List (List AV)} {a : α} {az : List α} (h : AVleL x (e a)) (t : ∀ i, i < n → AVleL (l.getD i []) (e (az.getD i d))) : ∀ i, i < n + 1 → AVleL ((x :: l).getD i []) (e ((a :: az).getD i d)) := fun i hi => by
  cases i with
  | zero => simpa using h
  | succ i => simpa using t i (by omega)
theorem av_litL {sz n : Nat} {f : Nat → List AV} {xs : List α} (hn : n = xs.length) (h : ∀ i, i < n → AVleL (f i) (e (xs.getD i d))) (hs : ∀ a, AV.stripAll (e a) = e a) : AVle (.slice sz n f .exact) (AV.list sz e d xs .exact) := by
  intro I own θ w v hv; obtain ⟨ad, rfl⟩ := hv.exact_inv; have hV := hv.slice_val; obtain ⟨_, ad', cap, us, he, hcap, hmax, hz, hnn, h1, hl, hr⟩ := hV.slice_inv; simp only [Value.slice.injEq, true_and] at he; obtain ⟨rfl, rfl⟩ := he; unfold AV.list; subst hn; refine .exact _ _ sz _ (.slice _ _ _ sz _ us hcap hmax hz hnn h1 (fun i hi => ?_) (fun i c hi hc => ?_))
  · rw [← (h i hi).length]; exact hl i hi
  · have := (h i hi).get c I (fun _ => none) (fun _ => none) w _ (.val _ _ (hr i c hi hc)); have := this.strip; rw [← E1, hs] at this; exact this
end
noncomputable instance (n : Nat) (f : Nat → List AV) : Decidable (ByteF n f) := Classical.propDecidable _
theorem gT {c : Bool} (h : c = true) : (c == true) = true := by rw [h]; rfl
theorem gF {c : Bool} (h : c = false) : (c == false) = true := by rw [h]; rfl
theorem aT {g c : Bool} (hg : g = true) (h : c = true) : (g && (c == true)) = true := by rw [hg, h]; rfl
theorem aF {g c : Bool} (hg : g = true) (h : c = false) : (g && (c == false)) = true := by rw [hg, h]; rfl
theorem He {α : Type} {i : Int} {l : List α} (h : A4 i l.length) : i.toNat < l.length := by unfold A4 at h; omega
theorem inB_lt1 {α : Type} {i : Int} {l : List α} {a : Nat} {x : α} (h : A4 i l.length) : i.toNat < (l.set a x).length := by rw [List.length_set]; exact He h
theorem Ju {α : Type} {d : α} {n k : Nat} (h : k < n) : k < (List.replicate n d).length := by rw [List.length_replicate]; exact h
def Gj {α : Type} (N : Nat) (d : α) (l : List α) (i : Nat) (x : α) : List α := (List.range N).map fun j => bif Nat.beq j i then x else l.getD j d
theorem Xy {α : Type} {N : Nat} {d : α} {l : List α} {i : Nat} {x : α} {k : Nat} (hk : k < N) : (Gj N d l i x).getD k d = bif Nat.beq k i then x else l.getD k d := by
  unfold Gj; rw [List.getD, List.getElem?_map, List.getElem?_range hk]
  rfl
theorem J9 {α : Type} {e : α → List AV} {d : α} {f : Nat → List AV} {l : List α} {N i j : Nat} {cs : List AV} {x : α} (hf : ∀ k, k < N → f k = e (l.getD k d)) (hi : i < N) (hx : (e (l.getD i d)).take j ++ cs ++ (e (l.getD i d)).drop (j + cs.length) = e x) :
    ∀ k, k < N → D0 f i j cs k = e ((Gj N d l i x).getD k d) := by
  intro k hk; rw [Xy hk]; unfold D0
  cases hb : Nat.beq k i with
  | true =>
    obtain rfl := Nat.eq_of_beq_eq_true hb; rw [cond_true, cond_true, hf k hk]; exact hx
  | false => rw [cond_false, cond_false, hf k hk]
theorem C9 {i : Int} {N : Nat} (h : A4 i N) : i.toNat < N := by unfold A4 at h; omega
theorem flat_rep {α : Type} (z : List α) (sz : Nat) (hz : z.length = sz) : ∀ (N k : Nat), k < N → (((List.replicate N z).flatten).drop (k * sz)).take sz = z
  | 0, k, h => by omega
  | N + 1, 0, h => by
    rw [List.replicate_succ, List.flatten_cons, Nat.zero_mul, List.drop_zero, List.take_append_of_le_length (by omega), List.take_of_length_le (by omega)]
  | N + 1, k + 1, h => by
    rw [List.replicate_succ, List.flatten_cons, show (k + 1) * sz = z.length + k * sz by rw [Nat.add_mul, hz]; omega, List.drop_append, List.drop_eq_nil_of_le (by omega), List.nil_append, Nat.add_sub_cancel_left]; exact flat_rep z sz hz N k (by omega)
end
end Go.Proofs.Ytjdddniaokcgnaa

namespace Go.Proofs.Ytjdddniaokcgnaa
noncomputable section
open Go Go.RowKit
def Bo {α : Type} (sz : Nat) (e : α → List AV) (d : α) (L : List (List α)) (t : Nat → Tag) : Nat → List AV := fun j => [AV.list sz e d (L.getD j []) (t j)]
def Cp (b i k j : Nat) : Tag := bif Nat.beq j i then .own k else .fam b j
def Ca {α : Type} (L : List (List α)) : Nat → Option Nat := fun j => if j < L.length then some (L.getD j []).length else none
def F8 {α : Type} (L : List (List α)) (i : Nat) : Nat → Option Nat := fun j => if j = i then none else Ca L j
mutual
def AV.free (p : Tag → Bool) : AV → Bool
  | .slice _ _ _ t => p t
  | .clo _ xs ys => AV.freeAll p xs && AV.freeAll p ys
  | .agg cs => AV.freeAll p cs
  | .tuple cs => AV.freeAll p cs
  | .cond _ x => x.free p
  | _ => true
def AV.freeAll (p : Tag → Bool) : List AV → Bool
  | [] => true
  | x :: l => x.free p && AV.freeAll p l
end
theorem Hd {p : Tag → Bool} {l : List AV} (h : AV.freeAll p l = true) (j : Nat) : (l.getD j .any).free p = true := by
  induction l generalizing j with
  | nil => simp [AV.free]
  | cons x l ih =>
    simp only [AV.freeAll, Bool.and_eq_true] at h
    cases j with
    | zero => simpa using h.1
    | succ j => simpa using ih h.2 j
def AObj.Al (P : AV → Prop) : AObj → Prop
  | .iter _ _ => True
  | .map _ _ _ => True
  | .miter m _ _ => P m
theorem AObj.Al.imp {P Q : AV → Prop} {x : AObj} (h : x.Al P) (k : ∀ y, P y → Q y) : x.Al Q := by
  cases x with
  | iter => trivial
  | map => trivial
  | miter => exact k _ h
theorem ObjR.al {P : AV → Prop} {I I' : Nat → Nat → Prop} {own own' : Nat → Option Own} {θ θ' : Nat → Option (Nat × Nat)} {w w' : World} {o : Obj} {x : AObj} (h : ObjR I own θ w o x) (hx : x.Al P) (hI : ∀ b o, I b o → I' b o) (hw : ∀ b o, I b o → w'.cell? ⟨b, o, none⟩ = w.cell? ⟨b, o, none⟩) (hf : ∀ v y, P y → Rep I own θ w v y → Rep I' own' θ' w' v y) : ObjR I' own' θ' w' o x := by
  cases h with
  | iter s p => exact .iter s p
  | map es nn k l hs hr =>
    refine .map es nn k l hs fun i hi => ?_; obtain ⟨v, h1, h2, h3⟩ := hr i hi; exact ⟨v, h1, h2.mono hI hw, h3⟩
  | miter r m n c seen hc hr => exact .miter r m n c seen hc (hf _ _ hx hr)
def Xo (b : Nat) : Tag → Bool
  | .fam b' _ => !Nat.beq b' b
  | .own nm => Nat.blt nm Bj
  | _ => true
def Zw (k : Nat) : Tag → Bool
  | .own k' => !Nat.beq k' k
  | _ => true
def Fr (q : Nat) (x : AV) : Prop := ∀ (I : Nat → Nat → Prop) (own own' : Nat → Option Own) (θ θ' : Nat → Option (Nat × Nat)) (w : World) (v : Value), (∃ sz e m, own q = some (.tok sz e m)) →
  (∀ nm o, nm ≠ q → own nm = some o → ∃ o', own' nm = some o' ∧ OwnLe o (θ nm) o' (θ' nm)) → Rep I own θ w v x → Rep I own' θ' w v x
theorem fr_of {q : Nat} {p : Tag → Bool} (hp : ∀ nm, p (.own nm) = true → nm ≠ q) (hf : ∀ b i, i < Bj → p (.fam b i) = true → Ij b i ≠ q) {x : AV} (hx : x.free p = true) : Fr q x := by
  intro I own own' θ θ' w v hq ho h; obtain ⟨s0, e0, m0, hq⟩ := hq; have hall : ∀ nm o, nm ≠ q → own nm = some o → ∃ o', own' nm = some o' ∧ OwnLe o (θ nm) o' (θ' nm) := ho
  have hne : ∀ {nm o}, own nm = some o → (∀ sz e m, o ≠ .tok sz e m) → nm ≠ q := fun hn hh => by
    rintro rfl; rw [hq] at hn; exact hh _ _ _ (OI hn).symm
  induction h with
  | val v x h => exact .val v x h
  | exact a n sz f h => exact .exact a n sz f h
  | own nm sz e m a n cap f hn hm hv h =>
    obtain ⟨o', ho', hle⟩ := ho nm _ (hp nm hx) hn
    cases o' with
    | tok sz' e' m' =>
      obtain ⟨rfl, rfl, hmm, hθ⟩ := hle; refine .own nm _ _ m' a n cap f ho' (Nat.le_trans hm hmm) (fun he => ?_) h; rw [hθ (by omega)]; exact hv (by omega)
    | _ => exact hle.elim
  | fam b i sz e m a n cap f hi hn hm hv h =>
    obtain ⟨o', ho', hle⟩ := ho (Ij b i) _ (hf b i hi hx) hn
    cases o' with
    | tok sz' e' m' =>
      obtain ⟨rfl, rfl, hmm, hθ⟩ := hle; refine .fam b i _ _ m' a n cap f hi ho' (Nat.le_trans hm hmm) (fun he => ?_) h; rw [hθ (by omega)]; exact hv (by omega)
    | _ => exact hle.elim
  | ptr nm off e cells g c hn hg =>
    obtain ⟨o', ho', hle⟩ := ho nm _ (hne hn (fun _ _ _ h => by cases h)) hn
    cases o' with
    | row e' cells' =>
      have e : θ' nm = θ nm := hle.2; exact .ptr nm off e' cells' g c ho' (e.trans hg)
    | _ => exact hle.elim
  | vsl nm sz e m f a n cap hn hm hcap hmax hnn hv =>
    obtain ⟨o', ho', hle⟩ := ho nm _ (hne hn (fun _ _ _ h => by cases h)) hn
    cases o' with
    | arr sz' e' m' f' =>
      obtain ⟨rfl, rfl, hmm, hθ⟩ := hle; refine .vsl nm _ _ m' f' a n cap ho' (Nat.le_trans hm hmm) hcap hmax hnn (fun he => ?_); rw [hθ (by omega)]; exact hv (by omega)
    | _ => exact hle.elim
  | vpt nm sz e m f n i j ad hn hm hi hv =>
    obtain ⟨o', ho', hle⟩ := ho nm _ (hne hn (fun _ _ _ h => by cases h)) hn
    cases o' with
    | arr sz' e' m' f' =>
      obtain ⟨rfl, rfl, hmm, hθ⟩ := hle; refine .vpt nm _ _ m' f' n i j ad ho' (Nat.le_trans hm hmm) hi (fun he => ?_); rw [hθ (by omega)]; exact hv (by omega)
    | _ => exact hle.elim
  | clo f fs cs xs ys hl hl' _ _ ih ih' =>
    simp only [AV.free, Bool.and_eq_true] at hx; exact .clo f fs cs xs ys hl hl' (fun j hj => ih j hj (Hd hx.1 j)) (fun j hj => ih' j hj (Hd hx.2 j))
  | optr nm x g c hn hg =>
    obtain ⟨o', ho', hle⟩ := ho nm _ (hne hn (fun _ _ _ h => by cases h)) hn
    cases o' with
    | obj x' => exact .optr nm x' g c ho' (by rw [hle, hg])
    | _ => exact hle.elim
  | omap nm x hn =>
    obtain ⟨o', ho', hle⟩ := ho nm _ (hne hn (fun _ _ _ h => by cases h)) hn
    cases o' with
    | obj x' =>
      have hle : θ' nm = θ nm := hle; rw [← hle]; exact .omap nm x' ho'
    | _ => exact hle.elim
  | vsub nm sz e m f n lo hi a cap hn hm hlo hhi hcap hmax hnn hv =>
    obtain ⟨o', ho', hle⟩ := ho nm _ (hne hn (fun _ _ _ h => by cases h)) hn
    cases o' with
    | arr sz' e' m' f' =>
      obtain ⟨rfl, rfl, hmm, hθ⟩ := hle; refine .vsub nm _ _ m' f' n lo hi a cap ho' (Nat.le_trans hm hmm) hlo hhi hcap hmax hnn (fun he => ?_); rw [hθ (by omega)]; exact hv (by omega)
    | _ => exact hle.elim
  | cond v c x _ h' ih => exact .cond v c x (fun hc => ih hc hx) h'
  | agg vs cs hl h1 _ ih => exact .agg vs cs hl h1 (fun j hj => ih j hj (Hd hx j))
  | tuple vs cs hl _ ih => exact .tuple vs cs hl (fun j hj => ih j hj (Hd hx j))
theorem fr_fam {b i : Nat} (hi : i < Bj) {x : AV} (hx : x.free (Xo b) = true) : Fr (Ij b i) x :=
  fr_of (p := Xo b) (fun nm hp he => by
    have hlt : nm < Bj := by simpa [Xo, Nat.blt_eq] using hp
    rw [he] at hlt
    exact Gn b i hlt) (fun b' i' hi' hp he => by
    have h1 := K6 (b := b') hi'; rw [he, K6 hi] at h1; subst h1
    simp [Xo] at hp) hx
theorem fr_own {k : Nat} (hk : k < Bj) {x : AV} (hx : x.free (Zw k) = true) : Fr k x :=
  fr_of (p := Zw k) (fun nm hp he => by subst he; simp [Zw] at hp) (fun b i _ _ he => by rw [← he] at hk; exact Gn b i hk) hx
def OwnFr (q : Nat) : Own → Prop
  | .row _ cells => ∀ j, j < cells.length → Fr q (cells.getD j .any)
  | .arr sz _ m f => ∀ i j, i < m → j < sz → Fr q ((f i).getD j .any)
  | .obj x => x.Al (Fr q)
  | .tok .. => True
theorem Nl {I : Nat → Nat → Prop} {own own' : Nat → Option Own} {θ θ' : Nat → Option (Nat × Nat)} {w : World} {nm sz m : Nat} {e : TypeId} {f f' : Nat → List AV}
    (h : (θ nm = none → m = 0) ∧ ∀ g c, θ nm = some (g, c) → ∃ cur, w.heap[g]? = some (.cells cur e (0, 0)) ∧ m ≤ c ∧ c ≤ maxLen ∧ cur.size = c * sz ∧
      (∀ i, i < m → (f i).length = sz) ∧ (∀ i j, i < m → j < sz → (cur.getD (i * sz + j) undef).oneCell' = true ∧ Rep I own θ w (cur.getD (i * sz + j) undef) ((f i).getD j .any)) ∧ ∀ j, ¬ I g j)
    (hθ : θ' nm = θ nm) (hf : ∀ i, i < m → (f' i).length = (f i).length) (hr : ∀ i j v, i < m → j < sz → Rep I own θ w v ((f i).getD j .any) → Rep I own' θ' w v ((f' i).getD j .any)) :
    (θ' nm = none → m = 0) ∧ ∀ g c, θ' nm = some (g, c) → ∃ cur, w.heap[g]? = some (.cells cur e (0, 0)) ∧ m ≤ c ∧ c ≤ maxLen ∧ cur.size = c * sz ∧
      (∀ i, i < m → (f' i).length = sz) ∧ (∀ i j, i < m → j < sz → (cur.getD (i * sz + j) undef).oneCell' = true ∧ Rep I own' θ' w (cur.getD (i * sz + j) undef) ((f' i).getD j .any)) ∧ ∀ j, ¬ I g j := by
  rw [hθ]; refine ⟨h.1, fun g c hg => ?_⟩; obtain ⟨cur, q1, q2, q3, q4, q5, q6, q7⟩ := h.2 g c hg; exact ⟨cur, q1, q2, q3, q4, fun i hi => (hf i hi).trans (q5 i hi), fun i j hi hj => ⟨(q6 i j hi hj).1, hr i j _ hi hj (q6 i j hi hj).2⟩, q7⟩
section
variable {Γ : K2} {σ : Sto} {I : Nat → Nat → Prop} {θ : Nat → Option (Nat × Nat)} {a : Act} {w : World}
theorem Uw (h : Rel Γ σ I θ a w) {p q r sz m s1 n : Nat} {e e1 : TypeId} {F F' : Nat → List AV} (hp : σ.own p = some (.tok sz e m)) (hq : σ.own q = none) (hr : σ.own r = some (.arr s1 e1 n F)) (hp0 : Γ.own0 p = none)
    (hfree : ∀ t, Fr p (σ.tmp t)) (hrows : ∀ nm o, nm ≠ r → σ.own nm = some o → OwnFr p o) {own' : Nat → Option Own} {θ' : Nat → Option (Nat × Nat)}
    (hown : own' = fun x => if x = q then some (.tok sz e m) else if x = p then none else if x = r then some (.arr s1 e1 n F') else σ.own x)
    (hθ : θ' = fun x => if x = q then θ p else if x = p then none else θ x)
    (hlen : ∀ j, j < n → (F' j).length = (F j).length)
    (hF : ∀ j c v, j < n → c < s1 → Rep I σ.own θ w v ((F j).getD c .any) → Rep I own' θ' w v ((F' j).getD c .any)) :
    Rel Γ ⟨σ.tmp, own'⟩ I θ' a w := by
  have hpq : p ≠ q := by rintro rfl; rw [hp] at hq; cases hq
  have hpr : p ≠ r := by rintro rfl; rw [hp] at hr; cases hr
  have hqr : q ≠ r := by rintro rfl; rw [hq] at hr; cases hr
  have hkeep : ∀ nm o, nm ≠ p → σ.own nm = some o → ∃ o', own' nm = some o' ∧ OwnLe o (θ nm) o' (θ' nm) := fun nm o hnp ho => by
    have hnq : nm ≠ q := by rintro rfl; rw [hq] at ho; cases ho
    by_cases hnr : nm = r
    · subst hnr; rw [hr] at ho; obtain rfl := OI ho; exact ⟨.arr s1 e1 n F', by simp [hown, hnq, hnp], by simp [hθ, hnq, hnp, OwnLe]⟩
    · exact ⟨o, by simp [hown, hnq, hnp, hnr, ho], by simp [hθ, hnq, hnp, OwnLe.refl]⟩
  have hT : ∀ v x, Fr p x → Rep I σ.own θ w v x → Rep I own' θ' w v x := fun v x hx hv => hx I _ _ _ _ w v ⟨_, _, _, hp⟩ hkeep hv
  have hinv : ∀ nm o, nm ≠ q → nm ≠ r → own' nm = some o → nm ≠ p ∧ σ.own nm = some o ∧ θ' nm = θ nm := fun nm o h1 h2 ho => by
    by_cases h3 : nm = p
    · simp [hown, h3, hpq] at ho
    · simp [hown, h1, h2, h3] at ho; exact ⟨h3, ho, by simp [hθ, h1, h3]⟩
  have hnone : ∀ nm, own' nm ≠ none → ∃ nm', σ.own nm' ≠ none ∧ θ' nm = θ nm' ∧ (nm = q → nm' = p) ∧ (nm ≠ q → nm' = nm ∧ nm ≠ p) := fun nm hn => by
    by_cases h1 : nm = q
    · exact ⟨p, by simp [hp], by simp [hθ, h1], fun _ => rfl, fun h => (h h1).elim⟩
    · by_cases h2 : nm = r
      · subst h2; exact ⟨nm, by simp [hr], by simp [hθ, h1, Ne.symm hpr], fun h => (h1 h).elim, fun _ => ⟨rfl, Ne.symm hpr⟩⟩
      · cases hx : own' nm with
        | none => exact (hn hx).elim
        | some o =>
          obtain ⟨h3, h4, h5⟩ := hinv nm o h1 h2 hx; exact ⟨nm, by simp [h4], h5, fun h => (h1 h).elim, fun _ => ⟨rfl, h3⟩⟩
  have hq' : own' q = some (.tok sz e m) := by simp [hown]
  have hr' : own' r = some (.arr s1 e1 n F') := by simp [hown, Ne.symm hqr, Ne.symm hpr]
  have hrel := h.chg.rel
  have hθr : θ' r = θ r := by simp [hθ, Ne.symm hqr, Ne.symm hpr]
  have hθq : θ' q = θ p := by simp [hθ]
  refine ⟨h.size, h.defers, fun t => hT _ _ (hfree t) (h.slots t), { h.chg with le := fun nm o ho => ?_, rel := ⟨fun nm e0 cells ho => ?_, fun nm s' e' m' ho g c hg => ?_, fun nm nm' g c c' ho ho' hg hg' => ?_, fun nm s' e' m' f' ho => ?_, fun nm x ho => ?_, fun nm s' m' ho hnn => ?_⟩, new := fun nm g c ho hg => ?_ }⟩
  · obtain ⟨o', ho', hl⟩ := h.chg.le nm o ho
    have hnp : nm ≠ p := by rintro rfl; rw [hp0] at ho; cases ho
    obtain ⟨o'', h1, h2⟩ := hkeep nm o' hnp ho'; exact ⟨o'', h1, hl.trans h2⟩
  · replace ho : own' nm = some _ := ho
    have h1 : nm ≠ q := by rintro rfl; rw [hq'] at ho; cases ho
    have h2 : nm ≠ r := by rintro rfl; rw [hr'] at ho; cases ho
    obtain ⟨h3, h4, h5⟩ := hinv nm _ h1 h2 ho; obtain ⟨g, c, vs, r1, r2, r3, r4, r5, r6⟩ := hrel.row nm e0 cells h4; exact ⟨g, c, vs, h5.trans r1, r2, r3, r4, fun j hj => hT _ _ (hrows nm _ h2 h4 j hj) (r5 j hj), r6⟩
  · replace ho : own' nm = some _ := ho
    by_cases h1 : nm = q
    · subst h1; rw [hq'] at ho; simp only [Option.some.injEq, Own.tok.injEq] at ho; obtain ⟨rfl, rfl, rfl⟩ := ho; exact hrel.tok p _ _ _ hp g c (hθq.symm.trans hg)
    · have h2 : nm ≠ r := by rintro rfl; rw [hr'] at ho; cases ho
      obtain ⟨h3, h4, h5⟩ := hinv nm _ h1 h2 ho; exact hrel.tok nm _ _ _ h4 g c (h5.symm.trans hg)
  · obtain ⟨n1, a1, a2, a3, a4⟩ := hnone nm ho; obtain ⟨n2, b1, b2, b3, b4⟩ := hnone nm' ho'; have := hrel.inj n1 n2 g c c' a1 b1 (a2.symm.trans hg) (b2.symm.trans hg')
    by_cases h1 : nm = q
    · by_cases h2 : nm' = q
      · rw [h1, h2]
      · have := a3 h1; have := b4 h2; omega
    · by_cases h2 : nm' = q
      · have := a4 h1; have := b3 h2; omega
      · have := a4 h1; have := b4 h2; omega
  · replace ho : own' nm = some _ := ho
    have h1 : nm ≠ q := by rintro rfl; rw [hq'] at ho; cases ho
    by_cases h2 : nm = r
    · subst h2; rw [hr'] at ho; simp only [Option.some.injEq, Own.arr.injEq] at ho; obtain ⟨rfl, rfl, rfl, rfl⟩ := ho; exact Nl (hrel.arr nm _ _ _ _ hr) hθr hlen hF
    · obtain ⟨h3, h4, h5⟩ := hinv nm _ h1 h2 ho; exact Nl (hrel.arr nm _ _ _ _ h4) h5 (fun _ _ => rfl) (fun i j v hi hj hv => hT _ _ (hrows nm _ h2 h4 i j hi hj) hv)
  · replace ho : own' nm = some _ := ho
    have h1 : nm ≠ q := by rintro rfl; rw [hq'] at ho; cases ho
    have h2 : nm ≠ r := by rintro rfl; rw [hr'] at ho; cases ho
    obtain ⟨h3, h4, h5⟩ := hinv nm _ h1 h2 ho; exact Hv (hrel.obj nm _ h4) h5 (fun _ _ _ => rfl) (fun _ _ _ _ h => h) (fun _ hh => hh.al (hrows nm _ h2 h4) (fun _ _ h => h) (fun _ _ _ => rfl) fun v y hy hv => hT v y hy hv) Pw
  · replace ho : own' nm = some _ := ho
    by_cases h1 : nm = q
    · subst h1; rw [hq'] at ho; simp only [Option.some.injEq, Own.tok.injEq] at ho; obtain ⟨rfl, he, rfl⟩ := ho; exact hrel.tok8 p _ _ (by rw [hp, he]) (hθq.symm.trans hnn)
    · have h2 : nm ≠ r := by rintro rfl; rw [hr'] at ho; cases ho
      obtain ⟨h3, h4, h5⟩ := hinv nm _ h1 h2 ho; exact hrel.tok8 nm _ _ h4 (h5.symm.trans hnn)
  · obtain ⟨n1, a1, a2, _, _⟩ := hnone nm ho; exact h.chg.new n1 g c a1 (a2.symm.trans hg)
theorem Uf (h : Rel Γ σ I θ a w) {r s1 n : Nat} {e1 : TypeId} {F F' : Nat → List AV} (hr : σ.own r = some (.arr s1 e1 n F)) {S : Nat → Option (Nat × TypeId × Nat)} (hS : ∀ x y, S x = some y → σ.own x = none)
    (h8 : ∀ x sz m, S x = some (sz, Lw, m) → m = 0) {own' : Nat → Option Own} {θ' : Nat → Option (Nat × Nat)}
    (hown : own' = fun x => match S x with | some y => some (.tok y.1 y.2.1 y.2.2) | none => if x = r then some (.arr s1 e1 n F') else σ.own x)
    (hθ : θ' = fun x => match S x with | some _ => none | none => θ x) (hlen : ∀ j, j < n → (F' j).length = (F j).length)
    (hF : ∀ j c v, j < n → c < s1 → Rep I σ.own θ w v ((F j).getD c .any) → Rep I own' θ' w v ((F' j).getD c .any)) :
    Rel Γ ⟨σ.tmp, own'⟩ I θ' a w := by
  have hSn : ∀ nm o, σ.own nm = some o → S nm = none := fun nm o ho => by
    cases hx : S nm with
    | none => rfl
    | some y => rw [hS nm y hx] at ho; cases ho
  have hkeep : ∀ nm o, σ.own nm = some o → ∃ o', own' nm = some o' ∧ OwnLe o (θ nm) o' (θ' nm) := fun nm o ho => by
    have h1 := hSn nm o ho
    by_cases hnr : nm = r
    · subst hnr; rw [hr] at ho; obtain rfl := OI ho; exact ⟨.arr s1 e1 n F', by simp [hown, h1], by simp [hθ, h1, OwnLe]⟩
    · exact ⟨o, by simp [hown, h1, hnr, ho], by simp [hθ, h1, OwnLe.refl]⟩
  have hT : ∀ v x, Rep I σ.own θ w v x → Rep I own' θ' w v x := fun v x hv => hv.mono (fun _ _ h => h) (fun _ _ _ => rfl) hkeep
  have hinv : ∀ nm o, own' nm = some o → (∀ sz e m, o ≠ .tok sz e m) → nm ≠ r → σ.own nm = some o ∧ θ' nm = θ nm := fun nm o ho hn h2 => by
    cases hx : S nm with
    | none => simp [hown, hx, h2] at ho; exact ⟨ho, by simp [hθ, hx]⟩
    | some y => simp [hown, hx] at ho; exact (hn _ _ _ ho.symm).elim
  have hold : ∀ nm g c, own' nm ≠ none → θ' nm = some (g, c) → σ.own nm ≠ none ∧ θ nm = some (g, c) := fun nm g c ho hg => by
    cases hx : S nm with
    | some y => simp [hθ, hx] at hg
    | none =>
      simp [hθ, hx] at hg; refine ⟨?_, hg⟩
      by_cases h2 : nm = r
      · subst h2; simp [hr]
      · simpa [hown, hx, h2] using ho
  have hSr : S r = none := hSn r _ hr
  have hr' : own' r = some (.arr s1 e1 n F') := by simp [hown, hSr]
  have hθr : θ' r = θ r := by simp [hθ, hSr]
  have hrel := h.chg.rel; refine ⟨h.size, h.defers, fun t => hT _ _ (h.slots t), { h.chg with le := fun nm o ho => ?_, rel := ⟨fun nm e0 cells ho => ?_, fun nm s' e' m' ho g c hg => ?_, fun nm nm' g c c' ho ho' hg hg' => ?_, fun nm s' e' m' f' ho => ?_, fun nm x ho => ?_, fun nm s' m' ho hnn => ?_⟩, new := fun nm g c ho hg => ?_ }⟩
  · obtain ⟨o', ho', hl⟩ := h.chg.le nm o ho; obtain ⟨o'', h1, h2⟩ := hkeep nm o' ho'; exact ⟨o'', h1, hl.trans h2⟩
  · replace ho : own' nm = some _ := ho
    have h2 : nm ≠ r := by rintro rfl; rw [hr'] at ho; cases ho
    obtain ⟨h4, h5⟩ := hinv nm _ ho (fun _ _ _ h => by cases h) h2; obtain ⟨g, c, vs, r1, r2, r3, r4, r5, r6⟩ := hrel.row nm e0 cells h4; exact ⟨g, c, vs, h5.trans r1, r2, r3, r4, fun j hj => hT _ _ (r5 j hj), r6⟩
  · replace ho : own' nm = some _ := ho; obtain ⟨h1, h2⟩ := hold nm g c (by rw [ho]; simp) hg
    cases hx : S nm with
    | some y => simp [hθ, hx] at hg
    | none =>
      have h3 : nm ≠ r := by rintro rfl; rw [hr'] at ho; cases ho
      simp [hown, hx, h3] at ho; exact hrel.tok nm _ _ _ ho g c h2
  · obtain ⟨a1, a2⟩ := hold nm g c ho hg; obtain ⟨b1, b2⟩ := hold nm' g c' ho' hg'; exact hrel.inj nm nm' g c c' a1 b1 a2 b2
  · replace ho : own' nm = some _ := ho
    by_cases h2 : nm = r
    · subst h2; rw [hr'] at ho; simp only [Option.some.injEq, Own.arr.injEq] at ho; obtain ⟨rfl, rfl, rfl, rfl⟩ := ho; exact Nl (hrel.arr nm _ _ _ _ hr) hθr hlen hF
    · obtain ⟨h4, h5⟩ := hinv nm _ ho (fun _ _ _ h => by cases h) h2; exact Nl (hrel.arr nm _ _ _ _ h4) h5 (fun _ _ => rfl) (fun i j v _ _ hv => hT _ _ hv)
  · replace ho : own' nm = some _ := ho
    have h2 : nm ≠ r := by rintro rfl; rw [hr'] at ho; cases ho
    obtain ⟨h4, h5⟩ := hinv nm _ ho (fun _ _ _ h => by cases h) h2; exact Hv (hrel.obj nm _ h4) h5 (fun _ _ _ => rfl) (fun _ _ _ _ h => h) (fun _ hh => hh.mono hT) Pw
  · replace ho : own' nm = some _ := ho
    cases hx : S nm with
    | some y =>
      simp only [hown, hx, Option.some.injEq, Own.tok.injEq] at ho; obtain ⟨h1, h2, h3⟩ := ho; rw [← h3]; exact h8 nm y.1 y.2.2 (by rw [hx, ← h2])
    | none =>
      have h3 : nm ≠ r := by rintro rfl; rw [hr'] at ho; cases ho
      simp [hown, hx, h3] at ho; simp [hθ, hx] at hnn; exact hrel.tok8 nm _ _ ho hnn
  · obtain ⟨a1, a2⟩ := hold nm g c ho hg; exact h.chg.new nm g c a1 a2
inductive OwnsFr (p : Tag → Bool) (r : Nat) : List (Nat × Own) → Prop
  | nil : OwnsFr p r []
  | row {nm : Nat} {e : TypeId} {cells : List AV} {l : List (Nat × Own)} (h : AV.freeAll p cells = true) (t : OwnsFr p r l) : OwnsFr p r ((nm, .row e cells) :: l)
  | here {o : Own} {l : List (Nat × Own)} (t : OwnsFr p r l) : OwnsFr p r ((r, o) :: l)
  | arr {nm sz m : Nat} {e : TypeId} {f : Nat → List AV} {l : List (Nat × Own)} (h : ∀ j, AV.freeAll p (f j) = true) (t : OwnsFr p r l) : OwnsFr p r ((nm, .arr sz e m f) :: l)
  | tok {nm sz m : Nat} {e : TypeId} {l : List (Nat × Own)} (t : OwnsFr p r l) : OwnsFr p r ((nm, .tok sz e m) :: l)
  | obj {nm : Nat} {x : AObj} {l : List (Nat × Own)} (t : OwnsFr p r l) (h : x.Al (fun y => y.free p = true) := by first | trivial | rfl) : OwnsFr p r ((nm, .obj x) :: l)
theorem OwnsFr.get {p : Tag → Bool} {r q : Nat} (hp : ∀ x : AV, x.free p = true → Fr q x) {l : List (Nat × Own)} (h : OwnsFr p r l) {nm : Nat} {o : Own} (hn : nm ≠ r) (ho : Am l nm = some o) : OwnFr q o := by
  induction h with
  | nil => cases ho
  | @row k e cells l h _ ih =>
    simp only [Am] at ho
    cases hb : Nat.beq k nm with
    | true => rw [hb] at ho; simp only [cond_true, Option.some.injEq] at ho; subst ho; exact fun j _ => hp _ (Hd h j)
    | false => rw [hb] at ho; exact ih ho
  | @here o' l _ ih =>
    simp only [Am] at ho
    cases hb : Nat.beq r nm with
    | true => exact (hn (Nat.eq_of_beq_eq_true hb).symm).elim
    | false => rw [hb] at ho; exact ih ho
  | @arr k sz m e f l h _ ih =>
    simp only [Am] at ho
    cases hb : Nat.beq k nm with
    | true => rw [hb] at ho; simp only [cond_true, Option.some.injEq] at ho; subst ho; exact fun i j _ _ => hp _ (Hd (h i) j)
    | false => rw [hb] at ho; exact ih ho
  | @tok k sz m e l _ ih =>
    simp only [Am] at ho
    cases hb : Nat.beq k nm with
    | true => rw [hb] at ho; simp only [cond_true, Option.some.injEq] at ho; subst ho; trivial
    | false => rw [hb] at ho; exact ih ho
  | @obj k x l _ h ih =>
    simp only [Am] at ho
    cases hb : Nat.beq k nm with
    | true => rw [hb] at ho; simp only [cond_true, Option.some.injEq] at ho; subst ho; exact h.imp fun y hy => hp y hy
    | false => rw [hb] at ho; exact ih ho
theorem OwnsFr.sto {p : Tag → Bool} {r q : Nat} (hp : ∀ x : AV, x.free p = true → Fr q x) {st : St} (h : OwnsFr p r st.own) {nm : Nat} {o : Own} (hn : nm ≠ r) (ho : st.sto.own nm = some o) : OwnFr q o := by
  by_cases hlt : nm < Bj
  · exact h.get hp hn ((A9 hlt).symm.trans ho)
  · obtain ⟨sz, e, m, rfl⟩ := Mj hlt ho
    trivial
theorem tmps_fr {p : Tag → Bool} {q : Nat} (hp : ∀ x : AV, x.free p = true → Fr q x) {st : St} (h : st.tmps.all (fun x => x.2.free p) = true) (t : Nat) : Fr q (st.sto.tmp t) := by
  show Fr q (match Am st.tmps t with | some x => x | none => .any)
  cases hx : Am st.tmps t with
  | none => exact hp _ rfl
  | some x => exact hp _ (List.all_eq_true.1 h _ (Ry hx))
def remA {α : Type} (l : List (Nat × α)) (k : Nat) : List (Nat × α) := l.filter fun p => !Nat.beq p.1 k
theorem look_remA {α : Type} (l : List (Nat × α)) (k n : Nat) : Am (remA l k) n = if k = n then none else Am l n := by
  induction l with
  | nil => simp [remA, Am]
  | cons p l ih =>
    obtain ⟨m, x⟩ := p
    have ih' : Am (List.filter (fun p => !Nat.beq p.1 k) l) n = if k = n then none else Am l n := ih
    simp only [remA, List.filter_cons, Am]
    cases hb : Nat.beq m k with
    | true =>
      have := Nat.eq_of_beq_eq_true hb; subst this; simp only [Bool.not_true, Bool.false_eq_true, if_false, ih']
      by_cases h : m = n
      · simp [h]
      · have : Nat.beq m n = false := by cases hb : Nat.beq m n with | false => rfl | true => exact absurd (Nat.eq_of_beq_eq_true hb) h
        simp [h, this]
    | false =>
      simp only [Bool.not_false, if_true, Am, ih']
      cases hb' : Nat.beq m n with
      | true =>
        have := Nat.eq_of_beq_eq_true hb'; subst this
        have : k ≠ m := by rintro rfl; simp at hb
        simp [this]
      | false => simp
theorem rep_out {I : Nat → Nat → Prop} {own own' : Nat → Option Own} {θ θ' : Nat → Option (Nat × Nat)} {w : World} {v : Value} {sz n b i p q m : Nat} {e : TypeId} {f : Nat → List AV} (hv : Rep I own θ w v (.slice sz n f (.fam b i))) (hb : Ij b i = p) (hp : own p = some (.tok sz e m))
    (hq : own' q = some (.tok sz e m)) (hθ : θ' q = θ p) : Rep I own' θ' w v (.slice sz n f (.own q)) := by
  cases hv with
  | val v x h => obtain ⟨h, _⟩ := h.slice_inv; cases h
  | fam _ _ _ e' m a n' cap f hi' ho' hm hv' h' =>
    rw [hb] at ho' hv'; rw [hp] at ho'; simp only [Option.some.injEq, Own.tok.injEq] at ho'; obtain ⟨_, rfl, rfl⟩ := ho'; exact .own q sz e _ _ _ _ _ hq hm (fun hh => by rw [hθ]; exact hv' hh) h'
theorem Uh {I : Nat → Nat → Prop} {own own' : Nat → Option Own} {θ θ' : Nat → Option (Nat × Nat)} {w : World} {v : Value} {sz n b i p : Nat} {f : Nat → List AV} (hv : Rep I own θ w v (.slice sz n f (.fam b i))) (hb : Ij b i = p) (ho : i < Bj → own' p = own p) (hθ : i < Bj → θ' p = θ p) : Rep I own' θ' w v (.slice sz n f (.fam b i)) := by
  cases hv with
  | val v x h => obtain ⟨h, _⟩ := h.slice_inv; cases h
  | fam _ _ _ e' m a n' cap f hi' ho' hm hv' h' =>
    rw [hb] at ho' hv'; exact .fam b i sz e' m _ _ _ _ hi' (by rw [hb, ho hi']; exact ho') hm (fun hh => by rw [hb, hθ hi']; exact hv' hh) h'
theorem rep_back {I : Nat → Nat → Prop} {own own' : Nat → Option Own} {θ θ' : Nat → Option (Nat × Nat)} {w : World} {v : Value} {sz n b i p q m : Nat} {e : TypeId} {f : Nat → List AV} (hv : Rep I own θ w v (.slice sz n f (.own p))) (hb : Ij b i = q) (hi : i < Bj) (hp : own p = some (.tok sz e m))
    (hq : own' q = some (.tok sz e m)) (hθ : θ' q = θ p) : Rep I own' θ' w v (.slice sz n f (.fam b i)) := by
  cases hv with
  | val v x h => obtain ⟨h, _⟩ := h.slice_inv; cases h
  | own _ _ e' m' a n' cap f ho' hm' hv' h' =>
    rw [hp] at ho'; simp only [Option.some.injEq, Own.tok.injEq] at ho'; obtain ⟨_, rfl, rfl⟩ := ho'; exact .fam b i sz e m _ _ _ _ hi (by rw [hb]; exact hq) hm' (fun hh => by rw [hb, hθ]; exact hv' hh) h'
theorem rep_new {I : Nat → Nat → Prop} {own own' : Nat → Option Own} {θ θ' : Nat → Option (Nat × Nat)} {w : World} {v : Value} {sz n b i q : Nat} {e : TypeId} {f : Nat → List AV} (hv : Rep I own θ w v (.slice sz n f .exact)) (hb : Ij b i = q) (hi : i < Bj) (hq : own' q = some (.tok sz e n)) (hθ : θ' q = none) :
    Rep I own' θ' w v (.slice sz n f (.fam b i)) := by
  cases hv with
  | val v x h => obtain ⟨h, _⟩ := h.slice_inv; cases h
  | exact a n' s' f h' => exact .fam b i sz e _ _ _ _ _ hi (by rw [hb]; exact hq) (Nat.le_refl _) (fun _ => by rw [hb, hθ]) h'
section
variable {α : Type} {st : St} {r b k n sz : Nat} {e1 : TypeId}
theorem Yt {I : Nat → Nat → Prop} {own : Nat → Option Own} {θ : Nat → Option (Nat × Nat)} {w : World} (h : Fv I own θ w) {s1 : Nat} {F : Nat → List AV} (hr : own r = some (.arr s1 e1 n F)) {i : Nat} (hi : i < n) : i < Bj := by
  have hm : maxLen < Bj := by decide
  obtain ⟨h1, h2⟩ := h.arr r _ _ _ _ hr
  cases hx : θ r with
  | none => have := h1 hx; omega
  | some y => obtain ⟨_, _, h3, h4, _⟩ := h2 y.1 y.2 hx; omega
theorem Kx (enc : α → List AV) (d : α) (L : List (List α)) (i : Nat) (e : TypeId) (hr : Am st.own r = some (.arr 1 e1 n (Bo sz enc d L (Tag.fam b)))) (hb : Am st.fam b = some ⟨sz, e, Ca L⟩) (hk : Am st.own k = none) (hn : n = L.length) (hi : i < L.length)
    (ht : st.tmps.all (fun x => x.2.free (Xo b)) = true) (ho : OwnsFr (Xo b) r st.own) (hlr : Nat.blt r Bj = true := by rfl) (hlk : Nat.blt k Bj = true := by rfl) :
    Le Γ st ⟨st.tmps, El (El st.own r (.arr 1 e1 n (Bo sz enc d L (Cp b i k)))) k (.tok sz e (L.getD i []).length), El st.fam b ⟨sz, e, F8 L i⟩⟩ := by
  intro I θ a w h
  have hlr : r < Bj := by simpa [Nat.blt_eq] using hlr
  have hlk : k < Bj := by simpa [Nat.blt_eq] using hlk
  have hr' : st.sto.own r = some (.arr 1 e1 n (Bo sz enc d L (Tag.fam b))) := (A9 hlr).trans hr; have hk' : st.sto.own k = none := (A9 hlk).trans hk; have hib : i < Bj := Yt h.chg.rel hr' (by omega)
  have hp : st.sto.own (Ij b i) = some (.tok sz e (L.getD i []).length) := by
    show Cz _ _ _ = _
    rw [P2 hib, hb]; simp [Ca, hi]
  have hkb : k ≠ Ij b i := fun he => by rw [he] at hlk; exact Gn b i hlk
  have hrb : r ≠ Ij b i := fun he => by rw [he] at hlr; exact Gn b i hlr
  have hown : (⟨st.tmps, El (El st.own r (.arr 1 e1 n (Bo sz enc d L (Cp b i k)))) k (.tok sz e (L.getD i []).length), El st.fam b ⟨sz, e, F8 L i⟩⟩ : St).sto.own =
      fun x => if x = k then some (.tok sz e (L.getD i []).length) else if x = Ij b i then none else if x = r then some (.arr 1 e1 n (Bo sz enc d L (Cp b i k))) else st.sto.own x := by
    funext x
    show Cz (El (El st.own r _) k _) (El st.fam b _) x = if x = k then _ else if x = Ij b i then none else if x = r then _ else Cz st.own st.fam x
    by_cases hx : x < Bj
    · have h1 : x ≠ Ij b i := fun he => by rw [he] at hx; exact Gn b i hx
      rw [A9 hx, A9 hx, Eu, Eu]; simp only [eq_comm (a := k), eq_comm (a := r), h1, if_false]
    · have h1 : x ≠ k := by rintro rfl; exact hx hlk
      have h2 : x ≠ r := by rintro rfl; exact hx hlr
      rw [Cw hx, Cw hx, Eu, if_neg h1, if_neg h2]
      by_cases hd : b = x / Bj - 1
      · have hxe := big_of hx; rw [← hd] at hxe
        by_cases hm : x % Bj = i
        · rw [hm] at hxe; rw [if_pos hd, if_pos hxe, hm]; simp [F8]
        · have h3 : x ≠ Ij b i := fun he => hm (by rw [he, I5 hib]); rw [if_pos hd, if_neg h3, ← hd, hb]; simp [F8, hm]
      · have h3 : x ≠ Ij b i := fun he => hd (by rw [he, K6 hib]); rw [if_neg hd, if_neg h3]
  let θ' : Nat → Option (Nat × Nat) := fun x => if x = k then θ (Ij b i) else if x = Ij b i then none else θ x
  refine ⟨I, θ', ?_⟩; have hrr := Uw (θ' := θ') h hp hk' hr' (by cases hx : Γ.own0 (Ij b i) with | none => rfl | some o => exact (Gn b i (Γ.lt0 _ (by rw [hx]; simp))).elim)
    (fun t => tmps_fr (fun x hx => fr_fam hib hx) ht t) (fun nm o hne ho' => ho.sto (fun x hx => fr_fam hib hx) hne ho') hown rfl (fun j _ => rfl) (fun j c v hj hc hv => ?_)
  · exact hrr
  · obtain rfl : c = 0 := by omega
    show Rep I _ θ' w v (.slice sz _ _ (Cp b i k j))
    replace hv : Rep I st.sto.own θ w v (.slice sz (L.getD j []).length (fun i_ => enc ((L.getD j []).getD i_ d)) (.fam b j)) := hv
    cases hji : Nat.beq j i with
    | true =>
      have := Nat.eq_of_beq_eq_true hji; subst this; rw [show Cp b j k j = .own k by simp [Cp]]; exact rep_out hv rfl hp ((congrFun hown k).trans (if_pos rfl)) (if_pos rfl)
    | false =>
      have hne : j ≠ i := by rintro rfl; simp at hji
      rw [show Cp b i k j = .fam b j by simp [Cp, hji]]; have h3 : j < Bj → Ij b j ≠ Ij b i := fun hi' he => hne (by rw [← I5 (b := b) hi', he, I5 hib])
      have h4 : Ij b j ≠ k := fun he => by rw [← he] at hlk; exact Gn b j hlk
      have h5 : Ij b j ≠ r := fun he => by rw [← he] at hlr; exact Gn b j hlr
      exact Uh hv rfl (fun hi' => (congrFun hown _).trans ((if_neg h4).trans ((if_neg (h3 hi')).trans (if_neg h5)))) (fun hi' => (if_neg h4).trans (if_neg (h3 hi')))
theorem P1 (enc : α → List AV) (d : α) (L : List (List α)) (i : Nat) (x : List α) (e : TypeId) {F : Nat → List AV} {m : Nat} (hr : Am st.own r = some (.arr 1 e1 n F)) (hF : ∀ j, j < n → F j = Bo sz enc d (L.set i x) (Cp b i k) j) (hb : Am st.fam b = some ⟨sz, e, F8 L i⟩) (hk : Am st.own k = some (.tok sz e m)) (hm : m = x.length) (hn : n = L.length) (hi : i < L.length)
    (ht : st.tmps.all (fun x => x.2.free (Zw k)) = true) (ho : OwnsFr (Zw k) r st.own) (h0 : Γ.own0 k = none) (hlr : Nat.blt r Bj = true := by rfl) (hlk : Nat.blt k Bj = true := by rfl) :
    Le Γ st ⟨st.tmps, remA (El st.own r (.arr 1 e1 n (Bo sz enc d (L.set i x) (Tag.fam b)))) k, El st.fam b ⟨sz, e, Ca (L.set i x)⟩⟩ := by
  intro I θ a w h
  have hlr : r < Bj := by simpa [Nat.blt_eq] using hlr
  have hlk : k < Bj := by simpa [Nat.blt_eq] using hlk
  have hr' : st.sto.own r = some (.arr 1 e1 n F) := (A9 hlr).trans hr; have hk' : st.sto.own k = some (.tok sz e m) := (A9 hlk).trans hk; have hib : i < Bj := Yt h.chg.rel hr' (by omega)
  have hp : st.sto.own (Ij b i) = none := by
    show Cz _ _ _ = _
    rw [P2 hib, hb]; simp [F8]
  have hgi : (L.set i x).getD i [] = x := by simp [List.getD, hi]
  have hgj : ∀ j, j ≠ i → (L.set i x).getD j [] = L.getD j [] := fun j hj => by simp [List.getD, Ne.symm hj]
  have hkr : k ≠ r := by rintro rfl; rw [hk] at hr; cases hr
  have hkb : k ≠ Ij b i := fun he => by rw [he] at hlk; exact Gn b i hlk
  have hown : (⟨st.tmps, remA (El st.own r (.arr 1 e1 n (Bo sz enc d (L.set i x) (Tag.fam b)))) k, El st.fam b ⟨sz, e, Ca (L.set i x)⟩⟩ : St).sto.own =
      fun y => if y = Ij b i then some (.tok sz e m) else if y = k then none else if y = r then some (.arr 1 e1 n (Bo sz enc d (L.set i x) (Tag.fam b))) else st.sto.own y := by
    funext y
    show Cz (remA (El st.own r _) k) (El st.fam b _) y = if y = Ij b i then _ else if y = k then none else if y = r then _ else Cz st.own st.fam y
    by_cases hx : y < Bj
    · have h1 : y ≠ Ij b i := fun he => by rw [he] at hx; exact Gn b i hx
      rw [A9 hx, A9 hx, look_remA, Eu]; simp only [eq_comm (a := k), eq_comm (a := r), h1, if_false]
    · have h1 : y ≠ k := by rintro rfl; exact hx hlk
      have h2 : y ≠ r := by rintro rfl; exact hx hlr
      rw [Cw hx, Cw hx, Eu, if_neg h1, if_neg h2]
      by_cases hd : b = y / Bj - 1
      · have hxe := big_of hx; rw [← hd] at hxe
        by_cases hm' : y % Bj = i
        · rw [hm'] at hxe; rw [if_pos hd, if_pos hxe, hm', Option.bind_some]
          show (Ca (L.set i x) i).map _ = _
          simp only [Ca, List.length_set, hi, if_true, hgi, hm, Option.map_some]
        · have h3 : y ≠ Ij b i := fun he => hm' (by rw [he, I5 hib]); rw [if_pos hd, if_neg h3, ← hd, hb]; simp only [Option.bind_some, F8, hm', if_false, Ca, List.length_set, hgj _ hm']
      · have h3 : y ≠ Ij b i := fun he => hd (by rw [he, K6 hib]); rw [if_neg hd, if_neg h3]
  let θ' : Nat → Option (Nat × Nat) := fun y => if y = Ij b i then θ k else if y = k then none else θ y
  refine ⟨I, θ', ?_⟩; have hrr := Uw (θ' := θ') h hk' hp hr' h0 (fun t => tmps_fr (fun x hx => fr_own hlk hx) ht t) (fun nm o hne ho' => ho.sto (fun x hx => fr_own hlk hx) hne ho') hown rfl
    (fun j hj => by rw [hF j hj]; rfl) (fun j c v hj hc hv => ?_)
  · exact hrr
  · obtain rfl : c = 0 := by omega
    rw [hF j hj] at hv
    show Rep I _ θ' w v (.slice sz _ _ (.fam b j))
    replace hv : Rep I st.sto.own θ w v (.slice sz ((L.set i x).getD j []).length (fun i_ => enc (((L.set i x).getD j []).getD i_ d)) (Cp b i k j)) := hv
    cases hji : Nat.beq j i with
    | true =>
      have := Nat.eq_of_beq_eq_true hji; subst this; rw [show Cp b j k j = .own k by simp [Cp]] at hv; exact rep_back hv rfl hib hk' ((congrFun hown _).trans (if_pos rfl)) (if_pos rfl)
    | false =>
      have hne : j ≠ i := by rintro rfl; simp at hji
      rw [show Cp b i k j = .fam b j by simp [Cp, hji]] at hv; have h3 : j < Bj → Ij b j ≠ Ij b i := fun hi' he => hne (by rw [← I5 (b := b) hi', he, I5 hib])
      have h4 : Ij b j ≠ k := fun he => by rw [← he] at hlk; exact Gn b j hlk
      have h5 : Ij b j ≠ r := fun he => by rw [← he] at hlr; exact Gn b j hlr
      exact Uh hv rfl (fun hi' => (congrFun hown _).trans ((if_neg (h3 hi')).trans ((if_neg h4).trans (if_neg h5)))) (fun hi' => (if_neg (h3 hi')).trans (if_neg h4))
def J2 (b i j : Nat) : Tag := bif Nat.beq j i then .exact else .fam b j
theorem le_putx (enc : α → List AV) (d : α) (L : List (List α)) (i : Nat) (x : List α) (e : TypeId) {F : Nat → List AV} (hr : Am st.own r = some (.arr 1 e1 n F)) (hF : ∀ j, j < n → F j = Bo sz enc d (L.set i x) (J2 b i) j) (hb : Am st.fam b = some ⟨sz, e, F8 L i⟩) (hn : n = L.length) (hi : i < L.length)
    (h8 : e = Lw → x.length = 0) (hlr : Nat.blt r Bj = true := by rfl) :
    Le Γ st ⟨st.tmps, El st.own r (.arr 1 e1 n (Bo sz enc d (L.set i x) (Tag.fam b))), El st.fam b ⟨sz, e, Ca (L.set i x)⟩⟩ := by
  intro I θ a w h
  have hlr : r < Bj := by simpa [Nat.blt_eq] using hlr
  have hr' : st.sto.own r = some (.arr 1 e1 n F) := (A9 hlr).trans hr; have hib : i < Bj := Yt h.chg.rel hr' (by omega); obtain ⟨q, hq⟩ : ∃ q, Ij b i = q := ⟨_, rfl⟩
  have hqg : ¬ q < Bj := by rw [← hq]; exact Gn b i
  have hqd : q / Bj - 1 = b := by rw [← hq]; exact K6 hib
  have hqm : q % Bj = i := by rw [← hq]; exact I5 hib
  have hgi : (L.set i x).getD i [] = x := by simp [List.getD, hi]
  have hgj : ∀ j, j ≠ i → (L.set i x).getD j [] = L.getD j [] := fun j hj => by simp [List.getD, Ne.symm hj]
  let S : Nat → Option (Nat × TypeId × Nat) := fun y => if y = q then some (sz, e, x.length) else none
  have hown : (⟨st.tmps, El st.own r (.arr 1 e1 n (Bo sz enc d (L.set i x) (Tag.fam b))), El st.fam b ⟨sz, e, Ca (L.set i x)⟩⟩ : St).sto.own =
      fun y => match S y with | some y => some (.tok y.1 y.2.1 y.2.2) | none => if y = r then some (.arr 1 e1 n (Bo sz enc d (L.set i x) (Tag.fam b))) else st.sto.own y := by
    funext y
    show Cz (El st.own r _) (El st.fam b _) y = match S y with | some y => _ | none => if y = r then _ else Cz st.own st.fam y
    by_cases hx : y < Bj
    · have h1 : y ≠ q := fun he => hqg (he ▸ hx); have : S y = none := if_neg h1; rw [A9 hx, A9 hx, Eu, this]; simp only [eq_comm (a := r)]
    · have h2 : y ≠ r := by rintro rfl; exact hx hlr
      rw [Cw hx, Cw hx, Eu]
      by_cases hd : b = y / Bj - 1
      · have hxe := big_of hx; rw [← hd] at hxe
        by_cases hm' : y % Bj = i
        · rw [hm', hq] at hxe; have : S y = some (sz, e, x.length) := if_pos hxe; rw [if_pos hd, this, hm', Option.bind_some]
          show (Ca (L.set i x) i).map _ = _
          simp only [Ca, List.length_set, hi, if_true, hgi, Option.map_some]
        · have h3 : y ≠ q := fun he => hm' (by rw [he, hqm]); have : S y = none := if_neg h3; rw [if_pos hd, this, if_neg h2, ← hd, hb]; simp only [Option.bind_some, F8, hm', if_false, Ca, List.length_set, hgj _ hm']
      · have h3 : y ≠ q := fun he => hd (by rw [he, hqd]); have : S y = none := if_neg h3; rw [if_neg hd, this, if_neg h2]
  have hp : st.sto.own q = none := by
    rw [← hq]
    show Cz _ _ _ = _
    rw [P2 hib, hb]; simp [F8]
  refine ⟨I, _, Uf h hr' (S := S) (fun y z hy => ?_) (fun y s m hy => ?_) hown rfl (fun j hj => by rw [hF j hj]; rfl) (fun j c v hj hc hv => ?_)⟩
  · by_cases h1 : y = q
    · rw [h1]; exact hp
    · have h2 : S y = none := if_neg h1; rw [h2] at hy; cases hy
  · by_cases h1 : y = q
    · have h2 : S y = some (sz, e, x.length) := if_pos h1; rw [h2] at hy; simp only [Option.some.injEq, Prod.mk.injEq] at hy; obtain ⟨_, he, rfl⟩ := hy; exact h8 he
    · have h2 : S y = none := if_neg h1; rw [h2] at hy; cases hy
  · obtain rfl : c = 0 := by omega
    rw [hF j hj] at hv
    show Rep I _ _ w v (.slice sz _ _ (.fam b j))
    replace hv : Rep I st.sto.own θ w v (.slice sz ((L.set i x).getD j []).length (fun i_ => enc (((L.set i x).getD j []).getD i_ d)) (J2 b i j)) := hv
    cases hji : Nat.beq j i with
    | true =>
      have := Nat.eq_of_beq_eq_true hji; subst this; rw [show J2 b j j = .exact by simp [J2]] at hv; have hSj : S q = some (sz, e, x.length) := if_pos rfl; exact rep_new (q := q) (e := e) hv hq hib ((congrFun hown _).trans (by rw [hSj, hgi])) (by rw [hSj])
    | false =>
      have hne : j ≠ i := by rintro rfl; simp at hji
      rw [show J2 b i j = .fam b j by simp [J2, hji]] at hv; obtain ⟨q', hq'⟩ : ∃ q', Ij b j = q' := ⟨_, rfl⟩; have h3 : j < Bj → q' ≠ q := fun hi' he => hne (by rw [← I5 (b := b) hi', hq', he, hqm])
      have h5 : q' ≠ r := fun he => by rw [← he, ← hq'] at hlr; exact Gn b j hlr
      have hS' : j < Bj → S q' = none := fun hi' => if_neg (h3 hi'); exact Uh hv hq' (fun hi' => (congrFun hown _).trans (by rw [hS' hi']; exact if_neg h5)) (fun hi' => by rw [hS' hi'])
theorem P4 (enc : α → List AV) (d : α) (L : List (List α)) (e : TypeId) (hr : Am st.own r = some (.arr 1 e1 n (Bo sz enc d L (fun _ => .exact)))) (hb : Am st.fam b = none) (hn : n = L.length) (h8 : e = Lw → ∀ j, (L.getD j []).length = 0) (hlr : Nat.blt r Bj = true := by rfl) :
    Le Γ st ⟨st.tmps, El st.own r (.arr 1 e1 n (Bo sz enc d L (Tag.fam b))), El st.fam b ⟨sz, e, Ca L⟩⟩ := by
  intro I θ a w h
  have hlr : r < Bj := by simpa [Nat.blt_eq] using hlr
  have hr' : st.sto.own r = some (.arr 1 e1 n (Bo sz enc d L (fun _ => .exact))) := (A9 hlr).trans hr
  let S : Nat → Option (Nat × TypeId × Nat) := fun x => if x < Bj then none else if b = x / Bj - 1 then (Ca L (x % Bj)).map fun m => (sz, e, m) else none
  have hown : (⟨st.tmps, El st.own r (.arr 1 e1 n (Bo sz enc d L (Tag.fam b))), El st.fam b ⟨sz, e, Ca L⟩⟩ : St).sto.own =
      fun x => match S x with | some y => some (.tok y.1 y.2.1 y.2.2) | none => if x = r then some (.arr 1 e1 n (Bo sz enc d L (Tag.fam b))) else st.sto.own x := by
    funext x
    show Cz (El st.own r _) (El st.fam b _) x = match S x with | some y => _ | none => if x = r then _ else Cz st.own st.fam x
    by_cases hx : x < Bj
    · have : S x = none := by simp [S, hx]
      rw [A9 hx, A9 hx, Eu, this]; simp only [eq_comm (a := r)]
    · have h2 : x ≠ r := by rintro rfl; exact hx hlr
      rw [Cw hx, Cw hx, Eu]
      by_cases hd : b = x / Bj - 1
      · have : S x = (Ca L (x % Bj)).map fun m => (sz, e, m) := by simp only [S, hx, if_false, if_pos hd]
        rw [if_pos hd, this, if_neg h2, ← hd, hb]; simp only [Option.bind_some]
        cases Ca L (x % Bj) <;> rfl
      · have : S x = none := by simp only [S, hx, if_false, if_neg hd]
        rw [if_neg hd, this, if_neg h2]
  have hS : ∀ x y, S x = some y → st.sto.own x = none := fun x y hx => by
    by_cases h1 : x < Bj
    · simp [S, h1] at hx
    · by_cases hd : b = x / Bj - 1
      · show Cz _ _ x = none
        rw [Cw h1, ← hd, hb]; rfl
      · simp only [S, h1, if_false, if_neg hd] at hx; cases hx
  refine ⟨I, _, Uf h hr' hS (fun x s m hx => ?_) hown rfl (fun j _ => rfl) (fun j c v hj hc hv => ?_)⟩
  · by_cases h1 : x < Bj
    · simp [S, h1] at hx
    · by_cases hd : b = x / Bj - 1
      · simp only [S, h1, if_false, if_pos hd] at hx; obtain ⟨m', hm', he⟩ := Option.map_eq_some_iff.1 hx; simp only [Prod.mk.injEq] at he; obtain ⟨_, he, rfl⟩ := he; unfold Ca at hm'
        split at hm'
        · simp only [Option.some.injEq] at hm'; rw [← hm']; exact h8 he _
        · cases hm'
      · simp only [S, h1, if_false, if_neg hd] at hx; cases hx
  · obtain rfl : c = 0 := by omega
    have hjb : j < Bj := Yt h.chg.rel hr' hj; replace hv : Rep I st.sto.own θ w v (.slice sz (L.getD j []).length (fun i_ => enc ((L.getD j []).getD i_ d)) .exact) := hv
    show Rep I _ _ w v (.slice sz (L.getD j []).length (fun i_ => enc ((L.getD j []).getD i_ d)) (.fam b j))
    have hSj : S (Ij b j) = some (sz, e, (L.getD j []).length) := by
      simp only [S, Gn b j, if_false, K6 hjb, if_true, I5 hjb, Ca]; rw [if_pos (by omega)]; rfl
    exact rep_new hv rfl hjb ((congrFun hown _).trans (by rw [hSj])) (by rw [hSj])
end
end
theorem Lt {α : Type} {sz b i k : Nat} {e : α → List AV} {d : α} {l : List α} : AVle (AV.list sz e d l (Cp b i k i)) (AV.list sz e d l (.own k)) := by
  have : Cp b i k i = .own k := by simp [Cp]
  rw [this]; exact AVle.refl _
theorem Kn {α : Type} {sz b i k k0 : Nat} {e : α → List AV} {d : α} {L : List (List α)} {x : List α} {n : Nat} {keep : Nat → Bool} (hi : i < L.length) (hk : keep k = true) (hb : keep b = true) :
    ∀ j, j < n → AV.eraseAll keep (D0 (Bo sz e d L (Cp b i k0)) i 0 [AV.list sz e d x (.own k)] j) = Bo sz e d (L.set i x) (Cp b i k) j := fun j _ => by
  unfold D0
  cases hji : Nat.beq j i with
  | true =>
    have := Nat.eq_of_beq_eq_true hji; subst this; simp [Bo, AV.eraseAll, AV.erase, AV.list, Cp, hk, List.getD, hi]
  | false =>
    have hne : i ≠ j := by rintro rfl; simp at hji
    simp [Bo, AV.eraseAll, AV.erase, AV.list, Cp, hji, hb, List.getD, hne]
theorem putF_famx {α : Type} {sz b i k0 : Nat} {e : α → List AV} {d : α} {L : List (List α)} {x : List α} {n : Nat} {keep : Nat → Bool} (hi : i < L.length) (hb : keep b = true) :
    ∀ j, j < n → AV.eraseAll keep (D0 (Bo sz e d L (Cp b i k0)) i 0 [AV.list sz e d x .exact] j) = Bo sz e d (L.set i x) (J2 b i) j := fun j _ => by
  unfold D0
  cases hji : Nat.beq j i with
  | true =>
    have := Nat.eq_of_beq_eq_true hji; subst this; simp [Bo, AV.eraseAll, AV.erase, AV.list, J2, List.getD, hi]
  | false =>
    have hne : i ≠ j := by rintro rfl; simp at hji
    simp [Bo, AV.eraseAll, AV.erase, AV.list, Cp, J2, hji, hb, List.getD, hne]
theorem Qp {α : Type} {sz n : Nat} {e : α → List AV} {d : α} {keep : Nat → Bool} : ∀ k, k < n → AVleL (AV.eraseAll keep [.slice 0 0 (fun _ => []) .exact]) (Bo sz e d (List.replicate n []) (fun _ => .exact) k) := fun k hk => by
  have : (List.replicate n ([] : List α)).getD k [] = [] := by simp [List.getD, hk]
  unfold Bo; rw [this]; exact .cons Cs .nil
theorem Ua {n sz : Nat} {f : Nat → List AV} (hf : ∀ i, i < n → (f i).length = sz) : ∀ k, k < n → ((Nr n f).drop (k * sz)).take sz = f k := fun k hk => by
  have hl := Ot hf; have h1 : (k + 1) * sz ≤ n * sz := Nat.mul_le_mul_right _ hk; rw [Nat.add_mul] at h1
  apply List.ext_getElem
  · rw [List.length_take, List.length_drop, hl, hf k hk]; omega
  · intro j h2 h3
    have hj : j < sz := by rw [hf k hk] at h3; exact h3
    have := R3 hf k j hk hj; rw [List.getElem_take, List.getElem_drop]; rw [List.getD_eq_getElem?_getD, List.getElem?_eq_getElem (by omega), List.getD_eq_getElem?_getD, List.getElem?_eq_getElem h3] at this
    simpa using this
def subN {α : Type} (d : α) (l : List α) (lo k : Nat) : List α := (List.range k).map fun i => l.getD (lo + i) d
theorem Abm {α : Type} {d : α} {l : List α} {lo k : Nat} : (subN d l lo k).length = k := by simp [subN]
theorem Vt {α : Type} {d : α} {l : List α} {lo k i : Nat} (h : i < k) : (subN d l lo k).getD i d = l.getD (lo + i) d := by
  simp [subN, List.getD, h]
theorem sub_le {α : Type} {sz k lo : Nat} {e : α → List AV} {d : α} {l : List α} (hs : ∀ a, AV.stripAll (e a) = e a) : AVle (.slice sz k (fun i => AV.stripAll (e (l.getD (lo + i) d))) .none) (AV.list sz e d (subN d l lo k) .none) := by
  intro I own θ w v hv; obtain ⟨_, a, cap, us, rfl, hcap, hmax, hz, hn, h1, hl, hr⟩ := hv.slice_val.slice_inv; unfold AV.list; rw [Abm]; refine .val _ _ (.slice _ _ _ sz _ us hcap hmax hz hn h1 (fun i hi => ?_) (fun i c hi hc => ?_))
  · rw [Vt hi, ← hs]; exact hl i hi
  · rw [Vt hi, ← hs]; exact hr i c hi hc
mutual
def AV.freeN (r : Nat) : AV → Bool
  | .vsl nm _ => !Nat.beq nm r
  | .vpt nm _ _ _ => !Nat.beq nm r
  | .vsub nm _ _ _ => !Nat.beq nm r
  | .clo _ xs ys => AV.freeNAll r xs && AV.freeNAll r ys
  | .agg cs => AV.freeNAll r cs
  | .tuple cs => AV.freeNAll r cs
  | .cond _ x => x.freeN r
  | _ => true
def AV.freeNAll (r : Nat) : List AV → Bool
  | [] => true
  | x :: l => x.freeN r && AV.freeNAll r l
end
theorem Fx {r : Nat} {l : List AV} (h : AV.freeNAll r l = true) (j : Nat) : (l.getD j .any).freeN r = true := by
  induction l generalizing j with
  | nil => simp [AV.freeN]
  | cons x l ih =>
    simp only [AV.freeNAll, Bool.and_eq_true] at h
    cases j with
    | zero => simpa using h.1
    | succ j => simpa using ih h.2 j
theorem rep_freeN {I : Nat → Nat → Prop} {own own' : Nat → Option Own} {θ : Nat → Option (Nat × Nat)} {w : World} {v : Value} {x : AV} {r : Nat} (h : Rep I own θ w v x) (hx : x.freeN r = true) (hr : ∃ sz e m f, own r = some (.arr sz e m f))
    (ho : ∀ nm, nm ≠ r → own' nm = own nm) : Rep I own' θ w v x := by
  obtain ⟨s0, e0, m0, f0, hr⟩ := hr
  have hne : ∀ {nm o}, own nm = some o → (∀ sz e m f, o ≠ .arr sz e m f) → own' nm = some o := fun {nm o} hn hh => by
    rw [ho nm (by rintro rfl; rw [hr] at hn; exact hh _ _ _ _ (OI hn).symm)]; exact hn
  have hbq : ∀ {nm : Nat}, (!Nat.beq nm r) = true → nm ≠ r := fun h e => by subst e; simp at h
  induction h with
  | val v x h => exact .val v x h
  | exact a n sz f h => exact .exact a n sz f h
  | own nm sz e m a n cap f hn hm hv h => exact .own nm sz e m a n cap f (hne hn (fun _ _ _ _ h => by cases h)) hm hv h
  | fam b i sz e m a n cap f hi hn hm hv h => exact .fam b i sz e m a n cap f hi (hne hn (fun _ _ _ _ h => by cases h)) hm hv h
  | ptr nm off e cells g c hn hg => exact .ptr nm off e cells g c (hne hn (fun _ _ _ _ h => by cases h)) hg
  | vsl nm sz e m f a n cap hn hm hcap hmax hnn hv => exact .vsl nm sz e m f a n cap ((ho nm (hbq hx)).trans hn) hm hcap hmax hnn hv
  | vpt nm sz e m f n i j ad hn hm hi hv => exact .vpt nm sz e m f n i j ad ((ho nm (hbq hx)).trans hn) hm hi hv
  | clo f fs cs xs ys hl hl' _ _ ih ih' =>
    simp only [AV.freeN, Bool.and_eq_true] at hx; exact .clo f fs cs xs ys hl hl' (fun j hj => ih j hj (Fx hx.1 j)) (fun j hj => ih' j hj (Fx hx.2 j))
  | optr nm x g c hn hg => exact .optr nm x g c (hne hn (fun _ _ _ _ h => by cases h)) hg
  | omap nm x hn => exact .omap nm x (hne hn (fun _ _ _ _ h => by cases h))
  | vsub nm sz e m f n lo hi a cap hn hm hlo hhi hcap hmax hnn hv => exact .vsub nm sz e m f n lo hi a cap ((ho nm (hbq hx)).trans hn) hm hlo hhi hcap hmax hnn hv
  | cond v c x _ h' ih => exact .cond v c x (fun hc => ih hc hx) h'
  | agg vs cs hl h1 _ ih => exact .agg vs cs hl h1 (fun j hj => ih j hj (Fx hx j))
  | tuple vs cs hl _ ih => exact .tuple vs cs hl (fun j hj => ih j hj (Fx hx j))
inductive OwnsFrN (r : Nat) : List (Nat × Own) → Prop
  | nil : OwnsFrN r []
  | row {nm : Nat} {e : TypeId} {cells : List AV} {l : List (Nat × Own)} (h : AV.freeNAll r cells = true) (t : OwnsFrN r l) : OwnsFrN r ((nm, .row e cells) :: l)
  | arr {nm sz m : Nat} {e : TypeId} {f : Nat → List AV} {l : List (Nat × Own)} (h : ∀ j, AV.freeNAll r (f j) = true) (t : OwnsFrN r l) : OwnsFrN r ((nm, .arr sz e m f) :: l)
  | tok {nm sz m : Nat} {e : TypeId} {l : List (Nat × Own)} (t : OwnsFrN r l) : OwnsFrN r ((nm, .tok sz e m) :: l)
  | obj {nm : Nat} {x : AObj} {l : List (Nat × Own)} (t : OwnsFrN r l) (h : x.Al (fun y => y.freeN r = true) := by first | trivial | rfl) : OwnsFrN r ((nm, .obj x) :: l)
def OwnN (r : Nat) : Own → Prop
  | .row _ cells => AV.freeNAll r cells = true
  | .arr _ _ _ f => ∀ j, AV.freeNAll r (f j) = true
  | .obj x => x.Al (fun y => y.freeN r = true)
  | .tok .. => True
theorem OwnsFrN.get {r : Nat} {l : List (Nat × Own)} (h : OwnsFrN r l) {nm : Nat} {o : Own} (ho : Am l nm = some o) : OwnN r o := by
  induction h with
  | nil => cases ho
  | @row k e cells l h _ ih =>
    simp only [Am] at ho
    cases hb : Nat.beq k nm with
    | true => rw [hb] at ho; simp only [cond_true, Option.some.injEq] at ho; subst ho; exact h
    | false => rw [hb] at ho; exact ih ho
  | @arr k sz m e f l h _ ih =>
    simp only [Am] at ho
    cases hb : Nat.beq k nm with
    | true => rw [hb] at ho; simp only [cond_true, Option.some.injEq] at ho; subst ho; exact h
    | false => rw [hb] at ho; exact ih ho
  | @tok k sz m e l _ ih =>
    simp only [Am] at ho
    cases hb : Nat.beq k nm with
    | true => rw [hb] at ho; simp only [cond_true, Option.some.injEq] at ho; subst ho; trivial
    | false => rw [hb] at ho; exact ih ho
  | @obj k x l _ h ih =>
    simp only [Am] at ho
    cases hb : Nat.beq k nm with
    | true => rw [hb] at ho; simp only [cond_true, Option.some.injEq] at ho; subst ho; exact h
    | false => rw [hb] at ho; exact ih ho
theorem Z8 {Γ : K2} {st : St} {t r s n k : Nat} {e : TypeId} {f : Nat → List AV} (hs : st.get t = .vsub r n 0 k) (hr : Am st.own r = some (.arr s e n f)) (hk : k ≤ n)
    (ht : (st.tmps.all fun x => Nat.beq x.1 t || x.2.freeN r) = true) (ho : OwnsFrN r st.own) (h0 : Γ.own0 r = none) (hlt : Nat.blt r Bj = true := by rfl) (hB : arrB e = false := by rfl) :
    Le Γ st ⟨El st.tmps t (.vsl r k), El st.own r (.arr s e k f), st.fam⟩ := by
  intro I θ a w h
  have hlt : r < Bj := by simpa [Nat.blt_eq] using hlt
  have hr' : st.sto.own r = some (.arr s e n f) := (A9 hlt).trans hr
  have hown : (⟨El st.tmps t (.vsl r k), El st.own r (.arr s e k f), st.fam⟩ : St).sto.own = A5 st.sto.own r (.arr s e k f) := by
    funext x
    show Cz (El st.own r _) _ x = _
    rw [Na hlt]; simp only [A5]
    by_cases hx : r = x
    · subst hx; simp
    · simp [hx, Ne.symm hx]; rfl
  have hsame : ∀ nm, nm ≠ r → A5 st.sto.own r (.arr s e k f) nm = st.sto.own nm := fun nm hn => by simp [A5, hn]
  have hT : ∀ v x, x.freeN r = true → Rep I st.sto.own θ w v x → Rep I (A5 st.sto.own r (.arr s e k f)) θ w v x := fun v x hx hv => rep_freeN hv hx ⟨_, _, _, _, hr'⟩ hsame; have hrel := h.chg.rel
  have hrows : ∀ nm o, st.sto.own nm = some o → OwnN r o := fun nm o hn => by
    by_cases hl : nm < Bj
    · exact ho.get ((A9 hl).symm.trans hn)
    · obtain ⟨_, _, _, rfl⟩ := Mj hl hn; trivial
  have hget : ∀ t', (⟨El st.tmps t (.vsl r k), El st.own r (.arr s e k f), st.fam⟩ : St).sto.tmp t' = if t = t' then .vsl r k else st.get t' := fun t' => by
    show (match Am (El st.tmps t _) t' with | some x => x | none => .any) = _
    rw [Eu]
    by_cases hk : t = t'
    · simp [hk]
    · simp [hk]; rfl
  refine ⟨I, θ, h.size, h.defers, fun t' => ?_, ?_⟩
  · rw [hown, hget]
    split
    · rename_i htt
      subst htt; have hv := h.slots t
      have hv' : Rep I st.sto.own θ w (a.tmps.getD t undef) (.vsub r n 0 k) := by rw [← hs]; exact hv
      obtain ⟨sz, e', m, f', ad, cap, he, ho', hm, _, hhi, hcap, hmax, hn, hvv⟩ := hv'.vsub_inv; rw [hr'] at ho'; simp only [Option.some.injEq, Own.arr.injEq] at ho'; obtain ⟨rfl, rfl, rfl, rfl⟩ := ho'; rw [he]; refine .vsl r s e k f ad _ cap (by simp [A5]) (Nat.le_refl _) hcap hmax hn (fun _ => ?_); have hz := (hvv rfl).2 rfl
      cases hθ : θ r with
      | none => rw [hθ] at hz; have := (hrel.arr r _ _ _ _ hr').1 hθ; simp only at hz ⊢; omega
      | some gc => rw [hθ] at hz; exact ⟨hz.1, hz.2.resolve_right (by rw [hB]; decide)⟩
    · rename_i htt
      have hx : (st.get t').freeN r = true := by
        unfold St.get
        cases hl : Am st.tmps t' with
        | none => rfl
        | some x =>
          have := List.all_eq_true.1 ht _ (Ry hl); simp only [Bool.or_eq_true] at this; rcases this with h' | h'
          · exact (htt (Nat.eq_of_beq_eq_true h').symm).elim
          · exact h'
      exact hT _ _ hx (h.slots t')
  · rw [hown]; refine { h.chg with le := fun nm o hno => ?_, rel := ⟨fun nm e0 cells hn => ?_, fun nm s' e' m' hn g c hg => ?_, fun nm nm' g c c' hn hn' hg hg' => ?_, fun nm s' e' m' f' hn => ?_, fun nm x hn => ?_, fun nm s' m' hn hnn => ?_⟩, new := fun nm g c hn hg => ?_ }
    · obtain ⟨o', ho', hl⟩ := h.chg.le nm o hno; exact ⟨o', (hsame nm (by rintro rfl; rw [h0] at hno; cases hno)).trans ho', hl⟩
    · have hne : nm ≠ r := by rintro rfl; simp [A5] at hn
      rw [hsame nm hne] at hn; obtain ⟨g, c, vs, r1, r2, r3, r4, r5, r6⟩ := hrel.row nm e0 cells hn; exact ⟨g, c, vs, r1, r2, r3, r4, fun j hj => hT _ _ (Fx (hrows nm _ hn) j) (r5 j hj), r6⟩
    · have hne : nm ≠ r := by rintro rfl; simp [A5] at hn
      rw [hsame nm hne] at hn; exact hrel.tok nm _ _ _ hn g c hg
    · have hx : ∀ nm, A5 st.sto.own r (.arr s e k f) nm ≠ none → st.sto.own nm ≠ none := fun nm hn => by
        by_cases hne : nm = r
        · subst hne; rw [hr']; simp
        · rwa [hsame nm hne] at hn
      exact hrel.inj nm nm' g c c' (hx nm hn) (hx nm' hn') hg hg'
    · by_cases hne : nm = r
      · subst hne; simp only [A5, if_true, Option.some.injEq, Own.arr.injEq] at hn; obtain ⟨rfl, rfl, rfl, rfl⟩ := hn; obtain ⟨q0, q1⟩ := hrel.arr nm _ _ _ _ hr'; refine ⟨fun hθ => by have := q0 hθ; omega, fun g c hg => ?_⟩; obtain ⟨cur, p1, p2, p3, p4, p5, p6, p7⟩ := q1 g c hg; exact ⟨cur, p1, by omega, p3, p4, fun i hi => p5 i (by omega), fun i j hi hj => ⟨(p6 i j (by omega) hj).1, hT _ _ (Fx (hrows nm _ hr' i) j) (p6 i j (by omega) hj).2⟩, p7⟩
      · rw [hsame nm hne] at hn; exact Nl (hrel.arr nm _ _ _ _ hn) rfl (fun _ _ => rfl) (fun i j v _ _ hv => hT _ _ (Fx (hrows nm _ hn i) j) hv)
    · have hne : nm ≠ r := by rintro rfl; simp [A5] at hn
      rw [hsame nm hne] at hn; exact Hv (hrel.obj nm _ hn) rfl (fun _ _ _ => rfl) (fun _ _ _ _ h => h) (fun _ hh => hh.al (P := fun y => y.freeN r = true) (hrows nm _ hn) (fun _ _ h => h) (fun _ _ _ => rfl) fun v y hy hv => hT v y hy hv) Pw
    · have hne : nm ≠ r := by rintro rfl; simp [A5] at hn
      rw [hsame nm hne] at hn; exact hrel.tok8 nm _ _ hn hnn
    · have hx : st.sto.own nm ≠ none := by
        by_cases hne : nm = r
        · subst hne; rw [hr']; simp
        · rwa [hsame nm hne] at hn
      exact h.chg.new nm g c hx hg
theorem take_le {α : Type} {e : α → List AV} {d : α} {l : List α} {k : Nat} : ∀ i, i < 0 + k → AVleL (e (l.getD i d)) (e ((l.take k).getD i d)) := fun i hi => by
  have : (l.take k).getD i d = l.getD i d := by simp [List.getD, show i < k by omega]
  rw [this]; exact .refl _
theorem take_len {α : Type} {l : List α} {k : Nat} (h : 0 + k ≤ l.length) : 0 + k = (l.take k).length := by simp; omega
theorem pw_nil {f g : Nat → List AV} : ∀ k, k < 0 → f k = g k := fun _ h => by omega
theorem pw_snoc {n : Nat} {f g : Nat → List AV} (h : ∀ k, k < n → f k = g k) (h' : f n = g n) : ∀ k, k < n + 1 → f k = g k := fun k hk => by
  by_cases hkn : k = n
  · subst hkn; exact h'
  · exact h k (by omega)
theorem Ov {α : Type} {keep : Nat → Bool} {e : α → List AV} {d : α} {z : List AV} {N sz : Nat} (hz : z.length = sz) (h : z = e d) (hk : AV.eraseAll keep z = z) : ∀ k, k < N → AVleL (AV.eraseAll keep ((((List.replicate N z).flatten).drop (k * sz)).take sz)) (e ((List.replicate N d).getD k d)) := fun k hk' => by
  have : (List.replicate N d).getD k d = d := by simp [List.getD, hk']
  rw [flat_rep z sz hz N k hk', this, hk, h]; exact .refl _
theorem lent_load {f : Nat → List AV} {i : Nat} {x : AV} : AVle ((D0 f i 0 [x] i).getD 0 .any) x := by
  rw [Il]
  simpa using AVle.refl x
theorem Hb {keep : Nat → Bool} {f : Nat → List AV} {i k R m : Nat} (hf : ∀ j, AV.eraseAll keep (f j) = f j) (hk : keep R = true) : ∀ j, j < k → AVleL (AV.eraseAll keep (D0 f i 0 [.vsl R m] j)) (D0 f i 0 [.vsl R m] j) := fun j _ => by
  have h : AV.eraseAll keep (D0 f i 0 [.vsl R m] j) = D0 f i 0 [.vsl R m] j := by
    by_cases hj : j = i
    · subst hj; rw [Il, Hu, Hu, Ph, O9, hf]; simp [AV.eraseAll, AV.erase, hk]
    · rw [J6 f _ hj, hf]
  rw [h]; exact .refl _
theorem lent_put {α : Type} {enc : α → List AV} {d x : α} {l : List α} {i nm sz n : Nat} {g : Nat → List AV} (hf : ∀ a, AV.frwAll nm sz n g (enc a) = enc a) (h1 : ∀ a, (enc a).length = 1) (hx : enc x = [.slice sz n g .none]) :
    ∀ j, j < l.length → AVleL (AV.frwAll nm sz n g (D0 (fun k => enc (l.getD k d)) i 0 [.vsl nm n] j)) (enc ((l.set i x).getD j d)) := fun j hl => by
  have h : AV.frwAll nm sz n g (D0 (fun k => enc (l.getD k d)) i 0 [.vsl nm n] j) = enc ((l.set i x).getD j d) := by
    by_cases hj : j = i
    · subst hj
      have e1 : (l.set j x).getD j d = x := by simp [List.getD, hl]
      have e2 : (enc (l.getD j d)).drop (0 + [AV.vsl nm n].length) = [] := List.drop_eq_nil_of_le (by rw [h1]; exact Nat.le_refl _)
      have e3 : M1 nm nm = false := by simp [M1]
      rw [Il, e1, e2, hx]; simp [AV.frwAll, AV.frw, e3]
    · have e1 : (l.set i x).getD j d = l.getD j d := by simp [List.getD, Ne.symm hj]
      rw [J6 _ _ hj, e1, hf]
  rw [h]; exact .refl _
section
variable {α : Type} {g : Bool} {a b : List α}
theorem bif_len : (bif g then a.length else b.length) = (bif g then a else b).length := by cases g <;> rfl
theorem bif_row {e : α → List AV} {d : α} {k : Nat} : (bif g then e (a.getD k d) else e (b.getD k d)) = e ((bif g then a else b).getD k d) := by cases g <;> rfl
theorem bif_was (h : g = true → b.length = a.length) : b.length = (bif g then a else b).length := by
  cases g with
  | false => rfl
  | true => exact h rfl
end
section
variable {V : Type} {f : V → AV} {l : List (Int × V)} {r : List (Int × AV)} {k : Int}
end
end
end Go.Proofs.Ytjdddniaokcgnaa

namespace Go.Proofs.Ytjdddniaokcgnaa
noncomputable section
open Go Go.RowKit
set_option linter.unusedVariables false
set_option maxRecDepth 100000
set_option maxHeartbeats 2000000
def Ad (x : Int) : List AV := [(.int .i64 x)]
structure TDep where
  Block : Int
  On : Int
  To : Int
  deriving Inhabited, DecidableEq
def Ax (x : TDep) : List AV := [(.int .i64 x.Block), (.int .i64 x.On), (.int .i64 x.To)]
def eLI64 (x : List (Int)) : List AV := [(AV.list 1 Ad (0 : Int) x .none)]
def eLLI64 (x : List (List (Int))) : List AV := [(AV.list 1 eLI64 [] x .none)]
structure TGraph where
  Succ : List (List (Int))
  Pred : List (List (Int))
  deriving Inhabited, DecidableEq
def At (x : TGraph) : List AV := [(AV.list 1 eLI64 [] x.Succ .none), (AV.list 1 eLI64 [] x.Pred .none)]
def eB (x : Bool) : List AV := [(.bool x)]
def Aa5 (x : List (Bool)) : List AV := Nr 64 (fun i => eB (x.getD i false))
def eLB (x : List (Bool)) : List AV := [(AV.list 1 eB false x .none)]
theorem mix : Try.prog.follows .mixedOrders = true := by kernel_rfl
def Gl (a_x : Int) : Option Bool :=
  (some ((a_x : Int) != a_x))
theorem L5 (a_x : Int) (r : Bool) (h : Gl a_x = some r) : Spec Try.prog 69 [(.int .i64 a_x)] [] (.bool r) [] := by
  refine Ap (fn := Try.f69) Try.func69 rfl rfl (by kernel_rfl) (fun Γ hn hΓ => ?_); have hq : RgQ Try.prog Γ 6 [] := ⟨hn, mix, hΓ⟩; unfold Gl at h; refine Aq ⟨[(0, (.int .i64 a_x))], [], []⟩ hq ?_; refine Aq ⟨[(2, (.bool ((a_x : Int) != a_x)))], [], []⟩ hq ?_; refine Ao ?_; obtain rfl := OI h; exact ⟨.inl rfl, [], by kernel_rfl⟩
def Ef (a_x : Int) (a_y : Int) : Option Int :=
  ((Gl a_x).bind fun x1 => ((Gl a_y).bind fun x2 => (bif x1 then (bif x2 then (some (0 : Int)) else (some (-1 : Int))) else (bif x2 then (some (1 : Int)) else (bif (decide ((a_x : Int) < a_y)) then (some (-1 : Int)) else (bif (decide ((a_y : Int) < a_x)) then (some (1 : Int)) else (some (0 : Int))))))))
theorem H0 (a_x : Int) (a_y : Int) (r : Int) (h : Ef a_x a_y = some r) : Spec Try.prog 43 [(.int .i64 a_x), (.int .i64 a_y)] [] (.int .i64 r) [] := by
  refine Ap (fn := Try.f43) Try.func43 rfl rfl (by kernel_rfl) (fun Γ hn hΓ => ?_); have hq : RgQ Try.prog Γ 20 [] := ⟨hn, mix, hΓ⟩; unfold Ef at h; refine Aq ⟨[(0, (.int .i64 a_x)), (1, (.int .i64 a_y))], [], []⟩ hq ?_; obtain ⟨x1, hx1, h⟩ := bind_some h; refine B5 [⟨[], [], (.bool x1), [], []⟩] [] ⟨[(0, (.int .i64 a_x)), (1, (.int .i64 a_y)), (5, (.bool x1))], [], []⟩ [(Spec Try.prog 69 [(.int .i64 a_x)] [] (.bool x1) [])] hq ⟨(L5 a_x x1 hx1), trivial⟩ ?_; obtain ⟨x2, hx2, h⟩ := bind_some h; refine B5 [⟨[], [], (.bool x2), [], []⟩] [] ⟨[(0, (.int .i64 a_x)), (1, (.int .i64 a_y)), (5, (.bool x1)), (6, (.bool x2))], [], []⟩ [(Spec Try.prog 69 [(.int .i64 a_y)] [] (.bool x2) [])] hq ⟨(L5 a_y x2 hx2), trivial⟩ ?_; refine Ac ?_; refine Aq ⟨[(0, (.int .i64 a_x)), (1, (.int .i64 a_y)), (6, (.bool x2)), (11, (.bool x1))], [], []⟩ hq ?_; refine Ai x1 (by kernel_rfl) (fun hb => ?_) (fun hb => ?_)
  · replace h := Ak hb h; clear hb; refine Ac ?_; refine Aq ⟨[(12, (.bool x2))], [], []⟩ hq ?_; refine Ai x2 (by kernel_rfl) (fun hb => ?_) (fun hb => ?_)
    · replace h := Ak hb h; clear hb; refine Aq ⟨[(4, (.int .i64 (0 : Int)))], [], []⟩ hq ?_; refine Ao ?_; refine Ay ?_; refine Ay ?_; obtain rfl := OI h; exact ⟨.inl rfl, [], by kernel_rfl⟩
    · replace h := Ar hb h; clear hb; refine Ag ?_; refine Aa ?_; refine Aq ⟨[(4, (.int .i64 (-1 : Int)))], [], []⟩ hq ?_; refine Ao ?_; refine Ay ?_; obtain rfl := OI h; exact ⟨.inl rfl, [], by kernel_rfl⟩
  · replace h := Ar hb h; clear hb; refine Ag ?_; refine Aa ?_; refine Ac ?_; refine Aq ⟨[(0, (.int .i64 a_x)), (1, (.int .i64 a_y)), (13, (.bool x2))], [], []⟩ hq ?_; refine Ai x2 (by kernel_rfl) (fun hb => ?_) (fun hb => ?_)
    · replace h := Ak hb h; clear hb; refine Aq ⟨[(4, (.int .i64 (1 : Int)))], [], []⟩ hq ?_; refine Ao ?_; refine Ay ?_; obtain rfl := OI h; exact ⟨.inl rfl, [], by kernel_rfl⟩
    · replace h := Ar hb h; clear hb; refine Ag ?_; refine Aa ?_; refine Ac ?_; refine Aq ⟨[(0, (.int .i64 a_x)), (1, (.int .i64 a_y)), (16, (.bool (decide ((a_x : Int) < a_y))))], [], []⟩ hq ?_; refine Ai (decide ((a_x : Int) < a_y)) (by kernel_rfl) (fun hb => ?_) (fun hb => ?_)
      · replace h := Ak hb h; clear hb; refine Aq ⟨[(4, (.int .i64 (-1 : Int)))], [], []⟩ hq ?_; refine Ao ?_; refine Ay ?_; obtain rfl := OI h; exact ⟨.inl rfl, [], by kernel_rfl⟩
      · replace h := Ar hb h; clear hb; refine Ag ?_; refine Aa ?_; refine Ac ?_; refine Aq ⟨[(19, (.bool (decide ((a_y : Int) < a_x))))], [], []⟩ hq ?_; refine Ai (decide ((a_y : Int) < a_x)) (by kernel_rfl) (fun hb => ?_) (fun hb => ?_)
        · replace h := Ak hb h; clear hb; refine Aq ⟨[(4, (.int .i64 (1 : Int)))], [], []⟩ hq ?_; refine Ao ?_; refine Ay ?_; obtain rfl := OI h; exact ⟨.inl rfl, [], by kernel_rfl⟩
        · replace h := Ar hb h; clear hb; refine Ag ?_; refine Aa ?_; refine Aq ⟨[(4, (.int .i64 (0 : Int)))], [], []⟩ hq ?_; refine Ao ?_; obtain rfl := OI h; exact ⟨.inl rfl, [], by kernel_rfl⟩
def D3 (a_vals : List (Int)) : Int → Option (LR Int (Unit ⊕ Int)) :=
  fun (i1 : Int) => (bif (decide ((i1 : Int) < (a_vals.length : Int))) then (Bw (A4 i1 a_vals.length) (bif (((a_vals.getD (i1).toNat (0 : Int)) : Int) != (0 : Int)) then (some (.done (.inr (a_vals.getD (i1).toNat (0 : Int))))) else (some (.next (Bi (i1 + (1 : Int))))))) else (some (.done (.inl ()))))
def Q3 : AV := (.int .i64 (0 : Int))
def Q2 (a_vals : List (Int)) : AV := (.int .i64 (a_vals.length : Int))
def Q1 (a_vals : List (Int)) : AV := (AV.list 1 Ad (0 : Int) a_vals .none)
def Ia (a_vals : List (Int)) : Option Int :=
  ((Aw (S := Int) (X := (Unit ⊕ Int)) (D3 a_vals) (0 : Int)).bind (fun x3 => (match x3 with | (.inl _) => (some (0 : Int)) | (.inr r5) => (some r5))))
theorem Wr (a_vals : List (Int)) (r : Int) (h : Ia a_vals = some r) : Spec Try.prog 42 [(AV.list 1 Ad (0 : Int) a_vals .none)] [] (.int .i64 r) [] := by
  refine Ap (fn := Try.f42) Try.func42 rfl rfl (by kernel_rfl) (fun Γ hn hΓ => ?_); have hq : RgQ Try.prog Γ 18 [] := ⟨hn, mix, hΓ⟩; unfold Ia at h; refine Aq ⟨[(0, (Q1 a_vals))], [], []⟩ hq ?_; refine Aq ⟨[(0, (Q1 a_vals)), (3, Q3)], [], []⟩ hq ?_; refine Ac ?_; refine Aq ⟨[(3, Q3), (6, (Q1 a_vals)), (7, (Q2 a_vals)), (8, Q3)], [], []⟩ hq ?_; refine Ah ?_; refine Af (st' := (fun (i1 : Int) => (⟨[(3, Q3), (6, (Q1 a_vals)), (7, (Q2 a_vals)), (8, (.int .i64 i1))], [], []⟩ : St)) (0 : Int)) (Le.refl _ _) ?_; obtain ⟨x3, hx3, h⟩ := bind_some h; refine A2 (fun (i1 : Int) => (⟨[(3, Q3), (6, (Q1 a_vals)), (7, (Q2 a_vals)), (8, (.int .i64 i1))], [], []⟩ : St)) _ (fun (x_ : (Unit ⊕ Int)) (e : Exit) (st : St) => match x_ with | (.inl _) => e = (.exit 0) ∧ Le Γ st (⟨[(3, Q3)], [], []⟩ : St) | (.inr r_) => e = .ret ∧ Kr Try.prog Try.f42.results.toList [] (.int .i64 r_) [] e st) ?_ hx3 ?_
  · intro i1 y h; unfold D3 at h; refine Aq ⟨[(3, Q3), (6, (Q1 a_vals)), (7, (Q2 a_vals)), (8, (.int .i64 i1)), (9, (.bool (decide ((i1 : Int) < (a_vals.length : Int)))))], [], []⟩ hq ?_; refine Ac ?_; refine Ai (decide ((i1 : Int) < (a_vals.length : Int))) (by kernel_rfl) (fun hb => ?_) (fun hb => ?_)
    · replace h := Ak hb h; clear hb; refine Ag ?_; refine Aa ?_; refine Ac ?_; refine Ah ?_; obtain ⟨hc2, h⟩ := Ab h; refine B5 [] [] ⟨[(3, Q3), (5, (.int .i64 (a_vals.getD (i1).toNat (0 : Int)))), (6, (Q1 a_vals)), (7, (Q2 a_vals)), (8, (.int .i64 i1))], [], []⟩ [(A4 i1 a_vals.length)] hq ⟨hc2, trivial⟩ ?_; refine Aq ⟨[(3, Q3), (5, (.int .i64 (a_vals.getD (i1).toNat (0 : Int)))), (6, (Q1 a_vals)), (7, (Q2 a_vals)), (8, (.int .i64 i1)), (14, (.bool (((a_vals.getD (i1).toNat (0 : Int)) : Int) != (0 : Int))))], [], []⟩ hq ?_; refine Ai (((a_vals.getD (i1).toNat (0 : Int)) : Int) != (0 : Int)) (by kernel_rfl) (fun hb => ?_) (fun hb => ?_)
      · replace h := Ak hb h; clear hb; refine Aq ⟨[(2, (.int .i64 (a_vals.getD (i1).toNat (0 : Int))))], [], []⟩ hq ?_; refine Ao ?_; refine Bb ?_; refine Ay ?_; obtain rfl := OI h; exact ⟨(by intro hh; cases hh), rfl, ⟨.inl rfl, [], by kernel_rfl⟩⟩
      · replace h := Ar hb h; clear hb; refine Ag ?_; refine Aj ?_; refine Aa ?_; refine Jt ⟨[(3, Q3), (6, (Q1 a_vals)), (7, (Q2 a_vals)), (8, (.int .i64 (Bi (i1 + (1 : Int)))))], [], []⟩ hq ?_; obtain rfl := OI h; exact ⟨rfl, Le.refl _ _⟩
    · replace h := Ar hb h; clear hb; refine A3 ?_; refine Az ?_; obtain rfl := OI h; exact ⟨(by intro hh; cases hh), rfl, Ed [3] [] hq⟩
  · clear hx3; rcases x3 with _ | r5
    · rintro e st' ⟨rfl, hl4⟩; refine Au ?_; refine Aa ?_; refine Af hl4 ?_; refine Aq ⟨[(2, Q3)], [], []⟩ hq ?_; refine Ao ?_; obtain rfl := OI h; exact ⟨.inl rfl, [], by kernel_rfl⟩
    · rintro e st' ⟨rfl, hk⟩; refine Bb ?_; refine Ay ?_; obtain rfl := OI h; exact hk
def I8 (a_a : TDep) (a_b : TDep) : Option Int :=
  ((Ef a_a.Block a_b.Block).bind fun x1 => ((Ef a_a.On a_b.On).bind fun x2 => ((Ef a_a.To a_b.To).bind fun x3 => ((Ia ([x1, x2, x3] : List (Int))).bind fun x4 => (some x4)))))
theorem Vj (a_a : TDep) (a_b : TDep) (r : Int) (h : I8 a_a a_b = some r) : Spec Try.prog 24 [(.agg (Ax a_a)), (.agg (Ax a_b))] [] (.int .i64 r) [] := by
  refine Ap (fn := Try.f24) Try.func24 rfl rfl (by kernel_rfl) (fun Γ hn hΓ => ?_); have hq : RgQ Try.prog Γ 22 [] := ⟨hn, mix, hΓ⟩; unfold I8 at h; refine Aq ⟨[(2, (.ptr 2 0)), (3, (.ptr 3 0))], [(2, .row 37 [(.int .i64 a_a.Block), (.int .i64 a_a.On), (.int .i64 a_a.To)]), (3, .row 37 [(.int .i64 a_b.Block), (.int .i64 a_b.On), (.int .i64 a_b.To)])], []⟩ hq ?_; obtain ⟨x1, hx1, h⟩ := bind_some h; obtain ⟨x2, hx2, h⟩ := bind_some h; obtain ⟨x3, hx3, h⟩ := bind_some h; obtain ⟨x4, hx4, h⟩ := bind_some h; refine B5 [⟨[], [], (.int .i64 x1), [], []⟩, ⟨[], [], (.int .i64 x2), [], []⟩, ⟨[], [], (.int .i64 x3), [], []⟩, ⟨[], [], (.int .i64 x4), [], []⟩] [(20, (AV.list 1 Ad (0 : Int) ([x1, x2, x3] : List (Int)) .exact))] ⟨[(4, (.int .i64 x4))], [], []⟩ [(Spec Try.prog 43 [(.int .i64 a_a.Block), (.int .i64 a_b.Block)] [] (.int .i64 x1) []), (Spec Try.prog 43 [(.int .i64 a_a.On), (.int .i64 a_b.On)] [] (.int .i64 x2) []), (Spec Try.prog 43 [(.int .i64 a_a.To), (.int .i64 a_b.To)] [] (.int .i64 x3) []), (AVle (.slice 1 3 (fun i => ([[(.int .i64 x1)], [(.int .i64 x2)], [(.int .i64 x3)]] : List (List AV)).getD i []) .exact) (AV.list 1 Ad (0 : Int) ([x1, x2, x3] : List (Int)) .exact)), (Spec Try.prog 42 [(AV.list 1 Ad (0 : Int) ([x1, x2, x3] : List (Int)) .none)] [] (.int .i64 x4) [])] hq ⟨(H0 a_a.Block a_b.Block x1 hx1), (H0 a_a.On a_b.On x2 hx2), (H0 a_a.To a_b.To x3 hx3), (Em rfl (fun i hi => Ea (e := Ad) (d := (0 : Int)) ([x1, x2, x3] : List (Int)) i hi)), (Wr ([x1, x2, x3] : List (Int)) x4 hx4), trivial⟩ ?_; refine Ao ?_; obtain rfl := OI h; exact ⟨.inl rfl, [], by kernel_rfl⟩
end
end Go.Proofs.Ytjdddniaokcgnaa

namespace Go.Proofs.Ytjdddniaokcgnaa
noncomputable section
open Go Go.Shelf
def Yr : Go.Shelf.Ren := ⟨fun | 6 => 23 | 15 => 41 | 14 => 40 | 28 => 67 | 29 => 68 | 20 => 59 | 21 => 60 | 22 => 61 | 23 => 62 | 24 => 63 | 25 => 64 | 26 => 65 | 27 => 66 | 46 => 77 | 47 => 78 | 48 => 79 | 49 => 80 | 50 => 81 | 57 => 82 | n => n, fun | 22 => 28 | 24 => 37 | 25 => 47 | 3 => 3 | 39 => 61 | 0 => 0 | 53 => 88 | 55 => 90 | 4 => 4 | 46 => 81 | 45 => 80 | 50 => 85 | 5 => 5 | 9 => 9 | 66 => 99 | 70 => 103 | 76 => 105 | 77 => 106 | n => n, fun | n => n⟩
theorem Aar : Go.Proofs.SlLaysF0.n6 Try.prog Yr := {
  mixed := by kernel_rfl
  f6 := ⟨Try.f23.name, by decide, Try.func23.trans (congrArg some (by kernel_rfl))⟩
  f14 := ⟨Try.f40.name, by decide, Try.func40.trans (congrArg some (by kernel_rfl))⟩
  f15 := Try.func41.trans (congrArg some (by kernel_rfl))
  f20 := ⟨Try.f59.name, by decide, Try.func59.trans (congrArg some (by kernel_rfl))⟩
  f21 := ⟨Try.f60.name, by decide, Try.func60.trans (congrArg some (by kernel_rfl))⟩
  f22 := ⟨Try.f61.name, by decide, Try.func61.trans (congrArg some (by kernel_rfl))⟩
  f23 := ⟨Try.f62.name, by decide, Try.func62.trans (congrArg some (by kernel_rfl))⟩
  f24 := ⟨Try.f63.name, by decide, Try.func63.trans (congrArg some (by kernel_rfl))⟩
  f25 := ⟨Try.f64.name, by decide, Try.func64.trans (congrArg some (by kernel_rfl))⟩
  f26 := ⟨Try.f65.name, by decide, Try.func65.trans (congrArg some (by kernel_rfl))⟩
  f27 := ⟨Try.f66.name, by decide, Try.func66.trans (congrArg some (by kernel_rfl))⟩
  f28 := Try.func67.trans (congrArg some (by kernel_rfl))
  f29 := Try.func68.trans (congrArg some (by kernel_rfl))
  f46 := ⟨Try.f77.name, by decide, Try.func77.trans (congrArg some (by kernel_rfl))⟩
  f47 := Try.func78.trans (congrArg some (by kernel_rfl))
  f48 := Try.func79.trans (congrArg some (by kernel_rfl))
  f49 := ⟨Try.f80.name, by decide, Try.func80.trans (congrArg some (by kernel_rfl))⟩
  f50 := ⟨Try.f81.name, by decide, Try.func81.trans (congrArg some (by kernel_rfl))⟩
  f57 := ⟨Try.f82.name, by decide, Try.func82.trans (congrArg some (by kernel_rfl))⟩
  t0 := Try.underlying0
  a0 := Try.isAgg0
  z0 := Try.sizeOf0
  v0 := Try.zeroValue0
  t3 := Try.underlying3
  a3 := Try.isAgg3
  z3 := Try.sizeOf3
  v3 := Try.zeroValue3
  t4 := Try.underlying4
  a4 := Try.isAgg4
  z4 := Try.sizeOf4
  v4 := Try.zeroValue4
  t5 := Try.underlying5
  a5 := Try.isAgg5
  z5 := Try.sizeOf5
  v5 := Try.zeroValue5
  t9 := Try.underlying9
  a9 := Try.isAgg9
  z9 := Try.sizeOf9
  v9 := Try.zeroValue9
  t22 := Try.underlying28
  a22 := Try.isAgg28
  z22 := Try.sizeOf28
  v22 := Try.zeroValue28
  t25 := Try.underlying47
  a25 := Try.isAgg47
  z25 := Try.sizeOf47
  v25 := Try.zeroValue47
  t39 := Try.underlying61
  a39 := Try.isAgg61
  z39 := Try.sizeOf61
  v39 := Try.zeroValue61
  t45 := Try.underlying80
  a45 := Try.isAgg80
  z45 := Try.sizeOf80
  v45 := Try.zeroValue80
  t46 := Try.underlying81
  a46 := Try.isAgg81
  z46 := Try.sizeOf81
  v46 := Try.zeroValue81
  t50 := Try.underlying85
  a50 := Try.isAgg85
  z50 := Try.sizeOf85
  v50 := Try.zeroValue85
  t53 := Try.underlying88
  a53 := Try.isAgg88
  z53 := Try.sizeOf88
  v53 := Try.zeroValue88
  t55 := Try.underlying90
  a55 := Try.isAgg90
  z55 := Try.sizeOf90
  v55 := Try.zeroValue90
  t66 := Try.underlying99
  a66 := Try.isAgg99
  z66 := Try.sizeOf99
  v66 := Try.zeroValue99
  t70 := Try.underlying103
  a70 := Try.isAgg103
  z70 := Try.sizeOf103
  v70 := Try.zeroValue103
  t76 := Try.underlying105
  a76 := Try.isAgg105
  z76 := Try.sizeOf105
  v76 := Try.zeroValue105
  t77 := Try.underlying106
  a77 := Try.isAgg106
  z77 := Try.sizeOf106
  v77 := Try.zeroValue106 }
end
end Go.Proofs.Ytjdddniaokcgnaa

namespace Go.Proofs.Ytjdddniaokcgnaa
noncomputable section
open Go Go.Shelf Go.RowKit Go.Sort Go.Lib
set_option linter.unusedVariables false
section
variable {I : Nat → Nat → Prop} {θ : Nat → Option (Nat × Nat)} {w w' : World}
theorem ownRel_nil (I : Nat → Nat → Prop) (θ : Nat → Option (Nat × Nat)) (w : World) : Fv I (Am []) θ w :=
  ⟨(fun _ _ _ h => by cases h), (fun _ _ _ _ h => by cases h), (fun _ _ _ _ _ h => (h rfl).elim), (fun _ _ _ _ _ h => by cases h), (fun _ _ h => by cases h), (fun _ _ _ h => by cases h)⟩
theorem grown_of {I' : Nat → Nat → Prop} {θ' : Nat → Option (Nat × Nat)} (h : Chg (Am []) θ I w (Am []) θ' I' w') (d : drawB) : ∃ q os', w' = grow (w.drewN q) os' := by
  refine ⟨w'.drawn - w.drawn, w'.heap.extract w.heap.size w'.heap.size, ?_⟩; have hd := h.drawn d; have hg := h.grow
  have hh : w.heap ++ w'.heap.extract w.heap.size w'.heap.size = w'.heap := by
    refine Array.ext (by simp; omega) fun i h1 h2 => ?_
    by_cases hi : i < w.heap.size
    · rw [Array.getElem_append_left hi]; have := h.frame i hi (fun _ _ hn => (hn rfl).elim); rw [Array.getElem?_eq_getElem hi, Array.getElem?_eq_getElem h2] at this; exact (OI this).symm
    · rw [Array.getElem_append_right (by omega), Array.getElem_extract]
      congr 1; omega
  obtain ⟨heap, tape, drawn, os, output⟩ := w'; have h1 : os = w.os := h.os; have h2 : tape = w.tape := h.tape; have h3 : output = w.output := h.output; subst h1 h2 h3; simp only at hd hh; simp only [grow, World.drewN, hh]; rw [show w.drawn + (drawn - w.drawn) = drawn by omega]
variable {α : Type} [Inhabited α] {enc : α → List Value} {k : Nat} {blk : Nat}
theorem heap_sortK {n : Nat} {os : Array Obj} {cur : Array Value} {e : TypeId} (d : Array α) (hb : w.heap[blk]? = some (.cells cur e (0, 0))) :
    (sortWorldK enc k w blk 0 n d os).heap[blk]? = some (.cells (putCells id 0 (flatK enc k d) cur) e (0, 0)) := by
  have hg : blk < w.heap.size := (Array.getElem?_eq_some_iff.1 hb).1; unfold sortWorldK putRowK; rw [heap_grow_old _ _ (by simpa [putRow, mapBlock, Sort.ahead] using hg)]; simp [putRow, mapBlock, Sort.ahead, Array.getElem?_modify, hb, onCells]
theorem L6 {n : Nat} {os : Array Obj} (d : Array α) {b : Nat} (hb : b < w.heap.size) (hne : b ≠ blk) : (sortWorldK enc k w blk 0 n d os).heap[b]? = w.heap[b]? := by
  unfold sortWorldK putRowK; rw [heap_grow_old _ _ (by simpa [putRow, mapBlock, Sort.ahead] using hb)]; simp [putRow, mapBlock, Sort.ahead, Array.getElem?_modify, Ne.symm hne]
theorem Qn {b : Nat} {o : Nat} (h : w'.heap[b]? = w.heap[b]?) : w'.cell? ⟨b, o, none⟩ = w.cell? ⟨b, o, none⟩ := by simp only [World.cell?, h]
theorem gok_keep {N : Nat → Nat → Prop} (hg : GOk I w) (hc : ∀ b o, I b o → w'.cell? ⟨b, o, none⟩ = w.cell? ⟨b, o, none⟩) : GOk I w' := fun g cells h => (hg g cells h).mono (fun _ _ h => h) hc
theorem cmp_lays {G : Nat} {eA : α → List AV} {cf : α → α → Int} (d0 : drawB) (hS : ∀ x y, Spec Try.prog G [.agg (eA x), .agg (eA y)] [] (.int .i64 (cf x y)) [])
    (hR : ∀ (I : Nat → Nat → Prop) (own : Nat → Option Own) (θ : Nat → Option (Nat × Nat)) (w : World) (x : α), Rep I own θ w (.agg (enc x).toArray) (.agg (eA x)))
    (hval : ∀ b o, I b o → ∃ u, w.cell? ⟨b, o, none⟩ = some u) (hI : ∀ o, ¬ I blk o) (hg : GOk I w) (size : Nat) : CmpLays Try.prog G #[] enc k cf blk 0 size w := by
  intro m os dk hs x y
  have hc : ∀ b o, I b o → (sortWorldK enc k w blk 0 m dk os).cell? ⟨b, o, none⟩ = w.cell? ⟨b, o, none⟩ := fun b o hi => by
    obtain ⟨u, hu⟩ := hval b o hi; exact Qn (L6 dk (Iy hu) (fun e => hI o (e ▸ hi)))
  refine ((hS x y).2 (sortWorldK enc k w blk 0 m dk os) I (fun _ => none) #[.agg (enc x).toArray, .agg (enc y).toArray] (.cons (hR ..) (.cons (hR ..) .nil)) (ownRel_nil ..) (fun b o hi => by rw [hc b o hi]; exact hval b o hi) (gok_keep (N := I) hg hc)).mono ?_; rintro e w' ⟨v, I', θ', rfl, hk, hr⟩; obtain rfl := hr.int_inv; exact ⟨rfl, grown_of hk d0⟩
end
theorem sort_spec {α : Type} [Inhabited α] {F G E k : Nat} (hk0 : 0 < k) {enc : α → List Value} {eA : α → List AV} {df : α} {srt : List α → List α}
    (hk : ∀ x, (enc x).length = k) (hA : ∀ x, (eA x).length = k) (h1 : ∀ x, ∀ v ∈ enc x, v.oneCell' = true)
    (hinv : ∀ (I : Nat → Nat → Prop) (own : Nat → Option Own) (θ : Nat → Option (Nat × Nat)) (w : World) (v : Value) (x : α) (j : Nat), j < k → Rep I own θ w v ((eA x).getD j .any) → v = (enc x).getD j undef)
    (hrep : ∀ (I : Nat → Nat → Prop) (own : Nat → Option Own) (θ : Nat → Option (Nat × Nat)) (w : World) (x : α) (j : Nat), j < k → Rep I own θ w ((enc x).getD j undef) ((eA x).getD j .any))
    (hlen : ∀ l, (srt l).length = l.length) (hnil : srt [] = [])
    (hent : ∀ (zs : Array Value) (w : World), (callFunc F zs).run Try.prog w = .ok (.enter F zs) w)
    (h0 : ∀ (p : Option Addr) (cap : Nat) (fv : Value) (w : World), Calls Try.prog F #[.slice p 0 cap, fv] w fun e w' => e = .returned (.tuple #[]) ∧ w' = w)
    (hS : ∀ (I : Nat → Nat → Prop) (blk cap : Nat) (d : Array α) (w : World), (∀ b o, I b o → ∃ u, w.cell? ⟨b, o, none⟩ = some u) → (∀ o, ¬ I blk o) → GOk I w → HoldsK enc k w blk 0 d → blk < w.heap.size → d.size < 4611686018427387904 →
      Calls Try.prog F #[.slice (some ⟨blk, 0, none⟩) d.size cap, .func (.func G) #[] #[]] w fun e w' => e = .returned (.tuple #[]) ∧ ∃ n os, w' = sortWorldK enc k w blk 0 n (srt d.toList).toArray os)
    (l : List α) (hl : l.length ≤ 17592186044416) :
    Spec Try.prog F [(.vsl 34000 l.length), (.clo G [] [])] [(34000, .arr k E l.length (fun i => eA (l.getD i df)))] (.tuple []) [(34000, .arr k E (srt l).length (fun i => eA ((srt l).getD i df)))] := by
  refine ⟨hent, fun w I θ zs hargs hown hval hglob => ?_⟩; obtain ⟨zs⟩ := zs
  cases hargs with
  | cons hv t =>
    cases t with
    | cons hc t =>
      cases t
      rename_i v1 v2
      obtain ⟨sz, e, m, f, a, cap, rfl, ho, hm, hcap, hmax, hn, hpos⟩ := hv.vsl_inv; have ho' : some (Own.arr k E l.length (fun i => eA (l.getD i df))) = some (Own.arr sz e m f) := ho; simp only [Option.some.injEq, Own.arr.injEq] at ho'; obtain ⟨rfl, rfl, rfl, rfl⟩ := ho'; obtain ⟨a1, a2⟩ := hown.arr 34000 _ _ _ _ rfl
      have hclo : v2 = .func (.func G) #[] #[] := by
        obtain ⟨fs, cs, rfl, e1, e2, _⟩ := hc.clo_inv; obtain rfl : fs = #[] := Array.size_eq_zero_iff.1 (by simpa using e1); obtain rfl : cs = #[] := Array.size_eq_zero_iff.1 (by simpa using e2)
        rfl
      subst hclo; have hpos := hpos rfl
      cases hθ : θ 34000 with
      | none =>
        obtain rfl : l = [] := List.length_eq_zero_iff.1 (a1 hθ); refine (h0 a cap (.func (.func G) #[] #[]) w).mono ?_; rintro e' w' ⟨rfl, rfl⟩; rw [hnil]; exact ⟨_, I, θ, rfl, Chg.refl hown hval, .val _ _ (.tuple _ _ rfl (fun j hj => by simp at hj))⟩
      | some gc =>
        obtain ⟨g, c⟩ := gc; rw [hθ] at hpos; obtain ⟨rfl, rfl⟩ := hpos; obtain ⟨cur, b1, b2, b3, b4, b5, b6, b7⟩ := a2 g cap hθ; have hgl : g < w.heap.size := (Array.getElem?_eq_some_iff.1 b1).1
        have hidx : ∀ i j, i < l.length → j < k → i * k + j < cur.size := fun i j hi hj => by
          have h1 : i * k + k ≤ l.length * k := by
            have := Nat.mul_le_mul_right k (show i + 1 ≤ l.length from hi); rwa [Nat.add_mul, Nat.one_mul] at this
          have h2 := Nat.mul_le_mul_right k b2; omega
        have hcell : ∀ t, t < l.length * k → cur.getD t undef = (enc (l.getD (t / k) df)).getD (t % k) undef := fun t ht => by
          have hq : t / k < l.length := Nat.div_lt_of_lt_mul (by rwa [Nat.mul_comm] at ht); have hr : t % k < k := Nat.mod_lt _ hk0
          have e1 : t / k * k + t % k = t := by rw [Nat.mul_comm]; exact Nat.div_add_mod t k
          have := (b6 (t / k) (t % k) hq hr).2; rw [e1] at this; exact hinv _ _ _ _ _ _ _ hr this
        have hH : HoldsK enc k w g 0 l.toArray := by
          intro t ht; rw [size_flatK, List.size_toArray] at ht; refine ⟨?_, by simp [World.frozen?, b1]⟩; rw [Nat.zero_add, get_flatK _ _ _ _ (by simpa using ht)]; have hq : t / k < l.length := Nat.div_lt_of_lt_mul (by rwa [Nat.mul_comm] at ht); have hr : t % k < k := Nat.mod_lt _ hk0
          have ht' : t < cur.size := by have := Nat.mul_le_mul_right k b2; omega
          have h3 := hcell t ht; simp only [World.cell?, b1, Option.isSome_none, Bool.false_eq_true, if_false]; rw [Array.getElem?_eq_getElem ht']; rw [Array.getD_eq_getD_getElem?, Array.getElem?_eq_getElem ht', Option.getD_some] at h3; rw [h3]; simp only [id_eq, Option.some.injEq]; rw [show (l.toArray)[t / k]! = l.getD (t / k) df by simp [List.getD, hq]]
          have hz : t % k < (enc (l.getD (t / k) df)).length := by rw [hk]; exact hr
          rw [List.getD, List.getElem?_eq_getElem hz, Option.getD_some, getElem!_pos (enc (l.getD (t / k) df)) (t % k) hz]
        have hcall := hS I g cap l.toArray w hval b7 hglob hH hgl (by simp; omega); simp only [List.size_toArray] at hcall; refine hcall.mono ?_; rintro e' w' ⟨rfl, n, os, rfl⟩
        generalize hd : (srt l).toArray = d
        have hds : d.size = l.length := by rw [← hd, List.size_toArray, hlen]
        have hheap := heap_sortK (enc := enc) (k := k) (n := n) (os := os) d b1; have hoth : ∀ b, b < w.heap.size → b ≠ g → (sortWorldK enc k w g 0 n d os).heap[b]? = w.heap[b]? := fun b hb hne => L6 d hb hne
        have hcellI : ∀ b o, I b o → (sortWorldK enc k w g 0 n d os).cell? ⟨b, o, none⟩ = w.cell? ⟨b, o, none⟩ := fun b o hi => by
          obtain ⟨u, hu⟩ := hval b o hi; exact Qn (hoth b (Iy hu) (fun e => b7 o (e ▸ hi)))
        have hown' : Fv I (Am [(34000, .arr k E (srt l).length (fun i => eA ((srt l).getD i df)))]) θ (sortWorldK enc k w g 0 n d os) := by
          have key : ∀ nm o, Am [(34000, Own.arr k E (srt l).length (fun i => eA ((srt l).getD i df)))] nm = some o → nm = 34000 ∧ o = .arr k E (srt l).length (fun i => eA ((srt l).getD i df)) := fun nm o h => by
            simp only [Am] at h
            cases hb : Nat.beq 34000 nm with
            | true => rw [hb] at h; exact ⟨(Nat.eq_of_beq_eq_true hb).symm, (OI h).symm⟩
            | false => rw [hb] at h; cases h
          refine ⟨fun nm e' cells h => (by cases (key _ _ h).2), fun nm sz e' m h => (by cases (key _ _ h).2), fun nm nm' g1 c1 c2 h h' _ _ => ?_, fun nm sz e' m f h => ?_, fun nm x h => (by cases (key _ _ h).2), fun nm sz m h => (by cases (key _ _ h).2)⟩
          · obtain ⟨o, ho⟩ := Option.ne_none_iff_exists'.1 h; obtain ⟨o', ho'⟩ := Option.ne_none_iff_exists'.1 h'; rw [(key _ _ ho).1, (key _ _ ho').1]
          · obtain ⟨rfl, he⟩ := key _ _ h; cases he; refine ⟨fun hn0 => (by rw [hθ] at hn0; cases hn0), fun g1 c1 hg1 => ?_⟩; rw [hθ] at hg1; obtain ⟨rfl, rfl⟩ := Prod.mk.inj (OI hg1); refine ⟨_, hheap, by rw [hlen]; exact b2, b3, by simp [putCells, b4], fun i hi => hA _, fun i j hi hj => ?_, b7⟩; rw [hlen] at hi; have ht := hidx i j hi hj
            have hik : i * k + j < l.length * k := by
              have := Nat.mul_le_mul_right k (show i + 1 ≤ l.length from hi); rw [Nat.add_mul, Nat.one_mul] at this; omega
            have e2 : (i * k + j) / k = i := (blk_iff k i _ hk0).1 ⟨by omega, by omega⟩
            have e3 : (i * k + j) % k = j := by rw [Nat.mod_eq_sub_div_mul, e2]; omega
            have e4 : (putCells id 0 (flatK enc k d) cur).getD (i * k + j) undef = (enc ((srt l).getD i df)).getD j undef := by
              rw [Array.getD_eq_getD_getElem?]; simp only [putCells, Array.getElem?_mapIdx, Array.getElem?_eq_getElem ht, Option.map_some, Option.getD_some, Nat.zero_le, true_and, Nat.zero_add, size_flatK, hds, hik, if_true, Nat.sub_zero, id_eq]; rw [get_flatK _ _ _ _ (by rw [hds]; exact hik), e2, e3, ← hd]
              have hi' : i < (srt l).length := by rw [hlen]; exact hi
              rw [show ((srt l).toArray)[i]! = (srt l).getD i df by simp [List.getD, hi']]
              have hz : j < (enc ((srt l).getD i df)).length := by rw [hk]; exact hj
              rw [getElem!_pos (enc ((srt l).getD i df)) j hz, List.getD_eq_getElem?_getD (l := enc _), List.getElem?_eq_getElem hz, Option.getD_some]
            rw [e4]; refine ⟨?_, hrep _ _ _ _ _ _ hj⟩
            have hz : j < (enc ((srt l).getD i df)).length := by rw [hk]; exact hj
            rw [List.getD_eq_getElem?_getD, List.getElem?_eq_getElem hz, Option.getD_some]; exact h1 _ _ (List.getElem_mem hz)
        refine ⟨_, I, θ, rfl, { imm := fun _ _ h => h, cell := hcellI, le := fun nm o ho => ?_, rel := hown', valid := fun b o hi => by rw [hcellI b o hi]; exact hval b o hi, os := rfl, tape := rfl, output := rfl, drawn := fun _ => ?_, grow := ?_, frame := fun b hb hn => hoth b hb (fun e => hn 34000 cap (by simp [Am]) (by rw [hθ, e])), new := fun nm g1 c1 hn1 hg1 => .inr ⟨nm, c1, fun h => hn1 ?_, hg1⟩, immNew := fun _ _ h => .inl h }, .val _ _ (.tuple _ _ rfl (fun j hj => by simp at hj))⟩
        · simp only [Am] at ho
          cases hb : Nat.beq 34000 nm with
          | true =>
            rw [hb] at ho; obtain rfl := Nat.eq_of_beq_eq_true hb; obtain rfl := OI ho; exact ⟨_, rfl, rfl, rfl, by rw [hlen]; exact Nat.le_refl _, fun _ => rfl⟩
          | false => rw [hb] at ho; cases ho
        · show w.drawn ≤ w.drawn + n
          omega
        · simp [sortWorldK, putRowK, putRow, mapBlock, Sort.ahead, grow]
        · simp only [Am] at h ⊢
          cases hb : Nat.beq 34000 nm with
          | true => rw [hb] at h; cases h
          | false => rfl
end
end Go.Proofs.Ytjdddniaokcgnaa

namespace Go.Proofs.Ytjdddniaokcgnaa
noncomputable section
open Go Go.Shelf Go.RowKit Go.Sort Go.Lib
set_option linter.unusedVariables false
def Rt (x : TDep) : List Value := [.int .i64 x.Block, .int .i64 x.On, .int .i64 x.To]
def orI (x y : Int) : Int := if x = 0 then y else x
def N3 (x y : TDep) : Int := orI (compareInt x.Block y.Block) (orI (compareInt x.On y.On) (compareInt x.To y.To))
theorem Rn (x y : Int) : Ef x y = some (compareInt x y) := by
  unfold Ef Gl compareInt; simp only [bne_self_eq_false, Option.bind_some, cond_false]
  by_cases h : x < y
  · simp [h]
  · by_cases h2 : y < x <;> simp [h, h2]
theorem m_or3 (x y z : Int) : Ia [x, y, z] = some (orI x (orI y z)) := by
  unfold Ia orI
  by_cases hx : x = 0
  · subst hx; rw [Bf (s' := 1) (by simp [D3, Bw, A4]; rfl)]
    by_cases hy : y = 0
    · subst hy; rw [Bf (s' := 2) (by simp [D3, Bw, A4]; rfl)]
      by_cases hz : z = 0
      · subst hz; rw [Bf (s' := 3) (by simp [D3, Bw, A4]; rfl), A6 (x := .inl ()) (by simp [D3])]
        rfl
      · rw [A6 (x := .inr z) (by simp [D3, Bw, A4, (bne_iff_ne.2 hz : (z != 0) = true)])]
        simp
    · rw [A6 (x := .inr y) (by simp [D3, Bw, A4, (bne_iff_ne.2 hy : (y != 0) = true)])]; simp [hy]
  · rw [A6 (x := .inr x) (by simp [D3, Bw, A4, (bne_iff_ne.2 hx : (x != 0) = true)])]; simp [hx]
theorem m_cmpDep (x y : TDep) : I8 x y = some (N3 x y) := by
  unfold I8; rw [Rn, Option.bind_some, Rn, Option.bind_some, Rn, Option.bind_some, m_or3]
  rfl
theorem compareInt_cases (x y : Int) : (x < y ∧ compareInt x y = -1) ∨ (x = y ∧ compareInt x y = 0) ∨ (y < x ∧ compareInt x y = 1) := by
  unfold compareInt
  by_cases h : x < y
  · exact .inl ⟨h, by simp [h]⟩
  · by_cases h2 : y < x
    · exact .inr (.inr ⟨h2, by simp [h, h2]⟩)
    · exact .inr (.inl ⟨by omega, by simp [h, h2]⟩)
theorem Sj (x y : TDep) : ltOf N3 x y = decide (x.Block < y.Block ∨ x.Block = y.Block ∧ (x.On < y.On ∨ x.On = y.On ∧ x.To < y.To)) := by
  unfold ltOf N3 orI; rw [decide_eq_decide]; rcases compareInt_cases x.Block y.Block with ⟨h1, e1⟩ | ⟨h1, e1⟩ | ⟨h1, e1⟩ <;> rcases compareInt_cases x.On y.On with ⟨h2, e2⟩ | ⟨h2, e2⟩ | ⟨h2, e2⟩ <;>
    rcases compareInt_cases x.To y.To with ⟨h3, e3⟩ | ⟨h3, e3⟩ | ⟨h3, e3⟩ <;> rw [e1, e2, e3] <;> simp <;> omega
theorem swoDep : SWO (ltOf N3) where
  irrefl x := by rw [Sj]; simp
  trans x y z h1 h2 := by rw [Sj] at *; simp at *; omega
  ntrans x y z h1 h2 := by rw [Sj] at *; simp at *; omega
theorem totDep (x y : TDep) (h1 : ltOf N3 x y = false) (h2 : ltOf N3 y x = false) : x = y := by
  rw [Sj] at h1 h2; obtain ⟨a, b, c⟩ := x; obtain ⟨a', b', c'⟩ := y; simp only [decide_eq_false_iff_not, TDep.mk.injEq] at *; omega
def Lg (l : List TDep) : List TDep := l.mergeSort fun x y => !(ltOf N3) y x
theorem repDep (I : Nat → Nat → Prop) (own : Nat → Option Own) (θ : Nat → Option (Nat × Nat)) (w : World) (x : TDep) (j : Nat) (hj : j < 3) : Rep I own θ w ((Rt x).getD j undef) ((Ax x).getD j .any) := by
  rcases j with _ | _ | _ | j
  · exact .val _ _ (.int _ _)
  · exact .val _ _ (.int _ _)
  · exact .val _ _ (.int _ _)
  · omega
def Gc (l : List TDep) : Option (List TDep) := Bw (l.length ≤ 17592186044416) (some (Lg l))
theorem Oe (l r : List TDep) (h : Gc l = some r) : Spec Try.prog 23 [(.vsl 34000 l.length), (.clo 24 [] [])] [(34000, .arr 3 37 l.length (fun i => Ax (l.getD i (default : TDep))))] (.tuple []) [(34000, .arr 3 37 r.length (fun i => Ax (r.getD i (default : TDep))))] := by
  obtain ⟨hlen, h⟩ := Ab h; obtain rfl := OI h
  have hone : ∀ x : TDep, ∀ v ∈ Rt x, v.oneCell' = true := fun x v hv => by
    simp [Rt] at hv; rcases hv with rfl | rfl | rfl <;> rfl
  refine sort_spec (by decide) (enc := Rt) (eA := Ax) (srt := Lg) (fun _ => rfl) (fun _ => rfl) hone (fun I own θ w v x j hj hr => ?_) repDep (fun l => List.length_mergeSort ..) (by simp [Lg])
    (enters_of Try.func23 (by kernel_rfl) rfl) (fun p cap fv w => AnyF.slices_SortFunc_none Aar p cap fv w) (fun I blk cap d w hval hI hg hH hblk hsz => ?_) l hlen
  · rcases j with _ | _ | _ | j
    · exact hr.int_inv
    · exact hr.int_inv
    · exact hr.int_inv
    · omega
  · have hS : ∀ x y : TDep, Spec Try.prog 24 [.agg (Ax x), .agg (Ax y)] [] (.int .i64 (N3 x y)) [] := fun x y => Vj x y _ (m_cmpDep x y)
    have hcl : CmpLays Try.prog 24 #[] Rt 3 N3 blk 0 d.size w :=
      cmp_lays (eA := Ax) trivial hS (fun I own θ w x => .agg _ _ rfl (fun j hj => by rcases j with _ | _ | _ | j <;> first | rfl | (simp [Ax] at hj; omega)) (fun j hj => by
        have := repDep I own θ w x j (by simpa [Ax] using hj); rcases j with _ | _ | _ | j
        · exact this
        · exact this
        · exact this
        · simp [Ax] at hj; omega)) hval hI hg d.size
    have eg : ∀ args w, (callFunc 24 args).run Try.prog w = .ok (.enter 24 args) w := enters_of Try.func24 (by kernel_rfl) rfl; exact AnyQ.slices_SortFunc_total Aar 3 Try.isAgg37 Try.sizeOf37 Rt (fun _ => rfl) hone N3 swoDep 24 #[] blk 0 cap d w eg hcl hH hblk hsz totDep
end
end Go.Proofs.Ytjdddniaokcgnaa
