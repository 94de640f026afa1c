/-
  A row that may be written is written no more; what was nothing becomes one.
-/
import Derived.Test.YtgdihcpnhkkelaaTyped
namespace Go.Proofs.Ytgdihcpnhkkelaa
open Go Go.RowKit
set_option linter.unusedVariables false

section
variable {P : Program} {Γ : Env}

inductive AllVs (st : St) (nm n : Nat) : List Nat → Prop
  | nil : AllVs st nm n []
  | cons {t : Nat} {l : List Nat} (h : st.get t = .vsl nm n) (k : AllVs st nm n l) : AllVs st nm n (t :: l)
theorem AllVs.mem {st : St} {nm n : Nat} {l : List Nat} (h : AllVs st nm n l) {t : Nat} (ht : t ∈ l) : st.get t = .vsl nm n := by
  induction h with
  | nil => cases ht
  | cons h _ ih => rcases List.mem_cons.1 ht with rfl | ht; exact h; exact ih ht

def notB (nm : Nat) (k : Nat) : Bool := !Nat.beq k nm
/-- The slots 'ts' bear the whole of 'nm': they are slices whose elements never change any more. -/
def St.freeze (st : St) (nm sz n : Nat) (e : TypeId) (f : Nat → List AV) (ts : List Nat) : St :=
  ⟨st.tmps.map fun x => (x.1, bif memB x.1 ts then .slice sz n f (.own nm) else x.2.erase (notB nm)), st.own.map fun x => (x.1, bif Nat.beq x.1 nm then .tok sz e n else x.2.erase (notB nm))⟩

theorem look_mapK {α β : Type} (l : List (Nat × α)) (g : Nat → α → β) (k : Nat) : look (l.map fun x => (x.1, g x.1 x.2)) k = (look l k).map (g k) := by
  induction l with
  | nil => rfl
  | cons x l ih =>
    obtain ⟨a, b⟩ := x
    simp only [List.map_cons, look]
    cases hb : Nat.beq a k with
    | true => have := Nat.eq_of_beq_eq_true hb; subst this; simp
    | false => simpa using ih

theorem le_freeze {st : St} {nm sz n : Nat} {e : TypeId} {f f' : Nat → List AV} (ts : List Nat) (ho : look st.own nm = some (.arr sz e n f)) (hts : AllVs st nm n ts) (hf : ∀ i, i < n → AV.stripAll (f i) = f' i) (h0 : Γ.own0 nm = none) :
    Le Γ st (st.freeze nm sz n e f' ts) := by
  intro I θ a w h
  have hown' : (st.freeze nm sz n e f' ts).sto.own = fun k => (look st.own k).map fun o => bif Nat.beq k nm then Own.tok sz e n else o.erase (notB nm) := by
    funext k
    exact look_mapK st.own (fun k o => bif Nat.beq k nm then Own.tok sz e n else o.erase (notB nm)) k
  have hnm : (st.freeze nm sz n e f' ts).sto.own nm = some (.tok sz e n) := by rw [hown']; simp [ho]
  have hne : ∀ k, k ≠ nm → (st.freeze nm sz n e f' ts).sto.own k = (look st.own k).map (Own.erase (notB nm)) := fun k hk => by
    have : Nat.beq k nm = false := by cases hb : Nat.beq k nm with | false => rfl | true => exact absurd (Nat.eq_of_beq_eq_true hb) hk
    rw [hown']; simp [this]
  have hkeep : ∀ k o, st.sto.own k = some o → notB nm k = true → (st.freeze nm sz n e f' ts).sto.own k = some (o.erase (notB nm)) := fun k o hk hb => by
    have : k ≠ nm := by rintro rfl; simp [notB] at hb
    rw [hne k this]
    have : look st.own k = some o := hk
    rw [this]; rfl
  have hback : ∀ k, k ≠ nm → ∀ o', (st.freeze nm sz n e f' ts).sto.own k = some o' → ∃ o, st.sto.own k = some o ∧ o' = o.erase (notB nm) := fun k hk o' ho' => by
    rw [hne k hk] at ho'
    obtain ⟨o, h1, h2⟩ := Option.map_eq_some_iff.1 ho'
    exact ⟨o, h1, h2.symm⟩
  have hnone : ∀ k, (st.freeze nm sz n e f' ts).sto.own k ≠ none → st.sto.own k ≠ none := fun k hk => by
    by_cases hkn : k = nm
    · subst hkn; show look st.own k ≠ none; simp [ho]
    · cases hx : (st.freeze nm sz n e f' ts).sto.own k with
      | none => exact (hk hx).elim
      | some o' => obtain ⟨o, h1, _⟩ := hback k hkn o' hx; simp [h1]
  have hrel := h.chg.rel
  obtain ⟨q0, q1⟩ := hrel.arr nm sz e n f ho
  let I' : Nat → Nat → Prop := fun b o => I b o ∨ ((∃ c, θ nm = some (b, c)) ∧ o < n * sz)
  have hII : ∀ b o, I b o → I' b o := fun _ _ h => .inl h
  have hcast : ∀ v x, Rep I st.sto.own θ w v x → Rep I' (st.freeze nm sz n e f' ts).sto.own θ w v (x.erase (notB nm)) := fun v x hx =>
    (hx.erase (notB nm) hkeep).mono hII (fun _ _ _ => rfl) (fun _ o ho => ⟨o, ho, .refl _ _⟩)
  have hfar : ∀ k g c, k ≠ nm → st.sto.own k ≠ none → θ k = some (g, c) → ∀ j, I' g j → I g j := fun k g c hk hk' hg j hj => by
    rcases hj with hj | ⟨⟨c', hc'⟩, _⟩
    · exact hj
    · exact (hk (hrel.inj k nm g c c' hk' (by show look st.own nm ≠ none; simp [ho]) hg hc')).elim
  refine ⟨I', θ, h.size, h.defers, fun t => ?_, ?_⟩
  · have hslot : (st.freeze nm sz n e f' ts).sto.tmp t = match look st.tmps t with | some x => (bif memB t ts then .slice sz n f' (.own nm) else x.erase (notB nm)) | none => .any := by
      show (match look (st.tmps.map fun x => (x.1, bif memB x.1 ts then AV.slice sz n f' (.own nm) else x.2.erase (notB nm))) t with | some x => x | none => .any) = _
      rw [look_mapK st.tmps (fun k x => bif memB k ts then AV.slice sz n f' (.own nm) else x.erase (notB nm)) t]
      cases look st.tmps t <;> rfl
    rw [hslot]
    have hs := h.slots t
    have hget : st.sto.tmp t = match look st.tmps t with | some x => x | none => .any := rfl
    cases hl : look st.tmps t with
    | none => exact .val _ _ (.any _)
    | some x =>
      rw [hget, hl] at hs
      simp only at hs ⊢
      cases hm : memB t ts with
      | false => exact hcast _ _ hs
      | true =>
        simp only [cond_true]
        have hv : st.get t = .vsl nm n := hts.mem (memB_mem.1 hm)
        have hx : x = .vsl nm n := by
          have : st.get t = x := by show (match look st.tmps t with | some x => x | none => .any) = x; rw [hl]
          rw [← this]; exact hv
        subst hx
        obtain ⟨sz', e', m, f2, ad, cap, hval, ho', hmm, hcap, hmax, hnn, hvv⟩ := hs.vsl_inv
        have ho'' : look st.own nm = some (.arr sz' e' m f2) := ho'
        rw [ho] at ho''
        simp only [Option.some.injEq, Own.arr.injEq] at ho''
        obtain ⟨rfl, rfl, rfl, rfl⟩ := ho''
        have hvv := hvv rfl
        rw [hval]
        refine .own nm sz e n ad n cap f' hnm (Nat.le_refl _) (fun _ => hvv) ?_
        cases hθ : θ nm with
        | none =>
          have hn0 := q0 hθ
          subst hn0
          exact .slice ad 0 cap sz f' (fun _ => undef) hcap hmax (fun h => by omega) hnn (fun j hj => by omega) (fun i hi => by omega) (fun i c hi => by omega)
        | some gc =>
          obtain ⟨g, c⟩ := gc
          rw [hθ] at hvv
          simp only at hvv
          obtain ⟨rfl, rfl⟩ := hvv
          obtain ⟨cur, r1, r2, r3, r4, r5, r6, r7⟩ := q1 g cap hθ
          have hcell : ∀ j, j < n * sz → w.cell? ⟨g, j, none⟩ = some (cur.getD j undef) := fun j hj => by
            have : n * sz ≤ cap * sz := Nat.mul_le_mul_right _ r2
            rw [cell_of_row w g j cur e (0, 0) r1]
            exact agetD_of (by omega)
          refine .slice _ n cap sz f' (fun j => cur.getD j undef) hcap hmax (fun _ => ⟨⟨g, 0, none⟩, rfl, rfl, fun j hj => .inr ⟨⟨cap, hθ⟩, by simpa using hj⟩, fun j hj => by simpa using hcell j hj⟩) (by simp) (fun j hj => ?_) (fun i hi => ?_) (fun i k hi hk => ?_)
          · have hs : 0 < sz := by
              rcases Nat.eq_zero_or_pos sz with h0 | h0
              · rw [h0] at hj; omega
              · exact h0
            have e2 : j / sz * sz + j % sz = j := by rw [Nat.mul_comm]; exact Nat.div_add_mod j sz
            have := (r6 (j / sz) (j % sz) (by rw [Nat.div_lt_iff_lt_mul hs]; exact hj) (Nat.mod_lt _ hs)).1
            rwa [e2] at this
          · rw [← hf i hi, stripAll_length]; exact r5 i hi
          · rw [← hf i hi, stripAll_getD]
            exact ((r6 i k hi hk).2.strip).mono hII (fun _ _ _ => rfl)
  · refine { h.chg with imm := fun b o hi => .inl (h.chg.imm b o hi), le := fun k o hk => ?_, rel := ⟨fun k cells hk => ?_, fun k s2 e2 m hk g c hg => ?_, fun k k' g c c' hk hk' => ?_, fun k s2 e2 m f2 hk => ?_⟩, valid := fun b o hi => ?_, new := fun k g c hk hg => ?_, immNew := fun b o hi => ?_ }
    · obtain ⟨o', ho', hl⟩ := h.chg.le k o hk
      have hkn : k ≠ nm := by rintro rfl; rw [h0] at hk; cases hk
      have hkb : Nat.beq k nm = false := by cases hb : Nat.beq k nm with | false => rfl | true => exact absurd (Nat.eq_of_beq_eq_true hb) hkn
      refine ⟨_, hkeep k o' ho' (by simp only [notB, hkb]; rfl), ?_⟩
      cases o <;> cases o' <;> simp_all [OwnLe, Own.erase]
    · have hkn : k ≠ nm := by rintro rfl; rw [hnm] at hk; cases hk
      obtain ⟨o, h1, h2⟩ := hback k hkn _ hk
      cases o with
      | tok => simp [Own.erase] at h2
      | arr => simp [Own.erase] at h2
      | row cs =>
        simp only [Own.erase, Own.row.injEq] at h2
        subst h2
        obtain ⟨g, c, vs, e', r1, r2, r3, r4, r5, r6⟩ := hrel.row k cs h1
        refine ⟨g, c, vs, e', r1, r2, by rw [eraseAll_length]; exact r3, fun j hj => r4 j (by rwa [eraseAll_length] at hj), fun j hj => ?_, fun j hj => r6 j (hfar k g c hkn (by simp [h1]) r1 j hj)⟩
        rw [eraseAll_getD]
        exact hcast _ _ (r5 j (by rwa [eraseAll_length] at hj))
    · by_cases hkn : k = nm
      · subst hkn
        rw [hnm] at hk
        simp only [Option.some.injEq, Own.tok.injEq] at hk
        obtain ⟨rfl, rfl, rfl⟩ := hk
        obtain ⟨cur, r1, r2, r3, r4, r5, r6, r7⟩ := q1 g c hg
        refine ⟨cur, r1, r2, r3, r4, fun j hj => ?_⟩
        rcases hj with hj | ⟨_, hj⟩
        · exact (r7 j hj).elim
        · exact hj
      · obtain ⟨o, h1, h2⟩ := hback k hkn _ hk
        cases o with
        | row => simp [Own.erase] at h2
        | arr => simp [Own.erase] at h2
        | tok =>
          simp only [Own.erase, Own.tok.injEq] at h2
          obtain ⟨rfl, rfl, rfl⟩ := h2
          obtain ⟨cur, r1, r2, r3, r4, r5⟩ := hrel.tok k _ _ _ h1 g c hg
          exact ⟨cur, r1, r2, r3, r4, fun j hj => r5 j (hfar k g c hkn (by simp [h1]) hg j hj)⟩
    · exact hrel.inj k k' g c c' (hnone k hk) (hnone k' hk')
    · have hkn : k ≠ nm := by rintro rfl; rw [hnm] at hk; cases hk
      obtain ⟨o, h1, h2⟩ := hback k hkn _ hk
      cases o with
      | row => simp [Own.erase] at h2
      | tok => simp [Own.erase] at h2
      | arr s3 e3 m3 f3 =>
        simp only [Own.erase, Own.arr.injEq] at h2
        obtain ⟨rfl, rfl, rfl, rfl⟩ := h2
        exact arr_map (hrel.arr k _ _ _ _ h1) rfl (fun _ _ _ => rfl) (fun g c j hg hj => hfar k g c hkn (by simp [h1]) hg j hj) (fun i _ => eraseAll_length _ _) (fun v i j _ _ hv => by rw [eraseAll_getD]; exact hcast _ _ hv)
    · rcases hi with hi | ⟨⟨c, hc⟩, hj⟩
      · exact h.chg.valid b o hi
      · obtain ⟨cur, r1, r2, r3, r4, r5, r6, r7⟩ := q1 b c hc
        have : n * sz ≤ c * sz := Nat.mul_le_mul_right _ r2
        exact ⟨cur.getD o undef, by rw [cell_of_row w b o cur e (0, 0) r1]; exact agetD_of (by omega)⟩
    · exact h.chg.new k g c (hnone k hk) hg
    · rcases hi with hi | ⟨⟨c, hc⟩, _⟩
      · exact h.chg.immNew b o hi
      · exact .inr (h.chg.new nm b c (by show look st.own nm ≠ none; simp [ho]) hc)
end

section
variable {α : Type} {e : α → List AV} {d : α}
/-- One element written, as lists. -/
theorem putF_set {f : Nat → List AV} {l : List α} {i j : Nat} {cs : List AV} {x : α} (hf : ∀ k, k < l.length → f k = e (l.getD k d)) (hi : i < l.length) (hx : (e (l.getD i d)).take j ++ cs ++ (e (l.getD i d)).drop (j + cs.length) = e x) :
    ∀ k, k < (l.set i x).length → putF f i j cs k = e ((l.set i x).getD k d) := by
  intro k hk
  rw [List.length_set] at hk
  by_cases h : k = i
  · subst h
    rw [putF_here, hf k hk, hx]
    simp [List.getD, hk]
  · rw [putF_else f cs h, hf k hk]
    simp [List.getD, Ne.symm h]
theorem appF_app {f f' : Nat → List AV} {l m : List α} (hf : ∀ k, k < l.length → f k = e (l.getD k d)) (hf' : ∀ k, k < m.length → f' k = e (m.getD k d)) : ∀ k, k < (l ++ m).length → appF l.length f f' k = e ((l ++ m).getD k d) := by
  intro k hk
  rw [List.length_append] at hk
  rw [← app_get (e := e) (d := d) l m k hk]
  by_cases h : k < l.length
  · rw [appF_lt _ _ h, appF_lt _ _ h, hf k h]
  · rw [appF_ge _ _ (by omega), appF_ge _ _ (by omega), hf' _ (by omega)]
theorem make_le {z : List AV} (h : AVleL z (e d)) (n : Nat) : ∀ k, k < (List.replicate n d).length → AVleL z (e ((List.replicate n d).getD k d)) := fun k hk => by
  have : (List.replicate n d).getD k d = d := by simp at hk; simp [List.getD, hk]
  rw [this]; exact h
theorem leL_of_eq {f g : Nat → List AV} {n m : Nat} (hn : n = m) (h : ∀ k, k < m → f k = g k) : ∀ k, k < n → AVleL (f k) (g k) := fun k hk => by rw [h k (by omega)]; exact .refl _
end
end Go.Proofs.Ytgdihcpnhkkelaa
