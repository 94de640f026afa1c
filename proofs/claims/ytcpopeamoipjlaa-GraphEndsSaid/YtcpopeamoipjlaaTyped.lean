/-
  Slices that are told as lists; what a region's casts owe.
-/
import Derived.Test.YtcpopeamoipjlaaFn
namespace Go.Proofs.Ytcpopeamoipjlaa
open Go Go.RowKit
set_option linter.unusedSimpArgs false
set_option linter.unusedVariables false

/-- A slice whose elements are those of a list. -/
def AV.list {α : Type} (sz : Nat) (e : α → List AV) (d : α) (l : List α) (t : Tag) : AV := .slice sz l.length (fun i => e (l.getD i d)) t

section
variable {α : Type} {sz : Nat} {e : α → List AV} {d : α}
theorem av_nil : AVle (.slice 0 0 (fun _ => []) .exact) (AV.list sz e d [] .exact) := AVle.empty rfl (fun _ h => by cases h)
theorem av_lit {n : Nat} {f : Nat → List AV} {t : Tag} {xs : List α} (hn : n = xs.length) (hf : ∀ i, i < n → f i = e (xs.getD i d)) : AVle (.slice sz n f t) (AV.list sz e d xs t) := AVle.slice hn hf
theorem map_get (xs : List α) (i : Nat) (h : i < xs.length) : (xs.map e).getD i [] = e (xs.getD i d) := by simp [List.getD, h]
theorem app_get (l m : List α) (i : Nat) (h : i < l.length + m.length) : appF l.length (fun i => e (l.getD i d)) (fun i => e (m.getD i d)) i = e ((l ++ m).getD i d) := by
  by_cases hi : i < l.length
  · rw [appF_lt _ _ hi, List.getD, List.getD, List.getElem?_append_left hi]
  · rw [appF_ge _ _ (by omega), List.getD, List.getD, List.getElem?_append_right (by omega)]
theorem av_app {t : Tag} {l m : List α} : AVle (.slice sz (l.length + m.length) (appF l.length (fun i => e (l.getD i d)) (fun i => e (m.getD i d))) t) (AV.list sz e d (l ++ m) t) :=
  AVle.slice (by simp) fun i hi => app_get l m i hi
theorem len_app (l m : List α) : l.length + m.length = (l ++ m).length := by simp
theorem av_drop {t : Tag} {l : List α} {k : Nat} : AVle (.slice sz (l.length - k) (fun i => e (l.getD (k + i) d)) t) (AV.list sz e d (l.drop k) t) :=
  AVle.slice (by simp) fun i _ => by simp [List.getD]
theorem av_take {t : Tag} {l : List α} {k : Nat} (h : k ≤ l.length) : AVle (.slice sz k (fun i => e (l.getD i d)) t) (AV.list sz e d (l.take k) t) :=
  AVle.slice (by simp; omega) fun i hi => by simp [List.getD, List.getElem?_take, hi]
theorem av_sub {t : Tag} {l : List α} {k m : Nat} (h : m ≤ l.length) : AVle (.slice sz (m - k) (fun i => e (l.getD (k + i) d)) t) (AV.list sz e d ((l.take m).drop k) t) :=
  AVle.slice (by simp; omega) fun i hi => by
    have : k + i < m := by omega
    simp [List.getD, List.getElem?_take, this]
end

/-- What is new is forgotten. -/
theorem Spec.drop {P : Program} {f : FuncId} {args : List AV} {res : AV} {H' : List (Nat × Own)} (h : Spec P f args [] res H') : Spec P f args [] res.strip [] := by
  refine ⟨h.1, fun w I θ as ha ho hv hg => Calls.mono (h.2 w I θ as ha ho hv hg) fun e w' ⟨v, I', θ', he, k, hr⟩ => ⟨v, I', θ', he, ⟨k.imm, k.cell, (fun _ _ h => by cases h), ⟨(fun _ _ _ h => by cases h), (fun _ _ _ _ h => by cases h), (fun _ _ _ _ _ h => (h rfl).elim), (fun _ _ _ _ _ h => by cases h), (fun _ _ h => by cases h), (fun _ _ _ h => by cases h)⟩, k.valid, k.os, k.tape, k.output, k.grow, k.frame, (fun _ _ _ h => (h rfl).elim), fun b o hi => ?_⟩, .val _ _ hr.strip⟩⟩
  exact k.immNew b o hi

/-- Of two, by a guard, told anew. -/
theorem av_bif_int {γ : Bool} {k : IntKind} {a : Int} : AVle (.int k (bif γ then a else a)) (.int k a) := by cases γ <;> exact fun _ _ _ _ _ h => h
theorem av_bif_bool {γ a : Bool} : AVle (.bool (bif γ then a else a)) (.bool a) := by cases γ <;> exact fun _ _ _ _ _ h => h
theorem av_bif_str {γ : Bool} {a : List Int} : AVle (.str (bif γ then a else a)) (.str a) := by cases γ <;> exact fun _ _ _ _ _ h => h
theorem av_bif_list {α : Type} {sz : Nat} {e : α → List AV} {d : α} {γ : Bool} {l m : List α} : AVle (.slice sz (bif γ then m.length else l.length) (fun i => bif γ then e (m.getD i d) else e (l.getD i d)) .none) (AV.list sz e d (bif γ then m else l) .none) := by cases γ <;> exact fun _ _ _ _ _ h => h
theorem av_bif_same {α : Type} {sz : Nat} {e : α → List AV} {d : α} {γ : Bool} {l : List α} : AVle (.slice sz (bif γ then l.length else l.length) (fun i => bif γ then e (l.getD i d) else e (l.getD i d)) .none) (AV.list sz e d l .none) := by cases γ <;> exact fun _ _ _ _ _ h => h

/-- What is told of less is told of more. -/
theorem Spec.args {P : Program} {f : FuncId} {xs ys : List AV} {H : List (Nat × Own)} {res : AV} {H' : List (Nat × Own)} (hl : AVleL xs ys) (h : Spec P f ys H res H') : Spec P f xs H res H' := by
  refine ⟨h.1, fun w I θ as ha ho hv hg => h.2 w I θ as ?_ ho hv hg⟩
  revert hl
  have key : ∀ {vs : List Value} {xs ys : List AV}, AVleL xs ys → RepL I (look H) θ w vs xs → RepL I (look H) θ w vs ys := by
    intro vs xs ys hl
    induction hl generalizing vs with
    | nil => intro h; cases h; exact .nil
    | cons h1 _ ih => intro h; cases h with | cons h2 h3 => exact .cons (h1 _ _ _ _ _ h2) (ih h3)
  exact fun hl => key hl ha
theorem av_nil0 {α : Type} {sz : Nat} {e : α → List AV} {d : α} : AVle (.slice 0 0 (fun _ => []) .none) (AV.list sz e d [] .none) := AVle.empty rfl (fun _ h => by cases h)

/-- A table's element. -/
theorem av_tabS {l : List (List Int)} {i : Nat} (h : i < l.length) : AVle ((l.map AV.str).getD i .any) (.str (l.getD i [])) := by
  have : (l.map AV.str).getD i .any = .str (l.getD i []) := by simp [List.getD, h]
  rw [this]
  exact .refl _
theorem av_tabI {k : IntKind} {l : List Int} {i : Nat} (h : i < l.length) : AVle ((l.map (AV.int k)).getD i .any) (.int k (l.getD i 0)) := by
  have : (l.map (AV.int k)).getD i .any = .int k (l.getD i 0) := by simp [List.getD, h]
  rw [this]
  exact .refl _
theorem av_tabSP {l : List (List Int)} {i : Nat} (h : i < l.length) : AVle ((l.map AV.str).getD (i * 1) .any) (.str (l.getD i [])) := by rw [Nat.mul_one]; exact av_tabS h
theorem av_tabIP {k : IntKind} {l : List Int} {i : Nat} (h : i < l.length) : AVle ((l.map (AV.int k)).getD (i * 1) .any) (.int k (l.getD i 0)) := by rw [Nat.mul_one]; exact av_tabI h

instance (i : Int) (n : Nat) : Decidable (InB i n) := inferInstanceAs (Decidable (_ ∧ _))

theorem and_l {a b : Bool} (h : (a && b) = true) : a = true := by cases a <;> simp_all
abbrev w64 (n : Int) : Int := IntKind.i64.wrap n
abbrev wu64 (n : Int) : Int := IntKind.u64.wrap n
abbrev wu8 (n : Int) : Int := IntKind.u8.wrap n
open Classical in
/-- What comes of it with all fuel that is enough. -/
noncomputable def fixO {R : Type} (f : Nat → Option R) : Option R := if h : ∃ r n, ∀ m, n ≤ m → f m = some r then some h.choose else none
theorem fixO_some {R : Type} {f : Nat → Option R} {r : R} (h : fixO f = some r) : ∃ n, f n = some r := by
  unfold fixO at h
  split at h
  · rename_i hx
    obtain ⟨n, hn⟩ := hx.choose_spec
    simp only [Option.some.injEq] at h
    exact ⟨n, h ▸ hn n (Nat.le_refl n)⟩
  · cases h
theorem fixO_of {R : Type} {f : Nat → Option R} {r : R} (n : Nat) (h : ∀ m, n ≤ m → f m = some r) : fixO f = some r := by
  have hx : ∃ r n, ∀ m, n ≤ m → f m = some r := ⟨r, n, h⟩
  unfold fixO
  rw [dif_pos hx]
  obtain ⟨k, hk⟩ := hx.choose_spec
  have h1 := hk (max n k) (by omega)
  rw [h (max n k) (by omega)] at h1
  exact h1.symm
section
variable {Γ : Env}
theorem le_restrict_eq {st st' : St} (live names : List Nat) (h : restrict live names st = st') (hn : ∀ nm, Γ.own0 nm ≠ none → nm ∈ names) : Le Γ st st' := h ▸ le_restrict live names hn
theorem le_eq {st st' : St} (h : st = st') : Le Γ st st' := h ▸ Le.refl _ _
end
end Go.Proofs.Ytcpopeamoipjlaa
