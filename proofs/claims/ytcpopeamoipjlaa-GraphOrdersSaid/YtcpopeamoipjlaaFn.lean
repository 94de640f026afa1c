/-
  What a function does, out of what its code does; and what a law is then.
-/
import Derived.Test.YtcpopeamoipjlaaCode
namespace Go.Proofs.Ytcpopeamoipjlaa
open Go Go.RowKit

def resA (P : Program) (st : St) : ResultVar → Option AV
  | .tmp t => some (st.get t)
  | .cell a t =>
    bif hasT P t then
      match st.get a with
      | .ptr nm off =>
        match bif Nat.blt nm famB then look st.own nm else none with
        | some (.row _ cells) =>
          bif isAggT P t then (bif Nat.ble (off + szT P t) cells.length then some (.agg ((cells.drop off).take (szT P t))) else none)
          else (bif Nat.blt off cells.length then some (cells.getD off .any) else none)
        | _ => none
      | _ => none
    else none
def resAll (P : Program) (st : St) : List ResultVar → Option (List AV)
  | [] => some []
  | r :: rs => match resA P st r, resAll P st rs with | some x, some l => some (x :: l) | _, _ => none
def retRaw (P : Program) (st : St) (rs : List ResultVar) : Option AV :=
  match resAll P st rs with
  | some [x] => some x
  | some l => some (.tuple l)
  | none => none
def retH (ρ : List (Nat × Nat)) (st : St) : List (Nat × Own) :=
  ρ.filterMap fun x => match look st.own x.1 with | some o => some (x.2, o.ren ρ) | none => none
def retCheck (H : List (Nat × Own)) (ρ : List (Nat × Nat)) : Bool :=
  nodupB (ρ.map (·.1)) && (nodupB (ρ.map (·.2)) && ρ.all (fun x => Nat.blt x.1 famB)) && H.all (fun x => match look ρ x.1 with | some k => Nat.beq k x.1 | none => false)
def retOf (P : Program) (rs : List ResultVar) (ρ : List (Nat × Nat)) (H : List (Nat × Own)) (st : St) : Option (AV × List (Nat × Own)) :=
  bif retCheck H ρ then match retRaw P st rs with | some x => some (x.ren ρ, retH ρ st) | none => none else none
def retK (P : Program) (rs : List ResultVar) (H : List (Nat × Own)) (res : AV) (H' : List (Nat × Own)) (e : Exit) (st : St) : Prop :=
  (e = .ret ∨ e = .normal) ∧ ∃ ρ, retOf P rs ρ H st = some (res, H')
def enumA : Nat → List AV → List (Nat × AV)
  | _, [] => []
  | i, x :: l => (i, x) :: enumA (i + 1) l
def initSt (args : List AV) (H : List (Nat × Own)) : St := ⟨enumA 0 args, H, []⟩

section
variable {P : Program} {Γ : Env} {I : Nat → Nat → Prop} {θ : Nat → Option (Nat × Nat)} {a : Act} {w : World} {st : St}

def resSem (a : Act) (r : ResultVar) : Sem Value :=
  match r with
  | .tmp t => Pure.pure (a.tmps.getD t undef)
  | .cell b t => do loadVar t (← asAddr (a.tmps.getD b undef))

theorem resA_sound (h : Rel Γ st.sto I θ a w) {r : ResultVar} {x : AV} (hx : resA P st r = some x) :
    ∃ v, (resSem a r).run P w = .ok v w ∧ Rep I st.sto.own θ w v x := by
  cases r with
  | tmp t =>
    simp only [resA, Option.some.injEq] at hx
    subst hx
    exact ⟨_, rfl, h.slots t⟩
  | cell b t =>
    simp only [resA] at hx
    cases hT : hasT P t with
    | false => simp [hT] at hx
    | true =>
      simp only [hT, cond_true] at hx
      split at hx
      · rename_i nm off hb
        split at hx
        · rename_i e1 cells hown0
          have hown : st.sto.own nm = some (.row e1 cells) := by
            cases hb : Nat.blt nm famB with
            | false => rw [hb] at hown0; cases hown0
            | true => rw [hb] at hown0; exact (famOwn_lt (by simpa [Nat.blt_eq] using hb)).trans hown0
          have hs := h.slots b
          have hs' : Rep I st.sto.own θ w (a.tmps.getD b undef) (.ptr nm off) := by rw [← hb]; exact hs
          obtain ⟨e', cells', g, c, ho', hg, he⟩ := hs'.ptr_inv
          obtain ⟨g', c', vs, hg', hh, hsz, h1, hrep, _⟩ := h.chg.rel.row nm _ cells hown
          rw [hg] at hg'
          simp only [Option.some.injEq, Prod.mk.injEq] at hg'
          obtain ⟨rfl, rfl⟩ := hg'
          have hcell : ∀ j, j < cells.length → w.cell? ⟨g, j, none⟩ = some (vs.getD j undef) := fun j hj => by
            rw [cell_of_row w g j vs _ (0, 0) hh]
            exact agetD_of (by omega)
          simp only [resSem, he, Sem.run_bind, asAddr, Sem.run_pure, Result.andThen_ok]
          cases hagg : isAggT P t with
          | true =>
            simp only [hagg, cond_true] at hx
            cases hle : Nat.ble (off + szT P t) cells.length with
            | false => simp [hle] at hx
            | true =>
              simp only [hle, cond_true, Option.some.injEq] at hx
              subst hx
              have hle' := Nat.le_of_ble_eq_true hle
              refine ⟨_, run_loadVar_agg hT hagg _ (fun j => vs.getD (off + j) undef) (fun j hj => by rw [Addr.add_lit]; exact hcell _ (by omega)), .agg _ _ (by simp; omega) (fun j hj => ?_) (fun j hj => ?_)⟩
              · have hj' : j < szT P t := by simp at hj; omega
                rw [range_getD _ _ _ hj']
                exact h1 _ (by omega)
              · have hj' : j < szT P t := by simp at hj; omega
                rw [range_getD _ _ _ hj', drop_take_getD _ _ _ _ _ hj']
                exact hrep _ (by omega)
          | false =>
            simp only [hagg, cond_false] at hx
            cases hlt : Nat.blt off cells.length with
            | false => simp [hlt] at hx
            | true =>
              simp only [hlt, cond_true, Option.some.injEq] at hx
              subst hx
              have hlt' : off < cells.length := by simpa [Nat.blt_eq] using hlt
              exact ⟨_, run_loadVar_one hT hagg _ _ (hcell _ hlt'), hrep _ hlt'⟩
        · cases hx
      · cases hx

theorem resAll_sound (h : Rel Γ st.sto I θ a w) : ∀ {rs : List ResultVar} {xs : List AV}, resAll P st rs = some xs →
    ∃ vs : List Value, (rs.mapM (resSem a)).run P w = .ok vs w ∧ RepL I st.sto.own θ w vs xs
  | [], xs, hx => by simp only [resAll, Option.some.injEq] at hx; subst hx; exact ⟨[], by simp, .nil⟩
  | r :: rs, xs, hx => by
    simp only [resAll] at hx
    split at hx
    · rename_i x l h1 h2
      simp only [Option.some.injEq] at hx
      subst hx
      obtain ⟨v, hv, hr⟩ := resA_sound h h1
      obtain ⟨vs, hvs, hrs⟩ := resAll_sound h h2
      refine ⟨v :: vs, ?_, .cons hr hrs⟩
      simp only [List.mapM_cons, Sem.run_bind, hv, Result.andThen_ok, hvs, Sem.run_pure]
    · cases hx

theorem RepL.length {own : Nat → Option Own} {l : List Value} {m : List AV} (h : RepL I own θ w l m) : l.length = m.length := by induction h with | nil => rfl | cons _ _ ih => simp [ih]
theorem RepL.get {own : Nat → Option Own} {l : List Value} {m : List AV} (h : RepL I own θ w l m) (j : Nat) (hj : j < m.length) : Rep I own θ w (l.getD j undef) (m.getD j .any) := by
  induction h generalizing j with
  | nil => cases hj
  | cons h _ ih => cases j with
    | zero => simpa using h
    | succ j => simpa using ih j (by simpa using hj)

theorem ret_sound (h : Rel Γ st.sto I θ a w) {fn : Func} {x : AV} (hx : retRaw P st fn.results.toList = some x) : ∃ v, (results fn a.tmps).run P w = .ok v w ∧ Rep I st.sto.own θ w v x := by
  unfold retRaw at hx
  have hrun : ∀ vs : List Value, (fn.results.toList.mapM (resSem a)).run P w = .ok vs w →
      (results fn a.tmps).run P w = .ok (if h : vs.toArray.size = 1 then vs.toArray[0] else .tuple vs.toArray) w := fun vs hvs => by
    have e : results fn a.tmps = (do let vs ← fn.results.mapM (resSem a); pure (if h : vs.size = 1 then vs[0] else .tuple vs)) := by
      unfold results
      congr 1
    rw [e, Array.mapM_eq_mapM_toList]
    simp only [Sem.run_bind, Sem.run_map]
    rw [hvs]
    simp only [Result.andThen_ok, Sem.run_pure]
  split at hx
  · rename_i y hy
    simp only [Option.some.injEq] at hx
    subst hx
    obtain ⟨vs, hvs, hr⟩ := resAll_sound h hy
    have hl := hr.length
    match vs, hl, hr, hvs with
    | [v], _, hr, hvs =>
      cases hr with | cons hr _ => exact ⟨v, by rw [hrun _ hvs]; simp, hr⟩
  · rename_i l hne hl
    simp only [Option.some.injEq] at hx
    subst hx
    obtain ⟨vs, hvs, hr⟩ := resAll_sound h hl
    have hlen := hr.length
    have hn1 : vs.length ≠ 1 := fun h1 => by
      match l, hlen, hne with
      | [], hlen, _ => simp at hlen; simp [hlen] at h1
      | [x], _, hne => exact hne x rfl
      | _ :: _ :: _, hlen, _ => simp at hlen; omega
    refine ⟨.tuple vs.toArray, by rw [hrun _ hvs]; simp [hn1], .tuple _ _ (by simpa using hlen) fun j hj => ?_⟩
    have := hr.get j hj
    rwa [← list_toArray_getD] at this
  · cases hx

theorem look_enum : ∀ (l : List AV) (i t : Nat), look (enumA i l) t = if i ≤ t ∧ t < i + l.length then some (l.getD (t - i) .any) else none
  | [], i, t => by rw [if_neg (by simp)]; rfl
  | x :: l, i, t => by
    simp only [enumA, look, look_enum l (i + 1) t, List.length_cons]
    cases hb : Nat.beq i t with
    | true =>
      have := Nat.eq_of_beq_eq_true hb
      subst this
      simp
    | false =>
      have hne : i ≠ t := by rintro rfl; simp at hb
      simp only [cond_false]
      by_cases h : i + 1 ≤ t ∧ t < i + 1 + l.length
      · rw [if_pos h, if_pos (by omega)]
        have : t - i = (t - (i + 1)) + 1 := by omega
        rw [this, List.getD_cons_succ]
      · rw [if_neg h, if_neg (by omega)]

theorem retH_look {ρ : List (Nat × Nat)} (h2 : (ρ.map (·.2)).Nodup) (st : St) (k : Nat) : look (retH ρ st) k = (look (swapL ρ) k).bind fun nm => (look st.own nm).map (Own.ren ρ) := by
  have key : ∀ (l : List (Nat × Nat)), (l.map (·.2)).Nodup → look (l.filterMap fun x => match look st.own x.1 with | some o => some (x.2, o.ren ρ) | none => none) k = (look (swapL l) k).bind fun nm => (look st.own nm).map (Own.ren ρ) := by
    intro l
    induction l with
    | nil => intro _; rfl
    | cons x l ih =>
      intro hn
      obtain ⟨nm, c⟩ := x
      simp only [List.map_cons, List.nodup_cons] at hn
      have ih := ih hn.2
      simp only [List.filterMap_cons, swapL, List.map_cons, look]
      cases ho : look st.own nm with
      | some o =>
        simp only [look]
        cases hb : Nat.beq c k with
        | true => simp [ho]
        | false => simpa [swapL] using ih
      | none =>
        simp only
        cases hb : Nat.beq c k with
        | true =>
          have := Nat.eq_of_beq_eq_true hb
          subst this
          simp only [cond_true, Option.bind_some, ho, Option.map_none]
          apply look_none
          intro hm
          obtain ⟨y, hy, rfl⟩ := List.mem_map.1 hm
          obtain ⟨z, hz, hzy⟩ := List.mem_filterMap.1 hy
          cases hz' : look st.own z.1 with
          | none => rw [hz'] at hzy; cases hzy
          | some o' =>
            rw [hz'] at hzy
            simp only [Option.some.injEq] at hzy
            subst hzy
            exact hn.1 (List.mem_map.2 ⟨z, hz, rfl⟩)
        | false => simpa [swapL] using ih
  exact key ρ h2

/-- Names turned at a function's end. -/
theorem chg_ret {own0 : Nat → Option Own} {θ0 : Nat → Option (Nat × Nat)} {I0 : Nat → Nat → Prop} {w0 : World} {own : Nat → Option Own} {ρ : List (Nat × Nat)} (hρ : ∀ nm c, look ρ nm = some c → own nm = look st.own nm) (h1 : (ρ.map (·.1)).Nodup) (h2 : (ρ.map (·.2)).Nodup) (k : Chg own0 θ0 I0 w0 own θ I w)
    (hh : ∀ nm, own0 nm ≠ none → look ρ nm = some nm) :
    Chg own0 θ0 I0 w0 (look (retH ρ st)) (fun k => (look (swapL ρ) k).bind θ) I w ∧ ∀ v x, Rep I own θ w v x → Rep I (look (retH ρ st)) (fun k => (look (swapL ρ) k).bind θ) w v (x.ren ρ) := by
  have hfw : ∀ nm c o, look ρ nm = some c → own nm = some o → look (retH ρ st) c = some (o.ren ρ) ∧ (look (swapL ρ) c).bind θ = θ nm := fun nm c o hl ho => by
    have hs := (look_swap h1 h2).1 hl
    rw [hρ nm c hl] at ho
    rw [retH_look h2, hs]
    simp [ho]
  have hbw : ∀ c o, look (retH ρ st) c = some o → ∃ nm o', look ρ nm = some c ∧ own nm = some o' ∧ o = o'.ren ρ ∧ (look (swapL ρ) c).bind θ = θ nm := fun c o ho => by
    rw [retH_look h2] at ho
    obtain ⟨nm, hs, ho'⟩ := Option.bind_eq_some_iff.1 ho
    obtain ⟨o', ho'', rfl⟩ := Option.map_eq_some_iff.1 ho'
    exact ⟨nm, o', (look_swap h1 h2).2 hs, (hρ nm c ((look_swap h1 h2).2 hs)).trans ho'', rfl, by simp [hs]⟩
  refine ⟨{ k with le := fun nm o ho => ?_, rel := ⟨fun c e' cells hc => ?_, fun c sz e m hc g cc hg => ?_, fun c c' g cc cc' hc hc' hg hg' => ?_, fun c sz e m f hc => ?_, fun c x hc => ?_, fun c sz m hc hnn => ?_⟩, new := fun c g cc hc hg => ?_ }, fun v x hx => hx.ren ρ hfw⟩
  · obtain ⟨o', ho', hl⟩ := k.le nm o ho
    obtain ⟨e1, e2⟩ := hfw nm nm o' (hh nm (by simp [ho])) ho'
    refine ⟨_, e1, ?_⟩
    rw [e2]
    cases o <;> cases o' <;> simp_all [OwnLe, Own.ren]
  rotate_left 5
  · obtain ⟨nm, o', hl, ho', he, ht⟩ := hbw c _ hc
    cases o' with
    | row => simp [Own.ren] at he
    | arr => simp [Own.ren] at he
    | obj => simp [Own.ren] at he
    | tok =>
      simp only [Own.ren, Own.tok.injEq] at he
      obtain ⟨rfl, rfl, rfl⟩ := he
      exact k.rel.tok8 nm _ _ ho' (ht.symm.trans hnn)
  rotate_right 1
  · obtain ⟨nm, o', hl, ho', he, ht⟩ := hbw c _ hc
    cases o' with
    | row => simp [Own.ren] at he
    | tok => simp [Own.ren] at he
    | arr => simp [Own.ren] at he
    | obj x' =>
      simp only [Own.ren, Own.obj.injEq] at he
      subst he
      exact obj_map (θ' := fun c => (look (swapL ρ) c).bind θ) (nm' := c) (k.rel.obj nm _ ho') ht (fun _ _ _ => rfl) (fun _ _ _ _ h => h) (fun _ h => h)
  rotate_left 1
  · obtain ⟨nm, o', hl, ho', he, ht⟩ := hbw c _ hc
    cases o' with
    | tok => simp [Own.ren] at he
    | arr => simp [Own.ren] at he
    | obj => simp [Own.ren] at he
    | row e1 cs =>
      simp only [Own.ren, Own.row.injEq] at he
      obtain ⟨rfl, rfl⟩ := he
      obtain ⟨g, c', vs, r1, r2, r3, r4, r5, r6⟩ := k.rel.row nm _ cs ho'
      refine ⟨g, c', vs, ht.trans r1, r2, by rw [ren_length]; exact r3, fun j hj => r4 j (by rwa [ren_length] at hj), fun j hj => ?_, r6⟩
      rw [ren_getD]
      exact (r5 j (by rwa [ren_length] at hj)).ren ρ hfw
  · obtain ⟨nm, o', hl, ho', he, ht⟩ := hbw c _ hc
    cases o' with
    | row => simp [Own.ren] at he
    | arr => simp [Own.ren] at he
    | obj => simp [Own.ren] at he
    | tok =>
      simp only [Own.ren, Own.tok.injEq] at he
      obtain ⟨rfl, rfl, rfl⟩ := he
      exact k.rel.tok nm _ _ _ ho' g cc (by rw [← ht]; exact hg)
  · cases hx : look (retH ρ st) c with
    | none => exact (hc hx).elim
    | some o =>
      cases hx' : look (retH ρ st) c' with
      | none => exact (hc' hx').elim
      | some o' =>
        obtain ⟨nm, o1, hl, ho1, _, ht⟩ := hbw c o hx
        obtain ⟨nm', o2, hl', ho2, _, ht'⟩ := hbw c' o' hx'
        rw [ht] at hg
        rw [ht'] at hg'
        have := k.rel.inj nm nm' g cc cc' (by simp [ho1]) (by simp [ho2]) hg hg'
        subst this
        rw [hl] at hl'
        exact Option.some.inj hl'
  · obtain ⟨nm, o', hl, ho', he, ht⟩ := hbw c _ hc
    cases o' with
    | row => simp [Own.ren] at he
    | tok => simp [Own.ren] at he
    | obj => simp [Own.ren] at he
    | arr sz' e' m' f' =>
      simp only [Own.ren, Own.arr.injEq] at he
      obtain ⟨rfl, rfl, rfl, rfl⟩ := he
      exact arr_map (k.rel.arr nm _ _ _ _ ho') ht (fun _ _ _ => rfl) (fun _ _ _ _ h => h) (fun i _ => ren_length _ _) (fun v i j _ _ hv => by rw [ren_getD]; exact hv.ren ρ hfw)
  · cases hx : look (retH ρ st) c with
    | none => exact (hc hx).elim
    | some o =>
      obtain ⟨nm, o1, hl, ho1, _, ht⟩ := hbw c o hx
      rw [ht] at hg
      exact k.new nm g cc (by simp [ho1]) hg

theorem spec_of_awp {f : FuncId} {fn : Func} {c : Code} {args : List AV} {H H' : List (Nat × Own)} {res : AV} (hf : P.funcs[f]? = some fn) (hb : fn.body = some c) (hname : (fn.name == "runtime.NumGoroutine") = false) (hlen : Nat.ble args.length fn.ntmps = true)
    (h : ∀ Γ : Env, Γ.n = fn.ntmps → Γ.own0 = look H → awp P Γ c (retK P fn.results.toList H res H') (initSt args H)) (hpl : plainB H = true := by rfl) : Spec P f args H res H' := by
  have hlen := Nat.le_of_ble_eq_true hlen
  refine ⟨fun as w => ?_, fun w I θ as hargs hown hval hglob => ?_⟩
  · have hn : ¬ fn.name = "runtime.NumGoroutine" := by simpa using hname
    simp [callFunc, hf, hn, hb]
  · let Γ : Env := ⟨w, fn.ntmps, look H, θ, I, hglob, fun nm h => plain_lt hpl h⟩
    refine calls_of_wp hf hb ?_
    have has : as.size = args.length := by simpa using hargs.length
    have hown0 : (initSt args H).sto.own = look H := famOwn_plain hpl
    have hrel : Rel Γ (initSt args H).sto I θ ⟨as ++ Array.replicate (fn.ntmps - as.size) undef, []⟩ w := by
      refine ⟨by simp [Γ]; omega, rfl, fun t => ?_, by rw [hown0]; exact .refl hown hval⟩
      have e : (initSt args H).sto.tmp t = if t < args.length then args.getD t .any else .any := by
        show (match look (enumA 0 args) t with | some x => x | none => .any) = _
        rw [look_enum]
        by_cases ht : t < args.length
        · simp [ht]
        · simp [ht]
      rw [e, hown0]
      by_cases ht : t < args.length
      · rw [if_pos ht]
        have := hargs.get t ht
        have e2 : (as ++ Array.replicate (fn.ntmps - as.size) undef).getD t undef = as.toList.getD t undef := by
          have hts : t < as.size := by omega
          simp [Array.getD_eq_getD_getElem?, List.getD, Array.getElem?_append_left hts]
        rw [e2]
        exact this
      · rw [if_neg ht]
        exact .val _ _ (.any _)
    refine wp_mono (h Γ rfl rfl I θ _ w hrel) fun e a' w' ⟨st', I', θ', ⟨he, ρ, hret⟩, hr⟩ => ?_
    unfold retOf at hret
    cases hc : retCheck H ρ with
    | false => simp [hc] at hret
    | true =>
      simp only [hc, cond_true] at hret
      split at hret
      · rename_i x hx
        simp only [Option.some.injEq, Prod.mk.injEq] at hret
        obtain ⟨rfl, rfl⟩ := hret
        simp only [retCheck, Bool.and_eq_true] at hc
        obtain ⟨⟨c1, c2, c4⟩, c3⟩ := hc
        obtain ⟨v, hv, hrep⟩ := ret_sound (fn := fn) hr hx
        obtain ⟨k1, k2⟩ := chg_ret (own := st'.sto.own) (st := st') (fun nm c hl => famOwn_lt (by have := List.all_eq_true.1 c4 _ (look_mem hl); simpa [Nat.blt_eq] using this)) (nodupB_nodup c1) (nodupB_nodup c2) hr.chg (fun nm hn => by
          cases hl : look H nm with
          | none => exact (hn hl).elim
          | some o =>
            have := List.all_eq_true.1 c3 _ (look_mem hl)
            simp only at this
            split at this
            · rename_i k hk
              rw [hk, Nat.eq_of_beq_eq_true this]
            · cases this)
        have hfin : a'.defers = [] ∧ ∃ v, (results fn a'.tmps).run P w' = .ok v w' ∧ (∃ v_1 I' θ', Ending.returned v = .returned v_1 ∧ Chg (look H) θ I w (look (retH ρ st')) θ' I' w' ∧ Rep I' (look (retH ρ st')) θ' w' v_1 (x.ren ρ)) :=
          ⟨hr.defers, v, hv, v, I', _, rfl, k1, k2 _ _ hrep⟩
        rcases he with rfl | rfl <;> exact hfin
      · cases hret

/-- A law: it answers true, and of what was there nothing has turned. -/
theorem law_of_spec {f : FuncId} {args : List AV} (h : Spec P f args [] (.bool true) []) (w : World) (as : Array Value) (hargs : RepL (fun b o => ∃ u, w.cell? ⟨b, o, none⟩ = some u) (look []) (fun _ => none) w as.toList args) (hG : GOk (fun b o => ∃ u, w.cell? ⟨b, o, none⟩ = some u) w) :
    Calls P f as w fun e w' => e = .returned (.bool true) ∧ Below w.heap.size w w' := by
  refine Calls.mono (h.2 w _ (fun _ => none) as hargs ⟨(fun _ _ _ h => by cases h), (fun _ _ _ _ h => by cases h), (fun _ _ _ _ _ h => (h rfl).elim), (fun _ _ _ _ _ h => by cases h), (fun _ _ h => by cases h), (fun _ _ _ h => by cases h)⟩ (fun _ _ h => h) hG) fun e w' ⟨v, I', θ', he, k, hr⟩ => ?_
  subst he
  rw [hr.bool_inv]
  exact ⟨rfl, k.os, k.tape, k.output, k.grow, fun b hb => k.frame b hb fun _ _ h => (h rfl).elim⟩
end
end Go.Proofs.Ytcpopeamoipjlaa
