/-
  The machine, the program's functions and the laws' arithmetic: part 2 of 6.
-/
import Derived.Test.YtmkiepobhjiabaaGreatPk1
import Derived.Laws.Cover3
import Derived.Laws.IdiomRangeMap
import Derived.Laws.RangeAny
import Derived.Orders
set_option linter.unusedVariables false
set_option linter.unusedSimpArgs false
namespace Go.Proofs.YtmkiepobhjiabaaGreat
noncomputable section
open Go Go.RowKit
theorem get_nat(s:ByteArray)(i:Nat):(s.get! i).toNat=((Cl s).getD i 0).toNat:=by
 unfold Cl
 by_cases h:i<s.size
 ·have h':i<s.data.toList.length:=h;rw[List.getD,zzL128,Ut h'];simp only[zzL97,zzL115]
  have e:s.get! i=s.data.toList[i]:=by
   show s.data[i]! = _
   rw[getElem!_pos s.data i h]
   rfl
  grind
 ·have h':¬ i<s.data.toList.length:=h;rw[List.getD,zzL104 (by grind)]
  have e:s.get! i=0:=by
   show s.data[i]! = _
   rw[getElem!_neg s.data i h]
   rfl
  rw[e];rfl
theorem decode_eq(s:ByteArray)(i:Nat):Utf8.decode s i=decodeL (Cl s) i:=by
 simp[decodeL,get_nat,Fm,Utf8.decode]
section
variable {P:Program} {Γ:Iw} {σ:Sto} {I:Nat->Nat->Prop} {θ:Nat->Option (Nat×Nat)} {a:Act} {w:World} {o:Oper}
theorem R5 {own : Nat → Option Own} (hrel : Ky I own θ w) (hval : ∀ b o, I b o → ∃ u, w.cell? ⟨b, o, none⟩ = some u) {d : Nat} (hn : own d = none) {ob : Obj} {x : AObj} (hc : ObjR I own θ w ob x) :
    Chg own θ I w (A0 own d (.obj x)) (thUp θ d (some (w.heap.size, 0))) I (w.alloc ob) := by
  have hcell : ∀ b o, I b o → (w.alloc ob).cell? ⟨b, o, none⟩ = w.cell? ⟨b, o, none⟩ := fun b o hi => by
    grind [Lo]
  have hle : ∀ nm o, own nm = some o → ∃ o', A0 own d (.obj x) nm = some o' ∧ OwnLe o (θ nm) o' (thUp θ d (some (w.heap.size, 0)) nm) := fun nm o ho => by
    grind [thUp, A0, OwnLe.refl]
  have hmono : ∀ v y, Rep I own θ w v y → Rep I (A0 own d (.obj x)) (thUp θ d (some (w.heap.size, 0))) (w.alloc ob) v y := fun v y h => h.mono (fun _ _ h => h) hcell hle
  refine { imm := fun _ _ h => h, cell := hcell, le := hle, rel := ?_, valid := fun b o hi => ?_, os := rfl, tape := rfl, output := rfl, drawn := fun _ => zzL9 _, grow := by simp, frame := fun b hb _ => Wm w _ hb,
           new := fun nm g c ho hg => ?_, immNew := fun b o h => .inl h }
  · refine M0 hrel (· = d) hmono (fun nm hne => ⟨by simp [A0, hne], by simp [thUp, hne]⟩) (fun nm g c hne ho hg => ⟨Wm w _ (Lb hrel ho hg), fun j h => h⟩) ?_ ?_ ?_ (fun _ _ h h' => h.trans h'.symm) (hobj := ?_)
    · grind [A0]
    · grind [A0]
    · rintro nm nm' g c c' rfl hne _ ho' hg hg'; simp only [thUp, L8, Am, It] at hg; have := Lb hrel ho' hg'; omega
    · rintro nm y rfl ho; simp only [A0, L8, Am, Own.obj.injEq] at ho; subst ho; refine .inl ⟨w.heap.size, 0, ob, by simp [thUp], Wn w _, hc.mono hmono, fun j hj => ?_⟩; obtain ⟨u, hu⟩ := hval _ _ hj; exact zzL99 _ (Qe hu)
  · grind
  · by_cases hne : nm = d
    · grind [thUp]
    · simp only [A0, hne, G4] at ho
      grind [thUp]
def Yr(w:World)(g:Nat)(ob:Obj):World:={ w with heap:=w.heap.setIfInBounds g ob }
theorem setO_other(w:World)(g b:Nat)(ob:Obj)(h:b≠g):(Yr w g ob).heap[b]?=w.heap[b]?:=by
 grind [Yr]
theorem setO_this(w:World)(g:Nat)(ob:Obj)(h:g<w.heap.size):(Yr w g ob).heap[g]?=some ob:=by
 grind [Yr]
theorem U5 {own : Nat → Option Own} (hrel : Ky I own θ w) (hval : ∀ b o, I b o → ∃ u, w.cell? ⟨b, o, none⟩ = some u) {d g c : Nat} {x : AObj} (hn : own d = some (.obj x)) (hg : θ d = some (g, c)) {ob : Obj} {y : AObj} (hc : ObjR I own θ w ob y) :
    Chg own θ I w (A0 own d (.obj y)) θ I (Yr w g ob) := by
  obtain ⟨o0, h2, h3, h4⟩ : ∃ o, w.heap[g]? = some o ∧ ObjR I own θ w o x ∧ ∀ j, ¬ I g j := by
    rcases hrel.obj d x hn with ⟨g', c', o0, h1, h2, h3, h4⟩ | ⟨h1, _⟩
    · grind
    grind
  have hlt := Zq h2
  have hcell : ∀ b j, I b j → (Yr w g ob).cell? ⟨b, j, none⟩ = w.cell? ⟨b, j, none⟩ := fun b j hi =>
    zzL82 (a := ⟨b, j, none⟩) (setO_other w g b ob (by grind))
  have hle : ∀ nm' o, own nm' = some o → ∃ o', A0 own d (.obj y) nm' = some o' ∧ OwnLe o (θ nm') o' (θ nm') := fun nm' o ho => by
    by_cases hne : nm' = d
    · subst hne; rw [hn] at ho; obtain rfl := OI ho; exact ⟨.obj y, by simp [A0], rfl⟩
    · exact ⟨o, by grind [A0], .refl _ _⟩
  have hmono : ∀ v z, Rep I own θ w v z → Rep I (A0 own d (.obj y)) θ (Yr w g ob) v z := fun v z h => h.mono (fun _ _ h => h) hcell hle
  refine { imm := fun _ _ h => h, cell := hcell, le := hle, rel := ?_, valid := fun b j hi => ?_, os := rfl, tape := rfl, output := rfl, drawn := fun _ => zzL9 _, grow := by simp [Yr], frame := fun b hb hn' => setO_other w g b ob ?_,
           new := fun nm' g' c' ho hg' => ?_, immNew := fun b o h => .inl h }
  · refine M0 hrel (· = d) hmono (fun nm' hne => ⟨by simp [A0, hne], rfl⟩) (fun nm' g' c' hne ho hg' => ⟨setO_other w g g' ob ?_, fun j h => h⟩) ?_ ?_ ?_ (fun _ _ h h' => h.trans h'.symm) (hobj := ?_)
    · rintro rfl; exact hne (hrel.inj nm' d _ _ _ ho (by simp [hn]) hg' hg)
    · grind [A0]
    · grind [A0]
    · rintro nm' nm'' g' c1 c2 rfl hne _ ho' hg1 hg2; exact hne (hrel.inj nm'' nm' _ _ _ ho' (by simp [hn]) hg2 hg1)
    · rintro nm' z rfl ho; simp only [A0, L8, Am, Own.obj.injEq] at ho; subst ho; exact .inl ⟨g, c, ob, hg, setO_this w g ob hlt, hc.mono hmono, h4⟩
  · grind
  · grind
  grind [A0]
theorem ok_allocarr(h:Rel Γ σ I θ a w)(hd:∀ d,o.dst=some d->d<Γ.n){t e:TypeId}(ho:o.op = .alloc t){d:Nat}(hdst:o.dst=some d)(hn:σ.own d=none){z:List AV}(hz:Yy P t=some z){len:Nat}
  (h1:1<=len) (hzl:z.length=len*A8 P e) (hr:len<=room):Fd P Γ σ o a w (.vpt d len 0 0) [(d,.arr (A8 P e) t len (fun i=>(z.drop (i*A8 P e)).take (A8 P e)))]:=by
 obtain⟨i,v,hi,hv,hone,rfl⟩:=Qa hz;have hzc:=Kf (I:=I) (w:=w) (σ:=σ) (θ:=θ) hone
 have hsz:v.cells.size=len*A8 P e:=by simpa using hzl
 have hk:=M8 (w':=w.alloc (.cells v.cells t)) (t':=some (w.heap.size,len)) (m':=len) (f':=fun i=>((v.cells.toList.map AV.ofCell).drop (i*A8 P e)).take (A8 P e)) (nm:=d) (s:=A8 P e) (e:=t) h.chg.rel h.chg.valid
  (fun b o hi=>by obtain⟨u,hu⟩:=h.chg.valid b o hi;exact Lo _ hu) (.inl hn) (fun b hb _=>Wm w _ hb) rfl rfl rfl (by simp) (by simp) (fun g c' hgc=>?_) (fun g c' hgc=>?_)
 ·refine J8 h hd (v:=.pointer (some ⟨w.heap.size,0,none⟩)) ?_ (by rw[Ca];exact hk) ?_
  ·simp_all [newRow,execOp,newVar,Instr.alloc,Pk]
  ·rw[Ca];refine .vpt d (A8 P e) t len _ len 0 0 _ (by simp[A0];rfl) (zzL9 _) h1 (fun _=>⟨w.heap.size,len,by simp[thUp],by simp⟩)
 ·simp only[Am,It]at hgc;obtain⟨rfl,rfl⟩:=hgc
  have hchunk:∀ i',i'<len->i'*A8 P e+A8 P e<=len*A8 P e:=fun i' hi'=>by
   have:(i'+1)*A8 P e<=len*A8 P e:=Fb _ hi'
   grind
  refine⟨_,Wn w _,zzL9 _,by grind [room,maxLen],hsz,fun i' hi'=>?_,fun i' j' hi' hj'=>?_,fun j hj=>?_⟩
  ·grind
  ·have:=hchunk i' hi'
   have e1:(((v.cells.toList.map AV.ofCell).drop (i'*A8 P e)).take (A8 P e)).getD j' .any=(v.cells.toList.map AV.ofCell).getD (i'*A8 P e+j') .any:=by
    rw[List.getD,zzL117,if_pos hj',zzL116,List.getD]
   exact⟨hzc.one _ (by grind),fun hmono=>by rw[e1];exact hmono _ _ (hzc.rep _ (by grind))⟩
  ·obtain⟨u,hu⟩:=h.chg.valid _ _ hj;exact zzL99 _ (Qe hu)
 grind
theorem ok_boxarr(h:Rel Γ σ I θ a w)(hd:∀ d,o.dst=some d->d<Γ.n){t e:TypeId}{x:Operand}(ho:o.op = .box t x){d:Nat}(hdst:o.dst=some d)(hn:σ.own d=none){cs:List AV}(hx:Rep I σ.own θ w (a.eval x) (.agg cs)){len:Nat}
  (h1:1<=len) (hzl:cs.length=len*A8 P e) (hr:len<=room):Fd P Γ σ o a w (.vpt d len 0 0) [(d,.arr (A8 P e) t len (fun i=>(cs.drop (i*A8 P e)).take (A8 P e)))]:=by
 have hzc:=Lk (x:=.agg cs) (cs:=cs) rfl hx
 have hsz:(a.eval x).cells.size=len*A8 P e:=by rw[hzc.size,hzl]
 have hk:=M8 (w':=w.alloc (.cells (a.eval x).cells t)) (t':=some (w.heap.size,len)) (m':=len) (f':=fun i=>(cs.drop (i*A8 P e)).take (A8 P e)) (nm:=d) (s:=A8 P e) (e:=t) h.chg.rel h.chg.valid
  (fun b o hi=>by obtain⟨u,hu⟩:=h.chg.valid b o hi;exact Lo _ hu) (.inl hn) (fun b hb _=>Wm w _ hb) rfl rfl rfl (by simp) (by simp) (fun g c' hgc=>?_) (fun g c' hgc=>?_)
 ·refine J8 h hd (v:=.pointer (some ⟨w.heap.size,0,none⟩)) ?_ (by rw[Ca];exact hk) ?_
  ·simp[execOp,ho,Instr.box,newVar,newRow]
  ·rw[Ca];refine .vpt d (A8 P e) t len _ len 0 0 _ (by simp[A0];rfl) (zzL9 _) h1 (fun _=>⟨w.heap.size,len,by simp[thUp],by simp⟩)
 ·simp only[Am,It]at hgc;obtain⟨rfl,rfl⟩:=hgc
  have hchunk:∀ i',i'<len->i'*A8 P e+A8 P e<=len*A8 P e:=fun i' hi'=>by
   have:(i'+1)*A8 P e<=len*A8 P e:=Fb _ hi'
   grind
  refine⟨_,Wn w _,zzL9 _,by grind [room,maxLen],hsz,fun i' hi'=>?_,fun i' j' hi' hj'=>?_,fun j hj=>?_⟩
  ·grind
  ·have:=hchunk i' hi'
   have e1:((cs.drop (i'*A8 P e)).take (A8 P e)).getD j' .any=cs.getD (i'*A8 P e+j') .any:=by
    rw[List.getD,zzL117,if_pos hj',zzL116,List.getD]
   exact⟨hzc.one _ (by grind),fun hmono=>by rw[e1];exact hmono _ _ (hzc.rep _ (by grind))⟩
  ·obtain⟨u,hu⟩:=h.chg.valid _ _ hj;exact zzL99 _ (Qe hu)
 grind
theorem ok_buildRow(h:Rel Γ σ I θ a w)(hd:∀ d,o.dst=some d->d<Γ.n){t:TypeId}{len:Nat}{parts:Array (Nat×Operand)}(ho:o.op = .buildSlice t len parts){d:Nat}(hdst:o.dst=some d)(hn:σ.own d=none){is:List Nat}{vs:List AV}
  (hp:Sx I σ.own θ w (parts.toList.map fun p=>(p.1,a.eval p.2)) (is.zip vs)) {e:Eff} (he:aBuildRow P t len is vs d=some e):Fd P Γ σ o a w e.v e.wo:=by
 unfold aBuildRow at he
 split at he
 ·rename_i el hu
  split at he
  ·rename_i z hz
   cases hb:(Ck P el&&Nat.beq z.length (A8 P el)&&Nat.ble 1 (A8 P el)&&Nat.ble (len*A8 P el) 16777216) with
   | false=>grind
   | true=>
    simp only[hb,Ag]at he;simp only[A7]at hb;obtain⟨⟨⟨hT,hzl⟩,h1⟩,hmax⟩:=hb;have hzl:=Cb hzl;have h1:=Ku h1;have hmax:=Ku hmax
    split at he
    ·rename_i cs hfill
     simp only[Am]at he;subst he;obtain⟨i,v,hi,hv,hone,rfl⟩:=Qa hz;have hcells:=Wa (Kf (I:=I) (σ:=σ) (θ:=θ) (w:=w) hone) len (A8 P el) hzl h1;obtain⟨vs',hfi,hok⟩:=U9 _ hp hcells hfill;have hlen:=U8 _ _ _ _ hfill
     have hzl':v.cells.size=A8 P el:=by simpa using hzl
     have hcl:cs.length=len*A8 P el:=by rw[hlen];simp[hzl']
     have hlm:len<=maxLen:=by
      have:len*1<=len*A8 P el:=Nat.mul_le_mul_left _ h1;unfold maxLen;omega
     have hvs:vs'.size=len*A8 P el:=by rw[hok.size,hcl]
     have hrun:(execOp a.eval o).run P w = .ok (.value (.slice (some ⟨w.heap.size,0,none⟩) len len)) (w.alloc (.cells vs' el)):=by
      have e2:(parts.map fun x=>(x.1,a.eval x.2)).toList=parts.toList.map fun p=>(p.1,a.eval p.2):=by simp
      have hm2:¬ (len*A8 P el>2 ^ 24):=by omega
      by_cases h0:len*A8 P el=0
      ·have e3:(Array.range (len*A8 P el)).map (v.cells[· % v.cells.size]!)=(Array.range (len*A8 P el)).map ((#[]:Array Value)[· % (#[]:Array Value).size]!):=by
        rw[h0];simp
       rw[e3]at hfi;simp only[execOp,ho,Instr.buildSlice,E0,Ga,C0 hu,B1 hT,if_neg hm2,if_pos h0,He,e2,hfi]
       rfl
      ·simp only[execOp,ho,Instr.buildSlice,E0,Ga,C0 hu,B1 hT,if_neg hm2,if_neg h0,Pk hi hv,He,e2,hfi]
       rfl
     have hk:=M8 (w':=w.alloc (.cells vs' el)) (t':=some (w.heap.size,len)) (m':=len) (f':=fun i=>(cs.drop (i*A8 P el)).take (A8 P el)) (nm:=d) (s:=A8 P el) (e:=el) h.chg.rel h.chg.valid
      (fun b o hi=>by obtain⟨u,hu⟩:=h.chg.valid b o hi;exact Lo _ hu) (.inl hn) (fun b hb _=>Wm w _ hb) rfl rfl rfl (by simp) (by simp) (fun g c' hgc=>?_) (fun g c' hgc=>?_)
     ·refine J8 h hd hrun (by rw[Ca];exact hk) ?_;rw[Ca];refine .vsl d (A8 P el) el len _ (some ⟨w.heap.size,0,none⟩) len len (by simp[A0];rfl) (zzL9 _) (zzL9 _) hlm (fun h=>by cases h) (fun _=>?_);simp[thUp]
     ·simp only[Am,It]at hgc;obtain⟨rfl,rfl⟩:=hgc
      have hchunk:∀ i',i'<len->i'*A8 P el+A8 P el<=len*A8 P el:=fun i' hi'=>by
       have:(i'+1)*A8 P el<=len*A8 P el:=Fb _ hi'
       grind
      refine⟨_,Wn w _,zzL9 _,hlm,hvs,fun i' hi'=>?_,fun i' j' hi' hj'=>?_,fun j hj=>?_⟩
      ·grind
      ·have:=hchunk i' hi'
       have e1:((cs.drop (i'*A8 P el)).take (A8 P el)).getD j' .any=cs.getD (i'*A8 P el+j') .any:=by
        rw[List.getD,zzL117,if_pos hj',zzL116,List.getD]
       exact⟨hok.one _ (by omega),fun hmono=>by rw[e1];exact hmono _ _ (hok.rep _ (by omega))⟩
      ·obtain⟨u,hu⟩:=h.chg.valid _ _ hj;exact zzL99 _ (Qe hu)
     grind
    grind
  grind
 grind
theorem ok_index_arr2(h:Rel Γ σ I θ a w)(hd:∀ d,o.dst=some d->d<Γ.n){t e:TypeId}{len:Nat}{x i:Operand}(ho:o.op = .indexAddr t x i)(hu:P.underlying t=some (.array len e))(ht:Ck P e=true)
  {nm:Nat} {k:IntKind} {j:Int} (hx:Rep I σ.own θ w (a.eval x) (.vpt nm len 0 0)) (hi:Rep I σ.own θ w (a.eval i) (.int k j)) (hb:A2 j len) {sz:Nat} {e':TypeId} {m:Nat} {f:Nat->List AV} (hown:σ.own nm=some (.arr sz e' m f)) (hsz:sz=A8 P e) :
  Fd P Γ σ o a w (.vpt nm len j.toNat 0) []:=by
 obtain⟨hb0,hb1⟩:=hb;obtain⟨sz2,e2,m2,f2,ad,he,ho2,hm,hi0,hv⟩:=hx.vpt_inv;rw[hown]at ho2;simp only[Am,Own.arr.injEq]at ho2;obtain⟨rfl,rfl,rfl,rfl⟩:=ho2;subst hsz;have hi':=hi.int_inv;refine Ay h hd (v:=.pointer (some (ad.add (j.toNat*A8 P e)))) ?_ (.vpt nm _ e' m f len _ _ _ hown hm (by omega) (fun hnm=>?_))
 ·simp[execOp,ho,he,hi',Instr.indexAt,Instr.sureAddr,asIntOf,C0 hu,hb0,hb1,B1 ht]
 grind [Ov]
theorem slice_nil_inv{I:Nat->Nat->Prop}{own:Nat->Option Own}{θ:Nat->Option (Nat×Nat)}{w:World}{v:Value}{sz n:Nat}{f:Nat->List AV}{t:Tag}(h:Rep I own θ w v (.slice sz n f t)) :
  ∃ a cap,v = .slice a n cap/\(a=none->n=0):=by
 have key:∀{v:Value},RepV I w v (.slice sz n f .none)->∃ a cap,v = .slice a n cap/\(a=none->n=0):=fun h=>by
  cases h with
  | slice a _ cap _ _ us hcap hmax hz hn h1 hl hr=>grind
 cases h with
 | val v x h=>cases h with
  | slice a _ cap _ _ us hcap hmax hz hn h1 hl hr=>grind
 | exact a _ _ _ h=>grind
 | own nm _ e m a _ cap _ ho hm hv h=>grind
 | fam b i _ e m a _ cap _ hi ho hm hv h=>grind
theorem strCells_getD(s:ByteArray)(k:Nat)(hk:k<(Cl s).length):(Lib.strCells s).getD k undef = .int .u8 ((Cl s).getD k 0):=by
 grind [List.getD,zzL128,Cl,Ut,Lib.strCells]
theorem ok_appendS(h:Rel Γ σ I θ a w)(hd:∀ d,o.dst=some d->d<Γ.n){xs:Array Operand}{x y:Operand}{ts:Array TypeId}(ho:o.op = .call { callee:=.builtin .append,args:=xs,argTypes:=ts })(hxs:xs.toList=[x,y])
  {vs:List AV} {es:List (Option Own)} (hvs:RepL I σ.own θ w [a.eval x,a.eval y] vs) (hes:es=(Eh o vs).map σ.own) {d:Nat} (hdst:o.dst=some d) {e:Eff} (he:aAppendS P d ts.toList vs es=some e) (hob:∀ p∈e.ob,p) :
  Fd P Γ σ o a w e.v e.wo:=by
 obtain⟨u,v,rfl,hu,hv⟩:=hvs.two;unfold aAppendS at he
 split at he
 ·rename_i _ _ _ t t' sz n f tag s eo hts hvv
  simp only[D8,Bs]at hvv;obtain⟨rfl,rfl⟩:=hvv
  split at he
  ·rename_i el hun hun'
   generalize hcond:(u8T P el&&Nat.ble (((P.info? el).map (·.bytes)).getD 1000) 128&&(match(P.info? el).bind (·.zero) with|some (.int .u8 0)=>true|_=>false)&&(Nat.beq sz 1 || Nat.beq n 0))=cond0 at he
   cases cond0 with
   | false=>simp at he
   | true=>
    simp only[Ag]at he;simp only[A7]at hcond;obtain⟨⟨⟨h8,hby⟩,hzz⟩,hsz⟩:=hcond
    have hT:Ck P el=true/\A8 P el=1:=by
     unfold u8T at h8
     split at h8
     ·simp_all
     ·cases h8
    obtain⟨i,dd,hi,_,hsi⟩:=X1 hT.1;have hs1:i.size=1:=hsi.symm.trans hT.2
    have hz:i.zero=some (.int .u8 0):=by
     rw[hi,An]at hzz
     split at hzz
     ·assumption
     ·cases hzz
    simp only[hi,zzL97,zzL115]at hby
    have hby:=Ku hby
    obtain⟨b,hb,rfl⟩:=hv.str_inv;have hlen:(Cl b).length=b.size:=Fm b;have hV:=Yl hu.slice_val (szor hsz)
    obtain rfl:ts = #[t,t']:=by grind
    obtain rfl:xs = #[x,y]:=by grind
    have hV:RepV I w (a.eval x) (.slice i.size n f .none):=by rw[hs1];exact hV
    have hl':(Lib.strCells b).length=(Cl b).length*i.size:=by rw[Lib.strCells_length,hlen,hs1,V4]
    have hf':∀ k,k<(Cl b).length->(strF (Cl b) k).length=i.size:=fun k _=>by rw[hs1];rfl
    have hr':∀ k c,k<(Cl b).length->c<i.size->RepV I w ((Lib.strCells b).getD (k*i.size+c) undef) ((strF (Cl b) k).getD c .any):=fun k c hk hc=>by
     rw[hs1]at hc
     obtain rfl:c=0:=by omega
     rw[hs1,V4,P0,strCells_getD b k hk];exact .int _ _
    have hruns:=fun(hroom:n+b.size<=room) (ad:Option Addr) (cap:Nat) (cs:List Value) (hl:cs.length=n*i.size) (hcap:n<=cap) (hnn:ad=none->cap=0) (hc:0<n->∃ b,ad=some b/\∀ j u,cs[j]?=some u->w.cell? (b.add j)=some u)=>
     Xf (P:=P) (w:=w) (n:=n) (cap:=cap) (ad:=ad) (cs:=cs) o.type hun hun' hi hz hs1 b hl hcap hnn hc hroom hby
    rw[<- hlen,<- hb]at hruns
    have hexec:∀ v w',(Builtin.append_ #[t,t'] o.type #[a.eval x,a.eval y]).run P w = .ok v w'->(execOp a.eval o).run P w = .ok (.value v) w':=fun v w' hr=>by
     simp[execOp,ho,resolve,invoke,builtin,hr]
    split at he
    ·rename_i nm sz0 e0 m
     cases hc0:(Nat.beq sz0 1&&Nat.beq e0 el) with
     | false=>grind
     | true=>
      simp only[hc0,Ag,Am]at he;subst he;simp only[A7]at hc0;obtain rfl:=Cb hc0.1;obtain rfl:=Cb hc0.2;have hmn:m=n:=hob _ (by simp);have hroom:n+(Cl b).length<=room:=hob _ (by simp);subst hmn
      have hown:σ.own nm=some (.tok i.size e0 m):=by
       rw[hs1]
       simpa [Eh,ho] using hes.symm
      have hown1:σ.own nm=some (.tok 1 e0 m):=by rw[hown,hs1]
      have hcase:=hu.own_inv hown1;obtain⟨v',w',I',θ',hr,hk,hrep⟩:=Sz (P:=P) h o.type hun hi hz (by rw[hs1];rfl) hby hV hl' (Lib.strCells_oneCell b) hf' hr' hroom (hruns hroom) nm (fun hn=>by grind) (.inr ⟨hown,hcase⟩);rw[hs1]at hk hrep;exact J8 h hd (hexec _ _ hr) (by rw[Ca];exact hk) (by grind [Ca])
    ·simp only[Am]at he;subst he;have hroom:n+(Cl b).length<=room:=hob _ (by simp)
     have hown:σ.own d=none:=by
      simpa [Eh,ho,hdst] using hes.symm
     have hcase:=hu.exact_inv;obtain⟨v',w',I',θ',hr,hk,hrep⟩:=Sz (P:=P) h o.type hun hi hz (by rw[hs1];rfl) hby hV hl' (Lib.strCells_oneCell b) hf' hr' hroom (hruns hroom) d (fun _=>hob _ (by simp)) (.inl ⟨hown,hcase⟩);rw[hs1]at hk hrep;exact J8 h hd (hexec _ _ hr) (by rw[Ca];exact hk) (by grind [Ca])
    grind
  grind
 grind
theorem Tc{t e:TypeId}{x:Addr}(ht:P.underlying t=some (.pointer e)):(Op.equal t (.pointer (some x)) (.pointer none)).run P w = .ok false w:=by
 have h:∀ d:Nat,(Op.equalIn (d+1) t (.pointer (some x)) (.pointer none)).run P w = .ok false w:=fun d=>by simp[Op.equalIn,C0 ht]
 exact h _
theorem Tb{t e:TypeId}(ht:P.underlying t=some (.pointer e)):(Op.equal t (.pointer none) (.pointer none)).run P w = .ok true w:=by
 have h:∀ d:Nat,(Op.equalIn (d+1) t (.pointer none) (.pointer none)).run P w = .ok true w:=fun d=>by simp[Op.equalIn,C0 ht]
 exact h _
theorem Yo{t:TypeId}{ms:Array (String×TypeId)}(ht:P.underlying t=some (.interface ms)):(Op.equal t .nilIface .nilIface).run P w = .ok true w:=by
 have h:∀ d:Nat,(Op.equalIn (d+1) t .nilIface .nilIface).run P w = .ok true w:=fun d=>by simp[Op.equalIn,C0 ht]
 exact h 9999
theorem Yn{t u:TypeId}{x:Value}{ms:Array (String×TypeId)}(ht:P.underlying t=some (.interface ms)):(Op.equal t (.iface u x) .nilIface).run P w = .ok false w:=by
 have h:∀ d:Nat,(Op.equalIn (d+1) t (.iface u x) .nilIface).run P w = .ok false w:=fun d=>by simp[Op.equalIn,C0 ht]
 exact h 9999
theorem asemI_sound(h:Rel Γ σ I θ a w)(hd:∀ d,o.dst=some d->d<Γ.n){vs:List AV}(hvs:RepL I σ.own θ w (o.op.operands.toList.map a.eval) vs){es:List (Option Own)}(hes:es=(Eh o vs).map σ.own)
  {hint:Bool} {e:Eff} (he:asemI P hint o vs es=some e) (hob:∀ p∈e.ob,p):Fd P Γ σ o a w e.v e.wo:=by
 unfold asemI at he
 split at he
 ·
  rename_i t x s ho
  simp only[ho,Op.operands,C7,D7]at hvs;obtain⟨u,hu',hu⟩:=hvs.one;simp only[D8,Bs]at hu';subst hu'
  split at he
  ·rename_i d hdst hty
   simp only[Am]at he;subst he
   have hn:σ.own d=none:=by simpa [Eh,ho,hdst] using hes.symm
   obtain⟨b,hb,rfl⟩:=hu.str_inv;have k:=R5 h.chg.rel h.chg.valid hn (ob:=.stringIter b 0) (.iter b 0);refine J8 h hd (v:=.pointer (some ⟨w.heap.size,0,none⟩)) (w':=w.alloc (.stringIter b 0)) ?_ (by rw[Ca];exact k) ?_
   ·simp only[execOp,ho,hb];rw[show(Instr.range t (.string b))=Instr.range t (.string b) from rfl];simp[Instr.range,C0 hty]
   ·rw[Ca];exact .optr d d (.iter (Cl b) 0) w.heap.size 0 (by simp[A0]) (by simp[thUp])
  grind
 ·
  rename_i x nm mm l p ho
  simp only[ho,Op.operands,C7,D7]at hvs;obtain⟨u,hu',hu⟩:=hvs.one;simp only[D8,Bs]at hu';subst hu';simp only[Am]at he;subst he
  have hown:σ.own nm=some (.obj (.iter l p)):=by simpa [Eh,ho] using hes.symm
  obtain⟨y,g,c,ho',hg,hv⟩:=hu.optr_inv
  obtain⟨ob,h2,h3⟩:∃ ob,w.heap[g]?=some ob/\ObjR I σ.own θ w ob (.iter l p):=by
   rcases h.chg.rel.obj nm _ hown with⟨g',c',ob,h1,h2,h3,h4⟩|⟨h1,_⟩
   ·grind
   grind
  cases h3 with
  | iter s=>
   have hsz:(Cl s).length=s.size:=Fm s
   by_cases hp:p<s.size
   ·have hb:Nat.blt p (Cl s).length=true:=by rw[hsz,Iu];exact hp
    have k:=U5 h.chg.rel h.chg.valid hown hg (ob:=.stringIter s (p+(Utf8.decode s p).2)) (.iter s (p+(Utf8.decode s p).2))
    have es:stepL (Cl s) p=p+(Utf8.decode s p).2:=by unfold stepL;grind [decode_eq]
    rw[es,hb];refine J8 h hd (v:=.tuple #[.bool true,.int .i64 p,.int .i32 (runeL (Cl s) p)]) (w':=Yr w g (.stringIter s (p+(Utf8.decode s p).2))) ?_ (by rw[Ca];exact k) (.val _ _ (.nxt1 _ _));simp only[execOp,ho,hv];simp[Instr.next,getObj,setObj,Sem.run,h2,hp,goInt,Yr,runeL,decode_eq]
   ·have hb:Nat.blt p (Cl s).length=false:=by
     cases hq:Nat.blt p (Cl s).length with
     | false=>rfl
     | true=>rw[Iu,hsz]at hq;exact absurd hq hp
    have es:stepL (Cl s) p=p:=by unfold stepL;rw[hb,Aq]
    rw[es,hb]
    have hup:A0 σ.own nm (.obj (.iter (Cl s) p))=σ.own:=by
     funext k
     simp only[A0]
     split
     ·rename_i e;rw[e,hown]
     ·rfl
    refine J8 h hd (v:=.tuple #[.bool false]) (w':=w) (I':=I) (θ':=θ) ?_ (by rw[Ca,hup];exact .refl h.chg.rel h.chg.valid) (.val _ _ (.nxt0 _ _));simp only[execOp,ho,hv];simp[Instr.next,getObj,Sem.run,h2,hp]
 ·
  rename_i t ho
  split at he
  ·rename_i d len e0 z hdst hun hz
   have hn:σ.own d=none:=by simpa [Eh,ho,hdst] using hes.symm
   cases hb:(hint&&Ck P e0&&Nat.ble 1 len&&Nat.beq z.length (len*A8 P e0)&&Nat.ble len room) with
   | false=>grind
   | true=>
    simp only[hb,Ag,Am]at he;subst he;simp only[A7]at hb
    grind [Ku,Cb,ok_allocarr]
  grind
 ·
  rename_i t x cs ho
  simp only[ho,Op.operands,C7,D7]at hvs;obtain⟨u,hu',hu⟩:=hvs.one;simp only[D8,Bs]at hu';subst hu'
  split at he
  ·rename_i d len e0 hdst hun
   have hn:σ.own d=none:=by simpa [Eh,ho,hdst] using hes.symm
   cases hb:(hint&&Ck P e0&&Nat.ble 1 len&&Nat.beq cs.length (len*A8 P e0)&&Nat.ble len room) with
   | false=>grind
   | true=>
    simp only[hb,Ag,Am]at he;subst he;simp only[A7]at hb
    grind [Ku,ok_boxarr,Cb]
  grind
 ·
  rename_i t x y nm n k i sz e' m f ho
  simp only[ho,Op.operands,C7,D7]at hvs;obtain⟨u,v,hu',hu,hv⟩:=hvs.two;simp only[D8,Bs]at hu';obtain⟨rfl,rfl⟩:=hu'
  have hown:σ.own nm=some (.arr sz e' m f):=by simpa [Eh,ho] using hes.symm
  split at he
  ·rename_i len e0 hun
   cases hb:(Ck P e0&&Nat.beq n len&&Nat.beq sz (A8 P e0)) with
   | false=>grind
   | true=>
    simp only[hb,Ag,Eff.pure,Am]at he;subst he;simp only[A7]at hb;obtain rfl:=Cb hb.1.2;exact ok_index_arr2 h hd ho hun hb.1.1 hu hv (hob _ (by simp)) hown (Cb hb.2)
  grind
 ·
  rename_i x b i r ho
  simp only[ho,Op.operands,C7,D7]at hvs;obtain⟨u,hu',hu⟩:=hvs.one;simp only[D8,Bs]at hu';subst hu';simp only[Eff.pure,Am]at he;subst he;rcases hu.nxt_inv with⟨rfl,hv⟩|⟨rfl,hv⟩<;>exact Ay h hd (by simp[execOp,ho,hv,Instr.extract]) (.val _ _ (.bool _))
 ·
  rename_i x b i r ho
  simp only[ho,Op.operands,C7,D7]at hvs;obtain⟨u,hu',hu⟩:=hvs.one;simp only[D8,Bs]at hu';subst hu';simp only[Eff.pure,Am]at he;subst he;rcases hu.nxt_inv with⟨rfl,hv⟩|⟨hb,hv⟩
  ·exact Ay h hd (by simp[execOp,ho,hv,Instr.extract]) (.val _ _ (.int _ _))
  simp_all
 ·
  rename_i x b i r ho
  simp only[ho,Op.operands,C7,D7]at hvs;obtain⟨u,hu',hu⟩:=hvs.one;simp only[D8,Bs]at hu';subst hu';simp only[Eff.pure,Am]at he;subst he;rcases hu.nxt_inv with⟨rfl,hv⟩|⟨hb,hv⟩
  ·exact Ay h hd (by simp[execOp,ho,hv,Instr.extract]) (.val _ _ (.int _ _))
  simp_all
 ·
  rename_i xs ts sz n f tg s eo ho
  split at he
  ·rename_i d hdst
   have this:o.op.operands.toList.map a.eval=xs.toList.map a.eval:=by rw[ho];simp[Op.operands,Call.operands]
   rw[this]at hvs
   cases hl:xs.toList with
   | nil=>rw[hl]at hvs;cases hvs
   | cons x l=>
    cases l with
    | nil=>rw[hl]at hvs;trivial
    | cons y l'=>
     cases l' with
     | nil=>grind [ok_appendS]
     | cons _ _=>rw[hl]at hvs;trivial
  grind
 ·
  rename_i t x y b u' ho
  simp only[ho,Op.operands,C7,D7]at hvs;obtain⟨u,v,hu',hu,hv⟩:=hvs.two;simp only[D8,Bs]at hu';obtain⟨rfl,rfl⟩:=hu'
  split at he
  ·rename_i ms hun
   simp only[Eff.pure,Am]at he;subst he;have he:a.eval (.const .nilIface) = .nilIface:=rfl;rcases hu.err_inv with⟨rfl,hv⟩|⟨rfl,t',z,hv⟩
   ·exact Ay h hd (v:=.bool true) (by simp_all [Yo,execOp,eqGuard_nil_constR,binOp]) (.val _ _ (.bool _))
   ·exact Ay h hd (v:=.bool false) (by simp_all [eqGuard_at_iface,execOp,binOp,Yn]) (.val _ _ (.bool _))
  grind
 ·
  rename_i t x y b u' ho
  simp only[ho,Op.operands,C7,D7]at hvs;obtain⟨u,v,hu',hu,hv⟩:=hvs.two;simp only[D8,Bs]at hu';obtain⟨rfl,rfl⟩:=hu'
  split at he
  ·rename_i ms hun
   simp only[Eff.pure,Am]at he;subst he;have he:a.eval (.const .nilIface) = .nilIface:=rfl;rcases hu.err_inv with⟨rfl,hv⟩|⟨rfl,t',z,hv⟩
   ·exact Ay h hd (v:=.bool false) (by simp_all [Yo,execOp,eqGuard_nil_constR,binOp]) (.val _ _ (.bool _))
   ·exact Ay h hd (v:=.bool true) (by simp_all [eqGuard_at_iface,execOp,binOp,Yn]) (.val _ _ (.bool _))
  grind
 ·
  rename_i t x y sz n f tg u' ho
  simp only[ho,Op.operands,C7,D7]at hvs;obtain⟨u,v,hu',hu,hv⟩:=hvs.two;simp only[D8,Bs]at hu';obtain⟨rfl,rfl⟩:=hu'
  split at he
  ·rename_i e1 hun
   simp only[Eff.pure,Am]at he;subst he;obtain⟨ad,cap,hv,hn⟩:=slice_nil_inv hu
   have hg:∀ op,(eqGuard op t x (.const (.slice none 0 0)) (.slice ad n cap) (.slice none 0 0)).run P w = .ok () w:=fun op=>by cases op<;>rfl
   have he:a.eval (.const (.slice none 0 0)) = .slice none 0 0:=rfl;exact Ay h hd (v:=.bool ad.isNone) (by simp_all [execOp,run_equal_slice_nil,binOp]) (.val _ _ (.nilq _ _ _ (fun hb=>hn (by simp_all))))
  grind
 ·
  rename_i t x y sz n f tg u' ho
  simp only[ho,Op.operands,C7,D7]at hvs;obtain⟨u,v,hu',hu,hv⟩:=hvs.two;simp only[D8,Bs]at hu';obtain⟨rfl,rfl⟩:=hu'
  split at he
  ·rename_i e1 hun
   simp only[Eff.pure,Am]at he;subst he;obtain⟨ad,cap,hv,hn⟩:=slice_nil_inv hu
   have hg:∀ op,(eqGuard op t x (.const (.slice none 0 0)) (.slice ad n cap) (.slice none 0 0)).run P w = .ok () w:=fun op=>by cases op<;>rfl
   have he:a.eval (.const (.slice none 0 0)) = .slice none 0 0:=rfl;exact Ay h hd (v:=.bool (!ad.isNone)) (by simp_all [execOp,run_equal_slice_nil,binOp]) (.val _ _ (.nilq _ _ _ (fun hb=>hn (by simp_all))))
  grind
 ·
  rename_i t x y nm off u' ho
  simp only[ho,Op.operands,C7,D7]at hvs;obtain⟨u,v,hu',hu,hv⟩:=hvs.two;simp only[D8,Bs]at hu';obtain⟨rfl,rfl⟩:=hu'
  split at he
  ·rename_i e1 hun
   simp only[Eff.pure,Am]at he;subst he;have he:a.eval (.const (.pointer none)) = .pointer none:=rfl;obtain⟨_,_,g,c,_,_,hv⟩:=hu.ptr_inv
   have hg:∀ op,(eqGuard op t x (.const (.pointer none)) (.pointer (some ⟨g,off,none⟩)) (.pointer none)).run P w = .ok () w:=fun op=>by cases op<;>rfl
   exact Ay h hd (v:=.bool false) (by simp_all [execOp,Tc,binOp]) (.val _ _ (.bool _))
  grind
 ·
  rename_i t x y nm off u' ho
  simp only[ho,Op.operands,C7,D7]at hvs;obtain⟨u,v,hu',hu,hv⟩:=hvs.two;simp only[D8,Bs]at hu';obtain⟨rfl,rfl⟩:=hu'
  split at he
  ·rename_i e1 hun
   simp only[Eff.pure,Am]at he;subst he;have he:a.eval (.const (.pointer none)) = .pointer none:=rfl;obtain⟨_,_,g,c,_,_,hv⟩:=hu.ptr_inv
   have hg:∀ op,(eqGuard op t x (.const (.pointer none)) (.pointer (some ⟨g,off,none⟩)) (.pointer none)).run P w = .ok () w:=fun op=>by cases op<;>rfl
   exact Ay h hd (v:=.bool true) (by simp_all [execOp,Tc,binOp]) (.val _ _ (.bool _))
  grind
 ·
  rename_i t x y u' ho
  simp only[ho,Op.operands,C7,D7]at hvs;obtain⟨u,v,hu',hu,hv⟩:=hvs.two;simp only[D8,Bs]at hu';obtain⟨rfl,rfl⟩:=hu'
  split at he
  ·rename_i e1 hun
   simp only[Eff.pure,Am]at he;subst he;have he:a.eval (.const (.pointer none)) = .pointer none:=rfl;have hv:=hu.nilp_inv
   have hg:∀ op,(eqGuard op t x (.const (.pointer none)) (.pointer none) (.pointer none)).run P w = .ok () w:=fun op=>by cases op<;>rfl
   exact Ay h hd (v:=.bool true) (by simp_all [execOp,Tb,binOp]) (.val _ _ (.bool _))
  grind
 ·
  rename_i t x y u' ho
  simp only[ho,Op.operands,C7,D7]at hvs;obtain⟨u,v,hu',hu,hv⟩:=hvs.two;simp only[D8,Bs]at hu';obtain⟨rfl,rfl⟩:=hu'
  split at he
  ·rename_i e1 hun
   simp only[Eff.pure,Am]at he;subst he;have he:a.eval (.const (.pointer none)) = .pointer none:=rfl;have hv:=hu.nilp_inv
   have hg:∀ op,(eqGuard op t x (.const (.pointer none)) (.pointer none) (.pointer none)).run P w = .ok () w:=fun op=>by cases op<;>rfl
   exact Ay h hd (v:=.bool false) (by simp_all [execOp,Tb,binOp]) (.val _ _ (.bool _))
  grind
 ·
  rename_i t len parts ho
  cases hint with
  | false=>simp at he
  | true=>
   simp only[Ag]at he
   split at he
   ·rename_i d hdst
    have hn:σ.own d=none:=by simpa [Eh,ho,hdst] using hes.symm
    have hvs':=hvs;rw[show o.op.operands.toList.map a.eval=parts.toList.map (fun p=>a.eval p.2) by simp[ho,Op.operands,List.map_map,zzL112]]at hvs';exact ok_buildRow h hd ho hdst hn (partsOK _ _ hvs') he
   grind
 grind
end
section
variable {P:Program} {Γ:Iw} {σ:Sto} {I:Nat->Nat->Prop} {θ:Nat->Option (Nat×Nat)} {a:Act} {w:World} {o:Oper}
theorem Sb{t:TypeId}{k:IntKind}{e:TypeId}(h:mapK P t=some (k,e)):∃ kt,P.underlying t=some (.map kt e)/\P.underlying kt=some (.int k):=by
 grind [mapK]
def RepS(I:Nat->Nat->Prop)(w:World)(v:Value)(x:AV):Prop:=RepV I w v x/\x.strip=x
def Ents(R:Value->AV->Prop)(k:IntKind):Nat->List MapEntry->List (Int×AV)->Prop
 | _,[],[]=>True
 | n,e::es,(i,x)::l=>e.key = .int k i/\e.born=n/\R e.val x/\Ents R k (n+1) es l
 | _,_,_=>False
theorem ents_of{R:Value->AV->Prop}{k:IntKind}:∀(l:List (Int×AV)) (es:List MapEntry) (n:Nat),es.length=l.length->
  (∀ i,i<l.length->∃ v,es[i]?=some { key:=.int k (l.getD i (0,.any)).1,val:=v,born:=n+i }/\R v (l.getD i (0,.any)).2)->Ents R k n es l
 | [],[],n,_,_=>trivial
 | [],_::_,n,h,_=>by simp at h
 | _::_,[],n,h,_=>by simp at h
 | (i,x)::l,e::es,n,h,hr=>by
  obtain⟨v,h1,h2⟩:=hr 0 (by simp);simp at h1 h2;subst h1;refine⟨rfl,rfl,h2,ents_of l es (n+1) (by grind) fun j hj=>?_⟩;obtain⟨v',h3,h4⟩:=hr (j+1) (by grind)
  grind
theorem of_ents{R:Value->AV->Prop}{k:IntKind}:∀(l:List (Int×AV)) (es:List MapEntry) (n:Nat),Ents R k n es l->es.length=l.length /\
  ∀ i,i<l.length->∃ v,es[i]?=some { key:=.int k (l.getD i (0,.any)).1,val:=v,born:=n+i }/\R v (l.getD i (0,.any)).2
 | [],[],n,_=>⟨rfl,fun i hi=>absurd hi (Rl _)⟩
 | [],_::_,n,h=>h.elim
 | _::_,[],n,h=>h.elim
 | (i,x)::l,e::es,n,h=>by
  obtain⟨h1,h2,h3,h4⟩:=h;obtain⟨h5,h6⟩:=of_ents l es (n+1) h4;refine⟨by simp[h5],fun j hj=>?_⟩
  cases j with
  | zero=>exact⟨e.val,by cases e;simp_all,by grind⟩
  | succ j=>
   grind
theorem objR_map{own:Nat->Option Own}{es:Array MapEntry}{nn:Bool}{k:IntKind}{l:List (Int×AV)}{n:Nat}(h:ObjR I own θ w (.map es n) (.map nn k l)):n=l.length/\Ents (RepS I w) k 0 es.toList l:=by
 cases h with
 | map es nn k l hs hr=>exact⟨rfl,ents_of l es.toList 0 (by grind) fun i hi=>by obtain⟨v,h1,h2⟩:=hr i hi;exact⟨v,by grind,h2⟩⟩
theorem map_objR{own:Nat->Option Own}{es:Array MapEntry}{k:IntKind}{l:List (Int×AV)}(nn:Bool)(h:Ents (RepS I w) k 0 es.toList l):ObjR I own θ w (.map es l.length) (.map nn k l):=by
 obtain⟨h1,h2⟩:=of_ents l es.toList 0 h
 exact .map es nn k l (by grind) fun i hi=>by obtain⟨v,h3,h4⟩:=h2 i hi;exact⟨v,by grind,h4⟩
theorem findNow_ents{R:Value->AV->Prop}{k:IntKind}{key:Int}{z:AV}{zv:Value}(hz:R zv z):∀(l:List (Int×AV)) (es:List MapEntry) (n m:Nat),Ents R k n es l->
  (Gi l key=true/\∃ i v,Instr.findNow (.int k) (.int k key) es m=some (some (m+i,v))/\i<es.length/\R v (H4 z l key))\/(Gi l key=false/\Instr.findNow (.int k) (.int k key) es m=some none/\H4 z l key=z)
 | [],[],n,m,_=>.inr ⟨rfl,rfl,rfl⟩
 | [],_::_,n,m,h=>h.elim
 | _::_,[],n,m,h=>h.elim
 | (i,x)::l,e::es,n,m,h=>by
  obtain⟨h1,h2,h3,h4⟩:=h
  have hs:Instr.sameNow (.int k) (.int k key) e.key=some (key==i):=by rw[h1];simp[Instr.sameNow]
  by_cases hk:key=i
  ·subst hk;refine .inl ⟨by simp[Gi],0,e.val,by simp[Instr.findNow,hs],by simp,?_⟩
   grind [H4]
  ·have hb:(key==i)=false:=zzL32.2 hk;rcases findNow_ents (key:=key) hz l es (n+1) (m+1) h4 with⟨g1,j,v,g2,g3,g4⟩|⟨g1,g2,g3⟩
   ·refine .inl ⟨by grind [Gi],j+1,v,?_,by grind,?_⟩
    ·grind [Instr.findNow]
    grind [H4]
   grind [H4,Instr.findNow,Gi]
theorem ents_put{R:Value->AV->Prop}{k:IntKind}{key:Int}{x:AV}{v:Value}(hv:R v x):∀(l:List (Int×AV)) (es:List MapEntry) (n m:Nat),Ents R k n es l->
  (Gi l key=true/\(Mu l key x).length=l.length/\∃ i u,Instr.findNow (.int k) (.int k key) es m=some (some (m+i,u))/\(∃ b,es[i]?=some b/\b.key = .int k key)/\Ents R k n (es.modify i fun e=>{ e with key:=.int k key,val:=v }) (Mu l key x)) \/
  (Gi l key=false/\(Mu l key x).length=l.length+1/\Instr.findNow (.int k) (.int k key) es m=some none/\Ents R k n (es++[{ key:=.int k key,val:=v,born:=n+l.length }]) (Mu l key x))
 | [],[],n,m,_=>.inr ⟨rfl,rfl,rfl,⟨rfl,rfl,hv,trivial⟩⟩
 | [],_::_,n,m,h=>h.elim
 | _::_,[],n,m,h=>h.elim
 | (i,y)::l,e::es,n,m,h=>by
  obtain⟨h1,h2,h3,h4⟩:=h
  have hs:Instr.sameNow (.int k) (.int k key) e.key=some (key==i):=by rw[h1];simp[Instr.sameNow]
  by_cases hk:key=i
  ·subst hk
   have hb:(key==key)=true:=by simp
   refine .inl ⟨by simp[Gi],by simp[Mu],0,e.val,by simp[Instr.findNow,hs],⟨e,by simp,h1⟩,?_⟩;simp only[Mu,hb,Ag,List.modify_zero_cons]
   trivial
  ·have hb:(key==i)=false:=zzL32.2 hk;rcases ents_put (key:=key) hv l es (n+1) (m+1) h4 with⟨g1,gl,j,u,g2,g3,g4⟩|⟨g1,gl,g2,g4⟩
   ·refine .inl ⟨by grind [Gi],by grind [Mu],j+1,u,?_,by grind,?_⟩
    ·grind [Instr.findNow]
    ·simp only[Mu,hb,Aq,List.modify_succ_cons]
     trivial
   ·refine .inr ⟨by grind [Gi],by grind [Mu],by grind [Instr.findNow],?_⟩;simp only[Mu,hb,Aq,zzL92,Wo]
    have e1:n+(l.length+1)=n+1+l.length:=by omega
    rw[e1]
    trivial
theorem ents_len{R:Value->AV->Prop}{k:IntKind}{l:List (Int×AV)}{es:List MapEntry}{n:Nat}(h:Ents R k n es l):es.length=l.length:=(of_ents l es n h).1
theorem Pj{b:Bool}{kt:TypeId}{k:IntKind}{key:Int}(hk:P.underlying kt=some (.int k)):(Instr.checkKey b 10000 kt (.int k key)).run P w = .ok () w:=by
 have h:∀ n:Nat,(Instr.checkKey b (n+1) kt (.int k key)).run P w = .ok () w:=fun n=>by simp[Instr.checkKey,C0 hk]
 grind
theorem P8{g:Nat}{es:Array MapEntry}{n:Nat}(h:w.heap[g]?=some (.map es n)):(getObj g).run P w = .ok (.map es n) w:=by simp[getObj,Sem.run,h]
theorem Qv{kt:TypeId}{k:IntKind}{key:Int}(hk:P.underlying kt=some (.int k)){es:List MapEntry}{r:Option (Nat×Value)}(hf:Instr.findNow (.int k) (.int k key) es 0=some r):(Instr.findKey kt (.int k key) es).run P w = .ok r w:=by
 simp[Instr.findKey,C0 hk,hf]
theorem M3{t kt e0:TypeId}{k:IntKind}{i:Int}{ok:Bool}{g:Nat}{es:Array MapEntry}{n:Nat}{r:Option (Nat×Value)}{zv:Value}(hm:P.underlying t=some (.map kt e0))(hkt:P.underlying kt=some (.int k))(hz:(zeroValue e0).run P w = .ok zv w)
  (h2:w.heap[g]?=some (.map es n)) (hf:Instr.findNow (.int k) (.int k i) es.toList 0=some r) :
  (Instr.lookup t (.map (some g)) (.int k i) ok).run P w = .ok (if ok then .tuple #[match r with|some (_,v)=>v|none=>zv,.bool r.isSome] else match r with|some (_,v)=>v|none=>zv) w:=by
 cases r with
 | none=>cases ok<;>simp[Instr.lookup,C0 hm,P8 h2,Pj hkt,Qv hkt hf,hz]
 | some r=>cases ok<;>simp[Instr.lookup,C0 hm,P8 h2,Pj hkt,Qv hkt hf,hz]
theorem Yp{t kt e0:TypeId}{k:IntKind}{i:Int}{ok:Bool}{zv:Value}(hm:P.underlying t=some (.map kt e0))(hkt:P.underlying kt=some (.int k))(hz:(zeroValue e0).run P w = .ok zv w) :
  (Instr.lookup t (.map none) (.int k i) ok).run P w = .ok (if ok then .tuple #[zv,.bool false] else zv) w:=by
 have hf:Instr.findNow (.int k) (.int k i) [] 0=some none:=rfl
 simp_all [Instr.lookup,Qv,Pj,C0]
theorem keyThat{k:IntKind}{i:Int}:(Instr.keyThatStays (.int k i) (.int k i)).run P w = .ok (.int k i) w:=by
 simp[Instr.keyThatStays,Instr.sameBits]
theorem Yq{t kt e0:TypeId}{k:IntKind}{i:Int}{g:Nat}{es:Array MapEntry}{n:Nat}{v:Value}(hm:P.underlying t=some (.map kt e0))(hkt:P.underlying kt=some (.int k))
  (h2:w.heap[g]?=some (.map es n)) (hf:Instr.findNow (.int k) (.int k i) es.toList 0=some none) :
  (Instr.mapUpdate t (.map (some g)) (.int k i) v).run P w = .ok () (Yr w g (.map (es.push { key:=.int k i,val:=v,born:=n }) (n+1))):=by
 simp[Instr.mapUpdate,C0 hm,P8 h2,Pj hkt,Qv hkt hf];simp[setObj,Sem.run,Yr,h2]
theorem run_update_old{t kt e0:TypeId}{k:IntKind}{i:Int}{g j:Nat}{es:Array MapEntry}{n:Nat}{v u:Value}(hm:P.underlying t=some (.map kt e0))(hkt:P.underlying kt=some (.int k))
  (h2:w.heap[g]?=some (.map es n)) (hf:Instr.findNow (.int k) (.int k i) es.toList 0=some (some (j,u))) {b:MapEntry} (hb:es[j]?=some b) (hbk:b.key = .int k i) :
  (Instr.mapUpdate t (.map (some g)) (.int k i) v).run P w = .ok () (Yr w g (.map (es.modify j fun e=>{ e with key:=.int k i,val:=v }) n)):=by
 simp[Instr.mapUpdate,C0 hm,P8 h2,Pj hkt,Qv hkt hf,hb,hbk,keyThat];simp[setObj,Sem.run,Yr,h2]
theorem run_len_map{t kt e0 ty:TypeId}{g:Nat}{es:Array MapEntry}{n:Nat}(hm:P.underlying t=some (.map kt e0))(h2:w.heap[g]?=some (.map es n)) :
  (Builtin.len_ #[t] ty #[.map (some g)]).run P w = .ok (goInt es.size) w:=by
 simp[Builtin.len_,C0 hm,P8 h2]
theorem run_len_nil{t kt e0 ty:TypeId}(hm:P.underlying t=some (.map kt e0)) :
  (Builtin.len_ #[t] ty #[.map none]).run P w = .ok (goInt 0) w:=by
 simp[Builtin.len_,C0 hm]
theorem zeroV_inv{P:Program}{t:TypeId}{z:AV}(h:zeroV P t=some z):∃ i v,P.info? t=some i/\i.zero=some v/\z=(AV.ofValue v).strip:=by
 unfold zeroV at h
 cases hi:P.info? t with
 | none=>grind
 | some i=>
  rw[hi]at h
  cases hz:i.zero with
  | none=>grind
  | some v=>grind
theorem map_at(h:Rel Γ σ I θ a w){nm:Nat}{nn:Bool}{k:IntKind}{l:List (Int×AV)}(hown:σ.own nm=some (.obj (.map nn k l))) :
  (∃ g c es,θ nm=some (g,c)/\w.heap[g]?=some (.map es l.length)/\Ents (RepS I w) k 0 es.toList l)\/(θ nm=none/\nn=false/\l=[]):=by
 rcases h.chg.rel.obj nm _ hown with⟨g,c,ob,h1,h2,h3,_⟩|⟨h1,h2⟩
 ·cases ob with
  | map es n=>obtain⟨rfl,he⟩:=objR_map h3;grind
  | _=>cases h3
 ·cases nn<;>cases l<;>first|exact .inr ⟨h1,rfl,rfl⟩|cases h2
theorem mhas_anyV{V:Type}(k:Int):∀ l:List (Int×V),Gi l k=l.any fun q=>k==q.1
 | []=>rfl
 | (a,b)::l=>by rw[List.any_cons,<- mhas_anyV k l];rfl
theorem mhas_perm{V:Type}{a b:List (Int×V)}(h:a.Perm b){k:Int}:Gi a k=Gi b k:=by
 grind [mhas_anyV]
theorem mget_mem{V:Type}{z v:V}{k:Int}:∀{l:List (Int×V)},(l.map (·.1)).Nodup->(k,v)∈l->H4 z l k=v
 | [],_,h=>by cases h
 | (a,b)::l,hn,h=>by
  simp only[C7,zzL110]at hn;simp only[H4];rcases zzL28.1 h with h'|h'
  ·grind
  ·have:(k==a)=false:=by
    rw[zzL32];rintro rfl;exact hn.1 (zzL27.2 ⟨(k,v),h',rfl⟩)
   rw[this];exact mget_mem hn.2 h'
theorem mget_none{V:Type}{z:V}{k:Int}:∀{l:List (Int×V)},Gi l k=false->H4 z l k=z
 | [],_=>rfl
 | (a,b)::l,h=>by
  simp only[Gi,zzL120]at h;simp only[H4,h.1];exact mget_none h.2
theorem mget_perm{V:Type}{a b:List (Int×V)}(h:a.Perm b)(hn:(b.map (·.1)).Nodup){z:V}{k:Int}:H4 z a k=H4 z b k:=by
 grind [mget_mem,mhas_anyV,mget_none,mhas_perm,Gi,List.any_eq_true]
theorem pmap_at(h:Rel Γ σ I θ a w){nm:Nat}{nn:Bool}{k:IntKind}{l:List (Int×AV)}(hown:σ.own nm=some (.obj (.pmap nn k l))) :
  (∃ g c es l0,θ nm=some (g,c)/\w.heap[g]?=some (.map es l0.length)/\Ents (RepS I w) k 0 es.toList l0/\l0.Perm l/\(l.map (·.1)).Nodup)\/(θ nm=none/\nn=false/\l=[]):=by
 rcases h.chg.rel.obj nm _ hown with⟨g,c,ob,h1,h2,h3,_⟩|⟨h1,h2⟩
 ·cases h3 with
  | pmap es nn k l0 l hp hk hs hr=>exact .inl ⟨g,c,es,l0,h1,h2,ents_of l0 es.toList 0 (by grind) fun i hi=>by obtain⟨v,h1,h2⟩:=hr i hi;exact⟨v,by grind,h2⟩,hp,hk⟩
 ·cases nn<;>cases l<;>first|exact .inr ⟨h1,rfl,rfl⟩|cases h2
theorem miter_inv{own:Nat->Option Own}{ob:Obj}{m:AV}{n:Nat}{s:List Nat}(h:ObjR I own θ w ob (.miter m n s)):∃ r c seen,ob = .mapIter r n seen c/\seen.toList.reverse=s/\c=n/\Rep I own θ w (.map r) m:=by
 cases h with
 | miter r m n c seen hc hr=>grind
theorem asemM_sound(h:Rel Γ σ I θ a w)(hd:∀ d,o.dst=some d->d<Γ.n){vs:List AV}(hvs:RepL I σ.own θ w (o.op.operands.toList.map a.eval) vs){es:List (Option Own)}(hes:es=(Eh o vs).map σ.own)
  {e:Eff} (he:asemM P o vs es=some e) (hob:∀ p∈e.ob,p):Fd P Γ σ o a w e.v e.wo:=by
 unfold asemM at he
 split at he
 ·
  rename_i t ho
  split at he
  ·rename_i d k e0 hdst hk
   simp only[Am]at he;subst he
   have hn:σ.own d=none:=by simpa [Eh,ho,hdst] using hes.symm
   have hc:ObjR I σ.own θ w (.map #[] 0) (.map true k []):=map_objR (es:=#[]) (l:=[]) true trivial;have kc:=R5 h.chg.rel h.chg.valid hn hc;refine J8 h hd (v:=.map (some w.heap.size)) (w':=w.alloc (.map #[] 0)) ?_ (by rw[Ca];exact kc) ?_
   ·simp[execOp,ho,Instr.makeMap]
   ·rw[Ca];have:=Rep.omap (I:=I) (own:=A0 σ.own d (.obj (.map true k []))) (θ:=thUp θ d (some (w.heap.size,0))) (w:=w.alloc (.map #[] 0)) d (.map true k []) (by simp[A0])
    grind [thUp]
  grind
 ·
  rename_i t x ki ni ho
  simp only[ho,Op.operands,C7,D7]at hvs;obtain⟨u,hu',hu⟩:=hvs.one;simp only[D8,Bs]at hu';subst hu'
  split at he
  ·rename_i d k e0 hdst hk
   simp only[Am]at he;subst he
   have hn:σ.own d=none:=by simpa [Eh,ho,hdst] using hes.symm
   have hc:ObjR I σ.own θ w (.map #[] 0) (.map true k []):=map_objR (es:=#[]) (l:=[]) true trivial;have kc:=R5 h.chg.rel h.chg.valid hn hc;obtain⟨kt,hm,hkt⟩:=Sb hk;have hx:=hu.int_inv;refine J8 h hd (v:=.map (some w.heap.size)) (w':=w.alloc (.map #[] 0)) ?_ (by rw[Ca];exact kc) ?_
   ·simp_all [asInt,execOp,asIntOf,Instr.makeMap,C0]
   ·rw[Ca];have:=Rep.omap (I:=I) (own:=A0 σ.own d (.obj (.map true k []))) (θ:=thUp θ d (some (w.heap.size,0))) (w:=w.alloc (.map #[] 0)) d (.map true k []) (by simp[A0])
    grind [thUp]
  grind
 ·
  rename_i t x ix ok nm k' i nn k l ho
  simp only[ho,Op.operands,C7,D7]at hvs;obtain⟨u,v,hu',hu,hv⟩:=hvs.two;simp only[D8,Bs]at hu';obtain⟨rfl,rfl⟩:=hu'
  have hown:σ.own nm=some (.obj (.map nn k l)):=by simpa [Eh,ho] using hes.symm
  split at he
  ·rename_i k0 e0 hk
   cases hb:(kEq k k'&&kEq k k0) with
   | false=>grind
   | true=>
    simp only[hb,Ag]at he;simp only[A7]at hb;obtain rfl:=Oh hb.1;obtain rfl:=Oh hb.2
    split at he
    ·rename_i z hz
     simp only[Eff.pure,Am]at he;subst he;obtain⟨ti,zv,hi,hzv,rfl⟩:=zeroV_inv hz;obtain⟨kt,hm,hkt⟩:=Sb hk;have hix:=hv.int_inv;obtain⟨_,_,hx⟩:=hu.omap_inv;have hz0:RepS I w zv (AV.ofValue zv).strip:=⟨(S9 (I:=I) (σ:=σ) (θ:=θ) (w:=w) zv).strip,Qx _⟩;have hrz:=Pk (P:=P) hi hzv w
     have done:∀(r:Value) (q:Bool),RepS I w r (H4 (AV.ofValue zv).strip l i)->q=Gi l i->(Instr.lookup t (a.eval x) (a.eval ix) ok).run P w = .ok (if ok then .tuple #[r,.bool q] else r) w->Fd P Γ σ o a w (bif ok then .tuple [H4 (AV.ofValue zv).strip l i,.bool (Gi l i)] else H4 (AV.ofValue zv).strip l i) []:=fun r q h1 h2 h3=>by
      subst h2
      cases ok with
      | false=>exact Ay h hd (v:=r) (by simp[execOp,ho,h3]) (.val _ _ h1.1)
      | true=>
       refine Ay h hd (v:=.tuple #[r,.bool (Gi l i)]) (by simp[execOp,ho,h3]) (.tuple _ _ rfl fun j hj=>?_)
       have hj:j=0\/j=1:=by simp at hj;omega
       rcases hj with rfl|rfl
       ·exact .val _ _ h1.1
       ·exact .val _ _ (.bool _)
     rcases map_at h hown with⟨g,c,es',h1,h2,h3⟩|⟨h1,h2,h3⟩
     ·rw[h1]at hx;rcases findNow_ents (key:=i) hz0 l es'.toList 0 0 h3 with⟨g1,j,r,g2,g3,g4⟩|⟨g1,g2,g3⟩
      ·refine done r true g4 g1.symm ?_;rw[hx,hix];exact M3 hm hkt hrz h2 g2
      ·refine done zv false (by grind) g1.symm ?_;rw[hx,hix];exact M3 hm hkt hrz h2 g2
     ·rw[h1]at hx;subst h3;refine done zv false hz0 rfl ?_
      grind [Yp]
    grind
  grind
 ·
  rename_i t x y z nm k' i xv k l ho
  simp only[ho,Op.operands,C7,D7]at hvs;obtain⟨u,v,r,hu',hu,hv,hr⟩:=hvs.three;simp only[D8,Bs]at hu';obtain⟨rfl,rfl,rfl⟩:=hu'
  have hown:σ.own nm=some (.obj (.map true k l)):=by simpa [Eh,ho] using hes.symm
  split at he
  ·rename_i k0 e0 hk
   cases hb:(kEq k k'&&kEq k k0) with
   | false=>grind
   | true=>
    simp only[hb,Ag,Am]at he;subst he;simp only[A7]at hb;obtain rfl:=Oh hb.1;obtain rfl:=Oh hb.2;obtain⟨kt,hm,hkt⟩:=Sb hk;have hix:=hv.int_inv;obtain⟨_,_,hx⟩:=hu.omap_inv;rcases map_at h hown with⟨g,c,es',h1,h2,h3⟩|⟨_,h2,_⟩
    ·rw[h1]at hx;rcases ents_put (key:=i) (hv:=⟨hr.strip,Qx _⟩) l es'.toList 0 0 h3 with⟨g1,gl,j,u,g2,⟨b,hb1,hb2⟩,g4⟩|⟨g1,gl,g2,g4⟩
     ·rw[Hy]at g2
      have hc:ObjR I σ.own θ w (.map (es'.modify j fun e=>{ e with key:=.int k i,val:=a.eval z }) l.length) (.map true k (Mu l i xv.strip)):=by
       rw[<- gl];exact map_objR true (by rw[Array.toList_modify];exact g4)
      have kc:=U5 h.chg.rel h.chg.valid hown h1 hc;refine Zu h hd (w':=Yr w g (.map (es'.modify j fun e=>{ e with key:=.int k i,val:=a.eval z }) l.length)) ?_ (by rw[Ca];exact kc);have hrun:=run_update_old (P:=P) (v:=a.eval z) hm hkt h2 g2 (by grind) hb2
      simp_all [execOp]
     ·have hc:ObjR I σ.own θ w (.map (es'.push { key:=.int k i,val:=a.eval z,born:=l.length }) (l.length+1)) (.map true k (Mu l i xv.strip)):=by
       rw[<- gl];rw[Hy]at g4;exact map_objR true (by simpa using g4)
      have kc:=U5 h.chg.rel h.chg.valid hown h1 hc;refine Zu h hd (w':=Yr w g (.map (es'.push { key:=.int k i,val:=a.eval z,born:=l.length }) (l.length+1))) ?_ (by rw[Ca];exact kc);have hrun:=Yq (P:=P) (v:=a.eval z) hm hkt h2 g2
      simp_all [execOp]
    ·cases h2
  grind
 ·
  rename_i t x mm nn k l ho
  simp only[ho,Op.operands,C7,D7]at hvs;obtain⟨u,hu',hu⟩:=hvs.one;simp only[D8,Bs]at hu';subst hu'
  split at he
  ·rename_i d ke hdst hk
   simp only[Am]at he;subst he
   have hns:σ.own d=none/\σ.own mm=some (.obj (.map nn k l)):=by
    have:=hes.symm
    simpa [Eh,ho,hdst] using this
   obtain⟨hn,hown⟩:=hns;obtain⟨kt,hm,hkt⟩:=Sb (k:=ke.1) (e:=ke.2) hk;obtain⟨_,_,hx⟩:=hu.omap_inv
   have fin:∀ r:Option Nat,(θ mm).map (·.1)=r->(Instr.range t (.map r)).run P w = .ok (.pointer (some ⟨w.heap.size,0,none⟩)) (w.alloc (.mapIter r l.length #[] l.length))->Fd P Γ σ o a w (.optr d mm) [(d,.obj (.miter (.omap mm) l.length []))]:=fun r hr hrun=>by
    have hc:ObjR I σ.own θ w (.mapIter r l.length #[] l.length) (.miter (.omap mm) l.length []):=.miter r _ _ _ #[] rfl (by grind);have kc:=R5 h.chg.rel h.chg.valid hn hc;refine J8 h hd (v:=.pointer (some ⟨w.heap.size,0,none⟩)) (w':=w.alloc (.mapIter r l.length #[] l.length)) ?_ (by rw[Ca];exact kc) ?_
    ·simp_all [execOp]
    ·rw[Ca];exact .optr d mm _ w.heap.size 0 (by simp[A0];rfl) (by simp[thUp])
   rcases map_at h hown with⟨g,c,es',h1,h2,h3⟩|⟨h1,h2,h3⟩
   ·refine fin (some g) (by grind) ?_;simp[Instr.range,C0 hm,P8 h2]
   ·subst h3;refine fin none (by rw[h1];rfl) ?_;simp[Instr.range,C0 hm]
  grind
 ·
  rename_i x nm mm m' n i s nn k l ho
  simp only[ho,Op.operands,C7,D7]at hvs;obtain⟨u,hu',hu⟩:=hvs.one;simp only[D8,Bs]at hu';subst hu'
  have hns:σ.own nm=some (.obj (.miter (.omap m') n (i::s)))/\σ.own mm=some (.obj (.map nn k l)):=by
   have:=hes.symm
   simpa [Eh,ho] using this
  obtain⟨hit,hown⟩:=hns
  cases hb:Nat.beq m' mm with
  | false=>grind
  | true=>
   rw[hb]at he;simp only[Ag,Am]at he;subst he;obtain rfl:=Cb hb;have hn:n=l.length:=hob (n=l.length) (by simp);have hi:i<l.length:=hob (i<l.length) (by simp);obtain⟨_,g,c,ho',hg,hv⟩:=hu.optr_inv
   obtain⟨ob,h2,h3⟩:∃ ob,w.heap[g]?=some ob/\ObjR I σ.own θ w ob (.miter (.omap m') n (i::s)):=by
    rcases h.chg.rel.obj nm _ hit with⟨g',c',ob,h1,h2,h3,h4⟩|⟨h1,_⟩
    ·grind
    grind
   obtain⟨r,cc,seen,rfl,hseen,hcc,hr⟩:=miter_inv h3;subst hcc;obtain⟨_,_,hx⟩:=hr.omap_inv;simp only[Value.map.injEq]at hx;rcases map_at h hown with⟨gm,c',es',h4,h5,h6⟩|⟨_,_,h7⟩
   ·rw[h4]at hx;subst hx;obtain⟨hlen,hent⟩:=of_ents l es'.toList 0 h6;obtain⟨v,e1,e2⟩:=hent i hi
    have hback:seen.back?=some i:=by
     rw[<- Array.getLast?_toList,<- List.head?_reverse,hseen];rfl
    have hfind:es'.find? (·.born==i)=some { key:=.int k (l.getD i (0,.any)).1,val:=v,born:=0+i }:=by
     have hmem:({ key:=.int k (l.getD i (0,.any)).1,val:=v,born:=0+i }:MapEntry)∈es'.toList:=List.mem_of_getElem? e1
     have hnd:(es'.toList.map (·.born)).Nodup:=by
      rw[List.nodup_iff_pairwise_ne,List.pairwise_map,List.pairwise_iff_getElem];intro p q hp hq hpq he;obtain⟨_,p1,_⟩:=hent p (by omega);obtain⟨_,q1,_⟩:=hent q (by omega);rw[Ut hp]at p1;rw[Ut hq]at q1;rw[OI p1,OI q1]at he;simp only at he;omega
     have:=find_born _ es'.toList hnd hmem;rw[<- Array.find?_toList]
     simpa using this
    refine Ay h hd (v:=.tuple #[.int k (l.getD i (0,.any)).1,v]) ?_ (.tuple _ _ rfl fun j hj=>?_)
    ·simp only[execOp,ho,hv];simp[Instr.entry,getObj,Sem.run,h2,h5,hback,hfind,hn]
    ·have hj:j=0\/j=1:=by simp at hj;omega
     rcases hj with rfl|rfl
     ·exact .val _ _ (.int _ _)
     ·exact .val _ _ e2.1
   grind
 ·
  rename_i xs ts nm nn k l ho
  split at he
  ·rename_i t hts
   split at he
   ·rename_i kt e0 hm
    simp only[Eff.pure,Am]at he;subst he
    have this:o.op.operands.toList.map a.eval=xs.toList.map a.eval:=by rw[ho];simp[Op.operands,Call.operands]
    rw[this]at hvs
    cases hl:xs.toList with
    | nil=>rw[hl]at hvs;cases hvs
    | cons x r=>
     rw[hl]at hvs
     cases r with
     | cons y r=>trivial
     | nil=>
      obtain⟨u,hu',hu⟩:=hvs.one;simp only[D8,Bs]at hu';subst hu'
      obtain rfl:xs = #[x]:=by grind
      obtain rfl:ts = #[t]:=by grind
      have hown:σ.own nm=some (.obj (.map nn k l)):=by simpa [Eh,ho] using hes.symm
      obtain⟨_,_,hx⟩:=hu.omap_inv;rcases map_at h hown with⟨g,c,es',h1,h2,h3⟩|⟨h1,h2,h3⟩
      ·rw[h1]at hx;have hrun:=fun ty=>run_len_map (P:=P) (ty:=ty) hm h2;have hlen:=ents_len h3;refine Ay h hd (v:=goInt es'.size) ?_ ?_
       ·simp[execOp,ho,hx,resolve,invoke,builtin,hrun]
       ·have:es'.size=l.length:=by simpa using hlen
        rw[this];exact .val _ _ (.int _ _)
      ·rw[h1]at hx;subst h3;have hrun:=fun ty=>run_len_nil (P:=P) (w:=w) (ty:=ty) hm;exact Ay h hd (v:=goInt 0) (by simp[execOp,ho,hx,resolve,invoke,builtin,hrun]) (.val _ _ (.int _ _))
   grind
  grind
 ·
  rename_i t x ix ok nm k' i nn k l ho
  simp only[ho,Op.operands,C7,D7]at hvs;obtain⟨u,v,hu',hu,hv⟩:=hvs.two;simp only[D8,Bs]at hu';obtain⟨rfl,rfl⟩:=hu'
  have hown:σ.own nm=some (.obj (.pmap nn k l)):=by simpa [Eh,ho] using hes.symm
  split at he
  ·rename_i k0 e0 hk
   cases hb:(kEq k k'&&kEq k k0) with
   | false=>grind
   | true=>
    simp only[hb,Ag]at he;simp only[A7]at hb;obtain rfl:=Oh hb.1;obtain rfl:=Oh hb.2
    split at he
    ·rename_i z hz
     simp only[Eff.pure,Am]at he;subst he;obtain⟨ti,zv,hi,hzv,rfl⟩:=zeroV_inv hz;obtain⟨kt,hm,hkt⟩:=Sb hk;have hix:=hv.int_inv;obtain⟨_,_,hx⟩:=hu.omap_inv;have hz0:RepS I w zv (AV.ofValue zv).strip:=⟨(S9 (I:=I) (σ:=σ) (θ:=θ) (w:=w) zv).strip,Qx _⟩;have hrz:=Pk (P:=P) hi hzv w
     have done:∀(r:Value) (q:Bool),RepS I w r (H4 (AV.ofValue zv).strip l i)->q=Gi l i->(Instr.lookup t (a.eval x) (a.eval ix) ok).run P w = .ok (if ok then .tuple #[r,.bool q] else r) w->Fd P Γ σ o a w (bif ok then .tuple [H4 (AV.ofValue zv).strip l i,.bool (Gi l i)] else H4 (AV.ofValue zv).strip l i) []:=fun r q h1 h2 h3=>by
      subst h2
      cases ok with
      | false=>exact Ay h hd (v:=r) (by simp[execOp,ho,h3]) (.val _ _ h1.1)
      | true=>
       refine Ay h hd (v:=.tuple #[r,.bool (Gi l i)]) (by simp[execOp,ho,h3]) (.tuple _ _ rfl fun j hj=>?_)
       have hj:j=0\/j=1:=by simp at hj;omega
       rcases hj with rfl|rfl
       ·exact .val _ _ h1.1
       ·exact .val _ _ (.bool _)
     rcases pmap_at h hown with⟨g,c,es',l0,h1,h2,h3,hp,hnd⟩|⟨h1,h2,h3⟩
     ·rw[h1]at hx;rcases findNow_ents (key:=i) hz0 l0 es'.toList 0 0 h3 with⟨g1,j,r,g2,g3,g4⟩|⟨g1,g2,g3⟩
      ·refine done r true (by grind [mget_perm]) (by grind [mhas_perm]) ?_;rw[hx,hix];exact M3 hm hkt hrz h2 g2
      ·refine done zv false (by grind [mget_perm]) (by grind [mhas_perm]) ?_;rw[hx,hix];exact M3 hm hkt hrz h2 g2
     ·rw[h1]at hx;subst h3;refine done zv false hz0 rfl ?_
      grind [Yp]
    grind
  grind
 ·
  rename_i xs ts nm nn k l ho
  split at he
  ·rename_i t hts
   split at he
   ·rename_i kt e0 hm
    simp only[Eff.pure,Am]at he;subst he
    have this:o.op.operands.toList.map a.eval=xs.toList.map a.eval:=by rw[ho];simp[Op.operands,Call.operands]
    rw[this]at hvs
    cases hl:xs.toList with
    | nil=>rw[hl]at hvs;cases hvs
    | cons x r=>
     rw[hl]at hvs
     cases r with
     | cons y r=>trivial
     | nil=>
      obtain⟨u,hu',hu⟩:=hvs.one;simp only[D8,Bs]at hu';subst hu'
      obtain rfl:xs = #[x]:=by grind
      obtain rfl:ts = #[t]:=by grind
      have hown:σ.own nm=some (.obj (.pmap nn k l)):=by simpa [Eh,ho] using hes.symm
      obtain⟨_,_,hx⟩:=hu.omap_inv;rcases pmap_at h hown with⟨g,c,es',l0,h1,h2,h3,hp,hnd⟩|⟨h1,h2,h3⟩
      ·rw[h1]at hx;have hrun:=fun ty=>run_len_map (P:=P) (ty:=ty) hm h2;have hlen:=ents_len h3;refine Ay h hd (v:=goInt es'.size) ?_ ?_
       ·simp[execOp,ho,hx,resolve,invoke,builtin,hrun]
       ·have:es'.size=l.length:=by rw[<- hp.length_eq];simpa using hlen
        rw[this];exact .val _ _ (.int _ _)
      ·rw[h1]at hx;subst h3;have hrun:=fun ty=>run_len_nil (P:=P) (w:=w) (ty:=ty) hm;exact Ay h hd (v:=goInt 0) (by simp[execOp,ho,hx,resolve,invoke,builtin,hrun]) (.val _ _ (.int _ _))
   grind
  grind
 grind
end
theorem flatF_len{sz:Nat}{f:Nat->List AV}:∀{n:Nat},(∀ i,i<n->(f i).length=sz)->(flatF n f).length=n*sz
 | 0,_=>by simp[flatF]
 | n+1,h=>by
  have ih:=flatF_len (n:=n) (fun i hi=>h i (by omega));unfold flatF at ih ⊢;rw[Y8,List.flatMap_append,Fp,ih];simp[h n (by omega),Gl]
theorem flatF_get{sz:Nat}{f:Nat->List AV}:∀{n:Nat},(∀ i,i<n->(f i).length=sz)->∀ i j,i<n->j<sz->(flatF n f).getD (i*sz+j) .any=(f i).getD j .any
 | 0,_,i,j,hi,_=>by omega
 | n+1,h,i,j,hi,hj=>by
  have hl:=flatF_len (n:=n) (fun i hi=>h i (by omega));have ih:=flatF_get (n:=n) (fun i hi=>h i (by omega)) i j;unfold flatF at ih hl ⊢;rw[Y8,List.flatMap_append]
  by_cases e:i<n
  ·have h1:(i+1)*sz<=n*sz:=Fb _ e;rw[Gl]at h1;rw[Ur,Qy (by omega),<- Ur];exact ih e hj
  ·obtain rfl:i=n:=by omega
   rw[Ur,Us (by omega),hl];simp[List.getD]
section
variable {P:Program} {Γ:Iw} {σ:Sto} {I:Nat->Nat->Prop} {θ:Nat->Option (Nat×Nat)} {a:Act} {w:World} {o:Oper}
theorem divmod_at{k n sz:Nat}(h:k<n*sz):k / sz<n/\k % sz<sz/\k / sz*sz+k % sz=k:=by
 have hs:0<sz:=by
  rcases zzL81 sz with h0|h0
  ·rw[h0]at h;omega
  ·exact h0
 exact⟨by rw[zzL105 hs];exact h,V5 _ hs,by rw[V3];exact Y1 k sz⟩
theorem whole_arr(h:Rel Γ σ I θ a w){t:TypeId}(ht:Ck P t=true)(hagg:F0 P t=true){nm n sz m:Nat}{e:TypeId}{f:Nat->List AV}{v:Value}
  (hx:Rep I σ.own θ w v (.vpt nm n 0 0)) (hown:σ.own nm=some (.arr sz e m f)) (hn:n=m) (hsz:A8 P t=n*sz) :
  ∃ ad,v = .pointer (some ad)/\∃ vs,(loadVar t ad).run P w = .ok (.agg vs) w/\Rep I σ.own θ w (.agg vs) (.agg (flatF n f)):=by
 obtain⟨g,c,cur,he,hg,hh,hi,hmc,hcm,hcs,hf,hr,hI⟩:=arr_at h hown hx hn;subst hn;have hle:n*sz<=c*sz:=Fb _ hmc
 have hcell:∀ k,k<n*sz->w.cell? ⟨g,k,none⟩=some (cur.getD k undef):=fun k hk=>by
  rw[Ob w g _ cur e (0,0) hh];exact Ml (by omega)
 have hl:=flatF_len hf;refine⟨_,he,_,L6 ht hagg _ (fun k=>cur.getD k undef) (fun k hk=>by rw[Ov];simpa using hcell k (by omega)),.agg _ _ (by simp[hl,hsz]) (fun k hk=>?_) (fun k hk=>?_)⟩
 ·rw[hl]at hk;rw[Ks _ _ _ (by omega)];obtain⟨h1,h2,h3⟩:=divmod_at hk;have:=(hr _ _ h1 h2).1;rwa[h3]at this
 ·rw[hl]at hk;rw[Ks _ _ _ (by omega)];obtain⟨h1,h2,h3⟩:=divmod_at hk;have h4:=(hr _ _ h1 h2).2;have h5:=flatF_get hf _ _ h1 h2;rw[h3]at h4 h5;rw[h5];exact h4
theorem ok_load_whole(h:Rel Γ σ I θ a w)(hd:∀ d,o.dst=some d->d<Γ.n){t:TypeId}{x:Operand}(ho:o.op = .load t x)(ht:Ck P t=true)(hagg:F0 P t=true){nm n sz m:Nat}{e:TypeId}{f:Nat->List AV}
  (hx:Rep I σ.own θ w (a.eval x) (.vpt nm n 0 0)) (hown:σ.own nm=some (.arr sz e m f)) (hn:n=m) (hsz:A8 P t=n*sz):Fd P Γ σ o a w (.agg (flatF n f)) []:=by
 obtain⟨ad,he,vs,hrun,hrep⟩:=whole_arr (P:=P) h ht hagg hx hown hn hsz;refine Ay h hd (v:=.agg vs) ?_ hrep;simp only[execOp,ho,he,Instr.loadAt,Instr.sureAddr,E0,He,Ga,hrun]
theorem ok_store_whole(h:Rel Γ σ I θ a w)(hd:∀ d,o.dst=some d->d<Γ.n){t:TypeId}{x y:Operand}(ho:o.op = .store t x y)(ht:Ck P t=true){nm n sz m:Nat}{e:TypeId}{f:Nat->List AV}{cs:List AV}{z:AV}
  (hx:Rep I σ.own θ w (a.eval x) (.vpt nm n 0 0)) (hy:Rep I σ.own θ w (a.eval y) z) (hown:σ.own nm=some (.arr sz e m f)) (hn:n=m) (hc:z.cells=some cs) (hsz:cs.length=A8 P t) (hle:A8 P t=n*sz) :
  Fd P Γ σ o a w .undef [(nm,.arr sz e m (fun i=>(cs.drop (i*sz)).take sz))]:=by
 obtain⟨g,c,cur,he,hg,hh,hi,hmc,hcm,hcs,hf,hr,hI⟩:=arr_at h hown hx hn;subst hn;have hcl:=Lk hc hy;have hrel:=h.chg.rel
 have hvl:(a.eval y).cells.toList.length=cs.length:=by simp[hcl.size]
 have hfit:n*sz<=cur.size:=by rw[hcs];exact Fb _ hmc
 have hlen:cs.length=n*sz:=hsz.trans hle;have hst:=run_storeCells_at P g (0*sz+0) e (a.eval y).cells.toList 0 cur w hh (by rw[hvl];omega) hcl.all;simp only[P0,Nat.zero_mul]at hst
 have hrun:(execOp a.eval o).run P w = .ok .skip (w.setRow g (cur.toList.take 0++(a.eval y).cells.toList++cur.toList.drop (0+(a.eval y).cells.toList.length)).toArray):=by
  have hn:¬ ((a.eval y).cells.size≠A8 P t):=by rw[hcl.size,hsz];simp
  simp only[execOp,ho,he,Instr.storeAt,Instr.sureAddr,E0,He,Ga,storeVar,B1 ht,if_neg hn,Nat.zero_mul,P0,hst]
 simp only[List.take_zero,Su,Hy,hvl,hlen]at hrun;have hother:∀ b,b≠g->(w.setRow g ((a.eval y).cells.toList++cur.toList.drop (n*sz)).toArray).heap[b]?=w.heap[b]?:=fun b hb=>zzL135 w g b _ hb;have hk:=M8 (w':=w.setRow g ((a.eval y).cells.toList++cur.toList.drop (n*sz)).toArray) (t':=some (g,c)) (m':=n) (f':=fun i=>(cs.drop (i*sz)).take sz) hrel h.chg.valid (nm:=nm) (s:=sz) (e:=e)
  (fun b k hi=>zzL82 (a:=⟨b,k,none⟩) (hother b (by rintro rfl;exact hI k hi))) (.inr ⟨n,f,hown,zzL9 _,fun _=>hg.symm⟩)
  (fun b hb hn=>hother b (by rintro rfl;exact hn c (by simp[hown]) hg)) rfl rfl rfl (by simp) (by simp) (fun g' c' hgc=>?_) (fun g' c' hgc=>?_)
 ·rw[Zz hg]at hk;refine Zu h hd (I':=I) (θ':=θ) hrun ?_;rw[Ca];exact hk
 ·simp only[Am,It]at hgc;obtain⟨rfl,rfl⟩:=hgc
  have hlen':((a.eval y).cells.toList++cur.toList.drop (n*sz)).length=cur.size:=by
   simp only[Fp,Y5,hvl,zzL98];omega
  have hget:∀ k,k<n*sz->(((a.eval y).cells.toList++cur.toList.drop (n*sz)).toArray).getD k undef=(a.eval y).cells.getD k undef:=fun k hk=>by
   have e1:∀(l:List Value),(l.toArray).getD k undef=l.getD k undef:=fun l=>by simp[Pn,List.getD]
   rw[e1,Ur,Qy (by rw[hvl];omega)];simp[Pn]
  have hchunk:∀ i',i'<n->i'*sz+sz<=n*sz:=fun i' hi'=>by
   have:(i'+1)*sz<=n*sz:=Fb _ hi';rw[Gl]at this;omega
  refine⟨_,zzL137 w g cur _ e _ hh,hmc,hcm,by simp only[zzL129];rw[hlen',hcs],fun i' hi'=>?_,fun i' j' hi' hj'=>?_,hI⟩
  ·have:=hchunk i' hi';rw[zzL83,Y5,hlen];omega
  ·have:=hchunk i' hi';rw[hget _ (by omega),Jn _ _ _ _ _ hj'];exact⟨hcl.one _ (by omega),fun hmono=>hmono _ _ (hcl.rep _ (by omega))⟩
 ·simp only[Am,It]at hgc;obtain⟨rfl,rfl⟩:=hgc;exact .inr ⟨by simp[hown],c,hg⟩
theorem Uo{t el:TypeId}{x:Operand}{lo hi mx:Option Operand}(ho:o.op = .slice t x lo hi mx){len:Nat}(hu:P.underlying t=some (.array len el))(hT:Ck P el=true){ad:Addr}{l h m:Nat}
  (hx:a.eval x = .pointer (some ad)) (hb:(Instr.sliceBounds false len len (lo.map a.eval) (hi.map a.eval) (mx.map a.eval)).run P w = .ok (l,h,m) w) :
  (execOp a.eval o).run P w = .ok (.value (.slice (some (if m=l then ad else ad.add (l*A8 P el))) (h-l) (m-l))) w:=by
 simp only[execOp,ho,hx,Instr.sliceAt,Instr.sureAddr,E0,C0 hu,Ga,hb,B1 hT,He]
theorem rep_cutA(h:Rel Γ σ I θ a w){v:Value}{nm n sz m l k:Nat}{e:TypeId}{f:Nat->List AV}(hx:Rep I σ.own θ w v (.vpt nm n 0 0))(hown:σ.own nm=some (.arr sz e m f))(hB:arrB e=true)(hlk:l<=k)(hk:k<=n) :
  ∃ ad,v = .pointer (some ad)/\Rep I σ.own θ w (.slice (some (if n=l then ad else ad.add (l*sz))) (k-l) (n-l)) (.vsub nm n l k):=by
 obtain⟨sz2,e2,m2,f2,ad,rfl,ho2,hm,hi0,hv⟩:=hx.vpt_inv;rw[hown]at ho2;simp only[Am,Own.arr.injEq]at ho2;obtain⟨rfl,rfl,rfl,rfl⟩:=ho2;obtain⟨q0,q1⟩:=h.chg.rel.arr nm _ _ _ _ hown
 have hmax:n<=maxLen:=by
  cases hθ:θ nm with
  | none=>have:=q0 hθ;omega
  | some gc=>obtain⟨_,_,h2,h3,_⟩:=q1 gc.1 gc.2 hθ;omega
 refine⟨ad,rfl,.vsub nm sz e m f n l k _ _ hown hm hlk hk (by omega) (by omega) (fun h=>by cases h) (fun hnm=>⟨fun hlt=>?_,fun h0=>?_⟩)⟩
 ·obtain⟨g,c,h1,rfl⟩:=hv hnm;refine⟨g,c,h1,?_⟩;rw[if_neg (by omega),Ov]
  simp
 ·obtain⟨g,c,h1,rfl⟩:=hv hnm;subst h0;rw[h1];refine⟨?_,.inr hB⟩;rw[if_neg (by omega),Ov]
  simp
theorem asemA_sound(h:Rel Γ σ I θ a w)(hd:∀ d,o.dst=some d->d<Γ.n){vs:List AV}(hvs:RepL I σ.own θ w (o.op.operands.toList.map a.eval) vs){es:List (Option Own)}(hes:es=(Eh o vs).map σ.own)
  {e:Eff} (he:asemA P o vs es=some e) (hob:∀ p∈e.ob,p):Fd P Γ σ o a w e.v e.wo:=by
 unfold asemA at he
 split at he
 ·rename_i t x nm n sz e0 m f ho
  simp only[ho,Op.operands,C7,D7]at hvs;obtain⟨u,hu',hu⟩:=hvs.one;simp only[D8,Bs]at hu';subst hu'
  have hown:σ.own nm=some (.arr sz e0 m f):=by simpa [Eh,ho] using hes.symm
  split at he
  ·rename_i len el hun
   cases hb:(Ck P t&&Nat.beq n len&&Nat.beq (A8 P t) (n*sz)) with
   | false=>simp[hb]at he
   | true=>
    simp only[hb,Ag,Eff.pure,Am]at he;subst he;simp only[A7]at hb;exact ok_load_whole (P:=P) h hd ho hb.1.1 (by simp[F0,hun]) hu hown (hob _ (by simp)) (Cb hb.2)
  ·simp at he
 ·rename_i t x y nm n z sz e0 m f ho
  simp only[ho,Op.operands,C7,D7]at hvs;obtain⟨u,v,hu',hu,hv⟩:=hvs.two;simp only[D8,Bs]at hu';obtain⟨rfl,rfl⟩:=hu'
  have hown:σ.own nm=some (.arr sz e0 m f):=by simpa [Eh,ho] using hes.symm
  split at he
  ·rename_i len el cs hun hc
   cases hb:(Ck P t&&Nat.beq n len&&Nat.beq cs.length (A8 P t)&&Nat.beq (A8 P t) (n*sz)) with
   | false=>simp[hb]at he
   | true=>
    simp only[hb,Ag,Am]at he;subst he;simp only[A7]at hb;exact ok_store_whole (P:=P) h hd ho hb.1.1.1 hu hv hown (hob _ (by simp)) hc (Cb hb.1.2) (Cb hb.2)
  ·simp at he
 ·rename_i t y lo hi mx nm n vs sz e0 m f ho
  have hown:σ.own nm=some (.arr sz e0 m f):=by simpa [Eh,ho] using hes.symm
  have hops:o.op.operands.toList.map a.eval=[a.eval y]++(lo.map a.eval).toList++(hi.map a.eval).toList++(mx.map a.eval).toList:=by
   rw[ho]
   cases lo<;>cases hi<;>cases mx<;>simp[Op.operands]
  rw[hops]at hvs
  split at he
  ·rename_i len el hun
   cases hb:(Ck P el&&Nat.beq n len&&Nat.beq sz (A8 P el)&&arrB e0) with
   | false=>simp[hb]at he
   | true=>
    simp only[hb,Ag]at he;simp only[A7]at hb;obtain⟨⟨⟨hT,hnl⟩,hsz⟩,hB⟩:=hb;obtain rfl:=Cb hnl;obtain rfl:=Cb hsz
    split at he
    ·rename_i k l h1 h2 h3
     cases lo<;>simp at h1
     cases hi<;>simp at h2
     cases mx<;>simp at h3
     obtain⟨p,q,e1,hy,hz⟩:=hvs.two;simp only[D8,Bs]at e1;obtain⟨rfl,rfl⟩:=e1;simp only[Eff.pure,Am]at he;subst he;obtain⟨hb0,hb1⟩:=hob _ (zzL23.2 rfl);rw[Hy]at hb1 ⊢;have hl:=hz.int_inv;obtain⟨ad,hex,hrep⟩:=rep_cutA h hy hown hB (l:=l.toNat) (k:=n) hb1 (zzL9 _);exact Ay h hd (Uo (P:=P) (a:=a) (w:=w) (l:=l.toNat) (h:=n) (m:=n) ho hun hT hex (by simp[Instr.sliceBounds,hl,Ns (P:=P) w k l n _ hb0 (by omega)])) hrep
    ·rename_i k l h1 h2 h3
     cases lo<;>simp at h1
     cases hi<;>simp at h2
     cases mx<;>simp at h3
     obtain⟨p,q,e1,hy,hz⟩:=hvs.two;simp only[D8,Bs]at e1;obtain⟨rfl,rfl⟩:=e1;simp only[Eff.pure,Am]at he;subst he;obtain⟨hb0,hb1⟩:=hob _ (zzL23.2 rfl);rw[Hy]at hb1 ⊢;have hl:=hz.int_inv;obtain⟨ad,hex,hrep⟩:=rep_cutA h hy hown hB (l:=0) (k:=l.toNat) (Rn _) hb1;exact Ay h hd (Uo (P:=P) (a:=a) (w:=w) (l:=0) (h:=l.toNat) (m:=n) ho hun hT hex (by simp[Instr.sliceBounds,hl,Ns (P:=P) w k l n _ hb0 (by omega)])) hrep
    ·rename_i k l k' l' h1 h2 h3
     cases lo<;>simp at h1
     cases hi<;>simp at h2
     cases mx<;>simp at h3
     obtain⟨p,q,u,e1,hy,hz,hz'⟩:=hvs.three;simp only[D8,Bs]at e1;obtain⟨rfl,rfl,rfl⟩:=e1;simp only[Eff.pure,Am]at he;subst he;obtain⟨hb0,hb1,hb2⟩:=hob _ (zzL23.2 rfl);rw[Hy]at hb2;rw[Hy,Hy];have hl:=hz.int_inv;have hl':=hz'.int_inv;obtain⟨ad,hex,hrep⟩:=rep_cutA h hy hown hB (l:=l.toNat) (k:=l'.toNat) (by omega) hb2;exact Ay h hd (Uo (P:=P) (a:=a) (w:=w) (l:=l.toNat) (h:=l'.toNat) (m:=n) ho hun hT hex (by simp[Instr.sliceBounds,hl,hl',Ns (P:=P) w k' l' n _ (by omega) (by omega),Ns (P:=P) w k l l'.toNat _ hb0 (by omega)])) hrep
    ·rename_i h1 h2 h3
     cases lo<;>simp at h1
     cases hi<;>simp at h2
     cases mx<;>simp at h3
     obtain⟨p,e1,hy⟩:=hvs.one;simp only[D8,Bs]at e1;subst e1;simp only[Eff.pure,Am]at he;subst he;obtain⟨ad,hex,hrep⟩:=rep_cutA h hy hown hB (l:=0) (k:=n) (Rn _) (zzL9 _);exact Ay h hd (Uo (P:=P) (a:=a) (w:=w) (l:=0) (h:=n) (m:=n) ho hun hT hex (by simp[Instr.sliceBounds])) hrep
    ·simp at he
  ·simp at he
 ·simp at he
end
section
variable {P:Program} {Γ:Iw} {σ:Sto} {I:Nat->Nat->Prop} {θ:Nat->Option (Nat×Nat)} {a:Act} {w:World} {o:Oper}
theorem tab_objR{own:Nat->Option Own}{es:Array MapEntry}{k:IntKind}{l:List (Int×AV)}(h:Ents (Rep I own θ w) k 0 es.toList l):ObjR I own θ w (.map es l.length) (.tab k l):=by
 obtain⟨h1,h2⟩:=of_ents l es.toList 0 h
 exact .tab es k l (by simpa using h1) fun i hi=>by obtain⟨v,h3,h4⟩:=h2 i hi;exact⟨v,by simpa using h3,h4⟩
theorem tab_at(h:Rel Γ σ I θ a w){nm:Nat}{k:IntKind}{l:List (Int×AV)}(hown:σ.own nm=some (.obj (.tab k l))) :
  ∃ g c es,θ nm=some (g,c)/\w.heap[g]?=some (.map es l.length)/\Ents (Rep I σ.own θ w) k 0 es.toList l:=by
 rcases h.chg.rel.obj nm _ hown with⟨g,c,ob,h1,h2,h3,_⟩|⟨h1,h2⟩
 ·cases h3 with
  | tab es k l hs hr=>exact⟨g,c,es,h1,h2,ents_of l es.toList 0 (by simpa using hs) fun i hi=>by obtain⟨v,h1,h2⟩:=hr i hi;exact⟨v,by simpa using h1,h2⟩⟩
 ·cases h2
theorem mset_new{V:Type}{i:Int}{x:V}:∀{l:List (Int×V)},Gi l i=false->Mu l i x=l++[(i,x)]
 | [],_=>rfl
 | (a,b)::l,h=>by
  simp only[Gi,zzL120]at h;simp only[Mu,h.1,Aq,mset_new h.2,zzL92]
theorem mget_has{V:Type}{i:Int}{d d':V}:∀{l:List (Int×V)},Gi l i=true->H4 d l i=H4 d' l i
 | [],h=>by cases h
 | (a,b)::l,h=>by
  simp only[H4]
  cases hb:(i==a) with
  | true=>rfl
  | false=>simp only[Gi,hb,zzL132]at h;exact mget_has h
theorem put_sound(h:Rel Γ σ I θ a w)(hd:∀ d,o.dst=some d->d<Γ.n){t:TypeId}{x y z:Operand}(hop:o.op = .mapUpdate t x y z\/o.op = .insert t x y z){nm:Nat}{k k':IntKind}{i:Int}{xv:AV}{l:List (Int×AV)}
  (hu:Rep I σ.own θ w (a.eval x) (.omap nm)) (hv:Rep I σ.own θ w (a.eval y) (.int k' i)) (hr:Rep I σ.own θ w (a.eval z) xv) (hown:σ.own nm=some (.obj (.tab k l))) {e:Eff} (he:aPut P t nm k k' i xv l=some e):Fd P Γ σ o a w e.v e.wo:=by
 unfold aPut at he
 split at he
 ·rename_i k0 e0 hk
  cases hb:(kEq k k'&&kEq k k0&&!Gi l i) with
  | false=>simp[hb]at he
  | true=>
   simp only[hb,Ag,Am]at he;subst he;simp only[A7,Nr]at hb;obtain rfl:=Oh hb.1.1;obtain rfl:=Oh hb.1.2;obtain⟨kt,hm,hkt⟩:=Sb hk;have hix:=hv.int_inv;obtain⟨_,_,hx⟩:=hu.omap_inv;obtain⟨g,c,es',h1,h2,h3⟩:=tab_at h hown;rw[h1]at hx;rcases ents_put (key:=i) (hv:=hr) l es'.toList 0 0 h3 with⟨g1,_⟩|⟨g1,gl,g2,g4⟩
   ·rw[hb.2]at g1;cases g1
   ·have hc:ObjR I σ.own θ w (.map (es'.push { key:=.int k i,val:=a.eval z,born:=l.length }) (l.length+1)) (.tab k (l++[(i,xv)])):=by
     rw[<- mset_new g1,<- gl];rw[Hy]at g4;exact tab_objR (by simpa using g4)
    have kc:=U5 h.chg.rel h.chg.valid hown h1 hc;refine Zu h hd (w':=Yr w g (.map (es'.push { key:=.int k i,val:=a.eval z,born:=l.length }) (l.length+1))) ?_ (by rw[Ca];exact kc);have hrun:=Yq (P:=P) (v:=a.eval z) hm hkt h2 g2;rcases hop with ho|ho<;>simp only[execOp,ho,hx,hix]<;>simp[hrun]
 ·simp at he
theorem rep_cutR (h : Rel Γ σ I θ a w) {v : Value} {cells : List AV} (hv : Rep I σ.own θ w v (.rptr cells)) {len sz l : Nat} (hlen : cells.length = len * sz) (hroom : len ≤ room) (hl : l ≤ len) :
    ∃ ad, v = .pointer (some ad) ∧ Rep I σ.own θ w (.slice (some (if len = l then ad else ad.add (l * sz))) (len - l) (len - l)) (.slice sz (len - l) (fun i => (cells.drop ((l + i) * sz)).take sz) .none) := by
  obtain ⟨ad, us, he, hs, hI, hc, h1, hrep⟩ := hv.rptr_inv
  have hb : ∀ j, j < (len - l) * sz → l * sz + j < cells.length := fun j hj => by
    have : (len - l) * sz + l * sz = len * sz := by rw [← Gl]; congr 1; omega
    omega
  refine ⟨ad, he, .val _ _ (.slice _ _ _ sz _ (fun j => us (l * sz + j)) (Nat.le_refl _) (by have : room ≤ maxLen := by decide
                                                                                             omega) (fun hp => ?_) (fun hn => by cases hn) (fun j hj => h1 _ (hb j hj)) (fun i hi => ?_) (fun i c hi hc' => ?_))⟩
  · have hne : ¬ len = l := by omega
    simp only [hne, G4]; rw [L1 hs]; refine ⟨_, rfl, rfl, fun j hj => ?_, fun j hj => ?_⟩
    · have := hI _ (hb j hj); rwa [← Po] at this
    · have := hc _ (hb j hj); rwa [← Po] at this
  · have h2 : (l + i + 1) * sz ≤ len * sz := Fb _ (by omega); rw [Gl] at h2
    simp
    omega
  · have h2 : (i + 1) * sz ≤ (len - l) * sz := Fb _ (by omega); rw [Gl] at h2; rw [Jn _ _ _ _ _ hc', Gl, Po]; exact hrep _ (hb _ (by omega))
theorem asemT_sound(h:Rel Γ σ I θ a w)(hd:∀ d,o.dst=some d->d<Γ.n){vs:List AV}(hvs:RepL I σ.own θ w (o.op.operands.toList.map a.eval) vs){es:List (Option Own)}(hes:es=(Eh o vs).map σ.own)
  {hint:Nat} {e:Eff} (he:asemT P hint o vs es=some e) (hob:∀ p∈e.ob,p):Fd P Γ σ o a w e.v e.wo:=by
 unfold asemT at he
 split at he
 ·
  rename_i t x y ho
  simp only[ho,Op.operands,C7,D7]at hvs;obtain⟨u,hu',hu⟩:=hvs.one;simp only[D8,Bs]at hu';subst hu'
  cases h2:Nat.beq hint 2 with
  | true=>
   simp only[h2,Ag]at he
   split at he
   ·simp at he
   ·split at he
    ·rename_i cs hcs
     simp only[Eff.pure,Am]at he;subst he;have hc:=Lk hcs hu;have kc:=chg_newimm h.chg.rel h.chg.valid (a.eval x).cells t;refine J8 h hd (v:=.pointer (some ⟨w.heap.size,0,none⟩)) (w':=w.alloc (.cells (a.eval x).cells t)) ?_ kc ?_
     ·simp[execOp,ho,Instr.box,newVar,newRow]
     ·have hcell:∀ j,j<cs.length->(w.alloc (.cells (a.eval x).cells t)).cell? ⟨w.heap.size,0+j,none⟩=some ((a.eval x).cells.getD j undef):=fun j hj=>by
       have hj':j<(a.eval x).cells.size:=by rw[hc.size];exact hj
       rw[Ob _ _ _ (a.eval x).cells t (0,0) (Wn w _),Hy];simp[Array.getD,hj']
      exact .rpo _ _ (fun j=>(a.eval x).cells.getD j undef) rfl (fun j hj=>.inr ⟨rfl,by rw[hc.size];show 0+j<_;omega⟩) hcell hc.one (fun j hj=>(hc.rep j hj).chg kc)
    ·simp at he
  | false=>
   simp only[h2,Aq]at he
   cases h3:Nat.beq hint 3 with
   | false=>simp[h3]at he
   | true=>
    simp only[h3,Ag]at he
    split at he
    ·rename_i cs hcs
     simp only[Eff.pure,Am]at he;subst he;have hc:=Lk hcs hu;have kc:=chg_newimm h.chg.rel h.chg.valid (a.eval x).cells t;refine J8 h hd (v:=.pointer (some ⟨w.heap.size,0,none⟩)) (w':=w.alloc (.cells (a.eval x).cells t)) ?_ kc ?_
     ·simp[execOp,ho,Instr.box,newVar,newRow]
     ·have hl:(AV.stripAll cs).length=cs.length:=B3 cs
      have hcell:∀ j,j<(AV.stripAll cs).length->(w.alloc (.cells (a.eval x).cells t)).cell? ⟨w.heap.size,0+j,none⟩=some ((a.eval x).cells.getD j undef):=fun j hj=>by
       have hj':j<(a.eval x).cells.size:=by rw[hc.size,<- hl];exact hj
       rw[Ob _ _ _ (a.eval x).cells t (0,0) (Wn w _),Hy];simp[Array.getD,hj']
      exact .val _ _ (.rptr _ _ (fun j=>(a.eval x).cells.getD j undef) rfl (fun j hj=>.inr ⟨rfl,by rw[hc.size,<- hl];show 0+j<_;omega⟩) hcell (fun j hj=>hc.one j (by omega)) (fun j hj=>by
       rw[Id]
       exact((hc.rep j (by omega)).chg kc).strip))
    ·simp at he
 ·
  rename_i t x lo hi mx cells vs ho
  have hops:o.op.operands.toList.map a.eval=[a.eval x]++(lo.map a.eval).toList++(hi.map a.eval).toList++(mx.map a.eval).toList:=by
   rw[ho]
   cases lo<;>cases hi<;>cases mx<;>simp[Op.operands]
  rw[hops]at hvs
  split at he
  ·rename_i len el hun
   cases hb:(Ck P el&&Nat.beq cells.length (len*A8 P el)&&Nat.ble len room) with
   | false=>simp[hb]at he
   | true=>
    simp only[hb,Ag]at he;simp only[A7]at hb;obtain⟨⟨hT,hlen⟩,hroom⟩:=hb;have hlen:=Cb hlen;have hroom:=Ku hroom
    split at he
    ·rename_i k l h1 h2 h3
     cases lo<;>simp at h1
     cases hi<;>simp at h2
     cases mx<;>simp at h3
     obtain⟨p,q,e1,hy,hz⟩:=hvs.two;simp only[D8,Bs]at e1;obtain⟨rfl,rfl⟩:=e1;simp only[Eff.pure,Am]at he;subst he;obtain⟨hb0,hb1⟩:=hob _ (zzL23.2 rfl);have hl:=hz.int_inv;obtain⟨ad,hex,hrep⟩:=rep_cutR h hy hlen hroom (l:=l.toNat) hb1;exact Ay h hd (Uo (P:=P) (a:=a) (w:=w) (l:=l.toNat) (h:=len) (m:=len) ho hun hT hex (by simp[Instr.sliceBounds,hl,Ns (P:=P) w k l len _ hb0 (by omega)])) hrep
    ·rename_i h1 h2 h3
     cases lo<;>simp at h1
     cases hi<;>simp at h2
     cases mx<;>simp at h3
     obtain⟨p,e1,hy⟩:=hvs.one;simp only[D8,Bs]at e1;subst e1;simp only[Eff.pure,Am]at he;subst he;obtain⟨ad,hex,hrep⟩:=rep_cutR h hy hlen hroom (l:=0) (Rn _);exact Ay h hd (Uo (P:=P) (a:=a) (w:=w) (l:=0) (h:=len) (m:=len) ho hun hT hex (by simp[Instr.sliceBounds])) hrep
    ·simp at he
  ·simp at he
 ·
  rename_i t x cells ho
  simp only[ho,Op.operands,C7,D7]at hvs;obtain⟨u,hu',hu⟩:=hvs.one;simp only[D8,Bs]at hu';subst hu'
  cases hb:(Ck P t&&!F0 P t&&Nat.ble 1 cells.length) with
  | false=>simp[hb]at he
  | true=>
   simp only[hb,Ag,Eff.pure,Am]at he;subst he;simp only[A7,Nr]at hb;obtain⟨⟨ht,hagg⟩,hle⟩:=hb;have hle:=Ku hle;obtain⟨ad,us,he,hs,_,hc,h1,hrep⟩:=hu.rpo_inv;have hc0:=hc 0 (by omega);rw[P0]at hc0
   have e:(⟨ad.block,ad.off,none⟩:Addr)=ad:=by cases ad;simp_all
   rw[e]at hc0;have hr:=L7 (P:=P) ht hagg ad _ hc0;refine Ay h hd (v:=us 0) ?_ (hrep 0 (by omega));simp only[execOp,ho,he,Instr.loadAt,Instr.sureAddr,E0,He,Ga,hr]
 ·
  rename_i t ho
  split at he
  ·rename_i d k e0 hdst hk
   cases hf:funcT P e0 with
   | false=>simp[hf]at he
   | true=>
    simp only[hf,Ag,Am]at he;subst he
    have hn:σ.own d=none:=by simpa [Eh,ho,hdst] using hes.symm
    have hc:ObjR I σ.own θ w (.map #[] 0) (.tab k []):=tab_objR (es:=#[]) (l:=[]) trivial;have kc:=R5 h.chg.rel h.chg.valid hn hc;refine J8 h hd (v:=.map (some w.heap.size)) (w':=w.alloc (.map #[] 0)) ?_ (by rw[Ca];exact kc) ?_
    ·simp[execOp,ho,Instr.makeMap]
    ·rw[Ca];have:=Rep.omap (I:=I) (own:=A0 σ.own d (.obj (.tab k []))) (θ:=thUp θ d (some (w.heap.size,0))) (w:=w.alloc (.map #[] 0)) d (.tab k []) (by simp[A0])
     simpa [thUp] using this
  ·simp at he
 ·
  rename_i t x y z nm k' i xv k l ho
  simp only[ho,Op.operands,C7,D7]at hvs;obtain⟨u,v,r,hu',hu,hv,hr⟩:=hvs.three;simp only[D8,Bs]at hu';obtain⟨rfl,rfl,rfl⟩:=hu';exact put_sound h hd (.inr ho) hu hv hr (by simpa [Eh,ho] using hes.symm) he
 ·rename_i t x y z nm k' i xv k l ho
  simp only[ho,Op.operands,C7,D7]at hvs;obtain⟨u,v,r,hu',hu,hv,hr⟩:=hvs.three;simp only[D8,Bs]at hu';obtain⟨rfl,rfl,rfl⟩:=hu';exact put_sound h hd (.inl ho) hu hv hr (by simpa [Eh,ho] using hes.symm) he
 ·
  rename_i t x ix nm k' i k l ho
  simp only[ho,Op.operands,C7,D7]at hvs;obtain⟨u,v,hu',hu,hv⟩:=hvs.two;simp only[D8,Bs]at hu';obtain⟨rfl,rfl⟩:=hu'
  have hown:σ.own nm=some (.obj (.tab k l)):=by simpa [Eh,ho] using hes.symm
  split at he
  ·rename_i k0 e0 hk
   cases hb:(kEq k k'&&kEq k k0&&Gi l i&&(zeroV P e0).isSome) with
   | false=>simp[hb]at he
   | true=>
    simp only[hb,Ag,Eff.pure,Am]at he;subst he;simp only[A7]at hb;obtain⟨⟨⟨b1,b2⟩,b3⟩,b4⟩:=hb;obtain rfl:=Oh b1;obtain rfl:=Oh b2;obtain⟨z,hz⟩:=zzL77.1 b4;obtain⟨ti,zv,hi,hzv,rfl⟩:=zeroV_inv hz;obtain⟨kt,hm,hkt⟩:=Sb hk;have hix:=hv.int_inv;obtain⟨_,_,hx⟩:=hu.omap_inv;have hrz:=Pk (P:=P) hi hzv w;obtain⟨g,c,es',h1,h2,h3⟩:=tab_at h hown;rw[h1]at hx;rcases findNow_ents (key:=i) (hz:=S9 (I:=I) (σ:=σ) (θ:=θ) (w:=w) zv) l es'.toList 0 0 h3 with⟨g1,j,r,g2,g3,g4⟩|⟨g1,g2,g3⟩
    ·have hrun:=M3 (ok:=false) hm hkt hrz h2 g2;rw[mget_has g1]at g4;refine Ay h hd (v:=r) ?_ g4;simp only[execOp,ho,hx,hix];simp[hrun]
    ·rw[b3]at g1;cases g1
  ·simp at he
 ·simp at he
end
section
variable {P:Program} {Γ:Iw} {σ:Sto} {I:Nat->Nat->Prop} {θ:Nat->Option (Nat×Nat)} {a:Act} {w:World} {o:Oper}
theorem appOK_inv{t t' e:TypeId}(h:appOK P t t' e=true):t'=t/\∃ i z,P.info? e=some i/\i.zero=some z/\z.cells.size=i.size/\i.bytes<=128/\A8 P e=i.size:=by
 simp only[appOK,A7]at h;obtain⟨⟨⟨⟨⟨htt,hT⟩,hs1⟩,hby⟩,hzz⟩,hzs⟩:=h;obtain rfl:=Cb htt;obtain⟨i,dd,hi,_,hsi⟩:=X1 hT;obtain⟨z,hz⟩:=zzL77.1 hzz;simp only[hi,An]at hz;simp only[hi,zzL97,zzL115,An,hz]at hby hzs;have hzq:=Cb hzs;rw[hsi]at hzq;exact⟨rfl,i,z,hi,hz,hzq,Ku hby,hsi⟩
theorem args_one{xs:Array Operand}{ts:Array TypeId}{b:Go.Builtin}(ho:o.op = .call { callee:=.builtin b,args:=xs,argTypes:=ts }){u:AV}(hvs:RepL I σ.own θ w (o.op.operands.toList.map a.eval) [u]) :
  ∃ x,xs.toList=[x]/\Rep I σ.own θ w (a.eval x) u:=by
 have:o.op.operands.toList.map a.eval=xs.toList.map a.eval:=by rw[ho];simp[Op.operands,Call.operands]
 rw[this]at hvs
 cases hl:xs.toList with
 | nil=>rw[hl]at hvs;cases hvs
 | cons x l=>
  rw[hl]at hvs
  cases hvs with|cons h t=>cases l with
   | nil=>exact⟨x,rfl,h⟩
   | cons _ _=>cases t
theorem args_two{xs:Array Operand}{ts:Array TypeId}{b:Go.Builtin}(ho:o.op = .call { callee:=.builtin b,args:=xs,argTypes:=ts }){u v:AV}(hvs:RepL I σ.own θ w (o.op.operands.toList.map a.eval) [u,v]) :
  ∃ x y,xs.toList=[x,y]/\Rep I σ.own θ w (a.eval x) u/\Rep I σ.own θ w (a.eval y) v:=by
 have:o.op.operands.toList.map a.eval=xs.toList.map a.eval:=by rw[ho];simp[Op.operands,Call.operands]
 rw[this]at hvs
 cases hl:xs.toList with
 | nil=>rw[hl]at hvs;cases hvs
 | cons x l=>
  rw[hl]at hvs
  cases hvs with|cons h t=>cases l with
   | nil=>cases t
   | cons y l=>cases t with|cons h2 t2=>cases l with
    | nil=>exact⟨x,y,rfl,h,h2⟩
    | cons _ _=>cases t2
theorem asemR_sound(h:Rel Γ σ I θ a w)(hd:∀ d,o.dst=some d->d<Γ.n){vs:List AV}(hvs:RepL I σ.own θ w (o.op.operands.toList.map a.eval) vs){es:List (Option Own)}(hes:es=(Eh o vs).map σ.own){hint:Bool}
  {e:Eff} (he:asemR P hint o vs es=some e) (hob:∀ p∈e.ob,p):Fd P Γ σ o a w e.v e.wo:=by
 unfold asemR at he
 split at he
 ·
  rename_i t x nm n i j sz e0 m f ho
  simp only[ho,Op.operands,C7,D7]at hvs;obtain⟨u,hu',hu⟩:=hvs.one;simp only[D8,Bs]at hu';subst hu'
  have hown:σ.own nm=some (.arr sz e0 m f):=by simpa [Eh,ho] using hes.symm
  cases hT:Ck P t with
  | false=>simp[hT]at he
  | true=>
   simp only[hT,Ag]at he
   cases hagg:F0 P t with
   | true=>
    simp only[hagg,Ag]at he
    cases hb:Nat.ble (j+A8 P t) sz with
    | false=>simp[hb]at he
    | true=>
     simp only[hb,Ag,Eff.pure,Am]at he;subst he;exact(ok_load_arr (P:=P) h hd ho hT hu hown (hob _ (by simp))).1 hagg (Ku hb)
   | false=>
    simp only[hagg,Aq]at he
    cases hb:Nat.blt j sz with
    | false=>simp[hb]at he
    | true=>
     simp only[hb,Ag,Eff.pure,Am]at he;subst he;exact(ok_load_arr (P:=P) h hd ho hT hu hown (hob _ (by simp))).2 hagg (by simpa [Iu] using hb)
 ·
  rename_i t x y nm n i j z sz e0 m f ho
  simp only[ho,Op.operands,C7,D7]at hvs;obtain⟨u,v,hu',hu,hv⟩:=hvs.two;simp only[D8,Bs]at hu';obtain⟨rfl,rfl⟩:=hu'
  have hown:σ.own nm=some (.arr sz e0 m f):=by simpa [Eh,ho] using hes.symm
  split at he
  ·rename_i cs hc
   cases hb:(Ck P t&&Nat.beq cs.length (A8 P t)&&Nat.ble (j+cs.length) sz) with
   | false=>simp[hb]at he
   | true=>
    simp only[hb,Ag,Am]at he;subst he;simp only[A7]at hb;exact ok_store_arr h hd ho hb.1.1 hu hv hown (hob _ (by simp)) hc (Cb hb.1.2) (Ku hb.2)
  ·simp at he
 ·
  rename_i s x k nm n i j ho
  simp only[ho,Op.operands,C7,D7]at hvs;obtain⟨u,hu',hu⟩:=hvs.one;simp only[D8,Bs]at hu';subst hu'
  split at he
  ·rename_i fields hs
   split at he
   ·rename_i fd hf
    cases hb:(Ck P fd.type&&Nat.ble 1 (A8 P fd.type)) with
    | false=>simp[hb]at he
    | true=>
     simp only[hb,Ag,Eff.pure,Am]at he;subst he;simp only[A7]at hb;exact ok_fieldAddr_arr h hd ho hs hf hb.1 (Ku hb.2) hu
   ·simp at he
  ·simp at he
 ·
  rename_i t x y nm n k i sz e0 m f ho
  simp only[ho,Op.operands,C7,D7]at hvs;obtain⟨u,v,hu',hu,hv⟩:=hvs.two;simp only[D8,Bs]at hu';obtain⟨rfl,rfl⟩:=hu'
  have hown:σ.own nm=some (.arr sz e0 m f):=by simpa [Eh,ho] using hes.symm
  split at he
  ·rename_i e1 hun
   cases hb:(Ck P e1&&Nat.beq sz (A8 P e1)) with
   | false=>simp[hb]at he
   | true=>
    simp only[hb,Ag,Eff.pure,Am]at he;subst he;simp only[A7]at hb;exact ok_index_arr h hd ho hun hb.1 hu hv (hob _ (by simp)) ⟨sz,e0,m,f,hown,Cb hb.2⟩
  ·simp at he
 ·
  rename_i t x y nm n lo hi k i sz e0 m f ho
  simp only[ho,Op.operands,C7,D7]at hvs;obtain⟨u,v,hu',hu,hv⟩:=hvs.two;simp only[D8,Bs]at hu';obtain⟨rfl,rfl⟩:=hu'
  have hown:σ.own nm=some (.arr sz e0 m f):=by simpa [Eh,ho] using hes.symm
  split at he
  ·rename_i e1 hun
   cases hb:(Ck P e1&&Nat.beq sz (A8 P e1)) with
   | false=>simp[hb]at he
   | true=>
    simp only[hb,Ag,Eff.pure,Am]at he;subst he;simp only[A7]at hb;exact ok_index_view h hd ho hun hb.1 hu hv (hob _ (by simp)) hown (Cb hb.2)
  ·simp at he
 ·
  rename_i t y lo hi mx x vs' sz e0 m f ho
  split at he
  ·rename_i e1 hun
   cases hb:Nat.beq sz (A8 P e1) with
   | false=>simp[hb]at he
   | true=>
    simp only[hb,Ag]at he;have hs:=Cb hb
    have hvs':RepL I σ.own θ w ([a.eval y]++(lo.map a.eval).toList++(hi.map a.eval).toList++(mx.map a.eval).toList) (x::vs'):=by
     have:o.op.operands.toList.map a.eval=[a.eval y]++(lo.map a.eval).toList++(hi.map a.eval).toList++(mx.map a.eval).toList:=by
      rw[ho];cases lo<;>cases hi<;>cases mx<;>simp[Op.operands]
     rwa[this]at hvs
    obtain⟨h1,h2⟩:=ok_view h hd ho hun hvs' he hob (fun nm n l0 h0 hv=>by
     have:Eh o (x::vs')=[nm]:=by
      cases x<;>simp[AV.view]at hv
      ·obtain⟨rfl,rfl,rfl,rfl⟩:=hv;simp[Eh,ho]
      ·obtain⟨rfl,rfl,rfl,rfl⟩:=hv;simp[Eh,ho]
     rw[this]at hes;simp at hes
     exact⟨sz,e0,m,f,hes.symm,hs⟩)
    rw[h1];exact h2
  ·simp at he
 ·
  rename_i xs ts x y ho
  unfold aCopy at he
  split at he
  ·rename_i t t' nm n lo hi hts hview
   split at he
   ·rename_i e1 sz e0 m f es' hun
    cases hb:(Ck P e1&&Nat.beq sz (A8 P e1)) with
    | false=>simp[hb]at he
    | true=>
     simp only[hb,Ag]at he;simp only[A7]at hb;have hs:=Cb hb.2;obtain⟨p,q,hx,hu,hv⟩:=args_two ho hvs
     obtain rfl:ts = #[t,t']:=by apply Oc;simpa using hts
     obtain rfl:xs = #[p,q]:=by apply Oc;simpa using hx
     have hneed:Eh o [x,y]=[nm]++Yv y:=by simp[Eh,ho,Yv,hview]
     rw[hneed]at hes;simp only[zzL92,Su,C7,D8]at hes;obtain⟨hown,hes'⟩:=hes;have hown:=hown.symm
     split at he
     ·rename_i nm' n' lo' hi' sz' e2 m' f' hview'
      cases hb2:Nat.beq sz' sz with
      | false=>simp[hb2]at he
      | true=>
       simp only[hb2,Ag,Am]at he;subst he;obtain rfl:=Cb hb2;simp[Yv,hview']at hes';have hes':=hes'.symm;obtain⟨_,_,_,_,ad',cap',hey,_⟩:=Sr h hview' hv;obtain⟨cs,hsrc⟩:=src_view (P:=P) (k:=Nat.min (hi'-lo') (hi-lo)) h hview' hv hes' (hob _ (by simp)) (Nat.min_le_left _ _);exact ok_copy h hd ho hun hb.1 hview hu hown (hob _ (by simp)) hs hey hsrc
     ·split at he
      ·rename_i sz' n' f' tag _
       cases hb2:(Nat.beq sz' sz || Nat.beq n' 0) with
       | false=>simp[hb2]at he
       | true=>
        simp only[hb2,Ag,Am]at he;subst he;have hval:=hv.slice_val;obtain⟨_,ad',cap',us,hey,_⟩:=hval.slice_inv;obtain⟨cs,hsrc⟩:=src_val (P:=P) (σ:=σ) (θ:=θ) (sz:=sz) (k:=Nat.min n' (hi-lo)) (Nat.min_le_left _ _) (szor hb2) hval;exact ok_copy h hd ho hun hb.1 hview hu hown (hob _ (by simp)) hs hey hsrc
      ·simp at he
     ·simp at he
   ·simp at he
  ·simp at he
 ·
  rename_i x nm n i j ho
  simp only[ho,Op.operands,C7,D7]at hvs;obtain⟨u,hu',hu⟩:=hvs.one;simp only[D8,Bs]at hu';subst hu';simp only[Eff.pure,Am]at he;subst he;obtain⟨_,_,_,_,ad,hv,_⟩:=hu.vpt_inv;exact Ay h hd (v:=a.eval x) (by simp[execOp,ho,hv]) hu
 ·
  rename_i x f xs ys ho
  simp only[ho,Op.operands,C7,D7]at hvs;obtain⟨u,hu',hu⟩:=hvs.one;simp only[D8,Bs]at hu';subst hu';simp only[Eff.pure,Am]at he;subst he;obtain⟨_,_,hv,_⟩:=hu.clo_inv;exact Ay h hd (v:=a.eval x) (by simp[execOp,ho,hv]) hu
 ·
  rename_i vs es0 x0 vs0 es1 f first captured ho
  cases hb:Nat.beq vs.length (first.toList.length+captured.toList.length) with
  | false=>rw[hb]at he;simp at he
  | true=>
   have hlen:=Cb hb;simp only[hb,Ag,Eff.pure,Am]at he;subst he
   have e1:o.op.operands.toList.map a.eval=first.toList.map a.eval++captured.toList.map a.eval:=by rw[ho];simp[Op.operands]
   rw[e1]at hvs
   have hget:∀{l:List Value} {m:List AV},RepL I σ.own θ w l m->∀ j,j<m.length->Rep I σ.own θ w (l.getD j undef) (m.getD j .any):=by
    intro l m h
    induction h with
    | nil=>intro j hj;simp at hj
    | cons h _ ih=>intro j hj;cases j with
     | zero=>simpa using h
     | succ j=>simpa using ih j (by simpa using hj)
   have hg:=hget hvs;refine Ay h hd (v:=.func (.func f) (first.map a.eval) (captured.map a.eval)) (by simp[execOp,ho,Instr.makeFunc]) (.clo f _ _ _ _ (by simp at hlen ⊢;omega) (by simp at hlen ⊢;omega) (fun j hj=>?_) (fun j hj=>?_))
   ·simp only[zzL83]at hj;have:=hg j (by omega)
    have hj1:j<first.size:=by simp at hj;omega
    have e2:(first.toList.map a.eval++captured.toList.map a.eval).getD j undef=(first.map a.eval).getD j undef:=by
     rw[List.getD,Qy (by simpa using hj1)];simp[Array.getD,hj1,List.getD]
    rw[e2]at this
    have hj2:j<first.toList.length:=by simpa using hj1
    rw[show(vs.take first.toList.length).getD j .any=vs.getD j .any by simp[List.getD,zzL117,hj1]];exact this
   ·simp only[Y5]at hj;have:=hg (first.toList.length+j) (by omega)
    have hj1:j<captured.size:=by simp at hj hlen;omega
    have e2:(first.toList.map a.eval++captured.toList.map a.eval).getD (first.toList.length+j) undef=(captured.map a.eval).getD j undef:=by
     rw[List.getD,Us (by simp)];simp[Array.getD,hj1,List.getD]
    rw[e2]at this;rw[show(vs.drop first.toList.length).getD j .any=vs.getD (first.toList.length+j) .any by simp[List.getD,zzL116]];exact this
 ·
  rename_i t x y k l k' c ho
  simp only[ho,Op.operands,C7,D7]at hvs;obtain⟨u,v,hu',hu,hv⟩:=hvs.two;simp only[D8,Bs]at hu';obtain⟨rfl,rfl⟩:=hu'
  split at he
  ·rename_i d e0 hdst hun
   have hown:σ.own d=none:=by simpa [Eh,ho,hdst] using hes.symm
   split at he
   ·rename_i z hz
    cases hb:(Ck P e0&&Nat.ble 1 (A8 P e0)&&Nat.beq z.length (A8 P e0)&&Nat.ble (((P.info? e0).map (·.bytes)).getD 1000) 128) with
    | false=>simp[hb]at he
    | true=>
     simp only[hb,Ag,Am]at he;subst he;simp only[A7]at hb;exact ok_make h hd ho hun hb.1.1.1 hu hv hdst hown hz (Ku hb.1.1.2) (Cb hb.1.2) (Ku hb.2) (hob _ (by simp))
   ·simp at he
  ·simp at he
 ·
  rename_i xs ts nm n ho
  split at he
  ·rename_i t hts
   split at he
   ·rename_i e0 hun
    simp only[Eff.pure,Am]at he;subst he;obtain⟨x,hx,hu⟩:=args_one ho hvs;obtain⟨_,_,_,_,ad,cap,he,_⟩:=hu.vsl_inv
    obtain rfl:xs = #[x]:=by apply Oc;simpa using hx
    obtain rfl:ts = #[t]:=by apply Oc;simpa using hts
    exact Ay h hd (v:=.int .i64 n) (by simp[execOp,ho,resolve,invoke,builtin,Builtin.len_,he,C0 hun,goInt]) (.val _ _ (.int _ _))
   ·simp at he
  ·simp at he
 ·
  rename_i xs ts nm n lo hi ho
  split at he
  ·rename_i t hts
   split at he
   ·rename_i e0 hun
    simp only[Eff.pure,Am]at he;subst he;obtain⟨x,hx,hu⟩:=args_one ho hvs;obtain⟨_,_,_,_,ad,cap,he,_⟩:=hu.vsub_inv
    obtain rfl:xs = #[x]:=by apply Oc;simpa using hx
    obtain rfl:ts = #[t]:=by apply Oc;simpa using hts
    exact Ay h hd (v:=.int .i64 (hi-lo:Nat)) (by simp[execOp,ho,resolve,invoke,builtin,Builtin.len_,he,C0 hun,goInt]) (.val _ _ (.int _ _))
   ·simp at he
  ·simp at he
 ·
  rename_i xs ts nm n sz' n' f' tag' sz0 e0 m f ho
  have hown:σ.own nm=some (.arr sz0 e0 m f):=by simpa [Eh,ho] using hes.symm
  split at he
  ·rename_i t t' hts
   split at he
   ·rename_i e1 hun
    cases hb:(appOK P t t' e1&&(Nat.beq sz' (A8 P e1) || Nat.beq n' 0)&&Nat.beq sz0 (A8 P e1)&&Nat.beq e0 e1) with
    | false=>simp[hb]at he
    | true=>
     simp only[hb,Ag,Am]at he;subst he;simp only[A7]at hb;obtain⟨⟨⟨hok,hsz'⟩,hsz0⟩,he0⟩:=hb;obtain⟨rfl,i,z,hi,hz,hzq,hby,hsi⟩:=appOK_inv hok;obtain rfl:=Cb he0;have hsz0:=Cb hsz0;rw[hsi]at hsz0 hsz';subst hsz0;obtain⟨x,y,hx,hu,hv⟩:=args_two ho hvs;have hnm:n=m:=hob _ (by simp);have hroom:n+n'<=room:=hob _ (by simp);subst hnm;have hV':=Yl hv.slice_val (szor hsz')
     obtain rfl:ts = #[t',t']:=by apply Oc;simpa using hts
     obtain rfl:xs = #[x,y]:=by apply Oc;simpa using hx
     obtain⟨v',w',θ',hr,hk,hrep⟩:=V9 (P:=P) h o.type hun hi hz hzq hby hV' hroom nm (.inr ⟨hown,hu⟩);exact J8 (w':=w') h hd (v:=v') (by simp[execOp,ho,resolve,invoke,builtin,hr]) (by rw[Ca];exact hk) (by rw[Ca];exact hrep)
   ·simp at he
  ·simp at he
 ·
  rename_i xs ts sz n f sz' n' f' tag' ho
  split at he
  ·rename_i t t' d hts hdst
   have hown:σ.own d=none:=by simpa [Eh,ho,hdst] using hes.symm
   split at he
   ·rename_i e1 hun
    cases hb:(hint&&appOK P t t' e1&&(Nat.beq sz' (A8 P e1) || Nat.beq n' 0)&&Nat.beq n 0) with
    | false=>simp[hb]at he
    | true=>
     simp only[hb,Ag,Am]at he;subst he;simp only[A7]at hb;obtain⟨⟨⟨_,hok⟩,hsz'⟩,hn0⟩:=hb;obtain⟨rfl,i,z,hi,hz,hzq,hby,hsi⟩:=appOK_inv hok;obtain rfl:=Cb hn0;rw[hsi]at hsz';obtain⟨x,y,hx,hu,hv⟩:=args_two ho hvs;have hroom:n'<=room:=hob _ (by simp);have hV':=Yl hv.slice_val (szor hsz')
     obtain rfl:ts = #[t',t']:=by apply Oc;simpa using hts
     obtain rfl:xs = #[x,y]:=by apply Oc;simpa using hx
     obtain⟨ad,hvx⟩:=hu.exact_inv;obtain⟨v',w',θ',hr,hk,hrep⟩:=V9 (P:=P) (f:=f') h o.type hun hi hz hzq hby hV' (n:=0) (by omega) d (.inl ⟨hown,rfl,ad,hvx⟩)
     have e1:Nz 0 f' f'=f':=by funext k;rw[Sy _ _ (Rn _)];rfl
     rw[e1,Hy]at hk;rw[e1,Hy]at hrep;rw[hsi];exact J8 (w':=w') h hd (v:=v') (by simp[execOp,ho,resolve,invoke,builtin,hr]) (by rw[Ca];exact hk) (by rw[Ca];exact hrep)
   ·simp at he
  ·simp at he
 ·simp at he
theorem asemX_sound(h:Rel Γ σ I θ a w)(hd:∀ d,o.dst=some d->d<Γ.n){vs:List AV}(hvs:RepL I σ.own θ w (o.op.operands.toList.map a.eval) vs){es:List (Option Own)}(hes:es=(Eh o vs).map σ.own){hint:Nat}
  {e:Eff} (he:asemX P hint o vs es=some e) (hob:∀ p∈e.ob,p):Fd P Γ σ o a w e.v e.wo:=by
 unfold asemX at he
 split at he
 ·rename_i e' he'
  simp only[Am]at he;subst he;exact asemT_sound h hd hvs hes he' hob
 ·split at he
  ·rename_i e' he'
   simp only[Am]at he;subst he;exact asemR_sound h hd hvs hes he' hob
  ·split at he
   ·rename_i e' he'
    simp only[Am]at he;subst he;exact asemI_sound h hd hvs hes he' hob
   ·split at he
    ·rename_i e' he'
     simp only[Am]at he;subst he;exact asemM_sound h hd hvs hes he' hob
    ·split at he
     ·rename_i e' he'
      simp only[Am]at he;subst he;exact asemA_sound h hd hvs hes he' hob
     ·exact asem_sound h hd hvs hes he hob
end
def Spec(P:Program):SpecT:=fun f args H res H'=>
 (∀(az:Array Value) (w:World),(callFunc f az).run P w = .ok (.enter f az) w) /\
 ∀(w:World) (I:Nat->Nat->Prop) (θ:Nat->Option (Nat×Nat)) (az:Array Value),RepL I (Ak H) θ w az.toList args->Ky I (Ak H) θ w->(∀ b o,I b o->∃ u,w.cell? ⟨b,o,none⟩=some u)->GOk I w->
  Calls P f az w fun e w'=>∃ v I' θ',e = .returned v/\Chg (Ak H) θ I w (Ak H') θ' I' w'/\Rep I' (Ak H') θ' w' v res
theorem Bl(ρ:List (Nat×Nat))(l:List AV):(AV.renAll ρ l).length=l.length:=by induction l with|nil=>rfl|cons x l ih=>simp[AV.renAll,ih]
theorem Ld(ρ:List (Nat×Nat))(l:List AV)(j:Nat):(AV.renAll ρ l).getD j .any=(l.getD j .any).ren ρ:=by
 induction l generalizing j with
 | nil=>rfl
 | cons x l ih=>cases j with
  | zero=>rfl
  | succ j=>simp_all [AV.renAll]
theorem RepV.ren{I:Nat->Nat->Prop}{w:World}{v:Value}{x:AV}(h:RepV I w v x)(ρ:List (Nat×Nat)):RepV I w v (x.ren ρ):=by
 induction h with
 | any v=>exact .any v
 | undef=>exact .undef
 | int k n=>exact .int k n
 | bool b=>exact .bool b
 | str s=>exact .str s
 | clo f=>exact .clo f
 | nxt1 i r=>exact .nxt1 i r
 | nxt0 i r=>exact .nxt0 i r
 | nilq b pos n h=>exact .nilq b pos n h
 | err0=>exact .err0
 | err1 t v=>exact .err1 t v
 | nilp=>exact .nilp
 | nilm=>exact .nilm
 | cond v c x _ h' ih=>exact .cond v c _ ih h'
 | rptr a cells us hs hI' hc h1 hr _=>exact .rptr a cells us hs hI' hc h1 hr
 | slice a n cap sz f us hcap hmax hz hn h1 hl hr _=>exact .slice a n cap sz f us hcap hmax hz hn h1 hl hr
 | agg vs cs hl h1 _ ih=>exact .agg vs _ (by rw[Bl,hl]) (fun j hj=>h1 j (by rwa[Bl]at hj)) (fun j hj=>by grind [Bl,Ld])
 | tuple vs cs hl _ ih=>exact .tuple vs _ (by rw[Bl,hl]) (fun j hj=>by grind [Bl,Ld])
theorem Rep.ren{I:Nat->Nat->Prop}{own own':Nat->Option Own}{θ θ':Nat->Option (Nat×Nat)}{w:World}{v:Value}{x:AV}(h:Rep I own θ w v x)(ρ:List (Nat×Nat))
  (ho:∀ nm k o,Ak ρ nm=some k->own nm=some o->own' k=some (o.ren ρ)/\θ' k=θ nm):Rep I own' θ' w v (x.ren ρ):=by
 induction h with
 | val v x h=>exact .val _ _ (h.ren ρ)
 | exact a n sz f h=>exact .exact a n sz f h
 | own nm sz e m a n cap f hn hm hv h=>
  simp only[AV.ren]
  cases hk:Ak ρ nm with
  | some k=>
   obtain⟨h1,h2⟩:=ho nm k _ hk hn;exact .own k sz e m a n cap f h1 hm (by grind) h
  | none=>exact .val _ _ h
 | fam b i sz e m a n cap f hi hn hm hv h=>exact .val _ _ h
 | ptr nm off e cells g c hn hg=>
  simp only[AV.ren]
  cases hk:Ak ρ nm with
  | some k=>
   obtain⟨h1,h2⟩:=ho nm k _ hk hn;exact .ptr k off e _ g c h1 (h2.trans hg)
  | none=>exact .val _ _ (.any _)
 | vsl nm sz e m f a n cap hn hm hcap hmax hnn hv=>
  simp only[AV.ren]
  cases hk:Ak ρ nm with
  | some k=>
   obtain⟨h1,h2⟩:=ho nm k _ hk hn;exact .vsl k sz e m _ a n cap h1 hm hcap hmax hnn (by grind)
  | none=>exact .val _ _ (.any _)
 | vpt nm sz e m f n i j ad hn hm hi hv=>
  simp only[AV.ren]
  cases hk:Ak ρ nm with
  | some k=>
   obtain⟨h1,h2⟩:=ho nm k _ hk hn;exact .vpt k sz e m _ n i j ad h1 hm hi (by grind)
  | none=>exact .val _ _ (.any _)
 | clo f fs cs xs ys hl hl' _ _ ih ih'=>exact .clo f fs cs _ _ (by rw[Bl,hl]) (by rw[Bl,hl']) (fun j hj=>by grind [Bl,Ld]) (fun j hj=>by grind [Bl,Ld])
 | vsub nm sz e m f n lo hi a cap hn hm hlo hhi hcap hmax hnn hv=>
  simp only[AV.ren]
  cases hk:Ak ρ nm with
  | some k=>
   obtain⟨h1,h2⟩:=ho nm k _ hk hn;exact .vsub k sz e m _ n lo hi a cap h1 hm hlo hhi hcap hmax hnn (by grind)
  | none=>exact .val _ _ (.any _)
 | optr nm mm x g c hn hg=>
  simp only[AV.ren]
  cases hk:Ak ρ nm with
  | some k=>
   obtain⟨h1,h2⟩:=ho nm k _ hk hn;exact .optr k _ _ g c h1 (h2.trans hg)
  | none=>exact .val _ _ (.any _)
 | omap nm x hn=>
  simp only[AV.ren]
  cases hk:Ak ρ nm with
  | some k=>
   obtain⟨h1,h2⟩:=ho nm k _ hk hn;rw[<- h2];exact .omap k _ h1
  | none=>exact .val _ _ (.any _)
 | cond v c x _ h' ih=>exact .cond v c _ ih h'
 | agg vs cs hl h1 _ ih=>exact .agg vs _ (by rw[Bl,hl]) (fun j hj=>h1 j (by rwa[Bl]at hj)) (fun j hj=>by grind [Bl,Ld])
 | tuple vs cs hl _ ih=>exact .tuple vs _ (by rw[Bl,hl]) (fun j hj=>by grind [Bl,Ld])
 | rpo a cells us hs hI' hc h1 _ ih=>exact .rpo a _ us hs (fun j hj=>hI' j (by rwa[Bl]at hj)) (fun j hj=>hc j (by rwa[Bl]at hj)) (fun j hj=>h1 j (by rwa[Bl]at hj)) (fun j hj=>by grind [Bl,Ld])
theorem RepL.ren{I:Nat->Nat->Prop}{own own':Nat->Option Own}{θ θ':Nat->Option (Nat×Nat)}{w:World}{l:List Value}{m:List AV}(h:RepL I own θ w l m)(ρ:List (Nat×Nat))
  (ho:∀ nm k o,Ak ρ nm=some k->own nm=some o->own' k=some (o.ren ρ)/\θ' k=θ nm):RepL I own' θ' w l (m.map (AV.ren ρ)):=by
 induction h with
 | nil=>exact .nil
 | cons h _ ih=>exact .cons (h.ren ρ ho) ih
theorem Ka(l:List AV):(AV.looseAll l).length=l.length:=by induction l with|nil=>rfl|cons x l ih=>simp[AV.looseAll,ih]
theorem looseAll_getD(l:List AV)(j:Nat):(AV.looseAll l).getD j .any=(l.getD j .any).loose:=by
 induction l generalizing j with
 | nil=>rfl
 | cons x l ih=>cases j with
  | zero=>rfl
  | succ j=>simp_all [AV.looseAll]
theorem RepV.loose{I:Nat->Nat->Prop}{w:World}{v:Value}{x:AV}(h:RepV I w v x):RepV I w v x.loose:=by
 induction h with
 | agg vs cs hl h1 _ ih=>exact .agg vs _ (by rw[Ka,hl]) (fun j hj=>h1 j (by rwa[Ka]at hj)) (fun j hj=>by grind [looseAll_getD,Ka])
 | any v=>exact .any v
 | undef=>exact .undef
 | int k n=>exact .int k n
 | bool b=>exact .bool b
 | str s=>exact .str s
 | clo f=>exact .clo f
 | nxt1 i r=>exact .nxt1 i r
 | nxt0 i r=>exact .nxt0 i r
 | nilq b pos n h=>exact .nilq b pos n h
 | err0=>exact .err0
 | err1 t v=>exact .err1 t v
 | nilp=>exact .nilp
 | nilm=>exact .nilm
 | cond v c x h h'=>exact .cond v c x h h'
 | rptr a cells us hs hI hc h1 hr=>exact .rptr a cells us hs hI hc h1 hr
 | slice a n cap sz f us hcap hmax hz hn h1 hl hr=>exact .slice a n cap sz f us hcap hmax hz hn h1 hl hr
 | tuple vs cs hl hr=>exact .tuple vs cs hl hr
theorem Rep.loose{I:Nat->Nat->Prop}{own:Nat->Option Own}{θ:Nat->Option (Nat×Nat)}{w:World}{v:Value}{x:AV}(h:Rep I own θ w v x):Rep I own θ w v x.loose:=by
 induction h with
 | val v x h=>exact .val _ _ h.loose
 | exact a n sz f h=>exact .val _ _ h
 | own nm sz e m a n cap f ho hm hv h=>exact .own nm sz e m a n cap f ho hm hv h
 | fam b i sz e m a n cap f hi ho hm hv h=>exact .fam b i sz e m a n cap f hi ho hm hv h
 | ptr nm off e cells g c ho hg=>exact .ptr nm off e cells g c ho hg
 | vsl nm sz e m f a n cap ho hm hcap hmax hn hv=>exact .vsl nm sz e m f a n cap ho hm hcap hmax hn hv
 | vpt nm sz e m f n i j ad ho hm hi hv=>exact .vpt nm sz e m f n i j ad ho hm hi hv
 | clo f fs cs xs ys hl hl' hr hr' _ _=>exact .clo f fs cs xs ys hl hl' hr hr'
 | vsub nm sz e m f n lo hi a cap ho hm hlo hhi hcap hmax hn hv=>exact .vsub nm sz e m f n lo hi a cap ho hm hlo hhi hcap hmax hn hv
 | optr nm mm x g c ho hg=>exact .optr nm mm x g c ho hg
 | omap nm x ho=>exact .omap nm x ho
 | cond v c x h h' _=>exact .cond v c x h h'
 | agg vs cs hl h1 _ ih=>exact .agg vs _ (by rw[Ka,hl]) (fun j hj=>h1 j (by rwa[Ka]at hj)) (fun j hj=>by grind [looseAll_getD,Ka])
 | tuple vs cs hl hr _=>exact .tuple vs cs hl hr
 | rpo a cells us hs hI' hc h1 hr _=>exact .rpo a cells us hs hI' hc h1 hr
theorem RepL.loose{I:Nat->Nat->Prop}{own:Nat->Option Own}{θ:Nat->Option (Nat×Nat)}{w:World}{l:List Value}{m:List AV}(h:RepL I own θ w l m):RepL I own θ w l (m.map AV.loose):=by
 induction h with
 | nil=>exact .nil
 | cons h _ ih=>exact .cons h.loose ih
theorem Mn{α:Type}{l:List (Nat×α)}{k:Nat}{v:α}(h:Ak l k=some v):(k,v)∈l:=by
 induction l with
 | nil=>cases h
 | cons x l ih=>
  obtain⟨k',v'⟩:=x;simp only[Ak]at h
  grind [Cb]
theorem memB_mem{n:Nat}{l:List Nat}:D5 n l=true↔n∈l:=by
 induction l with
 | nil=>simp[D5]
 | cons k l ih=>
  simp only[D5,Y7,ih,zzL28]
  constructor
  ·grind [Cb]
  ·rintro(rfl|h)
   ·simp
   grind
theorem Nf{l:List Nat}(h:Vh l=true):l.Nodup:=by
 induction l with
 | nil=>simp
 | cons k l ih=>
  simp only[Vh,A7,Nr]at h
  grind [memB_mem]
theorem Qr{α:Type}{l:List (Nat×α)}(hn:(l.map (·.1)).Nodup){k:Nat}{v:α}(h:(k,v)∈l):Ak l k=some v:=by
 induction l with
 | nil=>cases h
 | cons x l ih=>
  obtain⟨k',v'⟩:=x;simp only[C7,zzL110]at hn;simp only[Ak];rcases zzL28.1 h with h|h
  ·cases h;simp
  grind [Cb]
theorem Ub{α:Type}{l:List (Nat×α)}{k:Nat}(h:k∉l.map (·.1)):Ak l k=none:=by
 cases hl:Ak l k with
 | none=>rfl
 | some v=>exact(h (zzL27.2 ⟨_,Mn hl,rfl⟩)).elim
def Km(l:List (Nat×Nat)):List (Nat×Nat):=l.map fun x=>(x.2,x.1)
theorem P2{l:List (Nat×Nat)}(h1:(l.map (·.1)).Nodup)(h2:(l.map (·.2)).Nodup){k c:Nat}:Ak l k=some c↔Ak (Km l) c=some k:=by
 have e:(Km l).map (·.1)=l.map (·.2):=by simp[Km]
 constructor
 ·intro h;exact Qr (by grind) (zzL27.2 ⟨_,Mn h,rfl⟩)
 ·intro h;obtain⟨x,hx,hx'⟩:=zzL27.1 (Mn h)
  grind [Qr]
theorem look_map{α β:Type}(g:α->β)(l:List (Nat×α))(k:Nat):Ak (l.map fun x=>(x.1,g x.2)) k=(Ak l k).map g:=by
 induction l with
 | nil=>rfl
 | cons x l ih=>
  grind [Ak]
theorem allNone_map{l:List Nat}{own:Nat->Option Own}(h:allNone (l.map own)=true):∀ n∈l,own n=none:=by
 induction l with
 | nil=>simp
 | cons k l ih=>
  grind [C7,allNone,zzL28]
theorem handIn_spec{own:Nat->Option Own}{tl:List (Option Own)}:∀{hs:List (Nat×Nat)} {H:List (Nat×Own)},X0 hs (hs.map (fun x=>own x.1)++tl)=some H->
  H.map (·.1)=hs.map (·.2)/\∀ c k,(c,k)∈hs->∃ o,own c=some o/\(k,o)∈H
 | [],H,h=>by grind [X0]
 | (c,k)::hs,H,h=>by
  simp only[C7,zzL92]at h
  cases hc:own c with
  | none=>grind [X0]
  | some o=>
   rw[hc]at h;simp only[X0]at h
   cases hr:X0 hs (hs.map (fun x=>own x.1)++tl) with
   | none=>grind
   | some H'=>
    rw[hr]at h;simp only[Am]at h;subst h;obtain⟨h1,h2⟩:=handIn_spec hr
    grind
section
variable {P:Program} {Γ:Iw} {σ:Sto} {I:Nat->Nat->Prop} {θ:Nat->Option (Nat×Nat)} {a:Act} {w:World} {o:Oper}
theorem OwnLe_ren{o o':Own}{t t':Option (Nat×Nat)}(ρ ρ':List (Nat×Nat))(h:OwnLe (o.ren ρ) t o' t'):OwnLe o t (o'.ren ρ') t':=by
 cases o<;>cases o'<;>trivial
theorem chg_call {own own' : Nat → Option Own} {θ θ' : Nat → Option (Nat × Nat)} {I I' : Nat → Nat → Prop} {w w' : World} (hrel : Ky I own θ w) {co co' : Nat → Option Own} {ct ct' : Nat → Option (Nat × Nat)}
    {hs bk : List (Nat × Nat)} (k : Chg co ct I w co' ct' I' w')
    (hco : ∀ n, co n ≠ none → ∃ c o, (c, n) ∈ hs ∧ own c = some o ∧ co n = some (o.ren hs) ∧ ct n = θ c)
    (hhs : ∀ c n o, (c, n) ∈ hs → own c = some o → co n = some (o.ren hs) ∧ ct n = θ c ∧ Ak bk n = some c)
    (hbk1 : ∀ n c, Ak bk n = some c → (∃ o, (c, n) ∈ hs ∧ own c = some o) ∨ own c = none)
    (hbk : ∀ n c o, Ak bk n = some c → co' n = some o → own' c = some (o.ren bk) ∧ θ' c = ct' n)
    (hoth : ∀ c, (∀ n, co' n ≠ none → Ak bk n ≠ some c) → own' c = own c ∧ θ' c = θ c) :
    Chg own θ I w own' θ' I' w' := by
  have hle : ∀ nm o, own nm = some o → ∃ o', own' nm = some o' ∧ OwnLe o (θ nm) o' (θ' nm) := fun nm o ho => by
    by_cases hx : ∃ n, (nm, n) ∈ hs
    · obtain ⟨n, hn⟩ := hx; obtain ⟨h1, h2, h3⟩ := hhs nm n o hn ho; obtain ⟨o', ho', hl⟩ := k.le n _ h1
      grind [OwnLe_ren]
    · obtain ⟨h1, h2⟩ := hoth nm (fun n hn hb => by
        grind)
      exact ⟨o, h1.trans ho, by rw [h2]; exact .refl _ _⟩
  have hmono : ∀ v x, Rep I own θ w v x → Rep I' own' θ' w' v x := fun v x h => h.mono k.imm k.cell hle
  have hfar : ∀ c g cc, (∀ n, co' n ≠ none → Ak bk n ≠ some c) → own c ≠ none → θ c = some (g, cc) → ∀ n cc', co n ≠ none → ct n ≠ some (g, cc') := fun c g cc hc ho hg n cc' hn hg' => by
    obtain ⟨c', o', hm, ho', _, ht⟩ := hco n hn; rw [ht] at hg'; have := hrel.inj c c' g cc cc' ho (by simp [ho']) hg hg'; subst this; obtain ⟨h1, h2, h3⟩ := hhs c n o' hm ho'; obtain ⟨o'', ho'', _⟩ := k.le n _ h1
    grind
  refine { imm := k.imm, cell := k.cell, le := hle, rel := ?_, valid := k.valid, os := k.os, tape := k.tape, output := k.output, drawn := k.drawn, grow := k.grow, frame := fun b hb hn => k.frame b hb (fun n cc hn' hg => ?_),
           new := fun nm g c ho hg => ?_, immNew := fun b o h => ?_ }
  ·
    have hsplit : ∀ nm, (∃ n, co' n ≠ none ∧ Ak bk n = some nm) ∨ (own' nm = own nm ∧ θ' nm = θ nm ∧ ∀ n, co' n ≠ none → Ak bk n ≠ some nm) := fun nm => by
      grind
    have hkeep : ∀ nm g cc, (∀ n, co' n ≠ none → Ak bk n ≠ some nm) → own nm ≠ none → θ nm = some (g, cc) → w'.heap[g]? = w.heap[g]? ∧ ∀ j, I' g j → I g j := fun nm g cc hn ho hg => by
      have hlt := Lb hrel ho hg; have hf := hfar nm g cc hn ho hg; refine ⟨k.frame g hlt hf, fun j hj => ?_⟩; rcases k.immNew g j hj with h | h | ⟨n, c, h1, h2⟩
      · exact h
      · omega
      grind
    refine ⟨fun nm e0 cells ho => ?_, fun nm sz e m ho g c hg => ?_, fun nm nm' g c c' ho ho' hg hg' => ?_, fun nm sz e m f ho => ?_, fun nm x ho => ?_, fun nm sz m ho hnn => ?_⟩
    rotate_left 5
    · rcases hsplit nm with ⟨n, hn, hb⟩ | ⟨h1, h2, h3⟩
      · cases hcn : co' n with
        | none => grind
        | some o' =>
          obtain ⟨h1, h2⟩ := hbk n nm o' hb hcn; rw [ho] at h1
          cases o' with
          | row => simp [Own.ren] at h1
          | arr => simp [Own.ren] at h1
          | obj => simp [Own.ren] at h1
          | tok s' e' m' =>
            simp only [Own.ren, Am, Own.tok.injEq] at h1; obtain ⟨rfl, rfl, rfl⟩ := h1; exact k.rel.tok8 n _ _ hcn (h2.symm.trans hnn)
      · rw [h1] at ho; exact hrel.tok8 nm sz m ho (h2.symm.trans hnn)
    rotate_left 4
    · rcases hsplit nm with ⟨n, hn, hb⟩ | ⟨h1, h2, h3⟩
      · cases hcn : co' n with
        | none => grind
        | some o' =>
          obtain ⟨h1, h2⟩ := hbk n nm o' hb hcn; rw [ho] at h1
          cases o' with
          | tok => simp [Own.ren] at h1
          | row => simp [Own.ren] at h1
          | arr => simp [Own.ren] at h1
          | obj x' =>
            simp only [Own.ren, Am, Own.obj.injEq] at h1; subst h1; exact Lr (k.rel.obj n _ hcn) h2 (fun _ _ _ => rfl) (fun _ _ _ _ h => h) (fun _ h => h.on _ (fun _ _ h => h) (fun _ _ _ => rfl) fun v y hv => hv.ren bk (fun n' c' o h h' => hbk n' c' o h h')) on_nil
      · rw [h1] at ho; exact Lr (hrel.obj nm _ ho) h2 (fun g c hg => (hkeep nm g c h3 (by simp [ho]) hg).1) (fun g c j hg hj => (hkeep nm g c h3 (by simp [ho]) hg).2 j hj) (fun _ h => h.mono hmono) Tj
    rotate_left 3
    · rcases hsplit nm with ⟨n, hn, hb⟩ | ⟨h1, h2, h3⟩
      · cases hcn : co' n with
        | none => grind
        | some o' =>
          obtain ⟨h1, h2⟩ := hbk n nm o' hb hcn; rw [ho] at h1
          cases o' with
          | tok => simp [Own.ren] at h1
          | row => simp [Own.ren] at h1
          | obj => simp [Own.ren] at h1
          | arr s' e' m' f' =>
            simp only [Own.ren, Am, Own.arr.injEq] at h1; obtain ⟨rfl, rfl, rfl, rfl⟩ := h1; exact O4 (k.rel.arr n _ _ _ _ hcn) h2 (fun _ _ _ => rfl) (fun _ _ _ _ h => h) (fun i _ => Bl _ _) (fun v i j _ _ hv => by rw [Ld]; exact hv.ren bk (fun n' c' o h h' => hbk n' c' o h h'))
      · rw [h1] at ho; exact O4 (hrel.arr nm _ _ _ _ ho) h2 (fun g c hg => (hkeep nm g c h3 (by simp [ho]) hg).1) (fun g c j hg hj => (hkeep nm g c h3 (by simp [ho]) hg).2 j hj) (fun _ _ => rfl) (fun v i j _ _ hv => hmono _ _ hv)
    · rcases hsplit nm with ⟨n, hn, hb⟩ | ⟨h1, h2, h3⟩
      · cases hcn : co' n with
        | none => grind
        | some o' =>
          obtain ⟨h1, h2⟩ := hbk n nm o' hb hcn; rw [ho] at h1
          cases o' with
          | tok => simp [Own.ren] at h1
          | arr => simp [Own.ren] at h1
          | obj => simp [Own.ren] at h1
          | row e' cs =>
            simp only [Own.ren, Am, Own.row.injEq] at h1; obtain ⟨rfl, rfl⟩ := h1; obtain ⟨g, c, vs, r1, r2, r3, r4, r5, r6⟩ := k.rel.row n _ cs hcn; refine ⟨g, c, vs, h2.trans r1, r2, by grind [Bl], fun j hj => r4 j (by rwa [Bl] at hj), fun j hj => ?_, r6⟩; rw [Ld]; exact (r5 j (by rwa [Bl] at hj)).ren bk (fun n' c' o h h' => hbk n' c' o h h')
      · rw [h1] at ho; obtain ⟨g, c, vs, r1, r2, r3, r4, r5, r6⟩ := hrel.row nm _ cells ho; obtain ⟨q1, q2⟩ := hkeep nm g c h3 (by simp [ho]) r1; exact ⟨g, c, vs, h2.trans r1, q1.trans r2, r3, r4, fun j hj => hmono _ _ (r5 j hj), fun j hj => r6 j (q2 j hj)⟩
    · rcases hsplit nm with ⟨n, hn, hb⟩ | ⟨h1, h2, h3⟩
      · cases hcn : co' n with
        | none => grind
        | some o' =>
          obtain ⟨h1, h2⟩ := hbk n nm o' hb hcn; rw [ho] at h1
          cases o' with
          | row => simp [Own.ren] at h1
          | arr => simp [Own.ren] at h1
          | obj => simp [Own.ren] at h1
          | tok s' e' m' =>
            simp only [Own.ren, Am, Own.tok.injEq] at h1; obtain ⟨rfl, rfl, rfl⟩ := h1; exact k.rel.tok n _ _ _ hcn g c (by grind)
      · rw [h1] at ho; rw [h2] at hg; obtain ⟨cur, fz, r1, r2, r3, r4, r5', r5⟩ := hrel.tok nm sz e m ho g c hg; obtain ⟨q1, q2⟩ := hkeep nm g c h3 (by simp [ho]) hg
        grind
    · have hθb : ∀ n nm, co' n ≠ none → Ak bk n = some nm → θ' nm = ct' n := fun n nm hn hb => by
        cases hcn : co' n with
        | none => grind
        | some o' => grind
      have hmix : ∀ nm nm' n c c', co' n ≠ none → Ak bk n = some nm → (∀ n, co' n ≠ none → Ak bk n ≠ some nm') → own nm' ≠ none → θ nm' = some (g, c') → ct' n = some (g, c) → False := fun nm nm' n c c' hn hb h3 ho hg hg' => by
        have hlt := Lb hrel ho hg; rcases k.new n g c hn hg' with h | ⟨n', cc, h, h'⟩
        · omega
        · exact hfar nm' g c' h3 ho hg n' cc h h'
      rcases hsplit nm with ⟨n, hn, hb⟩ | ⟨h1, h2, h3⟩ <;> rcases hsplit nm' with ⟨n', hn', hb'⟩ | ⟨h1', h2', h3'⟩
      · rw [hθb n nm hn hb] at hg; rw [hθb n' nm' hn' hb'] at hg'; have := k.rel.inj n n' g c c' hn hn' hg hg'
        grind
      · rw [hθb n nm hn hb] at hg; rw [h1'] at ho'; rw [h2'] at hg'; exact (hmix nm nm' n c c' hn hb h3' ho' hg' hg).elim
      · rw [hθb n' nm' hn' hb'] at hg'; rw [h1] at ho; rw [h2] at hg; exact (hmix nm' nm n' c' c hn' hb' h3 ho hg hg').elim
      · rw [h1] at ho; rw [h1'] at ho'; rw [h2] at hg; rw [h2'] at hg'; exact hrel.inj nm nm' g c c' ho ho' hg hg'
  · grind
  · by_cases hx : ∃ n, co' n ≠ none ∧ Ak bk n = some nm
    · obtain ⟨n, hn, hb⟩ := hx
      cases hcn : co' n with
      | none => grind
      | some o' =>
        obtain ⟨_, h2⟩ := hbk n nm o' hb hcn; rw [h2] at hg; rcases k.new n g c hn hg with h | ⟨n', cc, h, h'⟩
        · grind
        · obtain ⟨c', o'', hm, ho', _, ht⟩ := hco n' h
          grind
    grind
  · rcases k.immNew b o h with h | h | ⟨n, c, h1, h2⟩
    · grind
    · grind
    grind
theorem ok_call1(h:Rel Γ σ I θ a w)(hd:∀ d,o.dst=some d->d<Γ.n){f:FuncId}{ws:List Value}(hexec:(execOp a.eval o).run P w = .ok (.enter f ws.toArray) w)
  {r:U0} {es:List (Option Own)} (hes:es=(r.hs.map (·.1)++r.fr.map (·.2)).map σ.own) {H:List (Nat×Own)} (hH:X0 r.hs es=some H) (hc:Ry es r=true)
  (hq:Ky I (Ak (H.map fun x=>(x.1,x.2.ren r.hs))) (fun n=>(Ak (Km r.hs) n).bind θ) w->(∀ nm k o,Ak r.hs nm=some k->σ.own nm=some o->Ak (H.map fun x=>(x.1,x.2.ren r.hs)) k=some (o.ren r.hs)/\(Ak (Km r.hs) k).bind θ=θ nm)->
   Calls P f ws.toArray w fun e w'=>∃ v I' θ',e = .returned v/\Chg (Ak (H.map fun x=>(x.1,x.2.ren r.hs))) (fun n=>(Ak (Km r.hs) n).bind θ) I w (Ak r.H) θ' I' w'/\Rep I' (Ak r.H) θ' w' v r.res) :
  Fd P Γ σ o a w (r.res.ren (Gm r)) (O5 r):=by
   simp only[Ry,A7]at hc;obtain⟨⟨⟨⟨⟨c1,c2⟩,c3⟩,c4⟩,c5⟩,c6⟩:=hc;have c2:=Nf c2;have c3:=Nf c3;have c4:=Nf c4;have c5:=Nf c5
   have hes':es=r.hs.map (fun x=>σ.own x.1)++r.fr.map (fun x=>σ.own x.2):=by
    rw[hes];simp[zzL112]
   rw[hes']at hH c1
   have hfr:∀ k c,(k,c)∈r.fr->σ.own c=none:=fun k c hm=>by
    have hl:(r.hs.map (fun x=>σ.own x.1)).length=r.hs.length:=by simp
    rw[<- hl,List.drop_left]at c1
    have e1:r.fr.map (fun x=>σ.own x.2)=(r.fr.map (·.2)).map σ.own:=by simp[zzL112]
    rw[e1]at c1;exact allNone_map c1 c (zzL27.2 ⟨_,hm,rfl⟩)
   obtain⟨h1,h2⟩:=handIn_spec hH;have hbk:Gm r=Km r.hs++r.fr:=rfl
   have hHn:(H.map (·.1)).Nodup:=by
    rw[h1]
    have:(Gm r).map (·.1)=r.hs.map (·.2)++r.fr.map (·.1):=by simp[Gm,zzL112]
    rw[this]at c3;exact(List.nodup_append.1 c3).1
   have hsn:((Km r.hs).map (·.1)).Nodup:=by
    have:(Km r.hs).map (·.1)=r.hs.map (·.2):=by simp[Km]
    rw[this,<- h1];exact hHn
   have hHl:∀ c n,(c,n)∈r.hs->∃ o,σ.own c=some o/\Ak H n=some o:=fun c n hm=>by
    obtain⟨o',ho',hm'⟩:=h2 c n hm;exact⟨o',ho',Qr hHn hm'⟩
   have hco:∀ n,Ak (H.map fun x=>(x.1,x.2.ren r.hs)) n=(Ak H n).map (Own.ren r.hs):=fun n=>look_map _ _ _
   have hct:∀ c n,(c,n)∈r.hs->(Ak (Km r.hs) n).bind θ=θ c:=fun c n hm=>by
    rw[Qr hsn (zzL27.2 ⟨_,hm,rfl⟩)];rfl
   have hbkh:∀ c n,(c,n)∈r.hs->Ak (Gm r) n=some c:=fun c n hm=>Qr c3 (by rw[hbk];exact zzL18.2 (.inl (zzL27.2 ⟨_,hm,rfl⟩)))
   have hin:∀ nm k o,Ak r.hs nm=some k->σ.own nm=some o->Ak (H.map fun x=>(x.1,x.2.ren r.hs)) k=some (o.ren r.hs)/\(Ak (Km r.hs) k).bind θ=θ nm:=fun nm k o hl ho'=>by
    grind [Mn]
   have hcown:∀ n,Ak (H.map fun x=>(x.1,x.2.ren r.hs)) n≠none->∃ c o,(c,n)∈r.hs/\σ.own c=some o/\Ak (H.map fun x=>(x.1,x.2.ren r.hs)) n=some (o.ren r.hs)/\(Ak (Km r.hs) n).bind θ=θ c:=fun n hn=>by
    rw[hco]at hn
    cases hl:Ak H n with
    | none=>grind
    | some o'=>
     have hm:n∈H.map (·.1):=zzL27.2 ⟨_,Mn hl,rfl⟩
     grind
   have hrelc:Ky I (Ak (H.map fun x=>(x.1,x.2.ren r.hs))) (fun n=>(Ak (Km r.hs) n).bind θ) w:=by
    have hrel:=h.chg.rel;refine⟨fun nm e0 cells hn=>?_,fun nm sz e m hn g c hg=>?_,fun nm nm' g c c' hn hn' hg hg'=>?_,fun nm sz e m f hn=>?_,fun nm x hn=>?_,fun nm sz m hn hnn=>?_⟩
    rotate_left 5
    ·obtain⟨c',o',hm,ho',hl,ht⟩:=hcown nm (by simp[hn]);rw[hl]at hn
     cases o' with
     | row=>simp[Own.ren]at hn
     | arr=>simp[Own.ren]at hn
     | obj=>simp[Own.ren]at hn
     | tok s' e' m'=>
      simp only[Own.ren,Am,Own.tok.injEq]at hn;obtain⟨rfl,rfl,rfl⟩:=hn;exact hrel.tok8 c' _ _ ho' (ht.symm.trans hnn)
    rotate_left 4
    ·obtain⟨c,o',hm,ho',hl,ht⟩:=hcown nm (by simp[hn]);rw[hl]at hn
     cases o' with
     | tok=>simp[Own.ren]at hn
     | row=>simp[Own.ren]at hn
     | arr=>simp[Own.ren]at hn
     | obj x'=>
      simp only[Own.ren,Am,Own.obj.injEq]at hn;subst hn;exact Lr (θ':=fun n=>(Ak (Km r.hs) n).bind θ) (nm':=nm) (hrel.obj c _ ho') ht (fun _ _ _=>rfl) (fun _ _ _ _ h=>h) (fun _ h=>h.on _ (fun _ _ h=>h) (fun _ _ _=>rfl) fun v y hv=>hv.ren r.hs hin) on_nil
    rotate_left 3
    ·obtain⟨c,o',hm,ho',hl,ht⟩:=hcown nm (by simp[hn]);rw[hl]at hn
     cases o' with
     | tok=>simp[Own.ren]at hn
     | row=>simp[Own.ren]at hn
     | obj=>simp[Own.ren]at hn
     | arr s' e' m' f'=>
      simp only[Own.ren,Am,Own.arr.injEq]at hn;obtain⟨rfl,rfl,rfl,rfl⟩:=hn;exact O4 (hrel.arr c _ _ _ _ ho') ht (fun _ _ _=>rfl) (fun _ _ _ _ h=>h) (fun i _=>Bl _ _) (fun v i j _ _ hv=>by rw[Ld];exact hv.ren r.hs hin)
    ·obtain⟨c,o',hm,ho',hl,ht⟩:=hcown nm (by simp[hn]);rw[hl]at hn
     cases o' with
     | tok=>simp[Own.ren]at hn
     | arr=>simp[Own.ren]at hn
     | obj=>simp[Own.ren]at hn
     | row e' cs=>
      simp only[Own.ren,Am,Own.row.injEq]at hn;obtain⟨rfl,rfl⟩:=hn;obtain⟨g,cc,vs',r1,r2,r3,r4,r5,r6⟩:=hrel.row c _ cs ho';refine⟨g,cc,vs',ht.trans r1,r2,by grind [Bl],fun j hj=>r4 j (by rwa[Bl]at hj),fun j hj=>?_,r6⟩;rw[Ld];exact(r5 j (by rwa[Bl]at hj)).ren r.hs hin
    ·obtain⟨c',o',hm,ho',hl,ht⟩:=hcown nm (by simp[hn]);rw[hl]at hn
     cases o' with
     | row=>simp[Own.ren]at hn
     | arr=>simp[Own.ren]at hn
     | obj=>simp[Own.ren]at hn
     | tok s' e' m'=>
      simp only[Own.ren,Am,Own.tok.injEq]at hn;obtain⟨rfl,rfl,rfl⟩:=hn;exact hrel.tok c' _ _ _ ho' g c (by grind)
    ·obtain⟨c1',o1,hm,ho1,_,ht⟩:=hcown nm hn;obtain⟨c2',o2,hm',ho2,_,ht'⟩:=hcown nm' hn';rw[ht]at hg;rw[ht']at hg';have:=hrel.inj c1' c2' g c c' (by simp[ho1]) (by simp[ho2]) hg hg'
     grind [P2]
   intro K Q hK;unfold Oper.wp;rw[hexec];simp only[Oper.upon];refine Calls.mono (hq hrelc hin) fun e' w' hq=>?_;obtain⟨v,I',ct',rfl,kc,hres⟩:=hq
   have hwo:∀ n c o',Ak (Gm r) n=some c->Ak r.H n=some o'->Ak (O5 r) c=some (o'.ren (Gm r)):=fun n c o' hb hl=>
    Qr c5 (zzL27.2 ⟨(n,o'),Mn hl,by simp[hb]⟩)
   have hwo':∀ c,(∀ n,Ak r.H n≠none->Ak (Gm r) n≠some c)->Ak (O5 r) c=none:=fun c hn=>Ub fun hm=>by
    obtain⟨x,hx,rfl⟩:=zzL27.1 hm;obtain⟨⟨n,o'⟩,hm',rfl⟩:=zzL27.1 hx;have hmem:n∈(Gm r).map (·.1):=memB_mem.1 (zzL29.1 c6 _ hm');obtain⟨⟨n',c'⟩,hb,rfl⟩:=zzL27.1 hmem;have hb':=Qr c3 hb;have hl:=Qr c4 hm'
    grind
   have hinj:∀ n n' c,Ak (Gm r) n=some c->Ak (Gm r) n'=some c->n=n':=fun n n' c e1 e2=>by
    grind [P2]
   let θ':Nat->Option (Nat×Nat):=fun c=>match Ak (Km (Gm r)) c with|some n=>if(Ak r.H n).isSome then ct' n else θ c|none=>θ c
   have hθ1:∀ n c o',Ak (Gm r) n=some c->Ak r.H n=some o'->θ' c=ct' n:=fun n c o' hb hl=>by
    grind [P2]
   have hθ2:∀ c,(∀ n,Ak r.H n≠none->Ak (Gm r) n≠some c)->θ' c=θ c:=fun c hn=>by
    simp only[θ']
    split
    ·grind [P2]
    ·rfl
   have hbk2:∀ n c o',Ak (Gm r) n=some c->Ak r.H n=some o'->(σ.upd o.dst (r.res.ren (Gm r)) (O5 r)).own c=some (o'.ren (Gm r))/\θ' c=ct' n:=fun n c o' hb hl=>
    ⟨by grind [Sto.upd],hθ1 n c o' hb hl⟩
   have kk:Chg σ.own θ I w (σ.upd o.dst (r.res.ren (Gm r)) (O5 r)).own θ' I' w':=by
    refine chg_call (hs:=r.hs) (bk:=Gm r) h.chg.rel kc hcown (fun c n o' hm ho'=>?_) (fun n c hb=>?_) hbk2 (fun c hn=>⟨by grind [Sto.upd],hθ2 c hn⟩)
    ·obtain⟨o'',ho'',hl⟩:=hHl c n hm
     grind
    ·have hm:=Mn hb;rw[hbk]at hm;rcases zzL18.1 hm with hm|hm
     ·obtain⟨⟨c',n'⟩,hm',he'⟩:=zzL27.1 hm
      grind
     grind
   exact hK I' θ' _ _ (rel_put h kk (hres.ren (Gm r) hbk2) hd)
theorem look_roWo{ro:List Nat}{k:Nat}:∀{wo:List (Nat×Own)},Ak (roWo ro wo) k=if D5 k ro=true then none else Ak wo k
 | []=>by simp[roWo,Ak]
 | (n,o)::wo=>by
  have ih:=look_roWo (ro:=ro) (k:=k) (wo:=wo);unfold roWo at ih ⊢
  cases hb:D5 n ro with
  | true=>
   grind [Nat.beq,List.filter_cons_of_neg,Ak,Cb]
  | false=>
   rw[List.filter_cons_of_pos (by simp[hb])]
   cases hn:Nat.beq n k with
   | true=>grind [Ak,Cb]
   | false=>grind [Ak]
theorem roOb_look{own:Nat->Option Own}{ro:List Nat}{wo:List (Nat×Own)}{k:Nat}(hk:D5 k ro=true):∀{hs:List (Nat×Nat)} {tl:List (Option Own)},D5 k (hs.map (·.1))=true->(∀ p∈roOb ro wo hs ((hs.map (·.1)).map own++tl),p)->Ak wo k=own k
 | [],_,h,_=>by cases h
 | (n,m)::hs,tl,h,hp=>by
  simp only[C7,zzL92,roOb,zzL18]at hp;simp only[C7,D5]at h
  cases hb:Nat.beq n k with
  | true=>
   simp_all
  | false=>rw[hb,zzL132]at h;exact roOb_look hk h (fun p h'=>hp p (.inr h'))
theorem ok_call0(h:Rel Γ σ I θ a w)(hd:∀ d,o.dst=some d->d<Γ.n){f:FuncId}{vs:List AV}{ws:List Value}(hex:(execOp a.eval o).run P w=(callFunc f ws.toArray).run P w)(hvs:RepL I σ.own θ w ws vs)
  {r:U0} {es:List (Option Own)} (hes:es=(r.hs.map (·.1)++r.fr.map (·.2)).map σ.own) {e:Eff} (he:aCall0 (Spec P) f vs es r=some e) (hob:∀ p∈e.ob,p):Fd P Γ σ o a w e.v e.wo:=by
 unfold aCall0 at he
 split at he
 ·rename_i H hH
  cases hc:Ry es r with
  | false=>grind
  | true=>
   simp only[hc,Ag]at he
   have key:Spec P f ((vs.map (AV.ren r.hs)).map AV.loose) (H.map fun x=>(x.1,x.2.ren r.hs)) r.res r.H->Fd P Γ σ o a w (r.res.ren (Gm r)) (O5 r):=fun⟨henter,hspec⟩=>by
    refine ok_call1 h hd (hex.trans (henter _ _)) hes hH hc fun hrelc hin=>?_;exact hspec w I (fun n=>(Ak (Km r.hs) n).bind θ) ws.toArray (by have:=(hvs.ren r.hs hin).loose;exact this) hrelc h.chg.valid h.glob
   cases hro:isNil r.ro with
   | true=>
    simp only[hro,Ag,Am]at he;subst he
    simp_all
   | false=>
    simp only[hro,Aq]at he
    cases hall:(r.ro.all fun n=>D5 n (r.hs.map (·.1))) with
    | false=>grind
    | true=>
     simp only[hall,Ag,Am]at he;subst he;have base:=key (hob _ (zzL28.2 (.inl rfl)));have hob':∀ p∈roOb r.ro (O5 r) r.hs es,p:=fun p hp=>hob p (zzL28.2 (.inr hp))
     have e:σ.upd o.dst (r.res.ren (Gm r)) (roWo r.ro (O5 r))=σ.upd o.dst (r.res.ren (Gm r)) (O5 r):=by
      unfold Sto.upd
      congr 1
      funext nm
      rw[look_roWo]
      cases hm:D5 nm r.ro with
      | false=>simp
      | true=>
       have hm':D5 nm (r.hs.map (·.1))=true:=by
        rw[zzL29]at hall;exact hall nm (memB_mem.1 hm)
       rw[hes,Y0]at hob';rw[roOb_look hm hm' hob']
       grind
     intro K Q hK;refine base K Q fun I' θ' a' w' hr=>hK I' θ' a' w' ?_
     grind
 ·cases he
theorem Nl(l:List (Nat×Own))(m:List AV):(AV.vsAll l m).length=m.length:=by induction m with|nil=>rfl|cons x m ih=>simp[AV.vsAll,ih]
theorem vsAll_getD(l:List (Nat×Own))(m:List AV)(j:Nat):(AV.vsAll l m).getD j .any=(m.getD j .any).vs l:=by
 induction m generalizing j with
 | nil=>rfl
 | cons x m ih=>cases j with
  | zero=>rfl
  | succ j=>simp_all [AV.vsAll]
theorem vsOb_getD{l:List (Nat×Own)}{m:List AV}(h:∀ p∈AV.vsObAll l m,p)(j:Nat):∀ p∈(m.getD j .any).vsOb l,p:=by
 induction m generalizing j with
 | nil=>trivial
 | cons x m ih=>
  simp only[AV.vsObAll,zzL18]at h
  cases j with
  | zero=>grind
  | succ j=>intro p hp;exact ih (fun p hp=>h p (.inr hp)) j p (by grind)
theorem O7{m:List AV}(h:AV.flatAll m=true)(j:Nat):(m.getD j .any).flat=true:=by
 induction m generalizing j with
 | nil=>rfl
 | cons x m ih=>
  simp only[AV.flatAll,A7]at h
  cases j with
  | zero=>grind
  | succ j=>simp_all
theorem RepV.flat{I I':Nat->Nat->Prop}{w w':World}{v:Value}{x:AV}(h:RepV I w v x)(hx:x.flat=true):RepV I' w' v x:=by
 induction h with
 | any v=>exact .any v
 | undef=>exact .undef
 | int k n=>exact .int k n
 | bool b=>exact .bool b
 | str s=>exact .str s
 | err0=>exact .err0
 | err1 t v=>exact .err1 t v
 | agg vs cs hl h1 _ ih=>exact .agg vs cs hl h1 (fun j hj=>ih j hj (O7 hx j))
 | tuple vs cs hl _ ih=>exact .tuple vs cs hl (fun j hj=>ih j hj (O7 hx j))
 | _=>cases hx
theorem Rep.flat{I I':Nat->Nat->Prop}{own:Nat->Option Own}{θ:Nat->Option (Nat×Nat)}{w w':World}{v:Value}{x:AV}(h:Rep I own θ w v x)(hx:x.flat=true):RepV I' w' v x:=by
 induction h with
 | val v x h=>exact h.flat hx
 | agg vs cs hl h1 _ ih=>exact .agg vs cs hl h1 (fun j hj=>ih j hj (O7 hx j))
 | tuple vs cs hl _ ih=>exact .tuple vs cs hl (fun j hj=>ih j hj (O7 hx j))
 | _=>cases hx
theorem Yw{own:Nat->Option Own}:∀{ns:List Nat} {tl:List (Option Own)} {k:Nat} {o:Own},Ak (Rf ns (ns.map own++tl)) k=some o->own k=some o
 | [],tl,k,o,h=>by trivial
 | n::ns,tl,k,o,h=>by
  simp only[C7,zzL92]at h
  cases hn:own n with
  | none=>rw[hn]at h;exact Yw h
  | some o'=>
   rw[hn]at h;simp only[Rf,Ak]at h
   cases hb:Nat.beq n k with
   | true=>
    simp_all
   | false=>rw[hb]at h;exact Yw h
def viewI(l:List (Nat×Own))(θ:Nat->Option (Nat×Nat))(I:Nat->Nat->Prop):Nat->Nat->Prop:=fun b o=>I b o\/∃ nm sz e m f c,Ak l nm=some (.arr sz e m f)/\θ nm=some (b,c)/\o<m*sz
theorem Rep.vs{I:Nat->Nat->Prop}{own:Nat->Option Own}{θ:Nat->Option (Nat×Nat)}{w:World}{v:Value}{x:AV}(hrel:Ky I own θ w){l:List (Nat×Own)}(hl:∀ k o,Ak l k=some o->own k=some o)(h:Rep I own θ w v x):(∀ p∈x.vsOb l,p)->RepV (viewI l θ I) w v (x.vs l):=by
 have hII:∀ b o,I b o->viewI l θ I b o:=fun _ _ h=>.inl h
 have hs:∀{v:Value} {x:AV},RepV I w v x->RepV (viewI l θ I) w v (x.vs l):=by
  intro v x h
  induction h with
  | agg vs cs hl h1 _ ih=>exact .agg vs _ (by rw[Nl,hl]) (fun j hj=>h1 j (by rwa[Nl]at hj)) (fun j hj=>by grind [vsAll_getD,Nl])
  | slice a n cap sz f us hcap hmax hz hn h1 hl hr=>exact(RepV.slice a n cap sz f us hcap hmax hz hn h1 hl hr).mono hII (fun _ _ _=>rfl)
  | any v=>exact .any v
  | undef=>exact .undef
  | int k n=>exact .int k n
  | bool b=>exact .bool b
  | str s=>exact .str s
  | clo f=>exact .clo f
  | nxt1 i r=>exact .nxt1 i r
  | nxt0 i r=>exact .nxt0 i r
  | nilq b pos n h=>exact .nilq b pos n h
  | err0=>exact .err0
  | err1 t v=>exact .err1 t v
  | nilp=>exact .nilp
  | nilm=>exact .nilm
  | cond v c x h h'=>exact(RepV.cond v c x h h').strip.mono hII (fun _ _ _=>rfl)
  | rptr a cells us hs hI hc h1 hr=>exact(RepV.rptr a cells us hs hI hc h1 hr).mono hII (fun _ _ _=>rfl)
  | tuple vs cs hl hr=>exact(RepV.tuple vs cs hl hr).strip.mono hII (fun _ _ _=>rfl)
 induction h with
 | val v x h=>grind
 | agg vs cs hl h1 _ ih=>
  intro hob;exact .agg vs _ (by rw[Nl,hl]) (fun j hj=>h1 j (by rwa[Nl]at hj)) (fun j hj=>by rw[vsAll_getD];exact ih j (by rwa[Nl]at hj) (vsOb_getD hob j))
 | vsl nm sz e m f a n cap ho hm hcap hmax hn hv=>
  intro hob;simp only[AV.vs]
  split
  ·rename_i sz' e' m' f' hlk
   have ho':=hl _ _ hlk;rw[ho]at ho';simp only[Am,Own.arr.injEq]at ho';obtain⟨rfl,rfl,rfl,rfl⟩:=ho';have hnm:n=m:=hob _ (by grind [AV.vsOb])
   ·subst hnm;obtain⟨q0,q1⟩:=hrel.arr nm sz e n f ho;have hvv:=hv rfl
    cases hθ:θ nm with
    | none=>
     have hn0:=q0 hθ;subst hn0;exact .slice a 0 cap sz _ (fun _=>undef) hcap hmax (fun h=>by omega) hn (fun j hj=>by omega) (fun i hi=>by omega) (fun i c hi=>by omega)
    | some gc=>
     obtain⟨b,c⟩:=gc;rw[hθ]at hvv;simp only at hvv;obtain⟨rfl,rfl⟩:=hvv;obtain⟨cur,r1,r2,r3,r4,r5,r6,r7⟩:=q1 b cap hθ
     have hcell:∀ j,j<n*sz->w.cell? ⟨b,j,none⟩=some (cur.getD j undef):=fun j hj=>by
      have:n*sz<=cap*sz:=Fb _ r2;rw[Ob w b j cur e (0,0) r1]
      grind [Ml]
     refine .slice _ n cap sz _ (fun j=>cur.getD j undef) hcap hmax (fun _=>⟨⟨b,0,none⟩,rfl,rfl,fun j hj=>.inr ⟨nm,sz,e,n,f,cap,hlk,hθ,by grind⟩,fun j hj=>by grind⟩) (by simp) (fun j hj=>?_) (fun i hi=>?_) (fun i k hi hk=>?_)
     ·have hs:0<sz:=by
       rcases zzL81 sz with h0|h0
       ·rw[h0]at hj;omega
       ·exact h0
      have e2:j / sz*sz+j % sz=j:=by rw[V3];exact Y1 j sz
      grind [zzL105,V5]
     ·grind [B3]
     ·rw[Id];exact((r6 i k hi hk).2.strip).mono hII (fun _ _ _=>rfl)
  ·exact .any _
 | exact a n sz f h=>exact fun _=>h.mono hII (fun _ _ _=>rfl)
 | own nm sz e m a n cap f ho hm hv h=>exact fun _=>h.mono hII (fun _ _ _=>rfl)
 | fam b i sz e m a n cap f hi ho hm hv h=>exact fun _=>h.mono hII (fun _ _ _=>rfl)
 | ptr nm off e cells g c ho hg=>exact fun _=>.any _
 | vpt=>exact fun _=>.any _
 | vsub nm sz e m f n lo hi a cap ho hm hlo hhi hcap hmax hn hv=>
  intro hob;simp only[AV.vs]
  split
  ·rename_i sz' e' m' f' hlk
   have ho':=hl _ _ hlk;rw[ho]at ho';simp only[Am,Own.arr.injEq]at ho';obtain⟨rfl,rfl,rfl,rfl⟩:=ho';have hnm:n=m:=hob _ (by grind [AV.vsOb]);subst hnm;obtain⟨q0,q1⟩:=hrel.arr nm sz e n f ho;have hvv:=hv rfl;rcases zzL139 lo hi with hlt|hge
   ·obtain⟨b,c,hθ,rfl⟩:=hvv.1 hlt;obtain⟨cur,r1,r2,r3,r4,r5,r6,r7⟩:=q1 b c hθ
    have hin:∀ j,j<(hi-lo)*sz->lo*sz+j<n*sz:=fun j hj=>by
     have h1:lo*sz+(hi-lo)*sz=hi*sz:=by rw[<- Gl];congr 1;omega
     have h2:hi*sz<=n*sz:=Fb _ hhi;omega
    have hcell:∀ j,j<(hi-lo)*sz->w.cell? ⟨b,lo*sz+j,none⟩=some (cur.getD (lo*sz+j) undef):=fun j hj=>by
     have:n*sz<=c*sz:=Fb _ r2;have:=hin j hj;rw[Ob w b _ cur e (0,0) r1]
     grind [Ml]
    refine .slice _ (hi-lo) cap sz _ (fun j=>cur.getD (lo*sz+j) undef) hcap hmax (fun _=>⟨⟨b,lo*sz,none⟩,rfl,rfl,fun j hj=>.inr ⟨nm,sz,e,n,f,c,hlk,hθ,hin j hj⟩,fun j hj=>hcell j hj⟩) hn (fun j hj=>?_) (fun i hi'=>?_) (fun i k hi' hk=>?_)
    ·have hs:0<sz:=by
      rcases zzL81 sz with h0|h0
      ·rw[h0]at hj;omega
      ·exact h0
     have e2:j / sz*sz+j % sz=j:=by rw[V3];exact Y1 j sz
     have h3:j / sz<hi-lo:=by rw[zzL105 hs];exact hj
     have:=(r6 (lo+j / sz) (j % sz) (by omega) (V5 _ hs)).1;rw[Gl,Po,e2]at this;exact this
    ·grind [B3]
    ·rw[Id];have:=((r6 (lo+i) k (by omega) hk).2.strip).mono hII (fun _ _ _=>rfl) (w':=w)
     grind
   ·have h0:hi-lo=0:=by omega
    rw[h0];exact .slice a 0 cap sz _ (fun _=>undef) (by omega) hmax (fun h=>by omega) hn (fun j hj=>by omega) (fun i hi=>by omega) (fun i c hi=>by omega)
  ·exact .any _
 | optr=>exact fun _=>.any _
 | omap=>exact fun _=>.any _
 | rpo=>exact fun _=>.any _
 | clo f fs cs xs ys hl hl' hr hr' _ _=>exact fun _=>(Rep.clo f fs cs xs ys hl hl' hr hr').strip.mono hII (fun _ _ _=>rfl)
 | cond v c x h h' _=>exact fun _=>(Rep.cond v c x h h').strip.mono hII (fun _ _ _=>rfl)
 | tuple vs cs hl hr _=>exact fun _=>(Rep.tuple vs cs hl hr).strip.mono hII (fun _ _ _=>rfl)
theorem RepL.vs{I:Nat->Nat->Prop}{own own':Nat->Option Own}{θ θ':Nat->Option (Nat×Nat)}{w:World}{vs:List Value}{xs:List AV}(hrel:Ky I own θ w){l:List (Nat×Own)}(hl:∀ k o,Ak l k=some o->own k=some o)(h:RepL I own θ w vs xs) :
  (∀ p∈AV.vsObAll l xs,p)->RepL (viewI l θ I) own' θ' w vs (xs.map (AV.vs l)):=by
 induction h with
 | nil=>exact fun _=>.nil
 | cons h _ ih=>
  intro hob;simp only[AV.vsObAll,zzL18]at hob;exact .cons (.val _ _ (h.vs hrel hl fun p hp=>hob p (.inl hp))) (ih fun p hp=>hob p (.inr hp))
theorem Va:∀{H:List (Nat×Own)} {nm:Nat} {o:Own},flatH H->Ak H nm=some o->flatO o
 | [],nm,o,_,h=>by cases h
 | (n,o')::r,nm,o,hf,h=>by
  simp only[Ak]at h
  cases hb:Nat.beq n nm with
  | true=>rw[hb]at h;simp only[Ag,Am]at h;rw[<- h];exact hf.1
  | false=>rw[hb]at h;exact Va hf.2 h
theorem Rep.flatC{I I':Nat->Nat->Prop}{own:Nat->Option Own}{θ:Nat->Option (Nat×Nat)}{w:World}{v:Value}{x:AV}(h:Rep I own θ w v x)(hx:x.flatC=true):Rep I' own θ w v x:=by
 cases x with
 | omap nm=>obtain⟨y,h1,h2⟩:=h.omap_inv;rw[h2];exact .omap nm y h1
 | vsl nm n=>obtain⟨sz,e,m,f,a,cap,rfl,ho,hm,hcap,hmax,hn,hv⟩:=h.vsl_inv;exact .vsl nm sz e m f a n cap ho hm hcap hmax hn hv
 | ptr nm off=>obtain⟨e,cells,g,c,ho,hg,rfl⟩:=h.ptr_inv;exact .ptr nm off e cells g c ho hg
 | nilp=>obtain rfl:=h.nilp_inv;exact .val _ _ .nilp
 | _=>exact .val _ _ (h.flat hx)
theorem Rep.flatR{I I':Nat->Nat->Prop}{own:Nat->Option Own}{θ:Nat->Option (Nat×Nat)}{w:World}{v:Value}{x:AV}(h:Rep I own θ w v x)(hx:x.flatR=true):Rep I' own θ w v x:=by
 cases x with
 | tuple cs=>
  obtain⟨vs,rfl,hl,hr⟩:=h.tuple_inv;refine .tuple vs cs hl fun j hj=>(hr j hj).flatC ?_;have hx:cs.all AV.flatC=true:=hx
  grind
 | _=>exact h.flatC hx
theorem Rep.flatD{I I':Nat->Nat->Prop}{own:Nat->Option Own}{θ:Nat->Option (Nat×Nat)}{w:World}{v:Value}{x:AV}(h:Rep I own θ w v x)(hx:x.flatD=true)(hn:x.flatN):Rep I' own θ w v x:=by
 cases x with
 | slice sz n f t=>
  cases t with
  | own nm=>
   have hn:n=0:=hn;subst hn
   cases h with
   | val v x h=>cases h
   | own nm sz e m a n cap f ho hm hv h=>
    refine .own nm sz e m a 0 cap f ho hm hv ?_
    cases h with
    | slice a n cap sz f us hcap hmax hz hn h1 hl hr=>
     exact .slice a 0 cap sz f us hcap hmax (fun hp=>absurd hp (zzL99 0)) hn (fun j hj=>by simp at hj) (fun i hi=>absurd hi (Rl i)) (fun i c hi=>absurd hi (Rl i))
  | _=>trivial
 | _=>exact h.flatC hx
theorem flatNs_getD:∀{l:List AV} (j:Nat),flatNs l->(l.getD j .any).flatN
 | [],j,_=>by trivial
 | x::l,0,h=>by simpa using h.1
 | x::l,j+1,h=>by simpa using flatNs_getD j h.2
theorem chg_view{I I1 I':Nat->Nat->Prop}{θ':Nat->Option (Nat×Nat)}{w w':World}{H:List (Nat×Own)}{v:Value}{x:AV}{θ0:Nat->Option (Nat×Nat)}(hI:∀ b o,I b o->I1 b o)(hval:∀ b o,I b o->∃ u,w.cell? ⟨b,o,none⟩=some u)
  (kc:Chg (fun _=>none) θ0 I1 w (Ak H) θ' I' w') (hf:flatH H) (hx:x.flatR=true) (hr:Rep I' (Ak H) θ' w' v x):Chg (fun _=>none) θ0 I w (Ak H) θ' I w'/\Rep I (Ak H) θ' w' v x:=by
 refine⟨{ imm:=fun _ _ h=>h,cell:=fun b o h=>kc.cell b o (hI b o h),le:=(fun _ _ h=>by cases h),rel:=⟨fun nm e0 cells hn=>?_,fun nm sz e m hn=>?_,kc.rel.inj,fun nm sz e m f hn=>?_,fun nm y hn=>?_,fun nm sz m hn=>?_⟩,valid:=fun b o h=>?_,os:=kc.os,tape:=kc.tape,output:=kc.output,drawn:=kc.drawn,grow:=kc.grow,frame:=kc.frame,new:=kc.new,immNew:=fun b o h=>.inl h },hr.flatR hx⟩
 ·have hfl:cells.all AV.flatD=true/\flatNs cells:=Va hf hn;obtain⟨hfl,hfn⟩:=hfl;obtain⟨g,c,vs,h1,h2,h3,h4,h5,h6⟩:=kc.rel.row nm e0 cells hn;refine⟨g,c,vs,h1,h2,h3,h4,fun j hj=>(h5 j hj).flatD ?_ (flatNs_getD j hfn),fun j hj=>h6 j (kc.imm _ _ (hI _ _ hj))⟩
  grind
 ·intro g c hg;obtain⟨cur,fz,r1,r2,r3,r4,r5,r6⟩:=kc.rel.tok nm sz e m hn g c hg;exact⟨cur,fz,r1,r2,r3,r4,r5,fun j hj=>r6 j (kc.imm _ _ (hI _ _ hj))⟩
 ·have hfl:∀ i,i<m->AV.flatAll (f i)=true:=Va hf hn;obtain⟨h1,h2⟩:=kc.rel.arr nm sz e m f hn;refine⟨h1,fun g c hg=>?_⟩;obtain⟨cur,r1,r2,r3,r4,r5,r6,r7⟩:=h2 g c hg;exact⟨cur,r1,r2,r3,r4,r5,fun i j hi hj=>⟨(r6 i j hi hj).1,(.val _ _ ((r6 i j hi hj).2.flat (O7 (hfl i hi) j)))⟩,fun j hj=>r7 j (kc.imm _ _ (hI _ _ hj))⟩
 ·have hfl:=Va hf hn
  cases y with
  | map nn k l=>
   have hfl:∀ q∈l,q.2.flat=true:=hfl;rcases kc.rel.obj nm _ hn with⟨g,c,o,h1,h2,h3,h4⟩|h1
   ·refine .inl ⟨g,c,o,h1,h2,?_,fun j hj=>h4 j (kc.imm _ _ (hI _ _ hj))⟩
    cases h3 with
    | map es nn k l hs hr=>
     refine .map es nn k l hs fun i hi=>?_;obtain⟨u,g1,g2,g3⟩:=hr i hi;refine⟨u,g1,g2.flat (hfl _ ?_),g3⟩
     grind
   ·exact .inr h1
  | pmap nn k l=>
   have hfl:∀ q∈l,q.2.flat=true:=hfl;rcases kc.rel.obj nm _ hn with⟨g,c,o,h1,h2,h3,h4⟩|h1
   ·refine .inl ⟨g,c,o,h1,h2,?_,fun j hj=>h4 j (kc.imm _ _ (hI _ _ hj))⟩
    cases h3 with
    | pmap es nn k l0 l hp hk hs hr=>
     refine .pmap es nn k l0 l hp hk hs fun i hi=>?_;obtain⟨u,g1,g2,g3⟩:=hr i hi;refine⟨u,g1,g2.flat (hfl _ (hp.mem_iff.1 ?_)),g3⟩
     grind
   ·exact .inr h1
  | _=>trivial
 ·exact kc.rel.tok8 nm sz m hn
 ·obtain⟨u,hu⟩:=hval b o h;exact⟨u,(kc.cell b o (hI b o h)).trans hu⟩
theorem ok_call(h:Rel Γ σ I θ a w)(hd:∀ d,o.dst=some d->d<Γ.n){f:FuncId}{vs:List AV}{ws:List Value}(hex:(execOp a.eval o).run P w=(callFunc f ws.toArray).run P w)(hvs:RepL I σ.own θ w ws vs)
  {r:U0} {es:List (Option Own)} (hes:es=(Zi r).map σ.own) {e:Eff} (he:aCall (Spec P) f vs es r=some e) (hob:∀ p∈e.ob,p):Fd P Γ σ o a w e.v e.wo:=by
 unfold aCall at he
 cases hvw:r.vw with
 | nil=>
  rw[hvw]at he;exact ok_call0 h hd hex hvs (by grind [Zi]) he hob
 | cons n0 ns0=>
  have hnn:isNil r.vw=false:=by rw[hvw];rfl
  rw[hnn,Aq]at he
  cases hc:(isNil r.hs&&r.res.flatR&&Ry (es.drop r.vw.length) r) with
  | false=>grind
  | true=>
   rw[hc,Ag,Am]at he;subst he;simp only[A7]at hc;obtain⟨⟨c1,c2⟩,c3⟩:=hc
   have hhs:r.hs=[]:=by cases hh:r.hs with|nil=>rfl|cons _ _=>rw[hh]at c1;cases c1
   obtain⟨henter,hspec⟩:=hob _ (zzL38 ..);have hfl:flatH r.H:=hob _ (zzL19 _ (zzL38 ..));have hvo:∀ p∈AV.vsObAll (Rf r.vw es) vs,p:=fun p hp=>hob p (zzL19 _ (zzL19 _ hp))
   have hes':es=r.vw.map σ.own++(r.hs.map (·.1)++r.fr.map (·.2)).map σ.own:=by rw[hes];simp[Zi]
   have hdrop:es.drop r.vw.length=(r.hs.map (·.1)++r.fr.map (·.2)).map σ.own:=by
    rw[hes']
    have:(r.vw.map σ.own).length=r.vw.length:=by simp
    rw[<- this,List.drop_left]
   have hlk:∀ k o,Ak (Rf r.vw es) k=some o->σ.own k=some o:=fun k o hk=>by grind [Yw]
   refine ok_call1 (H:=[]) h hd (hex.trans (henter _ _)) hdrop (by rw[hhs];rfl) c3 fun _ _=>?_
   have hval:∀ b o,viewI (Rf r.vw es) θ I b o->∃ u,w.cell? ⟨b,o,none⟩=some u:=fun b o hb=>by
    rcases hb with hb|⟨nm,sz,e,m,f,c,h1,h2,h3⟩
    ·exact h.chg.valid b o hb
    ·obtain⟨cur,r1,r2,r3,r4,_⟩:=(h.chg.rel.arr nm sz e m f (hlk _ _ h1)).2 b c h2;have:m*sz<=c*sz:=Fb _ r2;exact⟨_,by rw[Ob w b o cur e (0,0) r1];exact Ml (by omega)⟩
   have hII:∀ b o,I b o->viewI (Rf r.vw es) θ I b o:=fun _ _ h=>.inl h;have e1:(Ak (List.map (fun x:Nat×Own=>(x.1,x.2.ren r.hs)) []):Nat->Option Own)=fun _=>none:=rfl;have e2:(Ak []:Nat->Option Own)=fun _=>none:=rfl
   have hrel0:Ky (viewI (Rf r.vw es) θ I) (Ak []) (fun n=>(Ak (Km r.hs) n).bind θ) w:=by
    rw[e2];exact⟨(fun _ _ _ h=>by cases h),(fun _ _ _ _ h=>by cases h),(fun _ _ _ _ _ h=>(h rfl).elim),(fun _ _ _ _ _ h=>by cases h),(fun _ _ h=>by cases h),(fun _ _ _ h=>by cases h)⟩
   have hcalls:=hspec w (viewI (Rf r.vw es) θ I) (fun n=>(Ak (Km r.hs) n).bind θ) ws.toArray (by simpa using hvs.vs h.chg.rel hlk hvo) hrel0 hval (fun g cells hg=>(h.glob g cells hg).mono hII (fun _ _ _=>rfl));refine Calls.mono hcalls fun e' w' hq=>?_;obtain⟨v,I',θ',he',kc,hres⟩:=hq;rw[e2]at kc;obtain⟨k1,k2⟩:=chg_view hII h.chg.valid kc hfl c2 hres
   grind
end
section
variable {P:Program} {Γ:Iw} {σ:Sto} {I:Nat->Nat->Prop} {θ:Nat->Option (Nat×Nat)} {a:Act} {w:World} {o:Oper}
theorem rep_eval(h:Rel Γ σ I θ a w)(x:Operand):Rep I σ.own θ w (a.eval x) (evA σ.tmp x):=by
 cases x with
 | tmp t=>exact h.slots t
 | const v=>exact S9 (σ:=σ) v
 | global g=>
  show Rep I σ.own θ w _ (match globA g with|some cells=>.rptr cells|none=>.any)
  cases hg:globA g with
  | none=>exact .val _ _ (.any _)
  | some cells=>exact .val _ _ (h.glob g cells hg)
 | func f=>exact .val _ _ (.clo f)
theorem repL_eval(h:Rel Γ σ I θ a w)(l:List Operand):RepL I σ.own θ w (l.map a.eval) (l.map (evA σ.tmp)):=by
 induction l with
 | nil=>exact .nil
 | cons x l ih=>exact .cons (rep_eval h x) ih
theorem rep_uncond{v:Value}{x:AV}{γ gd:Bool}(h:Rep I σ.own θ w v x)(hγ:gd=true->γ=true)(ht:∀ p∈x.there γ gd,p):Rep I σ.own θ w v x.uncond:=by
 cases x with
 | cond c y=>
  obtain⟨h1,_⟩:=h.cond_inv
  apply h1
  cases gd with
  | false=>exact ht _ (by simp[AV.there])
  | true=>exact ht (γ=true->c=true) (by simp[AV.there]) (hγ rfl)
 | _=>exact h
theorem repL_uncond{l:List Value}{m:List AV}{γ gd:Bool}(h:RepL I σ.own θ w l m)(hγ:gd=true->γ=true)(ht:∀ p∈(m.map (AV.there γ gd)).flatten,p):RepL I σ.own θ w l (m.map AV.uncond):=by
 induction h with
 | nil=>exact .nil
 | cons h _ ih=>
  simp only[C7,List.flatten_cons,zzL18]at ht;exact .cons (rep_uncond h hγ fun p hp=>ht p (.inl hp)) (ih fun p hp=>ht p (.inr hp))
theorem boolIn_sound{v:Value}{x:AV}{ps:List Prop}{b:Bool}(hx:x.boolIn=some (ps,b))(h:Rep I σ.own θ w v x)(hp:∀ p∈ps,p):v = .bool b:=by
 unfold AV.boolIn at hx
 split at hx
 ·simp only[Am,It]at hx;obtain⟨rfl,rfl⟩:=hx;exact h.bool_inv
 ·simp only[Am,It]at hx;obtain⟨rfl,rfl⟩:=hx;exact(h.cond_inv.1 (hp _ (by simp))).bool_inv
 ·cases hx
theorem ok_pick(h:Rel Γ σ I θ a w)(hd:∀ d,o.dst=some d->d<Γ.n){vs:List AV}(hp:isPick o=true)(hvs:RepL I σ.own θ w (o.op.operands.toList.map a.eval) vs){γ gd:Bool}(hγ:gd=true->γ=true)
  (hth:∀ p∈Zp γ gd vs,p) {e:Eff} (he:aPick vs=some e) (hob:∀ p∈e.ob,p):Fd P Γ σ o a w e.v e.wo:=by
 unfold isPick at hp
 split at hp
 ·rename_i c x y ho
  simp only[ho,Op.operands,C7,D7]at hvs;obtain⟨vc,vx,vy,rfl,hc,hx,hy⟩:=hvs.three;simp only[aPick]at he
  split at he
  ·rename_i cb pa xa pb xb hcu hxa hyb
   simp only[Am]at he;subst he;have hc':=rep_uncond hc hγ hth;rw[hcu]at hc';have ec:=hc'.bool_inv;simp only[zzL18]at hob
   cases cb with
   | true=>
    have ex:=boolIn_sound hxa hx (fun p hp=>hob _ (.inl (zzL27.2 ⟨p,hp,rfl⟩)) rfl);exact Ay h hd (v:=.bool xa) (by simp[execOp,ho,ec,ex,asBool]) (.val _ _ (.bool _))
   | false=>
    have ey:=boolIn_sound hyb hy (fun p hp=>hob _ (.inr (zzL27.2 ⟨p,hp,rfl⟩)) rfl);exact Ay h hd (v:=.bool xb) (by simp[execOp,ho,ec,ey,asBool]) (.val _ _ (.bool _))
  ·cases he
 ·cases hp
theorem RepL.append{own:Nat->Option Own}{l l':List Value}{m m':List AV}(h:RepL I own θ w l m)(h':RepL I own θ w l' m'):RepL I own θ w (l++l') (m++m'):=by
 induction h with
 | nil=>exact h'
 | cons h _ ih=>exact .cons h ih
theorem repL_of{own:Nat->Option Own}:∀{l:List Value} {m:List AV},l.length=m.length->(∀ j,j<m.length->Rep I own θ w (l.getD j undef) (m.getD j .any))->RepL I own θ w l m
 | [],[],_,_=>.nil
 | [],_::_,h,_=>by simp at h
 | _::_,[],h,_=>by simp at h
 | v::l,x::m,h,hr=>.cons (by simpa using hr 0 (by simp)) (repL_of (by simpa using h) fun j hj=>by simpa using hr (j+1) (by simpa using hj))
theorem repL_of_arr{own:Nat->Option Own}{l:Array Value}{m:List AV}(h:l.size=m.length)(hr:∀ j,j<m.length->Rep I own θ w (l.getD j undef) (m.getD j .any)):RepL I own θ w l.toList m:=
 repL_of (by simpa using h) fun j hj=>by
  have e:l.toList.getD j undef=l.getD j undef:=by simp[Pn,List.getD]
  rw[e];exact hr j hj
theorem eff_sound(h:Rel Γ σ I θ a w)(hd:∀ d,o.dst=some d->d<Γ.n){vs:List AV}(hvs:vs=o.op.operands.toList.map (evA σ.tmp)){r:Option U0}{es:List (Option Own)}(hes:es=(Tl o vs r).map σ.own){γ gd:Bool}{hint:Nat}(hγ:gd=true->γ=true)
  (hth:∀ p∈(bif isPick o then Zp γ gd vs else(vs.map (AV.there γ gd)).flatten),p) {e:Eff}
  (he:effOf P (Spec P) hint o vs es r=some e) (hob:∀ p∈e.ob,p) :
  Fd P Γ σ o a w e.v e.wo:=by
 have hall:RepL I σ.own θ w (o.op.operands.toList.map a.eval) vs:=by rw[hvs];exact repL_eval h _
 unfold effOf at he
 cases hp:isPick o with
 | true=>
  simp only[hp,Ag]at he hth;exact ok_pick h hd hp hall hγ hth he hob
 | false=>
  simp only[hp,Aq]at he hth;have hun:=repL_uncond hall hγ hth
  cases hc:isCall o with
  | false=>
   simp only[hc,Aq]at he;exact asemX_sound h hd hun (by rw[hes];simp[Tl,hc]) he hob
  | true=>
   simp only[hc,Ag]at he
   split at he
   ·rename_i f az r' hf
    unfold callTo at hf
    split at hf
    ·rename_i g xs ts ho
     simp only[Am,It]at hf;obtain⟨rfl,rfl⟩:=hf
     have e1:o.op.operands.toList.map a.eval = .func (.func g) #[] #[]::xs.toList.map a.eval:=by rw[ho];simp[Op.operands,Call.operands,Act.eval]
     have hl:RepL I σ.own θ w (xs.toList.map a.eval) ((vs.map AV.uncond).drop 1):=by
      rw[e1]at hun
      generalize vs.map AV.uncond=m at hun
      cases hun with|cons _ t=>simpa using t
     refine ok_call (ws:=xs.toList.map a.eval) h hd ?_ hl (by rw[hes];simp[Tl,hc]) he hob
     have e2:(xs.toList.map a.eval).toArray=xs.map a.eval:=by apply Oc;simp
     rw[e2];simp[execOp,ho,resolve,invoke,Deferred.ofValue,Act.eval]
    ·rename_i t xs ts ho
     split at hf
     ·rename_i g fs cs rest hm
      simp only[Am,It]at hf;obtain⟨rfl,rfl⟩:=hf
      have e1:o.op.operands.toList.map a.eval=a.eval (.tmp t)::xs.toList.map a.eval:=by rw[ho];simp[Op.operands,Call.operands]
      rw[e1,hm]at hun
      cases hun with
      | cons hh ht=>
       obtain⟨fv,cv,hv,l1,l2,r1,r2⟩:=hh.clo_inv;have hR:RepL I σ.own θ w (fv.toList++xs.toList.map a.eval++cv.toList) (fs++rest++cs):=RepL.append (RepL.append (repL_of_arr l1 r1) ht) (repL_of_arr l2 r2);refine ok_call (ws:=fv.toList++xs.toList.map a.eval++cv.toList) h hd ?_ hR (by rw[hes];simp[Tl,hc]) he hob
       have e2:(fv.toList++xs.toList.map a.eval++cv.toList).toArray=fv++xs.map a.eval++cv:=by apply Oc;simp
       rw[e2];simp[execOp,ho,resolve,invoke,Deferred.ofValue,hv]
     ·cases hf
    ·cases hf
   ·cases he
theorem rel_cast{d:Option Nat}{x y:AV}{wo:List (Nat×Own)}(h:Rel Γ (σ.upd d x wo) I θ a w)(hxy:AVle x y):Rel Γ (σ.upd d y wo) I θ a w:=by
 refine⟨h.size,h.defers,fun t=>?_,h.chg⟩;have:=h.slots t;simp only[Sto.upd]at this ⊢
 split
 ·rename_i hdt
  rw[if_pos hdt]at this;exact hxy _ _ _ _ _ this
 ·rename_i hdt
  rw[if_neg hdt]at this;exact this
theorem castWo_sound{y:AV}{wo:List (Nat×Own)}(h:∀ p∈(castWo y wo).2,p):(castWo y wo).1=wo:=by
 unfold castWo at h ⊢
 split at h
 ·have:=h _ (zzL23.2 rfl);subst this
  rfl
 ·rfl
theorem castE_sound{c:Option AV}{e:Eff}(hob:∀ p∈(castE c e).ob,p):(∀ p∈e.ob,p)/\(castE c e).wo=e.wo/\AVle e.v (castE c e).v:=by
 unfold castE at hob ⊢
 split at hob
 ·exact⟨hob,rfl,fun _ _ _ _ _ h=>h⟩
 ·refine⟨fun p hp=>hob p (zzL18.2 (.inl hp)),castWo_sound fun p hp=>hob p (zzL18.2 (.inr (zzL19 _ hp))),hob _ (zzL18.2 (.inr (by simp)))⟩
theorem rel_cond{d:Option Nat}{x:AV}{wo:List (Nat×Own)}{c:Bool}(h:Rel Γ (σ.upd d x wo) I θ a w)(hc:c=true):Rel Γ (σ.upd d (.cond c x) wo) I θ a w:=by
 refine⟨h.size,h.defers,fun t=>?_,h.chg⟩;have:=h.slots t;simp only[Sto.upd]at this ⊢
 split
 ·rename_i hdt
  rw[if_pos hdt]at this;exact .cond _ _ _ (fun _=>this) (fun hf=>by rw[hc]at hf;cases hf)
 ·rename_i hdt
  rw[if_neg hdt]at this;exact this
theorem gamma_sound{ops:Array Oper}{j:Nat}{want:Bool}(hg:o.guard=some (j,want)){oj:Oper}(hj:ops[j]?=some oj){t:Nat}(ht:oj.dst=some t)(h:Rel Γ σ I θ a w){γ:Bool}(hγ:gamma want (σ.tmp t)=some γ) :
  Region.wanted o (yielded ops a.tmps)=γ:=by
 have hs:=h.slots t
 have hy:yielded ops a.tmps j=match a.tmps.getD t undef with | .bool b=>some b|_=>none:=by
  simp only[yielded,hj,An,ht]
  by_cases hlt:t<a.tmps.size
  ·obtain⟨u,hu,hu'⟩:=Zg (l:=a.tmps) hlt;rw[hu,hu']
   cases u<;>rfl
  ·simp[Array.getD,hlt,undef]
 simp only[Region.wanted,hg,hy];unfold gamma at hγ
 split at hγ
 ·rename_i b hb
  rw[hb]at hs;rw[hs.bool_inv];simp only[Am]at hγ;subst hγ
  cases b<;>cases want<;>rfl
 ·rename_i c b hb
  rw[hb]at hs;obtain⟨h1,h2⟩:=hs.cond_inv;simp only[Am]at hγ;subst hγ
  cases c with
  | true=>rw[(h1 rfl).bool_inv];cases b<;>cases want<;>rfl
  | false=>rw[h2 rfl];rfl
 ·rename_i hb
  rw[hb]at hs;rw[hs.undef_inv];simp only[Am]at hγ;subst hγ
  rfl
 ·cases hγ
theorem merge_eq{γ:Bool}{x y z:AV}(h:x.merge γ y=some z):z=bif γ then y else x:=by
 cases x<;>cases y<;>simp only[AV.merge,reduceCtorEq,Am]at h<;>try (cases h;done)
 case int.int k a k' b=>
  cases hk:kEq k k' with
  | false=>simp[hk]at h
  | true=>obtain rfl:=Oh hk;simp only[hk,Ag,Am]at h;subst h;cases γ<;>rfl
 case bool.bool=>subst h;cases γ<;>rfl
 case str.str=>subst h;cases γ<;>rfl
 case nilp.nilp=>subst h;cases γ<;>rfl
 case omap.omap n n'=>
  cases hb:Nat.beq n n' with
  | false=>simp[hb]at h
  | true=>obtain rfl:=Cb hb;simp only[hb,Ag,Am]at h;subst h;cases γ<;>rfl
 case any.any=>subst h;cases γ<;>rfl
 case ptr.ptr n o n' o'=>
  cases hb:(Nat.beq n n'&&Nat.beq o o') with
  | false=>simp[hb]at h
  | true=>
   simp only[hb,Ag,Am]at h;simp only[A7]at hb;obtain rfl:=Cb hb.1;obtain rfl:=Cb hb.2;subst h;cases γ<;>rfl
 case nilm.nilm=>subst h;cases γ<;>rfl
 case err.err=>subst h;cases γ<;>rfl
 case vsl.vsl n k n' k'=>
  cases hb:Nat.beq n n' with
  | false=>simp[hb]at h
  | true=>obtain rfl:=Cb hb;simp only[hb,Ag,Am]at h;subst h;cases γ<;>rfl
 case slice.slice sz n f t sz' n' f' t'=>
  cases t<;>cases t'<;>simp only[AV.merge,reduceCtorEq]at h
  ·cases hb:Nat.beq sz sz' with
   | false=>simp[hb]at h
   | true=>
    obtain rfl:=Cb hb;simp only[hb,Ag,Am]at h;subst h;cases γ<;>rfl
  ·rename_i k k'
   cases hb:(Nat.beq sz sz'&&Nat.beq k k') with
   | false=>simp[hb]at h
   | true=>
    simp only[hb,Ag,Am]at h;simp only[A7]at hb;obtain rfl:=Cb hb.1;obtain rfl:=Cb hb.2;subst h;cases γ<;>rfl
theorem mergeAll_eq{γ:Bool}:∀{l m r:List AV},AV.mergeAll γ l m=some r->r=bif γ then m else l
 | [],[],r,h=>by simp only[AV.mergeAll,Am]at h;subst h;cases γ<;>rfl
 | [],_::_,r,h=>by simp[AV.mergeAll]at h
 | _::_,[],r,h=>by simp[AV.mergeAll]at h
 | x::l,y::m,r,h=>by
  simp only[AV.mergeAll]at h
  split at h
  ·rename_i z q h1 h2
   simp only[Am]at h;subst h;rw[merge_eq h1,mergeAll_eq h2]
   cases γ<;>rfl
  ·cases h
theorem ownMerge_eq{γ:Bool}{x y z:Own}(h:x.merge γ y=some z):z=bif γ then y else x:=by
 cases x<;>cases y<;>simp only[Own.merge,reduceCtorEq]at h
 ·rename_i e l e' m
  cases hb:Nat.beq e e' with
  | false=>simp[hb]at h
  | true=>
   obtain rfl:=Cb hb;simp only[hb,Ag]at h
   split at h
   ·rename_i r hr
    simp only[Am]at h;subst h;rw[mergeAll_eq hr]
    cases γ<;>rfl
   ·cases h
 ·rename_i sz e n sz' e' n'
  cases hs:Nat.beq sz sz' with
  | false=>simp[hs]at h
  | true=>
   cases hb:Nat.beq e e' with
   | false=>simp[hb]at h
   | true=>
    obtain rfl:=Cb hb;obtain rfl:=Cb hs;simp only[hb,hs,zzL131,Ag,Am]at h;subst h
    cases γ<;>rfl
 ·rename_i sz e n f sz' e' n' f'
  cases hs:Nat.beq sz sz' with
  | false=>simp[hs]at h
  | true=>
   cases hb:Nat.beq e e' with
   | false=>simp[hb]at h
   | true=>
    obtain rfl:=Cb hb;obtain rfl:=Cb hs;simp only[hb,hs,zzL131,Ag,Am]at h;subst h
    cases γ<;>rfl
 ·rename_i x y
  cases x<;>cases y<;>simp only[reduceCtorEq]at h
  rename_i nn k l nn' k' l'
  cases hn:nn==nn' with
  | false=>simp[hn]at h
  | true=>
   cases hk:kEq k k' with
   | false=>simp[hk]at h
   | true=>
    obtain rfl:=Oh hk
    obtain rfl:nn=nn':=by simpa using hn
    simp only[hn,hk,zzL131,Ag,Am]at h;subst h
    cases γ<;>rfl
theorem oldOf_eq{own:Nat->Option Own}:∀{ns:List Nat} {n:Nat} {o:Own},oldOf ns (ns.map own) n=some o->own n=some o
 | [],n,o,h=>by simp[oldOf]at h
 | k::ns,n,o,h=>by
  simp only[C7,oldOf]at h
  cases hb:Nat.beq k n with
  | true=>obtain rfl:=Cb hb;simpa [hb] using h
  | false=>simp only[hb,Aq]at h;exact oldOf_eq h
theorem mergeWo_true{ns:List Nat}{es:List (Option Own)}:∀{wo wo':List (Nat×Own)},S6 true ns es wo=some wo'->wo'=wo
 | [],wo',h=>by simp only[S6,Am]at h;exact h.symm
 | (n,o)::r,wo',h=>by
  simp only[S6]at h
  split at h
  ·cases h
  ·rename_i r' h2
   have h2:=mergeWo_true h2;subst h2
   split at h
   ·split at h
    ·rename_i z h1
     simp only[Am]at h;subst h;rw[ownMerge_eq h1]
     rfl
    ·simp only[Am]at h;exact h.symm
   ·simp only[Am]at h;exact h.symm
theorem mergeWo_false{own:Nat->Option Own}{ns:List Nat}:∀{wo wo':List (Nat×Own)},S6 false ns (ns.map own) wo=some wo'->∀ n o,Ak wo' n=some o->own n=some o
 | [],wo',h=>by simp only[S6,Am]at h;subst h;intro n o h;cases h
 | (n,o)::r,wo',h=>by
  simp only[S6]at h
  split at h
  ·cases h
  ·rename_i r' h2
   have h2:=mergeWo_false h2
   split at h
   ·rename_i o' ho'
    split at h
    ·rename_i z h1
     simp only[Am]at h;subst h;intro k q hk;simp only[Ak]at hk
     cases hb:Nat.beq n k with
     | true=>
      obtain rfl:=Cb hb;simp only[hb,Ag,Am]at hk;subst hk;rw[ownMerge_eq h1];exact oldOf_eq ho'
     | false=>simp only[hb,Aq]at hk;exact h2 k q hk
    ·simp only[Am]at h;subst h;exact h2
   ·simp only[Am]at h;subst h;exact h2
theorem upd_same{d:Option Nat}{x:AV}{wo:List (Nat×Own)}(h:∀ n o,Ak wo n=some o->σ.own n=some o):σ.upd d x wo=σ.upd d x []:=by
 simp only[Sto.upd,Sto.mk.injEq,true_and]
 funext n
 cases hl:Ak wo n with
 | none=>rfl
 | some o=>simp[h n o hl,Ak]
theorem step_sound{ops:Array Oper}{i:Nat}(hi:ops[i]?=some o)(h:Rel Γ σ I θ a w)(hd:∀ d,o.dst=some d->d<Γ.n){vs:List AV}(hvs:vs=o.op.operands.toList.map (evA σ.tmp)){gv:Option (AV×Bool)}(hgv:Xz ops.toList σ.tmp o=some gv)
  {r:Option U0} {es:List (Option Own)} (hes:es=(Tl o vs r).map σ.own) {cs:Option AV} {e:Step} (he:stepV P (Spec P) cs o vs gv es r=some e) (hob:∀ p∈e.ob,p)
  (K:Act->World->Prop) (Q:Exit->Act->World->Prop) (hK:∀ I' θ' a' w',Rel Γ (σ.upd o.dst e.v e.wo) I' θ' a' w'->K a' w'):wpOp P ops Q i K a w:=by
 unfold stepV at he;unfold Xz at hgv;unfold wpOp;simp only[hi]
 cases hg:o.guard with
 | none=>
  simp only[hg,Am]at hgv;subst hgv;simp only at he
  split at he
  ·rename_i ef' hef'
   obtain⟨ef,hef,rfl⟩:=zzL89.1 hef';simp only[Am]at he;subst he;simp only[zzL18]at hob;obtain⟨c1,c2,c3⟩:=castE_sound (fun p hp=>hob p (.inr hp));rw[if_pos (by simp[Region.wanted,hg])];have hok:=eff_sound h hd hvs hes (γ:=true) (gd:=false) (fun h=>by cases h) (fun p hp=>hob p (.inl hp)) hef c1;refine .inl (hok K Q fun I' θ' a' w' hr=>hK I' θ' a' w' ?_);rw[c2];exact rel_cast hr c3
  ·cases he
 | some gg=>
  obtain⟨j,want⟩:=gg;simp only[hg]at hgv
  split at hgv
  ·rename_i oj hoj
   split at hgv
   ·rename_i t ht
    simp only[Am]at hgv;subst hgv;simp only at he
    split at he
    ·rename_i γ ef' hγ hef'
     obtain⟨ef,hef,rfl⟩:=zzL89.1 hef'
     split at he
     ·rename_i wo hwo
      simp only[Am]at he;subst he
      have hj:ops[j]?=some oj:=by simpa using hoj
      have hw:=gamma_sound hg hj ht h hγ;rw[hw];simp only[zzL18]at hob
      cases γ with
      | false=>
       rw[if_neg (by simp)];rw[hes]at hwo;have hs:=upd_same (σ:=σ) (d:=o.dst) (x:=.cond false (castE (noHint o cs) ef).v) (mergeWo_false hwo);refine hK I θ _ _ ?_;simp only;rw[hs];exact rel_put h (.refl h.chg.rel h.chg.valid) (x:=.cond false _) (.cond _ _ _ (fun hf=>by cases hf) (fun _=>rfl)) hd
      | true=>
       rw[if_pos rfl];obtain⟨c1,c2,c3⟩:=castE_sound (c:=noHint o cs) (e:=ef) (fun p hp=>hob _ (.inr (zzL27.2 ⟨p,hp,rfl⟩)) rfl);have hok:=eff_sound h hd hvs hes (γ:=true) (gd:=true) (fun _=>rfl) (fun p hp=>hob p (.inl hp)) hef c1;have hm:=mergeWo_true hwo;rw[c2]at hm;subst hm;exact .inl (hok K Q fun I' θ' a' w' hr=>hK I' θ' a' w' (rel_cond (rel_cast hr c3) rfl))
     ·cases he
    ·cases he
   ·cases hgv
  ·cases hgv
end
structure Ev where
 rt:List (Nat×AV)
 ro:List (Nat×Option Own)
 wt:Option Nat
 v:AV
 wo:List (Nat×Own)
def Ev.ok(σ:Sto)(e:Ev):Prop:=(∀ p∈e.rt,σ.tmp p.1=p.2)/\∀ p∈e.ro,σ.own p.1=p.2
def Ev.app(σ:Sto)(e:Ev):Sto:=σ.upd e.wt e.v e.wo
def Ev.tr(e:Ev):Tr:=⟨e.rt.map (·.1),e.wt,e.ro.map (·.1),e.wo.map (·.1)⟩
structure Aak(x y:Ev):Prop where
 a:∀ d,x.wt=some d->d∉y.rt.map (·.1)
 b:∀ d,x.wt=some d->y.wt≠some d
 c:∀ d,y.wt=some d->d∉x.rt.map (·.1)
 d:∀ n∈x.wo.map (·.1),n∉y.ro.map (·.1)/\n∉y.wo.map (·.1)
 e:∀ n∈y.wo.map (·.1),n∉x.ro.map (·.1)
theorem notMemB{n:Nat}{l:List Nat}(h:(!D5 n l)=true):n∉l:=fun hm=>by rw[memB_mem.2 hm]at h;cases h
theorem indepB_indep{x y:Ev}(h:indepB x.tr y.tr=true):Aak x y:=by
 simp only[indepB,Ev.tr,A7]at h;obtain⟨⟨⟨h1,h2⟩,h3⟩,h4⟩:=h;refine⟨fun d hd=>?_,fun d hd=>?_,fun d hd=>?_,fun n hn=>?_,fun n hn=>?_⟩
 ·rw[hd]at h1;simp only[A7]at h1;exact notMemB h1.1
 ·rw[hd]at h1;simp only[A7]at h1;intro he;rw[he]at h1;simp at h1
 ·rw[hd]at h2;exact notMemB h2
 ·have:=zzL29.1 h3 n hn;simp only[A7]at this;exact⟨notMemB this.1,notMemB this.2⟩
 ·exact notMemB (zzL29.1 h4 n hn)
inductive Runs:List (Nat×Ev)->Sto->Sto->Prop
 | nil (σ:Sto):Runs [] σ σ
 | cons {i:Nat} {e:Ev} {l:List (Nat×Ev)} {σ σ':Sto} (h:e.ok σ) (t:Runs l (e.app σ) σ'):Runs ((i,e)::l) σ σ'
theorem app_tmp(σ:Sto)(e:Ev)(t:Nat)(h:e.wt≠some t):(e.app σ).tmp t=σ.tmp t:=by simp[Ev.app,Sto.upd,h]
theorem app_own(σ:Sto)(e:Ev)(n:Nat)(h:n∉e.wo.map (·.1)):(e.app σ).own n=σ.own n:=by simp[Ev.app,Sto.upd,Ub h]
theorem ok_back{σ:Sto}{x y:Ev}(hi:Aak x y)(h:y.ok (x.app σ)):y.ok σ:=by
 refine⟨fun p hp=>?_,fun p hp=>?_⟩
 ·rw[<- h.1 p hp,app_tmp];intro he;exact hi.a p.1 he (zzL27.2 ⟨p,hp,rfl⟩)
 ·rw[<- h.2 p hp,app_own];intro he;exact(hi.d p.1 he).1 (zzL27.2 ⟨p,hp,rfl⟩)
theorem ok_fwd{σ:Sto}{x y:Ev}(hi:Aak x y)(h:x.ok σ):x.ok (y.app σ):=by
 refine⟨fun p hp=>?_,fun p hp=>?_⟩
 ·rw[app_tmp]
  ·exact h.1 p hp
  ·intro he;exact hi.c p.1 he (zzL27.2 ⟨p,hp,rfl⟩)
 ·rw[app_own]
  ·exact h.2 p hp
  ·intro he;exact hi.e p.1 he (zzL27.2 ⟨p,hp,rfl⟩)
theorem app_comm{σ:Sto}{x y:Ev}(hi:Aak x y):x.app (y.app σ)=y.app (x.app σ):=by
 simp only[Ev.app,Sto.upd,Sto.mk.injEq]
 constructor
 ·funext t
  by_cases h1:x.wt=some t
  ·have:=hi.b t h1;simp[h1,this]
  ·simp[h1]
 ·funext n
  by_cases h1:n∈x.wo.map (·.1)
  ·have:=Ub (hi.d n h1).2;simp[this]
  ·simp[Ub h1]
theorem runs_take{pre:List (Nat×Ev)}:∀{post:List (Nat×Ev)} {i:Nat} {e:Ev} {σ σ':Sto},Runs (pre++(i,e)::post) σ σ'->(∀ p∈pre,Aak p.2 e)->e.ok σ/\Runs (pre++post) (e.app σ) σ':=by
 induction pre with
 | nil=>intro post i e σ σ' h _;cases h with|cons h t=>exact⟨h,t⟩
 | cons p pre ih=>
  intro post i e σ σ' h hi;obtain⟨j,x⟩:=p
  cases h with|cons hx t=>
  obtain⟨h1,h2⟩:=ih t fun p hp=>hi p (zzL19 _ hp);have hxe:=hi (j,x) (by simp);refine⟨ok_back hxe h1,.cons (ok_fwd hxe hx) ?_⟩;rw[app_comm hxe];exact h2
section
variable {P:Program} {Γ:Iw} {ops:Array Oper} {Q:Exit->Act->World->Prop}
def EvSound(P:Program)(Γ:Iw)(ops:Array Oper)(Q:Exit->Act->World->Prop)(i:Nat)(e:Ev):Prop:=
 ∀(σ:Sto),e.ok σ->∀(I:Nat->Nat->Prop) (θ:Nat->Option (Nat×Nat)) (a:Act) (w:World),Rel Γ σ I θ a w->∀ K:Act->World->Prop,(∀ I' θ' a' w',Rel Γ (e.app σ) I' θ' a' w'->K a' w')->wpOp P ops Q i K a w
theorem text_sound:∀(es:List (Nat×Ev)) (σ σ':Sto),(∀ p∈es,EvSound P Γ ops Q p.1 p.2)->Runs es σ σ'->(∀ I θ a w,Rel Γ σ' I θ a w->Q .normal a w)->
  ∀ I θ a w,Rel Γ σ I θ a w->wpOps P ops Q (es.map (·.1)) a w
 | [],σ,σ',_,hr,hQ,I,θ,a,w,h=>by cases hr;simpa [wpOps] using hQ I θ a w h
 | (i,e)::es,σ,σ',hs,hr,hQ,I,θ,a,w,h=>by
  cases hr with|cons hok t=>
  simp only[C7];rw[wpOps_cons];exact hs (i,e) (by simp) σ hok I θ a w h _ fun I' θ' a' w' h'=>text_sound es _ σ' (fun p hp=>hs p (zzL19 _ hp)) t hQ I' θ' a' w' h'
inductive Anc (ops:Array Oper):Nat->Nat->Prop
 | direct {i:Nat} {o:Oper} {e:Edge} (ho:ops[i]?=some o) (he:e∈o.after) (hb:Region.binds .any e=true):Anc ops e.on i
 | trans {i j k:Nat} (h:Anc ops i j) (h':Anc ops j k):Anc ops i k
def Closed(ops:Array Oper)(listed:Array Bool):Prop:=∀ i o,ops[i]?=some o->listed.getD i false=true->∀ e∈o.after,Region.binds .any e=true->listed.getD e.on false=true
theorem anc_listed{listed:Array Bool}(hc:Closed ops listed){j i:Nat}(h:Anc ops j i):(∀ o,ops[i]?=some o->∀ e∈o.after,Region.binds .any e=true->listed.getD e.on false=true)->listed.getD j false=true:=by
 induction h with
 | direct ho he hb=>intro hi;exact hi _ ho _ he hb
 | trans _ _ ih1 ih2=>intro hi;exact ih1 fun o ho e he hb=>hc _ o ho (ih2 hi) e he hb
theorem any_sound(hedge:∀ i o,ops[i]?=some o->∀ e∈o.after,Region.binds .any e=true->e.on<i)(σ':Sto)(hQ:∀ I θ a w,Rel Γ σ' I θ a w->Q .normal a w):∀(fuel:Nat) (es:List (Nat×Ev)) (listed:Array Bool) (σ:Sto),
  (∀ p∈es,EvSound P Γ ops Q p.1 p.2)->Runs es σ σ'->es.Pairwise (fun p q=>p.1<q.1)->listed.size=ops.size->(∀ j,j∈es.map (·.1)↔j<ops.size/\listed.getD j true=false)->es.length=fuel->
  (∀ p∈es,∀ q∈es,p.1<q.1->¬ Aak p.2 q.2->Anc ops p.1 q.1)->Closed ops listed->∀ I θ a w,Rel Γ σ I θ a w->wpAny P .any ops Q fuel listed a w
 | 0,es,listed,σ,_,hr,_,_,hmem,hlen,_,_,I,θ,a,w,h=>by
  have:es=[]:=zzL90 hlen;subst this;cases hr;refine⟨?_,hQ I θ a w h⟩
  cases hready:Region.ready .any ops listed with
  | nil=>rfl
  | cons i l=>
   have hi:i∈Region.ready .any ops listed:=by rw[hready];simp
   obtain⟨h1,o,ho,_⟩:=mem_ready.1 hi;have:=(hmem i).2 ⟨(Array.getElem?_eq_some_iff.1 ho).1,h1⟩
   cases this
 | fuel+1,es,listed,σ,hs,hr,hpw,hsz,hmem,hlen,hdep,hcl,I,θ,a,w,h=>by
  refine⟨fun hnil=>?_,fun i hi=>?_⟩
  ·cases es with
   | nil=>simp at hlen
   | cons p es=>
    obtain⟨i,e⟩:=p;have hi:=(hmem i).1 (by simp)
    have hin:i∈Region.ready .any ops listed:=by
     refine mem_ready.2 ⟨hi.2,ops[i]'hi.1,by simp[hi.1],fun e' he' hb=>?_⟩;have hlt:=hedge i _ (Array.getElem?_eq_getElem hi.1) e' he' hb
     have hnot:¬ (e'.on∈((i,e)::es).map (·.1)):=by
      intro hm;simp only[C7,zzL28]at hm;rcases hm with hm|hm
      ·omega
      ·obtain⟨q,hq,hq'⟩:=zzL27.1 hm;have:=(zzL106.1 hpw).1 q hq;simp only at this;omega
     rw[hmem]at hnot
     have hlt':e'.on<ops.size:=by omega
     have hls:e'.on<listed.size:=by omega
     cases hb':listed.getD e'.on false with
     | true=>rfl
     | false=>
      refine(hnot ⟨hlt',?_⟩).elim
      simpa [Array.getD,hls] using hb'
    rw[hnil]at hin;cases hin
  ·obtain⟨h1,o,ho,hedges⟩:=mem_ready.1 hi;have hlt:=(Array.getElem?_eq_some_iff.1 ho).1;have hin:=(hmem i).2 ⟨hlt,h1⟩;obtain⟨⟨i',e⟩,hie,rfl⟩:=zzL27.1 hin;obtain⟨pre,post,rfl⟩:=List.append_of_mem hie;simp only at *
   have hpre:∀ p∈pre,Aak p.2 e:=fun p hp=>by
    refine zzL107 fun hni=>?_
    have hpi:p.1<i':=by
     have:=(zzL130.1 hpw).2.2 p hp (i',e) (by simp);exact this
    have hanc:=hdep p (by simp[hp]) (i',e) (by simp) hpi hni
    have hl:=anc_listed hcl hanc (fun o' ho' e' he' hb=>by
     simp only at ho';rw[ho]at ho';obtain rfl:=OI ho'
     exact hedges e' he' hb)
    have hp':=(hmem p.1).1 (zzL27.2 ⟨p,by simp[hp],rfl⟩)
    have hls:p.1<listed.size:=by omega
    simp[Array.getD,hls]at hl hp';rw[hl]at hp';simp at hp'
   obtain⟨hok,hr'⟩:=runs_take hr hpre
   have hpw':(pre++post).Pairwise (fun p q=>p.1<q.1):=by
    refine hpw.sublist ?_;exact List.Sublist.append (List.Sublist.refl _) (List.sublist_cons_self _ _)
   have hsub:∀ p,p∈pre++post->p∈pre++(i',e)::post:=fun p hp=>by
    rcases zzL18.1 hp with hp|hp
    ·exact zzL18.2 (.inl hp)
    ·exact zzL18.2 (.inr (zzL19 _ hp))
   refine hs (i',e) (by simp) σ hok I θ a w h _ fun I' θ' a' w' h'=>
    any_sound hedge σ' hQ fuel (pre++post) (listed.setIfInBounds i' true) _ (fun p hp=>hs p (hsub p hp)) hr' hpw' (by simp[hsz]) (fun j=>?_) (by simp at hlen ⊢;omega) (fun p hp q hq=>hdep p (hsub p hp) q (hsub q hq)) ?_ I' θ' a' w' h'
   ·have hne:∀ p∈pre++post,p.1≠i':=fun p hp he=>by
     rcases zzL18.1 hp with hp|hp
     ·have:=(zzL130.1 hpw).2.2 p hp (i',e) (by simp);simp only at this;omega
     ·have:=(zzL106.1 (zzL130.1 hpw).2.1).1 p hp;simp only at this;omega
    constructor
    ·intro hj;obtain⟨p,hp,rfl⟩:=zzL27.1 hj;have:=(hmem p.1).1 (zzL27.2 ⟨p,hsub p hp,rfl⟩);refine⟨this.1,?_⟩;rw[getD_set_ne true (Ne.symm (hne p hp))];exact this.2
    ·rintro⟨hj1,hj2⟩
     by_cases hji:j=i'
     ·subst hji
      have hls:j<listed.size:=by omega
      simp[Array.getD,hls]at hj2
     ·rw[getD_set_ne true (Ne.symm hji)]at hj2;have:=(hmem j).2 ⟨hj1,hj2⟩;obtain⟨p,hp,rfl⟩:=zzL27.1 this;refine zzL27.2 ⟨p,?_,rfl⟩;rcases zzL18.1 hp with hp|hp
      ·exact zzL18.2 (.inl hp)
      ·rcases zzL28.1 hp with rfl|hp
       ·exact(hji rfl).elim
       ·exact zzL18.2 (.inr hp)
   ·intro x ox hox hx e' he' hb
    apply getD_set_true
    by_cases hxi:i'=x
    ·subst hxi;rw[ho]at hox;obtain rfl:=OI hox;exact hedges e' he' hb
    ·rw[getD_set_ne false hxi]at hx;exact hcl x ox hox hx e' he' hb
end
theorem Jk{α:Type}(l:List (Nat×α))(k:Nat)(x:α)(n:Nat):Ak (E1 l k x) n=if k=n then some x else Ak l n:=by
 induction l with
 | nil=>
  simp only[E1,Ak]
  by_cases h:k=n
  ·subst h;simp
  ·cases hb:Nat.beq k n with
   | true=>exact(h (Cb hb)).elim
   | false=>simp[h]
 | cons p l ih=>
  obtain⟨k',y⟩:=p;simp only[E1]
  cases hb:Nat.beq k' k with
  | true=>
   have:=Cb hb;subst this;simp only[Ag,Ak]
   by_cases h:k'=n
   ·subst h;simp
   ·cases hb:Nat.beq k' n with
    | true=>exact(h (Cb hb)).elim
    | false=>simp[h]
  | false=>
   simp only[Aq,Ak,ih]
   cases hb':Nat.beq k' n with
   | true=>
    have:=Cb hb';subst this
    have:k≠k':=by rintro rfl;simp at hb
    simp[this]
   | false=>simp
theorem look_putAll{α:Type}(l r:List (Nat×α))(n:Nat):Ak (putAll l r) n=match Ak r n with|some x=>some x|none=>Ak l n:=by
 induction r with
 | nil=>rfl
 | cons p r ih=>
  obtain⟨k,x⟩:=p;simp only[putAll,Jk,Ak,ih]
  by_cases h:k=n
  ·subst h;simp
  ·cases hb:Nat.beq k n with
   | true=>exact(h (Cb hb)).elim
   | false=>simp[h]
theorem Bd{l:List (Nat×Own)}{r:List (Nat×Fam)}{k:Nat}(h:k<Bq):Dt l r k=Ak l k:=by simp[Dt,h]
theorem Nu(b i:Nat):¬ Qd b i<Bq:=by unfold Qd;have:Bq*1<=Bq*(b+1):=Nat.mul_le_mul_left _ (by omega);omega
theorem U2{b i:Nat}(h:i<Bq):Qd b i / Bq-1=b:=by
 have h0:0<Bq:=by decide
 unfold Qd;rw[Nat.mul_add_div h0,Nat.div_eq_of_lt h];omega
theorem S0{b i:Nat}(h:i<Bq):Qd b i % Bq=i:=by
 unfold Qd;rw[Nat.mul_add_mod,Nat.mod_eq_of_lt h]
theorem big_of{k:Nat}(h:¬ k<Bq):k=Qd (k / Bq-1) (k % Bq):=by
 have h0:0<Bq:=by decide
 unfold Qd;have:1<=k / Bq:=(Nat.one_le_div_iff h0).2 (by omega);rw[Nat.sub_add_cancel this,Y1]
theorem Ec{l:List (Nat×Own)}{r:List (Nat×Fam)}{k:Nat}(h:¬ k<Bq):Dt l r k=(Ak r (k / Bq-1)).bind fun F=>(F.m (k % Bq)).map (Own.tok F.sz F.e):=by simp[Dt,h]
theorem famOwn_big{l:List (Nat×Own)}{r:List (Nat×Fam)}{b i:Nat}(h:i<Bq):Dt l r (Qd b i)=(Ak r b).bind fun F=>(F.m i).map (Own.tok F.sz F.e):=by
 rw[Ec (Nu b i),U2 h,S0 h]
theorem U7{l:List (Nat×Own)}{r:List (Nat×Fam)}{k:Nat}(h:¬ k<Bq){o:Own}(ho:Dt l r k=some o):∃ sz e m,o = .tok sz e m:=by
 rw[Ec h]at ho;obtain⟨F,_,hF⟩:=zzL114.1 ho;obtain⟨m,_,rfl⟩:=zzL89.1 hF;exact⟨_,_,_,rfl⟩
theorem famOwn_look{l:List (Nat×Own)}{r:List (Nat×Fam)}{k:Nat}{o:Own}(ho:Dt l r k=some o)(hn:∀ sz e m,o≠.tok sz e m):Ak l k=some o:=by
 by_cases hk:k<Bq
 ·rw[<- ho,Bd hk]
 ·obtain⟨sz,e,m,rfl⟩:=U7 hk ho;exact(hn _ _ _ rfl).elim
theorem look_mem'{α:Type}{l:List (Nat×α)}{n:Nat}{x:α}(h:Ak l n=some x):(n,x)∈l:=by
 induction l with
 | nil=>cases h
 | cons p l ih=>
  obtain⟨k,y⟩:=p;simp only[Ak]at h
  cases hb:Nat.beq k n with
  | true=>
   have:=Cb hb;subst this;rw[hb]at h;simp only[Ag,Am]at h;subst h;exact zzL38 ..
  | false=>rw[hb]at h;exact zzL19 _ (ih h)
theorem plain_lt{l:List (Nat×Own)}(h:plainB l=true){k:Nat}(hk:Ak l k≠none):k<Bq:=by
 cases hx:Ak l k with
 | none=>exact(hk hx).elim
 | some o=>have:=zzL29.1 h _ (look_mem' hx);simpa [Iu] using this
theorem famOwn_plain{l:List (Nat×Own)}(h:plainB l=true):Dt l []=Ak l:=by
 funext k
 by_cases hk:k<Bq
 ·exact Bd hk
 ·rw[Ec hk]
  cases hx:Ak l k with
  | none=>rfl
  | some o=>exact(hk (plain_lt h (by rw[hx];simp))).elim
theorem Ll{l:List (Nat×Own)}{r:List (Nat×Fam)}{n:Nat}(hn:n<Bq)(o:Own)(k:Nat):Dt (E1 l n o) r k=if n=k then some o else Dt l r k:=by
 by_cases hk:k<Bq
 ·rw[Bd hk,Bd hk,Jk]
 ·rw[Ec hk,Ec hk,if_neg (by rintro rfl;exact hk hn)]
theorem famOwn_putAll{l wo:List (Nat×Own)}{r:List (Nat×Fam)}{ns:List Nat}(h:Zs ns wo=true)(k:Nat):Dt (putAll l wo) r k=match Ak wo k with|some o=>some o|none=>Dt l r k:=by
 simp only[Zs,A7]at h
 by_cases hk:k<Bq
 ·rw[Bd hk,Bd hk,look_putAll]
  cases Ak wo k<;>rfl
 ·have hn:Ak wo k=none:=by
   cases hx:Ak wo k with
   | none=>rfl
   | some o=>exact(hk (plain_lt h.2 (by rw[hx];simp))).elim
  rw[hn,Ec hk,Ec hk]
theorem sto_upd(st:St)(d:Option Nat)(v:AV)(wo:List (Nat×Own)){ns:List Nat}(hok:Zs ns wo=true):(st.upd d v wo).sto=st.sto.upd d v wo:=by
 simp only[St.sto,St.upd,Sto.upd,Sto.mk.injEq]
 constructor
 ·funext t
  cases d with
  | none=>simp[St.get]
  | some d=>
   simp only[St.get,Jk,Am]
   by_cases h:d=t<;>simp[h]
 ·funext n
  rw[famOwn_putAll hok]
  cases Ak wo n<;>rfl
section
variable {P:Program} {Γ:Iw} {ops:Array Oper} {Q:Exit->Act->World->Prop}
theorem evA_congr{g g':Nat->AV}(l:List Operand)(h:∀ t,.tmp t∈l->g t=g' t):l.map (evA g)=l.map (evA g'):=by
 apply zzL134
 intro x hx
 cases x with
 | tmp t=>exact h t hx
 | _=>rfl
theorem arun_events(cs:List (Nat×AV)):∀(rest:List Oper) (k:Nat) (st:St) (rs:List U0) (st':St) (obs:List Prop) (trs:List Tr),arun P (Spec P) Γ.n cs ops.toList rest st rs=some (st',obs,trs)->
  (∀ j,rest[j]?=ops[k+j]?)->(∀ p∈obs,p)->
  ∃ es:List (Nat×Ev),es.map (·.1)=List.range' k rest.length/\Runs es st.sto st'.sto/\(∀ p∈es,EvSound P Γ ops Q p.1 p.2)/\es.map (fun p=>p.2.tr)=trs
 | [],k,st,rs,st',obs,trs,h,_,_=>by
  simp only[arun,Am,It]at h;obtain⟨rfl,rfl,rfl⟩:=h;exact⟨[],rfl,.nil _,(fun _ h=>by cases h),rfl⟩
 | o::rest,k,st,rs,st',obs,trs,h,hops,hob=>by
  simp only[arun]at h
  generalize hr:orcOf o rs=r at h
  have ho:ops[k]?=some o:=by simpa using(hops 0).symm
  split at h
  ·cases h
  ·rename_i gv hgv
   split at h
   ·cases h
   ·rename_i e he
    cases hdn:dstOk Γ.n o&&Zs (Tl o (o.op.operands.toList.map (evA st.get)) r) e.wo with
    | false=>rw[hdn]at h;simp at h
    | true=>
     rw[hdn]at h;simp only[Ag]at h;simp only[A7]at hdn;obtain⟨hd,hnok⟩:=hdn
     have hnlt:∀ n∈Tl o (o.op.operands.toList.map (evA st.get)) r,n<Bq:=fun n hn=>by
      have hnok':=hnok;simp only[Zs,A7]at hnok';have:=zzL29.1 hnok'.1 n hn
      simpa [Iu] using this
     split at h
     ·cases h
     ·rename_i st1 obs1 trs1 hrec
      simp only[Am,It]at h;obtain⟨rfl,rfl,rfl⟩:=h;obtain⟨es,h1,h2,h3,h4⟩:=arun_events cs rest (k+1) _ _ _ _ _ hrec (fun j=>by have:=hops (j+1);simpa [Po,Nat.add_comm 1 j] using this) (fun p hp=>hob p (zzL18.2 (.inr hp)))
      let ns:=Tl o (o.op.operands.toList.map (evA st.get)) r
      let ev:Ev:=⟨(Zn ops.toList o++tmpsOf o).map (fun t=>(t,st.get t)),ns.map (fun n=>(n,Ak st.own n)),o.dst,e.v,e.wo⟩
      refine⟨(k,ev)::es,by simp[Y4,h1],.cons ⟨fun p hp=>?_,fun p hp=>?_⟩ (by rw[show ev.app st.sto=(st.upd o.dst e.v e.wo).sto from(sto_upd _ _ _ _ hnok).symm];exact h2),fun p hp=>?_,?_⟩
      ·obtain⟨t,_,rfl⟩:=zzL27.1 hp;rfl
      ·obtain⟨n,hn,rfl⟩:=zzL27.1 hp;exact Bd (hnlt n hn)
      ·rcases zzL28.1 hp with rfl|hp
       ·intro σ hok I θ a w hrel K hK;have ht:∀ t,t∈Zn ops.toList o++tmpsOf o->σ.tmp t=st.get t:=fun t ht=>hok.1 (t,st.get t) (zzL27.2 ⟨t,ht,rfl⟩);have hn:∀ n,n∈ns->σ.own n=Ak st.own n:=fun n hn=>hok.2 (n,Ak st.own n) (zzL27.2 ⟨n,hn,rfl⟩);have hvs:o.op.operands.toList.map (evA st.get)=o.op.operands.toList.map (evA σ.tmp):=evA_congr _ fun t hm=>(ht t (zzL18.2 (.inr (List.mem_filterMap.2 ⟨.tmp t,hm,rfl⟩)))).symm
        have hgv':Xz ops.toList σ.tmp o=some gv:=by
         rw[<- hgv];unfold Xz
         cases hg:o.guard with
         | none=>rfl
         | some jw=>
          obtain⟨j,want⟩:=jw
          dsimp only
          cases hj:ops.toList[j]? with
          | none=>rfl
          | some oj=>
           dsimp only
           cases hdj:oj.dst with
           | none=>rfl
           | some t=>
            dsimp only
            rw[ht t (zzL18.2 (.inl (by simp only[Zn,hg,hj,hdj];simp)))]
        refine step_sound ho hrel (fun d hdd=>?_) hvs hgv' (r:=r) (es:=ns.map (Ak st.own)) ?_ he (fun p hp=>hob p (zzL18.2 (.inl hp))) K Q hK
        ·simp only[dstOk,hdd]at hd;simpa [Iu] using hd
        ·exact zzL134 fun n hn'=>(hn n hn').symm
       ·exact h3 p hp
      ·simp only[C7,h4,D8,Bs];simp[Ev.tr,ev,ns,zzL112]
theorem maskOf_spec(done:List Nat)(l:List Edge):∀(s j:Nat),(l.foldl (fun s e=>bif Region.binds .any e then s ||| (2 ^ e.on ||| done.getD e.on 0) else s) s).testBit j=true->
  s.testBit j=true\/∃ e∈l,Region.binds .any e=true/\(e.on=j\/(done.getD e.on 0).testBit j=true):=by
 induction l with
 | nil=>intro s j h;exact .inl h
 | cons e l ih=>
  intro s j h;simp only[List.foldl_cons]at h;rcases ih _ j h with h'|⟨e',he',hb,hh⟩
  ·cases hb:Region.binds .any e with
   | false=>rw[hb]at h';exact .inl (by simpa using h')
   | true=>
    rw[hb]at h';simp only[Ag,Nat.testBit_or,Y7]at h';rcases h' with h'|h'|h'
    ·exact .inl h'
    ·refine .inr ⟨e,by simp,hb,.inl ?_⟩;rw[Nat.testBit_two_pow]at h'
     simpa using h'
    ·exact .inr ⟨e,by simp,hb,.inr h'⟩
  ·exact .inr ⟨e',zzL19 _ he',hb,hh⟩
theorem ancGo_spec:∀(l:List Oper) (done:List Nat),(∀ j,l[j]?=ops[done.length+j]?)->(∀ i j,(done.getD i 0).testBit j=true->Anc ops j i)->
  ∀ i j,((ancGo done l).getD i 0).testBit j=true->Anc ops j i
 | [],done,_,hd,i,j,h=>hd i j h
 | o::l,done,hops,hd,i,j,h=>by
  simp only[ancGo]at h;refine ancGo_spec l (done++[maskOf done o]) (fun j=>by have:=hops (j+1);simpa [Po,Nat.add_comm 1 j] using this) (fun i j hb=>?_) i j h
  by_cases hlt:i<done.length
  ·exact hd i j (by rwa[List.getD,Qy hlt]at hb)
  ·by_cases hi:i=done.length
   ·subst hi;rw[List.getD,Us (zzL9 _)]at hb;simp only[Nat.sub_self,List.getElem?_cons_zero,zzL115]at hb
    have ho:ops[done.length]?=some o:=by simpa using(hops 0).symm
    rcases maskOf_spec done o.after.toList 0 j hb with h'|⟨e,he,hbd,h'|h'⟩
    ·simp at h'
    ·subst h';exact .direct ho (by simpa using he) hbd
    ·exact .trans (hd _ _ h') (.direct ho (by simpa using he) hbd)
   ·rw[List.getD,zzL104 (by simp;omega)]at hb;simp at hb
theorem edgesGo_spec:∀(l:List Oper) (k:Nat),edgesGo k l=true->∀ j o,l[j]?=some o->∀ e∈o.after,Region.binds .any e=true->e.on<k+j
 | [],_,_,j,o,h=>by simp at h
 | x::l,k,hg,j,o,h=>by
  simp only[edgesGo,A7]at hg;intro e he hb
  cases j with
  | zero=>
   simp only[List.getElem?_cons_zero,Am]at h;subst h;have:=zzL29.1 hg.1 e (by simpa using he)
   simpa [hb,Iu] using this
  | succ j=>
   have:=edgesGo_spec l (k+1) hg.2 j o (by simpa using h) e he hb;omega
theorem depGo_spec(ms:List Nat):∀(l:List (Nat×Ev)) (i:Nat) (prev:List (Nat×Ev)),depGo ms i (prev.map fun p=>(p.1,p.2.tr)) (l.map fun p=>p.2.tr)=true->l.map (·.1)=List.range' i l.length->
  (∀ q∈l,∀ p∈prev,Aak p.2 q.2\/(ms.getD q.1 0).testBit p.1=true)/\(∀ p∈l,∀ q∈l,p.1<q.1->Aak p.2 q.2\/(ms.getD q.1 0).testBit p.1=true)
 | [],_,_,_,_=>⟨(fun _ h=>by cases h),(fun _ h=>by cases h)⟩
 | (i',e)::l,i,prev,h,hi=>by
  simp only[C7,Wo,Y4,D8]at hi;obtain⟨rfl,hi⟩:=hi;simp only[C7,depGo,A7]at h;obtain⟨h1,h2⟩:=h;obtain⟨r1,r2⟩:=depGo_spec ms l (i'+1) ((i',e)::prev) h2 hi
  have hd:∀ p∈prev,Aak p.2 e\/(ms.getD i' 0).testBit p.1=true:=fun p hp=>by
   have:=zzL29.1 h1 (p.1,p.2.tr) (zzL27.2 ⟨p,hp,rfl⟩);simp only[Y7]at this;rcases this with h|h
   ·exact .inl (indepB_indep h)
   ·exact .inr h
  refine⟨fun q hq p hp=>?_,fun p hp q hq hlt=>?_⟩
  ·rcases zzL28.1 hq with rfl|hq
   ·exact hd p hp
   ·exact r1 q hq p (zzL19 _ hp)
  ·rcases zzL28.1 hq with rfl|hq
   ·rcases zzL28.1 hp with rfl|hp
    ·exact(zzL99 _ hlt).elim
    ·have hm:p.1∈l.map (·.1):=zzL27.2 ⟨p,hp,rfl⟩;rw[hi]at hm;have:=(List.mem_range'_1.1 hm).1;simp only at hlt;omega
   ·rcases zzL28.1 hp with rfl|hp
    ·exact r1 q hq _ (by simp)
    ·exact r2 p hp q hq hlt
theorem Wj:∀(n k:Nat) (l:List (Nat×Ev)),l.map (·.1)=List.range' k n->l.Pairwise (fun p q=>p.1<q.1)
 | 0,_,l,h=>by
  have:l=[]:=by simpa using h
  subst this;exact .nil
 | n+1,k,[],h=>by simp[Y4]at h
 | n+1,k,p::l,h=>by
  simp only[C7,Y4,D8]at h;refine .cons (fun q hq=>?_) (Wj n (k+1) l h.2);have hm:q.1∈l.map (·.1):=zzL27.2 ⟨q,hq,rfl⟩;rw[h.2]at hm;have:=(List.mem_range'_1.1 hm).1;rw[h.1];omega
end
theorem look_live(l:List Nat)(g:Nat->AV)(t:Nat):Ak (l.map fun t=>(t,g t)) t=if t∈l then some (g t) else none:=by
 induction l with
 | nil=>simp[Ak]
 | cons k l ih=>
  simp only[C7,Ak,ih]
  cases hb:Nat.beq k t with
  | true=>have:=Cb hb;subst this;simp
  | false=>
   have:t≠k:=by rintro rfl;simp at hb
   simp[this]
theorem look_names(l:List Nat)(g:Nat->Option Own)(n:Nat):Ak (l.filterMap fun n=>match g n with|some o=>some (n,o)|none=>none) n=if n∈l then g n else none:=by
 induction l with
 | nil=>simp[Ak]
 | cons k l ih=>
  simp only[List.filterMap_cons]
  cases hk:g k with
  | none=>
   simp only[ih]
   by_cases h:n=k
   ·subst h;simp[hk]
   ·simp[h]
  | some o=>
   simp only[Ak,ih]
   cases hb:Nat.beq k n with
   | true=>have:=Cb hb;subst this;simp[hk]
   | false=>
    have:n≠k:=by rintro rfl;simp at hb
    simp[this]
theorem look_namesF(l:List Nat)(g:Nat->Option Fam)(n:Nat):Ak (l.filterMap fun n=>match g n with|some o=>some (n,o)|none=>none) n=if n∈l then g n else none:=by
 induction l with
 | nil=>simp[Ak]
 | cons k l ih=>
  simp only[List.filterMap_cons]
  cases hk:g k with
  | none=>
   simp only[ih]
   by_cases h:n=k
   ·subst h;simp[hk]
   ·simp[h]
  | some o=>
   simp only[Ak,ih]
   cases hb:Nat.beq k n with
   | true=>have:=Cb hb;subst this;simp[hk]
   | false=>
    have:n≠k:=by rintro rfl;simp at hb
    simp[this]
theorem restrict0_fam(live names:List Nat)(st:St)(n:Nat):Ak (Fa live names st).fam n=if n∈names then Ak st.fam n else none:=by
 have e:(Fa live names st).fam=names.filterMap fun n=>match Ak st.fam n with|some o=>some (n,o)|none=>none:=by
  simp only[Fa]
  apply Cq (fun f=>names.filterMap f)
  funext n
  cases Ak st.fam n<;>rfl
 rw[e,look_namesF]
theorem restrict0_own(live names:List Nat)(st:St)(n:Nat):Ak (Fa live names st).own n=if n∈names then(Ak st.own n).map (Own.erase fun n=>D5 n names) else none:=by
 have e:(Fa live names st).own=names.filterMap fun n=>match(Ak st.own n).map (Own.erase fun n=>D5 n names) with|some o=>some (n,o)|none=>none:=by
  simp only[Fa]
  congr 1
  funext n
  cases Ak st.own n<;>rfl
 rw[e,look_names]
theorem rel_restrict0{Γ:Iw}{I:Nat->Nat->Prop}{θ:Nat->Option (Nat×Nat)}{a:Act}{w:World}{st:St}{live names:List Nat}(h:Rel Γ st.sto I θ a w)(hn:∀ nm,Γ.own0 nm≠none->nm∈names)(hlt:∀ n∈names,n<Bq):Rel Γ (Fa live names st).sto I θ a w:=by
 have hL:∀ nm,Ak (Fa live names st).own nm=if nm∈names then(Ak st.own nm).map (Own.erase fun n=>D5 n names) else none:=restrict0_own live names st
 have hF:∀ nm,Ak (Fa live names st).fam nm=if nm∈names then Ak st.fam nm else none:=restrict0_fam live names st
 have hown:∀ nm,nm<Bq->(Fa live names st).sto.own nm=if nm∈names then(st.sto.own nm).map (Own.erase fun n=>D5 n names) else none:=fun nm hlt=>by
  show Dt _ _ nm=_
  rw[Bd hlt,hL]
  show _=if nm∈names then(Dt st.own _ nm).map _ else none
  rw[Bd hlt]
 have hbig:∀ k,¬ k<Bq->(Fa live names st).sto.own k=if k / Bq-1∈names then st.sto.own k else none:=fun k hk=>by
  show Dt _ _ k=if _ then Dt _ _ k else none
  rw[Ec hk,Ec hk,hF]
  split<;>rfl
 have hk:∀ nm o,st.sto.own nm=some o->D5 nm names=true->(Fa live names st).sto.own nm=some (o.erase fun n=>D5 n names):=fun nm o ho hm=>by
  rw[hown nm (hlt nm (memB_mem.1 hm)),if_pos (memB_mem.1 hm),ho];rfl
 have hkb:∀ b i sz e m,i<Bq->st.sto.own (Qd b i)=some (.tok sz e m)->D5 b names=true->(Fa live names st).sto.own (Qd b i)=some (.tok sz e m):=fun b i sz e m hi ho hm=>by
  rw[hbig _ (Nu b i),U2 hi,if_pos (memB_mem.1 hm),ho]
 have hinv:∀ nm o,(Fa live names st).sto.own nm=some o->∃ o',st.sto.own nm=some o'/\o=o'.erase fun n=>D5 n names:=fun nm o ho=>by
  by_cases hlt:nm<Bq
  ·rw[hown nm hlt]at ho
   split at ho
   ·obtain⟨o',ho',rfl⟩:=zzL89.1 ho;exact⟨o',ho',rfl⟩
   ·cases ho
  ·rw[hbig nm hlt]at ho
   split at ho
   ·obtain⟨sz,e,m,rfl⟩:=U7 hlt (show Dt st.own st.fam nm=some o from ho);exact⟨_,ho,rfl⟩
   ·cases ho
 refine⟨h.size,h.defers,fun t=>?_,?_⟩
 ·have e:(Fa live names st).sto.tmp t=if t∈live then(st.get t).erase (fun n=>D5 n names) else .any:=by
   simp only[St.sto,St.get,Fa,look_live]
   split
   ·rename_i h;split at h<;>simp_all
   ·rename_i h;split at h<;>simp_all
  rw[e]
  split
  ·exact(h.slots t).erase _ hk hkb
  ·exact .val _ _ (.any _)
 ·refine{ h.chg with le:=fun nm o ho=>?_,rel:=⟨fun nm e0 cells ho=>?_,fun nm sz e m ho=>?_,fun nm nm' g c c' ho ho'=>?_,fun nm sz e m f ho=>?_,fun nm x ho=>?_,fun nm sz m ho hnn=>?_⟩,new:=fun nm g c ho hg=>?_ }
  rotate_left 6
  ·obtain⟨o',ho',he⟩:=hinv nm _ ho
   cases o' with
   | row=>simp[Own.erase]at he
   | arr=>simp[Own.erase]at he
   | obj=>simp[Own.erase]at he
   | tok=>
    simp only[Own.erase,Own.tok.injEq]at he;obtain⟨rfl,rfl,rfl⟩:=he;exact h.chg.rel.tok8 nm _ _ ho' hnn
  rotate_right 6
  rotate_left 5
  ·obtain⟨o',ho',he⟩:=hinv nm _ ho
   cases o' with
   | row=>simp[Own.erase]at he
   | tok=>simp[Own.erase]at he
   | arr=>simp[Own.erase]at he
   | obj x'=>
    simp only[Own.erase,Own.obj.injEq]at he;subst he;exact Lr (h.chg.rel.obj nm _ ho') rfl (fun _ _ _=>rfl) (fun _ _ _ _ h=>h) (fun _ hh=>hh.on _ (fun _ _ h=>h) (fun _ _ _=>rfl) fun v y hv=>hv.erase _ hk hkb) on_nil
  rotate_left 1
  ·obtain⟨o',ho',hl⟩:=h.chg.le nm o ho;refine⟨_,hk nm o' ho' (memB_mem.2 (hn nm (by simp[ho]))),?_⟩
   cases o<;>cases o'<;>simp_all [OwnLe,Own.erase]
  ·obtain⟨o',ho',he⟩:=hinv nm _ ho
   cases o' with
   | tok=>simp[Own.erase]at he
   | arr=>simp[Own.erase]at he
   | obj=>simp[Own.erase]at he
   | row e' cs=>
    simp only[Own.erase,Own.row.injEq]at he;obtain⟨rfl,rfl⟩:=he;obtain⟨g,c,vs,r1,r2,r3,r4,r5,r6⟩:=h.chg.rel.row nm _ cs ho';refine⟨g,c,vs,r1,r2,by rw[Ba];exact r3,fun j hj=>r4 j (by rwa[Ba]at hj),fun j hj=>?_,r6⟩;rw[H8];exact(r5 j (by rwa[Ba]at hj)).erase _ hk hkb
  ·obtain⟨o',ho',he⟩:=hinv nm _ ho
   cases o' with
   | row=>simp[Own.erase]at he
   | arr=>simp[Own.erase]at he
   | obj=>simp[Own.erase]at he
   | tok=>
    simp only[Own.erase,Own.tok.injEq]at he;obtain⟨rfl,rfl,rfl⟩:=he;exact h.chg.rel.tok nm _ _ _ ho'
  ·refine h.chg.rel.inj nm nm' g c c' ?_ ?_
   ·cases hx:(Fa live names st).sto.own nm with
    | none=>exact(ho hx).elim
    | some o=>obtain⟨o',ho',_⟩:=hinv nm o hx;simp[ho']
   ·cases hx:(Fa live names st).sto.own nm' with
    | none=>exact(ho' hx).elim
    | some o=>obtain⟨o',ho',_⟩:=hinv nm' o hx;simp[ho']
  ·obtain⟨o',ho',he⟩:=hinv nm _ ho
   cases o' with
   | row=>simp[Own.erase]at he
   | tok=>simp[Own.erase]at he
   | obj=>simp[Own.erase]at he
   | arr sz' e' m' f'=>
    simp only[Own.erase,Own.arr.injEq]at he;obtain⟨rfl,rfl,rfl,rfl⟩:=he;exact O4 (h.chg.rel.arr nm _ _ _ _ ho') rfl (fun _ _ _=>rfl) (fun _ _ _ _ h=>h) (fun i _=>Ba _ _) (fun v i j _ _ hv=>by rw[H8];exact hv.erase _ hk hkb)
  ·cases hx:(Fa live names st).sto.own nm with
   | none=>exact(ho hx).elim
   | some o=>
    obtain⟨o',ho',_⟩:=hinv nm o hx;exact h.chg.new nm g c (by simp[ho']) hg
theorem rel_restrict{Γ:Iw}{I:Nat->Nat->Prop}{θ:Nat->Option (Nat×Nat)}{a:Act}{w:World}{st:St}{live names:List Nat}(h:Rel Γ st.sto I θ a w)(hn:∀ nm,Γ.own0 nm≠none->nm∈names):Rel Γ (Jw live names st).sto I θ a w:=
 rel_restrict0 h (fun nm h0=>zzL72.2 ⟨hn nm h0,by simpa [Iu] using Γ.lt0 nm h0⟩) (fun n hn=>by have:=(zzL72.1 hn).2;simpa [Iu] using this)
theorem conjL_all{l:List Prop}(h:conjL l):∀ p∈l,p:=by
 induction l with
 | nil=>intro p hp;cases hp
 | cons x l ih=>
  intro p hp;rcases zzL28.1 hp with rfl|hp
  ·exact h.1
  ·exact ih h.2 p hp
theorem rel_drew{Γ:Iw}{σ:Sto}{I:Nat->Nat->Prop}{θ:Nat->Option (Nat×Nat)}{a:Act}{w:World}(h:Rel Γ σ I θ a w):Rel Γ σ I θ a { w with drawn:=w.drawn+1 }:=
 ⟨h.size,h.defers,fun t=>(h.slots t).mono (fun _ _ h=>h) (fun _ _ _=>rfl) (fun _ o ho=>⟨o,ho,.refl _ _⟩),
  {h.chg with drawn:=fun d=>Nat.le_succ_of_le (h.chg.drawn d),rel:=⟨fun nm e cells ho=>by
              obtain⟨g,c,vs,r1,r2,r3,r4,r5,r6⟩:=h.chg.rel.row nm e cells ho
              exact⟨g,c,vs,r1,r2,r3,r4,fun j hj=>(r5 j hj).mono (fun _ _ h=>h) (fun _ _ _=>rfl) (fun _ o ho=>⟨o,ho,.refl _ _⟩),r6⟩,h.chg.rel.tok,h.chg.rel.inj,
             fun nm sz e m f ho=>O4 (h.chg.rel.arr nm sz e m f ho) rfl (fun _ _ _=>rfl) (fun _ _ _ _ h=>h) (fun _ _=>rfl) (fun v i j _ _ hv=>hv.mono (fun _ _ h=>h) (fun _ _ _=>rfl) (fun _ o ho=>⟨o,ho,.refl _ _⟩)),
             fun nm x ho=>Lr (h.chg.rel.obj nm x ho) rfl (fun _ _ _=>rfl) (fun _ _ _ _ h=>h) (fun _ hh=>hh.mono fun v y hv=>hv.mono (fun _ _ h=>h) (fun _ _ _=>rfl) (fun _ o ho=>⟨o,ho,.refl _ _⟩)) Tj,h.chg.rel.tok8⟩ }⟩
def Zh(P:Program)(Γ:Iw)(c:Code)(K:Exit->St->Prop)(st:St):Prop:=
 ∀(I:Nat->Nat->Prop) (θ:Nat->Option (Nat×Nat)) (a:Act) (w:World),Rel Γ st.sto I θ a w->c.wp P (fun e a' w'=>∃ st' I' θ',K e st'/\Rel Γ st'.sto I' θ' a' w') a w
theorem awp_region{P:Program}{Γ:Iw}{id:Nat}{ops:List Oper}{draw:Bool}{K:Exit->St->Prop}{st st':St}{rs:List U0}{cs:List (Nat×AV)}{live names:List Nat}{obs:List Prop}{n:Nat}(hnn:Γ.n=n)(hm:P.follows .mixedOrders=true)(hn:∀ nm,Γ.own0 nm≠none->nm∈names)
  (h:aregion P (Spec P) n cs live names ops draw st rs=some (st',obs,true)) (hob:conjL obs) (hK:K .normal st'):Zh P Γ (.region id ops.toArray draw) K st:=by
 subst hnn;unfold aregion at h
 split at h
 ·rename_i st1 obs1 trs hr
  simp only[Am,It]at h;obtain⟨rfl,rfl,hord⟩:=h
  have hr':arun P (Spec P) Γ.n cs ops.toArray.toList ops st rs=some (st1,obs1,trs):=by simpa using hr
  intro I θ a w hrel;obtain⟨es,h1,h2,h3,h4⟩:=arun_events (cs:=cs) (Q:=fun e a' w'=>∃ st' I' θ',K e st'/\Rel Γ st'.sto I' θ' a' w') ops 0 st rs st1 obs1 trs hr' (fun j=>by simp) (conjL_all hob);have hfin:∀ I θ a w,Rel Γ st1.sto I θ a w->∃ st' I' θ',K .normal st'/\Rel Γ st'.sto I' θ' a w:=fun I θ a w hrel=>⟨_,I,θ,hK,rel_restrict hrel hn⟩
  cases draw with
  | false=>
   refine wp_region ?_;have:=text_sound es st.sto st1.sto h3 h2 hfin I θ a w hrel;rw[h1]at this;rwa[Px,zzL129]
  | true=>
   simp only[Ag,orderOk,A7]at hord;obtain⟨o1,o2⟩:=hord;refine wp_region_any hm ?_
   have hlen:es.length=ops.length:=by have:=Cq List.length h1;simpa using this
   rw[<- h4]at o2;have hdep:=(depGo_spec (ancGo [] ops) es 0 [] o2 (by rw[h1,hlen])).2;refine any_sound (fun i o ho e he hb=>?_) st1.sto hfin ops.toArray.size es (Array.replicate ops.toArray.size false) st.sto h3 h2 (Wj _ _ _ h1) (by simp) (fun j=>?_) (by simp[hlen]) (fun p hp q hq hlt hni=>?_) ?_ I θ a _ (rel_drew hrel)
   ·have:=edgesGo_spec ops 0 o1 i o (by simpa using ho) e he hb;omega
   ·rw[h1,List.mem_range'_1]
    constructor
    ·intro hj
     have hj':j<ops.length:=by omega
     exact⟨by simpa using hj',by simp[Array.getD,hj']⟩
    ·rintro⟨hj,_⟩
     have:j<ops.length:=by simpa using hj
     omega
   ·rcases hdep p hp q hq hlt with h|h
    ·exact(hni h).elim
    ·exact ancGo_spec ops [] (fun j=>by simp) (fun i j h=>by simp at h) q.1 p.1 h
   ·intro i o ho hl;simp[Array.getD]at hl
 ·cases h
inductive LR (S X:Type) where
 | next (s:S)
 | done (x:X)
inductive LRuns {S X:Type} (f:S->Option (LR S X)):S->X->Nat->Prop
 | done {s:S} {x:X} (h:f s=some (.done x)):LRuns f s x 0
 | next {s s':S} {x:X} {n:Nat} (h:f s=some (.next s')) (t:LRuns f s' x n):LRuns f s x (n+1)
theorem LRuns.unique{S X:Type}{f:S->Option (LR S X)}{s:S}{x y:X}{n m:Nat}(h:LRuns f s x n)(k:LRuns f s y m):x=y:=by
 induction h generalizing m with
 | done h=>cases k with
  | done h'=>rw[h]at h';cases h';rfl
  | next h' _=>rw[h]at h';cases h'
 | next h _ ih=>cases k with
  | done h'=>rw[h]at h';cases h'
  | next h' t'=>rw[h]at h';cases h';exact ih t'
open Classical in
def loopC{S X:Type}(f:S->Option (LR S X))(s:S):Option X:=
 if h:∃ x n,LRuns f s x n then some h.choose else none
def loopN{S X:Type}(f:S->Option (LR S X))(n:Nat):S->Option (Option X):=
 Nat.rec (fun _=>none) (fun _ ih s=>match f s with|none=>some none|some (.done x)=>some (some x)|some (.next s')=>ih s') n
def Ah{S X:Type}(f:S->Option (LR S X))(s:S):Option X:=
 match loopN f 4096 s with|some r=>r|none=>loopC f s
theorem loopC_iff{S X:Type}{f:S->Option (LR S X)}{s:S}{x:X}:loopC f s=some x↔∃ n,LRuns f s x n:=by
 unfold loopC
 constructor
 ·intro h
  split at h
  ·rename_i hx
   obtain⟨n,hn⟩:=hx.choose_spec;simp only[Am]at h;subst h;exact⟨n,hn⟩
  ·cases h
 ·rintro⟨n,hn⟩;have hx:∃ x n,LRuns f s x n:=⟨x,n,hn⟩;rw[dif_pos hx];obtain⟨m,hm⟩:=hx.choose_spec;rw[hm.unique hn]
theorem loopN_eq{S X:Type}{f:S->Option (LR S X)}:∀{n:Nat} {s:S} {r:Option X},loopN f n s=some r->loopC f s=r
 | 0,s,r,h=>by cases h
 | n+1,s,r,h=>by
  have e:loopN f (n+1) s=(match f s with|none=>some none|some (.done x)=>some (some x)|some (.next s')=>loopN f n s'):=rfl;rw[e]at h
  split at h
  ·rename_i hf
   cases h
   cases hx:loopC f s with
   | none=>rfl
   | some x=>
    obtain⟨m,hm⟩:=loopC_iff.1 hx
    cases hm with
    | done h'=>rw[hf]at h';cases h'
    | next h' _=>rw[hf]at h';cases h'
  ·rename_i x hf
   cases h;exact loopC_iff.2 ⟨0,.done hf⟩
  ·rename_i s' hf
   have ih:=loopN_eq h;rw[<- ih]
   apply Option.ext
   intro x
   constructor
   ·intro hx;obtain⟨m,hm⟩:=loopC_iff.1 hx
    cases hm with
    | done h'=>rw[hf]at h';cases h'
    | next h' t=>rw[hf]at h';cases h';exact loopC_iff.2 ⟨_,t⟩
   ·intro hx;obtain⟨m,hm⟩:=loopC_iff.1 hx;exact loopC_iff.2 ⟨_,.next hf hm⟩
theorem loopO_eqC{S X:Type}(f:S->Option (LR S X))(s:S):Ah f s=loopC f s:=by
 unfold Ah
 cases h:loopN f 4096 s with
 | none=>rfl
 | some r=>exact(loopN_eq h).symm
theorem loopO_iff{S X:Type}{f:S->Option (LR S X)}{s:S}{x:X}:Ah f s=some x↔∃ n,LRuns f s x n:=by rw[loopO_eqC];exact loopC_iff
theorem Ao{S X:Type}{f:S->Option (LR S X)}{s:S}{x:X}(h:f s=some (.done x)):Ah f s=some x:=loopO_iff.2 ⟨0,.done h⟩
theorem Ax{S X:Type}{f:S->Option (LR S X)}{s s':S}(h:f s=some (.next s')):Ah f s=Ah f s':=by
 apply Option.ext
 intro x
 constructor
 ·intro hx;obtain⟨n,hn⟩:=loopO_iff.1 hx
  cases hn with
  | done h'=>rw[h]at h';cases h'
  | next h' t=>rw[h]at h';cases h';exact loopO_iff.2 ⟨_,t⟩
 ·intro hx;obtain⟨n,hn⟩:=loopO_iff.1 hx;exact loopO_iff.2 ⟨_,.next h hn⟩
theorem loopO_none{S X:Type}{f:S->Option (LR S X)}{s:S}(h:f s=none):Ah f s=none:=by
 cases hx:Ah f s with
 | none=>rfl
 | some x=>
  obtain⟨n,hn⟩:=loopO_iff.1 hx
  cases hn with
  | done h'=>rw[h]at h';cases h'
  | next h' t=>rw[h]at h';cases h'
def A6{R:Type}(p:Prop)[Decidable p](k:Option R):Option R:=if p then k else none
theorem Aa{R:Type}{p:Prop}[Decidable p]{k:Option R}{r:R}(h:A6 p k=some r):p/\k=some r:=by
 unfold A6 at h
 split at h
 ·exact⟨‹p›,h⟩
 ·cases h
theorem Ae{R:Type}{p:Prop}[Decidable p]{k:Option R}(h:p):A6 p k=k:=by simp[A6,h]
def P9{S X:Type}(f0:Option (LR S X))(f:S->Option (LR S X)):Option X:=f0.bind fun | .next s=>Ah f s | .done x=>some x
theorem bind_some{A R:Type}{x:Option A}{k:A->Option R}{r:R}(h:x.bind k=some r):∃ a,x=some a/\k a=some r:=zzL114.1 h
section
variable {P:Program} {Γ:Iw}
def Le(Γ:Iw)(st st':St):Prop:=∀(I:Nat->Nat->Prop) (θ:Nat->Option (Nat×Nat)) (a:Act) (w:World),Rel Γ st.sto I θ a w->∃ I' θ',Rel Γ st'.sto I' θ' a w
theorem Le.refl(Γ:Iw)(st:St):Le Γ st st:=fun I θ _ _ h=>⟨I,θ,h⟩
theorem Le.trans{st st' st'':St}(h:Le Γ st st')(k:Le Γ st' st''):Le Γ st st'':=fun I θ a w hr=>let⟨I',θ',hr'⟩:=h I θ a w hr;k I' θ' a w hr'
theorem AVle.refl(x:AV):AVle x x:=fun _ _ _ _ _ h=>h
theorem AVle.any(x:AV):AVle x .any:=fun _ _ _ _ v _=>.val _ _ (.any v)
theorem RepV.slice_ext{I:Nat->Nat->Prop}{w:World}{v:Value}{sz n:Nat}{f g:Nat->List AV}(h:RepV I w v (.slice sz n f .none))(hf:∀ i,i<n->f i=g i):RepV I w v (.slice sz n g .none):=by
 obtain⟨_,ad,cap,us,rfl,hcap,hmax,hz,hn,h1,hl,hr⟩:=h.slice_inv;exact .slice ad n cap sz g us hcap hmax hz hn h1 (fun i hi=>by rw[<- hf i hi];exact hl i hi) (fun i c hi hc=>by rw[<- hf i hi];exact hr i c hi hc)
theorem AVle.slice{sz n n':Nat}{f g:Nat->List AV}{t:Tag}(hn:n=n')(hf:∀ i,i<n->f i=g i):AVle (.slice sz n f t) (.slice sz n' g t):=by
 subst hn;intro I own θ w v h
 cases h with
 | val v x h=>obtain⟨rfl,_⟩:=h.slice_inv;exact .val _ _ (h.slice_ext hf)
 | exact a n sz f h=>exact .exact a n sz g (h.slice_ext hf)
 | own nm sz e m a n cap f ho hm hv h=>exact .own nm sz e m a n cap g ho hm hv (h.slice_ext hf)
 | fam b i sz e m a n cap f hi ho hm hv h=>exact .fam b i sz e m a n cap g hi ho hm hv (h.slice_ext hf)
theorem AVle.untag{sz n:Nat}{f:Nat->List AV}{t:Tag}:AVle (.slice sz n f t) (.slice sz n f .none):=fun _ _ _ _ _ h=>.val _ _ h.slice_val
theorem AVle.empty{sz sz' n:Nat}{f g:Nat->List AV}{t:Tag}(hn:n=0)(ht:∀ nm,t≠.own nm)(ht':∀ b i,t≠.fam b i:=by intro _ _ h;cases h):AVle (.slice sz n f t) (.slice sz' n g t):=by
 subst hn;intro I own θ w v h
 have key:∀ v,RepV I w v (.slice sz 0 f .none)->RepV I w v (.slice sz' 0 g .none):=fun v h=>by
  obtain⟨_,ad,cap,us,rfl,hcap,hmax,hz,hn,h1,hl,hr⟩:=h.slice_inv;exact .slice ad 0 cap sz' g us hcap hmax (fun h=>by omega) hn (fun j hj=>by omega) (fun i hi=>by omega) (fun i c hi=>by omega)
 cases h with
 | val v x h=>obtain⟨rfl,_⟩:=h.slice_inv;exact .val _ _ (key _ h)
 | exact a n sz f h=>exact .exact a _ sz' g (key _ h)
 | own nm=>exact(ht nm rfl).elim
 | fam b i=>exact(ht' b i rfl).elim
inductive AVleL:List AV->List AV->Prop
 | nil:AVleL [] []
 | cons {x y:AV} {l m:List AV} (h:AVle x y) (t:AVleL l m):AVleL (x::l) (y::m)
theorem AVleL.length{l m:List AV}(h:AVleL l m):l.length=m.length:=by induction h with|nil=>rfl|cons _ _ ih=>simp[ih]
theorem AVleL.get{l m:List AV}(h:AVleL l m)(j:Nat):AVle (l.getD j .any) (m.getD j .any):=by
 induction h generalizing j with
 | nil=>exact .refl _
 | cons h _ ih=>cases j with
  | zero=>simpa using h
  | succ j=>simpa using ih j
theorem AVleL.refl(l:List AV):AVleL l l:=by induction l with|nil=>exact .nil|cons x l ih=>exact .cons (.refl x) ih
theorem AVle.agg{l m:List AV}(h:AVleL l m):AVle (.agg l) (.agg m):=by
 intro I own θ w v hv;obtain⟨vs,rfl,hl,h1,hr⟩:=hv.agg_inv;exact .agg vs m (by rw[hl,h.length]) (fun j hj=>h1 j (by rw[h.length];exact hj)) (fun j hj=>h.get j I own θ w _ (hr j (by rw[h.length];exact hj)))
theorem AVle.tuple{l m:List AV}(h:AVleL l m):AVle (.tuple l) (.tuple m):=by
 intro I own θ w v hv;obtain⟨vs,rfl,hl,hr⟩:=hv.tuple_inv;exact .tuple vs m (by rw[hl,h.length]) (fun j hj=>h.get j I own θ w _ (hr j (by rw[h.length];exact hj)))
inductive TmpsLe:List (Nat×AV)->List (Nat×AV)->Prop
 | nil:TmpsLe [] []
 | cons {t:Nat} {x y:AV} {l m:List (Nat×AV)} (h:AVle x y) (k:TmpsLe l m):TmpsLe ((t,x)::l) ((t,y)::m)
inductive OwnsLe:List (Nat×Own)->List (Nat×Own)->Prop
 | nil:OwnsLe [] []
 | row {n:Nat} {e:TypeId} {x y:List AV} {l m:List (Nat×Own)} (h:AVleL x y) (k:OwnsLe l m):OwnsLe ((n,.row e x)::l) ((n,.row e y)::m)
 | same {n:Nat} {o:Own} {l m:List (Nat×Own)} (k:OwnsLe l m):OwnsLe ((n,o)::l) ((n,o)::m)
 | arr {n sz:Nat} {e:TypeId} {k:Nat} {f g:Nat->List AV} {l m:List (Nat×Own)} (h:∀ i,i<k->AVleL (f i) (g i)) (t:OwnsLe l m):OwnsLe ((n,.arr sz e k f)::l) ((n,.arr sz e k g)::m)
theorem TmpsLe.refl(l:List (Nat×AV)):TmpsLe l l:=by induction l with|nil=>exact .nil|cons x l ih=>exact .cons (.refl _) ih
theorem OwnsLe.refl(l:List (Nat×Own)):OwnsLe l l:=by induction l with|nil=>exact .nil|cons x l ih=>exact .same ih
theorem TmpsLe.get{l m:List (Nat×AV)}(h:TmpsLe l m)(t:Nat):AVle (match Ak l t with|some x=>x|none=>.any) (match Ak m t with|some x=>x|none=>.any):=by
 induction h with
 | nil=>exact .refl _
 | @cons t' x y l m h _ ih=>
  simp only[Ak]
  cases Nat.beq t' t with
  | true=>exact h
  | false=>exact ih
theorem OwnsLe.get{l m:List (Nat×Own)}(h:OwnsLe l m)(n:Nat):(∀ o,Ak l n=some o->∃ o',Ak m n=some o'/\(o=o'\/(∃ e x y,o = .row e x/\o' = .row e y/\AVleL x y)\/∃ sz e k f g,o = .arr sz e k f/\o' = .arr sz e k g/\∀ i,i<k->AVleL (f i) (g i)))/\(∀ o',Ak m n=some o'->∃ o,Ak l n=some o):=by
 induction h with
 | nil=>exact⟨(fun o h=>by cases h),(fun o h=>by cases h)⟩
 | @row n' e x y l m h _ ih=>
  simp only[Ak]
  cases Nat.beq n' n with
  | true=>
   refine⟨fun o ho=>?_,fun o ho=>⟨_,rfl⟩⟩;simp only[Ag,Am]at ho;subst ho;exact⟨_,rfl,.inr (.inl ⟨e,x,y,rfl,rfl,h⟩)⟩
  | false=>exact ih
 | @arr n' sz e k f g l m h _ ih=>
  simp only[Ak]
  cases Nat.beq n' n with
  | true=>
   refine⟨fun o ho=>?_,fun o ho=>⟨_,rfl⟩⟩;simp only[Ag,Am]at ho;subst ho;exact⟨_,rfl,.inr (.inr ⟨sz,e,k,f,g,rfl,rfl,h⟩)⟩
  | false=>exact ih
 | @same n' o l m _ ih=>
  simp only[Ak]
  cases Nat.beq n' n with
  | true=>exact⟨fun o ho=>⟨o,ho,.inl rfl⟩,fun o ho=>⟨o,ho⟩⟩
  | false=>exact ih
theorem Jo{st st':St}(ht:TmpsLe st.tmps st'.tmps)(ho:OwnsLe st.own st'.own)(hfam:st'.fam=st.fam:=by rfl):Le Γ st st':=by
 intro I θ a w h
 have hg1:∀ nm o,st.sto.own nm=some o->∃ o',st'.sto.own nm=some o'/\(o=o'\/(∃ e x y,o = .row e x/\o' = .row e y/\AVleL x y)\/∃ sz e k f g,o = .arr sz e k f/\o' = .arr sz e k g/\∀ i,i<k->AVleL (f i) (g i)):=fun nm o hn=>by
  by_cases hlt:nm<Bq
  ·have hn':Ak st.own nm=some o:=by rw[<- hn];exact(Bd hlt).symm
   obtain⟨o',h1,h2⟩:=(ho.get nm).1 o hn';exact⟨o',(Bd hlt).trans h1,h2⟩
  ·refine⟨o,?_,.inl rfl⟩;rw[<- hn]
   show Dt _ _ nm=Dt _ _ nm
   rw[Ec hlt,Ec hlt,hfam]
 have hg2:∀ nm o',st'.sto.own nm=some o'->∃ o,st.sto.own nm=some o:=fun nm o' hn=>by
  by_cases hlt:nm<Bq
  ·have hn':Ak st'.own nm=some o':=by rw[<- hn];exact(Bd hlt).symm
   obtain⟨o,h1⟩:=(ho.get nm).2 o' hn';exact⟨o,(Bd hlt).trans h1⟩
  ·refine⟨o',?_⟩;rw[<- hn]
   show Dt _ _ nm=Dt _ _ nm
   rw[Ec hlt,Ec hlt,hfam]
 have hmono:∀ v x,Rep I st.sto.own θ w v x->Rep I st'.sto.own θ w v x:=fun v x h=>h.mono (fun _ _ h=>h) (fun _ _ _=>rfl) fun nm o hn=>by
  obtain⟨o',h1,h2⟩:=hg1 nm o hn;refine⟨o',h1,?_⟩;rcases h2 with rfl|⟨e1,x,y,rfl,rfl,_⟩|⟨sz,e,k,f,g,rfl,rfl,_⟩
  ·exact .refl _ _
  ·exact⟨rfl,rfl⟩
  ·exact⟨rfl,rfl,zzL9 _,fun _=>rfl⟩
 refine⟨I,θ,h.size,h.defers,fun t=>hmono _ _ (ht.get t I _ θ w _ (h.slots t)),{ h.chg with le:=fun nm o hn=>?_,rel:=⟨fun nm e0 cells hn=>?_,fun nm sz e m hn=>?_,fun nm nm' g c c' hn hn'=>?_,fun nm sz e m f hn=>?_,fun nm x hn=>?_,fun nm sz m hn hnn=>?_⟩,new:=fun nm g c hn hg=>?_ }⟩
 rotate_left 6
 ·obtain⟨o,h1⟩:=hg2 nm _ hn;obtain⟨o',h2,h3⟩:=hg1 nm o h1;have e':st'.sto.own nm=some o':=h2;rw[e']at hn;obtain rfl:=OI hn;rcases h3 with rfl|⟨e1,x,y,rfl,h5,h6⟩|⟨sz,e,k,f,g,rfl,h5,h6⟩
  ·exact h.chg.rel.tok8 nm _ _ h1 hnn
  ·cases h5
  ·cases h5
 rotate_right 6
 rotate_left 5
 ·obtain⟨o,h1⟩:=hg2 nm _ hn;obtain⟨o',h2,h3⟩:=hg1 nm o h1;have e':st'.sto.own nm=some o':=h2;rw[e']at hn;obtain rfl:=OI hn;rcases h3 with rfl|⟨e1,x,y,rfl,h5,h6⟩|⟨sz,e,k,f,g,rfl,h5,h6⟩
  ·exact Lr (h.chg.rel.obj nm _ h1) rfl (fun _ _ _=>rfl) (fun _ _ _ _ h=>h) (fun _ hh=>hh.mono hmono) Tj
  ·cases h5
  ·cases h5
 rotate_left 1
 ·obtain⟨o',h1,h2⟩:=h.chg.le nm o hn;obtain⟨o'',h3,h4⟩:=hg1 nm o' h1;refine⟨o'',h3,?_⟩;rcases h4 with rfl|⟨e1,x,y,rfl,rfl,_⟩|⟨sz,e,k,f,g,rfl,rfl,_⟩
  ·exact h2
  ·cases o<;>simp_all [OwnLe]
  ·cases o<;>simp_all [OwnLe]
 ·obtain⟨o,h1⟩:=hg2 nm _ hn;obtain⟨o',h2,h3⟩:=hg1 nm o h1;have e:st'.sto.own nm=some o':=h2;rw[e]at hn;obtain rfl:=OI hn;rcases h3 with rfl|⟨e1,x,y,rfl,h5,h6⟩|⟨sz,e,k,f,g,rfl,h5,h6⟩
  rotate_left 2
  ·cases h5
  ·obtain⟨g,c,vs,r1,r2,r3,r4,r5,r6⟩:=h.chg.rel.row nm _ _ h1;exact⟨g,c,vs,r1,r2,r3,r4,fun j hj=>hmono _ _ (r5 j hj),r6⟩
  ·simp only[Own.row.injEq]at h5;obtain⟨rfl,rfl⟩:=h5;obtain⟨g,c,vs,r1,r2,r3,r4,r5,r6⟩:=h.chg.rel.row nm _ _ h1;exact⟨g,c,vs,r1,r2,by rw[r3,h6.length],fun j hj=>r4 j (by rw[h6.length];exact hj),fun j hj=>hmono _ _ (h6.get j I _ θ w _ (r5 j (by rw[h6.length];exact hj))),r6⟩
 ·obtain⟨o,h1⟩:=hg2 nm _ hn;obtain⟨o',h2,h3⟩:=hg1 nm o h1;have e':st'.sto.own nm=some o':=h2;rw[e']at hn;obtain rfl:=OI hn;rcases h3 with rfl|⟨e1,x,y,rfl,h5,h6⟩|⟨sz,e,k,f,g,rfl,h5,h6⟩
  ·exact h.chg.rel.tok nm _ _ _ h1
  ·cases h5
  ·cases h5
 ·have hx:∀ nm,st'.sto.own nm≠none->st.sto.own nm≠none:=fun nm hn=>by
   cases hs:st'.sto.own nm with
   | none=>exact(hn hs).elim
   | some o=>obtain⟨o',h1⟩:=hg2 nm _ hs;have:st.sto.own nm=some o':=h1;simp[this]
  exact h.chg.rel.inj nm nm' g c c' (hx nm hn) (hx nm' hn')
 ·obtain⟨o,h1⟩:=hg2 nm _ hn;obtain⟨o',h2,h3⟩:=hg1 nm o h1;have e':st'.sto.own nm=some o':=h2;rw[e']at hn;obtain rfl:=OI hn;rcases h3 with rfl|⟨e1,x,y,rfl,h5,h6⟩|⟨sz',e2,k,f2,g,rfl,h5,h6⟩
  ·exact O4 (h.chg.rel.arr nm _ _ _ _ h1) rfl (fun _ _ _=>rfl) (fun _ _ _ _ h=>h) (fun _ _=>rfl) (fun v i j _ _ hv=>hmono _ _ hv)
  ·cases h5
  ·simp only[Own.arr.injEq]at h5;obtain⟨rfl,rfl,rfl,rfl⟩:=h5;exact O4 (h.chg.rel.arr nm _ _ _ _ h1) rfl (fun _ _ _=>rfl) (fun _ _ _ _ h=>h) (fun i hi=>(h6 i hi).length.symm) (fun v i j hi _ hv=>hmono _ _ ((h6 i hi).get j I _ θ w v hv))
 ·refine h.chg.new nm g c ?_ hg
  cases hs:st'.sto.own nm with
  | none=>exact(hn hs).elim
  | some o=>obtain⟨o',h1⟩:=hg2 nm _ hs;have:st.sto.own nm=some o':=h1;simp[this]
theorem le_restrict{st:St}(live names:List Nat)(hn:∀ nm,Γ.own0 nm≠none->nm∈names):Le Γ st (Jw live names st):=fun I θ _ _ h=>⟨I,θ,rel_restrict h hn⟩
theorem le_tag_cell{st:St}{r j nm sz sz' n:Nat}{e0:TypeId}{f:Nat->List AV}{cells:List AV}(g:Nat->List AV)(e:TypeId)(hr:Ak st.own r=some (.row e0 cells))(hs:cells.getD j .any = .slice sz n f .exact)(hj:j<cells.length)(hn:Ak st.own nm=none)(hz:(sz=sz'/\f=g)\/n=0)(h8:e=tokU8->n=0)(hlt:Nat.blt nm Bq=true:=by rfl)(hltr:Nat.blt r Bq=true:=by rfl) :
  Le Γ st ⟨st.tmps,E1 (E1 st.own r (.row e0 (cells.set j (.slice sz' n g (.own nm))))) nm (.tok sz' e n),st.fam⟩:=by
 intro I θ a w h
 have hlt:nm<Bq:=by simpa [Iu] using hlt
 have hltr:r<Bq:=by simpa [Iu] using hltr
 have hn:st.sto.own nm=none:=(Bd hlt).trans hn;have hr:st.sto.own r=some (.row e0 cells):=(Bd hltr).trans hr
 have hne:r≠nm:=by rintro rfl;rw[hr]at hn;cases hn
 let own':Nat->Option Own:=fun k=>if k=nm then some (.tok sz' e n) else if k=r then some (.row e0 (cells.set j (.slice sz' n g (.own nm)))) else st.sto.own k
 have hown:(⟨st.tmps,E1 (E1 st.own r (.row e0 (cells.set j (.slice sz' n g (.own nm))))) nm (.tok sz' e n),st.fam⟩:St).sto.own=own':=by
  funext k
  show Dt (E1 (E1 st.own r _) nm _) _ k=_
  rw[Ll hlt,Ll hltr];simp only[own',Qb (a:=nm),Qb (a:=r)]
  rfl
 have hle:∀ nm' o,st.sto.own nm'=some o->∃ o',own' nm'=some o'/\OwnLe o (θ nm') o' (thUp θ nm none nm'):=fun nm' o ho=>by
  have h1:nm'≠nm:=by rintro rfl;have:st.sto.own nm'=some o:=ho;rw[hn]at this;cases this
  by_cases h2:nm'=r
  ·subst h2;have:st.sto.own nm'=some o:=ho;rw[hr]at this;obtain rfl:=OI this;exact⟨.row e0 (cells.set j (.slice sz' n g (.own nm))),by simp[own',h1],by simp[thUp,h1,OwnLe]⟩
  ·exact⟨o,by simp[own',h1,h2,ho],by simp[thUp,h1,OwnLe.refl]⟩
 have hmono:∀ v x,Rep I st.sto.own θ w v x->Rep I own' (thUp θ nm none) w v x:=fun v x h=>h.mono (fun _ _ h=>h) (fun _ _ _=>rfl) hle;have hrel:=h.chg.rel
 have k:Chg st.sto.own θ I w own' (thUp θ nm none) I w:=by
  refine{ imm:=fun _ _ h=>h,cell:=fun _ _ _=>rfl,le:=hle,rel:=?_,valid:=h.chg.valid,os:=rfl,tape:=rfl,output:=rfl,drawn:=fun _=>zzL9 _,grow:=zzL9 _,frame:=fun _ _ _=>rfl,new:=fun nm' g' c ho hg=>?_,immNew:=fun _ _ h=>.inl h }
  ·refine⟨fun nm' e2 cells' ho=>?_,fun nm' s' e' m ho g' c hg=>?_,fun n1 n2 g' c c' ho ho' hg hg'=>?_,fun nm' s' e' m f' ho=>?_,fun nm' x' ho=>?_,fun nm' s' m ho hnn=>?_⟩
   rotate_left 5
   ·by_cases h1:nm'=nm
    ·simp only[own',h1,L8,Am,Own.tok.injEq]at ho;obtain⟨rfl,he,rfl⟩:=ho;exact h8 he
    ·have h2:nm'≠r:=by rintro rfl;simp[own',h1]at ho
     simp only[own',h1,h2,G4]at ho;simp only[thUp,h1,G4]at hnn;exact hrel.tok8 nm' _ _ ho hnn
   ·by_cases h1:nm'=nm
    ·simp[own',h1]at ho
    ·by_cases h2:nm'=r
     ·subst h2;simp only[own',h1,G4,L8,Am,Own.row.injEq]at ho;obtain⟨rfl,rfl⟩:=ho;obtain⟨g',c,vs,r1,r2,r3,r4,r5,r6⟩:=hrel.row nm' _ cells hr;refine⟨g',c,vs,by simpa [thUp,h1] using r1,r2,by simpa using r3,fun j' hj'=>r4 j' (by simpa using hj'),fun j' hj'=>?_,r6⟩
      have hj'':j'<cells.length:=by simpa using hj'
      by_cases hjj:j'=j
      ·subst hjj
       have e1:(cells.set j' (.slice sz' n g (.own nm))).getD j' .any = .slice sz' n g (.own nm):=by simp[List.getD,hj]
       rw[e1];have hr':=r5 j' hj'';rw[hs]at hr';obtain⟨ad,hv⟩:=hr'.exact_inv;have hV:=hr'.slice_val;rw[hv]at hV ⊢;refine .own nm sz' e n ad n n g (by simp[own']) (zzL9 _) (fun _=>by simp[thUp]) ?_;rcases hz with⟨rfl,rfl⟩|rfl
       ·exact hV
       ·obtain⟨_,ad',cap,us,he,hcap,hmax,hz,hn',h1',hl,hr⟩:=hV.slice_inv;simp only[zzL94,true_and]at he;obtain⟨rfl,rfl⟩:=he;exact .slice ad 0 0 sz' g us hcap hmax (fun h=>by omega) hn' (fun j hj=>by omega) (fun i hi=>by omega) (fun i c hi=>by omega)
      ·have e1:(cells.set j (.slice sz' n g (.own nm))).getD j' .any=cells.getD j' .any:=by simp[List.getD,Ne.symm hjj]
       rw[e1];exact hmono _ _ (r5 j' hj'')
     ·simp only[own',h1,h2,G4]at ho;obtain⟨g',c,vs,r1,r2,r3,r4,r5,r6⟩:=hrel.row nm' _ cells' ho;exact⟨g',c,vs,by simpa [thUp,h1] using r1,r2,r3,r4,fun j' hj'=>hmono _ _ (r5 j' hj'),r6⟩
   ·by_cases h1:nm'=nm
    ·simp[thUp,h1]at hg
    ·have h2:nm'≠r:=by rintro rfl;simp[own',h1]at ho
     simp only[own',h1,h2,G4]at ho;simp only[thUp,h1,G4]at hg;exact hrel.tok nm' _ _ _ ho g' c hg
   ·have hx:∀ n1 g' c,own' n1≠none->thUp θ nm none n1=some (g',c)->st.sto.own n1≠none/\θ n1=some (g',c):=fun n1 g' c ho hg=>by
     by_cases h1:n1=nm
     ·simp[thUp,h1]at hg
     ·simp only[thUp,h1,G4]at hg;refine⟨?_,hg⟩
      by_cases h2:n1=r
      ·subst h2;have:st.sto.own n1=some (.row e0 cells):=hr;simp[this]
      ·simpa [own',h1,h2] using ho
    obtain⟨a1,a2⟩:=hx n1 g' c ho hg;obtain⟨b1,b2⟩:=hx n2 g' c' ho' hg';exact hrel.inj n1 n2 g' c c' a1 b1 a2 b2
   ·by_cases h1:nm'=nm
    ·simp[own',h1]at ho
    ·have h2:nm'≠r:=by rintro rfl;simp[own',h1]at ho
     simp only[own',h1,h2,G4]at ho;exact O4 (hrel.arr nm' _ _ _ _ ho) (by simp[thUp,h1]) (fun _ _ _=>rfl) (fun _ _ _ _ h=>h) (fun _ _=>rfl) (fun v i j _ _ hv=>hmono _ _ hv)
   ·by_cases h1:nm'=nm
    ·simp[own',h1]at ho
    ·have h2:nm'≠r:=by rintro rfl;simp[own',h1]at ho
     simp only[own',h1,h2,G4]at ho;exact Lr (hrel.obj nm' _ ho) (by simp[thUp,h1]) (fun _ _ _=>rfl) (fun _ _ _ _ h=>h) (fun _ hh=>hh.mono hmono) Tj
  ·by_cases h1:nm'=nm
   ·simp[thUp,h1]at hg
   ·simp only[thUp,h1,G4]at hg;refine .inr ⟨nm',c,?_,hg⟩
    by_cases h2:nm'=r
    ·subst h2;have:st.sto.own nm'=some (.row e0 cells):=hr;simp[this]
    ·simpa [own',h1,h2] using ho
 refine⟨I,thUp θ nm none,h.size,h.defers,fun t'=>?_,?_⟩
 ·rw[hown];exact(h.slots t').chg k
 ·rw[hown];exact h.chg.trans k
theorem Nw{st:St}{t nm sz sz' n:Nat}{f:Nat->List AV}(g:Nat->List AV)(e:TypeId)(hs:st.get t = .slice sz n f .exact)(hn:Ak st.own nm=none)(hz:(sz=sz'/\f=g)\/n=0)(h8:e=tokU8->n=0)  (hlt:Nat.blt nm Bq=true:=by rfl) :
  Le Γ st ⟨E1 st.tmps t (.slice sz' n g (.own nm)),E1 st.own nm (.tok sz' e n),st.fam⟩:=by
 intro I θ a w h
 have hlt:nm<Bq:=by simpa [Iu] using hlt
 have hn:st.sto.own nm=none:=(Bd hlt).trans hn
 have hown:(⟨E1 st.tmps t (.slice sz' n g (.own nm)),E1 st.own nm (.tok sz' e n),st.fam⟩:St).sto.own=A0 st.sto.own nm (.tok sz' e n):=by
  funext k
  show Dt (E1 st.own nm _) _ k=_
  rw[Ll hlt];simp only[A0]
  by_cases hk:nm=k
  ·subst hk;simp
  ·simp[hk,Ne.symm hk];rfl
 have k:Chg st.sto.own θ I w (A0 st.sto.own nm (.tok sz' e n)) (thUp θ nm none) I w:=
  chg_tok h.chg.rel (fun _ _ h=>h) (fun _ _ _=>rfl) (.inl hn) (fun _ _ _=>rfl) (fun _ _ h=>.inl h) h.chg.valid rfl rfl rfl (zzL9 _) (by simp) (by simp) (fun _=>h8)
 refine⟨I,thUp θ nm none,h.size,h.defers,fun t'=>?_,?_⟩
 ·rw[hown]
  have hget:(⟨E1 st.tmps t (.slice sz' n g (.own nm)),E1 st.own nm (.tok sz' e n),st.fam⟩:St).sto.tmp t'=if t=t' then .slice sz' n g (.own nm) else st.get t':=by
   show(match Ak (E1 st.tmps t _) t' with|some x=>x|none=>.any)=_
   rw[Jk]
   by_cases hk:t=t'
   ·simp[hk]
   ·simp[hk];rfl
  rw[hget]
  split
  ·rename_i htt
   subst htt;have hr:=h.slots t
   have hr':Rep I st.sto.own θ w (a.tmps.getD t undef) (.slice sz n f .exact):=by rw[<- hs];exact hr
   obtain⟨ad,hv⟩:=hr'.exact_inv;have hV:=hr'.slice_val;rw[hv]at hV ⊢;refine .own nm sz' e n ad n n g (by simp[A0]) (zzL9 _) (fun _=>by simp[thUp]) ?_;rcases hz with⟨rfl,rfl⟩|rfl
   ·exact hV
   ·obtain⟨_,ad',cap,us,he,hcap,hmax,hz,hn',h1,hl,hr⟩:=hV.slice_inv;simp only[zzL94,true_and]at he;obtain⟨rfl,rfl⟩:=he;exact .slice ad 0 0 sz' g us hcap hmax (fun h=>by omega) hn' (fun j hj=>by omega) (fun i hi=>by omega) (fun i c hi=>by omega)
  ·exact(h.slots t').chg k
 ·rw[hown];exact h.chg.trans k
theorem le_arr{st:St}{t nm sz sz':Nat}{f:Nat->List AV}(g:Nat->List AV)(e:TypeId)(hs:st.get t = .slice sz 0 f .exact)(hn:Ak st.own nm=none)  (hlt:Nat.blt nm Bq=true:=by rfl) :
  Le Γ st ⟨E1 st.tmps t (.vsl nm 0),E1 st.own nm (.arr sz' e 0 g),st.fam⟩:=by
 intro I θ a w h
 have hlt:nm<Bq:=by simpa [Iu] using hlt
 have hn:st.sto.own nm=none:=(Bd hlt).trans hn
 have hown:(⟨E1 st.tmps t (.vsl nm 0),E1 st.own nm (.arr sz' e 0 g),st.fam⟩:St).sto.own=A0 st.sto.own nm (.arr sz' e 0 g):=by
  funext k
  show Dt (E1 st.own nm _) _ k=_
  rw[Ll hlt];simp only[A0]
  by_cases hk:nm=k
  ·subst hk;simp
  ·simp[hk,Ne.symm hk];rfl
 have k:Chg st.sto.own θ I w (A0 st.sto.own nm (.arr sz' e 0 g)) (thUp θ nm none) I w:=
  M8 h.chg.rel h.chg.valid (fun _ _ _=>rfl) (.inl hn) (fun _ _ _=>rfl) rfl rfl rfl (zzL9 _) (fun _=>rfl) (by simp) (by simp)
 refine⟨I,thUp θ nm none,h.size,h.defers,fun t'=>?_,?_⟩
 ·rw[hown]
  have hget:(⟨E1 st.tmps t (.vsl nm 0),E1 st.own nm (.arr sz' e 0 g),st.fam⟩:St).sto.tmp t'=if t=t' then .vsl nm 0 else st.get t':=by
   show(match Ak (E1 st.tmps t _) t' with|some x=>x|none=>.any)=_
   rw[Jk]
   by_cases hk:t=t'
   ·simp[hk]
   ·simp[hk];rfl
  rw[hget]
  split
  ·rename_i htt
   subst htt;have hr:=h.slots t
   have hr':Rep I st.sto.own θ w (a.tmps.getD t undef) (.slice sz 0 f .exact):=by rw[<- hs];exact hr
   obtain⟨ad,hv⟩:=hr'.exact_inv;rw[hv];exact .vsl nm sz' e 0 g ad 0 0 (by simp[A0]) (zzL9 _) (zzL9 _) (Rn _) (fun _=>rfl) (fun _=>by simp[thUp])
  ·exact(h.slots t').chg k
 ·rw[hown];exact h.chg.trans k
theorem awp_mono{c:Code}{K K':Exit->St->Prop}{st:St}(h:Zh P Γ c K st)(hk:∀ e st,K e st->K' e st):Zh P Γ c K' st:=fun I θ a w hr=>
 Ss (h I θ a w hr) fun _ _ _ ⟨st',I',θ',h1,h2⟩=>⟨st',I',θ',hk _ _ h1,h2⟩
theorem awp_le{c:Code}{K:Exit->St->Prop}{st st':St}(h:Le Γ st st')(k:Zh P Γ c K st'):Zh P Γ c K st:=fun I θ a w hr=>let⟨I',θ',hr'⟩:=h I θ a w hr;k I' θ' a w hr'
def clK(Γ:Iw)(K:Exit->St->Prop):Exit->St->Prop:=fun e st=>∃ st',Le Γ st st'/\K e st'
theorem awp_cl{c:Code}{K:Exit->St->Prop}{st:St}(h:Zh P Γ c (clK Γ K) st):Zh P Γ c K st:=fun I θ a w hr=>
 Ss (h I θ a w hr) fun e a' w' ⟨st1,I1,θ1,⟨st2,hl,hk⟩,hr1⟩=>let⟨I2,θ2,hr2⟩:=hl I1 θ1 a' w' hr1;⟨st2,I2,θ2,hk,hr2⟩
theorem awp_skip{K:Exit->St->Prop}{st:St}(h:K .normal st):Zh P Γ .skip K st:=fun I θ _ _ hr=>wp_skip ⟨st,I,θ,h,hr⟩
theorem awp_label{l:Nat}{K:Exit->St->Prop}{st:St}(h:K .normal st):Zh P Γ (.label l) K st:=fun I θ _ _ hr=>wp_label ⟨st,I,θ,h,hr⟩
theorem awp_ret{K:Exit->St->Prop}{st:St}(h:K .ret st):Zh P Γ .ret K st:=fun I θ _ _ hr=>wp_ret ⟨st,I,θ,h,hr⟩
theorem awp_exit{id:Nat}{K:Exit->St->Prop}{st:St}(h:K (.exit id) st):Zh P Γ (.exit id) K st:=fun I θ _ _ hr=>wp_exit ⟨st,I,θ,h,hr⟩
theorem awp_goto{l:Nat}{K:Exit->St->Prop}{st:St}(h:K (.goto l) st):Zh P Γ (.goto l) K st:=fun I θ _ _ hr=>wp_goto ⟨st,I,θ,h,hr⟩
def thenK(P:Program)(Γ:Iw)(y:Code)(K:Exit->St->Prop):Exit->St->Prop
 | .normal,st=>Zh P Γ y K st
 | e,st=>K e st
theorem awp_seq{x y:Code}{K:Exit->St->Prop}{st:St}(h:Zh P Γ x (thenK P Γ y K) st):Zh P Γ (.seq x y) K st:=fun I θ a w hr=>
 wp_seq (Ss (h I θ a w hr) fun e a' w' ⟨st',I',θ',h1,h2⟩=>by
  cases e with
  | normal=>exact h1 I' θ' a' w' h2
  | _=>exact⟨st',I',θ',h1,h2⟩)
theorem awp_cond{c:Operand}{x y:Code}{K:Exit->St->Prop}{st:St}(b:Bool)(hc:evA st.get c = .bool b)(ht:b=true->Zh P Γ x K st)(hf:b=false->Zh P Γ y K st):Zh P Γ (.cond c x y) K st:=fun I θ a w hr=>by
 have he:=rep_eval hr c;have hc':evA st.sto.tmp c = .bool b:=hc;rw[hc']at he;exact wp_cond_split he.bool_inv (fun h=>ht h I θ a w hr) (fun h=>hf h I θ a w hr)
def blockK(id:Nat)(K:Exit->St->Prop):Exit->St->Prop
 | .exit id',st=>if id'=id then K .normal st else K (.exit id') st
 | e,st=>K e st
theorem awp_block{id:Nat}{c:Code}{K:Exit->St->Prop}{st:St}(h:Zh P Γ c (blockK id K) st):Zh P Γ (.block id c) K st:=fun I θ a w hr=>
 wp_block (Ss (h I θ a w hr) fun e a' w' ⟨st',I',θ',h1,h2⟩=>by
  cases e with
  | exit id'=>
   simp only[blockK]at h1;simp only[Exit.inBlock]
   split
   ·rename_i h;rw[if_pos h]at h1;exact⟨st',I',θ',h1,h2⟩
   ·rename_i h;rw[if_neg h]at h1;exact⟨st',I',θ',h1,h2⟩
  | _=>exact⟨st',I',θ',h1,h2⟩)
theorem wp_loop_n{c:Code}{Q:Exit->Act->World->Prop}(J:Nat->Act->World->Prop)(round:∀ n a w,J n a w->c.wp P (Exit.then (fun a' w'=>∃ m,m<n/\J m a' w') Q) a w){n:Nat}{a:Act}{w:World}(h:J n a w):(Code.loop c).wp P Q a w:=by
 intro b k cs
 have key:∀ n a w,J n a w->∃ e a' w',Q e a' w'/\Arrives P (lone (b.at a (.code c::.inLoop c::k)) cs w) b k cs e a' w':=by
  intro n
  induction n using Nat.strongRecOn with
  | _ n ih=>
   intro a w hJ;obtain⟨e,a₁,w₁,hq,harr⟩:=round n a w hJ b (.inLoop c::k) cs
   cases e with
   | normal=>
    obtain⟨m,hlt,hJ'⟩:=hq;obtain⟨e₂,a₂,w₂,hq₂,harr₂⟩:=ih m hlt a₁ w₁ hJ';exact⟨e₂,a₂,w₂,hq₂,.of_steps (Steps.trans harr (.one step_inLoop)) harr₂⟩
   | exit id=>exact⟨_,a₁,w₁,hq,.pass (x:=.inLoop c) rfl (fun _ _=>.inl (by simp)) harr⟩
   | goto l=>exact⟨_,a₁,w₁,hq,.pass (x:=.inLoop c) rfl (fun _ _=>.inl (by simp)) harr⟩
   | ret=>exact⟨_,a₁,w₁,hq,.pass (x:=.inLoop c) rfl (fun _ _=>.inl (by simp)) harr⟩
   | panic ch=>exact⟨_,a₁,w₁,hq,.pass (x:=.inLoop c) rfl (fun _ _=>.inl (by simp)) harr⟩
   | outgrown=>exact⟨_,a₁,w₁,hq,.pass (x:=.inLoop c) rfl (fun _ _=>.inl (by simp)) harr⟩
 obtain⟨e,a',w',hq,harr⟩:=key n a w h;exact⟨e,a',w',hq,.of_steps (.one step_loop) harr⟩
def roundK{S X:Type}(Γ:Iw)(H:S->St)(KX:X->Exit->St->Prop):LR S X->Exit->St->Prop
 | .next s',e,st'=>e = .normal/\Le Γ st' (H s')
 | .done x,e,st'=>e≠.normal/\KX x e st'
theorem awp_loop{S X:Type}{body:Code}(H:S->St)(f:S->Option (LR S X))(KX:X->Exit->St->Prop){K:Exit->St->Prop}
  (hb:∀ s y,f s=some y->Zh P Γ body (roundK Γ H KX y) (H s)) {s:S} {x:X} (hr:Ah f s=some x) (hK:∀ e st',KX x e st'->K e st'):Zh P Γ (.loop body) K (H s):=by
 intro I θ a w hrel;obtain⟨n,hn⟩:=loopO_iff.1 hr;refine wp_loop_n (fun n a w=>∃ s I θ,LRuns f s x n/\Rel Γ (H s).sto I θ a w) (fun n a w ⟨s,I,θ,hs,hrel⟩=>?_) (n:=n) ⟨s,I,θ,hn,hrel⟩
 cases hs with
 | done hd=>
  refine Ss (hb s _ hd I θ a w hrel) fun e a' w' ⟨st',I',θ',h1,h2⟩=>?_;obtain⟨hne,hx⟩:=h1
  cases e with
  | normal=>exact(hne rfl).elim
  | _=>exact⟨st',I',θ',hK _ _ hx,h2⟩
 | @next _ s' _ m hd ht=>
  refine Ss (hb s _ hd I θ a w hrel) fun e a' w' ⟨st',I',θ',h1,h2⟩=>?_;obtain⟨rfl,hle⟩:=h1;obtain⟨I'',θ'',h3⟩:=hle I' θ' a' w' h2;exact⟨m,Nat.lt_succ_self m,s',I'',θ'',ht,h3⟩
def jumpQ(c:Code)(J:Nat->Act->World->Prop)(Q:Exit->Act->World->Prop):Exit->Act->World->Prop
 | .goto l,a,w=>match findLabel c l with|some _=>J l a w|none=>Q (.goto l) a w
 | e,a,w=>Q e a w
theorem wp_scope_n{c:Code}{Q:Exit->Act->World->Prop}(J:Nat->Nat->Act->World->Prop){a:Act}{w:World}(first:c.wp P (jumpQ c (fun l a' w'=>∃ n,J n l a' w') Q) a w)
  (pass:∀ n l rest a w,findLabel c l=some rest->J n l a w->rest.wp P (jumpQ c (fun l' a' w'=>∃ m,m<n/\J m l' a' w') Q) a w):(Code.scope c).wp P Q a w:=by
 intro b k cs
 have hg:∀ l rest,findLabel c l=some rest->gotoIn l (.inScope c::k)=some (.code rest::.inScope c::k):=fun l rest hf=>by simp[gotoIn,hf]
 have hg':∀ l k',findLabel c l=none->gotoIn l k=some k'->gotoIn l (.inScope c::k)=some k':=fun l k' hf hk=>by simp[gotoIn,hf,hk]
 have key:∀ n l rest a w,findLabel c l=some rest->J n l a w->∃ e a' w',Q e a' w'/\Arrives P (lone (b.at a (.code rest::.inScope c::k)) cs w) b k cs e a' w':=by
  intro n
  induction n using Nat.strongRecOn with
  | _ n ih=>
   intro l rest a w hf hJ;obtain⟨e,a₁,w₁,hq,harr⟩:=pass n l rest a w hf hJ b (.inScope c::k) cs
   cases e with
   | normal=>exact⟨.normal,a₁,w₁,hq,Steps.trans harr (.one step_inScope)⟩
   | exit id=>exact⟨.exit id,a₁,w₁,hq,fun k' hk=>harr k' (by simp[exitTo,hk])⟩
   | goto l'=>
    simp only[jumpQ]at hq
    cases hf':findLabel c l' with
    | some rest'=>
     rw[hf']at hq;obtain⟨m,hlt,hJ'⟩:=hq;obtain⟨e₂,a₂,w₂,hq₂,harr₂⟩:=ih m hlt l' rest' a₁ w₁ hf' hJ';exact⟨e₂,a₂,w₂,hq₂,.of_steps (harr _ (hg l' rest' hf')) harr₂⟩
    | none=>
     rw[hf']at hq;exact⟨.goto l',a₁,w₁,hq,fun k' hk=>harr k' (hg' l' k' hf' hk)⟩
   | ret=>exact⟨_,a₁,w₁,hq,harr⟩
   | panic ch=>exact⟨_,a₁,w₁,hq,harr⟩
   | outgrown=>exact⟨_,a₁,w₁,hq,harr⟩
 obtain⟨e,a₁,w₁,hq,harr⟩:=first b (.inScope c::k) cs
 cases e with
 | normal=>exact⟨.normal,a₁,w₁,hq,.head zzL136 (Steps.trans harr (.one step_inScope))⟩
 | exit id=>exact⟨.exit id,a₁,w₁,hq,fun k' hk=>.head zzL136 (harr k' (by simp[exitTo,hk]))⟩
 | goto l'=>
  simp only[jumpQ]at hq
  cases hf':findLabel c l' with
  | some rest'=>
   rw[hf']at hq;obtain⟨n,hJ'⟩:=hq;obtain⟨e₂,a₂,w₂,hq₂,harr₂⟩:=key n l' rest' a₁ w₁ hf' hJ';exact⟨e₂,a₂,w₂,hq₂,.of_steps (.head zzL136 (harr _ (hg l' rest' hf'))) harr₂⟩
  | none=>
   rw[hf']at hq;exact⟨.goto l',a₁,w₁,hq,fun k' hk=>.head zzL136 (harr k' (hg' l' k' hf' hk))⟩
 | ret=>exact⟨_,a₁,w₁,hq,.of_steps (.one zzL136) harr⟩
 | panic ch=>exact⟨_,a₁,w₁,hq,.of_steps (.one zzL136) harr⟩
 | outgrown=>exact⟨_,a₁,w₁,hq,.of_steps (.one zzL136) harr⟩
def jumpK{S X:Type}(Γ:Iw)(c:Code)(lab:S->Nat)(H:S->St)(KX:X->Exit->St->Prop):LR S X->Exit->St->Prop
 | .next s',e,st'=>e = .goto (lab s')/\(findLabel c (lab s')).isSome=true/\Le Γ st' (H s')
 | .done x,e,st'=>(∀ l,e = .goto l->findLabel c l=none)/\KX x e st'
theorem awp_scope{S X:Type}{c:Code}(lab:S->Nat)(H:S->St)(f0:Option (LR S X))(f:S->Option (LR S X))(KX:X->Exit->St->Prop){K:Exit->St->Prop}{st:St}
  (h0:∀ y,f0=some y->Zh P Γ c (jumpK Γ c lab H KX y) st) (hb:∀ s y rest,findLabel c (lab s)=some rest->f s=some y->Zh P Γ rest (jumpK Γ c lab H KX y) (H s))
  {x:X} (hr:P9 f0 f=some x) (hK:∀ e st',KX x e st'->K e st'):Zh P Γ (.scope c) K st:=by
 intro I θ a w hrel;obtain⟨y,hy,hr⟩:=bind_some hr
 have fin:∀(J:Nat->Act->World->Prop) (a':Act) (w':World) (e:Exit) st' I' θ',jumpK Γ c lab H KX (.done x) e st'->Rel Γ st'.sto I' θ' a' w'->jumpQ c J (fun e a' w'=>∃ st' I' θ',K e st'/\Rel Γ st'.sto I' θ' a' w') e a' w':=fun J a' w' e st' I' θ' h1 h2=>by
  obtain⟨hl,hx⟩:=h1
  cases e with
  | goto l=>simp only[jumpQ,hl l rfl];exact⟨st',I',θ',hK _ _ hx,h2⟩
  | _=>exact⟨st',I',θ',hK _ _ hx,h2⟩
 refine wp_scope_n (fun n l a w=>∃ s I θ,LRuns f s x n/\lab s=l/\Rel Γ (H s).sto I θ a w) ?_ (fun n l rest a w hf ⟨s,I,θ,hs,hl,hrel⟩=>?_)
 ·refine Ss (h0 y hy I θ a w hrel) fun e a' w' ⟨st',I',θ',h1,h2⟩=>?_
  cases y with
  | done x'=>
   simp only[Am]at hr;subst hr;exact fin _ a' w' e st' I' θ' h1 h2
  | next s=>
   obtain⟨n,hn⟩:=loopO_iff.1 hr;obtain⟨rfl,hf,hle⟩:=h1;obtain⟨I'',θ'',h3⟩:=hle I' θ' a' w' h2;obtain⟨rest,hf'⟩:=zzL77.1 hf;simp only[jumpQ,hf'];exact⟨n,s,I'',θ'',hn,rfl,h3⟩
 ·subst hl
  cases hs with
  | done hd=>exact Ss (hb s _ rest hf hd I θ a w hrel) fun e a' w' ⟨st',I',θ',h1,h2⟩=>fin _ a' w' e st' I' θ' h1 h2
  | @next _ s' _ m hd ht=>
   refine Ss (hb s _ rest hf hd I θ a w hrel) fun e a' w' ⟨st',I',θ',h1,h2⟩=>?_;obtain⟨rfl,hf',hle⟩:=h1;obtain⟨I'',θ'',h3⟩:=hle I' θ' a' w' h2;obtain⟨rest',hf''⟩:=zzL77.1 hf';simp only[jumpQ,hf''];exact⟨m,Nat.lt_succ_self m,s',I'',θ'',ht,rfl,h3⟩
theorem block_here{id:Nat}{K:Exit->St->Prop}{st:St}(h:K .normal st):blockK id K (.exit id) st:=by show if id=id then K .normal st else K (.exit id) st;rw[if_pos rfl];exact h
theorem block_exit{id id':Nat}{K:Exit->St->Prop}{st:St}(hne:Nat.beq id' id=false)(h:K (.exit id') st):blockK id K (.exit id') st:=by
 simp only[blockK];rw[if_neg (by rintro rfl;simp at hne)];exact h
theorem Bg{R:Type}{b:Bool}{x y:Option R}{r:R}(hb:b=true)(h:(bif b then x else y)=some r):x=some r:=by rw[hb]at h;exact h
theorem hand_in{names:List Nat}{H:List (Nat×Own)}(h:Γ.own0=Ak H)(hm:(H.all fun x=>D5 x.1 names)=true):∀ nm,Γ.own0 nm≠none->nm∈names:=fun nm hn=>by
 rw[h]at hn
 cases hl:Ak H nm with
 | none=>exact(hn hl).elim
 | some o=>exact memB_mem.1 (zzL29.1 hm _ (Mn hl))
theorem awp_join{X:Type}{c:Code}{m:Option X}(KX:X->Exit->St->Prop){K:Exit->St->Prop}{st:St}{x:X}(hr:m=some x)(hx:∀ x,m=some x->Zh P Γ c (KX x) st)(hK:∀ e st',KX x e st'->K e st'):Zh P Γ c K st:=
 awp_mono (hx x hr) hK
end
section
variable {P:Program} {Γ:Iw}
structure RgQ(P:Program)(Γ:Iw)(n:Nat)(H:List (Nat×Own)):Prop where
 hn:Γ.n=n
 mix:P.follows .mixedOrders=true
 own:Γ.own0=Ak H
theorem RgQ.hand{n:Nat}{H:List (Nat×Own)}(q:RgQ P Γ n H){names:List Nat}(h:(H.all fun x=>D5 x.1 names)=true):∀ nm,Γ.own0 nm≠none->nm∈names:=hand_in q.own h
end
def resA(P:Program)(st:St):ResultVar->Option AV
 | .tmp t=>some (st.get t)
 | .cell a t=>
  bif Ck P t then
   match st.get a with
   | .ptr nm off=>
    match bif Nat.blt nm Bq then Ak st.own nm else none with
    | some (.row _ cells)=>
     bif F0 P t then(bif Nat.ble (off+A8 P t) cells.length then some (.agg ((cells.drop off).take (A8 P t))) else none)
     else(bif Nat.blt off cells.length then some (cells.getD off .any) else none)
    | _=>none
   | .vpt nm n 0 0=>
    match bif Nat.blt nm Bq then Ak st.own nm else none with
    | some (.arr sz _ m f)=>bif F0 P t&&Nat.beq n m&&Nat.beq (A8 P t) (n*sz) then some (.agg (flatF n f)) else none
    | _=>none
   | _=>none
  else none
def resAll(P:Program)(st:St):List ResultVar->Option (List AV)
 | []=>some []
 | r::rs=>match resA P st r,resAll P st rs with|some x,some l=>some (x::l)|_,_=>none
def retRaw(P:Program)(st:St)(rs:List ResultVar):Option AV:=
 match resAll P st rs with
 | some [x]=>some x
 | some l=>some (.tuple l)
 | none=>none
def retH(ρ:List (Nat×Nat))(st:St):List (Nat×Own):=
 ρ.filterMap fun x=>match Ak st.own x.1 with|some o=>some (x.2,o.ren ρ)|none=>none
def retCheck(H:List (Nat×Own))(ρ:List (Nat×Nat)):Bool:=
 Vh (ρ.map (·.1))&&(Vh (ρ.map (·.2))&&ρ.all (fun x=>Nat.blt x.1 Bq))&&H.all (fun x=>match Ak ρ x.1 with|some k=>Nat.beq k x.1|none=>false)
def retOf(P:Program)(rs:List ResultVar)(ρ:List (Nat×Nat))(H:List (Nat×Own))(st:St):Option (AV×List (Nat×Own)):=
 bif retCheck H ρ then match retRaw P st rs with|some x=>some (x.ren ρ,retH ρ st)|none=>none else none
def retK(P:Program)(rs:List ResultVar)(H:List (Nat×Own))(res:AV)(H':List (Nat×Own))(e:Exit)(st:St):Prop:=
 (e = .ret\/e = .normal)/\∃ ρ,retOf P rs ρ H st=some (res,H')
def enumA:Nat->List AV->List (Nat×AV)
 | _,[]=>[]
 | i,x::l=>(i,x)::enumA (i+1) l
def initSt(args:List AV)(H:List (Nat×Own)):St:=⟨enumA 0 args,H,[]⟩
section
variable {P:Program} {Γ:Iw} {I:Nat->Nat->Prop} {θ:Nat->Option (Nat×Nat)} {a:Act} {w:World} {st:St}
def resSem(a:Act)(r:ResultVar):Sem Value:=
 match r with
 | .tmp t=>Pure.pure (a.tmps.getD t undef)
 | .cell b t=>do loadVar t (<- asAddr (a.tmps.getD b undef))
theorem resA_sound(h:Rel Γ st.sto I θ a w){r:ResultVar}{x:AV}(hx:resA P st r=some x) :
  ∃ v,(resSem a r).run P w = .ok v w/\Rep I st.sto.own θ w v x:=by
 cases r with
 | tmp t=>
  simp only[resA,Am]at hx;subst hx;exact⟨_,rfl,h.slots t⟩
 | cell b t=>
  simp only[resA]at hx
  cases hT:Ck P t with
  | false=>simp[hT]at hx
  | true=>
   simp only[hT,Ag]at hx
   split at hx
   ·rename_i nm off hb
    split at hx
    ·rename_i e1 cells hown0
     have hown:st.sto.own nm=some (.row e1 cells):=by
      cases hb:Nat.blt nm Bq with
      | false=>rw[hb]at hown0;cases hown0
      | true=>rw[hb]at hown0;exact(Bd (by simpa [Iu] using hb)).trans hown0
     have hs:=h.slots b
     have hs':Rep I st.sto.own θ w (a.tmps.getD b undef) (.ptr nm off):=by rw[<- hb];exact hs
     obtain⟨e',cells',g,c,ho',hg,he⟩:=hs'.ptr_inv;obtain⟨g',c',vs,hg',hh,hsz,h1,hrep,_⟩:=h.chg.rel.row nm _ cells hown;rw[hg]at hg';simp only[Am,It]at hg';obtain⟨rfl,rfl⟩:=hg'
     have hcell:∀ j,j<cells.length->w.cell? ⟨g,j,none⟩=some (vs.getD j undef):=fun j hj=>by
      rw[Ob w g j vs _ (0,0) hh];exact Ml (by omega)
     simp only[resSem,he,E0,asAddr,He,Ga]
     cases hagg:F0 P t with
     | true=>
      simp only[hagg,Ag]at hx
      cases hle:Nat.ble (off+A8 P t) cells.length with
      | false=>simp[hle]at hx
      | true=>
       simp only[hle,Ag,Am]at hx;subst hx;have hle':=Ku hle;refine⟨_,L6 hT hagg _ (fun j=>vs.getD (off+j) undef) (fun j hj=>by rw[Ov];exact hcell _ (by omega)),.agg _ _ (by simp;omega) (fun j hj=>?_) (fun j hj=>?_)⟩
       ·have hj':j<A8 P t:=by simp at hj;omega
        rw[Ks _ _ _ hj'];exact h1 _ (by omega)
       ·have hj':j<A8 P t:=by simp at hj;omega
        rw[Ks _ _ _ hj',Jn _ _ _ _ _ hj'];exact hrep _ (by omega)
     | false=>
      simp only[hagg,Aq]at hx
      cases hlt:Nat.blt off cells.length with
      | false=>simp[hlt]at hx
      | true=>
       simp only[hlt,Ag,Am]at hx;subst hx
       have hlt':off<cells.length:=by simpa [Iu] using hlt
       exact⟨_,L7 hT hagg _ _ (hcell _ hlt'),hrep _ hlt'⟩
    ·cases hx
   ·rename_i nm n hb
    split at hx
    ·rename_i sz e1 m f hown0
     have hown:st.sto.own nm=some (.arr sz e1 m f):=by
      cases hb:Nat.blt nm Bq with
      | false=>rw[hb]at hown0;cases hown0
      | true=>rw[hb]at hown0;exact(Bd (by simpa [Iu] using hb)).trans hown0
     cases hk:(F0 P t&&Nat.beq n m&&Nat.beq (A8 P t) (n*sz)) with
     | false=>simp[hk]at hx
     | true=>
      simp only[hk,Ag,Am]at hx;subst hx;simp only[A7]at hk;have hs:=h.slots b
      have hs':Rep I st.sto.own θ w (a.tmps.getD b undef) (.vpt nm n 0 0):=by rw[<- hb];exact hs
      obtain⟨ad,he,vs,hrun,hrep⟩:=whole_arr (P:=P) h hT hk.1.1 hs' hown (Cb hk.1.2) (Cb hk.2);exact⟨_,by simp only[resSem,he,E0,asAddr,He,Ga,hrun],hrep⟩
    ·cases hx
   ·cases hx
theorem Vy(h:Rel Γ st.sto I θ a w):∀{rs:List ResultVar} {xs:List AV},resAll P st rs=some xs->
  ∃ vs:List Value,(rs.mapM (resSem a)).run P w = .ok vs w/\RepL I st.sto.own θ w vs xs
 | [],xs,hx=>by simp only[resAll,Am]at hx;subst hx;exact⟨[],by simp,.nil⟩
 | r::rs,xs,hx=>by
  simp only[resAll]at hx
  split at hx
  ·rename_i x l h1 h2
   simp only[Am]at hx;subst hx;obtain⟨v,hv,hr⟩:=resA_sound h h1;obtain⟨vs,hvs,hrs⟩:=Vy h h2;refine⟨v::vs,?_,.cons hr hrs⟩;simp only[List.mapM_cons,E0,hv,Ga,hvs,He]
  ·cases hx
theorem RepL.length{own:Nat->Option Own}{l:List Value}{m:List AV}(h:RepL I own θ w l m):l.length=m.length:=by induction h with|nil=>rfl|cons _ _ ih=>simp[ih]
theorem RepL.get{own:Nat->Option Own}{l:List Value}{m:List AV}(h:RepL I own θ w l m)(j:Nat)(hj:j<m.length):Rep I own θ w (l.getD j undef) (m.getD j .any):=by
 induction h generalizing j with
 | nil=>cases hj
 | cons h _ ih=>cases j with
  | zero=>simpa using h
  | succ j=>simpa using ih j (by simpa using hj)
theorem ret_sound(h:Rel Γ st.sto I θ a w){fn:Func}{x:AV}(hx:retRaw P st fn.results.toList=some x):∃ v,(results fn a.tmps).run P w = .ok v w/\Rep I st.sto.own θ w v x:=by
 unfold retRaw at hx;have hrun:∀ vs:List Value,(fn.results.toList.mapM (resSem a)).run P w = .ok vs w->
   (results fn a.tmps).run P w = .ok (if h:vs.toArray.size=1 then vs.toArray[0] else .tuple vs.toArray) w:=fun vs hvs=>by
  have e:results fn a.tmps=(do let vs <- fn.results.mapM (resSem a);pure (if h:vs.size=1 then vs[0] else .tuple vs)):=by
   unfold results
   congr 1
  rw[e,Array.mapM_eq_mapM_toList];simp only[E0,Sem.run_map];rw[hvs];simp only[Ga,He]
 split at hx
 ·rename_i y hy
  simp only[Am]at hx;subst hx;obtain⟨vs,hvs,hr⟩:=Vy h hy;have hl:=hr.length
  match vs,hl,hr,hvs with
  | [v],_,hr,hvs=>
   cases hr with|cons hr _=>exact⟨v,by rw[hrun _ hvs];simp,hr⟩
 ·rename_i l hne hl
  simp only[Am]at hx;subst hx;obtain⟨vs,hvs,hr⟩:=Vy h hl;have hlen:=hr.length
  have hn1:vs.length≠1:=fun h1=>by
   match l,hlen,hne with
   | [],hlen,_=>simp at hlen;simp[hlen]at h1
   | [x],_,hne=>exact hne x rfl
   | _::_::_,hlen,_=>simp at hlen;omega
  refine⟨.tuple vs.toArray,by rw[hrun _ hvs];simp[hn1],.tuple _ _ (by simpa using hlen) fun j hj=>?_⟩;have:=hr.get j hj;rwa[<- S4]at this
 ·cases hx
theorem look_enum:∀(l:List AV) (i t:Nat),Ak (enumA i l) t=if i<=t/\t<i+l.length then some (l.getD (t-i) .any) else none
 | [],i,t=>by rw[if_neg (by simp)];rfl
 | x::l,i,t=>by
  simp only[enumA,Ak,look_enum l (i+1) t,Wo]
  cases hb:Nat.beq i t with
  | true=>
   have:=Cb hb;subst this
   simp
  | false=>
   have hne:i≠t:=by rintro rfl;simp at hb
   simp only[Aq]
   by_cases h:i+1<=t/\t<i+1+l.length
   ·rw[if_pos h,if_pos (by omega)]
    have:t-i=(t-(i+1))+1:=by omega
    rw[this,List.getD_cons_succ]
   ·rw[if_neg h,if_neg (by omega)]
theorem retH_look{ρ:List (Nat×Nat)}(h2:(ρ.map (·.2)).Nodup)(st:St)(k:Nat):Ak (retH ρ st) k=(Ak (Km ρ) k).bind fun nm=>(Ak st.own nm).map (Own.ren ρ):=by
 have key:∀(l:List (Nat×Nat)),(l.map (·.2)).Nodup->Ak (l.filterMap fun x=>match Ak st.own x.1 with|some o=>some (x.2,o.ren ρ)|none=>none) k=(Ak (Km l) k).bind fun nm=>(Ak st.own nm).map (Own.ren ρ):=by
  intro l
  induction l with
  | nil=>intro _;rfl
  | cons x l ih=>
   intro hn;obtain⟨nm,c⟩:=x;simp only[C7,zzL110]at hn;have ih:=ih hn.2;simp only[List.filterMap_cons,Km,C7,Ak]
   cases ho:Ak st.own nm with
   | some o=>
    simp only[Ak]
    cases hb:Nat.beq c k with
    | true=>simp[ho]
    | false=>simpa [Km] using ih
   | none=>
    simp only
    cases hb:Nat.beq c k with
    | true=>
     have:=Cb hb;subst this;simp only[Ag,An,ho,Option.map_none]
     apply Ub
     intro hm;obtain⟨y,hy,rfl⟩:=zzL27.1 hm;obtain⟨z,hz,hzy⟩:=List.mem_filterMap.1 hy
     cases hz':Ak st.own z.1 with
     | none=>rw[hz']at hzy;cases hzy
     | some o'=>
      rw[hz']at hzy;simp only[Am]at hzy;subst hzy;exact hn.1 (zzL27.2 ⟨z,hz,rfl⟩)
    | false=>simpa [Km] using ih
 exact key ρ h2
theorem chg_ret{own0:Nat->Option Own}{θ0:Nat->Option (Nat×Nat)}{I0:Nat->Nat->Prop}{w0:World}{own:Nat->Option Own}{ρ:List (Nat×Nat)}(hρ:∀ nm c,Ak ρ nm=some c->own nm=Ak st.own nm)(h1:(ρ.map (·.1)).Nodup)(h2:(ρ.map (·.2)).Nodup)(k:Chg own0 θ0 I0 w0 own θ I w)
  (hh:∀ nm,own0 nm≠none->Ak ρ nm=some nm) :
  Chg own0 θ0 I0 w0 (Ak (retH ρ st)) (fun k=>(Ak (Km ρ) k).bind θ) I w/\∀ v x,Rep I own θ w v x->Rep I (Ak (retH ρ st)) (fun k=>(Ak (Km ρ) k).bind θ) w v (x.ren ρ):=by
 have hfw:∀ nm c o,Ak ρ nm=some c->own nm=some o->Ak (retH ρ st) c=some (o.ren ρ)/\(Ak (Km ρ) c).bind θ=θ nm:=fun nm c o hl ho=>by
  have hs:=(P2 h1 h2).1 hl;rw[hρ nm c hl]at ho;rw[retH_look h2,hs];simp[ho]
 have hbw:∀ c o,Ak (retH ρ st) c=some o->∃ nm o',Ak ρ nm=some c/\own nm=some o'/\o=o'.ren ρ/\(Ak (Km ρ) c).bind θ=θ nm:=fun c o ho=>by
  rw[retH_look h2]at ho;obtain⟨nm,hs,ho'⟩:=zzL114.1 ho;obtain⟨o',ho'',rfl⟩:=zzL89.1 ho';exact⟨nm,o',(P2 h1 h2).2 hs,(hρ nm c ((P2 h1 h2).2 hs)).trans ho'',rfl,by simp[hs]⟩
 refine⟨{ k with le:=fun nm o ho=>?_,rel:=⟨fun c e' cells hc=>?_,fun c sz e m hc g cc hg=>?_,fun c c' g cc cc' hc hc' hg hg'=>?_,fun c sz e m f hc=>?_,fun c x hc=>?_,fun c sz m hc hnn=>?_⟩,new:=fun c g cc hc hg=>?_ },fun v x hx=>hx.ren ρ hfw⟩
 ·obtain⟨o',ho',hl⟩:=k.le nm o ho;obtain⟨e1,e2⟩:=hfw nm nm o' (hh nm (by simp[ho])) ho';refine⟨_,e1,?_⟩;rw[e2]
  cases o<;>cases o'<;>simp_all [OwnLe,Own.ren]
 rotate_left 5
 ·obtain⟨nm,o',hl,ho',he,ht⟩:=hbw c _ hc
  cases o' with
  | row=>simp[Own.ren]at he
  | arr=>simp[Own.ren]at he
  | obj=>simp[Own.ren]at he
  | tok=>
   simp only[Own.ren,Own.tok.injEq]at he;obtain⟨rfl,rfl,rfl⟩:=he;exact k.rel.tok8 nm _ _ ho' (ht.symm.trans hnn)
 rotate_right 1
 ·obtain⟨nm,o',hl,ho',he,ht⟩:=hbw c _ hc
  cases o' with
  | row=>simp[Own.ren]at he
  | tok=>simp[Own.ren]at he
  | arr=>simp[Own.ren]at he
  | obj x'=>
   simp only[Own.ren,Own.obj.injEq]at he;subst he;exact Lr (θ':=fun c=>(Ak (Km ρ) c).bind θ) (nm':=c) (k.rel.obj nm _ ho') ht (fun _ _ _=>rfl) (fun _ _ _ _ h=>h) (fun _ hh=>hh.on _ (fun _ _ h=>h) (fun _ _ _=>rfl) fun _ _ hv=>hv.ren ρ hfw) on_nil
 rotate_left 1
 ·obtain⟨nm,o',hl,ho',he,ht⟩:=hbw c _ hc
  cases o' with
  | tok=>simp[Own.ren]at he
  | arr=>simp[Own.ren]at he
  | obj=>simp[Own.ren]at he
  | row e1 cs=>
   simp only[Own.ren,Own.row.injEq]at he;obtain⟨rfl,rfl⟩:=he;obtain⟨g,c',vs,r1,r2,r3,r4,r5,r6⟩:=k.rel.row nm _ cs ho';refine⟨g,c',vs,ht.trans r1,r2,by rw[Bl];exact r3,fun j hj=>r4 j (by rwa[Bl]at hj),fun j hj=>?_,r6⟩;rw[Ld];exact(r5 j (by rwa[Bl]at hj)).ren ρ hfw
 ·obtain⟨nm,o',hl,ho',he,ht⟩:=hbw c _ hc
  cases o' with
  | row=>simp[Own.ren]at he
  | arr=>simp[Own.ren]at he
  | obj=>simp[Own.ren]at he
  | tok=>
   simp only[Own.ren,Own.tok.injEq]at he;obtain⟨rfl,rfl,rfl⟩:=he;exact k.rel.tok nm _ _ _ ho' g cc (by rw[<- ht];exact hg)
 ·cases hx:Ak (retH ρ st) c with
  | none=>exact(hc hx).elim
  | some o=>
   cases hx':Ak (retH ρ st) c' with
   | none=>exact(hc' hx').elim
   | some o'=>
    obtain⟨nm,o1,hl,ho1,_,ht⟩:=hbw c o hx;obtain⟨nm',o2,hl',ho2,_,ht'⟩:=hbw c' o' hx';rw[ht]at hg;rw[ht']at hg';have:=k.rel.inj nm nm' g cc cc' (by simp[ho1]) (by simp[ho2]) hg hg';subst this;rw[hl]at hl';exact OI hl'
 ·obtain⟨nm,o',hl,ho',he,ht⟩:=hbw c _ hc
  cases o' with
  | row=>simp[Own.ren]at he
  | tok=>simp[Own.ren]at he
  | obj=>simp[Own.ren]at he
  | arr sz' e' m' f'=>
   simp only[Own.ren,Own.arr.injEq]at he;obtain⟨rfl,rfl,rfl,rfl⟩:=he;exact O4 (k.rel.arr nm _ _ _ _ ho') ht (fun _ _ _=>rfl) (fun _ _ _ _ h=>h) (fun i _=>Bl _ _) (fun v i j _ _ hv=>by rw[Ld];exact hv.ren ρ hfw)
 ·cases hx:Ak (retH ρ st) c with
  | none=>exact(hc hx).elim
  | some o=>
   obtain⟨nm,o1,hl,ho1,_,ht⟩:=hbw c o hx;rw[ht]at hg;exact k.new nm g cc (by simp[ho1]) hg
theorem spec_of_awp {f : FuncId} {fn : Func} {c : Code} {args : List AV} {H H' : List (Nat × Own)} {res : AV} (hf : P.funcs[f]? = some fn) (hb : fn.body = some c) (hname : (fn.name == "runtime.NumGoroutine") = false) (hlen : Nat.ble args.length fn.ntmps = true)
    (h : ∀ Γ : Iw, Γ.n = fn.ntmps → Γ.own0 = Ak H → Zh P Γ c (retK P fn.results.toList H res H') (initSt args H)) (hpl : plainB H = true := by rfl) : Spec P f args H res H' := by
  have hlen := Ku hlen; refine ⟨fun az w => ?_, fun w I θ az hargs hown hval hglob => ?_⟩
  · have hn : ¬ fn.name = "runtime.NumGoroutine" := by simpa using hname
    simp [callFunc, hf, hn, hb]
  · let Γ : Iw := ⟨w, fn.ntmps, Ak H, θ, I, hglob, fun nm h => plain_lt hpl h⟩
    refine calls_of_wp hf hb ?_
    have has : az.size = args.length := by simpa using hargs.length
    have hown0 : (initSt args H).sto.own = Ak H := famOwn_plain hpl
    have hrel : Rel Γ (initSt args H).sto I θ ⟨az ++ Array.replicate (fn.ntmps - az.size) undef, []⟩ w := by
      refine ⟨by simp [Γ]; omega, rfl, fun t => ?_, by rw [hown0]; exact .refl hown hval⟩
      have e : (initSt args H).sto.tmp t = if t < args.length then args.getD t .any else .any := by
        show (match Ak (enumA 0 args) t with | some x => x | none => .any) = _
        rw [look_enum]
        by_cases ht : t < args.length
        · simp [ht]
        · simp [ht]
      rw [e, hown0]
      by_cases ht : t < args.length
      · rw [if_pos ht]; have := hargs.get t ht
        have e2 : (az ++ Array.replicate (fn.ntmps - az.size) undef).getD t undef = az.toList.getD t undef := by
          have hts : t < az.size := by omega
          simp [Pn, List.getD, Array.getElem?_append_left hts]
        rw [e2]; exact this
      · rw [if_neg ht]; exact .val _ _ (.any _)
    refine Ss (h Γ rfl rfl I θ _ w hrel) fun e a' w' ⟨st', I', θ', ⟨he, ρ, hret⟩, hr⟩ => ?_; unfold retOf at hret
    cases hc : retCheck H ρ with
    | false => simp [hc] at hret
    | true =>
      simp only [hc, Ag] at hret
      split at hret
      · rename_i x hx
        simp only [Am, It] at hret; obtain ⟨rfl, rfl⟩ := hret; simp only [retCheck, A7] at hc; obtain ⟨⟨c1, c2, c4⟩, c3⟩ := hc; obtain ⟨v, hv, hrep⟩ := ret_sound (fn := fn) hr hx
        obtain ⟨k1, k2⟩ := chg_ret (own := st'.sto.own) (st := st') (fun nm c hl => Bd (by have := zzL29.1 c4 _ (Mn hl); simpa [Iu] using this)) (Nf c1) (Nf c2) hr.chg (fun nm hn => by
          cases hl : Ak H nm with
          | none => exact (hn hl).elim
          | some o =>
            have := zzL29.1 c3 _ (Mn hl); simp only at this
            split at this
            · rename_i k hk
              rw [hk, Cb this]
            · cases this)
        have hfin : a'.defers = [] ∧ ∃ v, (results fn a'.tmps).run P w' = .ok v w' ∧ (∃ v_1 I' θ', Ending.returned v = .returned v_1 ∧ Chg (Ak H) θ I w (Ak (retH ρ st')) θ' I' w' ∧ Rep I' (Ak (retH ρ st')) θ' w' v_1 (x.ren ρ)) :=
          ⟨hr.defers, v, hv, v, I', _, rfl, k1, k2 _ _ hrep⟩
        rcases he with rfl | rfl <;> exact hfin
      · cases hret
theorem law_of_spec{f:FuncId}{args:List AV}(h:Spec P f args [] (.bool true) [])(w:World)(az:Array Value)(hargs:RepL (fun b o=>∃ u,w.cell? ⟨b,o,none⟩=some u) (Ak []) (fun _=>none) w az.toList args)(hG:GOk (fun b o=>∃ u,w.cell? ⟨b,o,none⟩=some u) w) :
  Calls P f az w fun e w'=>e = .returned (.bool true)/\Below w.heap.size w w':=by
 refine Calls.mono (h.2 w _ (fun _=>none) az hargs ⟨(fun _ _ _ h=>by cases h),(fun _ _ _ _ h=>by cases h),(fun _ _ _ _ _ h=>(h rfl).elim),(fun _ _ _ _ _ h=>by cases h),(fun _ _ h=>by cases h),(fun _ _ _ h=>by cases h)⟩ (fun _ _ h=>h) hG) fun e w' ⟨v,I',θ',he,k,hr⟩=>?_;subst he;rw[hr.bool_inv];exact⟨rfl,k.os,k.tape,k.output,k.grow,fun b hb=>k.frame b hb fun _ _ h=>(h rfl).elim⟩
end
def AV.list{α:Type}(sz:Nat)(e:α->List AV)(d:α)(l:List α)(t:Tag):AV:=.slice sz l.length (fun i=>e (l.getD i d)) t
section
variable {α:Type} {sz:Nat} {e:α->List AV} {d:α}
theorem Hg:AVle (.slice 0 0 (fun _=>[]) .exact) (AV.list sz e d [] .exact):=AVle.empty rfl (fun _ h=>by cases h)
theorem av_lit{n:Nat}{f:Nat->List AV}{t:Tag}{xs:List α}(hn:n=xs.length)(hf:∀ i,i<n->f i=e (xs.getD i d)):AVle (.slice sz n f t) (AV.list sz e d xs t):=AVle.slice hn hf
theorem map_get(xs:List α)(i:Nat)(h:i<xs.length):(xs.map e).getD i []=e (xs.getD i d):=by simp[List.getD,h]
theorem app_get(l m:List α)(i:Nat)(h:i<l.length+m.length):Nz l.length (fun i=>e (l.getD i d)) (fun i=>e (m.getD i d)) i=e ((l++m).getD i d):=by
 by_cases hi:i<l.length
 ·rw[O3 _ _ hi,List.getD,List.getD,Qy hi]
 ·rw[Sy _ _ (by omega),List.getD,List.getD,Us (by omega)]
theorem av_app{t:Tag}{l m:List α}:AVle (.slice sz (l.length+m.length) (Nz l.length (fun i=>e (l.getD i d)) (fun i=>e (m.getD i d))) t) (AV.list sz e d (l++m) t):=
 AVle.slice (by simp) fun i hi=>app_get l m i hi
theorem Fe(l m:List α):l.length+m.length=(l++m).length:=by simp
theorem av_drop{t:Tag}{l:List α}{k:Nat}:AVle (.slice sz (l.length-k) (fun i=>e (l.getD (k+i) d)) t) (AV.list sz e d (l.drop k) t):=
 AVle.slice (by simp) fun i _=>by simp[List.getD]
end
theorem Spec.drop{P:Program}{f:FuncId}{args:List AV}{res:AV}{H':List (Nat×Own)}(h:Spec P f args [] res H'):Spec P f args [] res.strip []:=by
 refine⟨h.1,fun w I θ az ha ho hv hg=>Calls.mono (h.2 w I θ az ha ho hv hg) fun e w' ⟨v,I',θ',he,k,hr⟩=>⟨v,I',θ',he,⟨k.imm,k.cell,(fun _ _ h=>by cases h),⟨(fun _ _ _ h=>by cases h),(fun _ _ _ _ h=>by cases h),(fun _ _ _ _ _ h=>(h rfl).elim),(fun _ _ _ _ _ h=>by cases h),(fun _ _ h=>by cases h),(fun _ _ _ h=>by cases h)⟩,k.valid,k.os,k.tape,k.output,k.drawn,k.grow,k.frame,(fun _ _ _ h=>(h rfl).elim),fun b o hi=>?_⟩,.val _ _ hr.strip⟩⟩;exact k.immNew b o hi
theorem Ke{α:Type}{sz:Nat}{e:α->List AV}{d:α}{γ:Bool}{l m:List α}:AVle (.slice sz (bif γ then m.length else l.length) (fun i=>bif γ then e (m.getD i d) else e (l.getD i d)) .none) (AV.list sz e d (bif γ then m else l) .none):=by cases γ<;>exact fun _ _ _ _ _ h=>h
theorem Spec.args{P:Program}{f:FuncId}{xs ys:List AV}{H:List (Nat×Own)}{res:AV}{H':List (Nat×Own)}(hl:AVleL xs ys)(h:Spec P f ys H res H'):Spec P f xs H res H':=by
 refine⟨h.1,fun w I θ az ha ho hv hg=>h.2 w I θ az ?_ ho hv hg⟩
 revert hl
 have key:∀{vs:List Value} {xs ys:List AV},AVleL xs ys->RepL I (Ak H) θ w vs xs->RepL I (Ak H) θ w vs ys:=by
  intro vs xs ys hl
  induction hl generalizing vs with
  | nil=>intro h;cases h;exact .nil
  | cons h1 _ ih=>intro h;cases h with|cons h2 h3=>exact .cons (h1 _ _ _ _ _ h2) (ih h3)
 exact fun hl=>key hl ha
theorem av_nil0{α:Type}{sz:Nat}{e:α->List AV}{d:α}:AVle (.slice 0 0 (fun _=>[]) .none) (AV.list sz e d [] .none):=AVle.empty rfl (fun _ h=>by cases h)
instance (i:Int)(n:Nat):Decidable (A2 i n):=inferInstanceAs (Decidable (_/\_))
abbrev w64(n:Int):Int:=IntKind.i64.wrap n
abbrev Iv(n:Int):Int:=IntKind.u64.wrap n
open Classical in
section
variable {Γ:Iw}
theorem le_restrict_eq{st st':St}(live names:List Nat)(h:Jw live names st=st')(hn:∀ nm,Γ.own0 nm≠none->nm∈names):Le Γ st st':=h▸le_restrict live names hn
theorem B2{P:Program}{n:Nat}{H:List (Nat×Own)}{st st':St}(live names:List Nat)(q:RgQ P Γ n H)(h:Jw live names st=st':=by kernel_rfl)(hh:(H.all fun x=>D5 x.1 names)=true:=by kernel_rfl):Le Γ st st':=le_restrict_eq live names h (q.hand hh)
theorem J5{st st':St}(h:st=st'):Le Γ st st':=h▸Le.refl _ _
end
section
variable {P:Program} {Γ:Iw}
def Wx(nm:Nat)(k:Nat):Bool:=!Nat.beq k nm
mutual
def AV.frz(nm sz n:Nat)(g:Nat->List AV):AV->AV
 | .slice s m f (.own k)=>.slice s m f (bif Nat.beq k nm then .none else .own k)
 | .ptr k off=>bif Nat.beq k nm then .any else .ptr k off
 | .vsl k j=>bif Nat.beq k nm then .slice sz n g (.own nm) else .vsl k j
 | .vpt k j i c=>bif Nat.beq k nm then .any else .vpt k j i c
 | .vsub k j l h=>bif Nat.beq k nm then .any else .vsub k j l h
 | .optr k m=>bif Nat.beq k nm then .any else .optr k m
 | .omap k=>bif Nat.beq k nm then .any else .omap k
 | .clo f xs ys=>.clo f (AV.frzAll nm sz n g xs) (AV.frzAll nm sz n g ys)
 | .agg cs=>.agg (AV.frzAll nm sz n g cs)
 | .rpo cs=>.rpo (AV.frzAll nm sz n g cs)
 | .tuple cs=>.tuple (AV.frzAll nm sz n g cs)
 | .cond c x=>.cond c (x.frz nm sz n g)
 | x=>x
def AV.frzAll(nm sz n:Nat)(g:Nat->List AV):List AV->List AV
 | []=>[]
 | x::l=>x.frz nm sz n g::AV.frzAll nm sz n g l
end
mutual
def AV.wholes(nm n:Nat):AV->List Prop
 | .vsl k j=>bif Nat.beq k nm then[j=n] else[]
 | .agg cs=>AV.wholesAll nm n cs
 | .rpo cs=>AV.wholesAll nm n cs
 | .tuple cs=>AV.wholesAll nm n cs
 | .cond _ x=>x.wholes nm n
 | .clo _ xs ys=>AV.wholesAll nm n xs++AV.wholesAll nm n ys
 | _=>[]
def AV.wholesAll(nm n:Nat):List AV->List Prop
 | []=>[]
 | x::l=>x.wholes nm n++AV.wholesAll nm n l
end
mutual
def AV.frw(nm sz n:Nat)(g:Nat->List AV):AV->AV
 | .slice s m f (.own k)=>.slice s m f (bif Wx nm k then .own k else .none)
 | .slice s m f (.fam b i)=>.slice s m f (bif Wx nm b then .fam b i else .none)
 | .ptr k off=>bif Wx nm k then .ptr k off else .any
 | .vsl k j=>bif Wx nm k then .vsl k j else bif Nat.beq j n then .slice sz n g .none else .any
 | .vpt k j i c=>bif Wx nm k then .vpt k j i c else .any
 | .vsub k j l h=>bif Wx nm k then .vsub k j l h else .any
 | .optr k m=>bif Wx nm k then .optr k m else .any
 | .omap k=>bif Wx nm k then .omap k else .any
 | .clo f xs ys=>.clo f (AV.frwAll nm sz n g xs) (AV.frwAll nm sz n g ys)
 | .agg cs=>.agg (AV.frwAll nm sz n g cs)
 | .rpo cs=>.rpo (AV.frwAll nm sz n g cs)
 | .tuple cs=>.tuple (AV.frwAll nm sz n g cs)
 | .cond c x=>.cond c (x.frw nm sz n g)
 | x=>x
def AV.frwAll(nm sz n:Nat)(g:Nat->List AV):List AV->List AV
 | []=>[]
 | x::l=>x.frw nm sz n g::AV.frwAll nm sz n g l
end
theorem Ed(nm sz n:Nat)(g:Nat->List AV)(l:List AV):(AV.frwAll nm sz n g l).length=l.length:=by induction l with|nil=>rfl|cons x l ih=>simp[AV.frwAll,ih]
theorem Qm(nm sz n:Nat)(g:Nat->List AV)(l:List AV)(j:Nat):(AV.frwAll nm sz n g l).getD j .any=(l.getD j .any).frw nm sz n g:=by
 induction l generalizing j with
 | nil=>simp[AV.frwAll,AV.frw]
 | cons x l ih=>cases j with
  | zero=>simp[AV.frwAll]
  | succ j=>simpa [AV.frwAll] using ih j
theorem RepV.frw{I:Nat->Nat->Prop}{w:World}{v:Value}{x:AV}(h:RepV I w v x)(nm sz n:Nat)(g:Nat->List AV):RepV I w v (x.frw nm sz n g):=by
 induction h with
 | any v=>exact .any v
 | undef=>exact .undef
 | int k n=>exact .int k n
 | bool b=>exact .bool b
 | str s=>exact .str s
 | clo f=>exact .clo f
 | nxt1 i r=>exact .nxt1 i r
 | nxt0 i r=>exact .nxt0 i r
 | nilq b pos n h=>exact .nilq b pos n h
 | err0=>exact .err0
 | err1 t v=>exact .err1 t v
 | nilp=>exact .nilp
 | nilm=>exact .nilm
 | cond v c x _ h' ih=>exact .cond v c _ ih h'
 | rptr a cells us hs hI' hc h1 hr _=>exact .rptr a cells us hs hI' hc h1 hr
 | slice a n cap sz f us hcap hmax hz hn h1 hl hr _=>exact .slice a n cap sz f us hcap hmax hz hn h1 hl hr
 | agg vs cs hl h1 _ ih=>exact .agg vs _ (by rw[Ed,hl]) (fun j hj=>h1 j (by rwa[Ed]at hj)) (fun j hj=>by rw[Qm];exact ih j (by rwa[Ed]at hj))
 | tuple vs cs hl _ ih=>exact .tuple vs _ (by rw[Ed,hl]) (fun j hj=>by rw[Qm];exact ih j (by rwa[Ed]at hj))
def Own.frz(nm sz n:Nat)(g:Nat->List AV):Own->Own
 | .row e cells=>.row e (AV.frzAll nm sz n g cells)
 | .arr s e m f=>.arr s e m (fun i=>AV.frwAll nm sz n g (f i))
 | .obj x=>.obj (x.on (AV.frw nm sz n g))
 | .tok s e m=>.tok s e m
def Own.wholes(nm n:Nat):Own->List Prop
 | .row _ cells=>AV.wholesAll nm n cells
 | _=>[]
def St.wholes(st:St)(nm n:Nat):List Prop:=(st.tmps.map fun x=>x.2.wholes nm n).flatten++(st.own.map fun x=>x.2.wholes nm n).flatten
def St.freeze(st:St)(nm sz n:Nat)(e:TypeId)(g:Nat->List AV):St:=
 ⟨st.tmps.map fun x=>(x.1,x.2.frz nm sz n g),st.own.map fun x=>(x.1,bif Nat.beq x.1 nm then .tok sz e n else x.2.frz nm sz n g),st.fam⟩
theorem Dk(nm sz n:Nat)(g:Nat->List AV)(l:List AV):(AV.frzAll nm sz n g l).length=l.length:=by induction l with|nil=>rfl|cons x l ih=>simp[AV.frzAll,ih]
theorem Qn(nm sz n:Nat)(g:Nat->List AV)(l:List AV)(j:Nat):(AV.frzAll nm sz n g l).getD j .any=(l.getD j .any).frz nm sz n g:=by
 induction l generalizing j with
 | nil=>simp[AV.frzAll,AV.frz]
 | cons x l ih=>cases j with
  | zero=>simp[AV.frzAll]
  | succ j=>simpa [AV.frzAll] using ih j
theorem Ou{nm n:Nat}{l:List AV}(h:∀ p∈AV.wholesAll nm n l,p)(j:Nat):∀ p∈(l.getD j .any).wholes nm n,p:=by
 induction l generalizing j with
 | nil=>intro p hp;simp[AV.wholes]at hp
 | cons x l ih=>
  simp only[AV.wholesAll]at h
  cases j with
  | zero=>intro p hp;exact h p (zzL18.2 (.inl (by simpa using hp)))
  | succ j=>intro p hp;exact ih (fun q hq=>h q (zzL18.2 (.inr hq))) j p (by simpa using hp)
theorem RepV.frz{I:Nat->Nat->Prop}{w:World}{v:Value}{x:AV}(h:RepV I w v x)(nm sz n:Nat)(g:Nat->List AV):RepV I w v (x.frz nm sz n g):=by
 induction h with
 | any v=>exact .any v
 | undef=>exact .undef
 | int k n=>exact .int k n
 | bool b=>exact .bool b
 | str s=>exact .str s
 | clo f=>exact .clo f
 | nxt1 i r=>exact .nxt1 i r
 | nxt0 i r=>exact .nxt0 i r
 | nilq b pos n h=>exact .nilq b pos n h
 | err0=>exact .err0
 | err1 t v=>exact .err1 t v
 | nilp=>exact .nilp
 | nilm=>exact .nilm
 | cond v c x _ h' ih=>exact .cond v c _ ih h'
 | rptr a cells us hs hI' hc h1 hr _=>exact .rptr a cells us hs hI' hc h1 hr
 | slice a n cap sz f us hcap hmax hz hn h1 hl hr _=>exact .slice a n cap sz f us hcap hmax hz hn h1 hl hr
 | agg vs cs hl h1 _ ih=>exact .agg vs _ (by rw[Dk,hl]) (fun j hj=>h1 j (by rwa[Dk]at hj)) (fun j hj=>by rw[Qn];exact ih j (by rwa[Dk]at hj))
 | tuple vs cs hl _ ih=>exact .tuple vs _ (by rw[Dk,hl]) (fun j hj=>by rw[Qn];exact ih j (by rwa[Dk]at hj))
theorem Rep.frz{I I':Nat->Nat->Prop}{own own':Nat->Option Own}{θ:Nat->Option (Nat×Nat)}{w:World}{v:Value}{x:AV}{nm sz n:Nat}{g:Nat->List AV}(h:Rep I own θ w v x)(hp:∀ p∈x.wholes nm n,p)(hI:∀ b o,I b o->I' b o)
  (ho:∀ k o,own k=some o->Nat.beq k nm=false->own' k=some (o.frz nm sz n g)) (hk:∀ v,Rep I own θ w v (.vsl nm n)->Rep I' own' θ w v (.slice sz n g (.own nm))) (hlt':∀ b i,Nat.beq (Qd b i) nm=false):Rep I' own' θ w v (x.frz nm sz n g):=by
 induction h with
 | val v x h=>exact .val _ _ ((h.frz nm sz n g).mono hI (fun _ _ _=>rfl))
 | exact a n sz f h=>exact .exact a n sz f (h.mono hI (fun _ _ _=>rfl))
 | own k sz e m a n cap f hn hm hv h=>
  simp only[AV.frz]
  cases hb:Nat.beq k nm with
  | true=>exact .val _ _ (h.mono hI (fun _ _ _=>rfl))
  | false=>exact .own k sz e m a n cap f (ho k _ hn hb) hm hv (h.mono hI (fun _ _ _=>rfl))
 | fam b i sz e m a n cap f hi hn hm hv h=>
  exact .fam b i sz e m a n cap f hi (ho _ _ hn (hlt' b i)) hm hv (h.mono hI (fun _ _ _=>rfl))
 | ptr k off e0 cells g c hn hg=>
  simp only[AV.frz]
  cases hb:Nat.beq k nm with
  | true=>exact .val _ _ (.any _)
  | false=>exact .ptr k off e0 _ g c (ho k _ hn hb) hg
 | vsl k s2 e m f a j cap hn hm hcap hmax hnn hv=>
  simp only[AV.frz]
  cases hb:Nat.beq k nm with
  | true=>
   obtain rfl:=Cb hb;obtain rfl:j=n:=hp _ (by simp[AV.wholes]);exact hk _ (.vsl k s2 e m f a j cap hn hm hcap hmax hnn hv)
  | false=>exact .vsl k s2 e m _ a j cap (ho k _ hn hb) hm hcap hmax hnn hv
 | vpt k s2 e m f j i c ad hn hm hi hv=>
  simp only[AV.frz]
  cases hb:Nat.beq k nm with
  | true=>exact .val _ _ (.any _)
  | false=>exact .vpt k s2 e m _ j i c ad (ho k _ hn hb) hm hi hv
 | clo f fs cs xs ys hl hl' _ _ ih ih'=>
  simp only[AV.wholes,zzL18]at hp;exact .clo f fs cs _ _ (by rw[Dk,hl]) (by rw[Dk,hl']) (fun j hj=>by rw[Qn];exact ih j (by rwa[Dk]at hj) (Ou (fun p h=>hp p (.inl h)) j)) (fun j hj=>by rw[Qn];exact ih' j (by rwa[Dk]at hj) (Ou (fun p h=>hp p (.inr h)) j))
 | vsub k s2 e m f j lo hi a cap hn hm hlo hhi hcap hmax hnn hv=>
  simp only[AV.frz]
  cases hb:Nat.beq k nm with
  | true=>exact .val _ _ (.any _)
  | false=>exact .vsub k s2 e m _ j lo hi a cap (ho k _ hn hb) hm hlo hhi hcap hmax hnn hv
 | optr k mm x g c hn hg=>
  simp only[AV.frz]
  cases hb:Nat.beq k nm with
  | true=>exact .val _ _ (.any _)
  | false=>exact .optr k _ _ g c (ho k _ hn hb) hg
 | omap k x hn=>
  simp only[AV.frz]
  cases hb:Nat.beq k nm with
  | true=>exact .val _ _ (.any _)
  | false=>exact .omap k _ (ho k _ hn hb)
 | cond v c x _ h' ih=>exact .cond v c _ (fun hc=>ih hc (by simpa [AV.wholes] using hp)) h'
 | agg vs cs hl h1 _ ih=>exact .agg vs _ (by rw[Dk,hl]) (fun j hj=>h1 j (by rwa[Dk]at hj)) (fun j hj=>by rw[Qn];exact ih j (by rwa[Dk]at hj) (Ou (by simpa [AV.wholes] using hp) j))
 | rpo a cells us hs hI' hc h1 _ ih=>exact .rpo a _ us hs (fun j hj=>hI _ _ (hI' j (by rwa[Dk]at hj))) (fun j hj=>hc j (by rwa[Dk]at hj)) (fun j hj=>h1 j (by rwa[Dk]at hj)) (fun j hj=>by rw[Qn];exact ih j (by rwa[Dk]at hj) (Ou (by simpa [AV.wholes] using hp) j))
 | tuple vs cs hl _ ih=>exact .tuple vs _ (by rw[Dk,hl]) (fun j hj=>by rw[Qn];exact ih j (by rwa[Dk]at hj) (Ou (by simpa [AV.wholes] using hp) j))
theorem look_mapK{α β:Type}(l:List (Nat×α))(g:Nat->α->β)(k:Nat):Ak (l.map fun x=>(x.1,g x.1 x.2)) k=(Ak l k).map (g k):=by
 induction l with
 | nil=>rfl
 | cons x l ih=>
  obtain⟨a,b⟩:=x;simp only[C7,Ak]
  cases hb:Nat.beq a k with
  | true=>have:=Cb hb;subst this;simp
  | false=>simpa using ih
theorem memW{α β:Type}{l:List (Nat×α)}{g:α->List β}{k:Nat}{x:α}(h:Ak l k=some x){p:β}(hp:p∈g x):p∈(l.map fun y=>g y.2).flatten:=
 List.mem_flatten.2 ⟨g x,zzL27.2 ⟨(k,x),Mn h,rfl⟩,hp⟩
theorem J9{st:St}{nm sz n:Nat}{e:TypeId}{f g:Nat->List AV}(ho:Ak st.own nm=some (.arr sz e n f))(hwh:conjL (st.wholes nm n))(hf:∀ i,i<n->AV.stripAll (f i)=g i)(h0:Γ.own0 nm=none)(hlt:Nat.blt nm Bq=true:=by rfl) :
  Le Γ st (st.freeze nm sz n e g):=by
 intro I θ a w h;have hall:=conjL_all hwh
 have hlt:nm<Bq:=by simpa [Iu] using hlt
 have ho:st.sto.own nm=some (.arr sz e n f):=(Bd hlt).trans ho
 have hown':(st.freeze nm sz n e g).sto.own=fun k=>(st.sto.own k).map fun o=>bif Nat.beq k nm then Own.tok sz e n else o.frz nm sz n g:=by
  funext k
  by_cases hk:k<Bq
  ·show Dt _ _ k=(Dt _ _ k).map _
   rw[Bd hk,Bd hk];exact look_mapK st.own (fun k o=>bif Nat.beq k nm then Own.tok sz e n else o.frz nm sz n g) k
  ·have hb:Nat.beq k nm=false:=by cases hb:Nat.beq k nm with|false=>rfl|true=>exact absurd (Cb hb) (by rintro rfl;exact hk hlt)
   show Dt _ _ k=(Dt _ _ k).map _
   rw[Ec hk,Ec hk,hb]
   show(Ak st.fam (k / Bq-1)).bind _=_
   cases Ak st.fam (k / Bq-1) with
   | none=>rfl
   | some F=>simp only[An,Option.map_map];cases F.m (k % Bq)<;>rfl
 have hnm:(st.freeze nm sz n e g).sto.own nm=some (.tok sz e n):=by rw[hown'];simp[ho]
 have hne:∀ k,k≠nm->(st.freeze nm sz n e g).sto.own k=(st.sto.own k).map (Own.frz nm sz n g):=fun k hk=>by
  have:Nat.beq k nm=false:=by cases hb:Nat.beq k nm with|false=>rfl|true=>exact absurd (Cb hb) hk
  rw[hown'];simp[this]
 have hkeep:∀ k o,st.sto.own k=some o->Nat.beq k nm=false->(st.freeze nm sz n e g).sto.own k=some (o.frz nm sz n g):=fun k o hk hb=>by
  have:k≠nm:=by rintro rfl;simp at hb
  rw[hne k this];rw[hk];rfl
 have hback:∀ k,k≠nm->∀ o',(st.freeze nm sz n e g).sto.own k=some o'->∃ o,st.sto.own k=some o/\o'=o.frz nm sz n g:=fun k hk o' ho'=>by
  rw[hne k hk]at ho';obtain⟨o,h1,h2⟩:=zzL89.1 ho';exact⟨o,h1,h2.symm⟩
 have hnone:∀ k,(st.freeze nm sz n e g).sto.own k≠none->st.sto.own k≠none:=fun k hk=>by
  by_cases hkn:k=nm
  ·subst hkn;simp[ho]
  ·cases hx:(st.freeze nm sz n e g).sto.own k with
   | none=>exact(hk hx).elim
   | some o'=>obtain⟨o,h1,_⟩:=hback k hkn o' hx;simp[h1]
 have hrel:=h.chg.rel;obtain⟨q0,q1⟩:=hrel.arr nm sz e n f ho
 let I':Nat->Nat->Prop:=fun b o=>I b o\/((∃ c,θ nm=some (b,c))/\o<n*sz)
 have hII:∀ b o,I b o->I' b o:=fun _ _ h=>.inl h
 have hkey:∀ v,Rep I st.sto.own θ w v (.vsl nm n)->Rep I' (st.freeze nm sz n e g).sto.own θ w v (.slice sz n g (.own nm)):=fun v hs=>by
  obtain⟨sz',e',m,f2,ad,cap,hval,ho',hmm,hcap,hmax,hnn,hvv⟩:=hs.vsl_inv;have ho'':st.sto.own nm=some (.arr sz' e' m f2):=ho';rw[ho]at ho'';simp only[Am,Own.arr.injEq]at ho'';obtain⟨rfl,rfl,rfl,rfl⟩:=ho'';have hvv:=hvv rfl;rw[hval];refine .own nm sz e n ad n cap g hnm (zzL9 _) (fun _=>hvv) ?_
  cases hθ:θ nm with
  | none=>
   have hn0:=q0 hθ;subst hn0;exact .slice ad 0 cap sz g (fun _=>undef) hcap hmax (fun h=>by omega) hnn (fun j hj=>by omega) (fun i hi=>by omega) (fun i c hi=>by omega)
  | some gc=>
   obtain⟨b,c⟩:=gc;rw[hθ]at hvv;simp only at hvv;obtain⟨rfl,rfl⟩:=hvv;obtain⟨cur,r1,r2,r3,r4,r5,r6,r7⟩:=q1 b cap hθ
   have hcell:∀ j,j<n*sz->w.cell? ⟨b,j,none⟩=some (cur.getD j undef):=fun j hj=>by
    have:n*sz<=cap*sz:=Fb _ r2;rw[Ob w b j cur e (0,0) r1];exact Ml (by omega)
   refine .slice _ n cap sz g (fun j=>cur.getD j undef) hcap hmax (fun _=>⟨⟨b,0,none⟩,rfl,rfl,fun j hj=>.inr ⟨⟨cap,hθ⟩,by simpa using hj⟩,fun j hj=>by simpa using hcell j hj⟩) (by simp) (fun j hj=>?_) (fun i hi=>?_) (fun i k hi hk=>?_)
   ·have hs:0<sz:=by
     rcases zzL81 sz with h0|h0
     ·rw[h0]at hj;omega
     ·exact h0
    have e2:j / sz*sz+j % sz=j:=by rw[V3];exact Y1 j sz
    have:=(r6 (j / sz) (j % sz) (by rw[zzL105 hs];exact hj) (V5 _ hs)).1;rwa[e2]at this
   ·rw[<- hf i hi,B3];exact r5 i hi
   ·rw[<- hf i hi,Id];exact((r6 i k hi hk).2.strip).mono hII (fun _ _ _=>rfl)
 have hlt':∀ b i,Nat.beq (Qd b i) nm=false:=fun b i=>by cases hb:Nat.beq (Qd b i) nm with|false=>rfl|true=>exact absurd (Cb hb) (by rintro rfl;exact Nu b i hlt)
 have hcast:∀ v x,Rep I st.sto.own θ w v x->(∀ p∈x.wholes nm n,p)->Rep I' (st.freeze nm sz n e g).sto.own θ w v (x.frz nm sz n g):=fun v x hx hp=>hx.frz hp hII hkeep hkey hlt'
 have hfar:∀ k b c,k≠nm->st.sto.own k≠none->θ k=some (b,c)->∀ j,I' b j->I b j:=fun k b c hk hk' hg j hj=>by
  rcases hj with hj|⟨⟨c',hc'⟩,_⟩
  ·exact hj
  ·exact(hk (hrel.inj k nm b c c' hk' (by simp[ho]) hg hc')).elim
 have hcast2:∀ v x,Rep I st.sto.own θ w v x->Rep I' (st.freeze nm sz n e g).sto.own θ w v (x.frw nm sz n g):=fun v x hx=>by
  have key:∀{v:Value} {x:AV},Rep I st.sto.own θ w v x->Rep I' (st.freeze nm sz n e g).sto.own θ w v (x.frw nm sz n g):=by
   intro v x h
   induction h with
   | val v x h=>exact .val _ _ ((h.frw nm sz n g).mono hII (fun _ _ _=>rfl))
   | exact a n sz f h=>exact .exact a n sz f (h.mono hII (fun _ _ _=>rfl))
   | own k sz e m a n cap f hn hm hv h=>
    simp only[AV.frw,Wx]
    cases hb:Nat.beq k nm with
    | true=>exact .val _ _ (h.mono hII (fun _ _ _=>rfl))
    | false=>exact .own k sz e m a n cap f (hkeep k _ hn hb) hm hv (h.mono hII (fun _ _ _=>rfl))
   | fam b i sz e m a n cap f hi hn hm hv h=>
    simp only[AV.frw,Wx]
    cases hb:Nat.beq b nm with
    | true=>exact .val _ _ (h.mono hII (fun _ _ _=>rfl))
    | false=>exact .fam b i sz e m a n cap f hi (hkeep _ _ hn (hlt' b i)) hm hv (h.mono hII (fun _ _ _=>rfl))
   | ptr k off e0 cells g c hn hg=>
    simp only[AV.frw,Wx]
    cases hb:Nat.beq k nm with
    | true=>exact .val _ _ (.any _)
    | false=>exact .ptr k off e0 _ g c (hkeep k _ hn hb) hg
   | vsl k s2 e m f a j cap hn hm hcap hmax hnn hv=>
    simp only[AV.frw,Wx]
    cases hb:Nat.beq k nm with
    | true=>
     simp only[Dd,Aq]
     cases hj:Nat.beq j n with
     | false=>exact .val _ _ (.any _)
     | true=>
      obtain rfl:=Cb hb;obtain rfl:=Cb hj;exact .val _ _ (hkey _ (.vsl k s2 e m f a j cap hn hm hcap hmax hnn hv)).slice_val
    | false=>exact .vsl k s2 e m _ a j cap (hkeep k _ hn hb) hm hcap hmax hnn hv
   | vpt k s2 e m f j i c ad hn hm hi hv=>
    simp only[AV.frw,Wx]
    cases hb:Nat.beq k nm with
    | true=>exact .val _ _ (.any _)
    | false=>exact .vpt k s2 e m _ j i c ad (hkeep k _ hn hb) hm hi hv
   | clo f fs cs xs ys hl hl' _ _ ih ih'=>exact .clo f fs cs _ _ (by rw[Ed,hl]) (by rw[Ed,hl']) (fun j hj=>by rw[Qm];exact ih j (by rwa[Ed]at hj)) (fun j hj=>by rw[Qm];exact ih' j (by rwa[Ed]at hj))
   | vsub k s2 e m f j lo hi a cap hn hm hlo hhi hcap hmax hnn hv=>
    simp only[AV.frw,Wx]
    cases hb:Nat.beq k nm with
    | true=>exact .val _ _ (.any _)
    | false=>exact .vsub k s2 e m _ j lo hi a cap (hkeep k _ hn hb) hm hlo hhi hcap hmax hnn hv
   | optr k mm x g c hn hg=>
    simp only[AV.frw,Wx]
    cases hb:Nat.beq k nm with
    | true=>exact .val _ _ (.any _)
    | false=>exact .optr k _ _ g c (hkeep k _ hn hb) hg
   | omap k x hn=>
    simp only[AV.frw,Wx]
    cases hb:Nat.beq k nm with
    | true=>exact .val _ _ (.any _)
    | false=>exact .omap k _ (hkeep k _ hn hb)
   | cond v c x _ h' ih=>exact .cond v c _ ih h'
   | agg vs cs hl h1 _ ih=>exact .agg vs _ (by rw[Ed,hl]) (fun j hj=>h1 j (by rwa[Ed]at hj)) (fun j hj=>by rw[Qm];exact ih j (by rwa[Ed]at hj))
   | rpo a cells us hs hI' hc h1 _ ih=>exact .rpo a _ us hs (fun j hj=>.inl (hI' j (by rwa[Ed]at hj))) (fun j hj=>hc j (by rwa[Ed]at hj)) (fun j hj=>h1 j (by rwa[Ed]at hj)) (fun j hj=>by rw[Qm];exact ih j (by rwa[Ed]at hj))
   | tuple vs cs hl _ ih=>exact .tuple vs _ (by rw[Ed,hl]) (fun j hj=>by rw[Qm];exact ih j (by rwa[Ed]at hj))
  exact key hx
 refine⟨I',θ,h.size,h.defers,fun t=>?_,?_⟩
 ·have hslot:(st.freeze nm sz n e g).sto.tmp t=match Ak st.tmps t with|some x=>x.frz nm sz n g|none=>.any:=by
   show(match Ak (st.tmps.map fun x=>(x.1,x.2.frz nm sz n g)) t with|some x=>x|none=>.any)=_
   rw[look_mapK st.tmps (fun _ x=>x.frz nm sz n g) t]
   cases Ak st.tmps t<;>rfl
  rw[hslot];have hs:=h.slots t
  have hget:st.sto.tmp t=match Ak st.tmps t with|some x=>x|none=>.any:=rfl
  cases hl:Ak st.tmps t with
  | none=>exact .val _ _ (.any _)
  | some x=>
   rw[hget,hl]at hs;exact hcast _ _ hs (fun p hp=>hall p (zzL18.2 (.inl (memW (g:=fun x=>x.wholes nm n) hl hp))))
 ·refine{ h.chg with imm:=fun b o hi=>.inl (h.chg.imm b o hi),le:=fun k o hk=>?_,rel:=⟨fun k e0 cells hk=>?_,fun k s2 e2 m hk b c hg=>?_,fun k k' b c c' hk hk'=>?_,fun k s2 e2 m f2 hk=>?_,fun k x hk=>?_,fun k s2 m hk hnn=>?_⟩,valid:=fun b o hi=>?_,new:=fun k b c hk hg=>?_,immNew:=fun b o hi=>?_ }
  ·obtain⟨o',ho',hl⟩:=h.chg.le k o hk
   have hkn:k≠nm:=by rintro rfl;rw[h0]at hk;cases hk
   have hkb:Nat.beq k nm=false:=by cases hb:Nat.beq k nm with|false=>rfl|true=>exact absurd (Cb hb) hkn
   refine⟨_,hkeep k o' ho' hkb,?_⟩
   cases o<;>cases o'<;>first|exact hl|exact hl.elim
  rotate_left 4
  ·have hkn:k≠nm:=by rintro rfl;rw[hnm]at hk;cases hk
   obtain⟨o,h1,h2⟩:=hback k hkn _ hk
   cases o with
   | row=>simp[Own.frz]at h2
   | tok=>simp[Own.frz]at h2
   | arr=>simp[Own.frz]at h2
   | obj x'=>
    simp only[Own.frz,Own.obj.injEq]at h2;subst h2;exact Lr (hrel.obj k _ h1) rfl (fun _ _ _=>rfl) (fun b c j hg hj=>hfar k b c hkn (by simp[h1]) hg j hj) (fun _ hh=>hh.on _ hII (fun _ _ _=>rfl) fun v y hv=>hcast2 _ _ hv) on_nil
  ·by_cases hkn:k=nm
   ·subst hkn;rw[hnm]at hk;simp only[Am,Own.tok.injEq]at hk;obtain⟨rfl,_,rfl⟩:=hk;exact q0 hnn
   ·obtain⟨o,h1,h2⟩:=hback k hkn _ hk
    cases o with
    | row=>simp[Own.frz]at h2
    | arr=>simp[Own.frz]at h2
    | obj=>simp[Own.frz]at h2
    | tok=>
     simp only[Own.frz,Own.tok.injEq]at h2;obtain⟨rfl,rfl,rfl⟩:=h2;exact hrel.tok8 k _ _ h1 hnn
  rotate_left 3
  ·have hkn:k≠nm:=by rintro rfl;rw[hnm]at hk;cases hk
   obtain⟨o,h1,h2⟩:=hback k hkn _ hk
   cases o with
   | tok=>simp[Own.frz]at h2
   | arr=>simp[Own.frz]at h2
   | obj=>simp[Own.frz]at h2
   | row e' cs=>
    simp only[Own.frz,Own.row.injEq]at h2;obtain⟨rfl,rfl⟩:=h2;obtain⟨b,c,vs,r1,r2,r3,r4,r5,r6⟩:=hrel.row k _ cs h1;refine⟨b,c,vs,r1,r2,by rw[Dk];exact r3,fun j hj=>r4 j (by rwa[Dk]at hj),fun j hj=>?_,fun j hj=>r6 j (hfar k b c hkn (by simp[h1]) r1 j hj)⟩;rw[Qn];refine hcast _ _ (r5 j (by rwa[Dk]at hj)) (Ou (fun p hp=>hall p (zzL18.2 (.inr (memW (g:=fun x=>x.wholes nm n) (famOwn_look h1 (fun _ _ _ h=>by cases h)) (by simpa [Own.wholes] using hp))))) j)
  ·by_cases hkn:k=nm
   ·subst hkn;rw[hnm]at hk;simp only[Am,Own.tok.injEq]at hk;obtain⟨rfl,rfl,rfl⟩:=hk;obtain⟨cur,r1,r2,r3,r4,r5,r6,r7⟩:=q1 b c hg;refine⟨cur,0,r1,r2,r3,r4,Rn _,fun j hj=>?_⟩;rcases hj with hj|⟨_,hj⟩
    ·exact(r7 j hj).elim
    ·exact hj
   ·obtain⟨o,h1,h2⟩:=hback k hkn _ hk
    cases o with
    | row=>simp[Own.frz]at h2
    | arr=>simp[Own.frz]at h2
    | obj=>simp[Own.frz]at h2
    | tok=>
     simp only[Own.frz,Own.tok.injEq]at h2;obtain⟨rfl,rfl,rfl⟩:=h2;obtain⟨cur,fz,r1,r2,r3,r4,r5',r5⟩:=hrel.tok k _ _ _ h1 b c hg;exact⟨cur,fz,r1,r2,r3,r4,r5',fun j hj=>r5 j (hfar k b c hkn (by simp[h1]) hg j hj)⟩
  ·exact hrel.inj k k' b c c' (hnone k hk) (hnone k' hk')
  ·have hkn:k≠nm:=by rintro rfl;rw[hnm]at hk;cases hk
   obtain⟨o,h1,h2⟩:=hback k hkn _ hk
   cases o with
   | row=>simp[Own.frz]at h2
   | tok=>simp[Own.frz]at h2
   | obj=>simp[Own.frz]at h2
   | arr s3 e3 m3 f3=>
    simp only[Own.frz,Own.arr.injEq]at h2;obtain⟨rfl,rfl,rfl,rfl⟩:=h2;exact O4 (hrel.arr k _ _ _ _ h1) rfl (fun _ _ _=>rfl) (fun b c j hg hj=>hfar k b c hkn (by simp[h1]) hg j hj) (fun i _=>Ed _ _ _ _ _) (fun v i j _ _ hv=>by rw[Qm];exact hcast2 _ _ hv)
  ·rcases hi with hi|⟨⟨c,hc⟩,hj⟩
   ·exact h.chg.valid b o hi
   ·obtain⟨cur,r1,r2,r3,r4,r5,r6,r7⟩:=q1 b c hc;have:n*sz<=c*sz:=Fb _ r2;exact⟨cur.getD o undef,by rw[Ob w b o cur e (0,0) r1];exact Ml (by omega)⟩
  ·exact h.chg.new k b c (hnone k hk) hg
  ·rcases hi with hi|⟨⟨c,hc⟩,_⟩
   ·exact h.chg.immNew b o hi
   ·exact .inr (h.chg.new nm b c (by simp[ho]) hc)
end
section
variable {α:Type} {e:α->List AV} {d:α}
theorem Kl{f:Nat->List AV}{l:List α}{i j:Nat}{cs:List AV}{x:α}(hf:∀ k,k<l.length->f k=e (l.getD k d))(hi:i<l.length)(hx:(e (l.getD i d)).take j++cs++(e (l.getD i d)).drop (j+cs.length)=e x) :
  ∀ k,k<(l.set i x).length->G5 f i j cs k=e ((l.set i x).getD k d):=by
 intro k hk;rw[Hb]at hk
 by_cases h:k=i
 ·subst h;rw[R3,hf k hk,hx];simp[List.getD,hk]
 ·rw[Ul f cs h,hf k hk];simp[List.getD,Ne.symm h]
def cpL{α:Type}(l:List α)(lo k:Nat)(s:Nat->α):List α:=l.mapIdx fun i x=>if lo<=i/\i<lo+k then s (i-lo) else x
theorem Jm(l:List α)(lo k:Nat)(s:Nat->α):l.length=(cpL l lo k s).length:=by simp[cpL]
theorem cpL_getD(l:List α)(lo k:Nat)(s:Nat->α)(i:Nat)(d:α)(h:i<l.length):(cpL l lo k s).getD i d=if lo<=i/\i<lo+k then s (i-lo) else l.getD i d:=by
 simp[cpL,List.getD,h]
theorem cpF_cpL{f g:Nat->List AV}{l:List α}{s:Nat->α}{lo k:Nat}(hf:∀ i,i<l.length->f i=e (l.getD i d))(hg:∀ i,i<k->g i=e (s i)):∀ i,i<(cpL l lo k s).length->cpF f lo k g i=e ((cpL l lo k s).getD i d):=by
 intro i hi;rw[<- Jm]at hi;rw[cpL_getD _ _ _ _ _ _ hi]
 by_cases h:lo<=i/\i<lo+k
 ·rw[cpF_in f g h,if_pos h,hg _ (by omega)]
 ·rw[cpF_out f g h,if_neg h,hf i hi]
theorem Wb(keep:Nat->Bool)(l m:List AV):AV.eraseAll keep (l++m)=AV.eraseAll keep l++AV.eraseAll keep m:=by induction l with|nil=>rfl|cons x l ih=>simp[AV.eraseAll,ih]
theorem eraseAll_take(keep:Nat->Bool)(l:List AV)(n:Nat):AV.eraseAll keep (l.take n)=(AV.eraseAll keep l).take n:=by
 induction l generalizing n with
 | nil=>simp[AV.eraseAll]
 | cons x l ih=>cases n with
  | zero=>simp[AV.eraseAll]
  | succ n=>simp[AV.eraseAll,ih]
theorem eraseAll_drop(keep:Nat->Bool)(l:List AV)(n:Nat):AV.eraseAll keep (l.drop n)=(AV.eraseAll keep l).drop n:=by
 induction l generalizing n with
 | nil=>simp[AV.eraseAll]
 | cons x l ih=>cases n with
  | zero=>simp
  | succ n=>simpa [AV.eraseAll] using ih n
theorem appF_app{f f':Nat->List AV}{l m:List α}(hf:∀ k,k<l.length->f k=e (l.getD k d))(hf':∀ k,k<m.length->f' k=e (m.getD k d)):∀ k,k<(l++m).length->Nz l.length f f' k=e ((l++m).getD k d):=by
 intro k hk;rw[Fp]at hk;rw[<- app_get (e:=e) (d:=d) l m k hk]
 by_cases h:k<l.length
 ·rw[O3 _ _ h,O3 _ _ h,hf k h]
 ·rw[Sy _ _ (by omega),Sy _ _ (by omega),hf' _ (by omega)]
theorem Rr{z:List AV}(h:AVleL z (e d))(n:Nat):∀ k,k<(List.replicate n d).length->AVleL z (e ((List.replicate n d).getD k d)):=fun k hk=>by
 have:(List.replicate n d).getD k d=d:=by simp at hk;simp[List.getD,hk]
 rw[this];exact h
theorem Cn{f g:Nat->List AV}{n m:Nat}(hn:n=m)(h:∀ k,k<m->f k=g k):∀ k,k<n->AVleL (f k) (g k):=fun k hk=>by rw[h k (by omega)];exact .refl _
end
section
variable {α:Type} {e:α->List AV} {d:α}
end
noncomputable instance (n:Nat)(f:Nat->List AV):Decidable (ByteF n f):=Classical.propDecidable _
theorem nl{a b:Nat}(h:Nat.ble a b=true):a<=b:=Ku h
theorem gT{c:Bool}(h:c=true):(c==true)=true:=by rw[h];rfl
theorem gF{c:Bool}(h:c=false):(c==false)=true:=by rw[h];rfl
theorem aT{g c:Bool}(hg:g=true)(h:c=true):(g&&(c==true))=true:=by rw[hg,h];rfl
theorem aF{g c:Bool}(hg:g=true)(h:c=false):(g&&(c==false))=true:=by rw[hg,h];rfl
theorem Md{α:Type}{i:Int}{l:List α}(h:A2 i l.length):i.toNat<l.length:=by unfold A2 at h;omega
theorem inB_lt1{α:Type}{i:Int}{l:List α}{a:Nat}{x:α}(h:A2 i l.length):i.toNat<(l.set a x).length:=by rw[Hb];exact Md h
theorem Ru{α:Type}{d:α}{n k:Nat}(h:k<n):k<(List.replicate n d).length:=by rw[Rj];exact h
def Oa{α:Type}(N:Nat)(d:α)(l:List α)(i:Nat)(x:α):List α:=(List.range N).map fun j=>bif Nat.beq j i then x else l.getD j d
theorem setN_getD{α:Type}{N:Nat}{d:α}{l:List α}{i:Nat}{x:α}{k:Nat}(hk:k<N):(Oa N d l i x).getD k d=bif Nat.beq k i then x else l.getD k d:=by
 unfold Oa;rw[List.getD,zzL128,List.getElem?_range hk]
 rfl
theorem Um{α:Type}{e:α->List AV}{d:α}{f:Nat->List AV}{l:List α}{N i j:Nat}{cs:List AV}{x:α}(hf:∀ k,k<N->f k=e (l.getD k d))(hi:i<N)(hx:(e (l.getD i d)).take j++cs++(e (l.getD i d)).drop (j+cs.length)=e x) :
  ∀ k,k<N->G5 f i j cs k=e ((Oa N d l i x).getD k d):=by
 intro k hk;rw[setN_getD hk];unfold G5
 cases hb:Nat.beq k i with
 | true=>
  obtain rfl:=Cb hb;rw[Ag,Ag,hf k hk];exact hx
 | false=>rw[Aq,Aq,hf k hk]
theorem O8{i:Int}{N:Nat}(h:A2 i N):i.toNat<N:=by unfold A2 at h;omega
theorem flat_rep{α:Type}(z:List α)(sz:Nat)(hz:z.length=sz):∀(N k:Nat),k<N->(((List.replicate N z).flatten).drop (k*sz)).take sz=z
 | 0,k,h=>by omega
 | N+1,0,h=>by
  rw[List.replicate_succ,List.flatten_cons,Nat.zero_mul,Kv,List.take_append_of_le_length (by omega),List.take_of_length_le (by omega)]
 | N+1,k+1,h=>by
  rw[List.replicate_succ,List.flatten_cons,show(k+1)*sz=z.length+k*sz by rw[Gl,hz];omega,List.drop_append,List.drop_eq_nil_of_le (by omega),Su,Nat.add_sub_cancel_left];exact flat_rep z sz hz N k (by omega)
end
end Go.Proofs.YtmkiepobhjiabaaGreat
