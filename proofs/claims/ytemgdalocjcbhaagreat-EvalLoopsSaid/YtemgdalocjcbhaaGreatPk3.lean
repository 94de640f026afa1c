/-
  The machine, the program's functions and the laws' arithmetic: part 3 of 5.
-/
import Derived.Test.YtemgdalocjcbhaaGreatPk2
import Derived.BigCall
import Derived.Lib.RowBridge
import Derived.Shelf.Slices.Clone
import Derived.Shelf.Slices.CompactI
import Derived.Shelf.Slices.In.SortNone
import Derived.Shelf.Sort.Plain
import Derived.Sort.OwnSortedInts
import Derived.Test.YtemgdalocjcbhaaGreatProg
set_option linter.unusedVariables false
set_option linter.unusedSimpArgs false
namespace Go.Proofs.YtemgdalocjcbhaaGreat
noncomputable section
open Go Go.RowKit
section
variable {P:Program} {Γ:Ek}
def Qo(nm:Nat)(k:Nat):Bool:=!Nat.beq k nm
mutual
def AV.frz(nm sz n:Nat)(g:Nat→List AV):AV→AV
 | .slice s m f (.own k)=>.slice s m f (bif Nat.beq k nm then .none else .own k)
 | .ptr k off=>bif Nat.beq k nm then .any else .ptr k off
 | .vsl k j=>bif Nat.beq k nm then .slice sz n g (.own nm) else .vsl k j
 | .vpt k j i c=>bif Nat.beq k nm then .any else .vpt k j i c
 | .vsub k j l h=>bif Nat.beq k nm then .any else .vsub k j l h
 | .optr k m=>bif Nat.beq k nm then .any else .optr k m
 | .omap k=>bif Nat.beq k nm then .any else .omap k
 | .clo f xs ys=>.clo f (AV.frzAll nm sz n g xs) (AV.frzAll nm sz n g ys)
 | .agg cs=>.agg (AV.frzAll nm sz n g cs)
 | .rpo cs=>.rpo (AV.frzAll nm sz n g cs)
 | .tuple cs=>.tuple (AV.frzAll nm sz n g cs)
 | .cond c x=>.cond c (x.frz nm sz n g)
 | x=>x
def AV.frzAll(nm sz n:Nat)(g:Nat→List AV):List AV→List AV
 | []=>[]
 | x::l=>x.frz nm sz n g::AV.frzAll nm sz n g l
end
mutual
def AV.wholes(nm n:Nat):AV→List Prop
 | .vsl k j=>bif Nat.beq k nm then[j=n] else[]
 | .agg cs=>AV.wholesAll nm n cs
 | .rpo cs=>AV.wholesAll nm n cs
 | .tuple cs=>AV.wholesAll nm n cs
 | .cond _ x=>x.wholes nm n
 | .clo _ xs ys=>AV.wholesAll nm n xs++AV.wholesAll nm n ys
 | _=>[]
def AV.wholesAll(nm n:Nat):List AV→List Prop
 | []=>[]
 | x::l=>x.wholes nm n++AV.wholesAll nm n l
end
mutual
def AV.frw(nm sz n:Nat)(g:Nat→List AV):AV→AV
 | .slice s m f (.own k)=>.slice s m f (bif Qo nm k then .own k else .none)
 | .slice s m f (.fam b i)=>.slice s m f (bif Qo nm b then .fam b i else .none)
 | .ptr k off=>bif Qo nm k then .ptr k off else .any
 | .vsl k j=>bif Qo nm k then .vsl k j else bif Nat.beq j n then .slice sz n g .none else .any
 | .vpt k j i c=>bif Qo nm k then .vpt k j i c else .any
 | .vsub k j l h=>bif Qo nm k then .vsub k j l h else .any
 | .optr k m=>bif Qo nm k then .optr k m else .any
 | .omap k=>bif Qo nm k then .omap k else .any
 | .clo f xs ys=>.clo f (AV.frwAll nm sz n g xs) (AV.frwAll nm sz n g ys)
 | .agg cs=>.agg (AV.frwAll nm sz n g cs)
 | .rpo cs=>.rpo (AV.frwAll nm sz n g cs)
 | .tuple cs=>.tuple (AV.frwAll nm sz n g cs)
 | .cond c x=>.cond c (x.frw nm sz n g)
 | x=>x
def AV.frwAll(nm sz n:Nat)(g:Nat→List AV):List AV→List AV
 | []=>[]
 | x::l=>x.frw nm sz n g::AV.frwAll nm sz n g l
end
theorem Bu(nm sz n:Nat)(g:Nat→List AV)(l:List AV):(AV.frwAll nm sz n g l).length=l.length:=by induction l with|nil=>rfl|cons x l ih=>simp[AV.frwAll,ih]
theorem I6(nm sz n:Nat)(g:Nat→List AV)(l:List AV)(j:Nat):(AV.frwAll nm sz n g l).getD j .any=(l.getD j .any).frw nm sz n g:=by
 induction l generalizing j with
 | nil=>simp[AV.frwAll,AV.frw]
 | cons x l ih=>cases j with
  | zero=>simp[AV.frwAll]
  | succ j=>simpa [AV.frwAll] using ih j
theorem RepV.frw{I:Nat→Nat→Prop}{w:World}{v:Value}{x:AV}(h:RepV I w v x)(nm sz n:Nat)(g:Nat→List AV):RepV I w v (x.frw nm sz n g):=by
 induction h with
 | any v=>exact .any v
 | undef=>exact .undef
 | int k n=>exact .int k n
 | bool b=>exact .bool b
 | str s=>exact .str s
 | clo f=>exact .clo f
 | nxt1 i r=>exact .nxt1 i r
 | nxt0 i r=>exact .nxt0 i r
 | nilq b pos n h=>exact .nilq b pos n h
 | err0=>exact .err0
 | err1 t v=>exact .err1 t v
 | nilp=>exact .nilp
 | nilm=>exact .nilm
 | cond v c x _ h' ih=>exact .cond v c _ ih h'
 | rptr a cells us hs hI' hc h1 hr _=>exact .rptr a cells us hs hI' hc h1 hr
 | slice a n cap sz f us hcap hmax hz hn h1 hl hr _=>exact .slice a n cap sz f us hcap hmax hz hn h1 hl hr
 | agg vs cs hl h1 _ ih=>exact .agg vs _ (by rw[Bu,hl]) (fun j hj=>h1 j (by rwa[Bu]at hj)) (fun j hj=>by rw[I6];exact ih j (by rwa[Bu]at hj))
 | tuple vs cs hl _ ih=>exact .tuple vs _ (by rw[Bu,hl]) (fun j hj=>by rw[I6];exact ih j (by rwa[Bu]at hj))
def Own.frz(nm sz n:Nat)(g:Nat→List AV):Own→Own
 | .row e cells=>.row e (AV.frzAll nm sz n g cells)
 | .arr s e m f=>.arr s e m (fun i=>AV.frwAll nm sz n g (f i))
 | .obj x=>.obj (x.on (AV.frw nm sz n g))
 | .tok s e m=>.tok s e m
def Own.wholes(nm n:Nat):Own→List Prop
 | .row _ cells=>AV.wholesAll nm n cells
 | _=>[]
def St.wholes(st:St)(nm n:Nat):List Prop:=(st.tmps.map fun x=>x.2.wholes nm n).flatten++(st.own.map fun x=>x.2.wholes nm n).flatten
def St.freeze(st:St)(nm sz n:Nat)(e:TypeId)(g:Nat→List AV):St:=
 ⟨st.tmps.map fun x=>(x.1,x.2.frz nm sz n g),st.own.map fun x=>(x.1,bif Nat.beq x.1 nm then .tok sz e n else x.2.frz nm sz n g),st.fam⟩
theorem Bp(nm sz n:Nat)(g:Nat→List AV)(l:List AV):(AV.frzAll nm sz n g l).length=l.length:=by induction l with|nil=>rfl|cons x l ih=>simp[AV.frzAll,ih]
theorem I7(nm sz n:Nat)(g:Nat→List AV)(l:List AV)(j:Nat):(AV.frzAll nm sz n g l).getD j .any=(l.getD j .any).frz nm sz n g:=by
 induction l generalizing j with
 | nil=>simp[AV.frzAll,AV.frz]
 | cons x l ih=>cases j with
  | zero=>simp[AV.frzAll]
  | succ j=>simpa [AV.frzAll] using ih j
theorem Ho{nm n:Nat}{l:List AV}(h:∀ p∈AV.wholesAll nm n l,p)(j:Nat):∀ p∈(l.getD j .any).wholes nm n,p:=by
 induction l generalizing j with
 | nil=>intro p hp;simp[AV.wholes]at hp
 | cons x l ih=>
  simp only[AV.wholesAll]at h
  cases j with
  | zero=>intro p hp;exact h p (List.mem_append.2 (.inl (by simpa using hp)))
  | succ j=>intro p hp;exact ih (fun q hq=>h q (List.mem_append.2 (.inr hq))) j p (by simpa using hp)
theorem RepV.frz{I:Nat→Nat→Prop}{w:World}{v:Value}{x:AV}(h:RepV I w v x)(nm sz n:Nat)(g:Nat→List AV):RepV I w v (x.frz nm sz n g):=by
 induction h with
 | any v=>exact .any v
 | undef=>exact .undef
 | int k n=>exact .int k n
 | bool b=>exact .bool b
 | str s=>exact .str s
 | clo f=>exact .clo f
 | nxt1 i r=>exact .nxt1 i r
 | nxt0 i r=>exact .nxt0 i r
 | nilq b pos n h=>exact .nilq b pos n h
 | err0=>exact .err0
 | err1 t v=>exact .err1 t v
 | nilp=>exact .nilp
 | nilm=>exact .nilm
 | cond v c x _ h' ih=>exact .cond v c _ ih h'
 | rptr a cells us hs hI' hc h1 hr _=>exact .rptr a cells us hs hI' hc h1 hr
 | slice a n cap sz f us hcap hmax hz hn h1 hl hr _=>exact .slice a n cap sz f us hcap hmax hz hn h1 hl hr
 | agg vs cs hl h1 _ ih=>exact .agg vs _ (by rw[Bp,hl]) (fun j hj=>h1 j (by rwa[Bp]at hj)) (fun j hj=>by rw[I7];exact ih j (by rwa[Bp]at hj))
 | tuple vs cs hl _ ih=>exact .tuple vs _ (by rw[Bp,hl]) (fun j hj=>by rw[I7];exact ih j (by rwa[Bp]at hj))
theorem Rep.frz{I I':Nat→Nat→Prop}{own own':Nat→Option Own}{θ:Nat→Option (Nat×Nat)}{w:World}{v:Value}{x:AV}{nm sz n:Nat}{g:Nat→List AV}(h:Rep I own θ w v x)(hp:∀ p∈x.wholes nm n,p)(hI:∀ b o,I b o→I' b o)
  (ho:∀ k o,own k=some o→Nat.beq k nm=false→own' k=some (o.frz nm sz n g)) (hk:∀ v,Rep I own θ w v (.vsl nm n)→Rep I' own' θ w v (.slice sz n g (.own nm))) (hlt':∀ b i,Nat.beq (Iu b i) nm=false):Rep I' own' θ w v (x.frz nm sz n g):=by
 induction h with
 | val v x h=>exact .val _ _ ((h.frz nm sz n g).mono hI (fun _ _ _=>rfl))
 | exact a n sz f h=>exact .exact a n sz f (h.mono hI (fun _ _ _=>rfl))
 | own k sz e m a n cap f hn hm hv h=>
  simp only[AV.frz]
  cases hb:Nat.beq k nm with
  | true=>exact .val _ _ (h.mono hI (fun _ _ _=>rfl))
  | false=>exact .own k sz e m a n cap f (ho k _ hn hb) hm hv (h.mono hI (fun _ _ _=>rfl))
 | fam b i sz e m a n cap f hi hn hm hv h=>
  exact .fam b i sz e m a n cap f hi (ho _ _ hn (hlt' b i)) hm hv (h.mono hI (fun _ _ _=>rfl))
 | ptr k off e0 cells g c hn hg=>
  simp only[AV.frz]
  cases hb:Nat.beq k nm with
  | true=>exact .val _ _ (.any _)
  | false=>exact .ptr k off e0 _ g c (ho k _ hn hb) hg
 | vsl k s2 e m f a j cap hn hm hcap hmax hnn hv=>
  simp only[AV.frz]
  cases hb:Nat.beq k nm with
  | true=>
   obtain rfl:=Nat.eq_of_beq_eq_true hb;obtain rfl:j=n:=hp _ (by simp[AV.wholes]);exact hk _ (.vsl k s2 e m f a j cap hn hm hcap hmax hnn hv)
  | false=>exact .vsl k s2 e m _ a j cap (ho k _ hn hb) hm hcap hmax hnn hv
 | vpt k s2 e m f j i c ad hn hm hi hv=>
  simp only[AV.frz]
  cases hb:Nat.beq k nm with
  | true=>exact .val _ _ (.any _)
  | false=>exact .vpt k s2 e m _ j i c ad (ho k _ hn hb) hm hi hv
 | clo f fs cs xs ys hl hl' _ _ ih ih'=>
  simp only[AV.wholes,List.mem_append]at hp;exact .clo f fs cs _ _ (by rw[Bp,hl]) (by rw[Bp,hl']) (fun j hj=>by rw[I7];exact ih j (by rwa[Bp]at hj) (Ho (fun p h=>hp p (.inl h)) j)) (fun j hj=>by rw[I7];exact ih' j (by rwa[Bp]at hj) (Ho (fun p h=>hp p (.inr h)) j))
 | vsub k s2 e m f j lo hi a cap hn hm hlo hhi hcap hmax hnn hv=>
  simp only[AV.frz]
  cases hb:Nat.beq k nm with
  | true=>exact .val _ _ (.any _)
  | false=>exact .vsub k s2 e m _ j lo hi a cap (ho k _ hn hb) hm hlo hhi hcap hmax hnn hv
 | optr k mm x g c hn hg=>
  simp only[AV.frz]
  cases hb:Nat.beq k nm with
  | true=>exact .val _ _ (.any _)
  | false=>exact .optr k _ _ g c (ho k _ hn hb) hg
 | omap k x hn=>
  simp only[AV.frz]
  cases hb:Nat.beq k nm with
  | true=>exact .val _ _ (.any _)
  | false=>exact .omap k _ (ho k _ hn hb)
 | cond v c x _ h' ih=>exact .cond v c _ (fun hc=>ih hc (by simpa [AV.wholes] using hp)) h'
 | agg vs cs hl h1 _ ih=>exact .agg vs _ (by rw[Bp,hl]) (fun j hj=>h1 j (by rwa[Bp]at hj)) (fun j hj=>by rw[I7];exact ih j (by rwa[Bp]at hj) (Ho (by simpa [AV.wholes] using hp) j))
 | rpo a cells us hs hI' hc h1 _ ih=>exact .rpo a _ us hs (fun j hj=>hI _ _ (hI' j (by rwa[Bp]at hj))) (fun j hj=>hc j (by rwa[Bp]at hj)) (fun j hj=>h1 j (by rwa[Bp]at hj)) (fun j hj=>by rw[I7];exact ih j (by rwa[Bp]at hj) (Ho (by simpa [AV.wholes] using hp) j))
 | tuple vs cs hl _ ih=>exact .tuple vs _ (by rw[Bp,hl]) (fun j hj=>by rw[I7];exact ih j (by rwa[Bp]at hj) (Ho (by simpa [AV.wholes] using hp) j))
theorem X1{α β:Type}(l:List (Nat×α))(g:Nat→α→β)(k:Nat):Ad (l.map fun x=>(x.1,g x.1 x.2)) k=(Ad l k).map (g k):=by
 induction l with
 | nil=>rfl
 | cons x l ih=>
  obtain⟨a,b⟩:=x;simp only[List.map_cons,Ad]
  cases hb:Nat.beq a k with
  | true=>have:=Nat.eq_of_beq_eq_true hb;subst this;simp
  | false=>simpa using ih
theorem memW{α β:Type}{l:List (Nat×α)}{g:α→List β}{k:Nat}{x:α}(h:Ad l k=some x){p:β}(hp:p∈g x):p∈(l.map fun y=>g y.2).flatten:=
 List.mem_flatten.2 ⟨g x,List.mem_map.2 ⟨(k,x),F0 h,rfl⟩,hp⟩
theorem Ep{st:St}{nm sz n:Nat}{e:TypeId}{f g:Nat→List AV}(ho:Ad st.own nm=some (.arr sz e n f))(hwh:Aab (st.wholes nm n))(hf:∀ i,i<n→AV.stripAll (f i)=g i)(h0:Γ.own0 nm=none)(hlt:Nat.blt nm A9=true:=by rfl) :
  Le Γ st (st.freeze nm sz n e g):=by
 intro I θ a w h;have hall:=Xq hwh
 have hlt:nm<A9:=by simpa [Nat.blt_eq] using hlt
 have ho:st.sto.own nm=some (.arr sz e n f):=(Ax hlt).trans ho
 have hown':(st.freeze nm sz n e g).sto.own=fun k=>(st.sto.own k).map fun o=>bif Nat.beq k nm then Own.tok sz e n else o.frz nm sz n g:=by
  funext k
  by_cases hk:k<A9
  ·show Br _ _ k=(Br _ _ k).map _
   rw[Ax hk,Ax hk];exact X1 st.own (fun k o=>bif Nat.beq k nm then Own.tok sz e n else o.frz nm sz n g) k
  ·have hb:Nat.beq k nm=false:=by cases hb:Nat.beq k nm with|false=>rfl|true=>exact absurd (Nat.eq_of_beq_eq_true hb) (by rintro rfl;exact hk hlt)
   show Br _ _ k=(Br _ _ k).map _
   rw[Bt hk,Bt hk,hb]
   show(Ad st.fam (k / A9-1)).bind _=_
   cases Ad st.fam (k / A9-1) with
   | none=>rfl
   | some F=>simp only[Option.bind_some,Option.map_map];cases F.m (k % A9)<;>rfl
 have hnm:(st.freeze nm sz n e g).sto.own nm=some (.tok sz e n):=by rw[hown'];simp[ho]
 have hne:∀ k,k≠nm→(st.freeze nm sz n e g).sto.own k=(st.sto.own k).map (Own.frz nm sz n g):=fun k hk=>by
  have:Nat.beq k nm=false:=by cases hb:Nat.beq k nm with|false=>rfl|true=>exact absurd (Nat.eq_of_beq_eq_true hb) hk
  rw[hown'];simp[this]
 have hkeep:∀ k o,st.sto.own k=some o→Nat.beq k nm=false→(st.freeze nm sz n e g).sto.own k=some (o.frz nm sz n g):=fun k o hk hb=>by
  have:k≠nm:=by rintro rfl;simp at hb
  rw[hne k this];rw[hk];rfl
 have hback:∀ k,k≠nm→∀ o',(st.freeze nm sz n e g).sto.own k=some o'→∃ o,st.sto.own k=some o∧o'=o.frz nm sz n g:=fun k hk o' ho'=>by
  rw[hne k hk]at ho';obtain⟨o,h1,h2⟩:=Option.map_eq_some_iff.1 ho';exact⟨o,h1,h2.symm⟩
 have hnone:∀ k,(st.freeze nm sz n e g).sto.own k≠none→st.sto.own k≠none:=fun k hk=>by
  by_cases hkn:k=nm
  ·subst hkn;simp[ho]
  ·cases hx:(st.freeze nm sz n e g).sto.own k with
   | none=>exact(hk hx).elim
   | some o'=>obtain⟨o,h1,_⟩:=hback k hkn o' hx;simp[h1]
 have hrel:=h.chg.rel;obtain⟨q0,q1⟩:=hrel.arr nm sz e n f ho
 let I':Nat→Nat→Prop:=fun b o=>I b o∨((∃ c,θ nm=some (b,c))∧o<n*sz)
 have hII:∀ b o,I b o→I' b o:=fun _ _ h=>.inl h
 have hkey:∀ v,Rep I st.sto.own θ w v (.vsl nm n)→Rep I' (st.freeze nm sz n e g).sto.own θ w v (.slice sz n g (.own nm)):=fun v hs=>by
  obtain⟨sz',e',m,f2,ad,cap,hval,ho',hmm,hcap,hmax,hnn,hvv⟩:=hs.vsl_inv;have ho'':st.sto.own nm=some (.arr sz' e' m f2):=ho';rw[ho]at ho'';simp only[Option.some.injEq,Own.arr.injEq]at ho'';obtain⟨rfl,rfl,rfl,rfl⟩:=ho'';have hvv:=hvv rfl;rw[hval];refine .own nm sz e n ad n cap g hnm (Nat.le_refl _) (fun _=>hvv) ?_
  cases hθ:θ nm with
  | none=>
   have hn0:=q0 hθ;subst hn0;exact .slice ad 0 cap sz g (fun _=>undef) hcap hmax (fun h=>by omega) hnn (fun j hj=>by omega) (fun i hi=>by omega) (fun i c hi=>by omega)
  | some gc=>
   obtain⟨b,c⟩:=gc;rw[hθ]at hvv;simp only at hvv;obtain⟨rfl,rfl⟩:=hvv;obtain⟨cur,r1,r2,r3,r4,r5,r6,r7⟩:=q1 b cap hθ
   have hcell:∀ j,j<n*sz→w.cell? ⟨b,j,none⟩=some (cur.getD j undef):=fun j hj=>by
    have:n*sz≤cap*sz:=Nat.mul_le_mul_right _ r2;rw[cell_of_row w b j cur e (0,0) r1];exact Fz (by omega)
   refine .slice _ n cap sz g (fun j=>cur.getD j undef) hcap hmax (fun _=>⟨⟨b,0,none⟩,rfl,rfl,fun j hj=>.inr ⟨⟨cap,hθ⟩,by simpa using hj⟩,fun j hj=>by simpa using hcell j hj⟩) (by simp) (fun j hj=>?_) (fun i hi=>?_) (fun i k hi hk=>?_)
   ·have hs:0<sz:=by
     rcases Nat.eq_zero_or_pos sz with h0|h0
     ·rw[h0]at hj;omega
     ·exact h0
    have e2:j / sz*sz+j % sz=j:=by rw[Nat.mul_comm];exact Nat.div_add_mod j sz
    have:=(r6 (j / sz) (j % sz) (by rw[Nat.div_lt_iff_lt_mul hs];exact hj) (Nat.mod_lt _ hs)).1;rwa[e2]at this
   ·rw[← hf i hi,Bc];exact r5 i hi
   ·rw[← hf i hi,C7];exact((r6 i k hi hk).2.strip).mono hII (fun _ _ _=>rfl)
 have hlt':∀ b i,Nat.beq (Iu b i) nm=false:=fun b i=>by cases hb:Nat.beq (Iu b i) nm with|false=>rfl|true=>exact absurd (Nat.eq_of_beq_eq_true hb) (by rintro rfl;exact Gx b i hlt)
 have hcast:∀ v x,Rep I st.sto.own θ w v x→(∀ p∈x.wholes nm n,p)→Rep I' (st.freeze nm sz n e g).sto.own θ w v (x.frz nm sz n g):=fun v x hx hp=>hx.frz hp hII hkeep hkey hlt'
 have hfar:∀ k b c,k≠nm→st.sto.own k≠none→θ k=some (b,c)→∀ j,I' b j→I b j:=fun k b c hk hk' hg j hj=>by
  rcases hj with hj|⟨⟨c',hc'⟩,_⟩
  ·exact hj
  ·exact(hk (hrel.inj k nm b c c' hk' (by simp[ho]) hg hc')).elim
 have hcast2:∀ v x,Rep I st.sto.own θ w v x→Rep I' (st.freeze nm sz n e g).sto.own θ w v (x.frw nm sz n g):=fun v x hx=>by
  have key:∀{v:Value} {x:AV},Rep I st.sto.own θ w v x→Rep I' (st.freeze nm sz n e g).sto.own θ w v (x.frw nm sz n g):=by
   intro v x h
   induction h with
   | val v x h=>exact .val _ _ ((h.frw nm sz n g).mono hII (fun _ _ _=>rfl))
   | exact a n sz f h=>exact .exact a n sz f (h.mono hII (fun _ _ _=>rfl))
   | own k sz e m a n cap f hn hm hv h=>
    simp only[AV.frw,Qo]
    cases hb:Nat.beq k nm with
    | true=>exact .val _ _ (h.mono hII (fun _ _ _=>rfl))
    | false=>exact .own k sz e m a n cap f (hkeep k _ hn hb) hm hv (h.mono hII (fun _ _ _=>rfl))
   | fam b i sz e m a n cap f hi hn hm hv h=>
    simp only[AV.frw,Qo]
    cases hb:Nat.beq b nm with
    | true=>exact .val _ _ (h.mono hII (fun _ _ _=>rfl))
    | false=>exact .fam b i sz e m a n cap f hi (hkeep _ _ hn (hlt' b i)) hm hv (h.mono hII (fun _ _ _=>rfl))
   | ptr k off e0 cells g c hn hg=>
    simp only[AV.frw,Qo]
    cases hb:Nat.beq k nm with
    | true=>exact .val _ _ (.any _)
    | false=>exact .ptr k off e0 _ g c (hkeep k _ hn hb) hg
   | vsl k s2 e m f a j cap hn hm hcap hmax hnn hv=>
    simp only[AV.frw,Qo]
    cases hb:Nat.beq k nm with
    | true=>
     simp only[Bool.not_true,cond_false]
     cases hj:Nat.beq j n with
     | false=>exact .val _ _ (.any _)
     | true=>
      obtain rfl:=Nat.eq_of_beq_eq_true hb;obtain rfl:=Nat.eq_of_beq_eq_true hj;exact .val _ _ (hkey _ (.vsl k s2 e m f a j cap hn hm hcap hmax hnn hv)).slice_val
    | false=>exact .vsl k s2 e m _ a j cap (hkeep k _ hn hb) hm hcap hmax hnn hv
   | vpt k s2 e m f j i c ad hn hm hi hv=>
    simp only[AV.frw,Qo]
    cases hb:Nat.beq k nm with
    | true=>exact .val _ _ (.any _)
    | false=>exact .vpt k s2 e m _ j i c ad (hkeep k _ hn hb) hm hi hv
   | clo f fs cs xs ys hl hl' _ _ ih ih'=>exact .clo f fs cs _ _ (by rw[Bu,hl]) (by rw[Bu,hl']) (fun j hj=>by rw[I6];exact ih j (by rwa[Bu]at hj)) (fun j hj=>by rw[I6];exact ih' j (by rwa[Bu]at hj))
   | vsub k s2 e m f j lo hi a cap hn hm hlo hhi hcap hmax hnn hv=>
    simp only[AV.frw,Qo]
    cases hb:Nat.beq k nm with
    | true=>exact .val _ _ (.any _)
    | false=>exact .vsub k s2 e m _ j lo hi a cap (hkeep k _ hn hb) hm hlo hhi hcap hmax hnn hv
   | optr k mm x g c hn hg=>
    simp only[AV.frw,Qo]
    cases hb:Nat.beq k nm with
    | true=>exact .val _ _ (.any _)
    | false=>exact .optr k _ _ g c (hkeep k _ hn hb) hg
   | omap k x hn=>
    simp only[AV.frw,Qo]
    cases hb:Nat.beq k nm with
    | true=>exact .val _ _ (.any _)
    | false=>exact .omap k _ (hkeep k _ hn hb)
   | cond v c x _ h' ih=>exact .cond v c _ ih h'
   | agg vs cs hl h1 _ ih=>exact .agg vs _ (by rw[Bu,hl]) (fun j hj=>h1 j (by rwa[Bu]at hj)) (fun j hj=>by rw[I6];exact ih j (by rwa[Bu]at hj))
   | rpo a cells us hs hI' hc h1 _ ih=>exact .rpo a _ us hs (fun j hj=>.inl (hI' j (by rwa[Bu]at hj))) (fun j hj=>hc j (by rwa[Bu]at hj)) (fun j hj=>h1 j (by rwa[Bu]at hj)) (fun j hj=>by rw[I6];exact ih j (by rwa[Bu]at hj))
   | tuple vs cs hl _ ih=>exact .tuple vs _ (by rw[Bu,hl]) (fun j hj=>by rw[I6];exact ih j (by rwa[Bu]at hj))
  exact key hx
 refine⟨I',θ,h.size,h.defers,fun t=>?_,?_⟩
 ·have hslot:(st.freeze nm sz n e g).sto.tmp t=match Ad st.tmps t with|some x=>x.frz nm sz n g|none=>.any:=by
   show(match Ad (st.tmps.map fun x=>(x.1,x.2.frz nm sz n g)) t with|some x=>x|none=>.any)=_
   rw[X1 st.tmps (fun _ x=>x.frz nm sz n g) t]
   cases Ad st.tmps t<;>rfl
  rw[hslot];have hs:=h.slots t
  have hget:st.sto.tmp t=match Ad st.tmps t with|some x=>x|none=>.any:=rfl
  cases hl:Ad st.tmps t with
  | none=>exact .val _ _ (.any _)
  | some x=>
   rw[hget,hl]at hs;exact hcast _ _ hs (fun p hp=>hall p (List.mem_append.2 (.inl (memW (g:=fun x=>x.wholes nm n) hl hp))))
 ·refine{ h.chg with imm:=fun b o hi=>.inl (h.chg.imm b o hi),le:=fun k o hk=>?_,rel:=⟨fun k e0 cells hk=>?_,fun k s2 e2 m hk b c hg=>?_,fun k k' b c c' hk hk'=>?_,fun k s2 e2 m f2 hk=>?_,fun k x hk=>?_,fun k s2 m hk hnn=>?_⟩,valid:=fun b o hi=>?_,new:=fun k b c hk hg=>?_,immNew:=fun b o hi=>?_ }
  ·obtain⟨o',ho',hl⟩:=h.chg.le k o hk
   have hkn:k≠nm:=by rintro rfl;rw[h0]at hk;cases hk
   have hkb:Nat.beq k nm=false:=by cases hb:Nat.beq k nm with|false=>rfl|true=>exact absurd (Nat.eq_of_beq_eq_true hb) hkn
   refine⟨_,hkeep k o' ho' hkb,?_⟩
   cases o<;>cases o'<;>first|exact hl|exact hl.elim
  rotate_left 4
  ·have hkn:k≠nm:=by rintro rfl;rw[hnm]at hk;cases hk
   obtain⟨o,h1,h2⟩:=hback k hkn _ hk
   cases o with
   | row=>simp[Own.frz]at h2
   | tok=>simp[Own.frz]at h2
   | arr=>simp[Own.frz]at h2
   | obj x'=>
    simp only[Own.frz,Own.obj.injEq]at h2;subst h2;exact Fb (hrel.obj k _ h1) rfl (fun _ _ _=>rfl) (fun b c j hg hj=>hfar k b c hkn (by simp[h1]) hg j hj) (fun _ hh=>hh.on _ hII (fun _ _ _=>rfl) fun v y hv=>hcast2 _ _ hv) V2
  ·by_cases hkn:k=nm
   ·subst hkn;rw[hnm]at hk;simp only[Option.some.injEq,Own.tok.injEq]at hk;obtain⟨rfl,_,rfl⟩:=hk;exact q0 hnn
   ·obtain⟨o,h1,h2⟩:=hback k hkn _ hk
    cases o with
    | row=>simp[Own.frz]at h2
    | arr=>simp[Own.frz]at h2
    | obj=>simp[Own.frz]at h2
    | tok=>
     simp only[Own.frz,Own.tok.injEq]at h2;obtain⟨rfl,rfl,rfl⟩:=h2;exact hrel.tok8 k _ _ h1 hnn
  rotate_left 3
  ·have hkn:k≠nm:=by rintro rfl;rw[hnm]at hk;cases hk
   obtain⟨o,h1,h2⟩:=hback k hkn _ hk
   cases o with
   | tok=>simp[Own.frz]at h2
   | arr=>simp[Own.frz]at h2
   | obj=>simp[Own.frz]at h2
   | row e' cs=>
    simp only[Own.frz,Own.row.injEq]at h2;obtain⟨rfl,rfl⟩:=h2;obtain⟨b,c,vs,r1,r2,r3,r4,r5,r6⟩:=hrel.row k _ cs h1;refine⟨b,c,vs,r1,r2,by rw[Bp];exact r3,fun j hj=>r4 j (by rwa[Bp]at hj),fun j hj=>?_,fun j hj=>r6 j (hfar k b c hkn (by simp[h1]) r1 j hj)⟩;rw[I7];refine hcast _ _ (r5 j (by rwa[Bp]at hj)) (Ho (fun p hp=>hall p (List.mem_append.2 (.inr (memW (g:=fun x=>x.wholes nm n) (famOwn_look h1 (fun _ _ _ h=>by cases h)) (by simpa [Own.wholes] using hp))))) j)
  ·by_cases hkn:k=nm
   ·subst hkn;rw[hnm]at hk;simp only[Option.some.injEq,Own.tok.injEq]at hk;obtain⟨rfl,rfl,rfl⟩:=hk;obtain⟨cur,r1,r2,r3,r4,r5,r6,r7⟩:=q1 b c hg;refine⟨cur,0,r1,r2,r3,r4,Nat.zero_le _,fun j hj=>?_⟩;rcases hj with hj|⟨_,hj⟩
    ·exact(r7 j hj).elim
    ·exact hj
   ·obtain⟨o,h1,h2⟩:=hback k hkn _ hk
    cases o with
    | row=>simp[Own.frz]at h2
    | arr=>simp[Own.frz]at h2
    | obj=>simp[Own.frz]at h2
    | tok=>
     simp only[Own.frz,Own.tok.injEq]at h2;obtain⟨rfl,rfl,rfl⟩:=h2;obtain⟨cur,fz,r1,r2,r3,r4,r5',r5⟩:=hrel.tok k _ _ _ h1 b c hg;exact⟨cur,fz,r1,r2,r3,r4,r5',fun j hj=>r5 j (hfar k b c hkn (by simp[h1]) hg j hj)⟩
  ·exact hrel.inj k k' b c c' (hnone k hk) (hnone k' hk')
  ·have hkn:k≠nm:=by rintro rfl;rw[hnm]at hk;cases hk
   obtain⟨o,h1,h2⟩:=hback k hkn _ hk
   cases o with
   | row=>simp[Own.frz]at h2
   | tok=>simp[Own.frz]at h2
   | obj=>simp[Own.frz]at h2
   | arr s3 e3 m3 f3=>
    simp only[Own.frz,Own.arr.injEq]at h2;obtain⟨rfl,rfl,rfl,rfl⟩:=h2;exact Hr (hrel.arr k _ _ _ _ h1) rfl (fun _ _ _=>rfl) (fun b c j hg hj=>hfar k b c hkn (by simp[h1]) hg j hj) (fun i _=>Bu _ _ _ _ _) (fun v i j _ _ hv=>by rw[I6];exact hcast2 _ _ hv)
  ·rcases hi with hi|⟨⟨c,hc⟩,hj⟩
   ·exact h.chg.valid b o hi
   ·obtain⟨cur,r1,r2,r3,r4,r5,r6,r7⟩:=q1 b c hc;have:n*sz≤c*sz:=Nat.mul_le_mul_right _ r2;exact⟨cur.getD o undef,by rw[cell_of_row w b o cur e (0,0) r1];exact Fz (by omega)⟩
  ·exact h.chg.new k b c (hnone k hk) hg
  ·rcases hi with hi|⟨⟨c,hc⟩,_⟩
   ·exact h.chg.immNew b o hi
   ·exact .inr (h.chg.new nm b c (by simp[ho]) hc)
end
section
variable {α:Type} {e:α→List AV} {d:α}
theorem D1{f:Nat→List AV}{l:List α}{i j:Nat}{cs:List AV}{x:α}(hf:∀ k,k<l.length→f k=e (l.getD k d))(hi:i<l.length)(hx:(e (l.getD i d)).take j++cs++(e (l.getD i d)).drop (j+cs.length)=e x) :
  ∀ k,k<(l.set i x).length→Fs f i j cs k=e ((l.set i x).getD k d):=by
 intro k hk;rw[List.length_set]at hk
 by_cases h:k=i
 ·subst h;rw[Qj,hf k hk,hx];simp[List.getD,hk]
 ·rw[Qi f cs h,hf k hk];simp[List.getD,Ne.symm h]
def Zk{α:Type}(l:List α)(lo k:Nat)(s:Nat→α):List α:=l.mapIdx fun i x=>if lo≤i∧i<lo+k then s (i-lo) else x
theorem C0(l:List α)(lo k:Nat)(s:Nat→α):l.length=(Zk l lo k s).length:=by simp[Zk]
theorem cpL_getD(l:List α)(lo k:Nat)(s:Nat→α)(i:Nat)(d:α)(h:i<l.length):(Zk l lo k s).getD i d=if lo≤i∧i<lo+k then s (i-lo) else l.getD i d:=by
 simp[Zk,List.getD,h]
theorem P9{f g:Nat→List AV}{l:List α}{s:Nat→α}{lo k:Nat}(hf:∀ i,i<l.length→f i=e (l.getD i d))(hg:∀ i,i<k→g i=e (s i)):∀ i,i<(Zk l lo k s).length→cpF f lo k g i=e ((Zk l lo k s).getD i d):=by
 intro i hi;rw[← C0]at hi;rw[cpL_getD _ _ _ _ _ _ hi]
 by_cases h:lo≤i∧i<lo+k
 ·rw[cpF_in f g h,if_pos h,hg _ (by omega)]
 ·rw[Sc f g h,if_neg h,hf i hi]
theorem Nu(keep:Nat→Bool)(l m:List AV):AV.eraseAll keep (l++m)=AV.eraseAll keep l++AV.eraseAll keep m:=by induction l with|nil=>rfl|cons x l ih=>simp[AV.eraseAll,ih]
theorem Wv(keep:Nat→Bool)(l:List AV)(n:Nat):AV.eraseAll keep (l.take n)=(AV.eraseAll keep l).take n:=by
 induction l generalizing n with
 | nil=>simp[AV.eraseAll]
 | cons x l ih=>cases n with
  | zero=>simp[AV.eraseAll]
  | succ n=>simp[AV.eraseAll,ih]
theorem Wu(keep:Nat→Bool)(l:List AV)(n:Nat):AV.eraseAll keep (l.drop n)=(AV.eraseAll keep l).drop n:=by
 induction l generalizing n with
 | nil=>simp[AV.eraseAll]
 | cons x l ih=>cases n with
  | zero=>simp
  | succ n=>simpa [AV.eraseAll] using ih n
theorem V8{keep:Nat→Bool}{f:Nat→List AV}{l:List α}{i j:Nat}{cs:List AV}{x:α}(hf:∀ k,k<l.length→f k=e (l.getD k d))(he:∀ a,AV.eraseAll keep (e a)=e a)(hi:i<l.length)(hx:(e (l.getD i d)).take j++AV.eraseAll keep cs++(e (l.getD i d)).drop (j+cs.length)=e x) :
  ∀ k,k<(l.set i x).length→AV.eraseAll keep (Fs f i j cs k)=e ((l.set i x).getD k d):=by
 intro k hk;rw[List.length_set]at hk
 by_cases h:k=i
 ·subst h;rw[Qj,Nu,Nu,Wv,Wu,hf k hk,he,hx];simp[List.getD,hk]
 ·rw[Qi f cs h,hf k hk,he];simp[List.getD,Ne.symm h]
theorem R7{f f':Nat→List AV}{l m:List α}(hf:∀ k,k<l.length→f k=e (l.getD k d))(hf':∀ k,k<m.length→f' k=e (m.getD k d)):∀ k,k<(l++m).length→G0 l.length f f' k=e ((l++m).getD k d):=by
 intro k hk;rw[List.length_append]at hk;rw[← app_get (e:=e) (d:=d) l m k hk]
 by_cases h:k<l.length
 ·rw[Hq _ _ h,Hq _ _ h,hf k h]
 ·rw[Lb _ _ (by omega),Lb _ _ (by omega),hf' _ (by omega)]
theorem H5{z:List AV}(h:AVleL z (e d))(n:Nat):∀ k,k<(List.replicate n d).length→AVleL z (e ((List.replicate n d).getD k d)):=fun k hk=>by
 have:(List.replicate n d).getD k d=d:=by simp at hk;simp[List.getD,hk]
 rw[this];exact h
theorem A6{f g:Nat→List AV}{n m:Nat}(hn:n=m)(h:∀ k,k<m→f k=g k):∀ k,k<n→AVleL (f k) (g k):=fun k hk=>by rw[h k (by omega)];exact .refl _
end
section
variable {α:Type} {e:α→List AV} {d:α}
end
noncomputable instance (n:Nat)(f:Nat→List AV):Decidable (ByteF n f):=Classical.propDecidable _
theorem nl{a b:Nat}(h:Nat.ble a b=true):a≤b:=Nat.le_of_ble_eq_true h
theorem gT{c:Bool}(h:c=true):(c==true)=true:=by rw[h];rfl
theorem gF{c:Bool}(h:c=false):(c==false)=true:=by rw[h];rfl
theorem Ed{α:Type}{i:Int}{l:List α}(h:A5 i l.length):i.toNat<l.length:=by unfold A5 at h;omega
theorem inB_lt1{α:Type}{i:Int}{l:List α}{a:Nat}{x:α}(h:A5 i l.length):i.toNat<(l.set a x).length:=by rw[List.length_set];exact Ed h
theorem H6{α:Type}{d:α}{n k:Nat}(h:k<n):k<(List.replicate n d).length:=by rw[List.length_replicate];exact h
def Ox{α:Type}(N:Nat)(d:α)(l:List α)(i:Nat)(x:α):List α:=(List.range N).map fun j=>bif Nat.beq j i then x else l.getD j d
theorem setN_getD{α:Type}{N:Nat}{d:α}{l:List α}{i:Nat}{x:α}{k:Nat}(hk:k<N):(Ox N d l i x).getD k d=bif Nat.beq k i then x else l.getD k d:=by
 unfold Ox;rw[List.getD,List.getElem?_map,List.getElem?_range hk]
 rfl
theorem Ml{α:Type}{e:α→List AV}{d:α}{f:Nat→List AV}{l:List α}{N i j:Nat}{cs:List AV}{x:α}(hf:∀ k,k<N→f k=e (l.getD k d))(hi:i<N)(hx:(e (l.getD i d)).take j++cs++(e (l.getD i d)).drop (j+cs.length)=e x) :
  ∀ k,k<N→Fs f i j cs k=e ((Ox N d l i x).getD k d):=by
 intro k hk;rw[setN_getD hk];unfold Fs
 cases hb:Nat.beq k i with
 | true=>
  obtain rfl:=Nat.eq_of_beq_eq_true hb;rw[cond_true,cond_true,hf k hk];exact hx
 | false=>rw[cond_false,cond_false,hf k hk]
theorem Li{i:Int}{N:Nat}(h:A5 i N):i.toNat<N:=by unfold A5 at h;omega
theorem flat_rep{α:Type}(z:List α)(sz:Nat)(hz:z.length=sz):∀(N k:Nat),k<N→(((List.replicate N z).flatten).drop (k*sz)).take sz=z
 | 0,k,h=>by omega
 | N+1,0,h=>by
  rw[List.replicate_succ,List.flatten_cons,Nat.zero_mul,List.drop_zero,List.take_append_of_le_length (by omega),List.take_of_length_le (by omega)]
 | N+1,k+1,h=>by
  rw[List.replicate_succ,List.flatten_cons,show(k+1)*sz=z.length+k*sz by rw[Nat.add_mul,hz];omega,List.drop_append,List.drop_eq_nil_of_le (by omega),List.nil_append,Nat.add_sub_cancel_left];exact flat_rep z sz hz N k (by omega)
def Ir{α:Type}(sz:Nat)(e:α→List AV)(d:α)(L:List (List α))(t:Nat→Tag):Nat→List AV:=fun j=>[AV.list sz e d (L.getD j []) (t j)]
def Dk(b i k j:Nat):Tag:=bif Nat.beq j i then .own k else .fam b j
def Jg{α:Type}(L:List (List α)):Nat→Option Nat:=fun j=>if j<L.length then some (L.getD j []).length else none
def Sg{α:Type}(L:List (List α))(i:Nat):Nat→Option Nat:=fun j=>if j=i then none else Jg L j
mutual
def AV.free(p:Tag→Bool):AV→Bool
 | .slice _ _ _ t=>p t
 | .clo _ xs ys=>AV.freeAll p xs&&AV.freeAll p ys
 | .agg cs=>AV.freeAll p cs
 | .rpo cs=>AV.freeAll p cs
 | .tuple cs=>AV.freeAll p cs
 | .cond _ x=>x.free p
 | _=>true
def AV.freeAll(p:Tag→Bool):List AV→Bool
 | []=>true
 | x::l=>x.free p&&AV.freeAll p l
end
theorem E6{p:Tag→Bool}{l:List AV}(h:AV.freeAll p l=true)(j:Nat):(l.getD j .any).free p=true:=by
 induction l generalizing j with
 | nil=>simp[AV.free]
 | cons x l ih=>
  simp only[AV.freeAll,Bool.and_eq_true]at h
  cases j with
  | zero=>simpa using h.1
  | succ j=>simpa using ih h.2 j
def AObj.Al(P:AV→Prop):AObj→Prop
 | .iter _ _=>True
 | .map _ _ _=>True
 | .pmap _ _ _=>True
 | .miter m _ _=>P m
 | .tab _ l=>∀ i,i<l.length→P (l.getD i (0,.any)).2
theorem AObj.Al.imp{P Q:AV→Prop}{x:AObj}(h:x.Al P)(k:∀ y,P y→Q y):x.Al Q:=by
 cases x with
 | iter=>trivial
 | map=>trivial
 | pmap=>trivial
 | miter=>exact k _ h
 | tab=>exact fun i hi=>k _ (h i hi)
theorem ObjR.al{P:AV→Prop}{I I':Nat→Nat→Prop}{own own':Nat→Option Own}{θ θ':Nat→Option (Nat×Nat)}{w w':World}{o:Obj}{x:AObj}(h:ObjR I own θ w o x)(hx:x.Al P)(hI:∀ b o,I b o→I' b o)(hw:∀ b o,I b o→w'.cell? ⟨b,o,none⟩=w.cell? ⟨b,o,none⟩)(hf:∀ v y,P y→Rep I own θ w v y→Rep I' own' θ' w' v y):ObjR I' own' θ' w' o x:=by
 cases h with
 | iter s p=>exact .iter s p
 | map es nn k l hs hr=>
  refine .map es nn k l hs fun i hi=>?_;obtain⟨v,h1,h2,h3⟩:=hr i hi;exact⟨v,h1,h2.mono hI hw,h3⟩
 | pmap es nn k l0 l hp hk hs hr=>
  refine .pmap es nn k l0 l hp hk hs fun i hi=>?_;obtain⟨v,h1,h2,h3⟩:=hr i hi;exact⟨v,h1,h2.mono hI hw,h3⟩
 | miter r m n c seen hc hr=>exact .miter r m n c seen hc (hf _ _ hx hr)
 | tab es k l hs hr=>exact .tab es k l hs fun i hi=>by obtain⟨v,h1,h2⟩:=hr i hi;exact⟨v,h1,hf _ _ (hx i hi) h2⟩
def X7(b:Nat):Tag→Bool
 | .fam b' _=>!Nat.beq b' b
 | .own nm=>Nat.blt nm A9
 | _=>true
def noOwn(k:Nat):Tag→Bool
 | .own k'=>!Nat.beq k' k
 | _=>true
def Fr(q:Nat)(x:AV):Prop:=∀(I:Nat→Nat→Prop) (own own':Nat→Option Own) (θ θ':Nat→Option (Nat×Nat)) (w:World) (v:Value),(∃ sz e m,own q=some (.tok sz e m))→
 (∀ nm o,nm≠q→own nm=some o→∃ o',own' nm=some o'∧OwnLe o (θ nm) o' (θ' nm))→Rep I own θ w v x→Rep I own' θ' w v x
theorem fr_of{q:Nat}{p:Tag→Bool}(hp:∀ nm,p (.own nm)=true→nm≠q)(hf:∀ b i,i<A9→p (.fam b i)=true→Iu b i≠q){x:AV}(hx:x.free p=true):Fr q x:=by
 intro I own own' θ θ' w v hq ho h;obtain⟨s0,e0,m0,hq⟩:=hq;have hall:∀ nm o,nm≠q→own nm=some o→∃ o',own' nm=some o'∧OwnLe o (θ nm) o' (θ' nm):=ho
 have hne:∀{nm o},own nm=some o→(∀ sz e m,o≠.tok sz e m)→nm≠q:=fun hn hh=>by
  rintro rfl;rw[hq]at hn;exact hh _ _ _ (OI hn).symm
 induction h with
 | val v x h=>exact .val v x h
 | exact a n sz f h=>exact .exact a n sz f h
 | own nm sz e m a n cap f hn hm hv h=>
  obtain⟨o',ho',hle⟩:=ho nm _ (hp nm hx) hn
  cases o' with
  | tok sz' e' m'=>
   obtain⟨rfl,rfl,hmm,hθ⟩:=hle;refine .own nm _ _ m' a n cap f ho' (Nat.le_trans hm hmm) (fun he=>?_) h;rw[hθ (by omega)];exact hv (by omega)
  | _=>exact hle.elim
 | fam b i sz e m a n cap f hi hn hm hv h=>
  obtain⟨o',ho',hle⟩:=ho (Iu b i) _ (hf b i hi hx) hn
  cases o' with
  | tok sz' e' m'=>
   obtain⟨rfl,rfl,hmm,hθ⟩:=hle;refine .fam b i _ _ m' a n cap f hi ho' (Nat.le_trans hm hmm) (fun he=>?_) h;rw[hθ (by omega)];exact hv (by omega)
  | _=>exact hle.elim
 | ptr nm off e cells g c hn hg=>
  obtain⟨o',ho',hle⟩:=ho nm _ (hne hn (fun _ _ _ h=>by cases h)) hn
  cases o' with
  | row e' cells'=>
   have e:θ' nm=θ nm:=hle.2;exact .ptr nm off e' cells' g c ho' (e.trans hg)
  | _=>exact hle.elim
 | vsl nm sz e m f a n cap hn hm hcap hmax hnn hv=>
  obtain⟨o',ho',hle⟩:=ho nm _ (hne hn (fun _ _ _ h=>by cases h)) hn
  cases o' with
  | arr sz' e' m' f'=>
   obtain⟨rfl,rfl,hmm,hθ⟩:=hle;refine .vsl nm _ _ m' f' a n cap ho' (Nat.le_trans hm hmm) hcap hmax hnn (fun he=>?_);rw[hθ (by omega)];exact hv (by omega)
  | _=>exact hle.elim
 | vpt nm sz e m f n i j ad hn hm hi hv=>
  obtain⟨o',ho',hle⟩:=ho nm _ (hne hn (fun _ _ _ h=>by cases h)) hn
  cases o' with
  | arr sz' e' m' f'=>
   obtain⟨rfl,rfl,hmm,hθ⟩:=hle;refine .vpt nm _ _ m' f' n i j ad ho' (Nat.le_trans hm hmm) hi (fun he=>?_);rw[hθ (by omega)];exact hv (by omega)
  | _=>exact hle.elim
 | clo f fs cs xs ys hl hl' _ _ ih ih'=>
  simp only[AV.free,Bool.and_eq_true]at hx;exact .clo f fs cs xs ys hl hl' (fun j hj=>ih j hj (E6 hx.1 j)) (fun j hj=>ih' j hj (E6 hx.2 j))
 | optr nm mm x g c hn hg=>
  obtain⟨o',ho',hle⟩:=ho nm _ (hne hn (fun _ _ _ h=>by cases h)) hn
  cases o' with
  | obj x'=>exact .optr nm mm x' g c ho' (by rw[hle,hg])
  | _=>exact hle.elim
 | omap nm x hn=>
  obtain⟨o',ho',hle⟩:=ho nm _ (hne hn (fun _ _ _ h=>by cases h)) hn
  cases o' with
  | obj x'=>
   have hle:θ' nm=θ nm:=hle;rw[← hle];exact .omap nm x' ho'
  | _=>exact hle.elim
 | vsub nm sz e m f n lo hi a cap hn hm hlo hhi hcap hmax hnn hv=>
  obtain⟨o',ho',hle⟩:=ho nm _ (hne hn (fun _ _ _ h=>by cases h)) hn
  cases o' with
  | arr sz' e' m' f'=>
   obtain⟨rfl,rfl,hmm,hθ⟩:=hle;refine .vsub nm _ _ m' f' n lo hi a cap ho' (Nat.le_trans hm hmm) hlo hhi hcap hmax hnn (fun he=>?_);rw[hθ (by omega)];exact hv (by omega)
  | _=>exact hle.elim
 | cond v c x _ h' ih=>exact .cond v c x (fun hc=>ih hc hx) h'
 | agg vs cs hl h1 _ ih=>exact .agg vs cs hl h1 (fun j hj=>ih j hj (E6 hx j))
 | rpo a cells us hs hI' hc h1 _ ih=>exact .rpo a cells us hs hI' hc h1 (fun j hj=>ih j hj (E6 hx j))
 | tuple vs cs hl _ ih=>exact .tuple vs cs hl (fun j hj=>ih j hj (E6 hx j))
theorem fr_fam{b i:Nat}(hi:i<A9){x:AV}(hx:x.free (X7 b)=true):Fr (Iu b i) x:=
 fr_of (p:=X7 b) (fun nm hp he=>by
  have hlt:nm<A9:=by simpa [X7,Nat.blt_eq] using hp
  rw[he]at hlt
  exact Gx b i hlt) (fun b' i' hi' hp he=>by
  have h1:=Mt (b:=b') hi';rw[he,Mt hi]at h1;subst h1
  simp[X7]at hp) hx
theorem fr_own{k:Nat}(hk:k<A9){x:AV}(hx:x.free (noOwn k)=true):Fr k x:=
 fr_of (p:=noOwn k) (fun nm hp he=>by subst he;simp[noOwn]at hp) (fun b i _ _ he=>by rw[← he]at hk;exact Gx b i hk) hx
def OwnFr(q:Nat):Own→Prop
 | .row _ cells=>∀ j,j<cells.length→Fr q (cells.getD j .any)
 | .arr sz _ m f=>∀ i j,i<m→j<sz→Fr q ((f i).getD j .any)
 | .obj x=>x.Al (Fr q)
 | .tok ..=>True
theorem O4{I:Nat→Nat→Prop}{own own':Nat→Option Own}{θ θ':Nat→Option (Nat×Nat)}{w:World}{nm sz m:Nat}{e:TypeId}{f f':Nat→List AV}
  (h:(θ nm=none→m=0)∧∀ g c,θ nm=some (g,c)→∃ cur,w.heap[g]?=some (.cells cur e (0,0))∧m≤c∧c≤maxLen∧cur.size=c*sz ∧
   (∀ i,i<m→(f i).length=sz)∧(∀ i j,i<m→j<sz→(cur.getD (i*sz+j) undef).oneCell'=true∧Rep I own θ w (cur.getD (i*sz+j) undef) ((f i).getD j .any))∧∀ j,¬ I g j)
  (hθ:θ' nm=θ nm) (hf:∀ i,i<m→(f' i).length=(f i).length) (hr:∀ i j v,i<m→j<sz→Rep I own θ w v ((f i).getD j .any)→Rep I own' θ' w v ((f' i).getD j .any)) :
  (θ' nm=none→m=0)∧∀ g c,θ' nm=some (g,c)→∃ cur,w.heap[g]?=some (.cells cur e (0,0))∧m≤c∧c≤maxLen∧cur.size=c*sz ∧
   (∀ i,i<m→(f' i).length=sz)∧(∀ i j,i<m→j<sz→(cur.getD (i*sz+j) undef).oneCell'=true∧Rep I own' θ' w (cur.getD (i*sz+j) undef) ((f' i).getD j .any))∧∀ j,¬ I g j:=by
 rw[hθ];refine⟨h.1,fun g c hg=>?_⟩;obtain⟨cur,q1,q2,q3,q4,q5,q6,q7⟩:=h.2 g c hg;exact⟨cur,q1,q2,q3,q4,fun i hi=>(hf i hi).trans (q5 i hi),fun i j hi hj=>⟨(q6 i j hi hj).1,hr i j _ hi hj (q6 i j hi hj).2⟩,q7⟩
section
variable {Γ:Ek} {σ:Sto} {I:Nat→Nat→Prop} {θ:Nat→Option (Nat×Nat)} {a:Act} {w:World}
theorem V9(h:Rel Γ σ I θ a w){p q r sz m s1 n:Nat}{e e1:TypeId}{F F':Nat→List AV}(hp:σ.own p=some (.tok sz e m))(hq:σ.own q=none)(hr:σ.own r=some (.arr s1 e1 n F))(hp0:Γ.own0 p=none)
  (hfree:∀ t,Fr p (σ.tmp t)) (hrows:∀ nm o,nm≠r→σ.own nm=some o→OwnFr p o) {own':Nat→Option Own} {θ':Nat→Option (Nat×Nat)}
  (hown:own'=fun x=>if x=q then some (.tok sz e m) else if x=p then none else if x=r then some (.arr s1 e1 n F') else σ.own x)
  (hθ:θ'=fun x=>if x=q then θ p else if x=p then none else θ x)
  (hlen:∀ j,j<n→(F' j).length=(F j).length)
  (hF:∀ j c v,j<n→c<s1→Rep I σ.own θ w v ((F j).getD c .any)→Rep I own' θ' w v ((F' j).getD c .any)) :
  Rel Γ ⟨σ.tmp,own'⟩ I θ' a w:=by
 have hpq:p≠q:=by rintro rfl;rw[hp]at hq;cases hq
 have hpr:p≠r:=by rintro rfl;rw[hp]at hr;cases hr
 have hqr:q≠r:=by rintro rfl;rw[hq]at hr;cases hr
 have hkeep:∀ nm o,nm≠p→σ.own nm=some o→∃ o',own' nm=some o'∧OwnLe o (θ nm) o' (θ' nm):=fun nm o hnp ho=>by
  have hnq:nm≠q:=by rintro rfl;rw[hq]at ho;cases ho
  by_cases hnr:nm=r
  ·subst hnr;rw[hr]at ho;obtain rfl:=OI ho;exact⟨.arr s1 e1 n F',by simp[hown,hnq,hnp],by simp[hθ,hnq,hnp,OwnLe]⟩
  ·exact⟨o,by simp[hown,hnq,hnp,hnr,ho],by simp[hθ,hnq,hnp,OwnLe.refl]⟩
 have hT:∀ v x,Fr p x→Rep I σ.own θ w v x→Rep I own' θ' w v x:=fun v x hx hv=>hx I _ _ _ _ w v ⟨_,_,_,hp⟩ hkeep hv
 have hinv:∀ nm o,nm≠q→nm≠r→own' nm=some o→nm≠p∧σ.own nm=some o∧θ' nm=θ nm:=fun nm o h1 h2 ho=>by
  by_cases h3:nm=p
  ·simp[hown,h3,hpq]at ho
  ·simp[hown,h1,h2,h3]at ho;exact⟨h3,ho,by simp[hθ,h1,h3]⟩
 have hnone:∀ nm,own' nm≠none→∃ nm',σ.own nm'≠none∧θ' nm=θ nm'∧(nm=q→nm'=p)∧(nm≠q→nm'=nm∧nm≠p):=fun nm hn=>by
  by_cases h1:nm=q
  ·exact⟨p,by simp[hp],by simp[hθ,h1],fun _=>rfl,fun h=>(h h1).elim⟩
  ·by_cases h2:nm=r
   ·subst h2;exact⟨nm,by simp[hr],by simp[hθ,h1,Ne.symm hpr],fun h=>(h1 h).elim,fun _=>⟨rfl,Ne.symm hpr⟩⟩
   ·cases hx:own' nm with
    | none=>exact(hn hx).elim
    | some o=>
     obtain⟨h3,h4,h5⟩:=hinv nm o h1 h2 hx;exact⟨nm,by simp[h4],h5,fun h=>(h1 h).elim,fun _=>⟨rfl,h3⟩⟩
 have hq':own' q=some (.tok sz e m):=by simp[hown]
 have hr':own' r=some (.arr s1 e1 n F'):=by simp[hown,Ne.symm hqr,Ne.symm hpr]
 have hrel:=h.chg.rel
 have hθr:θ' r=θ r:=by simp[hθ,Ne.symm hqr,Ne.symm hpr]
 have hθq:θ' q=θ p:=by simp[hθ]
 refine⟨h.size,h.defers,fun t=>hT _ _ (hfree t) (h.slots t),{ h.chg with le:=fun nm o ho=>?_,rel:=⟨fun nm e0 cells ho=>?_,fun nm s' e' m' ho g c hg=>?_,fun nm nm' g c c' ho ho' hg hg'=>?_,fun nm s' e' m' f' ho=>?_,fun nm x ho=>?_,fun nm s' m' ho hnn=>?_⟩,new:=fun nm g c ho hg=>?_ }⟩
 ·obtain⟨o',ho',hl⟩:=h.chg.le nm o ho
  have hnp:nm≠p:=by rintro rfl;rw[hp0]at ho;cases ho
  obtain⟨o'',h1,h2⟩:=hkeep nm o' hnp ho';exact⟨o'',h1,hl.trans h2⟩
 ·replace ho:own' nm=some _:=ho
  have h1:nm≠q:=by rintro rfl;rw[hq']at ho;cases ho
  have h2:nm≠r:=by rintro rfl;rw[hr']at ho;cases ho
  obtain⟨h3,h4,h5⟩:=hinv nm _ h1 h2 ho;obtain⟨g,c,vs,r1,r2,r3,r4,r5,r6⟩:=hrel.row nm e0 cells h4;exact⟨g,c,vs,h5.trans r1,r2,r3,r4,fun j hj=>hT _ _ (hrows nm _ h2 h4 j hj) (r5 j hj),r6⟩
 ·replace ho:own' nm=some _:=ho
  by_cases h1:nm=q
  ·subst h1;rw[hq']at ho;simp only[Option.some.injEq,Own.tok.injEq]at ho;obtain⟨rfl,rfl,rfl⟩:=ho;exact hrel.tok p _ _ _ hp g c (hθq.symm.trans hg)
  ·have h2:nm≠r:=by rintro rfl;rw[hr']at ho;cases ho
   obtain⟨h3,h4,h5⟩:=hinv nm _ h1 h2 ho;exact hrel.tok nm _ _ _ h4 g c (h5.symm.trans hg)
 ·obtain⟨n1,a1,a2,a3,a4⟩:=hnone nm ho;obtain⟨n2,b1,b2,b3,b4⟩:=hnone nm' ho';have:=hrel.inj n1 n2 g c c' a1 b1 (a2.symm.trans hg) (b2.symm.trans hg')
  by_cases h1:nm=q
  ·by_cases h2:nm'=q
   ·rw[h1,h2]
   ·have:=a3 h1;have:=b4 h2;omega
  ·by_cases h2:nm'=q
   ·have:=a4 h1;have:=b3 h2;omega
   ·have:=a4 h1;have:=b4 h2;omega
 ·replace ho:own' nm=some _:=ho
  have h1:nm≠q:=by rintro rfl;rw[hq']at ho;cases ho
  by_cases h2:nm=r
  ·subst h2;rw[hr']at ho;simp only[Option.some.injEq,Own.arr.injEq]at ho;obtain⟨rfl,rfl,rfl,rfl⟩:=ho;exact O4 (hrel.arr nm _ _ _ _ hr) hθr hlen hF
  ·obtain⟨h3,h4,h5⟩:=hinv nm _ h1 h2 ho;exact O4 (hrel.arr nm _ _ _ _ h4) h5 (fun _ _=>rfl) (fun i j v hi hj hv=>hT _ _ (hrows nm _ h2 h4 i j hi hj) hv)
 ·replace ho:own' nm=some _:=ho
  have h1:nm≠q:=by rintro rfl;rw[hq']at ho;cases ho
  have h2:nm≠r:=by rintro rfl;rw[hr']at ho;cases ho
  obtain⟨h3,h4,h5⟩:=hinv nm _ h1 h2 ho;exact Fb (hrel.obj nm _ h4) h5 (fun _ _ _=>rfl) (fun _ _ _ _ h=>h) (fun _ hh=>hh.al (hrows nm _ h2 h4) (fun _ _ h=>h) (fun _ _ _=>rfl) fun v y hy hv=>hT v y hy hv) Lv
 ·replace ho:own' nm=some _:=ho
  by_cases h1:nm=q
  ·subst h1;rw[hq']at ho;simp only[Option.some.injEq,Own.tok.injEq]at ho;obtain⟨rfl,he,rfl⟩:=ho;exact hrel.tok8 p _ _ (by rw[hp,he]) (hθq.symm.trans hnn)
  ·have h2:nm≠r:=by rintro rfl;rw[hr']at ho;cases ho
   obtain⟨h3,h4,h5⟩:=hinv nm _ h1 h2 ho;exact hrel.tok8 nm _ _ h4 (h5.symm.trans hnn)
 ·obtain⟨n1,a1,a2,_,_⟩:=hnone nm ho;exact h.chg.new n1 g c a1 (a2.symm.trans hg)
theorem rel_births(h:Rel Γ σ I θ a w){r s1 n:Nat}{e1:TypeId}{F F':Nat→List AV}(hr:σ.own r=some (.arr s1 e1 n F)){S:Nat→Option (Nat×TypeId×Nat)}(hS:∀ x y,S x=some y→σ.own x=none)
  (h8:∀ x sz m,S x=some (sz,Rk,m)→m=0) {own':Nat→Option Own} {θ':Nat→Option (Nat×Nat)}
  (hown:own'=fun x=>match S x with|some y=>some (.tok y.1 y.2.1 y.2.2)|none=>if x=r then some (.arr s1 e1 n F') else σ.own x)
  (hθ:θ'=fun x=>match S x with|some _=>none|none=>θ x) (hlen:∀ j,j<n→(F' j).length=(F j).length)
  (hF:∀ j c v,j<n→c<s1→Rep I σ.own θ w v ((F j).getD c .any)→Rep I own' θ' w v ((F' j).getD c .any)) :
  Rel Γ ⟨σ.tmp,own'⟩ I θ' a w:=by
 have hSn:∀ nm o,σ.own nm=some o→S nm=none:=fun nm o ho=>by
  cases hx:S nm with
  | none=>rfl
  | some y=>rw[hS nm y hx]at ho;cases ho
 have hkeep:∀ nm o,σ.own nm=some o→∃ o',own' nm=some o'∧OwnLe o (θ nm) o' (θ' nm):=fun nm o ho=>by
  have h1:=hSn nm o ho
  by_cases hnr:nm=r
  ·subst hnr;rw[hr]at ho;obtain rfl:=OI ho;exact⟨.arr s1 e1 n F',by simp[hown,h1],by simp[hθ,h1,OwnLe]⟩
  ·exact⟨o,by simp[hown,h1,hnr,ho],by simp[hθ,h1,OwnLe.refl]⟩
 have hT:∀ v x,Rep I σ.own θ w v x→Rep I own' θ' w v x:=fun v x hv=>hv.mono (fun _ _ h=>h) (fun _ _ _=>rfl) hkeep
 have hinv:∀ nm o,own' nm=some o→(∀ sz e m,o≠.tok sz e m)→nm≠r→σ.own nm=some o∧θ' nm=θ nm:=fun nm o ho hn h2=>by
  cases hx:S nm with
  | none=>simp[hown,hx,h2]at ho;exact⟨ho,by simp[hθ,hx]⟩
  | some y=>simp[hown,hx]at ho;exact(hn _ _ _ ho.symm).elim
 have hold:∀ nm g c,own' nm≠none→θ' nm=some (g,c)→σ.own nm≠none∧θ nm=some (g,c):=fun nm g c ho hg=>by
  cases hx:S nm with
  | some y=>simp[hθ,hx]at hg
  | none=>
   simp[hθ,hx]at hg;refine⟨?_,hg⟩
   by_cases h2:nm=r
   ·subst h2;simp[hr]
   ·simpa [hown,hx,h2] using ho
 have hSr:S r=none:=hSn r _ hr
 have hr':own' r=some (.arr s1 e1 n F'):=by simp[hown,hSr]
 have hθr:θ' r=θ r:=by simp[hθ,hSr]
 have hrel:=h.chg.rel;refine⟨h.size,h.defers,fun t=>hT _ _ (h.slots t),{ h.chg with le:=fun nm o ho=>?_,rel:=⟨fun nm e0 cells ho=>?_,fun nm s' e' m' ho g c hg=>?_,fun nm nm' g c c' ho ho' hg hg'=>?_,fun nm s' e' m' f' ho=>?_,fun nm x ho=>?_,fun nm s' m' ho hnn=>?_⟩,new:=fun nm g c ho hg=>?_ }⟩
 ·obtain⟨o',ho',hl⟩:=h.chg.le nm o ho;obtain⟨o'',h1,h2⟩:=hkeep nm o' ho';exact⟨o'',h1,hl.trans h2⟩
 ·replace ho:own' nm=some _:=ho
  have h2:nm≠r:=by rintro rfl;rw[hr']at ho;cases ho
  obtain⟨h4,h5⟩:=hinv nm _ ho (fun _ _ _ h=>by cases h) h2;obtain⟨g,c,vs,r1,r2,r3,r4,r5,r6⟩:=hrel.row nm e0 cells h4;exact⟨g,c,vs,h5.trans r1,r2,r3,r4,fun j hj=>hT _ _ (r5 j hj),r6⟩
 ·replace ho:own' nm=some _:=ho;obtain⟨h1,h2⟩:=hold nm g c (by rw[ho];simp) hg
  cases hx:S nm with
  | some y=>simp[hθ,hx]at hg
  | none=>
   have h3:nm≠r:=by rintro rfl;rw[hr']at ho;cases ho
   simp[hown,hx,h3]at ho;exact hrel.tok nm _ _ _ ho g c h2
 ·obtain⟨a1,a2⟩:=hold nm g c ho hg;obtain⟨b1,b2⟩:=hold nm' g c' ho' hg';exact hrel.inj nm nm' g c c' a1 b1 a2 b2
 ·replace ho:own' nm=some _:=ho
  by_cases h2:nm=r
  ·subst h2;rw[hr']at ho;simp only[Option.some.injEq,Own.arr.injEq]at ho;obtain⟨rfl,rfl,rfl,rfl⟩:=ho;exact O4 (hrel.arr nm _ _ _ _ hr) hθr hlen hF
  ·obtain⟨h4,h5⟩:=hinv nm _ ho (fun _ _ _ h=>by cases h) h2;exact O4 (hrel.arr nm _ _ _ _ h4) h5 (fun _ _=>rfl) (fun i j v _ _ hv=>hT _ _ hv)
 ·replace ho:own' nm=some _:=ho
  have h2:nm≠r:=by rintro rfl;rw[hr']at ho;cases ho
  obtain⟨h4,h5⟩:=hinv nm _ ho (fun _ _ _ h=>by cases h) h2;exact Fb (hrel.obj nm _ h4) h5 (fun _ _ _=>rfl) (fun _ _ _ _ h=>h) (fun _ hh=>hh.mono hT) Lv
 ·replace ho:own' nm=some _:=ho
  cases hx:S nm with
  | some y=>
   simp only[hown,hx,Option.some.injEq,Own.tok.injEq]at ho;obtain⟨h1,h2,h3⟩:=ho;rw[← h3];exact h8 nm y.1 y.2.2 (by rw[hx,← h2])
  | none=>
   have h3:nm≠r:=by rintro rfl;rw[hr']at ho;cases ho
   simp[hown,hx,h3]at ho;simp[hθ,hx]at hnn;exact hrel.tok8 nm _ _ ho hnn
 ·obtain⟨a1,a2⟩:=hold nm g c ho hg;exact h.chg.new nm g c a1 a2
inductive OwnsFr (p:Tag→Bool) (r:Nat):List (Nat×Own)→Prop
 | nil:OwnsFr p r []
 | row {nm:Nat} {e:TypeId} {cells:List AV} {l:List (Nat×Own)} (h:AV.freeAll p cells=true) (t:OwnsFr p r l):OwnsFr p r ((nm,.row e cells)::l)
 | here {o:Own} {l:List (Nat×Own)} (t:OwnsFr p r l):OwnsFr p r ((r,o)::l)
 | arr {nm sz m:Nat} {e:TypeId} {f:Nat→List AV} {l:List (Nat×Own)} (h:∀ j,AV.freeAll p (f j)=true) (t:OwnsFr p r l):OwnsFr p r ((nm,.arr sz e m f)::l)
 | tok {nm sz m:Nat} {e:TypeId} {l:List (Nat×Own)} (t:OwnsFr p r l):OwnsFr p r ((nm,.tok sz e m)::l)
 | obj {nm:Nat} {x:AObj} {l:List (Nat×Own)} (t:OwnsFr p r l) (h:x.Al (fun y=>y.free p=true):=by first|trivial|rfl):OwnsFr p r ((nm,.obj x)::l)
theorem OwnsFr.get{p:Tag→Bool}{r q:Nat}(hp:∀ x:AV,x.free p=true→Fr q x){l:List (Nat×Own)}(h:OwnsFr p r l){nm:Nat}{o:Own}(hn:nm≠r)(ho:Ad l nm=some o):OwnFr q o:=by
 induction h with
 | nil=>cases ho
 | @row k e cells l h _ ih=>
  simp only[Ad]at ho
  cases hb:Nat.beq k nm with
  | true=>rw[hb]at ho;simp only[cond_true,Option.some.injEq]at ho;subst ho;exact fun j _=>hp _ (E6 h j)
  | false=>rw[hb]at ho;exact ih ho
 | @here o' l _ ih=>
  simp only[Ad]at ho
  cases hb:Nat.beq r nm with
  | true=>exact(hn (Nat.eq_of_beq_eq_true hb).symm).elim
  | false=>rw[hb]at ho;exact ih ho
 | @arr k sz m e f l h _ ih=>
  simp only[Ad]at ho
  cases hb:Nat.beq k nm with
  | true=>rw[hb]at ho;simp only[cond_true,Option.some.injEq]at ho;subst ho;exact fun i j _ _=>hp _ (E6 (h i) j)
  | false=>rw[hb]at ho;exact ih ho
 | @tok k sz m e l _ ih=>
  simp only[Ad]at ho
  cases hb:Nat.beq k nm with
  | true=>rw[hb]at ho;simp only[cond_true,Option.some.injEq]at ho;subst ho;trivial
  | false=>rw[hb]at ho;exact ih ho
 | @obj k x l _ h ih=>
  simp only[Ad]at ho
  cases hb:Nat.beq k nm with
  | true=>rw[hb]at ho;simp only[cond_true,Option.some.injEq]at ho;subst ho;exact h.imp fun y hy=>hp y hy
  | false=>rw[hb]at ho;exact ih ho
theorem OwnsFr.sto{p:Tag→Bool}{r q:Nat}(hp:∀ x:AV,x.free p=true→Fr q x){st:St}(h:OwnsFr p r st.own){nm:Nat}{o:Own}(hn:nm≠r)(ho:st.sto.own nm=some o):OwnFr q o:=by
 by_cases hlt:nm<A9
 ·exact h.get hp hn ((Ax hlt).symm.trans ho)
 ·obtain⟨sz,e,m,rfl⟩:=Mz hlt ho
  trivial
theorem tmps_fr{p:Tag→Bool}{q:Nat}(hp:∀ x:AV,x.free p=true→Fr q x){st:St}(h:st.tmps.all (fun x=>x.2.free p)=true)(t:Nat):Fr q (st.sto.tmp t):=by
 show Fr q (match Ad st.tmps t with|some x=>x|none=>.any)
 cases hx:Ad st.tmps t with
 | none=>exact hp _ rfl
 | some x=>exact hp _ (List.all_eq_true.1 h _ (Sz hx))
def remA{α:Type}(l:List (Nat×α))(k:Nat):List (Nat×α):=l.filter fun p=>!Nat.beq p.1 k
theorem look_remA{α:Type}(l:List (Nat×α))(k n:Nat):Ad (remA l k) n=if k=n then none else Ad l n:=by
 induction l with
 | nil=>simp[remA,Ad]
 | cons p l ih=>
  obtain⟨m,x⟩:=p
  have ih':Ad (List.filter (fun p=>!Nat.beq p.1 k) l) n=if k=n then none else Ad l n:=ih
  simp only[remA,List.filter_cons,Ad]
  cases hb:Nat.beq m k with
  | true=>
   have:=Nat.eq_of_beq_eq_true hb;subst this;simp only[Bool.not_true,Bool.false_eq_true,if_false,ih']
   by_cases h:m=n
   ·simp[h]
   ·have:Nat.beq m n=false:=by cases hb:Nat.beq m n with|false=>rfl|true=>exact absurd (Nat.eq_of_beq_eq_true hb) h
    simp[h,this]
  | false=>
   simp only[Bool.not_false,if_true,Ad,ih']
   cases hb':Nat.beq m n with
   | true=>
    have:=Nat.eq_of_beq_eq_true hb';subst this
    have:k≠m:=by rintro rfl;simp at hb
    simp[this]
   | false=>simp
theorem rep_out{I:Nat→Nat→Prop}{own own':Nat→Option Own}{θ θ':Nat→Option (Nat×Nat)}{w:World}{v:Value}{sz n b i p q m:Nat}{e:TypeId}{f:Nat→List AV}(hv:Rep I own θ w v (.slice sz n f (.fam b i)))(hb:Iu b i=p)(hp:own p=some (.tok sz e m))
  (hq:own' q=some (.tok sz e m)) (hθ:θ' q=θ p):Rep I own' θ' w v (.slice sz n f (.own q)):=by
 cases hv with
 | val v x h=>obtain⟨h,_⟩:=h.slice_inv;cases h
 | fam _ _ _ e' m a n' cap f hi' ho' hm hv' h'=>
  rw[hb]at ho' hv';rw[hp]at ho';simp only[Option.some.injEq,Own.tok.injEq]at ho';obtain⟨_,rfl,rfl⟩:=ho';exact .own q sz e _ _ _ _ _ hq hm (fun hh=>by rw[hθ];exact hv' hh) h'
theorem rep_stay{I:Nat→Nat→Prop}{own own':Nat→Option Own}{θ θ':Nat→Option (Nat×Nat)}{w:World}{v:Value}{sz n b i p:Nat}{f:Nat→List AV}(hv:Rep I own θ w v (.slice sz n f (.fam b i)))(hb:Iu b i=p)(ho:i<A9→own' p=own p)(hθ:i<A9→θ' p=θ p):Rep I own' θ' w v (.slice sz n f (.fam b i)):=by
 cases hv with
 | val v x h=>obtain⟨h,_⟩:=h.slice_inv;cases h
 | fam _ _ _ e' m a n' cap f hi' ho' hm hv' h'=>
  rw[hb]at ho' hv';exact .fam b i sz e' m _ _ _ _ hi' (by rw[hb,ho hi'];exact ho') hm (fun hh=>by rw[hb,hθ hi'];exact hv' hh) h'
theorem rep_back{I:Nat→Nat→Prop}{own own':Nat→Option Own}{θ θ':Nat→Option (Nat×Nat)}{w:World}{v:Value}{sz n b i p q m:Nat}{e:TypeId}{f:Nat→List AV}(hv:Rep I own θ w v (.slice sz n f (.own p)))(hb:Iu b i=q)(hi:i<A9)(hp:own p=some (.tok sz e m))
  (hq:own' q=some (.tok sz e m)) (hθ:θ' q=θ p):Rep I own' θ' w v (.slice sz n f (.fam b i)):=by
 cases hv with
 | val v x h=>obtain⟨h,_⟩:=h.slice_inv;cases h
 | own _ _ e' m' a n' cap f ho' hm' hv' h'=>
  rw[hp]at ho';simp only[Option.some.injEq,Own.tok.injEq]at ho';obtain⟨_,rfl,rfl⟩:=ho';exact .fam b i sz e m _ _ _ _ hi (by rw[hb];exact hq) hm' (fun hh=>by rw[hb,hθ];exact hv' hh) h'
theorem rep_new{I:Nat→Nat→Prop}{own own':Nat→Option Own}{θ θ':Nat→Option (Nat×Nat)}{w:World}{v:Value}{sz n b i q:Nat}{e:TypeId}{f:Nat→List AV}(hv:Rep I own θ w v (.slice sz n f .exact))(hb:Iu b i=q)(hi:i<A9)(hq:own' q=some (.tok sz e n))(hθ:θ' q=none) :
  Rep I own' θ' w v (.slice sz n f (.fam b i)):=by
 cases hv with
 | val v x h=>obtain⟨h,_⟩:=h.slice_inv;cases h
 | exact a n' s' f h'=>exact .fam b i sz e _ _ _ _ _ hi (by rw[hb];exact hq) (Nat.le_refl _) (fun _=>by rw[hb,hθ]) h'
section
variable {α:Type} {st:St} {r b k n sz:Nat} {e1:TypeId}
theorem row_lt{I:Nat→Nat→Prop}{own:Nat→Option Own}{θ:Nat→Option (Nat×Nat)}{w:World}(h:Eo I own θ w){s1:Nat}{F:Nat→List AV}(hr:own r=some (.arr s1 e1 n F)){i:Nat}(hi:i<n):i<A9:=by
 have hm:maxLen<A9:=by decide
 obtain⟨h1,h2⟩:=h.arr r _ _ _ _ hr
 cases hx:θ r with
 | none=>have:=h1 hx;omega
 | some y=>obtain⟨_,_,h3,h4,_⟩:=h2 y.1 y.2 hx;omega
theorem le_take(enc:α→List AV)(d:α)(L:List (List α))(i:Nat)(e:TypeId)(hr:Ad st.own r=some (.arr 1 e1 n (Ir sz enc d L (Tag.fam b))))(hb:Ad st.fam b=some ⟨sz,e,Jg L⟩)(hk:Ad st.own k=none)(hn:n=L.length)(hi:i<L.length)
  (ht:st.tmps.all (fun x=>x.2.free (X7 b))=true) (ho:OwnsFr (X7 b) r st.own) (hlr:Nat.blt r A9=true:=by rfl) (hlk:Nat.blt k A9=true:=by rfl) :
  Le Γ st ⟨st.tmps,B1 (B1 st.own r (.arr 1 e1 n (Ir sz enc d L (Dk b i k)))) k (.tok sz e (L.getD i []).length),B1 st.fam b ⟨sz,e,Sg L i⟩⟩:=by
 intro I θ a w h
 have hlr:r<A9:=by simpa [Nat.blt_eq] using hlr
 have hlk:k<A9:=by simpa [Nat.blt_eq] using hlk
 have hr':st.sto.own r=some (.arr 1 e1 n (Ir sz enc d L (Tag.fam b))):=(Ax hlr).trans hr;have hk':st.sto.own k=none:=(Ax hlk).trans hk;have hib:i<A9:=row_lt h.chg.rel hr' (by omega)
 have hp:st.sto.own (Iu b i)=some (.tok sz e (L.getD i []).length):=by
  show Br _ _ _=_
  rw[Vi hib,hb];simp[Jg,hi]
 have hkb:k≠Iu b i:=fun he=>by rw[he]at hlk;exact Gx b i hlk
 have hrb:r≠Iu b i:=fun he=>by rw[he]at hlr;exact Gx b i hlr
 have hown:(⟨st.tmps,B1 (B1 st.own r (.arr 1 e1 n (Ir sz enc d L (Dk b i k)))) k (.tok sz e (L.getD i []).length),B1 st.fam b ⟨sz,e,Sg L i⟩⟩:St).sto.own =
   fun x=>if x=k then some (.tok sz e (L.getD i []).length) else if x=Iu b i then none else if x=r then some (.arr 1 e1 n (Ir sz enc d L (Dk b i k))) else st.sto.own x:=by
  funext x
  show Br (B1 (B1 st.own r _) k _) (B1 st.fam b _) x=if x=k then _ else if x=Iu b i then none else if x=r then _ else Br st.own st.fam x
  by_cases hx:x<A9
  ·have h1:x≠Iu b i:=fun he=>by rw[he]at hx;exact Gx b i hx
   rw[Ax hx,Ax hx,Du,Du];simp only[eq_comm (a:=k),eq_comm (a:=r),h1,if_false]
  ·have h1:x≠k:=by rintro rfl;exact hx hlk
   have h2:x≠r:=by rintro rfl;exact hx hlr
   rw[Bt hx,Bt hx,Du,if_neg h1,if_neg h2]
   by_cases hd:b=x / A9-1
   ·have hxe:=big_of hx;rw[← hd]at hxe
    by_cases hm:x % A9=i
    ·rw[hm]at hxe;rw[if_pos hd,if_pos hxe,hm];simp[Sg]
    ·have h3:x≠Iu b i:=fun he=>hm (by rw[he,Ld hib]);rw[if_pos hd,if_neg h3,← hd,hb];simp[Sg,hm]
   ·have h3:x≠Iu b i:=fun he=>hd (by rw[he,Mt hib]);rw[if_neg hd,if_neg h3]
 let θ':Nat→Option (Nat×Nat):=fun x=>if x=k then θ (Iu b i) else if x=Iu b i then none else θ x
 refine⟨I,θ',?_⟩;have hrr:=V9 (θ':=θ') h hp hk' hr' (by cases hx:Γ.own0 (Iu b i) with|none=>rfl|some o=>exact(Gx b i (Γ.lt0 _ (by rw[hx];simp))).elim)
  (fun t=>tmps_fr (fun x hx=>fr_fam hib hx) ht t) (fun nm o hne ho'=>ho.sto (fun x hx=>fr_fam hib hx) hne ho') hown rfl (fun j _=>rfl) (fun j c v hj hc hv=>?_)
 ·exact hrr
 ·obtain rfl:c=0:=by omega
  show Rep I _ θ' w v (.slice sz _ _ (Dk b i k j))
  replace hv:Rep I st.sto.own θ w v (.slice sz (L.getD j []).length (fun i_=>enc ((L.getD j []).getD i_ d)) (.fam b j)):=hv
  cases hji:Nat.beq j i with
  | true=>
   have:=Nat.eq_of_beq_eq_true hji;subst this;rw[show Dk b j k j = .own k by simp[Dk]];exact rep_out hv rfl hp ((congrFun hown k).trans (if_pos rfl)) (if_pos rfl)
  | false=>
   have hne:j≠i:=by rintro rfl;simp at hji
   rw[show Dk b i k j = .fam b j by simp[Dk,hji]];have h3:j<A9→Iu b j≠Iu b i:=fun hi' he=>hne (by rw[← Ld (b:=b) hi',he,Ld hib])
   have h4:Iu b j≠k:=fun he=>by rw[← he]at hlk;exact Gx b j hlk
   have h5:Iu b j≠r:=fun he=>by rw[← he]at hlr;exact Gx b j hlr
   exact rep_stay hv rfl (fun hi'=>(congrFun hown _).trans ((if_neg h4).trans ((if_neg (h3 hi')).trans (if_neg h5)))) (fun hi'=>(if_neg h4).trans (if_neg (h3 hi')))
theorem le_put(enc:α→List AV)(d:α)(L:List (List α))(i:Nat)(x:List α)(e:TypeId){F:Nat→List AV}{m:Nat}(hr:Ad st.own r=some (.arr 1 e1 n F))(hF:∀ j,j<n→F j=Ir sz enc d (L.set i x) (Dk b i k) j)(hb:Ad st.fam b=some ⟨sz,e,Sg L i⟩)(hk:Ad st.own k=some (.tok sz e m))(hm:m=x.length)(hn:n=L.length)(hi:i<L.length)
  (ht:st.tmps.all (fun x=>x.2.free (noOwn k))=true) (ho:OwnsFr (noOwn k) r st.own) (h0:Γ.own0 k=none) (hlr:Nat.blt r A9=true:=by rfl) (hlk:Nat.blt k A9=true:=by rfl) :
  Le Γ st ⟨st.tmps,remA (B1 st.own r (.arr 1 e1 n (Ir sz enc d (L.set i x) (Tag.fam b)))) k,B1 st.fam b ⟨sz,e,Jg (L.set i x)⟩⟩:=by
 intro I θ a w h
 have hlr:r<A9:=by simpa [Nat.blt_eq] using hlr
 have hlk:k<A9:=by simpa [Nat.blt_eq] using hlk
 have hr':st.sto.own r=some (.arr 1 e1 n F):=(Ax hlr).trans hr;have hk':st.sto.own k=some (.tok sz e m):=(Ax hlk).trans hk;have hib:i<A9:=row_lt h.chg.rel hr' (by omega)
 have hp:st.sto.own (Iu b i)=none:=by
  show Br _ _ _=_
  rw[Vi hib,hb];simp[Sg]
 have hgi:(L.set i x).getD i []=x:=by simp[List.getD,hi]
 have hgj:∀ j,j≠i→(L.set i x).getD j []=L.getD j []:=fun j hj=>by simp[List.getD,Ne.symm hj]
 have hkr:k≠r:=by rintro rfl;rw[hk]at hr;cases hr
 have hkb:k≠Iu b i:=fun he=>by rw[he]at hlk;exact Gx b i hlk
 have hown:(⟨st.tmps,remA (B1 st.own r (.arr 1 e1 n (Ir sz enc d (L.set i x) (Tag.fam b)))) k,B1 st.fam b ⟨sz,e,Jg (L.set i x)⟩⟩:St).sto.own =
   fun y=>if y=Iu b i then some (.tok sz e m) else if y=k then none else if y=r then some (.arr 1 e1 n (Ir sz enc d (L.set i x) (Tag.fam b))) else st.sto.own y:=by
  funext y
  show Br (remA (B1 st.own r _) k) (B1 st.fam b _) y=if y=Iu b i then _ else if y=k then none else if y=r then _ else Br st.own st.fam y
  by_cases hx:y<A9
  ·have h1:y≠Iu b i:=fun he=>by rw[he]at hx;exact Gx b i hx
   rw[Ax hx,Ax hx,look_remA,Du];simp only[eq_comm (a:=k),eq_comm (a:=r),h1,if_false]
  ·have h1:y≠k:=by rintro rfl;exact hx hlk
   have h2:y≠r:=by rintro rfl;exact hx hlr
   rw[Bt hx,Bt hx,Du,if_neg h1,if_neg h2]
   by_cases hd:b=y / A9-1
   ·have hxe:=big_of hx;rw[← hd]at hxe
    by_cases hm':y % A9=i
    ·rw[hm']at hxe;rw[if_pos hd,if_pos hxe,hm',Option.bind_some]
     show(Jg (L.set i x) i).map _=_
     simp only[Jg,List.length_set,hi,if_true,hgi,hm,Option.map_some]
    ·have h3:y≠Iu b i:=fun he=>hm' (by rw[he,Ld hib]);rw[if_pos hd,if_neg h3,← hd,hb];simp only[Option.bind_some,Sg,hm',if_false,Jg,List.length_set,hgj _ hm']
   ·have h3:y≠Iu b i:=fun he=>hd (by rw[he,Mt hib]);rw[if_neg hd,if_neg h3]
 let θ':Nat→Option (Nat×Nat):=fun y=>if y=Iu b i then θ k else if y=k then none else θ y
 refine⟨I,θ',?_⟩;have hrr:=V9 (θ':=θ') h hk' hp hr' h0 (fun t=>tmps_fr (fun x hx=>fr_own hlk hx) ht t) (fun nm o hne ho'=>ho.sto (fun x hx=>fr_own hlk hx) hne ho') hown rfl
  (fun j hj=>by rw[hF j hj];rfl) (fun j c v hj hc hv=>?_)
 ·exact hrr
 ·obtain rfl:c=0:=by omega
  rw[hF j hj]at hv
  show Rep I _ θ' w v (.slice sz _ _ (.fam b j))
  replace hv:Rep I st.sto.own θ w v (.slice sz ((L.set i x).getD j []).length (fun i_=>enc (((L.set i x).getD j []).getD i_ d)) (Dk b i k j)):=hv
  cases hji:Nat.beq j i with
  | true=>
   have:=Nat.eq_of_beq_eq_true hji;subst this;rw[show Dk b j k j = .own k by simp[Dk]]at hv;exact rep_back hv rfl hib hk' ((congrFun hown _).trans (if_pos rfl)) (if_pos rfl)
  | false=>
   have hne:j≠i:=by rintro rfl;simp at hji
   rw[show Dk b i k j = .fam b j by simp[Dk,hji]]at hv;have h3:j<A9→Iu b j≠Iu b i:=fun hi' he=>hne (by rw[← Ld (b:=b) hi',he,Ld hib])
   have h4:Iu b j≠k:=fun he=>by rw[← he]at hlk;exact Gx b j hlk
   have h5:Iu b j≠r:=fun he=>by rw[← he]at hlr;exact Gx b j hlr
   exact rep_stay hv rfl (fun hi'=>(congrFun hown _).trans ((if_neg (h3 hi')).trans ((if_neg h4).trans (if_neg h5)))) (fun hi'=>(if_neg (h3 hi')).trans (if_neg h4))
theorem le_birth(enc:α→List AV)(d:α)(L:List (List α))(e:TypeId)(hr:Ad st.own r=some (.arr 1 e1 n (Ir sz enc d L (fun _=>.exact))))(hb:Ad st.fam b=none)(hn:n=L.length)(h8:e=Rk→∀ j,(L.getD j []).length=0)(hlr:Nat.blt r A9=true:=by rfl) :
  Le Γ st ⟨st.tmps,B1 st.own r (.arr 1 e1 n (Ir sz enc d L (Tag.fam b))),B1 st.fam b ⟨sz,e,Jg L⟩⟩:=by
 intro I θ a w h
 have hlr:r<A9:=by simpa [Nat.blt_eq] using hlr
 have hr':st.sto.own r=some (.arr 1 e1 n (Ir sz enc d L (fun _=>.exact))):=(Ax hlr).trans hr
 let S:Nat→Option (Nat×TypeId×Nat):=fun x=>if x<A9 then none else if b=x / A9-1 then(Jg L (x % A9)).map fun m=>(sz,e,m) else none
 have hown:(⟨st.tmps,B1 st.own r (.arr 1 e1 n (Ir sz enc d L (Tag.fam b))),B1 st.fam b ⟨sz,e,Jg L⟩⟩:St).sto.own =
   fun x=>match S x with|some y=>some (.tok y.1 y.2.1 y.2.2)|none=>if x=r then some (.arr 1 e1 n (Ir sz enc d L (Tag.fam b))) else st.sto.own x:=by
  funext x
  show Br (B1 st.own r _) (B1 st.fam b _) x=match S x with|some y=>_|none=>if x=r then _ else Br st.own st.fam x
  by_cases hx:x<A9
  ·have:S x=none:=by simp[S,hx]
   rw[Ax hx,Ax hx,Du,this];simp only[eq_comm (a:=r)]
  ·have h2:x≠r:=by rintro rfl;exact hx hlr
   rw[Bt hx,Bt hx,Du]
   by_cases hd:b=x / A9-1
   ·have:S x=(Jg L (x % A9)).map fun m=>(sz,e,m):=by simp only[S,hx,if_false,if_pos hd]
    rw[if_pos hd,this,if_neg h2,← hd,hb];simp only[Option.bind_some]
    cases Jg L (x % A9)<;>rfl
   ·have:S x=none:=by simp only[S,hx,if_false,if_neg hd]
    rw[if_neg hd,this,if_neg h2]
 have hS:∀ x y,S x=some y→st.sto.own x=none:=fun x y hx=>by
  by_cases h1:x<A9
  ·simp[S,h1]at hx
  ·by_cases hd:b=x / A9-1
   ·show Br _ _ x=none
    rw[Bt h1,← hd,hb];rfl
   ·simp only[S,h1,if_false,if_neg hd]at hx;cases hx
 refine⟨I,_,rel_births h hr' hS (fun x s m hx=>?_) hown rfl (fun j _=>rfl) (fun j c v hj hc hv=>?_)⟩
 ·by_cases h1:x<A9
  ·simp[S,h1]at hx
  ·by_cases hd:b=x / A9-1
   ·simp only[S,h1,if_false,if_pos hd]at hx;obtain⟨m',hm',he⟩:=Option.map_eq_some_iff.1 hx;simp only[Prod.mk.injEq]at he;obtain⟨_,he,rfl⟩:=he;unfold Jg at hm'
    split at hm'
    ·simp only[Option.some.injEq]at hm';rw[← hm'];exact h8 he _
    ·cases hm'
   ·simp only[S,h1,if_false,if_neg hd]at hx;cases hx
 ·obtain rfl:c=0:=by omega
  have hjb:j<A9:=row_lt h.chg.rel hr' hj;replace hv:Rep I st.sto.own θ w v (.slice sz (L.getD j []).length (fun i_=>enc ((L.getD j []).getD i_ d)) .exact):=hv
  show Rep I _ _ w v (.slice sz (L.getD j []).length (fun i_=>enc ((L.getD j []).getD i_ d)) (.fam b j))
  have hSj:S (Iu b j)=some (sz,e,(L.getD j []).length):=by
   simp only[S,Gx b j,if_false,Mt hjb,if_true,Ld hjb,Jg];rw[if_pos (by omega)];rfl
  exact rep_new hv rfl hjb ((congrFun hown _).trans (by rw[hSj])) (by rw[hSj])
end
end
theorem av_famtag{α:Type}{sz b i k:Nat}{e:α→List AV}{d:α}{l:List α}:AVle (AV.list sz e d l (Dk b i k i)) (AV.list sz e d l (.own k)):=by
 have:Dk b i k i = .own k:=by simp[Dk]
 rw[this];exact AVle.refl _
theorem putF_fam{α:Type}{sz b i k k0:Nat}{e:α→List AV}{d:α}{L:List (List α)}{x:List α}{n:Nat}{keep:Nat→Bool}(hi:i<L.length)(hk:keep k=true)(hb:keep b=true) :
  ∀ j,j<n→AV.eraseAll keep (Fs (Ir sz e d L (Dk b i k0)) i 0 [AV.list sz e d x (.own k)] j)=Ir sz e d (L.set i x) (Dk b i k) j:=fun j _=>by
 unfold Fs
 cases hji:Nat.beq j i with
 | true=>
  have:=Nat.eq_of_beq_eq_true hji;subst this;simp[Ir,AV.eraseAll,AV.erase,AV.list,Dk,hk,List.getD,hi]
 | false=>
  have hne:i≠j:=by rintro rfl;simp at hji
  simp[Ir,AV.eraseAll,AV.erase,AV.list,Dk,hji,hb,List.getD,hne]
theorem fam_zero{α:Type}{sz n:Nat}{e:α→List AV}{d:α}{keep:Nat→Bool}:∀ k,k<n→AVleL (AV.eraseAll keep [.slice 0 0 (fun _=>[]) .exact]) (Ir sz e d (List.replicate n []) (fun _=>.exact) k):=fun k hk=>by
 have:(List.replicate n ([]:List α)).getD k []=[]:=by simp[List.getD,hk]
 unfold Ir;rw[this];exact .cons Dv .nil
mutual
def AV.freeN(r:Nat):AV→Bool
 | .vsl nm _=>!Nat.beq nm r
 | .vpt nm _ _ _=>!Nat.beq nm r
 | .vsub nm _ _ _=>!Nat.beq nm r
 | .clo _ xs ys=>AV.freeNAll r xs&&AV.freeNAll r ys
 | .agg cs=>AV.freeNAll r cs
 | .rpo cs=>AV.freeNAll r cs
 | .tuple cs=>AV.freeNAll r cs
 | .cond _ x=>x.freeN r
 | _=>true
def AV.freeNAll(r:Nat):List AV→Bool
 | []=>true
 | x::l=>x.freeN r&&AV.freeNAll r l
end
theorem Dr{r:Nat}{l:List AV}(h:AV.freeNAll r l=true)(j:Nat):(l.getD j .any).freeN r=true:=by
 induction l generalizing j with
 | nil=>simp[AV.freeN]
 | cons x l ih=>
  simp only[AV.freeNAll,Bool.and_eq_true]at h
  cases j with
  | zero=>simpa using h.1
  | succ j=>simpa using ih h.2 j
theorem rep_freeN{I:Nat→Nat→Prop}{own own':Nat→Option Own}{θ:Nat→Option (Nat×Nat)}{w:World}{v:Value}{x:AV}{r:Nat}(h:Rep I own θ w v x)(hx:x.freeN r=true)(hr:∃ sz e m f,own r=some (.arr sz e m f))
  (ho:∀ nm,nm≠r→own' nm=own nm):Rep I own' θ w v x:=by
 obtain⟨s0,e0,m0,f0,hr⟩:=hr
 have hne:∀{nm o},own nm=some o→(∀ sz e m f,o≠.arr sz e m f)→own' nm=some o:=fun{nm o} hn hh=>by
  rw[ho nm (by rintro rfl;rw[hr]at hn;exact hh _ _ _ _ (OI hn).symm)];exact hn
 have hbq:∀{nm:Nat},(!Nat.beq nm r)=true→nm≠r:=fun h e=>by subst e;simp at h
 induction h with
 | val v x h=>exact .val v x h
 | exact a n sz f h=>exact .exact a n sz f h
 | own nm sz e m a n cap f hn hm hv h=>exact .own nm sz e m a n cap f (hne hn (fun _ _ _ _ h=>by cases h)) hm hv h
 | fam b i sz e m a n cap f hi hn hm hv h=>exact .fam b i sz e m a n cap f hi (hne hn (fun _ _ _ _ h=>by cases h)) hm hv h
 | ptr nm off e cells g c hn hg=>exact .ptr nm off e cells g c (hne hn (fun _ _ _ _ h=>by cases h)) hg
 | vsl nm sz e m f a n cap hn hm hcap hmax hnn hv=>exact .vsl nm sz e m f a n cap ((ho nm (hbq hx)).trans hn) hm hcap hmax hnn hv
 | vpt nm sz e m f n i j ad hn hm hi hv=>exact .vpt nm sz e m f n i j ad ((ho nm (hbq hx)).trans hn) hm hi hv
 | clo f fs cs xs ys hl hl' _ _ ih ih'=>
  simp only[AV.freeN,Bool.and_eq_true]at hx;exact .clo f fs cs xs ys hl hl' (fun j hj=>ih j hj (Dr hx.1 j)) (fun j hj=>ih' j hj (Dr hx.2 j))
 | optr nm mm x g c hn hg=>exact .optr nm mm x g c (hne hn (fun _ _ _ _ h=>by cases h)) hg
 | omap nm x hn=>exact .omap nm x (hne hn (fun _ _ _ _ h=>by cases h))
 | vsub nm sz e m f n lo hi a cap hn hm hlo hhi hcap hmax hnn hv=>exact .vsub nm sz e m f n lo hi a cap ((ho nm (hbq hx)).trans hn) hm hlo hhi hcap hmax hnn hv
 | cond v c x _ h' ih=>exact .cond v c x (fun hc=>ih hc hx) h'
 | agg vs cs hl h1 _ ih=>exact .agg vs cs hl h1 (fun j hj=>ih j hj (Dr hx j))
 | rpo a cells us hs hI' hc h1 _ ih=>exact .rpo a cells us hs hI' hc h1 (fun j hj=>ih j hj (Dr hx j))
 | tuple vs cs hl _ ih=>exact .tuple vs cs hl (fun j hj=>ih j hj (Dr hx j))
inductive OwnsFrN (r:Nat):List (Nat×Own)→Prop
 | nil:OwnsFrN r []
 | row {nm:Nat} {e:TypeId} {cells:List AV} {l:List (Nat×Own)} (h:AV.freeNAll r cells=true) (t:OwnsFrN r l):OwnsFrN r ((nm,.row e cells)::l)
 | arr {nm sz m:Nat} {e:TypeId} {f:Nat→List AV} {l:List (Nat×Own)} (h:∀ j,AV.freeNAll r (f j)=true) (t:OwnsFrN r l):OwnsFrN r ((nm,.arr sz e m f)::l)
 | tok {nm sz m:Nat} {e:TypeId} {l:List (Nat×Own)} (t:OwnsFrN r l):OwnsFrN r ((nm,.tok sz e m)::l)
 | obj {nm:Nat} {x:AObj} {l:List (Nat×Own)} (t:OwnsFrN r l) (h:x.Al (fun y=>y.freeN r=true):=by first|trivial|rfl):OwnsFrN r ((nm,.obj x)::l)
def OwnN(r:Nat):Own→Prop
 | .row _ cells=>AV.freeNAll r cells=true
 | .arr _ _ _ f=>∀ j,AV.freeNAll r (f j)=true
 | .obj x=>x.Al (fun y=>y.freeN r=true)
 | .tok ..=>True
theorem OwnsFrN.get{r:Nat}{l:List (Nat×Own)}(h:OwnsFrN r l){nm:Nat}{o:Own}(ho:Ad l nm=some o):OwnN r o:=by
 induction h with
 | nil=>cases ho
 | @row k e cells l h _ ih=>
  simp only[Ad]at ho
  cases hb:Nat.beq k nm with
  | true=>rw[hb]at ho;simp only[cond_true,Option.some.injEq]at ho;subst ho;exact h
  | false=>rw[hb]at ho;exact ih ho
 | @arr k sz m e f l h _ ih=>
  simp only[Ad]at ho
  cases hb:Nat.beq k nm with
  | true=>rw[hb]at ho;simp only[cond_true,Option.some.injEq]at ho;subst ho;exact h
  | false=>rw[hb]at ho;exact ih ho
 | @tok k sz m e l _ ih=>
  simp only[Ad]at ho
  cases hb:Nat.beq k nm with
  | true=>rw[hb]at ho;simp only[cond_true,Option.some.injEq]at ho;subst ho;trivial
  | false=>rw[hb]at ho;exact ih ho
 | @obj k x l _ h ih=>
  simp only[Ad]at ho
  cases hb:Nat.beq k nm with
  | true=>rw[hb]at ho;simp only[cond_true,Option.some.injEq]at ho;subst ho;exact h
  | false=>rw[hb]at ho;exact ih ho
theorem le_trunc{Γ:Ek}{st:St}{t r s n k:Nat}{e:TypeId}{f:Nat→List AV}(hs:st.get t = .vsub r n 0 k)(hr:Ad st.own r=some (.arr s e n f))(hk:k≤n)
  (ht:(st.tmps.all fun x=>Nat.beq x.1 t || x.2.freeN r)=true) (ho:OwnsFrN r st.own) (h0:Γ.own0 r=none) (hlt:Nat.blt r A9=true:=by rfl) (hB:arrB e=false:=by rfl) :
  Le Γ st ⟨B1 st.tmps t (.vsl r k),B1 st.own r (.arr s e k f),st.fam⟩:=by
 intro I θ a w h
 have hlt:r<A9:=by simpa [Nat.blt_eq] using hlt
 have hr':st.sto.own r=some (.arr s e n f):=(Ax hlt).trans hr
 have hown:(⟨B1 st.tmps t (.vsl r k),B1 st.own r (.arr s e k f),st.fam⟩:St).sto.own=Ap st.sto.own r (.arr s e k f):=by
  funext x
  show Br (B1 st.own r _) _ x=_
  rw[E3 hlt];simp only[Ap]
  by_cases hx:r=x
  ·subst hx;simp
  ·simp[hx,Ne.symm hx];rfl
 have hsame:∀ nm,nm≠r→Ap st.sto.own r (.arr s e k f) nm=st.sto.own nm:=fun nm hn=>by simp[Ap,hn]
 have hT:∀ v x,x.freeN r=true→Rep I st.sto.own θ w v x→Rep I (Ap st.sto.own r (.arr s e k f)) θ w v x:=fun v x hx hv=>rep_freeN hv hx ⟨_,_,_,_,hr'⟩ hsame;have hrel:=h.chg.rel
 have hrows:∀ nm o,st.sto.own nm=some o→OwnN r o:=fun nm o hn=>by
  by_cases hl:nm<A9
  ·exact ho.get ((Ax hl).symm.trans hn)
  ·obtain⟨_,_,_,rfl⟩:=Mz hl hn;trivial
 have hget:∀ t',(⟨B1 st.tmps t (.vsl r k),B1 st.own r (.arr s e k f),st.fam⟩:St).sto.tmp t'=if t=t' then .vsl r k else st.get t':=fun t'=>by
  show(match Ad (B1 st.tmps t _) t' with|some x=>x|none=>.any)=_
  rw[Du]
  by_cases hk:t=t'
  ·simp[hk]
  ·simp[hk];rfl
 refine⟨I,θ,h.size,h.defers,fun t'=>?_,?_⟩
 ·rw[hown,hget]
  split
  ·rename_i htt
   subst htt;have hv:=h.slots t
   have hv':Rep I st.sto.own θ w (a.tmps.getD t undef) (.vsub r n 0 k):=by rw[← hs];exact hv
   obtain⟨sz,e',m,f',ad,cap,he,ho',hm,_,hhi,hcap,hmax,hn,hvv⟩:=hv'.vsub_inv;rw[hr']at ho';simp only[Option.some.injEq,Own.arr.injEq]at ho';obtain⟨rfl,rfl,rfl,rfl⟩:=ho';rw[he];refine .vsl r s e k f ad _ cap (by simp[Ap]) (Nat.le_refl _) hcap hmax hn (fun _=>?_);have hz:=(hvv rfl).2 rfl
   cases hθ:θ r with
   | none=>rw[hθ]at hz;have:=(hrel.arr r _ _ _ _ hr').1 hθ;simp only at hz ⊢;omega
   | some gc=>rw[hθ]at hz;exact⟨hz.1,hz.2.resolve_right (by rw[hB];decide)⟩
  ·rename_i htt
   have hx:(st.get t').freeN r=true:=by
    unfold St.get
    cases hl:Ad st.tmps t' with
    | none=>rfl
    | some x=>
     have:=List.all_eq_true.1 ht _ (Sz hl);simp only[Bool.or_eq_true]at this;rcases this with h'|h'
     ·exact(htt (Nat.eq_of_beq_eq_true h').symm).elim
     ·exact h'
   exact hT _ _ hx (h.slots t')
 ·rw[hown];refine{ h.chg with le:=fun nm o hno=>?_,rel:=⟨fun nm e0 cells hn=>?_,fun nm s' e' m' hn g c hg=>?_,fun nm nm' g c c' hn hn' hg hg'=>?_,fun nm s' e' m' f' hn=>?_,fun nm x hn=>?_,fun nm s' m' hn hnn=>?_⟩,new:=fun nm g c hn hg=>?_ }
  ·obtain⟨o',ho',hl⟩:=h.chg.le nm o hno;exact⟨o',(hsame nm (by rintro rfl;rw[h0]at hno;cases hno)).trans ho',hl⟩
  ·have hne:nm≠r:=by rintro rfl;simp[Ap]at hn
   rw[hsame nm hne]at hn;obtain⟨g,c,vs,r1,r2,r3,r4,r5,r6⟩:=hrel.row nm e0 cells hn;exact⟨g,c,vs,r1,r2,r3,r4,fun j hj=>hT _ _ (Dr (hrows nm _ hn) j) (r5 j hj),r6⟩
  ·have hne:nm≠r:=by rintro rfl;simp[Ap]at hn
   rw[hsame nm hne]at hn;exact hrel.tok nm _ _ _ hn g c hg
  ·have hx:∀ nm,Ap st.sto.own r (.arr s e k f) nm≠none→st.sto.own nm≠none:=fun nm hn=>by
    by_cases hne:nm=r
    ·subst hne;rw[hr'];simp
    ·rwa[hsame nm hne]at hn
   exact hrel.inj nm nm' g c c' (hx nm hn) (hx nm' hn') hg hg'
  ·by_cases hne:nm=r
   ·subst hne;simp only[Ap,if_true,Option.some.injEq,Own.arr.injEq]at hn;obtain⟨rfl,rfl,rfl,rfl⟩:=hn;obtain⟨q0,q1⟩:=hrel.arr nm _ _ _ _ hr';refine⟨fun hθ=>by have:=q0 hθ;omega,fun g c hg=>?_⟩;obtain⟨cur,p1,p2,p3,p4,p5,p6,p7⟩:=q1 g c hg;exact⟨cur,p1,by omega,p3,p4,fun i hi=>p5 i (by omega),fun i j hi hj=>⟨(p6 i j (by omega) hj).1,hT _ _ (Dr (hrows nm _ hr' i) j) (p6 i j (by omega) hj).2⟩,p7⟩
   ·rw[hsame nm hne]at hn;exact O4 (hrel.arr nm _ _ _ _ hn) rfl (fun _ _=>rfl) (fun i j v _ _ hv=>hT _ _ (Dr (hrows nm _ hn i) j) hv)
  ·have hne:nm≠r:=by rintro rfl;simp[Ap]at hn
   rw[hsame nm hne]at hn;exact Fb (hrel.obj nm _ hn) rfl (fun _ _ _=>rfl) (fun _ _ _ _ h=>h) (fun _ hh=>hh.al (P:=fun y=>y.freeN r=true) (hrows nm _ hn) (fun _ _ h=>h) (fun _ _ _=>rfl) fun v y hy hv=>hT v y hy hv) Lv
  ·have hne:nm≠r:=by rintro rfl;simp[Ap]at hn
   rw[hsame nm hne]at hn;exact hrel.tok8 nm _ _ hn hnn
  ·have hx:st.sto.own nm≠none:=by
    by_cases hne:nm=r
    ·subst hne;rw[hr'];simp
    ·rwa[hsame nm hne]at hn
   exact h.chg.new nm g c hx hg
theorem take_le{α:Type}{e:α→List AV}{d:α}{l:List α}{k:Nat}:∀ i,i<0+k→AVleL (e (l.getD i d)) (e ((l.take k).getD i d)):=fun i hi=>by
 have:(l.take k).getD i d=l.getD i d:=by simp[List.getD,show i<k by omega]
 rw[this];exact .refl _
theorem take_len{α:Type}{l:List α}{k:Nat}(h:0+k≤l.length):0+k=(l.take k).length:=by simp;omega
theorem pw_nil{f g:Nat→List AV}:∀ k,k<0→f k=g k:=fun _ h=>by omega
theorem pw_snoc{n:Nat}{f g:Nat→List AV}(h:∀ k,k<n→f k=g k)(h':f n=g n):∀ k,k<n+1→f k=g k:=fun k hk=>by
 by_cases hkn:k=n
 ·subst hkn;exact h'
 ·exact h k (by omega)
theorem Xo{α:Type}{keep:Nat→Bool}{e:α→List AV}{d:α}{z:List AV}{N sz:Nat}(hz:z.length=sz)(h:z=e d)(hk:AV.eraseAll keep z=z):∀ k,k<N→AVleL (AV.eraseAll keep ((((List.replicate N z).flatten).drop (k*sz)).take sz)) (e ((List.replicate N d).getD k d)):=fun k hk'=>by
 have:(List.replicate N d).getD k d=d:=by simp[List.getD,hk']
 rw[flat_rep z sz hz N k hk',this,hk,h];exact .refl _
section
variable {α:Type} {g:Bool} {a b:List α}
theorem bif_len:(bif g then a.length else b.length)=(bif g then a else b).length:=by cases g<;>rfl
theorem bif_row{e:α→List AV}{d:α}{k:Nat}:(bif g then e (a.getD k d) else e (b.getD k d))=e ((bif g then a else b).getD k d):=by cases g<;>rfl
theorem bif_was(h:g=true→b.length=a.length):b.length=(bif g then a else b).length:=by
 cases g with
 | false=>rfl
 | true=>exact h rfl
end
abbrev Bw{V:Type}(f:V→AV)(l:List (Int×V)):List (Int×AV):=l.map fun p=>(p.1,f p.2)
section
variable {V:Type} {f:V→AV} {l:List (Int×V)} {r:List (Int×AV)} {k:Int}
theorem X5(k:Int):∀ l:List (Int×V),Dj (Bw f l) k=Dj l k
 | []=>rfl
 | (a,b)::l=>by
  simp only[Bw,List.map_cons,Dj];rw[← X5 k l]
theorem X6(k:Int)(v:V):∀ l:List (Int×V),Io (Bw f l) k (f v)=Bw f (Io l k v)
 | []=>rfl
 | (a,b)::l=>by
  simp only[Bw,List.map_cons,Io]
  cases k==a with
  | true=>rfl
  | false=>
   simp only[cond_false,List.map_cons];exact congrArg _ (X6 k v l)
theorem Yy{z:V}{zz:AV}(hz:AVle zz (f z))(hr:r=Bw f l):AVle (Em zz r k) (f (Em z l k)):=by
 subst hr
 induction l with
 | nil=>exact hz
 | cons p l ih=>
  obtain⟨a,b⟩:=p;simp only[Bw,List.map_cons,Em]
  cases k==a with
  | true=>exact AVle.refl _
  | false=>exact ih
theorem mlook_le{z:V}{zz:AV}(hz:AVle zz (f z))(hr:r=Bw f l):AVle (.tuple [Em zz r k,.bool (Dj r k)]) (.tuple [f (Em z l k),.bool (Dj l k)]):=by
 have h:=Yy (k:=k) hz hr;subst hr;rw[X5];exact AVle.tuple (.cons h (.cons (AVle.refl _) .nil))
theorem mset_eq{v:V}{x:AV}(hx:x=f v)(hr:r=Bw f l):Io r k x=Bw f (Io l k v):=by
 subst hr hx;exact X6 k v l
theorem bif_mapE{g:Bool}{a b:List (Int×V)}{ra rb:List (Int×AV)}(ha:ra=Bw f a)(hb:rb=Bw f b):(bif g then ra else rb)=Bw f (bif g then a else b):=by
 subst ha hb
 cases g<;>rfl
end
theorem le_obj{Γ:Ek}{st:St}{nm:Nat}{x:AObj}(y:AObj)(hn:Ad st.own nm=some (.obj x))(hxy:∀ I own θ w,Ti I own θ w nm x→Ti I own θ w nm y)(hlt:Nat.blt nm A9=true:=by rfl) :
  Le Γ st ⟨st.tmps,B1 st.own nm (.obj y),st.fam⟩:=by
 intro I θ a w h
 have hlt:nm<A9:=by simpa [Nat.blt_eq] using hlt
 have hn:st.sto.own nm=some (.obj x):=(Ax hlt).trans hn
 have hown:(⟨st.tmps,B1 st.own nm (.obj y),st.fam⟩:St).sto.own=Ap st.sto.own nm (.obj y):=by
  funext k
  show Br (B1 st.own nm _) _ k=_
  rw[E3 hlt];simp only[Ap]
  by_cases hk:nm=k
  ·subst hk;simp
  ·simp[hk,Ne.symm hk];rfl
 have hle:∀ k o,st.sto.own k=some o→∃ o',Ap st.sto.own nm (.obj y) k=some o'∧OwnLe o (θ k) o' (θ k):=fun k o ho=>by
  by_cases hk:k=nm
  ·subst hk;rw[hn]at ho;obtain rfl:=OI ho;exact⟨.obj y,by simp[Ap],rfl⟩
  ·exact⟨o,by simp[Ap,hk,ho],OwnLe.refl _ _⟩
 have hrel:=h.chg.rel;have hmono:∀ v z,Rep I st.sto.own θ w v z→Rep I (Ap st.sto.own nm (.obj y)) θ w v z:=fun v z hz=>hz.mono (fun _ _ h=>h) (fun _ _ _=>rfl) hle
 have k:Chg st.sto.own θ I w (Ap st.sto.own nm (.obj y)) θ I w:=by
  refine{ imm:=fun _ _ h=>h,cell:=fun _ _ _=>rfl,le:=hle,rel:=?_,valid:=h.chg.valid,os:=rfl,tape:=rfl,output:=rfl,drawn:=fun _=>Nat.le_refl _,grow:=Nat.le_refl _,frame:=fun _ _ _=>rfl,new:=fun k g c ho hg=>?_,immNew:=fun b o h=>.inl h }
  ·refine Gl hrel (·=nm) hmono (fun k hne=>⟨by simp[Ap,hne],rfl⟩) (fun k g c hne ho hg=>⟨rfl,fun j h=>h⟩) ?_ ?_ ?_ (fun _ _ h h'=>h.trans h'.symm) (hobj:=?_)
   ·rintro k e' cells rfl ho;simp[Ap]at ho
   ·rintro k sz e' m rfl ho;simp[Ap]at ho
   ·rintro k k' g c c' rfl hne _ ho' hg hg';exact hne (hrel.inj k' k _ _ _ ho' (by simp[hn]) hg' hg)
   ·rintro k z rfl ho;simp only[Ap,if_true,Option.some.injEq,Own.obj.injEq]at ho;subst ho;exact Fb (hxy _ _ _ _ (hrel.obj k x hn)) rfl (fun _ _ _=>rfl) (fun _ _ _ _ h=>h) (fun _ hh=>hh.mono hmono) Lv
  ·by_cases hk:k=nm
   ·subst hk;exact .inr ⟨k,c,by simp[hn],hg⟩
   ·exact .inr ⟨k,c,by simpa [Ap,hk] using ho,hg⟩
 exact⟨I,θ,h.size,h.defers,fun t'=>by rw[hown];exact(h.slots t').chg k,by rw[hown];exact h.chg.trans k⟩
theorem objAt_nn{I:Nat→Nat→Prop}{own:Nat→Option Own}{θ:Nat→Option (Nat×Nat)}{w:World}{nm:Nat}{nn:Bool}{k:IntKind}{l:List (Int×AV)}(h:Ti I own θ w nm (.map nn k l)):Ti I own θ w nm (.map false k l):=by
 rcases h with⟨g,c,o,h1,h2,h3,h4⟩|⟨h1,h2⟩
 ·refine .inl ⟨g,c,o,h1,h2,?_,h4⟩
  cases h3 with
  | map es nn k l hs hr=>exact .map es false k l hs hr
 ·cases nn<;>cases l<;>first|exact .inr ⟨h1,trivial⟩|cases h2
theorem M4{Γ:Ek}{st:St}{r j nm:Nat}{e0:TypeId}{cells:List AV}(km:IntKind)(hr:Ad st.own r=some (.row e0 cells))(hs:cells.getD j .any = .nilm)(hj:j<cells.length)(hn:Ad st.own nm=none)(hlt:Nat.blt nm A9=true:=by rfl)(hltr:Nat.blt r A9=true:=by rfl) :
  Le Γ st ⟨st.tmps,B1 (B1 st.own r (.row e0 (cells.set j (.omap nm)))) nm (.obj (.map false km [])),st.fam⟩:=by
 intro I θ a w h
 have hlt:nm<A9:=by simpa [Nat.blt_eq] using hlt
 have hltr:r<A9:=by simpa [Nat.blt_eq] using hltr
 have hn:st.sto.own nm=none:=(Ax hlt).trans hn;have hr:st.sto.own r=some (.row e0 cells):=(Ax hltr).trans hr
 have hne:r≠nm:=by rintro rfl;rw[hr]at hn;cases hn
 let own':Nat→Option Own:=fun k=>if k=nm then some (.obj (.map false km [])) else if k=r then some (.row e0 (cells.set j (.omap nm))) else st.sto.own k
 have hown:(⟨st.tmps,B1 (B1 st.own r (.row e0 (cells.set j (.omap nm)))) nm (.obj (.map false km [])),st.fam⟩:St).sto.own=own':=by
  funext k
  show Br (B1 (B1 st.own r _) nm _) _ k=_
  rw[E3 hlt,E3 hltr];simp only[own',eq_comm (a:=nm),eq_comm (a:=r)]
  rfl
 have hle:∀ nm' o,st.sto.own nm'=some o→∃ o',own' nm'=some o'∧OwnLe o (θ nm') o' (thUp θ nm none nm'):=fun nm' o ho=>by
  have h1:nm'≠nm:=by rintro rfl;have:st.sto.own nm'=some o:=ho;rw[hn]at this;cases this
  by_cases h2:nm'=r
  ·subst h2;have:st.sto.own nm'=some o:=ho;rw[hr]at this;obtain rfl:=OI this;exact⟨.row e0 (cells.set j (.omap nm)),by simp[own',h1],by simp[thUp,h1,OwnLe]⟩
  ·exact⟨o,by simp[own',h1,h2,ho],by simp[thUp,h1,OwnLe.refl]⟩
 have hmono:∀ v x,Rep I st.sto.own θ w v x→Rep I own' (thUp θ nm none) w v x:=fun v x h=>h.mono (fun _ _ h=>h) (fun _ _ _=>rfl) hle;have hrel:=h.chg.rel
 have k:Chg st.sto.own θ I w own' (thUp θ nm none) I w:=by
  refine{ imm:=fun _ _ h=>h,cell:=fun _ _ _=>rfl,le:=hle,rel:=?_,valid:=h.chg.valid,os:=rfl,tape:=rfl,output:=rfl,drawn:=fun _=>Nat.le_refl _,grow:=Nat.le_refl _,frame:=fun _ _ _=>rfl,new:=fun nm' g' c ho hg=>?_,immNew:=fun _ _ h=>.inl h }
  ·refine⟨fun nm' e2 cells' ho=>?_,fun nm' s' e' m ho g' c hg=>?_,fun n1 n2 g' c c' ho ho' hg hg'=>?_,fun nm' s' e' m f' ho=>?_,fun nm' x' ho=>?_,fun nm' s' m ho hnn=>?_⟩
   ·by_cases h1:nm'=nm
    ·simp[own',h1]at ho
    ·by_cases h2:nm'=r
     ·subst h2;simp only[own',h1,if_false,if_true,Option.some.injEq,Own.row.injEq]at ho;obtain⟨rfl,rfl⟩:=ho;obtain⟨g',c,vs,r1,r2,r3,r4,r5,r6⟩:=hrel.row nm' _ cells hr;refine⟨g',c,vs,by simpa [thUp,h1] using r1,r2,by simpa using r3,fun j' hj'=>r4 j' (by simpa using hj'),fun j' hj'=>?_,r6⟩
      have hj'':j'<cells.length:=by simpa using hj'
      by_cases hjj:j'=j
      ·subst hjj
       have e1:(cells.set j' (.omap nm)).getD j' .any = .omap nm:=by simp[List.getD,hj]
       rw[e1];have hr':=r5 j' hj'';rw[hs]at hr';rw[hr'.nilm_inv];have:=Rep.omap (I:=I) (own:=own') (θ:=thUp θ nm none) (w:=w) nm (.map false km []) (by simp[own'])
       simpa [thUp] using this
      ·have e1:(cells.set j (.omap nm)).getD j' .any=cells.getD j' .any:=by simp[List.getD,Ne.symm hjj]
       rw[e1];exact hmono _ _ (r5 j' hj'')
     ·simp only[own',h1,h2,if_false]at ho;obtain⟨g',c,vs,r1,r2,r3,r4,r5,r6⟩:=hrel.row nm' _ cells' ho;exact⟨g',c,vs,by simpa [thUp,h1] using r1,r2,r3,r4,fun j' hj'=>hmono _ _ (r5 j' hj'),r6⟩
   ·by_cases h1:nm'=nm
    ·simp[thUp,h1]at hg
    ·have h2:nm'≠r:=by rintro rfl;simp[own',h1]at ho
     simp only[own',h1,h2,if_false]at ho;simp only[thUp,h1,if_false]at hg;exact hrel.tok nm' _ _ _ ho g' c hg
   ·have hx:∀ n1 g' c,own' n1≠none→thUp θ nm none n1=some (g',c)→st.sto.own n1≠none∧θ n1=some (g',c):=fun n1 g' c ho hg=>by
     by_cases h1:n1=nm
     ·simp[thUp,h1]at hg
     ·simp only[thUp,h1,if_false]at hg;refine⟨?_,hg⟩
      by_cases h2:n1=r
      ·subst h2;have:st.sto.own n1=some (.row e0 cells):=hr;simp[this]
      ·simpa [own',h1,h2] using ho
    obtain⟨a1,a2⟩:=hx n1 g' c ho hg;obtain⟨b1,b2⟩:=hx n2 g' c' ho' hg';exact hrel.inj n1 n2 g' c c' a1 b1 a2 b2
   ·by_cases h1:nm'=nm
    ·simp[own',h1]at ho
    ·have h2:nm'≠r:=by rintro rfl;simp[own',h1]at ho
     simp only[own',h1,h2,if_false]at ho;exact Hr (hrel.arr nm' _ _ _ _ ho) (by simp[thUp,h1]) (fun _ _ _=>rfl) (fun _ _ _ _ h=>h) (fun _ _=>rfl) (fun v i j _ _ hv=>hmono _ _ hv)
   ·by_cases h1:nm'=nm
    ·simp only[own',h1,if_true,Option.some.injEq,Own.obj.injEq]at ho;subst ho;subst h1;exact .inr ⟨by simp[thUp],trivial⟩
    ·have h2:nm'≠r:=by rintro rfl;simp[own',h1]at ho
     simp only[own',h1,h2,if_false]at ho;exact Fb (hrel.obj nm' _ ho) (by simp[thUp,h1]) (fun _ _ _=>rfl) (fun _ _ _ _ h=>h) (fun _ hh=>hh.mono hmono) Lv
   ·by_cases h1:nm'=nm
    ·simp[own',h1]at ho
    ·have h2:nm'≠r:=by rintro rfl;simp[own',h1]at ho
     simp only[own',h1,h2,if_false]at ho;simp only[thUp,h1,if_false]at hnn;exact hrel.tok8 nm' _ _ ho hnn
  ·by_cases h1:nm'=nm
   ·simp[thUp,h1]at hg
   ·simp only[thUp,h1,if_false]at hg;refine .inr ⟨nm',c,?_,hg⟩
    by_cases h2:nm'=r
    ·subst h2;have:st.sto.own nm'=some (.row e0 cells):=hr;simp[this]
    ·simpa [own',h1,h2] using ho
 refine⟨I,thUp θ nm none,h.size,h.defers,fun t'=>?_,?_⟩
 ·rw[hown];exact(h.slots t').chg k
 ·rw[hown];exact h.chg.trans k
section
variable {P:Program} {Γ:Ek} {σ:Sto} {I:Nat→Nat→Prop} {θ:Nat→Option (Nat×Nat)} {a:Act} {w:World} {o:Oper}
end
open Classical in
open Classical in
section
variable {P:Program} {Γ:Ek}
end
section
variable {P:Program} {Γ:Ek}
def Ur(P:Program)(Γ:Ek)(body:Code)(K:Exit→St→Prop):Nat→St→Prop
 | 0,_=>False
 | n+1,st=>Oo P Γ body (fun e st'=>(e = .normal∧Ur P Γ body K n st')∨(e≠.normal∧K e st')) st
theorem awp_unroll{body:Code}{K:Exit→St→Prop}{st:St}(n:Nat)(h:Ur P Γ body K n st):Oo P Γ (.loop body) K st:=by
 intro I θ a w hrel;refine Yh (fun m a w=>∃ st I θ,Ur P Γ body K m st∧Rel Γ st.sto I θ a w) (fun m a w ⟨st,I,θ,hu,hrel⟩=>?_) (n:=n) ⟨st,I,θ,h,hrel⟩
 cases m with
 | zero=>exact hu.elim
 | succ m=>
  refine wp_mono (hu I θ a w hrel) fun e a' w' ⟨st',I',θ',h1,h2⟩=>?_;rcases h1 with⟨rfl,h1⟩|⟨hne,h1⟩
  ·exact⟨m,Nat.lt_succ_self m,st',I',θ',h1,h2⟩
  ·cases e with
   | normal=>exact(hne rfl).elim
   | _=>exact⟨st',I',θ',h1,h2⟩
end
inductive Frm where
 | nx (y:Code)
 | bl (id:Nat)
 | ag (c:Code) (n:Nat)
inductive Ia where
 | run (c:Code) (fs:List Frm)
 | out (e:Exit) (fs:List Frm)
def kOf(P:Program)(Γ:Ek)(K:Exit→St→Prop):List Frm→Exit→St→Prop
 | []=>K
 | .nx y::fs=>thenK P Γ y (kOf P Γ K fs)
 | .bl id::fs=>Rn id (kOf P Γ K fs)
 | .ag c n::fs=>fun e st=>(e = .normal∧Ur P Γ c (kOf P Γ K fs) n st)∨(e≠.normal∧kOf P Γ K fs e st)
def GG(P:Program)(Γ:Ek)(K:Exit→St→Prop):Ia→St→Prop
 | .run c fs,st=>Oo P Γ c (kOf P Γ K fs) st
 | .out e fs,st=>kOf P Γ K fs e st
def O6:Code→Nat→Nat
 | .exit i,k=>bif Nat.beq i k then 1 else 0
 | .seq a b,k=>Nat.min 2 (O6 a k+O6 b k)
 | .cond _ a b,k=>Nat.min 2 (O6 a k+O6 b k)
 | .loop c,k=>Nat.min 1 (O6 c k)
 | .scope c,k=>Nat.min 1 (O6 c k)
 | .block _ c,k=>O6 c k
 | _,_=>0
def Kv:Code→Nat
 | .region _ _ _=>1
 | .skip=>1
 | .label _=>1
 | .seq a b=>bif Nat.beq (Kv a) 0 then 0 else Kv b
 | .cond _ a b=>Nat.min 2 (Kv a+Kv b)
 | .block i c=>Nat.min 2 (Kv c+O6 c i)
 | .scope c=>Nat.min 2 (Kv c)
 | _=>0
def joinPt(a:Code):Bool:=match a with | .region _ _ _=>false|a=>Nat.ble 2 (Kv a)
def Vt:Nat→Code ⊕ Exit→List Frm→Ia
 | 0,.inl c,fs=>.run c fs
 | 0,.inr e,fs=>.out e fs
 | n+1,.inl c,fs=>
  match c with
  | .skip=>Vt n (.inr .normal) fs
  | .label _=>Vt n (.inr .normal) fs
  | .seq a b=>bif joinPt a then .run (.seq a b) fs else Vt n (.inl a) (.nx b::fs)
  | .block id a=>Vt n (.inl a) (.bl id::fs)
  | .exit id=>Vt n (.inr (.exit id)) fs
  | .goto l=>Vt n (.inr (.goto l)) fs
  | .ret=>Vt n (.inr .ret) fs
  | c=>.run c fs
 | n+1,.inr e,fs=>
  match fs with
  | []=>.out e []
  | .nx y::fs=>(match e with | .normal=>Vt n (.inl y) fs|e=>Vt n (.inr e) fs)
  | .bl id::fs=>(match e with | .exit i=>bif Nat.beq i id then Vt n (.inr .normal) fs else Vt n (.inr (.exit i)) fs|e=>Vt n (.inr e) fs)
  | .ag c m::fs=>(match e with | .normal=>(match m with|0=>.out .normal (.ag c 0::fs)|m+1=>Vt n (.inl c) (.ag c m::fs))|e=>Vt n (.inr e) fs)
section
variable {P:Program} {Γ:Ek} {K:Exit→St→Prop}
theorem Bj:∀(n:Nat) (x:Code ⊕ Exit) (fs:List Frm) (st:St),GG P Γ K (Vt n x fs) st→(match x with | .inl c=>Oo P Γ c (kOf P Γ K fs) st | .inr e=>kOf P Γ K fs e st)
 | 0,.inl c,fs,st,h=>h
 | 0,.inr e,fs,st,h=>h
 | n+1,.inl c,fs,st,h=>by
  cases c with
  | skip=>exact awp_skip (Bj n (.inr .normal) fs st h)
  | label l=>exact awp_label (Bj n (.inr .normal) fs st h)
  | seq a b=>
   cases hj:joinPt a with
   | true=>simp only[Vt,hj,cond_true]at h;exact h
   | false=>simp only[Vt,hj,cond_false]at h;exact awp_seq (Bj n (.inl a) (.nx b::fs) st h)
  | block id a=>exact awp_block (Bj n (.inl a) (.bl id::fs) st h)
  | exit id=>exact awp_exit (Bj n (.inr (.exit id)) fs st h)
  | goto l=>exact awp_goto (Bj n (.inr (.goto l)) fs st h)
  | ret=>exact awp_ret (Bj n (.inr .ret) fs st h)
  | _=>exact h
 | n+1,.inr e,[],st,h=>h
 | n+1,.inr e,.nx y::fs,st,h=>by
  cases e with
  | normal=>exact Bj n (.inl y) fs st h
  | exit i=>exact Bj n (.inr (.exit i)) fs st h
  | goto l=>exact Bj n (.inr (.goto l)) fs st h
  | ret=>exact Bj n (.inr .ret) fs st h
  | panic c=>exact Bj n (.inr (.panic c)) fs st h
  | outgrown=>exact Bj n (.inr .outgrown) fs st h
 | n+1,.inr e,.bl id::fs,st,h=>by
  cases e with
  | normal=>exact Bj n (.inr .normal) fs st h
  | exit i=>
   show Rn id (kOf P Γ K fs) (.exit i) st
   cases hb:Nat.beq i id with
   | true=>
    obtain rfl:=Nat.eq_of_beq_eq_true hb;simp only[Vt,hb,cond_true]at h;exact block_here (Bj n (.inr .normal) fs st h)
   | false=>
    simp only[Vt,hb,cond_false]at h;exact block_exit hb (Bj n (.inr (.exit i)) fs st h)
  | goto l=>exact Bj n (.inr (.goto l)) fs st h
  | ret=>exact Bj n (.inr .ret) fs st h
  | panic c=>exact Bj n (.inr (.panic c)) fs st h
  | outgrown=>exact Bj n (.inr .outgrown) fs st h
 | n+1,.inr e,.ag c m::fs,st,h=>by
  cases e with
  | normal=>
   cases m with
   | zero=>exact h
   | succ m=>exact .inl ⟨rfl,Bj n (.inl c) (.ag c m::fs) st h⟩
  | exit i=>exact .inr ⟨(by intro hh;cases hh),Bj n (.inr (.exit i)) fs st h⟩
  | goto l=>exact .inr ⟨(by intro hh;cases hh),Bj n (.inr (.goto l)) fs st h⟩
  | ret=>exact .inr ⟨(by intro hh;cases hh),Bj n (.inr .ret) fs st h⟩
  | panic ch=>exact .inr ⟨(by intro hh;cases hh),Bj n (.inr (.panic ch)) fs st h⟩
  | outgrown=>exact .inr ⟨(by intro hh;cases hh),Bj n (.inr .outgrown) fs st h⟩
theorem Fi{n:Nat}{c:Code}{fs:List Frm}{st:St}(h:GG P Γ K (Vt n (.inl c) fs) st):Oo P Γ c (kOf P Γ K fs) st:=Bj n (.inl c) fs st h
theorem Pk{n:Nat}{e:Exit}{fs:List Frm}{st:St}(h:GG P Γ K (Vt n (.inr e) fs) st):kOf P Γ K fs e st:=Bj n (.inr e) fs st h
def inC(c:Code)(fs:List Frm):Ia:=Vt 400 (.inl c) fs
def exC(e:Exit)(fs:List Frm):Ia:=Vt 400 (.inr e) fs
def nxC:Ia→Ia
 | .run _ fs=>exC .normal fs
 | x=>x
def opsC:Ia→Option (List Oper×Bool)
 | .run (.region _ ops draw) _=>some (ops.toList,draw)
 | _=>none
def doR(P:Program)(S:R5)(n:Nat)(cs:List (Nat×AV))(live names:List Nat)(x:Ia)(st:St)(rs:List T7):Option (St×List Prop×Bool):=
 match opsC x with
 | some (ops,draw)=>Us P S n cs live names ops draw st rs
 | none=>none
def nxS(P:Program)(S:R5)(n:Nat)(cs:List (Nat×AV))(live names:List Nat)(x:Ia)(st:St)(rs:List T7):St:=
 match doR P S n cs live names x st rs with
 | some r=>r.1
 | none=>st
def obR(r:Option (St×List Prop×Bool)):Option (Prop×Bool):=
 match r with
 | some r=>some (Aab r.2.1,r.2.2)
 | none=>none
theorem gR{x:Ia}{st:St}{n:Nat}{H:List (Nat×Own)}(q:RgQ P Γ n H)(live names:List Nat)(cs:List (Nat×AV))(rs:List T7){O:Prop}(hO:O)
  (k:GG P Γ K (nxC x) (nxS P (Spec P) n cs live names x st rs))
  (h:obR (doR P (Spec P) n cs live names x st rs)=some (O,true):=by kernel_rfl) (hh:(H.all fun x=>Bl x.1 names)=true:=by kernel_rfl):GG P Γ K x st:=by
 unfold doR at h;unfold nxS doR at k
 cases x with
 | out e fs=>simp[opsC,obR]at h
 | run c fs=>
  cases c with
  | region id ops draw=>
   simp only[opsC]at h k
   cases hr:Us P (Spec P) n cs live names ops.toList draw st rs with
   | none=>rw[hr]at h;simp[obR]at h
   | some r=>
    obtain⟨st',obs,d⟩:=r;rw[hr]at h k;simp only[obR,Option.some.injEq,Prod.mk.injEq]at h;obtain⟨rfl,rfl⟩:=h;have:=awp_region (id:=id) (K:=kOf P Γ K fs) q.hn q.mix (q.hand hh) hr hO (Pk k);exact(by simpa using this:Oo P Γ (.region id ops draw) (kOf P Γ K fs) st)
  | _=>simp[opsC,obR]at h
theorem Af{x:Ia}{st:St}{n:Nat}{H:List (Nat×Own)}(q:RgQ P Γ n H)(live names:List Nat)
  (k:GG P Γ K (nxC x) (nxS P (Spec P) n [] live names x st []))
  (h:obR (doR P (Spec P) n [] live names x st [])=some (True,true):=by kernel_rfl) (hh:(H.all fun x=>Bl x.1 names)=true:=by kernel_rfl):GG P Γ K x st:=gR q live names [] [] trivial k h hh
def isRun:Ia→Bool | .run _ _=>true|_=>false
theorem Ie{x:Ia}{st st':St}(h:Le Γ st st')
  (k:GG P Γ K x st')
  (hx:isRun x=true:=by kernel_rfl):GG P Γ K x st:=by
 cases x with
 | run c fs=>exact awp_le h k
 | out e fs=>cases hx
theorem Oy{x:Ia}{st:St}(st':St)
  (k:GG P Γ K x st')
  (h:st=st':=by kernel_rfl):GG P Γ K x st:=h▸k
def condV(x:Ia)(st:St):AV:=match x with | .run (.cond c _ _) _=>evA st.get c|_=>.any
def brC(b:Bool):Ia→Ia
 | .run (.cond _ c d) fs=>inC (bif b then c else d) fs
 | x=>x
theorem gC{x:Ia}{st:St}{R:Type}{b:Bool}{m1 m2:Option R}{r:R}(h:(bif b then m1 else m2)=some r)
  (kt:m1=some r→GG P Γ K (brC true x) st) (kf:m2=some r→GG P Γ K (brC false x) st)
  (hv:condV x st = .bool b:=by kernel_rfl):GG P Γ K x st:=by
 cases x with
 | out e fs=>cases hv
 | run c fs=>
  cases c with
  | cond c y z=>
   refine Zy b hv (fun hb=>Fi (n:=400) (kt ?_)) (fun hb=>Fi (n:=400) (kf ?_))
   ·subst hb;exact h
   ·subst hb;exact h
  | _=>cases hv
theorem Sr{x:Ia}{st:St}(b:Bool)
  (k:GG P Γ K (brC b x) st)
  (hv:condV x st = .bool b:=by kernel_rfl):GG P Γ K x st:=by
 cases x with
 | out e fs=>cases hv
 | run c fs=>
  cases c with
  | cond c y z=>
   refine Zy b hv (fun hb=>Fi (n:=400) ?_) (fun hb=>Fi (n:=400) ?_)
   ·subst hb;exact k
   ·subst hb;exact k
  | _=>cases hv
theorem gNil{x:Ia}{st:St}(pos:Bool)(n:Nat)
  (kt:(pos=true→n=0)→GG P Γ K (brC true x) st) (kf:(pos=false→n=0)→GG P Γ K (brC false x) st)
  (hv:condV x st = .nilq pos n:=by kernel_rfl):GG P Γ K x st:=by
 cases x with
 | out e fs=>cases hv
 | run c fs=>
  cases c with
  | cond c y z=>exact awp_nilq pos n hv (fun hb=>Fi (n:=400) (kt hb)) (fun hb=>Fi (n:=400) (kf hb))
  | _=>cases hv
theorem gB{R:Type}{c:Bool}{m1 m2:Option R}{r:R}{G:Prop}(h:(bif c then m1 else m2)=some r)(kt:c=true→m1=some r→G)(kf:c=false→m2=some r→G):G:=by
 cases c with
 | true=>exact kt rfl h
 | false=>exact kf rfl h
theorem eqB(F:Bool→Prop){c b:Bool}(hs:c=b)(h:F c):F b:=hs▸h
theorem lt1{P:Nat→Prop}(h0:P 0)(i:Nat)(h:i<1):P i:=by
 obtain rfl:i=0:=by omega
 exact h0
theorem rk(o:Own):some o=some o:=rfl
theorem Bm{k:IntKind}{a b:Int}(h:decide (a=b)=true):AVle (.int k a) (.int k b):=by rw[of_decide_eq_true h];exact .refl _
theorem av_dec{a b:Bool}(h:a=b):AVle (.bool a) (.bool b):=by rw[h];exact .refl _
theorem gNo{p:Prop}(h:false=true):p:=Bool.noConfusion h
theorem gK{x:Ia}{st:St}{e:Exit}(h:K e st)(hx:x = .out e []:=by kernel_rfl):GG P Γ K x st:=by subst hx;exact h
def aG(Γ:Ek)(e0:Exit)(og:St):Exit→St→Prop:=fun e st=>e=e0∧Le Γ st og
def aR(K:Exit→St→Prop):Exit→St→Prop:=fun e st=>e = .ret∧K e st
theorem B2{e0:Exit}{og st:St}(h:Le Γ st og):aG Γ e0 og e0 st:=⟨rfl,h⟩
theorem Jw{st:St}(h:K .ret st):aR K .ret st:=⟨rfl,h⟩
def isN:Exit→Bool | .normal=>true|_=>false
theorem gN{S X:Type}{x:Ia}{st:St}{H:S→St}{KX:X→Exit→St→Prop}{s':S}(h:Le Γ st (H s'))(hx:x = .out .normal []:=by kernel_rfl):GG P Γ (Zf Γ H KX (.next s')) x st:=by
 subst hx;exact⟨rfl,h⟩
theorem gO{S X:Type}{x:Ia}{st:St}{H:S→St}{KX:X→Exit→St→Prop}{y:X}{e:Exit}(h:KX y e st)(hx:x = .out e []:=by kernel_rfl)(hn:isN e=false:=by kernel_rfl):GG P Γ (Zf Γ H KX (.done y)) x st:=by
 subst hx;exact⟨(by rintro rfl;cases hn),h⟩
def fK(P:Program)(Γ:Ek)(rs:List ResultVar)(H:List (Nat×Own))(res:AV)(H':List (Nat×Own)):Exit→St→Prop:=clK Γ (retK P rs H res H')
theorem Fx{rs:List ResultVar}{H H':List (Nat×Own)}{res:AV}{st st':St}{e:Exit}(ρ:List (Nat×Nat))(hl:Le Γ st st')(hr:retOf P rs ρ H st'=some (res,H'):=by kernel_rfl)
  (he:(match e with | .ret=>true | .normal=>true|_=>false)=true:=by kernel_rfl):fK P Γ rs H res H' e st:=by
 refine⟨st',hl,?_,ρ,hr⟩
 cases e with
 | ret=>exact .inl rfl
 | normal=>exact .inr rfl
 | _=>cases he
theorem Bk{rs:List ResultVar}{H H':List (Nat×Own)}{res:AV}{x:Ia}{st:St}(ρ:List (Nat×Nat))(hr:retOf P rs ρ H st=some (res,H'):=by kernel_rfl)
  (hx:x = .out .ret []:=by kernel_rfl):GG P Γ (fK P Γ rs H res H') x st:=gK (e:=.ret) (Fx ρ (Le.refl _ _) hr) hx
def bodyOf(fn:Func):Code:=match fn.body with|some c=>c|none=>.skip
theorem Ac {f : FuncId} {fn : Func} {args : List AV} {H H' : List (Nat × Own)} {res : AV} (hm : P.follows .mixedOrders = true) (hf : P.funcs[f]? = some fn)
    (k : ∀ Γ : Ek, RgQ P Γ fn.ntmps H → GG P Γ (fK P Γ fn.results.toList H res H') (inC (bodyOf fn) []) (Vm args H))
    (hb : fn.body.isSome = true := by kernel_rfl) (hname : (fn.name == "runtime.NumGoroutine") = false := by kernel_rfl) (hlen : Nat.ble args.length fn.ntmps = true := by kernel_rfl) (hpl : Zd H = true := by kernel_rfl) : Spec P f args H res H' := by
  obtain ⟨c, hc⟩ := Option.isSome_iff_exists.1 hb
  have e : bodyOf fn = c := by unfold bodyOf; rw [hc]
  refine spec_of_awp hf hc hname hlen (fun Γ hn hΓ => ?_) hpl; have := k Γ ⟨hn, hm, hΓ⟩; rw [e] at this; exact awp_cl (Fi this)
theorem leq_of{st st':St}(h:st=st'):Le Γ st st':=h▸Le.refl Γ st
def isLoop:Ia→Bool | .run (.loop _) _=>true|_=>false
def bodyC:Ia→Ia
 | .run (.loop c) _=>inC c []
 | x=>x
def outC(e:Exit):Ia→Ia
 | .run _ fs=>exC e fs
 | x=>x
def putS{α:Type}(k:Nat)(x:α):List (Nat×α)→List (Nat×α)
 | []=>[(k,x)]
 | (k',y)::l=>bif Nat.beq k k' then(k,x)::l else bif Nat.blt k k' then(k,x)::(k',y)::l else(k',y)::putS k x l
def putL{α:Type}:List (Nat×α)→List (Nat×α)→List (Nat×α)
 | [],l=>l
 | (k,x)::r,l=>putL r (putS k x l)
def Cx(st:St)(ts:List (Nat×AV))(os:List (Nat×Own))(fs:List (Nat×Fam):=[]):St:=⟨putL ts st.tmps,putL os st.own,putL fs st.fam⟩
def Rz(live names:List Nat)(st:St)(ts:List (Nat×AV))(os:List (Nat×Own))(fs:List (Nat×Fam):=[]):St:=D2 live names (Cx st ts os fs)
theorem gL{S X:Type}{x:Ia}{st:St}{n:Nat}{Hf:List (Nat×Own)}(q:RgQ P Γ n Hf){f:S→Option (LR S X)}{s0:S}{y:X}(hx:Az f s0=some y)(live names:List Nat)(H:St→S→St)(KX:St→X→Exit→St→Prop)
  (kb:∀ s y,f s=some y→GG P Γ (Zf Γ (H (D2 live names st)) (KX (D2 live names st)) y) (bodyC x) (H (D2 live names st) s)) (ko:∀ e st',KX (D2 live names st) y e st'→GG P Γ K (outC e x) st')
  (h0:D2 live names st=H (D2 live names st) s0:=by kernel_rfl) (hl:isLoop x=true:=by kernel_rfl) (hh:(Hf.all fun x=>Bl x.1 names)=true:=by kernel_rfl):GG P Γ K x st:=by
 cases x with
 | out e fs=>cases hl
 | run c fs=>
  cases c with
  | loop c=>
   refine awp_le (st':=H (D2 live names st) s0) ?_ (awp_loop (H (D2 live names st)) f (KX (D2 live names st)) (fun s y hy=>Fi (kb s y hy)) hx fun e st' hk=>Pk (ko e st' hk));rw[← h0];exact B0 live names q rfl hh
  | _=>cases hl
theorem gA{x:Ia}{f:Exit→Ia→Ia}{e0:Exit}{og:St}
  (k:GG P Γ K (f e0 x) og)
  (hr:isRun (f e0 x)=true:=by kernel_rfl):∀ e st',aG Γ e0 og e st'→GG P Γ K (f e x) st':=by
 rintro e st' ⟨rfl,hl⟩;exact Ie hl k hr
theorem gA'{x:Ia}{f:Exit→Ia→Ia}{e0:Exit}{og:St}(k:∀ st',Le Γ st' og→GG P Γ K (f e0 x) st'):∀ e st',aG Γ e0 og e st'→GG P Γ K (f e x) st':=by
 rintro e st' ⟨rfl,hl⟩;exact k st' hl
theorem Qx{x:Ia}{f:Exit→Ia→Ia}{K':Exit→St→Prop}(k:∀ st',K' .ret st'→GG P Γ K (f .ret x) st'):∀ e st',aR K' e st'→GG P Γ K (f e x) st':=by
 rintro e st' ⟨rfl,hl⟩;exact k st' hl
theorem gU{x:Ia}{st:St}(n:Nat)
  (k:GG P Γ K (match x with | .run (.loop c) fs=>inC c (.ag c n::fs)|x=>x) st)
  (hl:isLoop x=true:=by kernel_rfl):GG P Γ K x st:=by
 cases x with
 | out e fs=>cases hl
 | run c fs=>
  cases c with
  | loop c=>exact awp_unroll (n+1) (Fi k)
  | _=>cases hl
def isSeq:Ia→Bool | .run (.seq _ _) _=>true|_=>false
def headC:Ia→Ia
 | .run (.seq a _) _=>inC a []
 | x=>x
def restC(e:Exit):Ia→Ia
 | .run (.seq _ b) fs=>exC e (.nx b::fs)
 | x=>x
theorem gJ{X:Type}{x:Ia}{st:St}{m:Option X}{y:X}(hx:m=some y)(KX:X→Exit→St→Prop)
  (kb:∀ y,m=some y→GG P Γ (KX y) (headC x) st) (ko:∀ e st',KX y e st'→GG P Γ K (restC e x) st')
  (hs:isSeq x=true:=by kernel_rfl):GG P Γ K x st:=by
 cases x with
 | out e fs=>cases hs
 | run c fs=>
  cases c with
  | seq a b=>exact awp_seq (Zz KX hx (fun y hy=>Fi (kb y hy)) fun e st' hk=>Pk (ko e st' hk))
  | _=>cases hs
def isReg:Ia→Bool | .run (.region _ _ _) _=>true|_=>false
def aloneC:Ia→Ia
 | .run c _=>.run c []
 | x=>x
def backC(e:Exit):Ia→Ia
 | .run _ fs=>exC e fs
 | x=>x
theorem gJR{X:Type}{x:Ia}{st:St}{m:Option X}{y:X}(hx:m=some y)(KX:X→Exit→St→Prop)
  (kb:∀ y,m=some y→GG P Γ (KX y) (aloneC x) st) (ko:∀ e st',KX y e st'→GG P Γ K (backC e x) st')
  (hs:isReg x=true:=by kernel_rfl):GG P Γ K x st:=by
 cases x with
 | out e fs=>cases hs
 | run c fs=>exact Zz KX hx (fun y hy=>kb y hy) fun e st' hk=>Pk (ko e st' hk)
def isScope:Ia→Bool | .run (.scope _) _=>true|_=>false
def scB:Ia→Code | .run (.scope c) _=>c|_=>.skip
def labC(c:Code)(l:Nat):Ia:=inC ((findLabel c l).getD .skip) []
theorem gS{S X:Type}{x:Ia}{st:St}{f0:Option (LR S X)}{f:S→Option (LR S X)}{y:X}(hx:K2 f0 f=some y)(lab:S→Nat)(H:S→St)(KX:X→Exit→St→Prop)
  (k0:∀ y,f0=some y→GG P Γ (Vo Γ (scB x) lab H KX y) (inC (scB x) []) st) (kb:∀ s y,f s=some y→GG P Γ (Vo Γ (scB x) lab H KX y) (labC (scB x) (lab s)) (H s)) (ko:∀ e st',KX y e st'→GG P Γ K (outC e x) st')
  (hs:isScope x=true:=by kernel_rfl):GG P Γ K x st:=by
 cases x with
 | out e fs=>cases hs
 | run c fs=>
  cases c with
  | scope c=>
   refine awp_scope lab H f0 f KX (fun y hy=>Fi (k0 y hy)) (fun s y rest hf hy=>?_) hx fun e st' hk=>Pk (ko e st' hk);have:=kb s y hy;unfold labC scB at this;rw[hf]at this;exact Fi this
  | _=>cases hs
theorem gJn{S X:Type}{x:Ia}{st:St}{c:Code}{lab:S→Nat}{H:S→St}{KX:X→Exit→St→Prop}{s':S}(h:Le Γ st (H s'))(hx:x = .out (.goto (lab s')) []:=by kernel_rfl)(hf:(findLabel c (lab s')).isSome=true:=by kernel_rfl) :
  GG P Γ (Vo Γ c lab H KX (.next s')) x st:=by
 subst hx;exact⟨rfl,hf,h⟩
theorem Wm{S X:Type}{x:Ia}{st:St}{c:Code}{lab:S→Nat}{H:S→St}{KX:X→Exit→St→Prop}{y:X}{e:Exit}(h:KX y e st)(hx:x = .out e []:=by kernel_rfl)
  (hf:(match e with | .goto l=>(findLabel c l).isNone|_=>true)=true:=by kernel_rfl):GG P Γ (Vo Γ c lab H KX (.done y)) x st:=by
 subst hx;refine⟨?_,h⟩;rintro l rfl
 simpa using hf
theorem K7{α:Type}{st:St}(U:α→St→St){a b:α}(h:a=b)(h1:st=U a st:=by kernel_rfl):Le Γ st (U b st):=by subst h;exact leq_of h1
theorem leB{st:St}(F F':Bool→St→St)(g:Bool)(h1:st=F g st:=by kernel_rfl)(ht:F true st=F' true st:=by kernel_rfl)(hf:F false st=F' false st:=by kernel_rfl):Le Γ st (F' g st):=by
 refine leq_of (h1.trans ?_)
 cases g<;>assumption
def Own.withF(g:Nat→List AV):Own→Own
 | .arr sz e n _=>.arr sz e n g
 | o=>o
def arrAt(st:St)(nm:Nat):Option (Nat×(Nat→List AV)):=match Ad st.own nm with|some (.arr _ _ n f)=>some (n,f)|_=>none
def setF(nm:Nat)(g:Nat→List AV)(st:St):St:=⟨st.tmps,(match Ad st.own nm with|some o=>B1 st.own nm (o.withF g)|none=>st.own),st.fam⟩
theorem V3{nm sz n:Nat}{e:TypeId}{f g:Nat→List AV}(hp:∀ k,k<n→AVleL (f k) (g k)):∀{l:List (Nat×Own)},Ad l nm=some (.arr sz e n f)→OwnsLe l (B1 l nm (.arr sz e n g))
 | [],h=>by cases h
 | (k,o)::l,h=>by
  simp only[Ad]at h;simp only[B1]
  cases hb:Nat.beq k nm with
  | true=>
   obtain rfl:=Nat.eq_of_beq_eq_true hb;rw[hb]at h;simp only[cond_true,Option.some.injEq]at h;subst h;exact .arr hp (.refl _)
  | false=>
   rw[hb]at h;exact .same (V3 hp h)
theorem K6{st:St}(nm:Nat){n:Nat}{f g:Nat→List AV}(hp:∀ k,k<n→AVleL (f k) (g k))(h:arrAt st nm=some (n,f):=by kernel_rfl):Le Γ st (setF nm g st):=by
 unfold arrAt at h;unfold setF
 cases ho:Ad st.own nm with
 | none=>rw[ho]at h;cases h
 | some o=>
  rw[ho]at h
  cases o with
  | arr sz e n' f'=>
   simp only[Option.some.injEq,Prod.mk.injEq]at h;obtain⟨rfl,rfl⟩:=h;exact Pc (TmpsLe.refl _) (V3 hp ho)
  | _=>cases h
def cellAt(st:St)(nm j:Nat):Option AV:=match Ad st.own nm with|some (.row _ cells)=>cells[j]? | _=>none
def Own.withC(j:Nat)(x:AV):Own→Own
 | .row e cells=>.row e (cells.set j x)
 | o=>o
def setC(nm j:Nat)(x:AV)(st:St):St:=⟨st.tmps,(match Ad st.own nm with|some o=>B1 st.own nm (o.withC j x)|none=>st.own),st.fam⟩
theorem leL_set{a b:AV}(h:AVle a b):∀{l:List AV} {j:Nat},l[j]?=some a→AVleL l (l.set j b)
 | [],j,h=>by simp at h
 | x::l,0,h'=>by
  simp only[List.getElem?_cons_zero,Option.some.injEq]at h';subst h';exact .cons h (.refl _)
 | x::l,j+1,h'=>by
  simp only[List.getElem?_cons_succ]at h';exact .cons (.refl _) (leL_set h h')
theorem V4{nm:Nat}{e:TypeId}{x y:List AV}(hp:AVleL x y):∀{l:List (Nat×Own)},Ad l nm=some (.row e x)→OwnsLe l (B1 l nm (.row e y))
 | [],h=>by cases h
 | (k,o)::l,h=>by
  simp only[Ad]at h;simp only[B1]
  cases hb:Nat.beq k nm with
  | true=>
   obtain rfl:=Nat.eq_of_beq_eq_true hb;rw[hb]at h;simp only[cond_true,Option.some.injEq]at h;subst h;exact .row hp (.refl _)
  | false=>
   rw[hb]at h;exact .same (V4 hp h)
theorem leC{st:St}(nm j:Nat){a b:AV}(hp:AVle a b)(h:cellAt st nm j=some a:=by kernel_rfl):Le Γ st (setC nm j b st):=by
 unfold cellAt at h;unfold setC
 cases ho:Ad st.own nm with
 | none=>rw[ho]at h;cases h
 | some o=>
  rw[ho]at h
  cases o with
  | row e cells=>exact Pc (TmpsLe.refl _) (V4 (leL_set hp h) ho)
  | _=>cases h
theorem gI(g:Bool):g=true→g=true:=id
theorem Lh(c:Bool):c=true→(c==true)=true:=gT
theorem Qn(c:Bool):c=false→(c==false)=true:=gF
theorem Bd{α:Type}(sz:Nat)(e:α→List AV)(d:α)(l:List α):AVle (.slice sz l.length (fun i=>(l.map e).getD i []) .exact) (AV.list sz e d l .exact):=av_lit rfl fun i h=>map_get l i h
theorem Bq{α:Type}(sz:Nat)(e:α→List AV)(d:α):AVle (.slice 0 0 (fun _=>[]) .exact) (AV.list sz e d [] .exact):=Dv
theorem Ut{α:Type}(sz nm:Nat)(e:α→List AV)(d:α)(l m:List α):AVle (.slice sz (l.length+m.length) (G0 l.length (fun i=>e (l.getD i d)) (fun i=>e (m.getD i d))) (.own nm)) (AV.list sz e d (l++m) (.own nm)):=av_app
theorem C9{st st':St}(h:st=st':=by kernel_rfl):Le Γ st st':=h▸Le.refl Γ st
theorem ci{p q:Prop}(a:p)(b:q):p∧q:=⟨a,b⟩
theorem c1{p:Prop}(a:p):p∧True:=⟨a,trivial⟩
end
open Go.Shelf
def lays189_ren:Go.Shelf.Ren:=⟨fun|189=>164|125=>176|257=>175|128=>196|129=>197|294=>187|295=>188|296=>189|297=>190|298=>191|299=>192|216=>193|300=>194|301=>195|328=>202|329=>203|330=>204|331=>205|332=>206|215=>207|343=>208|n=>n,fun|28=>22|3=>3|46=>138|0=>0|51=>188|53=>37|4=>4|183=>204|182=>203|131=>207|5=>5|9=>9|218=>213|222=>217|228=>219|229=>112|n=>n,fun|n=>n⟩
theorem lays189:Go.Proofs.Lays.n189 Tryz.prog lays189_ren:={
 mixed:=by kernel_rfl
 f125:=Tryz.func176.trans (congrArg some (by kernel_rfl))
 f128:=Tryz.func196.trans (congrArg some (by kernel_rfl))
 f129:=Tryz.func197.trans (congrArg some (by kernel_rfl))
 f189:=Tryz.func164.trans (congrArg some (by kernel_rfl))
 f215:=Tryz.func207.trans (congrArg some (by kernel_rfl))
 f216:=Tryz.func193.trans (congrArg some (by kernel_rfl))
 f257:=Tryz.func175.trans (congrArg some (by kernel_rfl))
 f294:=Tryz.func187.trans (congrArg some (by kernel_rfl))
 f295:=Tryz.func188.trans (congrArg some (by kernel_rfl))
 f296:=Tryz.func189.trans (congrArg some (by kernel_rfl))
 f297:=Tryz.func190.trans (congrArg some (by kernel_rfl))
 f298:=Tryz.func191.trans (congrArg some (by kernel_rfl))
 f299:=Tryz.func192.trans (congrArg some (by kernel_rfl))
 f300:=Tryz.func194.trans (congrArg some (by kernel_rfl))
 f301:=Tryz.func195.trans (congrArg some (by kernel_rfl))
 f328:=Tryz.func202.trans (congrArg some (by kernel_rfl))
 f329:=Tryz.func203.trans (congrArg some (by kernel_rfl))
 f330:=Tryz.func204.trans (congrArg some (by kernel_rfl))
 f331:=Tryz.func205.trans (congrArg some (by kernel_rfl))
 f332:=Tryz.func206.trans (congrArg some (by kernel_rfl))
 f343:=Tryz.func208.trans (congrArg some (by kernel_rfl))
 t0:=Tryz.underlying0
 a0:=Tryz.isAgg0
 z0:=Tryz.sizeOf0
 v0:=Tryz.zeroValue0
 t3:=Tryz.underlying3
 a3:=Tryz.isAgg3
 z3:=Tryz.sizeOf3
 v3:=Tryz.zeroValue3
 t4:=Tryz.underlying4
 a4:=Tryz.isAgg4
 z4:=Tryz.sizeOf4
 v4:=Tryz.zeroValue4
 t5:=Tryz.underlying5
 a5:=Tryz.isAgg5
 z5:=Tryz.sizeOf5
 v5:=Tryz.zeroValue5
 t9:=Tryz.underlying9
 a9:=Tryz.isAgg9
 z9:=Tryz.sizeOf9
 v9:=Tryz.zeroValue9
 t28:=Tryz.underlying22
 a28:=Tryz.isAgg22
 z28:=Tryz.sizeOf22
 v28:=Tryz.zeroValue22
 t46:=Tryz.underlying138
 a46:=Tryz.isAgg138
 z46:=Tryz.sizeOf138
 v46:=Tryz.zeroValue138
 t51:=Tryz.underlying188
 a51:=Tryz.isAgg188
 z51:=Tryz.sizeOf188
 v51:=Tryz.zeroValue188
 t53:=Tryz.underlying37
 a53:=Tryz.isAgg37
 z53:=Tryz.sizeOf37
 v53:=Tryz.zeroValue37
 t131:=Tryz.underlying207
 a131:=Tryz.isAgg207
 z131:=Tryz.sizeOf207
 v131:=Tryz.zeroValue207
 t182:=Tryz.underlying203
 a182:=Tryz.isAgg203
 z182:=Tryz.sizeOf203
 v182:=Tryz.zeroValue203
 t183:=Tryz.underlying204
 a183:=Tryz.isAgg204
 z183:=Tryz.sizeOf204
 v183:=Tryz.zeroValue204
 t218:=Tryz.underlying213
 a218:=Tryz.isAgg213
 z218:=Tryz.sizeOf213
 v218:=Tryz.zeroValue213
 t222:=Tryz.underlying217
 a222:=Tryz.isAgg217
 z222:=Tryz.sizeOf217
 v222:=Tryz.zeroValue217
 t228:=Tryz.underlying219
 a228:=Tryz.isAgg219
 z228:=Tryz.sizeOf219
 v228:=Tryz.zeroValue219
 t229:=Tryz.underlying112
 a229:=Tryz.isAgg112
 z229:=Tryz.sizeOf112
 v229:=Tryz.zeroValue112 }
def Wy:Go.Shelf.Ren:=⟨fun|15=>163|n=>n,fun|22=>22|3=>3|4=>4|n=>n,fun|n=>n⟩
theorem Sx:Go.Proofs.Lays2.n15 Tryz.prog Wy:={
 mixed:=by kernel_rfl
 f15:=Tryz.func163.trans (congrArg some (by kernel_rfl))
 t3:=Tryz.underlying3
 a3:=Tryz.isAgg3
 z3:=Tryz.sizeOf3
 v3:=Tryz.zeroValue3
 t4:=Tryz.underlying4
 a4:=Tryz.isAgg4
 z4:=Tryz.sizeOf4
 v4:=Tryz.zeroValue4
 t22:=Tryz.underlying22
 a22:=Tryz.isAgg22
 z22:=Tryz.sizeOf22
 v22:=Tryz.zeroValue22
 i3:=by kernel_rfl }
def Wz:Go.Shelf.Ren:=⟨fun|20=>165|n=>n,fun|22=>22|3=>3|4=>4|0=>0|n=>n,fun|n=>n⟩
theorem Xz:Go.Proofs.Lays2.n20 Tryz.prog Wz:={
 mixed:=by kernel_rfl
 f20:=Tryz.func165.trans (congrArg some (by kernel_rfl))
 t0:=Tryz.underlying0
 a0:=Tryz.isAgg0
 z0:=Tryz.sizeOf0
 v0:=Tryz.zeroValue0
 t3:=Tryz.underlying3
 a3:=Tryz.isAgg3
 z3:=Tryz.sizeOf3
 v3:=Tryz.zeroValue3
 t4:=Tryz.underlying4
 a4:=Tryz.isAgg4
 z4:=Tryz.sizeOf4
 v4:=Tryz.zeroValue4
 t22:=Tryz.underlying22
 a22:=Tryz.isAgg22
 z22:=Tryz.sizeOf22
 v22:=Tryz.zeroValue22
 i3:=by kernel_rfl }
open Go.Sort
section
variable {I:Nat→Nat→Prop} {θ:Nat→Option (Nat×Nat)} {w w':World}
theorem ownRel_nil(I:Nat→Nat→Prop)(θ:Nat→Option (Nat×Nat))(w:World):Eo I (Ad []) θ w:=
 ⟨(fun _ _ _ h=>by cases h),(fun _ _ _ _ h=>by cases h),(fun _ _ _ _ _ h=>(h rfl).elim),(fun _ _ _ _ _ h=>by cases h),(fun _ _ h=>by cases h),(fun _ _ _ h=>by cases h)⟩
theorem repL_one{own:Nat→Option Own}{zs:Array Value}{x:AV}(h:RepL I own θ w zs.toList [x]):∃ v,zs = #[v]∧Rep I own θ w v x:=by
 obtain⟨l⟩:=zs
 cases h with
 | cons h1 h2=>cases h2;exact⟨_,rfl,h1⟩
theorem Qu(hb:Below w.heap.size w w')(hval:∀ b o,I b o→∃ u,w.cell? ⟨b,o,none⟩=some u){N:Nat→Nat→Prop}(hN:∀ b o,N b o→w.heap.size≤b∧∃ u,w'.cell? ⟨b,o,none⟩=some u) :
  Chg (Ad []) θ I w (Ad []) θ (fun b o=>I b o∨N b o) w':=
 have hcell:∀ b o,I b o→w'.cell? ⟨b,o,none⟩=w.cell? ⟨b,o,none⟩:=fun b o hi=>by
  obtain⟨u,hu⟩:=hval b o hi;exact World.cell?_of_block (a:=⟨b,o,none⟩) (hb.block b (Iv hu))
 {imm:=fun _ _ h=>.inl h,cell:=hcell,le:=fun _ _ h=>(by cases h),rel:=ownRel_nil _ _ _,
  valid:=fun b o hi=>by
   rcases hi with hi|hi
   ·obtain⟨u,hu⟩:=hval b o hi;exact⟨u,(hcell b o hi).trans hu⟩
   ·exact(hN b o hi).2,
  os:=hb.os,tape:=hb.tape,output:=hb.output,drawn:=fun h=>h.elim,grow:=hb.size,frame:=fun b hlt _=>hb.block b hlt,new:=fun _ _ _ h=>(h rfl).elim,
  immNew:=fun b o hi=>by
   rcases hi with hi|hi
   ·exact .inl hi
   ·exact .inr (.inl (hN b o hi).1) }
end
theorem Sa{w W:World}{g n:Nat}{os:Array Obj}{d:Array Int}(hb:Below w.heap.size w W)(hg:w.heap.size≤g):Below w.heap.size w (grow (putRow (Value.int .i64) (Sort.ahead W n) g 0 d) os):=by
 have k:=grownBy_sortedI (w:=W) (g:=g) (n:=n) (os:=os) d;refine hb.trans ⟨k.os,k.tape,k.output,k.size,fun b hlt=>k.block b (Nat.lt_of_lt_of_le hlt hb.size) (fun e=>?_)⟩;have:=OI e;omega
def Ym(w W:World)(g cap n:Nat)(zs:List Int):Prop:=
 Below w.heap.size w W∧w.heap.size≤g∧∃ cur,W.heap[g]?=some (.cells cur 3 (0,0))∧n≤cap∧cap≤maxLen∧cur.size=cap∧cur.toList.take zs.length=zs.map (Value.int .i64)∧zs.length=n
theorem own3_of{w W:World}{v:Value}{n:Nat}{zs:List Int}(h:W.ownsRow w.heap.size 3 1 v n (zs.map (Value.int .i64)))(hne:v≠.slice none 0 0)(hb:Below w.heap.size w W):∃ g cap,v = .slice (some ⟨g,0,none⟩) n cap∧Ym w W g cap n zs:=by
 have hl:zs.length=n:=by have:=h.1;simpa using this
 rcases h.2 with⟨rfl,_⟩|⟨g,cap,cur,rfl,hg,hcur,hcap,hmax,hsz,ht⟩
 ·exact(hne rfl).elim
 ·rw[Nat.mul_one]at hsz ht;exact⟨g,cap,rfl,hb,hg,cur,hcur,hcap,hmax,hsz,by rw[hl];exact ht,hl⟩
theorem c_clone0(ad:Addr)(c:Nat)(w:World):Calls Tryz.prog 163 #[.slice (some ad) 0 c] w fun e W=>∃ g cap,e = .returned (.slice (some ⟨g,0,none⟩) 0 cap)∧Ym w W g cap 0 []:=
 (Any.slices_Clone_int_zero Sx ad c w).mono fun e W ⟨v,he,hown,hne,hb⟩=>by
  obtain⟨g,cap,rfl,h⟩:=own3_of (zs:=[]) hown hne hb;exact⟨g,cap,he,h⟩
theorem c_clone(b off n c:Nat)(zs:List Int)(w:World)(hz:zs.length=n)(hbig:n≤17592186044416)(hc:∀ j,j<n→w.cell? ⟨b,off+j,none⟩=some (.int .i64 (zs.getD j 0))) :
  Calls Tryz.prog 163 #[.slice (some ⟨b,off,none⟩) n c] w fun e W=>∃ g cap,e = .returned (.slice (some ⟨g,0,none⟩) n cap)∧Ym w W g cap n zs:=
 (Any.slices_Clone_int Sx b off n c zs w (by omega) (by omega) (fun j hj=>hc j (by omega))).mono fun e W ⟨v,he,hown,hne,hb⟩=>by
  rw[show zs.take n=zs by rw[← hz];exact List.take_length ..]at hown;obtain⟨g,cap,rfl,h⟩:=own3_of hown hne hb;exact⟨g,cap,he,h⟩
theorem c_sort{w W:World}{g cap n:Nat}{zs:List Int}(h:Ym w W g cap n zs)(hbig:n≤17592186044416):Calls Tryz.prog 164 #[.slice (some ⟨g,0,none⟩) n cap] W fun e W2=>e = .returned (.tuple #[])∧Ym w W2 g cap n (zs.mergeSort fun x y=>decide (x≤y)):=by
 obtain⟨hb,hg,cur,hcur,hcap,hmax,hsz,ht,rfl⟩:=h;refine(Any.slices_Sort_int lays189 g 0 cap zs W (holds_of_blockI hcur ht) (Qe hcur) (by omega)).mono fun e W2 ⟨he,q,os,hW⟩=>⟨he,?_⟩;subst hW;have hl:(zs.mergeSort fun x y=>decide (x≤y)).length=zs.length:=List.length_mergeSort ..;have b2:=Sa (n:=q) (os:=os) (d:=(zs.mergeSort fun x y=>decide (x≤y)).toArray) hb hg;exact⟨b2,hg,_,heap_sortedI _ hcur,hcap,hmax,by simp[putCells,hsz],take_putCellsI cur _ (by omega),hl⟩
theorem c_compact{w W:World}{g cap n:Nat}{zs:List Int}(h:Ym w W g cap n zs)(hbig:n≤17592186044416):Calls Tryz.prog 165 #[.slice (some ⟨g,0,none⟩) n cap] W fun e W2=>e = .returned (.slice (some ⟨g,0,none⟩) (Lib.compact zs).length cap)∧Ym w W2 g cap (Lib.compact zs).length (Lib.compact zs):=by
 obtain⟨hb,hg,cur,hcur,hcap,hmax,hsz,ht,rfl⟩:=h;refine(Any.slices_Compact_int Xz g 0 cap zs W (holds_of_blockI hcur ht) (by omega) hcap).mono fun e W2 ⟨he,q,hW⟩=>⟨he,?_⟩;subst hW;have hcl:=Lib.compact_length_le zs
 generalize Lib.compact zs=cs at hcl ⊢
 generalize hts:cs++List.replicate (zs.length-cs.length) (0:Int)=ts
 have htl:ts.length=zs.length:=by rw[← hts,List.length_append,List.length_replicate];omega
 have b2:=Sa (n:=q) (os:=#[]) (d:=ts.toArray) hb hg;have h2:=heap_sortedI (n:=q) (os:=#[]) ts.toArray hcur;rw[grow_empty]at b2 h2;have h3:=take_putCellsI cur ts (by omega);refine⟨b2,hg,_,h2,by omega,hmax,by simp[putCells,hsz],?_,rfl⟩;have:=congrArg (List.take cs.length) h3;rw[List.take_take,Nat.min_eq_left (by omega),← List.map_take,← hts,List.take_left' rfl]at this;rw[← hts];exact this
def IntsOut(w w':World)(v:Value)(r:List Int):Prop:=
 (v = .slice none 0 0∧r=[])∨∃ g cap,v = .slice (some ⟨g,0,none⟩) r.length cap∧Ym w w' g cap r.length r
set_option maxHeartbeats 4000000 in
set_option maxRecDepth 100000 in
theorem w_rising(a:Option Addr)(n c:Nat)(zs:List Int)(w:World)(hz:zs.length=n)(hn:a=none→n=0)(hbig:n≤17592186044416)
  (hc:0<n→∃ b off,a=some ⟨b,off,none⟩∧∀ j,j<n→w.cell? ⟨b,off+j,none⟩=some (.int .i64 (zs.getD j 0))) :
  Calls Tryz.prog 124 #[.slice a n c] w fun e w'=>∃ v,e = .returned v∧Below w.heap.size w w'∧IntsOut w w' v (Lib.compact (zs.mergeSort fun x y=>decide (x≤y))):=by
 cases a with
 | none=>
  obtain rfl:=hn rfl;obtain rfl:zs=[]:=List.length_eq_zero_iff.1 hz
  have hr:Lib.compact (([]:List Int).mergeSort fun x y=>decide (x≤y))=[]:=by simp[Lib.compact,Lib.compactUpTo]
  rw[hr];have h1:Calls Tryz.prog 163 #[.slice none 0 c] w fun e w'=>e = .returned (.slice none 0 0)∧w'=w:=Any.slices_Clone_int_nil Sx 0 c w;have h2:Calls Tryz.prog 164 #[.slice none 0 0] w fun e w'=>e = .returned (.tuple #[])∧w'=w:=Any.slices_Sort_int_none lays189 none 0 w;have h3:Calls Tryz.prog 165 #[.slice none 0 0] w fun e w'=>e = .returned (.slice none 0 0)∧w'=w:=Any.slices_Compact_int_empty Xz none 0 w
  go_enter Tryz.func124,Tryz.ntmps124
  go_wp2_with (first
   | (go_at_call 163;refine h1.mono ?_;rintro e W ⟨rfl,rfl⟩)
   | (go_at_call 164;refine h2.mono ?_;rintro e W ⟨rfl,rfl⟩)
   | (go_at_call 165;refine h3.mono ?_;rintro e W ⟨rfl,rfl⟩))
  go_ret
  exact⟨_,rfl,Below.refl _ _,.inl ⟨rfl,rfl⟩⟩
 | some ad=>
  have h1:Calls Tryz.prog 163 #[.slice (some ad) n c] w fun e W=>∃ g cap,e = .returned (.slice (some ⟨g,0,none⟩) n cap)∧Ym w W g cap n zs:=by
   by_cases h0:n=0
   ·subst h0;obtain rfl:zs=[]:=List.length_eq_zero_iff.1 hz;exact c_clone0 ad c w
   ·obtain⟨b,off,hab,hcell⟩:=hc (by omega);obtain rfl:=OI hab;exact c_clone b off n c zs w hz hbig hcell
  go_enter Tryz.func124,Tryz.ntmps124
  go_wp2_with (first
   | (go_at_call 163;refine h1.mono ?_;rintro e W ⟨g,cap,rfl,hO⟩)
   | (go_at_call 164;refine(c_sort hO hbig).mono ?_;rintro e W2 ⟨rfl,hO2⟩)
   | (go_at_call 165;refine(c_compact hO2 hbig).mono ?_;rintro e W3 ⟨rfl,hO3⟩))
  go_ret
  exact⟨_,rfl,hO3.1,.inr ⟨_,_,rfl,hO3⟩⟩
def insI(x:Int):List Int→List Int
 | []=>[x]
 | y::l=>if x≤y then x::y::l else y::insI x l
def isoI:List Int→List Int
 | []=>[]
 | x::l=>insI x (isoI l)
theorem insI_perm(x:Int):∀ l,(insI x l).Perm (x::l)
 | []=>.refl _
 | y::l=>by
  unfold insI
  split
  ·exact .refl _
  ·exact((insI_perm x l).cons y).trans (.swap x y l)
theorem insI_pw{x:Int}:∀{l:List Int},l.Pairwise (·≤·)→(insI x l).Pairwise (·≤·)
 | [],_=>by simp[insI]
 | y::l,h=>by
  have h':=List.pairwise_cons.1 h;unfold insI
  split
  ·rename_i hxy
   exact List.pairwise_cons.2 ⟨fun z hz=>by
    rcases List.mem_cons.1 hz with rfl|hz
    ·exact hxy
    ·exact Int.le_trans hxy (h'.1 z hz),h⟩
  ·rename_i hxy
   refine List.pairwise_cons.2 ⟨fun z hz=>?_,insI_pw h'.2⟩;rcases List.mem_cons.1 ((insI_perm x l).mem_iff.1 hz) with rfl|hz
   ·omega
   ·exact h'.1 z hz
theorem Xy:∀ l,(isoI l).Perm l
 | []=>.refl _
 | x::l=>(insI_perm x _).trans ((Xy l).cons x)
theorem isoI_pw:∀ l,(isoI l).Pairwise (·≤·)
 | []=>.nil
 | x::l=>insI_pw (isoI_pw l)
theorem isoI_eq(l:List Int):isoI l=l.mergeSort fun x y=>decide (x≤y):=by
 refine List.Perm.eq_of_pairwise (le:=(·≤·)) (fun a b _ _ h1 h2=>Int.le_antisymm h1 h2) (isoI_pw l) ?_ ((Xy l).trans (List.mergeSort_perm l _).symm);have:=List.pairwise_mergeSort (le:=fun(x y:Int)=>decide (x≤y)) (fun a b c h1 h2=>by simp at *;omega) (fun a b=>by simp;omega) l
 exact this.imp fun h=>by simpa using h
def x_rising(l:List Int):Option (List Int):=Aw (l.length≤17592186044416) (some (Lib.compact (isoI l)))
theorem xok_rising(l r:List Int)(h:x_rising l=some r):Spec Tryz.prog 124 [AV.list 1 (fun x=>[.int .i64 x]) (0:Int) l .none] [] (AV.list 1 (fun x=>[.int .i64 x]) (0:Int) r .none) []:=by
 obtain⟨hlen,h⟩:=Aa h;rw[isoI_eq]at h;obtain rfl:=OI h;refine⟨enters_of Tryz.func124 (by kernel_rfl) rfl,fun w I θ zs hargs _ hval _=>?_⟩;obtain⟨v,rfl,hv⟩:=repL_one hargs;obtain⟨_,a,cap,us,rfl,hcap,hmax,hz,hnn,h1,hl,hr⟩:=hv.slice_val.slice_inv
 have hint:∀ i,i<l.length→us i = .int .i64 (l.getD i 0):=fun i hi=>by
  have:=hr i 0 hi (by omega);rw[Nat.mul_one,Nat.add_zero]at this;have h2:RepV I w (us i) (.int .i64 (l.getD i 0)):=this;exact Rep.int_inv (own:=Ad []) (θ:=θ) (.val _ _ h2)
 refine(w_rising a l.length cap l w rfl (fun ha=>by have:=hnn ha;omega) hlen (fun hp=>?_)).mono fun e w' ⟨v,he,hb,hout⟩=>?_
 ·obtain⟨b,rfl,hs,_,hcell⟩:=hz hp;obtain⟨blk,off,spot⟩:=b;simp only at hs hcell;subst hs;exact⟨blk,off,rfl,fun j hj=>by rw[hcell j (by omega),hint j hj]⟩
 ·generalize Lib.compact (l.mergeSort fun x y=>decide (x≤y))=r at hout ⊢
  rcases hout with⟨rfl,rfl⟩|⟨g,cap',rfl,_,hg,cur,hcur,hc1,hc2,hc3,htake,_⟩
  ·exact⟨_,_,θ,he,Qu hb hval (N:=fun _ _=>False) (fun _ _ h=>h.elim),.val _ _ (.slice none 0 0 1 _ (fun _=>undef) (Nat.le_refl _) (Nat.zero_le _) (fun h=>by cases h) (fun _=>rfl) (fun j hj=>by simp at hj) (fun i hi=>by cases hi) (fun i c hi=>by cases hi))⟩
  ·have hcell:∀ j,j<r.length→w'.cell? ⟨g,j,none⟩=some (.int .i64 (r.getD j 0)):=fun j hj=>by
    rw[cell_of_row _ _ _ cur 3 (0,0) hcur]
    have h2:(cur.toList.take r.length)[j]?=(r.map (Value.int .i64))[j]?:=by rw[htake]
    rw[List.getElem?_take_of_lt hj,Array.getElem?_toList]at h2;rw[h2];simp[List.getD,hj]
   refine⟨_,_,θ,he,Qu hb hval (N:=fun b o=>b=g∧o<r.length) (fun b o ⟨hbg,ho⟩=>⟨by omega,by subst hbg;exact⟨_,hcell o ho⟩⟩),.val _ _ (.slice (some ⟨g,0,none⟩) r.length cap' 1 _ (fun j=>.int .i64 (r.getD j 0)) hc1 hc2 (fun _=>⟨⟨g,0,none⟩,rfl,rfl,fun j hj=>.inr ⟨rfl,by simpa using hj⟩,fun j hj=>by rw[Nat.zero_add];exact hcell j (by omega)⟩) (fun h=>by cases h) (fun _ _=>rfl) (fun _ _=>rfl) (fun i c hi hc=>?_))⟩
   obtain rfl:c=0:=by omega
   rw[Nat.mul_one,Nat.add_zero];exact .int _ _
set_option maxRecDepth 100000
set_option maxHeartbeats 2000000
def Ah(x:Int):List AV:=[(.int .i64 x)]
def El(x:List Int):List AV:=[(AV.list 1 Ah 0 x .none)]
structure Fw where
 Bits:Int
 Dst:Int
 From:List Int
 Args:List Int
 deriving Inhabited,DecidableEq
def Qv(x:Fw):List AV:=[(.int .i64 x.Bits),(.int .i64 x.Dst),(AV.list 1 Ah 0 x.From .none),(AV.list 1 Ah 0 x.Args .none)]
def Bg(x:Int):List AV:=[(.int .u64 x)]
structure Cs where
 Kind:Int
 Bits:Int
 Lanes:Int
 Dst:Int
 Args:List Int
 Imm:Int
 deriving Inhabited,DecidableEq
def Fc(x:Cs):List AV:=[(.int .i64 x.Kind),(.int .i64 x.Bits),(.int .i64 x.Lanes),(.int .i64 x.Dst),(AV.list 1 Ah 0 x.Args .none),(.int .u64 x.Imm)]
structure Gz where
 Kind:Int
 Arg:Int
 To:List Int
 deriving Inhabited,DecidableEq
def eTEnd(x:Gz):List AV:=[(.int .i64 x.Kind),(.int .i64 x.Arg),(AV.list 1 Ah 0 x.To .none)]
structure Aj where
 Phis:List Fw
 Ops:List Cs
 End:Gz
 deriving Inhabited,DecidableEq
def Av(x:Aj):List AV:=[(AV.list 4 Qv default x.Phis .none),(AV.list 6 Fc default x.Ops .none),(.int .i64 x.End.Kind),(.int .i64 x.End.Arg),(AV.list 1 Ah 0 x.End.To .none)]
structure Ae where
 Params:List Int
 Ret:Int
 Blocks:List Aj
 deriving Inhabited,DecidableEq
def Rq(x:Ae):List AV:=[(AV.list 1 Ah 0 x.Params .none),(.int .i64 x.Ret),(AV.list 5 Av default x.Blocks .none)]
def As(x:List Int):List AV:=[(AV.list 1 Bg 0 x .none)]
def Dd(x:Int):List AV:=[(.int .u8 x)]
structure TCase where
 Args:List Int
 Mem:List Int
 Fuel:Int
 deriving Inhabited,DecidableEq
def eB(x:Bool):List AV:=[(.bool x)]
structure Ab where
 Write:Bool
 At:Int
 Byte:Int
 deriving Inhabited,DecidableEq
def Ao(x:Ab):List AV:=[(.bool x.Write),(.int .u64 x.At),(.int .u8 x.Byte)]
structure TMem where
 bytes:List Int
 trace:List Ab
 deriving Inhabited,DecidableEq
structure Ic where
 Code:Int
 Value:Int
 Steps:Int
 deriving Inhabited,DecidableEq
def eTRun(x:Ic):List AV:=[(.int .i64 x.Code),(.int .u64 x.Value),(.int .i64 x.Steps)]
def A8(x:(Int×Int)):List AV:=[(.int .i64 x.1),(.int .i64 x.2)]
structure E4 where
 block:Int
 at_:Int
 deriving Inhabited,DecidableEq
def Qa(x:E4):List AV:=[(.int .i64 x.block),(.int .i64 x.at_)]
structure An where
 v:Int
 shape:(Int×Int)
 place:E4
 deriving Inhabited,DecidableEq
def Bo(x:An):List AV:=[(.int .i64 x.v),(.int .i64 x.shape.1),(.int .i64 x.shape.2),(.int .i64 x.place.block),(.int .i64 x.place.at_)]
structure Ct where
 Succ:List (List Int)
 Pred:List (List Int)
 deriving Inhabited,DecidableEq
def Mw(x:Ct):List AV:=[(AV.list 1 El [] x.Succ .none),(AV.list 1 El [] x.Pred .none)]
structure Ak where
 shape:(Int×Int)
 place:E4
 deriving Inhabited,DecidableEq
def Cy(x:Ak):List AV:=[(.int .i64 x.shape.1),(.int .i64 x.shape.2),(.int .i64 x.place.block),(.int .i64 x.place.at_)]
structure TDef where
 V:Int
 Block:Int
 At:Int
 Shape:(Int×Int)
 deriving Inhabited,DecidableEq
structure TUse where
 V:Int
 Block:Int
 At:Int
 Shape:(Int×Int)
 deriving Inhabited,DecidableEq
def Hc:List (Int×AV):=[((0:Int),(.clo 57 [] [])),((13:Int),(.clo 58 [(.ptr 30000 0)] [])),((14:Int),(.clo 87 [] [(.rpo [(.clo 60 [] [])]),(.rpo [(.ptr 30000 0)])])),((15:Int),(.clo 87 [] [(.rpo [(.clo 61 [] [])]),(.rpo [(.ptr 30000 0)])])),((16:Int),(.clo 62 [(.ptr 30000 0)] [])),((17:Int),(.clo 63 [(.ptr 30000 0)] [])),((18:Int),(.clo 91 [] [(.rpo [(.ptr 30000 0)]),(.rpo [(.clo 62 [(.ptr 30000 0)] [])])])),((19:Int),(.clo 91 [] [(.rpo [(.ptr 30000 0)]),(.rpo [(.clo 63 [(.ptr 30000 0)] [])])])),((20:Int),(.clo 91 [] [(.rpo [(.ptr 30000 0)]),(.rpo [(.clo 92 [] [(.rpo [(.ptr 30000 0)]),(.rpo [(.int .i64 (4:Int))])])])])),((21:Int),(.clo 66 [(.ptr 30000 0)] [])),((22:Int),(.clo 67 [(.ptr 30000 0)] [])),((1:Int),(.clo 92 [] [(.rpo [(.ptr 30000 0)]),(.rpo [(.int .i64 (1:Int))])])),((2:Int),(.clo 92 [] [(.rpo [(.ptr 30000 0)]),(.rpo [(.int .i64 (2:Int))])])),((3:Int),(.clo 92 [] [(.rpo [(.ptr 30000 0)]),(.rpo [(.int .i64 (3:Int))])])),((4:Int),(.clo 92 [] [(.rpo [(.ptr 30000 0)]),(.rpo [(.int .i64 (4:Int))])])),((5:Int),(.clo 92 [] [(.rpo [(.ptr 30000 0)]),(.rpo [(.int .i64 (5:Int))])])),((6:Int),(.clo 92 [] [(.rpo [(.ptr 30000 0)]),(.rpo [(.int .i64 (6:Int))])])),((7:Int),(.clo 92 [] [(.rpo [(.ptr 30000 0)]),(.rpo [(.int .i64 (7:Int))])])),((8:Int),(.clo 92 [] [(.rpo [(.ptr 30000 0)]),(.rpo [(.int .i64 (8:Int))])])),((9:Int),(.clo 92 [] [(.rpo [(.ptr 30000 0)]),(.rpo [(.int .i64 (9:Int))])])),((10:Int),(.clo 92 [] [(.rpo [(.ptr 30000 0)]),(.rpo [(.int .i64 (10:Int))])])),((11:Int),(.clo 92 [] [(.rpo [(.ptr 30000 0)]),(.rpo [(.int .i64 (11:Int))])])),((12:Int),(.clo 92 [] [(.rpo [(.ptr 30000 0)]),(.rpo [(.int .i64 (12:Int))])]))]
theorem mix:Tryz.prog.follows .mixedOrders=true:=by kernel_rfl
def Z1:=fun(za:List (List (Int))) zb zc (zd:List Int) zf zg=>([(30000,.row 99 [(.ptr 30001 0),(.omap 9100001),(.vsl 35002 za.length),(.int .i64 zb),(.int .i64 zc)]),(30001,.row 93 [(.vsl 35100 zd.length),(AV.list 3 Ao default zf (.own 37101))]),(37101,.tok 3 49 zg),(35002,.arr 1 26 za.length (fun i=>As (za.getD i []))),(35100,.arr 1 5 zd.length (fun i=>Dd (zd.getD i 0))),(9100001,.obj (.tab .i64 Hc))]:List (Nat×Own))
def Z2:=fun za zb zc zd zf zg zm=>((30000,.row 124 [(AV.list 1 Ah 0 za .none),(.int .i64 zb),(AV.list 5 Av default zc .none),(.int .i64 zd),(AV.list 1 Ah 0 zf .none),(.omap zg),(AV.list 5 Bo default zm (.own 37006))]):Nat×Own)
def Z3:=fun za zb zc zd zf zg zm=>([(30000,.row 124 [(AV.list 1 Ah 0 za .none),(.int .i64 zb),(AV.list 5 Av default zc .none),(.int .i64 zd),(AV.list 1 Ah 0 zf .none),.nilm,(AV.list 5 Bo default zg (.own 37006))]),(37006,.tok 5 165 zm)]:List (Nat×Own))
def Z4:=fun za zb zc=>([(.ptr 30001 0),(.omap 9100001),(.vsl 35002 za),(.int .i64 zb),(.int .i64 zc)]:List AV)
def Z5:=fun za zb zc zd zf zg zm zn zp zq=>([(30000,.row 99 [(.ptr 30001 0),(.omap 9100001),za,(.int .i64 zb),zc]),(30001,.row 93 zd),(37101,.tok 3 49 zf),(35002,.arr 1 26 zg zm),(35100,.arr 1 5 zn zp),(9100001,.obj (.tab .i64 Hc)),(20000,.tok 1 37 zq)]:List (Nat×Own))
def Z6:=fun za zb zc zd=>([(.vsl za zb),(AV.list 3 Ao default zc (.own zd))]:List AV)
def Z7:=fun za (zb:List Int)=>((za,.arr 1 3 zb.length (fun i=>Ah (zb.getD i 0))):Nat×Own)
def Z8:=fun za (zb:List Int)=>((za,.arr 1 5 zb.length (fun i=>Dd (zb.getD i 0))):Nat×Own)
def Z9:=fun za zb zc zd zf zg zm zn=>([(Z2 za zb zc zd zf 9100005 zg),(37006,.tok 5 165 zm),(9100005,.obj (.map false .i64 zn))]:List (Nat×Own))
def Bi:=fun za=>((.int .i64 za):AV)
def Wq:=fun za (zb:List (List (Int)))=>((za,.arr 1 26 zb.length (fun i=>As (zb.getD i []))):Nat×Own)
def Z12:=fun za zb zc zd=>([(30000,.row 93 (Z6 35000 za zb 37001)),(37001,.tok 3 49 zc),(Z8 35000 zd)]:List (Nat×Own))
def Z13:=fun za zb zc zd zf zg=>((30000,.row 124 [(AV.list 1 Ah 0 za .none),(Bi zb),(AV.list 5 Av default zc .none),(Bi zd),(AV.list 1 Ah 0 zf .none),(.omap 8),(AV.list 5 Bo default zg (.own 37006))]):Nat×Own)
def Z14:=fun za=>((AV.list 2 A8 ((0:Int),(0:Int)) za .none):AV)
def Id:=((.int .i64 (0:Int)):AV)
def Yo:=((AV.list 1 Bg 0 ([]:List Int) .exact):AV)
def Z17:=fun za zb zc zd zf zg zm zn zp=>([(30000,.row 99 (Z4 za zb zc)),(30001,.row 93 (Z6 35100 zd zf 37101)),(37101,.tok 3 49 zg),(Wq 35002 zm),(Z8 35100 zn),(9100001,.obj (.tab .i64 Hc)),(20000,.tok 1 37 zp)]:List (Nat×Own))
def Yp:=fun za zb zc zd zf zg zm=>([(Z2 za zb zc zd zf 9100005 zg),(37006,.tok 5 165 zm)]:List (Nat×Own))
def T9:=fun za zb=>([(AV.list 1 Bg 0 za (.own 20000)),(Bi zb)]:List AV)
def Z20:=fun za (zb:List Int)=>((za,.arr 1 37 zb.length (fun i=>Bg (zb.getD i 0))):Nat×Own)
def Z21:=fun za zb=>([(10,.arr 1 22 za (Ir 1 Ah (0:Int) zb (Tag.fam 70010)))]:List (Nat×Own))
def Z22:=fun za (zb:List Int) (zc:List Int)=>((.slice 1 (bif za then zb.length else zc.length) (fun i=>bif za then Ah (zb.getD i 0) else Ah (zc.getD i 0)) .none):AV)
def Z23:=fun za zb zc zd zf zg zm zn=>([(30000,.row 99 (Z4 za zb zc)),(30001,.row 93 (Z6 35100 zd zf 37101)),(Wq 35002 zg),(Z8 35100 zm),(37101,.tok 3 49 zn),(9100001,.obj (.tab .i64 Hc))]:List (Nat×Own))
def Wr:=fun za=>((AV.list 1 Ah 0 za .none):AV)
def K5:=fun za=>((.int .i64 (za:Int)):AV)
def Z26:=fun za zb zc zd zf zg zm=>([(za,.row 93 (Z6 zb zc zd zf)),(Z8 zb zg),(zf,.tok 3 49 zm)]:List (Nat×Own))
def Z27:=fun(za:List Int)=>((.slice 1 (za.length-(1:Int).toNat) (fun i=>Ah (za.getD ((1:Int).toNat+i) 0)) .none):AV)
def Z28:=((.slice 0 0 (fun _=>[]) .exact):AV)
def Z29:=fun za (zb:List An) (zc:List An)=>((.slice 5 (bif za then zb.length else zc.length) (fun i=>bif za then Bo (zb.getD i default) else Bo (zc.getD i default)) (.own 37006)):AV)
def Tj:=((.int .i64 (1:Int)):AV)
def Ua:=fun za=>((37006,.tok 5 165 za):Nat×Own)
def Xk:=fun za zb zc=>((30000,.row 99 (Z4 za zb zc)):Nat×Own)
def Z33:=((AV.list 1 Ah 0 ([]:List Int) .exact):AV)
def Z34:=fun za zb=>((.agg (Cy (Em (default:Ak) za zb))):AV)
def Z35:=fun za=>((AV.list 1 El [] za .none):AV)
def Z36:=((AV.list 2 A8 ((0:Int),(0:Int)) ([]:List (Int×Int)) .exact):AV)
def Hp:=fun za=>((.int .u64 za):AV)
def Z38:=fun za=>((AV.list 5 Av default za .none):AV)
def Z39:=fun za zb zc zd zf zg zm zn zp=>(⟨[(4,(AV.list 1 Bg 0 ([]:List Int) (.own 6004))),(5,(Bi za))],[(6004,.tok 1 37 (([]:List Int).length)),(Xk zb zc zd),(30001,.row 93 (Z6 35100 zf zg 37101)),(Wq 35002 zm),(Z8 35100 zn),(37101,.tok 3 49 zp),(9100001,.obj (.tab .i64 Hc))],[]⟩:St)
def Z40:=fun za=>((AV.list 1 Ah 0 ([za]:List Int) .exact):AV)
def Z41:=fun za (zb:List Aj) (zc:List Aj)=>((.slice 5 (bif za then zb.length else zc.length) (fun i=>bif za then Av (zb.getD i default) else Av (zc.getD i default)) .none):AV)
def Z42:=fun za zb=>((AV.list 1 Ah 0 za (.own zb)):AV)
def Z43:=fun za zb=>((AV.list 1 Bg 0 za (.own zb)):AV)
def Z44:=((.int .i64 (3:Int)):AV)
def Yq:=fun za=>((.agg (Cy za)):AV)
def Z46:=fun(za:List Int)=>((6,.arr 1 177 64 (fun i=>Ah (za.getD i 0))):Nat×Own)
def Z47:=fun za (zb:List Int) (zc:List Int)=>((.slice 1 (bif (za==true) then zb.length else zc.length) (fun i=>bif (za==true) then Ah (zb.getD i 0) else Ah (zc.getD i 0)) .none):AV)
def Z48:=fun za=>((AV.list 1 Bg 0 za .none):AV)
def Z49:=((.int .i64 (7:Int)):AV)
def Zi:=((2,(.ptr 2 0)):Nat×AV)
def Z51:=fun za=>((za,.obj (.tab .i64 Hc)):Nat×Own)
def Z52:=fun(za:List (Int×Int))=>([(30,.arr 2 77 za.length (fun i=>A8 (za.getD i ((0:Int),(0:Int)))))]:List (Nat×Own))
def Z53:=fun za zb zc=>((.int .i64 (bif za then zb else zc)):AV)
def Z54:=((.slice 0 0 (fun _=>[]) .none):AV)
def Z55:=((6,(.vpt 6 64 0 0)):Nat×AV)
def Z56:=((.int .i64 (2:Int)):AV)
def Z57:=fun za zb zc zd zf=>((za,.row 93 (Z6 zb zc zd zf)):Nat×Own)
def Z58:=((5,(.vpt 5 64 0 0)):Nat×AV)
def Z59:=((AV.list 4 Qv default ([]:List Fw) .exact):AV)
def Z60:=((.int .i64 (8:Int)):AV)
def Z61:=fun za=>((.agg (eTRun za)):AV)
def Z62:=fun za zb=>([(29,(AV.list 3 Ao default za .exact)),(30,(AV.list 3 Ao default (zb++za) (.own 37001)))]:List (Nat×AV))
def Z63:=fun za=>((6,.arr 1 177 64 za):Nat×Own)
def Z64:=((.int .i64 (5:Int)):AV)
def Ws:=fun za zb=>((za,.tok 3 49 zb):Nat×Own)
def Z66:=(⟨[(4,(AV.list 1 Ah 0 ([]:List Int) (.own 6004)))],[(6004,.tok 1 3 (([]:List Int).length))],[]⟩:St)
def Z67:=fun za zb zc=>([(1,(.ptr 1 0)),(3,(.ptr 3 0)),(4,(.ptr 4 0)),(5,(.ptr 5 0)),(6,(.ptr 6 0)),(18,(Bi za)),(zb,(.bool zc))]:List (Nat×AV))
def Yr:=fun za zb=>([(7,(.vsl za zb))]:List (Nat×AV))
def Z69:=((.int .i64 (4:Int)):AV)
def I5:=fun za zb=>((za,(Bi zb)):Nat×AV)
def Z71:=fun za=>((5,.arr 1 176 64 za):Nat×Own)
def Zj:=fun za=>((2,.row 86 za):Nat×Own)

def Q3:AV:=(AV.list 1 Dd 0 ([]:List Int) .exact)
def Q4:=(⟨[(2,(.vsl 36002 ([]:List Int).length))],[(36002,.arr 1 5 (([]:List Int).length) (fun i=>Dd (([]:List Int).getD i 0)))],[]⟩:St)
def Cr(aX:List Int):Option (List Int):=
 (Aw (aX.length≤room) (some aX))
theorem Js(aX:List Int)(r:List Int)(h:Cr aX=some r):Spec Tryz.prog 31 [(AV.list 1 Dd 0 aX .none)] [] (.vsl 20000 r.length) [(20000,.arr 1 5 r.length (fun i=>Dd (r.getD i 0)))]:=by
 refine Ac mix Tryz.func31 (fun Γ hq=>?_);unfold Cr at h;refine gR hq [0] [] [(2,Q3)] [] (c1 (Bq 1 Dd (0:Int))) ?_;refine Af hq [0,4] [] ?_;refine gNil true aX.length (fun hb=>?_) (fun hb=>?_)
 ·replace h:=nil_at (some ([]:List Int)) (fun(l2:List Int)=>(Aw (l2.length≤room) (some l2))) h (hb rfl) rfl (fun h0=>by first|exact h0|simpa [Aw,room] using h0);clear hb;refine gR hq [2] [] [(2,Q3)] [] (c1 (Bq 1 Dd (0:Int))) ?_;refine Oy (⟨[(2,Q3)],[],[]⟩:St) ?_;cases h;exact gK (e:=.ret) (Fx [(36002,20000)] (show Le Γ _ Q4 from Le.trans (B0 (st':=⟨[(2,Q3)],[],[]⟩) [2] [] hq) (Le.trans (le_arr (t:=2) (nm:=36002) (sz':=1) (fun i=>Dd (([]:List Int).getD i 0)) 5 rfl rfl) (B0 (st':=Q4) [2] [36002] hq))))
 ·clear hb;obtain⟨hc1,h⟩:=Aa h;refine gR hq [2] [7] [(5,Q3),(7,.vsl 7 0)] [] (ci (show(AVle (.slice 1 0 (fun i=>([]:List (List AV)).getD i []) .exact) Q3) from av_lit rfl (fun i hi=>absurd hi (Nat.not_lt_zero i))) (c1 hc1)) ?_;obtain rfl:=OI h;exact Bk [(7,20000)]
def Q6(x1:List Int):List AV:=[(.vsl 8 x1.length),(AV.list 3 Ao default ([]:List Ab) .exact)]
def Q7(x1:List Int):=(⟨[(2,(.ptr 10 0)),(3,Id)],[(8,.arr 1 5 x1.length (fun i=>Dd (x1.getD i 0))),(10,.row 93 (Q6 x1))],[]⟩:St)
def Q5(x1:List Int):=(⟨[(2,(.ptr 10 0)),(3,Id)],[(8,.arr 1 5 x1.length (fun i=>Dd (x1.getD i 0))),(10,.row 93 [(.vsl 8 x1.length),(AV.list 3 Ao default ([]:List Ab) (.own 6102001))]),(6102001,.tok 3 49 (([]:List Ab).length))],[]⟩:St)
def J5(aC:List Int):Option ((Bool×TMem)×Int):=
 (bif (decide (((4096:Int):Int)<(aC.length:Int))) then(some ((false,(default:TMem)),(4:Int))) else((Cr aC).bind fun x1=>(some ((true,(⟨x1,([]:List Ab)⟩:TMem)),(0:Int)))))
theorem Nl(aC:List Int)(r:((Bool×TMem)×Int))(h:J5 aC=some r):Spec Tryz.prog 13 [(AV.list 1 Dd 0 aC .none)] [] (.tuple [(bif r.1.1 then((.ptr 20000 0):AV) else .nilp),(.int .i64 r.2)]) (bif r.1.1 then[(20000,.row 93 [(.vsl 21000 r.1.2.bytes.length),(AV.list 3 Ao default r.1.2.trace (.own 21001))]),(21000,.arr 1 5 r.1.2.bytes.length (fun i=>Dd (r.1.2.bytes.getD i 0))),(21001,.tok 3 49 r.1.2.trace.length)] else[]):=by
 refine Ac mix Tryz.func13 (fun Γ hq=>?_);unfold J5 at h;refine Af hq [0] [] ?_;refine Af hq [0,6] [] ?_;refine gC h (fun h=>?_) (fun h=>?_)
 ·refine Af hq [2,3] [] ?_;cases h;exact Bk []
 ·obtain⟨x1,hx1,h⟩:=bind_some h;refine gR hq [2,3] [8,10] [(9,(.agg (Q6 x1)))] [⟨[],[(20000,8)],(.vsl 20000 x1.length),[(Z8 20000 x1)],[],[]⟩] (ci (Js aC x1 hx1) (c1 (show(AVle (.agg [(.vsl 8 x1.length),Z28]) (.agg (Q6 x1))) from(AVle.agg (.cons (AVle.refl _) (.cons Dv .nil)))))) ?_;refine Oy (Q7 x1) ?_;cases h;exact gK (e:=.ret) (Fx [(10,20000),(8,21000),(6102001,21001)] (show Le Γ _ (Q5 x1) from Le.trans (B0 (st':=(Q7 x1)) [2,3] [8,10] hq) (Le.trans (Tt (r:=10) (j:=1) (nm:=6102001) (sz':=3) (fun i=>Ao (([]:List Ab).getD i default)) 49 rfl rfl (nl rfl) rfl (.inl ⟨rfl,rfl⟩) (fun h_=>absurd h_ (by decide))) (B0 (st':=(Q5 x1)) [2,3] [8,10,6102001] hq))))
def Pe(a9:Ae):(Int×Int)→Option (LR (Int×Int) Int):=
 fun((i1,i2):(Int×Int))=>(bif (decide (i2<(a9.Blocks.length:Int))) then(Aw (A5 i2 a9.Blocks.length) (some (.next ((Aq (i1+(Aq ((((a9.Blocks.getD i2.toNat default).Phis).length:Int)+(((a9.Blocks.getD i2.toNat default).Ops).length:Int))))),(Aq (i2+1)))))) else(some (.done i1)))
def Pd(a9:Ae):Option Int:=
 ((Az (Pe a9) ((a9.Blocks.length:Int),(0:Int))).bind (fun x5=>(some x5)))
theorem Y0(a9:Ae)(r:Int)(h:Pd a9=some r):Spec Tryz.prog 118 [(.agg (Rq a9))] [] (.int .i64 r) []:=by
 refine Ac mix Tryz.func118 (fun Γ hq=>?_);unfold Pd at h;refine Af hq [1] [1] ?_;refine Af hq [1,3] [1] ?_;refine Af hq [3,10,11,12] [] ?_;obtain⟨x5,hx5,h⟩:=bind_some h;refine gL hq hx5 [3,10,11,12] [] (fun u (i1,i2)=>(Cx u [(3,(Bi i1)),(I5 12 i2)] [])) (fun u i3=>aG Γ (.exit 0) (⟨[(3,(Bi i3))],[],[]⟩:St)) ?_ ?_
 ·rintro⟨i1,i2⟩ y h;unfold Pe at h;refine Af hq [3,10,11,12,13] [] ?_;refine gC h (fun h=>?_) (fun h=>?_)
  ·obtain⟨hc4,h⟩:=Aa h;refine gR hq [3,5,10,11,12] [5] [] [] (c1 hc4) ?_;refine Af hq [3,10,11,12] [] ?_;refine Af hq [3,10,11,12] [] ?_;cases h;exact gN C9
  ·cases h;exact gO (B2 (B0 [3] [] hq))
 ·clear hx5;refine gA ?_;refine Af hq [2] [] ?_;obtain rfl:=OI h;exact Bk []
def I8(aB:List Int):Int→Option (LR Int (Unit ⊕ Bool)):=
 fun(i1:Int)=>(bif (decide (i1<(aB.length:Int))) then(Aw (A5 i1 aB.length) (bif (bif (decide (((aB.getD i1.toNat 0):Int)<0)) then true else(decide (((2147483647:Int):Int)<(aB.getD i1.toNat 0)))) then(some (.done (.inr false))) else(some (.next (Aq (i1+1)))))) else(some (.done (.inl ()))))
def R4(Γ:Ek)(aB:List Int)(r:Bool):Exit→St→Prop:=fK Tryz.prog Γ Tryz.f119.results.toList [] (.bool r) []
def Ch(aB:List Int):Option Bool:=
 ((Az (I8 aB) (0:Int)).bind (fun x3=>(match x3 with|(.inl _)=>(some true)|(.inr r5)=>(some r5))))
theorem C2(aB:List Int)(r:Bool)(h:Ch aB=some r):Spec Tryz.prog 119 [(AV.list 1 Ah 0 aB .none)] [] (.bool r) []:=by
 refine Ac mix Tryz.func119 (fun Γ hq=>?_);unfold Ch at h;refine Af hq [0] [] ?_;refine Af hq [5,6,7] [] ?_;obtain⟨x3,hx3,h⟩:=bind_some h;refine gL hq hx3 [5,6,7] [] (fun u i1=>(Cx u [(7,(Bi i1))] [])) (fun u x_=>match x_ with|(.inl _)=>aG Γ (.exit 0) (⟨[],[],[]⟩:St)|(.inr r_)=>aR (R4 Γ aB r_)) ?_ ?_
 ·intro i1 y h;unfold I8 at h;refine Af hq [5,6,7,8] [] ?_;refine gC h (fun h=>?_) (fun h=>?_)
  ·obtain⟨hc2,h⟩:=Aa h;refine gR hq [4,5,6,7] [] [] [] (c1 hc2) ?_;refine gR hq [5,6,7,16] [] [] [] (ci (gI ((decide (((aB.getD i1.toNat 0):Int)<0))==false)) (c1 (Qn (decide (((aB.getD i1.toNat 0):Int)<0))))) ?_;refine gC h (fun h=>?_) (fun h=>?_)
   ·refine Af hq [2] [] ?_;cases h;exact gO (Jw (Fx [] (Le.refl _ _)))
   ·refine Af hq [5,6,7] [] ?_;cases h;exact gN C9
  ·cases h;exact gO (B2 (B0 [] [] hq))
 ·clear hx3;rcases x3 with _|r5
  ·refine gA ?_;refine Af hq [2] [] ?_;obtain rfl:=OI h;exact Bk []
  ·refine Qx (fun st' hk=>?_);obtain rfl:=OI h;exact gK hk
def Ea(aB:List Int):Option Bool:=
 ((bif ((decide (((aB.length:Int):Int)≤64))==true) then Ch aB else some false).bind fun x1=>(some (bif (decide (((aB.length:Int):Int)≤64)) then x1 else false)))
theorem Gq(aB:List Int)(r:Bool)(h:Ea aB=some r):Spec Tryz.prog 174 [(AV.list 1 Ah 0 aB .none)] [] (.bool r) []:=by
 refine Ac mix Tryz.func174 (fun Γ hq=>?_);unfold Ea at h;refine Af hq [0] [] ?_;obtain⟨x1,hx1,h⟩:=bind_some h;refine gR hq [2] [] [] [⟨[],[],(.bool x1),[],[],[]⟩] (ci (gI ((decide (((aB.length:Int):Int)≤64))==true)) (ci (fun(hg:((decide (((aB.length:Int):Int)≤64))==true)=true)=>(C2 aB x1 (B9 hg hx1))) (c1 (Lh (decide (((aB.length:Int):Int)≤64)))))) ?_;cases h;exact Bk []
def Kc(aa4:Fw):Option Bool:=
 ((Ch ([aa4.Bits,aa4.Dst]:List Int)).bind fun x1=>((bif (x1==true) then Ea aa4.From else some false).bind fun x2=>((bif ((bif x1 then x2 else false)==true) then Ea aa4.Args else some false).bind fun x3=>(some (bif (bif x1 then x2 else false) then x3 else false)))))
theorem Uc(aa4:Fw)(r:Bool)(h:Kc aa4=some r):Spec Tryz.prog 159 [(.agg (Qv aa4))] [] (.bool r) []:=by
 refine Ac mix Tryz.func159 (fun Γ hq=>?_);unfold Kc at h;refine Af hq [1] [1] ?_;obtain⟨x1,hx1,h⟩:=bind_some h;obtain⟨x2,hx2,h⟩:=bind_some h;obtain⟨x3,hx3,h⟩:=bind_some h;refine gR hq [2] [] [(7,(AV.list 1 Ah 0 ([aa4.Bits,aa4.Dst]:List Int) .exact))] [⟨[],[],(.bool x1),[],[],[]⟩,⟨[],[],(.bool x2),[],[],[]⟩,⟨[],[],(.bool x3),[],[],[]⟩] (ci (Bd 1 Ah (0:Int) ([aa4.Bits,aa4.Dst]:List Int)) (ci (C2 ([aa4.Bits,aa4.Dst]:List Int) x1 hx1) (ci (gI (x1==true)) (ci (gI (x1==true)) (ci (fun(hg:(x1==true)=true)=>(Gq aa4.From x2 (B9 hg hx2))) (ci (Lh x1) (ci (gI ((bif x1 then x2 else false)==true)) (ci (gI ((bif x1 then x2 else false)==true)) (ci (fun(hg:((bif x1 then x2 else false)==true)=true)=>(Gq aa4.Args x3 (B9 hg hx3))) (c1 (Lh (bif x1 then x2 else false)))))))))))) ?_;cases h;exact Bk []
def G2(aB:List Fw):Int→Option (LR Int (Unit ⊕ Bool)):=
 fun(i1:Int)=>(bif (decide (i1<(aB.length:Int))) then(Aw (A5 i1 aB.length) ((Kc (aB.getD i1.toNat default)).bind fun x3=>(bif (!x3) then(some (.done (.inr false))) else(some (.next (Aq (i1+1))))))) else(some (.done (.inl ()))))
def N6(Γ:Ek)(aB:List Fw)(r:Bool):Exit→St→Prop:=fK Tryz.prog Γ Tryz.f158.results.toList [] (.bool r) []
def Fq(aB:List Fw):Option Bool:=
 ((Az (G2 aB) (0:Int)).bind (fun x4=>(match x4 with|(.inl _)=>(some true)|(.inr r6)=>(some r6))))
theorem Ni(aB:List Fw)(r:Bool)(h:Fq aB=some r):Spec Tryz.prog 158 [(AV.list 4 Qv default aB .none),(.clo 159 [] [])] [] (.bool r) []:=by
 refine Ac mix Tryz.func158 (fun Γ hq=>?_);unfold Fq at h;refine Af hq [0,1] [] ?_;refine Af hq [1,7,8,9] [] ?_;obtain⟨x4,hx4,h⟩:=bind_some h;refine gL hq hx4 [1,7,8,9] [] (fun u i1=>(Cx u [(9,(Bi i1))] [])) (fun u x_=>match x_ with|(.inl _)=>aG Γ (.exit 0) (⟨[],[],[]⟩:St)|(.inr r_)=>aR (N6 Γ aB r_)) ?_ ?_
 ·intro i1 y h;unfold G2 at h;refine Af hq [1,7,8,9,10] [] ?_;refine gC h (fun h=>?_) (fun h=>?_)
  ·obtain⟨hc2,h⟩:=Aa h;refine gR hq [1,6,7,8,9] [6] [] [] (c1 hc2) ?_;obtain⟨x3,hx3,h⟩:=bind_some h;refine gR hq [1,7,8,9,16] [] [] [⟨[],[],(.bool x3),[],[],[]⟩] (c1 (Uc (aB.getD i1.toNat default) x3 hx3)) ?_;refine gC h (fun h=>?_) (fun h=>?_)
   ·refine Af hq [4] [] ?_;cases h;exact gO (Jw (Fx [] (Le.refl _ _)))
   ·refine Af hq [1,7,8,9] [] ?_;cases h;exact gN C9
  ·cases h;exact gO (B2 (B0 [] [] hq))
 ·clear hx4;rcases x4 with _|r6
  ·refine gA ?_;refine Af hq [4] [] ?_;obtain rfl:=OI h;exact Bk []
  ·refine Qx (fun st' hk=>?_);obtain rfl:=OI h;exact gK hk
def Lw(a1:Cs):Option Bool:=
 ((Ch ([a1.Kind,a1.Bits,a1.Lanes,a1.Dst]:List Int)).bind fun x1=>((bif (x1==true) then Ea a1.Args else some false).bind fun x2=>(some (bif x1 then x2 else false))))
theorem Vv(a1:Cs)(r:Bool)(h:Lw a1=some r):Spec Tryz.prog 161 [(.agg (Fc a1))] [] (.bool r) []:=by
 refine Ac mix Tryz.func161 (fun Γ hq=>?_);unfold Lw at h;refine Af hq [1] [1] ?_;obtain⟨x1,hx1,h⟩:=bind_some h;obtain⟨x2,hx2,h⟩:=bind_some h;refine gR hq [2] [] [(11,(AV.list 1 Ah 0 ([a1.Kind,a1.Bits,a1.Lanes,a1.Dst]:List Int) .exact))] [⟨[],[],(.bool x1),[],[],[]⟩,⟨[],[],(.bool x2),[],[],[]⟩] (ci (Bd 1 Ah (0:Int) ([a1.Kind,a1.Bits,a1.Lanes,a1.Dst]:List Int)) (ci (C2 ([a1.Kind,a1.Bits,a1.Lanes,a1.Dst]:List Int) x1 hx1) (ci (gI (x1==true)) (ci (gI (x1==true)) (ci (fun(hg:(x1==true)=true)=>(Gq a1.Args x2 (B9 hg hx2))) (c1 (Lh x1))))))) ?_;cases h;exact Bk []
def Hi(aB:List Cs):Int→Option (LR Int (Unit ⊕ Bool)):=
 fun(i1:Int)=>(bif (decide (i1<(aB.length:Int))) then(Aw (A5 i1 aB.length) ((Lw (aB.getD i1.toNat default)).bind fun x3=>(bif (!x3) then(some (.done (.inr false))) else(some (.next (Aq (i1+1))))))) else(some (.done (.inl ()))))
def O0(Γ:Ek)(aB:List Cs)(r:Bool):Exit→St→Prop:=fK Tryz.prog Γ Tryz.f160.results.toList [] (.bool r) []
def Gd(aB:List Cs):Option Bool:=
 ((Az (Hi aB) (0:Int)).bind (fun x4=>(match x4 with|(.inl _)=>(some true)|(.inr r6)=>(some r6))))
theorem Ou(aB:List Cs)(r:Bool)(h:Gd aB=some r):Spec Tryz.prog 160 [(AV.list 6 Fc default aB .none),(.clo 161 [] [])] [] (.bool r) []:=by
 refine Ac mix Tryz.func160 (fun Γ hq=>?_);unfold Gd at h;refine Af hq [0,1] [] ?_;refine Af hq [1,7,8,9] [] ?_;obtain⟨x4,hx4,h⟩:=bind_some h;refine gL hq hx4 [1,7,8,9] [] (fun u i1=>(Cx u [(9,(Bi i1))] [])) (fun u x_=>match x_ with|(.inl _)=>aG Γ (.exit 0) (⟨[],[],[]⟩:St)|(.inr r_)=>aR (O0 Γ aB r_)) ?_ ?_
 ·intro i1 y h;unfold Hi at h;refine Af hq [1,7,8,9,10] [] ?_;refine gC h (fun h=>?_) (fun h=>?_)
  ·obtain⟨hc2,h⟩:=Aa h;refine gR hq [1,6,7,8,9] [6] [] [] (c1 hc2) ?_;obtain⟨x3,hx3,h⟩:=bind_some h;refine gR hq [1,7,8,9,16] [] [] [⟨[],[],(.bool x3),[],[],[]⟩] (c1 (Vv (aB.getD i1.toNat default) x3 hx3)) ?_;refine gC h (fun h=>?_) (fun h=>?_)
   ·refine Af hq [4] [] ?_;cases h;exact gO (Jw (Fx [] (Le.refl _ _)))
   ·refine Af hq [1,7,8,9] [] ?_;cases h;exact gN C9
  ·cases h;exact gO (B2 (B0 [] [] hq))
 ·clear hx4;rcases x4 with _|r6
  ·refine gA ?_;refine Af hq [4] [] ?_;obtain rfl:=OI h;exact Bk []
  ·refine Qx (fun st' hk=>?_);obtain rfl:=OI h;exact gK hk
def Kb(aL:Gz):Option Bool:=
 ((Ch ([aL.Kind,aL.Arg]:List Int)).bind fun x1=>((bif (x1==true) then Ea aL.To else some false).bind fun x2=>(some (bif x1 then x2 else false))))
theorem Ub(aL:Gz)(r:Bool)(h:Kb aL=some r):Spec Tryz.prog 162 [(.agg (eTEnd aL))] [] (.bool r) []:=by
 refine Ac mix Tryz.func162 (fun Γ hq=>?_);unfold Kb at h;refine Af hq [1] [1] ?_;obtain⟨x1,hx1,h⟩:=bind_some h;obtain⟨x2,hx2,h⟩:=bind_some h;refine gR hq [2] [] [(7,(AV.list 1 Ah 0 ([aL.Kind,aL.Arg]:List Int) .exact))] [⟨[],[],(.bool x1),[],[],[]⟩,⟨[],[],(.bool x2),[],[],[]⟩] (ci (Bd 1 Ah (0:Int) ([aL.Kind,aL.Arg]:List Int)) (ci (C2 ([aL.Kind,aL.Arg]:List Int) x1 hx1) (ci (gI (x1==true)) (ci (gI (x1==true)) (ci (fun(hg:(x1==true)=true)=>(Gq aL.To x2 (B9 hg hx2))) (c1 (Lh x1))))))) ?_;cases h;exact Bk []
def Im(aQ:Aj):Option Bool:=
 ((Fq aQ.Phis).bind fun x1=>((bif (x1==true) then Gd aQ.Ops else some false).bind fun x2=>((bif ((bif x1 then x2 else false)==true) then Kb (⟨aQ.End.Kind,aQ.End.Arg,aQ.End.To⟩:Gz) else some false).bind fun x3=>(some (bif (bif x1 then x2 else false) then x3 else false)))))
theorem Sm(aQ:Aj)(r:Bool)(h:Im aQ=some r):Spec Tryz.prog 121 [(.agg (Av aQ))] [] (.bool r) []:=by
 refine Ac mix Tryz.func121 (fun Γ hq=>?_);unfold Im at h;refine Af hq [1] [1] ?_;obtain⟨x1,hx1,h⟩:=bind_some h;obtain⟨x2,hx2,h⟩:=bind_some h;obtain⟨x3,hx3,h⟩:=bind_some h;refine gR hq [2] [] [] [⟨[],[],(.bool x1),[],[],[]⟩,⟨[],[],(.bool x2),[],[],[]⟩,⟨[],[],(.bool x3),[],[],[]⟩] (ci (Ni aQ.Phis x1 hx1) (ci (gI (x1==true)) (ci (gI (x1==true)) (ci (fun(hg:(x1==true)=true)=>(Ou aQ.Ops x2 (B9 hg hx2))) (ci (Lh x1) (ci (gI ((bif x1 then x2 else false)==true)) (ci (gI ((bif x1 then x2 else false)==true)) (ci (fun(hg:((bif x1 then x2 else false)==true)=true)=>(Ub (⟨aQ.End.Kind,aQ.End.Arg,aQ.End.To⟩:Gz) x3 (B9 hg hx3))) (c1 (Lh (bif x1 then x2 else false))))))))))) ?_;cases h;exact Bk []
def Gc(aB:List Aj):Int→Option (LR Int (Unit ⊕ Bool)):=
 fun(i1:Int)=>(bif (decide (i1<(aB.length:Int))) then(Aw (A5 i1 aB.length) ((Im (aB.getD i1.toNat default)).bind fun x3=>(bif (!x3) then(some (.done (.inr false))) else(some (.next (Aq (i1+1))))))) else(some (.done (.inl ()))))
def L9(Γ:Ek)(aB:List Aj)(r:Bool):Exit→St→Prop:=fK Tryz.prog Γ Tryz.f120.results.toList [] (.bool r) []
def Ex(aB:List Aj):Option Bool:=
 ((Az (Gc aB) (0:Int)).bind (fun x4=>(match x4 with|(.inl _)=>(some true)|(.inr r6)=>(some r6))))
theorem L4(aB:List Aj)(r:Bool)(h:Ex aB=some r):Spec Tryz.prog 120 [(AV.list 5 Av default aB .none),(.clo 121 [] [])] [] (.bool r) []:=by
 refine Ac mix Tryz.func120 (fun Γ hq=>?_);unfold Ex at h;refine Af hq [0,1] [] ?_;refine Af hq [1,7,8,9] [] ?_;obtain⟨x4,hx4,h⟩:=bind_some h;refine gL hq hx4 [1,7,8,9] [] (fun u i1=>(Cx u [(9,(Bi i1))] [])) (fun u x_=>match x_ with|(.inl _)=>aG Γ (.exit 0) (⟨[],[],[]⟩:St)|(.inr r_)=>aR (L9 Γ aB r_)) ?_ ?_
 ·intro i1 y h;unfold Gc at h;refine Af hq [1,7,8,9,10] [] ?_;refine gC h (fun h=>?_) (fun h=>?_)
  ·obtain⟨hc2,h⟩:=Aa h;refine gR hq [1,6,7,8,9] [6] [] [] (c1 hc2) ?_;obtain⟨x3,hx3,h⟩:=bind_some h;refine gR hq [1,7,8,9,16] [] [] [⟨[],[],(.bool x3),[],[],[]⟩] (c1 (Sm (aB.getD i1.toNat default) x3 hx3)) ?_;refine gC h (fun h=>?_) (fun h=>?_)
   ·refine Af hq [4] [] ?_;cases h;exact gO (Jw (Fx [] (Le.refl _ _)))
   ·refine Af hq [1,7,8,9] [] ?_;cases h;exact gN C9
  ·cases h;exact gO (B2 (B0 [] [] hq))
 ·clear hx4;rcases x4 with _|r6
  ·refine gA ?_;refine Af hq [4] [] ?_;obtain rfl:=OI h;exact Bk []
  ·refine Qx (fun st' hk=>?_);obtain rfl:=OI h;exact gK hk
def Q9(a9:Ae):=(decide (((a9.Blocks.length:Int):Int)<1))
def Q8(a9:Ae):=(decide (((16:Int):Int)<(a9.Params.length:Int)))
def Ru(a9:Ae):Option Bool:=
 (bif (bif (decide (((a9.Blocks.length:Int):Int)<1)) then true else(decide (((64:Int):Int)<(a9.Blocks.length:Int)))) then(some false) else((bif ((decide (((16:Int):Int)<(a9.Params.length:Int)))==false) then Pd a9 else some (0:Int)).bind fun x1=>(bif (bif (decide (((16:Int):Int)<(a9.Params.length:Int))) then true else(decide (((512:Int):Int)<x1))) then(some false) else((Ch a9.Params).bind fun x2=>((bif (x2==true) then Ch ([a9.Ret]:List Int) else some false).bind fun x3=>((bif ((bif x2 then x3 else false)==true) then Ex a9.Blocks else some false).bind fun x4=>(some (bif (bif x2 then x3 else false) then x4 else false))))))))
theorem ok_code_May(a9:Ae)(r:Bool)(h:Ru a9=some r):Spec Tryz.prog 96 [(.agg (Rq a9))] [] (.bool r) []:=by
 refine Ac mix Tryz.func96 (fun Γ hq=>?_);unfold Ru at h;refine Af hq [1] [1] ?_;refine gR hq [1,12] [1] [] [] (ci (gI ((Q9 a9)==false)) (ci (gI ((Q9 a9)==false)) (ci (gI ((Q9 a9)==false)) (c1 (Qn (Q9 a9)))))) ?_;refine gC h (fun h=>?_) (fun h=>?_)
 ·refine Af hq [2] [] ?_;obtain rfl:=OI h;exact Bk []
 ·obtain⟨x1,hx1,h⟩:=bind_some h;refine gR hq [1,21] [1] [] [⟨[],[],(Bi x1),[],[],[]⟩] (ci (gI ((Q8 a9)==false)) (ci (fun(hg:((Q8 a9)==false)=true)=>(Y0 a9 x1 (B9 hg hx1))) (ci (gI ((Q8 a9)==false)) (c1 (Qn (Q8 a9)))))) ?_;refine gC h (fun h=>?_) (fun h=>?_)
  ·refine Af hq [2] [] ?_;obtain rfl:=OI h;exact Bk []
  ·obtain⟨x2,hx2,h⟩:=bind_some h;obtain⟨x3,hx3,h⟩:=bind_some h;obtain⟨x4,hx4,h⟩:=bind_some h;refine gR hq [2] [] [(28,(Z40 a9.Ret))] [⟨[],[],(.bool x2),[],[],[]⟩,⟨[],[],(.bool x3),[],[],[]⟩,⟨[],[],(.bool x4),[],[],[]⟩] (ci (C2 a9.Params x2 hx2) (ci (gI (x2==true)) (ci (gI (x2==true)) (ci (show((x2==true)=true→(AVle (.slice 1 1 (fun i=>([[(Bi a9.Ret)]]:List (List AV)).getD i []) .exact) (Z40 a9.Ret))) from(fun hg=>@(Bd 1 Ah (0:Int) ([a9.Ret]:List Int)))) (ci (gI (x2==true)) (ci (fun(hg:(x2==true)=true)=>(C2 ([a9.Ret]:List Int) x3 (B9 hg hx3))) (ci (Lh x2) (ci (gI ((bif x2 then x3 else false)==true)) (ci (gI ((bif x2 then x3 else false)==true)) (ci (fun(hg:((bif x2 then x3 else false)==true)=true)=>(L4 a9.Blocks x4 (B9 hg hx4))) (c1 (Lh (bif x2 then x3 else false))))))))))))) ?_;cases h;exact Bk []
def Hw(aaD:Bool)(aL:Int):Option Int:=
 (bif aaD then(some (0:Int)) else(some aL))
theorem Nz(aaD:Bool)(aL:Int)(r:Int)(h:Hw aaD aL=some r):Spec Tryz.prog 95 [(.bool aaD),(.int .i64 aL)] [] (.int .i64 r) []:=by
 refine Ac mix Tryz.func95 (fun Γ hq=>?_);unfold Hw at h;refine Af hq [0,1] [] ?_;refine Af hq [1,5] [] ?_;refine gC h (fun h=>?_) (fun h=>?_)
 ·refine Af hq [4] [] ?_;cases h;exact Bk []
 ·refine Af hq [4] [] ?_;obtain rfl:=OI h;exact Bk []
def Ga(a6:Ae)(a7:Int)(a0:List Int)(a2:List An):Option (Int×Ae×Int×List Int×List An):=
 ((Ru a6).bind fun x1=>((Hw x1 (4:Int)).bind fun x2=>(some (x2,a6,a7,a0,a2))))
theorem Or(a6:Ae)(a7:Int)(a0:List Int)(a2:List An)(r:(Int×Ae×Int×List Int×List An))(h:Ga a6 a7 a0 a2=some r):Spec Tryz.prog 80 [(.ptr 30000 0)] [(30000,.row 124 [(AV.list 1 Ah 0 a6.Params .none),(.int .i64 a6.Ret),(AV.list 5 Av default a6.Blocks .none),(.int .i64 a7),(AV.list 1 Ah 0 a0 .none),.nilm,(AV.list 5 Bo default a2 (.own 37006))]),(37006,.tok 5 165 a2.length)] (.int .i64 r.1) [(30000,.row 124 [(AV.list 1 Ah 0 r.2.1.Params .none),(.int .i64 r.2.1.Ret),(AV.list 5 Av default r.2.1.Blocks .none),(.int .i64 r.2.2.1),(AV.list 1 Ah 0 r.2.2.2.1 .none),.nilm,(AV.list 5 Bo default r.2.2.2.2 (.own 37006))]),(37006,.tok 5 165 r.2.2.2.2.length)]:=by
 refine Ac mix Tryz.func80 (fun Γ hq=>?_);unfold Ga at h;refine Af hq [0] [30000,37006] ?_;obtain⟨x1,hx1,h⟩:=bind_some h;obtain⟨x2,hx2,h⟩:=bind_some h;refine gR hq [2] [30000,37006] [] [⟨[],[],(.bool x1),[],[],[]⟩,⟨[],[],(Bi x2),[],[],[]⟩] (ci (ok_code_May a6 x1 hx1) (c1 (Nz x1 (4:Int) x2 hx2))) ?_;cases h;exact Bk [(30000,30000),(37006,37006)]
def G6(aK:Int):Option Bool:=
 (some (bif (decide (((1:Int):Int)≤aK)) then(decide (aK≤64)) else false))
theorem Mj(aK:Int)(r:Bool)(h:G6 aK=some r):Spec Tryz.prog 122 [(.int .i64 aK)] [] (.bool r) []:=by
 refine Ac mix Tryz.func122 (fun Γ hq=>?_);unfold G6 at h;refine Af hq [0] [] ?_;refine gR hq [2] [] [] [] (ci (gI ((decide (((1:Int):Int)≤aK))==true)) (c1 (Lh (decide (((1:Int):Int)≤aK))))) ?_;cases h;exact Bk []
def Fg(aN:Int)(aK:Int):Option Bool:=
 (some (bif (decide (((0:Int):Int)≤aN)) then(decide (aN<aK)) else false))
theorem Ip(aN:Int)(aK:Int)(r:Bool)(h:Fg aN aK=some r):Spec Tryz.prog 127 [(.int .i64 aN),(.int .i64 aK)] [] (.bool r) []:=by
 refine Ac mix Tryz.func127 (fun Γ hq=>?_);unfold Fg at h;refine Af hq [0,1] [] ?_;refine gR hq [4] [] [] [] (ci (gI ((decide (((0:Int):Int)≤aN))==true)) (ci (gI ((decide (((0:Int):Int)≤aN))==true)) (c1 (Lh (decide (((0:Int):Int)≤aN)))))) ?_;cases h;exact Bk []
def Kd(aL:Gz)(aK:Int):Int→Option (LR Int (Unit ⊕ Bool)):=
 fun(i7:Int)=>(bif (decide (i7<(aL.To.length:Int))) then(Aw (A5 i7 aL.To.length) ((bif ((((aL.To.getD i7.toNat 0):Int)==0)==false) then Fg (aL.To.getD i7.toNat 0) aK else some false).bind fun x9=>(bif (bif (((aL.To.getD i7.toNat 0):Int)==0) then true else(!x9)) then(some (.done (.inr false))) else(some (.next (Aq (i7+1))))))) else(some (.done (.inl ()))))
def Nq(Γ:Ek)(aL:Gz)(aK:Int)(r:Bool):Exit→St→Prop:=fK Tryz.prog Γ Tryz.f123.results.toList [] (.bool r) []
def Q10(aL:Gz)(i7:Int):=(((aL.To.getD i7.toNat 0):Int)==0)
def Jk(aL:Gz)(aK:Int):Option Bool:=
 (Option.bind (α:=(Int ⊕ Bool)) (Option.bind (α:=Bool) (bif (aL.Kind==0) then(some (aL.Kind==0)) else(some (aL.Kind==3))) (fun x3=>(bif x3 then(some (.inl (0:Int))) else(bif (aL.Kind==1) then(some (.inl (1:Int))) else(bif (aL.Kind==2) then(some (.inl (2:Int))) else(some (.inr false))))))) (fun x5=>(match x5 with|(.inl i1)=>(bif (((aL.To.length:Int):Int)!=i1) then(some false) else((Az (Kd aL aK) (0:Int)).bind (fun x10=>(match x10 with|(.inl _)=>(some true)|(.inr r12)=>(some r12)))))|(.inr r13)=>(some r13))))
theorem S8(aL:Gz)(aK:Int)(r:Bool)(h:Jk aL aK=some r):Spec Tryz.prog 123 [(.agg (eTEnd aL)),(.int .i64 aK)] [] (.bool r) []:=by
 refine Ac mix Tryz.func123 (fun Γ hq=>?_);unfold Jk at h;refine Af hq [1,2] [2] ?_;refine Af hq [1,2,5] [2] ?_;obtain⟨x5,hx5,h⟩:=bind_some h;refine gJ hx5 (fun x_=>match x_ with|(.inl i1)=>aG Γ .normal (⟨[(1,(Bi aK)),Zi,(5,(Bi i1))],[(2,.row 55 [(Bi aL.Kind),(Bi aL.Arg),(Wr aL.To)])],[]⟩:St)|(.inr r_)=>aR (Nq Γ aL aK r_)) ?_ ?_
 ·clear h hx5;intro y h;refine Af hq [1,2,5,9] [2] ?_;obtain⟨x3,hx3,h⟩:=bind_some h;refine gJ hx3 (fun b2=>aG Γ .normal (⟨[(1,(Bi aK)),Zi,(5,Id),(9,(Bi aL.Kind)),(10,(.bool b2))],[(2,.row 55 [(Bi aL.Kind),(Bi aL.Arg),(Wr aL.To)])],[]⟩:St)) ?_ ?_
  ·clear h hx3;intro y h;refine Af hq [1,2,5,9,10] [2] ?_;refine gC h (fun h=>?_) (fun h=>?_)
   ·cases h;exact gK (B2 C9)
   ·refine Af hq [1,2,5,9,10] [2] ?_;cases h;exact gK (B2 C9)
  ·clear hx3;refine gA ?_;refine gC h (fun h=>?_) (fun h=>?_)
   ·cases h;exact gK (B2 (B0 [1,2,5] [2] hq))
   ·refine Af hq [1,2,9,13] [2] ?_;refine gC h (fun h=>?_) (fun h=>?_)
    ·refine Af hq [1,2,5] [2] ?_;cases h;exact gK (B2 C9)
    ·refine Af hq [1,2,15] [2] ?_;refine gC h (fun h=>?_) (fun h=>?_)
     ·refine Af hq [1,2,5] [2] ?_;cases h;exact gK (B2 C9)
     ·refine Af hq [4] [] ?_;cases h;exact gK (Jw (Fx [] (Le.refl _ _)))
 ·clear hx5;rcases x5 with i1|r13
  ·refine gA ?_;refine Af hq [1,2,21] [2] ?_;refine gC h (fun h=>?_) (fun h=>?_)
   ·refine Af hq [4] [] ?_;obtain rfl:=OI h;exact Bk []
   ·refine Af hq [1,23,24,25] [] ?_;obtain⟨x10,hx10,h⟩:=bind_some h;refine gL hq hx10 [1,23,24,25] [] (fun u i7=>(Cx u [(I5 25 i7)] [])) (fun u x_=>match x_ with|(.inl _)=>aG Γ (.exit 1) (⟨[],[],[]⟩:St)|(.inr r_)=>aR (Nq Γ aL aK r_)) ?_ ?_
    ·intro i7 y h;unfold Kd at h;refine Af hq [1,23,24,25,26] [] ?_;refine gC h (fun h=>?_) (fun h=>?_)
     ·obtain⟨hc8,h⟩:=Aa h;refine gR hq [1,7,23,24,25] [] [] [] (c1 hc8) ?_;obtain⟨x9,hx9,h⟩:=bind_some h;refine gR hq [1,23,24,25,36] [] [] [⟨[],[],(.bool x9),[],[],[]⟩] (ci (gI ((Q10 aL i7)==false)) (ci (gI ((Q10 aL i7)==false)) (ci (fun(hg:((Q10 aL i7)==false)=true)=>(Ip (aL.To.getD i7.toNat 0) aK x9 (B9 hg hx9))) (ci (gI ((Q10 aL i7)==false)) (c1 (Qn (Q10 aL i7))))))) ?_;refine gC h (fun h=>?_) (fun h=>?_)
      ·refine Af hq [4] [] ?_;cases h;exact gO (Jw (Fx [] (Le.refl _ _)))
      ·refine Af hq [1,23,24,25] [] ?_;cases h;exact gN C9
     ·cases h;exact gO (B2 (B0 [] [] hq))
    ·clear hx10;rcases x10 with _|r12
     ·refine gA ?_;refine Af hq [4] [] ?_;obtain rfl:=OI h;exact Bk []
     ·refine Qx (fun st' hk=>?_);obtain rfl:=OI h;exact gK hk
  ·refine Qx (fun st' hk=>?_);obtain rfl:=OI h;exact gK hk
def Lk(aD:List (List Int))(i2:Int):(Int×List (List Int))→Option (LR (Int×List (List Int)) (List (List Int))):=
 fun((i6,l7):(Int×List (List Int)))=>(bif (decide (i6<((aD.getD i2.toNat []).length:Int))) then(Aw (A5 i6 (aD.getD i2.toNat []).length) (Aw (A5 ((aD.getD i2.toNat []).getD i6.toNat 0) l7.length) (Aw (A5 ((aD.getD i2.toNat []).getD i6.toNat 0) l7.length) (Aw ((l7.getD ((aD.getD i2.toNat []).getD i6.toNat 0).toNat []).length+([i2]:List Int).length≤room) (Aw (A5 ((aD.getD i2.toNat []).getD i6.toNat 0) l7.length) (some (.next ((Aq (i6+1)),(l7.set ((aD.getD i2.toNat []).getD i6.toNat 0).toNat ((l7.getD ((aD.getD i2.toNat []).getD i6.toNat 0).toNat [])++([i2]:List Int))))))))))) else(some (.done l7)))
def Ll(aD:List (List Int)):(Int×List (List Int))→Option (LR (Int×List (List Int)) (List (List Int))):=
 fun((i2,l3):(Int×List (List Int)))=>(bif (decide (i2<(aD.length:Int))) then(Aw (A5 i2 aD.length) ((Az (Lk aD i2) ((0:Int),l3)).bind (fun x14=>(some (.next ((Aq (i2+1)),x14)))))) else(some (.done l3)))
def Q15(i2:Int):=([i2]:List Int)
def Q11(aD:List (List Int))(i2:Int)(i6:Int):=((aD.getD i2.toNat []).getD i6.toNat 0)
def Q16(l7:List (List Int))(aD:List (List Int))(i2:Int)(i6:Int):=(l7.getD (Q11 aD i2 i6).toNat [])
def Q12(aD:List (List Int)):=(List.replicate (aD.length:Int).toNat ([]:List Int))
def Q18(l7:List (List Int))(aD:List (List Int))(i2:Int)(i6:Int):=(l7.set (Q11 aD i2 i6).toNat ((Q16 l7 aD i2 i6)++(Q15 i2)))
def Q14(aD:List (List Int)):List (Nat×AV):=[(0,(Z35 aD)),(3,(.vsl 10 (aD.length:Int).toNat))]
def Q13(l7:List (List Int))(i2:Int)(aD:List (List Int))(i6:Int):List (Nat×AV):=[(3,(.vsl 10 l7.length)),(4,(Bi i2)),(11,(Z35 aD)),(12,(K5 aD.length)),(I5 13 i2),(18,(AV.list 1 Ah 0 (aD.getD i2.toNat []) .none)),(19,(.int .i64 ((aD.getD i2.toNat []).length:Int))),(I5 20 i6)]
def Q17(l7:List (List Int))(i2:Int)(aD:List (List Int))(i6:Int):List (Nat×AV):=[(3,(.vsl 10 l7.length)),(4,(Bi i2)),(7,(Bi (Q11 aD i2 i6))),(11,(Z35 aD)),(12,(K5 aD.length)),(I5 13 i2),(18,(AV.list 1 Ah 0 (aD.getD i2.toNat []) .none)),(19,(.int .i64 ((aD.getD i2.toNat []).length:Int))),(I5 20 i6)]
def H1(aD:List (List Int)):Option (List (List Int)):=
 (Aw (0≤(aD.length:Int)∧(aD.length:Int)≤(aD.length:Int)∧(aD.length:Int)≤(room:Int)) ((Az (Ll aD) ((0:Int),(List.replicate (aD.length:Int).toNat ([]:List Int)))).bind (fun x16=>(some x16))))
theorem N1(aD:List (List Int))(r:List (List Int))(h:H1 aD=some r):Spec Tryz.prog 125 [(AV.list 1 El [] aD .none)] [] (AV.list 1 El [] r (.own 20000)) [(20000,.tok 1 22 r.length)]:=by
 refine Ac mix Tryz.func125 (fun Γ hq=>?_);have hΓ:=hq.own;unfold H1 at h;refine gR hq [0] [] [(2,(AV.list 1 El [] ([]:List (List Int)) .exact))] [] (c1 (Bq 1 El [])) ?_;obtain⟨hc1,h⟩:=Aa h;refine gR hq [0,3] [10] [] [] (c1 hc1) ?_;refine Oy (⟨(Q14 aD),[(10,.arr 1 22 ((aD.length:Int).toNat) (fun i_=>AV.eraseAll (fun n_=>Bl n_ [10]) ((fun _=>[Z28]) i_)))],[]⟩:St) ?_;refine Ie (Le.trans (Pc (st':=⟨(Q14 aD),[(10,.arr 1 22 ((aD.length:Int).toNat) (Ir 1 Ah (0:Int) (Q12 aD) (fun _=>.exact)))],[]⟩) (TmpsLe.refl _) (.arr fam_zero .nil)) (Le.trans (Le.trans (le_birth (r:=10) (b:=70010) Ah (0:Int) (Q12 aD) 3 rfl rfl (List.length_replicate ..).symm (fun h_=>absurd h_ (by decide))) (Hu (st':=⟨(Q14 aD),[(10,.arr 1 22 ((aD.length:Int).toNat) (Ir 1 Ah (0:Int) (Q12 aD) (Tag.fam 70010)))],[(70010,⟨1,3,Jg (Q12 aD)⟩)]⟩) (by kernel_rfl))) (Hu (congrArg (fun k_:Nat=>(⟨[(0,(Z35 aD)),(3,(.vsl 10 k_))],(Z21 k_ (Q12 aD)),[(70010,⟨1,3,Jg (Q12 aD)⟩)]⟩:St)) (show(aD.length:Int).toNat=(Q12 aD).length from(List.length_replicate ..).symm))))) ?_;refine Af hq [3,11,12,13] [10,70010] ?_;obtain⟨x16,hx16,h⟩:=bind_some h;refine gL hq hx16 [3,11,12,13] [10,70010] (fun u (i2,l3)=>(Cx u [(3,(.vsl 10 l3.length)),(I5 13 i2)] (Z21 l3.length l3) [(70010,⟨1,3,Jg l3⟩)])) (fun u l4=>aG Γ (.exit 0) (⟨[(3,(.vsl 10 l4.length))],(Z21 l4.length l4),[(70010,⟨1,3,Jg l4⟩)]⟩:St)) ?_ ?_
 ·rintro⟨i2,l3⟩ y h;unfold Ll at h;refine Af hq [3,11,12,13,14] [10,70010] ?_;refine gC h (fun h=>?_) (fun h=>?_)
  ·obtain⟨hc5,h⟩:=Aa h;refine gR hq [3,4,5,11,12,13] [10,70010] [] [] (c1 hc5) ?_;refine Af hq [3,4,11,12,13,18,19,20] [10,70010] ?_;obtain⟨x14,hx14,h⟩:=bind_some h;refine gL hq hx14 [3,4,11,12,13,18,19,20] [10,70010] (fun u (i6,l7)=>(Cx u [(3,(.vsl 10 l7.length)),(I5 20 i6)] (Z21 l7.length l7) [(70010,⟨1,3,Jg l7⟩)])) (fun u l8=>aG Γ (.exit 2) (Rz [3,11,12,13] [10,70010] u [(3,(.vsl 10 l8.length))] (Z21 l8.length l8) [(70010,⟨1,3,Jg l8⟩)])) ?_ ?_
   ·rintro⟨i6,l7⟩ y h;unfold Lk at h;refine Af hq [3,4,11,12,13,18,19,20,21] [10,70010] ?_;refine gC h (fun h=>?_) (fun h=>?_)
    ·obtain⟨hc9,h⟩:=Aa h;refine gR hq [3,4,7,11,12,13,18,19,20] [10,70010] [] [] (c1 hc9) ?_;refine Oy (⟨(Q17 l7 i2 aD i6),(Z21 l7.length l7),[(70010,⟨1,3,Jg l7⟩)]⟩:St) ?_;obtain⟨hc10,h⟩:=Aa h;obtain⟨hc11,h⟩:=Aa h;obtain⟨hc12,h⟩:=Aa h;obtain⟨hc13,h⟩:=Aa h;refine Ie (Le.trans (le_take (r:=10) (b:=70010) (k:=60010) Ah (0:Int) l7 (Q11 aD i2 i6).toNat 3 rfl rfl rfl rfl (Li hc10) (by kernel_rfl) (.here .nil)) (Hu (st':=⟨(Q17 l7 i2 aD i6),[(10,.arr 1 22 l7.length (Ir 1 Ah (0:Int) l7 (Dk 70010 (Q11 aD i2 i6).toNat 60010))),(60010,.tok 1 3 ((Q16 l7 aD i2 i6).length))],[(70010,⟨1,3,Sg l7 (Q11 aD i2 i6).toNat⟩)]⟩) (by kernel_rfl))) ?_;refine gR hq [3,4,11,12,13,18,19,20] [10,60010,70010] [(29,(Z42 (Q16 l7 aD i2 i6) 60010)),(31,(AV.list 1 Ah 0 (Q15 i2) .exact)),(32,(AV.list 1 Ah 0 ((Q16 l7 aD i2 i6)++(Q15 i2)) (.own 60010)))] [] (ci hc11 (ci (Eq.refl l7.length) (ci (show(AVle (((Ir 1 Ah (0:Int) l7 (Dk 70010 (Q11 aD i2 i6).toNat 60010)) (Q11 aD i2 i6).toNat).getD 0 .any) (Z42 (Q16 l7 aD i2 i6) 60010)) from av_famtag) (ci (Bd 1 Ah (0:Int) (Q15 i2)) (ci (Eq.refl ((Q16 l7 aD i2 i6).length)) (ci hc12 (ci (Ut 1 60010 Ah (0:Int) (Q16 l7 aD i2 i6) (Q15 i2)) (ci (G5 (Q16 l7 aD i2 i6) (Q15 i2)) (ci hc13 (c1 (Eq.refl l7.length))))))))))) ?_;refine Oy (⟨(Q13 l7 i2 aD i6),[(10,.arr 1 22 l7.length (fun i_=>AV.eraseAll (fun n_=>Bl n_ [10,60010,70010]) ((Fs (Ir 1 Ah (0:Int) l7 (Dk 70010 (Q11 aD i2 i6).toNat 60010)) (Q11 aD i2 i6).toNat 0 [(AV.list 1 Ah 0 ((Q16 l7 aD i2 i6)++(Q15 i2)) (.own 60010))]) i_))),(60010,.tok 1 3 (((Q16 l7 aD i2 i6)++(Q15 i2)).length))],[(70010,⟨1,3,Sg l7 (Q11 aD i2 i6).toNat⟩)]⟩:St) ?_;refine Ie (Le.trans (Le.trans (le_put (r:=10) (b:=70010) (k:=60010) Ah (0:Int) l7 (Q11 aD i2 i6).toNat ((Q16 l7 aD i2 i6)++(Q15 i2)) 3 rfl (putF_fam (Li hc10) rfl rfl) rfl rfl rfl rfl (Li hc10) (by kernel_rfl) (.here (.tok .nil)) (by rw[hΓ];rfl)) (Hu (st':=⟨(Q13 l7 i2 aD i6),(Z21 l7.length (Q18 l7 aD i2 i6)),[(70010,⟨1,3,Jg (Q18 l7 aD i2 i6)⟩)]⟩) (by kernel_rfl))) (Hu (congrArg (fun k_:Nat=>(⟨[(3,(.vsl 10 k_)),(4,(Bi i2)),(11,(Z35 aD)),(12,(K5 aD.length)),(I5 13 i2),(18,(AV.list 1 Ah 0 (aD.getD i2.toNat []) .none)),(19,(.int .i64 ((aD.getD i2.toNat []).length:Int))),(I5 20 i6)],(Z21 k_ (Q18 l7 aD i2 i6)),[(70010,⟨1,3,Jg (Q18 l7 aD i2 i6)⟩)]⟩:St)) (show l7.length=(Q18 l7 aD i2 i6).length from(List.length_set ..).symm)))) ?_;refine Af hq [3,4,11,12,13,18,19,20] [10,70010] ?_;cases h;exact gN C9
    ·cases h;exact gO (B2 (B0 [3,11,12,13] [10,70010] hq))
   ·clear hx14;refine gA ?_;refine Af hq [3,11,12,13] [10,70010] ?_;cases h;exact gN C9
  ·cases h;exact gO (B2 (B0 [3] [10,70010] hq))
 ·clear hx16;refine gA ?_;refine Af hq [2] [10,70010] ?_;refine Oy (⟨[(2,(.vsl 10 x16.length))],(Z21 x16.length x16),[(70010,⟨1,3,Jg x16⟩)]⟩:St) ?_;obtain rfl:=OI h;exact gK (e:=.ret) (Fx [(10,20000)] (Le.trans (Ep (nm:=10) (sz:=1) (n:=x16.length) (e:=22) (f:=(Ir 1 Ah (0:Int) x16 (Tag.fam 70010))) (g:=(fun i=>El (x16.getD i []))) rfl ⟨rfl,trivial⟩ (fun _ _=>rfl) (by rw[hΓ];rfl)) (B0 (st':=⟨[(2,(AV.list 1 El [] x16 (.own 10)))],[(10,.tok 1 22 x16.length)],[]⟩) [2] [10] hq)))
def Rc(a9:Ae):(Int×List (List Int))→Option (LR (Int×List (List Int)) (List (List Int) ⊕ (Ct×Int))):=
 fun((i3,l4):(Int×List (List Int)))=>(bif (decide (i3<(a9.Blocks.length:Int))) then(Aw (A5 i3 a9.Blocks.length) ((Jk (⟨(a9.Blocks.getD i3.toNat default).End.Kind,(a9.Blocks.getD i3.toNat default).End.Arg,(a9.Blocks.getD i3.toNat default).End.To⟩:Gz) (a9.Blocks.length:Int)).bind fun x7=>(bif (!x7) then(some (.done (.inr ((⟨([]:List (List Int)),([]:List (List Int))⟩:Ct),(5:Int))))) else((x_rising ((a9.Blocks.getD i3.toNat default).End.To)).bind fun x8=>(Aw (A5 i3 l4.length) (some (.next ((Aq (i3+1)),(l4.set i3.toNat x8))))))))) else(some (.done (.inl l4))))
def K_graph_Of(Γ:Ek)(a9:Ae)(r:(Ct×Int)):Exit→St→Prop:=fK Tryz.prog Γ Tryz.f97.results.toList [] (.tuple [(.agg (Mw r.1)),(Bi r.2)]) []
def Q20:AV:=Z28
def Q21:List (Nat×AV):=[Zi,(3,Z64)]
def Q24(a9:Ae)(i3:Int):=(a9.Blocks.getD i3.toNat default)
def Q22:AV:=(AV.list 1 El [] ([]:List (List Int)) .none)
def Q23(a9:Ae):=(List.replicate (a9.Blocks.length:Int).toNat ([]:List Int))
def Q19:List AV:=[(AV.list 1 El [] ([]:List (List Int)) .exact),(AV.list 1 El [] ([]:List (List Int)) .exact)]
def Rx(a9:Ae):Option (Ct×Int):=
 ((G6 (a9.Blocks.length:Int)).bind fun x1=>(bif (!x1) then(some ((⟨([]:List (List Int)),([]:List (List Int))⟩:Ct),(5:Int))) else(Aw (0≤(a9.Blocks.length:Int)∧(a9.Blocks.length:Int)≤(a9.Blocks.length:Int)∧(a9.Blocks.length:Int)≤(room:Int)) ((Az (Rc a9) ((0:Int),(List.replicate (a9.Blocks.length:Int).toNat ([]:List Int)))).bind (fun x10=>(match x10 with|(.inl l5)=>((H1 l5).bind fun x12=>(some ((⟨l5,x12⟩:Ct),(0:Int))))|(.inr r13)=>(some r13)))))))
theorem ok_graph_Of(a9:Ae)(r:(Ct×Int))(h:Rx a9=some r):Spec Tryz.prog 97 [(.agg (Rq a9))] [] (.tuple [(.agg (Mw r.1)),(.int .i64 r.2)]) []:=by
 refine Ac mix Tryz.func97 (fun Γ hq=>?_);have hΓ:=hq.own;unfold Rx at h;refine Af hq [1,2] [1,2] ?_;refine Af hq [1,2,4] [1,2] ?_;obtain⟨x1,hx1,h⟩:=bind_some h;refine gR hq [1,2,4,13] [1,2] [] [⟨[],[],(.bool x1),[],[],[]⟩] (c1 (Mj (a9.Blocks.length:Int) x1 hx1)) ?_;refine gC h (fun h=>?_) (fun h=>?_)
 ·refine gR hq [2,3] [2] [(14,(.agg Q19))] [] (c1 (show(AVle (.agg [Q20,Q20]) (.agg Q19)) from(AVle.agg (.cons Dv (.cons Dv .nil))))) ?_;refine Oy (⟨Q21,[(Zj Q19)],[]⟩:St) ?_;cases h;exact gK (e:=.ret) (Fx [] (show Le Γ _ (⟨Q21,[(2,.row 86 [Q22,Q22])],[]⟩:St) from Le.trans (B0 (st':=⟨Q21,[(Zj Q19)],[]⟩) [2,3] [2] hq) (Pc (.cons (AVle.refl _) (.cons (AVle.refl _) .nil)) (.row (.cons AVle.untag (.cons AVle.untag .nil)) .nil))))
 ·obtain⟨hc2,h⟩:=Aa h;refine gR hq [1,2,4,5] [1,2,16] [] [] (c1 hc2) ?_;refine Ie (Le.trans (K6 16 (show ∀ k_,k_<((a9.Blocks.length:Int).toNat)→AVleL ((fun i_=>AV.eraseAll (fun n_=>Bl n_ [1,2,16]) ((fun _=>[Q20]) i_)) k_) ((fun i=>El ((Q23 a9).getD i [])) k_) from(fun k hk=>H5 (e:=El) (d:=[]) (.cons (fun _ _ _ _ _ hh=>AVle.untag _ _ _ _ _ (Dv _ _ _ _ _ hh)) .nil) _ k (H6 hk)))) (K7 (fun(k_:Nat) u=>(Cx u [(5,(.vsl 16 k_))] [(16,.arr 1 22 k_ (fun i=>El ((Q23 a9).getD i [])))])) (show(a9.Blocks.length:Int).toNat=(Q23 a9).length from(List.length_replicate ..).symm))) ?_;refine Af hq [2,4,5,18,19,20] [2,16] ?_;obtain⟨x10,hx10,h⟩:=bind_some h;refine gL hq hx10 [2,4,5,18,19,20] [2,16] (fun u (i3,l4)=>(Cx u [(5,(.vsl 16 l4.length)),(I5 20 i3)] [(16,.arr 1 22 l4.length (fun i=>El (l4.getD i [])))])) (fun u x_=>match x_ with|(.inl l5)=>aG Γ (.exit 0) (Rz [2,5] [2,16] u [(5,(.vsl 16 l5.length))] [(16,.arr 1 22 l5.length (fun i=>El (l5.getD i [])))])|(.inr r_)=>aR (K_graph_Of Γ a9 r_)) ?_ ?_
  ·rintro⟨i3,l4⟩ y h;unfold Rc at h;refine Af hq [2,4,5,18,19,20,21] [2,16] ?_;refine gC h (fun h=>?_) (fun h=>?_)
   ·obtain⟨hc6,h⟩:=Aa h;refine gR hq [2,4,5,6,7,18,19,20] [2,7,16] [] [] (c1 hc6) ?_;obtain⟨x7,hx7,h⟩:=bind_some h;refine gR hq [2,4,5,6,7,18,19,20,29] [2,7,16] [] [⟨[],[],(.bool x7),[],[],[]⟩] (c1 (S8 (⟨(Q24 a9 i3).End.Kind,(Q24 a9 i3).End.Arg,(Q24 a9 i3).End.To⟩:Gz) (a9.Blocks.length:Int) x7 hx7)) ?_;refine gC h (fun h=>?_) (fun h=>?_)
    ·refine gR hq [2,3] [2] [(30,(.agg Q19))] [] (c1 (show(AVle (.agg [Q20,Q20]) (.agg Q19)) from(AVle.agg (.cons Dv (.cons Dv .nil))))) ?_;refine Oy (⟨Q21,[(Zj Q19)],[]⟩:St) ?_;cases h;exact gO (Jw (Fx [] (show Le Γ _ (⟨Q21,[(2,.row 86 [Q22,Q22])],[]⟩:St) from Le.trans (B0 (st':=⟨Q21,[(Zj Q19)],[]⟩) [2,3] [2] hq) (Pc (.cons (AVle.refl _) (.cons (AVle.refl _) .nil)) (.row (.cons AVle.untag (.cons AVle.untag .nil)) .nil)))))
    ·obtain⟨x8,hx8,h⟩:=bind_some h;obtain⟨hc9,h⟩:=Aa h;refine gR hq [2,4,5,18,19,20] [2,16] [] [⟨[],[],(Wr x8),[],[],[]⟩] (ci (xok_rising ((Q24 a9 i3).End.To) x8 hx8) (ci hc9 (c1 (Eq.refl l4.length)))) ?_;refine Ie (Le.trans (K6 16 (show ∀ k_,k_<l4.length→AVleL ((fun i_=>AV.eraseAll (fun n_=>Bl n_ [2,16]) ((Fs (fun i=>El (l4.getD i [])) i3.toNat 0 [(Wr x8)]) i_)) k_) ((fun i=>El ((l4.set i3.toNat x8).getD i [])) k_) from(A6 (List.length_set ..).symm (fun k_ hk_=>(congrArg (AV.eraseAll (fun n_=>Bl n_ [2,16])) ((D1 (fun _ _=>rfl) (Ed hc9) rfl) k_ hk_)).trans rfl)))) (K7 (fun(k_:Nat) u=>(Cx u [(5,(.vsl 16 k_))] [(16,.arr 1 22 k_ (fun i=>El ((l4.set i3.toNat x8).getD i [])))])) (show l4.length=(l4.set i3.toNat x8).length from(List.length_set ..).symm))) ?_;refine Af hq [2,4,5,18,19,20] [2,16] ?_;cases h;exact gN C9
   ·cases h;exact gO (B2 (B0 [2,5] [2,16] hq))
  ·clear hx10;rcases x10 with l5|r13
   ·refine gA ?_;refine Oy (⟨[Zi,(5,(.vsl 16 l5.length))],[(2,.row 86 [Q20,Q20]),(16,.arr 1 22 l5.length (fun i=>El (l5.getD i [])))],[]⟩:St) ?_;refine Ie (Le.trans (Ep (nm:=16) (sz:=1) (n:=l5.length) (e:=22) (f:=(fun i=>El (l5.getD i []))) (g:=(fun i=>El (l5.getD i []))) rfl ⟨rfl,trivial⟩ (fun _ _=>rfl) (by rw[hΓ];rfl)) (Hu (st':=⟨[Zi,(5,(AV.list 1 El [] l5 (.own 16)))],[(2,.row 86 [Q20,Q20]),(16,.tok 1 22 l5.length)],[]⟩) (by kernel_rfl))) ?_;obtain⟨x12,hx12,h⟩:=bind_some h;refine gR hq [2,3] [2,16,41] [] [⟨[],[(20000,41)],(AV.list 1 El [] x12 (.own 20000)),[(20000,.tok 1 22 x12.length)],[],[]⟩] (c1 (N1 l5 x12 hx12)) ?_;cases h;exact Bk []
   ·refine Qx (fun st' hk=>?_);obtain rfl:=OI h;exact gK hk
def Ke(aD:List (List Int))(i2:Int):(Int×Int)→Option (LR (Int×Int) (Unit ⊕ Bool)):=
 fun((i4,i5):(Int×Int))=>(bif (decide (i5<((aD.getD i2.toNat []).length:Int))) then(Aw (A5 i5 (aD.getD i2.toNat []).length) ((bif ((decide ((((aD.getD i2.toNat []).getD i5.toNat 0):Int)≤i4))==false) then Fg ((aD.getD i2.toNat []).getD i5.toNat 0) (aD.length:Int) else some false).bind fun x7=>(bif (bif (decide ((((aD.getD i2.toNat []).getD i5.toNat 0):Int)≤i4)) then true else(!x7)) then(some (.done (.inr false))) else(some (.next (((aD.getD i2.toNat []).getD i5.toNat 0),(Aq (i5+1)))))))) else(some (.done (.inl ()))))
def Kf(aD:List (List Int)):Int→Option (LR Int (Unit ⊕ Bool)):=
 fun(i2:Int)=>(bif (decide (i2<(aD.length:Int))) then(Aw (A5 i2 aD.length) ((Az (Ke aD i2) ((-1:Int),(0:Int))).bind (fun x8=>(match x8 with|(.inl _)=>(some (.next (Aq (i2+1))))|(.inr r10)=>(some (.done (.inr r10))))))) else(some (.done (.inl ()))))
def Nr(Γ:Ek)(aD:List (List Int))(r:Bool):Exit→St→Prop:=fK Tryz.prog Γ Tryz.f166.results.toList [] (.bool r) []
def Q25(aD:List (List Int))(i2:Int)(i5:Int)(i4:Int):=(decide ((((aD.getD i2.toNat []).getD i5.toNat 0):Int)≤i4))
def Jl(aD:List (List Int)):Option Bool:=
 ((G6 (aD.length:Int)).bind fun x1=>(bif (!x1) then(some false) else((Az (Kf aD) (0:Int)).bind (fun x11=>(match x11 with|(.inl _)=>(some true)|(.inr r13)=>(some r13))))))
theorem S9(aD:List (List Int))(r:Bool)(h:Jl aD=some r):Spec Tryz.prog 166 [(AV.list 1 El [] aD .none)] [] (.bool r) []:=by
 refine Ac mix Tryz.func166 (fun Γ hq=>?_);unfold Jl at h;refine Af hq [0] [] ?_;obtain⟨x1,hx1,h⟩:=bind_some h;refine gR hq [0,11] [] [] [⟨[],[],(.bool x1),[],[],[]⟩] (c1 (Mj (aD.length:Int) x1 hx1)) ?_;refine gC h (fun h=>?_) (fun h=>?_)
 ·refine Af hq [2] [] ?_;obtain rfl:=OI h;exact Bk []
 ·refine Af hq [0,12,13,14] [] ?_;obtain⟨x11,hx11,h⟩:=bind_some h;refine gL hq hx11 [0,12,13,14] [] (fun u i2=>(Cx u [(I5 14 i2)] [])) (fun u x_=>match x_ with|(.inl _)=>aG Γ (.exit 0) (⟨[],[],[]⟩:St)|(.inr r_)=>aR (Nr Γ aD r_)) ?_ ?_
  ·intro i2 y h;unfold Kf at h;refine Af hq [0,12,13,14,15] [] ?_;refine gC h (fun h=>?_) (fun h=>?_)
   ·obtain⟨hc3,h⟩:=Aa h;refine gR hq [0,4,12,13,14] [] [] [] (c1 hc3) ?_;refine Af hq [0,4,5,12,13,14] [] ?_;refine Af hq [0,5,12,13,14,18,19,20] [] ?_;obtain⟨x8,hx8,h⟩:=bind_some h;refine gL hq hx8 [0,5,12,13,14,18,19,20] [] (fun u (i4,i5)=>(Cx u [(5,(Bi i4)),(I5 20 i5)] [])) (fun u x_=>match x_ with|(.inl _)=>aG Γ (.exit 2) (Rz [0,12,13,14] [] u [] [])|(.inr r_)=>aR (Nr Γ aD r_)) ?_ ?_
    ·rintro⟨i4,i5⟩ y h;unfold Ke at h;refine Af hq [0,5,12,13,14,18,19,20,21] [] ?_;refine gC h (fun h=>?_) (fun h=>?_)
     ·obtain⟨hc6,h⟩:=Aa h;refine gR hq [0,5,7,12,13,14,18,19,20] [] [] [] (c1 hc6) ?_;obtain⟨x7,hx7,h⟩:=bind_some h;refine gR hq [0,7,12,13,14,18,19,20,33] [] [] [⟨[],[],(.bool x7),[],[],[]⟩] (ci (gI ((Q25 aD i2 i5 i4)==false)) (ci (gI ((Q25 aD i2 i5 i4)==false)) (ci (gI ((Q25 aD i2 i5 i4)==false)) (ci (fun(hg:((Q25 aD i2 i5 i4)==false)=true)=>(Ip ((aD.getD i2.toNat []).getD i5.toNat 0) (aD.length:Int) x7 (B9 hg hx7))) (ci (gI ((Q25 aD i2 i5 i4)==false)) (c1 (Qn (Q25 aD i2 i5 i4)))))))) ?_;refine gC h (fun h=>?_) (fun h=>?_)
      ·refine Af hq [2] [] ?_;cases h;exact gO (Jw (Fx [] (Le.refl _ _)))
      ·refine Af hq [0,5,12,13,14,18,19,20] [] ?_;refine Af hq [0,5,12,13,14,18,19,20] [] ?_;cases h;exact gN C9
     ·cases h;exact gO (B2 (B0 [0,12,13,14] [] hq))
    ·clear hx8;rcases x8 with _|r10
     ·refine gA ?_;refine Af hq [0,12,13,14] [] ?_;cases h;exact gN C9
     ·refine Qx (fun st' hk=>?_);cases h;exact gO (Jw hk)
   ·cases h;exact gO (B2 (B0 [] [] hq))
  ·clear hx11;rcases x11 with _|r13
   ·refine gA ?_;refine Af hq [2] [] ?_;obtain rfl:=OI h;exact Bk []
   ·refine Qx (fun st' hk=>?_);obtain rfl:=OI h;exact gK hk
def Gu(aY:List Int)(aa0:List Int):Int→Option (LR Int (Unit ⊕ Bool)):=
 fun(i1:Int)=>(bif (decide (i1<(aY.length:Int))) then(Aw (A5 i1 aY.length) (Aw (A5 i1 aa0.length) (bif (((aY.getD i1.toNat 0):Int)!=(aa0.getD i1.toNat 0)) then(some (.done (.inr false))) else(some (.next (Aq (i1+1))))))) else(some (.done (.inl ()))))
def Mq(Γ:Ek)(aY:List Int)(aa0:List Int)(r:Bool):Exit→St→Prop:=fK Tryz.prog Γ Tryz.f131.results.toList [] (.bool r) []
def Dn(aY:List Int)(aa0:List Int):Option Bool:=
 (bif (((aY.length:Int):Int)!=(aa0.length:Int)) then(some false) else((Az (Gu aY aa0) (0:Int)).bind (fun x4=>(match x4 with|(.inl _)=>(some true)|(.inr r6)=>(some r6)))))
theorem Hl(aY:List Int)(aa0:List Int)(r:Bool)(h:Dn aY aa0=some r):Spec Tryz.prog 131 [(AV.list 1 Ah 0 aY .none),(AV.list 1 Ah 0 aa0 .none)] [] (.bool r) []:=by
 refine Ac mix Tryz.func131 (fun Γ hq=>?_);unfold Dn at h;refine Af hq [0,1] [] ?_;refine Af hq [0,1,10] [] ?_;refine gC h (fun h=>?_) (fun h=>?_)
 ·refine Af hq [4] [] ?_;obtain rfl:=OI h;exact Bk []
 ·refine Af hq [0,1,12,13] [] ?_;obtain⟨x4,hx4,h⟩:=bind_some h;refine gL hq hx4 [0,1,12,13] [] (fun u i1=>(Cx u [(I5 13 i1)] [])) (fun u x_=>match x_ with|(.inl _)=>aG Γ (.exit 0) (⟨[],[],[]⟩:St)|(.inr r_)=>aR (Mq Γ aY aa0 r_)) ?_ ?_
  ·intro i1 y h;unfold Gu at h;refine Af hq [0,1,12,13,14] [] ?_;refine gC h (fun h=>?_) (fun h=>?_)
   ·refine Af hq [0,1,5,12,13] [] ?_;obtain⟨hc2,h⟩:=Aa h;obtain⟨hc3,h⟩:=Aa h;refine gR hq [0,1,12,13,24] [] [] [] (ci hc2 (c1 hc3)) ?_;refine gC h (fun h=>?_) (fun h=>?_)
    ·refine Af hq [4] [] ?_;cases h;exact gO (Jw (Fx [] (Le.refl _ _)))
    ·refine Af hq [0,1,12,13] [] ?_;cases h;exact gN C9
   ·cases h;exact gO (B2 (B0 [] [] hq))
  ·clear hx4;rcases x4 with _|r6
   ·refine gA ?_;refine Af hq [4] [] ?_;obtain rfl:=OI h;exact Bk []
   ·refine Qx (fun st' hk=>?_);obtain rfl:=OI h;exact gK hk
def Df(aY:List (List Int))(aa0:List (List Int)):Int→Option (LR Int (Unit ⊕ Bool)):=
 fun(i1:Int)=>(bif (decide (i1<(aY.length:Int))) then(Aw (A5 i1 aY.length) (Aw (A5 i1 aa0.length) ((Dn (aY.getD i1.toNat []) (aa0.getD i1.toNat [])).bind fun x4=>(bif (!x4) then(some (.done (.inr false))) else(some (.next (Aq (i1+1)))))))) else(some (.done (.inl ()))))
def G8(Γ:Ek)(aY:List (List Int))(aa0:List (List Int))(r:Bool):Exit→St→Prop:=fK Tryz.prog Γ Tryz.f167.results.toList [] (.bool r) []
def Cj(aY:List (List Int))(aa0:List (List Int)):Option Bool:=
 (bif (((aY.length:Int):Int)!=(aa0.length:Int)) then(some false) else((Az (Df aY aa0) (0:Int)).bind (fun x5=>(match x5 with|(.inl _)=>(some true)|(.inr r7)=>(some r7)))))
theorem G4(aY:List (List Int))(aa0:List (List Int))(r:Bool)(h:Cj aY aa0=some r):Spec Tryz.prog 167 [(AV.list 1 El [] aY .none),(AV.list 1 El [] aa0 .none),(.clo 131 [] [])] [] (.bool r) []:=by
 refine Ac mix Tryz.func167 (fun Γ hq=>?_);unfold Cj at h;refine Af hq [0,1,2] [] ?_;refine Af hq [0,1,2,14] [] ?_;refine gC h (fun h=>?_) (fun h=>?_)
 ·refine Af hq [6] [] ?_;obtain rfl:=OI h;exact Bk []
 ·refine Af hq [1,2,15,16,17] [] ?_;obtain⟨x5,hx5,h⟩:=bind_some h;refine gL hq hx5 [1,2,15,16,17] [] (fun u i1=>(Cx u [(I5 17 i1)] [])) (fun u x_=>match x_ with|(.inl _)=>aG Γ (.exit 0) (⟨[],[],[]⟩:St)|(.inr r_)=>aR (G8 Γ aY aa0 r_)) ?_ ?_
  ·intro i1 y h;unfold Df at h;refine Af hq [1,2,15,16,17,18] [] ?_;refine gC h (fun h=>?_) (fun h=>?_)
   ·obtain⟨hc2,h⟩:=Aa h;refine gR hq [1,2,7,8,15,16,17] [] [] [] (c1 hc2) ?_;obtain⟨hc3,h⟩:=Aa h;refine gR hq [1,2,8,9,15,16,17] [] [] [] (c1 hc3) ?_;obtain⟨x4,hx4,h⟩:=bind_some h;refine gR hq [1,2,15,16,17,30] [] [] [⟨[],[],(.bool x4),[],[],[]⟩] (c1 (Hl (aY.getD i1.toNat []) (aa0.getD i1.toNat []) x4 hx4)) ?_;refine gC h (fun h=>?_) (fun h=>?_)
    ·refine Af hq [6] [] ?_;cases h;exact gO (Jw (Fx [] (Le.refl _ _)))
    ·refine Af hq [1,2,15,16,17] [] ?_;cases h;exact gN C9
   ·cases h;exact gO (B2 (B0 [] [] hq))
  ·clear hx5;rcases x5 with _|r7
   ·refine gA ?_;refine Af hq [6] [] ?_;obtain rfl:=OI h;exact Bk []
   ·refine Qx (fun st' hk=>?_);obtain rfl:=OI h;exact gK hk
def Pi(aH:Ct):Option Bool:=
 ((Jl aH.Succ).bind fun x1=>((bif (x1==true) then H1 aH.Succ else some []).bind fun x2=>((bif (x1==true) then Cj aH.Pred x2 else some false).bind fun x3=>(some (bif x1 then x3 else false)))))
theorem Y4(aH:Ct)(r:Bool)(h:Pi aH=some r):Spec Tryz.prog 126 [(.agg (Mw aH))] [] (.bool r) []:=by
 refine Ac mix Tryz.func126 (fun Γ hq=>?_);unfold Pi at h;refine Af hq [1] [1] ?_;obtain⟨x1,hx1,h⟩:=bind_some h;obtain⟨x2,hx2,h⟩:=bind_some h;obtain⟨x3,hx3,h⟩:=bind_some h;refine gR hq [2] [] [] [⟨[],[],(.bool x1),[],[],[]⟩,⟨[],[],(Z35 x2),[],[],[]⟩,⟨[],[],(.bool x3),[],[],[]⟩] (ci (S9 aH.Succ x1 hx1) (ci (gI (x1==true)) (ci (gI (x1==true)) (ci (gI (x1==true)) (ci (show((x1==true)=true→(Spec Tryz.prog 125 [(Z35 aH.Succ)] [] (Z35 x2) [])) from(fun hg=>(Spec.drop (N1 aH.Succ x2 (B9 hg hx2))))) (ci (gI (x1==true)) (ci (gI (x1==true)) (ci (fun(hg:(x1==true)=true)=>(G4 aH.Pred x2 x3 (B9 hg hx3))) (c1 (Lh x1)))))))))) ?_;cases h;exact Bk []
def Fu :(Int×Int×List Int)→Option (LR (Int×Int×List Int) (List Int)):=
 fun((i1,i2,l3):(Int×Int×List Int))=>(bif (decide (i1<i2)) then(Aw (A5 i2 l3.length) (Aw (A5 i1 l3.length) (Aw (A5 i1 l3.length) (Aw (A5 i2 l3.length) (some (.next ((Aq (i1+1)),(Aq (i2-1)),((l3.set i1.toNat (l3.getD i2.toNat 0)).set i2.toNat (l3.getD i1.toNat 0))))))))) else(some (.done l3)))
def Q26(l3:List Int)(i1:Int)(i2:Int):=((l3.set i1.toNat (l3.getD i2.toNat 0)).set i2.toNat (l3.getD i1.toNat 0))
def C6(aX:List Int):Option (List Int):=
 ((Az (S:=(Int×Int×List Int)) (X:=List Int) Fu ((0:Int),(Aq ((aX.length:Int)-1)),aX)).bind (fun x9=>(some x9)))
theorem Gw(aX:List Int)(r:List Int)(h:C6 aX=some r):Spec Tryz.prog 128 [(.vsl 34000 aX.length)] [(34000,.arr 1 3 aX.length (fun i=>Ah (aX.getD i 0)))] (.tuple []) [(34000,.arr 1 3 r.length (fun i=>Ah (r.getD i 0)))]:=by
 refine Ac mix Tryz.func128 (fun Γ hq=>?_);unfold C6 at h;refine Af hq [0,2,3] [34000] ?_;obtain⟨x9,hx9,h⟩:=bind_some h;refine gL hq hx9 [0,2,3] [34000] (fun u (i1,i2,l3)=>(Cx u [(0,(.vsl 34000 l3.length)),(2,(Bi i1)),(3,(Bi i2))] [(Z7 34000 l3)])) (fun u l4=>aG Γ (.exit 0) (⟨[],[(Z7 34000 l4)],[]⟩:St)) ?_ ?_
 ·rintro⟨i1,i2,l3⟩ y h;unfold Fu at h;refine Af hq [0,2,3,9] [34000] ?_;refine gC h (fun h=>?_) (fun h=>?_)
  ·obtain⟨hc5,h⟩:=Aa h;obtain⟨hc6,h⟩:=Aa h;obtain⟨hc7,h⟩:=Aa h;obtain⟨hc8,h⟩:=Aa h;refine gR hq [0,2,3] [34000] [] [] (ci hc5 (ci (Eq.refl l3.length) (ci hc6 (ci (Eq.refl l3.length) (ci hc7 (ci (Eq.refl l3.length) (ci hc8 (c1 (Eq.refl l3.length))))))))) ?_;refine Ie (Le.trans (K6 34000 (show ∀ k_,k_<l3.length→AVleL ((fun i_=>AV.eraseAll (fun n_=>Bl n_ [34000]) ((Fs (Fs (fun i=>Ah (l3.getD i 0)) i1.toNat 0 [(.int .i64 (l3.getD i2.toNat 0))]) i2.toNat 0 [(.int .i64 (l3.getD i1.toNat 0))]) i_)) k_) ((fun i=>Ah ((Q26 l3 i1 i2).getD i 0)) k_) from(A6 (Eq.trans (List.length_set ..).symm (List.length_set ..).symm) (fun k_ hk_=>(congrArg (AV.eraseAll (fun n_=>Bl n_ [34000])) ((D1 (D1 (fun _ _=>rfl) (Ed hc7) rfl) (inB_lt1 hc8) rfl) k_ hk_)).trans rfl)))) (K7 (fun(k_:Nat) u=>(Cx u [(0,(.vsl 34000 k_))] [(34000,.arr 1 3 k_ (fun i=>Ah ((Q26 l3 i1 i2).getD i 0)))])) (show l3.length=(Q26 l3 i1 i2).length from(Eq.trans (List.length_set ..).symm (List.length_set ..).symm)))) ?_;refine Af hq [0,2,3] [34000] ?_;cases h;exact gN C9
  ·cases h;exact gO (B2 (B0 [] [34000] hq))
 ·clear hx9;refine gA' (fun st' hl10=>?_);obtain rfl:=OI h;exact gK (e:=.normal) (Fx [(34000,34000)] hl10)
def Me(aH:Ct)(a8:Int):List Int→Option (LR (List Int) (List Int ⊕ (List Bool×List Int×List Int))):=
 fun(l9:List Int)=>(Aw (A5 ([a8].getD (Aq (([a8].length:Int)-1)).toNat (0:Int)) 64) (Aw (A5 ([a8].getD (Aq (([a8].length:Int)-1)).toNat (0:Int)) aH.Succ.length) (bif (decide (((l9.getD ([a8].getD (Aq (([a8].length:Int)-1)).toNat (0:Int)).toNat (0:Int)):Int)<((aH.Succ.getD ([a8].getD (Aq (([a8].length:Int)-1)).toNat (0:Int)).toNat []).length:Int))) then(Aw (A5 ([a8].getD (Aq (([a8].length:Int)-1)).toNat (0:Int)) aH.Succ.length) (Aw (A5 ([a8].getD (Aq (([a8].length:Int)-1)).toNat (0:Int)) 64) (Aw (A5 (l9.getD ([a8].getD (Aq (([a8].length:Int)-1)).toNat (0:Int)).toNat (0:Int)) (aH.Succ.getD ([a8].getD (Aq (([a8].length:Int)-1)).toNat (0:Int)).toNat []).length) (Aw (A5 ([a8].getD (Aq (([a8].length:Int)-1)).toNat (0:Int)) 64) (Aw (A5 ([a8].getD (Aq (([a8].length:Int)-1)).toNat (0:Int)) 64) (Aw (A5 ((aH.Succ.getD ([a8].getD (Aq (([a8].length:Int)-1)).toNat (0:Int)).toNat []).getD (l9.getD ([a8].getD (Aq (([a8].length:Int)-1)).toNat (0:Int)).toNat (0:Int)).toNat (0:Int)) 64) (bif (!((Ox 64 false (List.replicate 64 false) a8.toNat true).getD ((aH.Succ.getD ([a8].getD (Aq (([a8].length:Int)-1)).toNat (0:Int)).toNat []).getD (l9.getD ([a8].getD (Aq (([a8].length:Int)-1)).toNat (0:Int)).toNat (0:Int)).toNat (0:Int)).toNat false)) then(Aw (A5 ((aH.Succ.getD ([a8].getD (Aq (([a8].length:Int)-1)).toNat (0:Int)).toNat []).getD (l9.getD ([a8].getD (Aq (([a8].length:Int)-1)).toNat (0:Int)).toNat (0:Int)).toNat (0:Int)) 64) (Aw ([a8].length+([((aH.Succ.getD ([a8].getD (Aq (([a8].length:Int)-1)).toNat (0:Int)).toNat []).getD (l9.getD ([a8].getD (Aq (([a8].length:Int)-1)).toNat (0:Int)).toNat (0:Int)).toNat (0:Int))]:List Int).length≤room) (some (.done (.inr ((Ox 64 false (Ox 64 false (List.replicate 64 false) a8.toNat true) ((aH.Succ.getD ([a8].getD (Aq (([a8].length:Int)-1)).toNat (0:Int)).toNat []).getD (l9.getD ([a8].getD (Aq (([a8].length:Int)-1)).toNat (0:Int)).toNat (0:Int)).toNat (0:Int)).toNat true),(Ox 64 (0:Int) l9 ([a8].getD (Aq (([a8].length:Int)-1)).toNat (0:Int)).toNat (Aq ((l9.getD ([a8].getD (Aq (([a8].length:Int)-1)).toNat (0:Int)).toNat (0:Int))+1))),([a8]++([((aH.Succ.getD ([a8].getD (Aq (([a8].length:Int)-1)).toNat (0:Int)).toNat []).getD (l9.getD ([a8].getD (Aq (([a8].length:Int)-1)).toNat (0:Int)).toNat (0:Int)).toNat (0:Int))]:List Int)))))))) else(some (.next (Ox 64 (0:Int) l9 ([a8].getD (Aq (([a8].length:Int)-1)).toNat (0:Int)).toNat (Aq ((l9.getD ([a8].getD (Aq (([a8].length:Int)-1)).toNat (0:Int)).toNat (0:Int))+1)))))))))))) else(some (.done (.inl l9))))))
def Mf(aH:Ct)(l1:List Bool)(l3:List Int):List Int→Option (LR (List Int) (List Int ⊕ (List Bool×List Int×List Int))):=
 fun(l32:List Int)=>(Aw (A5 (l3.getD (Aq ((l3.length:Int)-1)).toNat (0:Int)) 64) (Aw (A5 (l3.getD (Aq ((l3.length:Int)-1)).toNat (0:Int)) aH.Succ.length) (bif (decide (((l32.getD (l3.getD (Aq ((l3.length:Int)-1)).toNat (0:Int)).toNat (0:Int)):Int)<((aH.Succ.getD (l3.getD (Aq ((l3.length:Int)-1)).toNat (0:Int)).toNat []).length:Int))) then(Aw (A5 (l3.getD (Aq ((l3.length:Int)-1)).toNat (0:Int)) aH.Succ.length) (Aw (A5 (l3.getD (Aq ((l3.length:Int)-1)).toNat (0:Int)) 64) (Aw (A5 (l32.getD (l3.getD (Aq ((l3.length:Int)-1)).toNat (0:Int)).toNat (0:Int)) (aH.Succ.getD (l3.getD (Aq ((l3.length:Int)-1)).toNat (0:Int)).toNat []).length) (Aw (A5 (l3.getD (Aq ((l3.length:Int)-1)).toNat (0:Int)) 64) (Aw (A5 (l3.getD (Aq ((l3.length:Int)-1)).toNat (0:Int)) 64) (Aw (A5 ((aH.Succ.getD (l3.getD (Aq ((l3.length:Int)-1)).toNat (0:Int)).toNat []).getD (l32.getD (l3.getD (Aq ((l3.length:Int)-1)).toNat (0:Int)).toNat (0:Int)).toNat (0:Int)) 64) (bif (!(l1.getD ((aH.Succ.getD (l3.getD (Aq ((l3.length:Int)-1)).toNat (0:Int)).toNat []).getD (l32.getD (l3.getD (Aq ((l3.length:Int)-1)).toNat (0:Int)).toNat (0:Int)).toNat (0:Int)).toNat false)) then(Aw (A5 ((aH.Succ.getD (l3.getD (Aq ((l3.length:Int)-1)).toNat (0:Int)).toNat []).getD (l32.getD (l3.getD (Aq ((l3.length:Int)-1)).toNat (0:Int)).toNat (0:Int)).toNat (0:Int)) 64) (Aw (l3.length+([((aH.Succ.getD (l3.getD (Aq ((l3.length:Int)-1)).toNat (0:Int)).toNat []).getD (l32.getD (l3.getD (Aq ((l3.length:Int)-1)).toNat (0:Int)).toNat (0:Int)).toNat (0:Int))]:List Int).length≤room) (some (.done (.inr ((Ox 64 false l1 ((aH.Succ.getD (l3.getD (Aq ((l3.length:Int)-1)).toNat (0:Int)).toNat []).getD (l32.getD (l3.getD (Aq ((l3.length:Int)-1)).toNat (0:Int)).toNat (0:Int)).toNat (0:Int)).toNat true),(Ox 64 (0:Int) l32 (l3.getD (Aq ((l3.length:Int)-1)).toNat (0:Int)).toNat (Aq ((l32.getD (l3.getD (Aq ((l3.length:Int)-1)).toNat (0:Int)).toNat (0:Int))+1))),(l3++([((aH.Succ.getD (l3.getD (Aq ((l3.length:Int)-1)).toNat (0:Int)).toNat []).getD (l32.getD (l3.getD (Aq ((l3.length:Int)-1)).toNat (0:Int)).toNat (0:Int)).toNat (0:Int))]:List Int)))))))) else(some (.next (Ox 64 (0:Int) l32 (l3.getD (Aq ((l3.length:Int)-1)).toNat (0:Int)).toNat (Aq ((l32.getD (l3.getD (Aq ((l3.length:Int)-1)).toNat (0:Int)).toNat (0:Int))+1)))))))))))) else(some (.done (.inl l32))))))
def Md(aH:Ct):(List Bool×List Int×List Int×List Int)→Option (LR (List Bool×List Int×List Int×List Int) (List Int)):=
 fun(s_:(List Bool×List Int×List Int×List Int))=>match s_ with|(l1,l2,l3,l4)=>(Aw (A5 (Aq ((l3.length:Int)-1)) l3.length) ((Az (Mf aH l1 l3) l2).bind (fun x47=>(match x47 with|(.inl l33)=>(Aw (l4.length+([(l3.getD (Aq ((l3.length:Int)-1)).toNat (0:Int))]:List Int).length≤room) (Aw (0≤(Aq ((l3.length:Int)-1))∧0+(Aq ((l3.length:Int)-1)).toNat≤l3.length) (bif (decide (((0:Int):Int)<((l3.take (Aq ((l3.length:Int)-1)).toNat).length:Int))) then(some (.next (l1,l33,(l3.take (Aq ((l3.length:Int)-1)).toNat),(l4++([(l3.getD (Aq ((l3.length:Int)-1)).toNat (0:Int))]:List Int))))) else((C6 (l4++([(l3.getD (Aq ((l3.length:Int)-1)).toNat (0:Int))]:List Int))).bind fun x51=>(Aw ((l4++([(l3.getD (Aq ((l3.length:Int)-1)).toNat (0:Int))]:List Int)).length=x51.length) (some (.done x51)))))))|(.inr (l34,l35,l36))=>(some (.next (l34,l35,l36,l4)))))))
def Wn(Γ:Ek)(aH:Ct)(a8:Int)(r:List Int):Exit→St→Prop:=fK Tryz.prog Γ Tryz.f98.results.toList [] (Z42 r 20000) [(20000,.tok 1 3 r.length)]
def Q45(l1:List Bool):=(fun i=>eB (l1.getD i false))
def Q28(l3:List Int):=(l3.getD (Aq ((l3.length:Int)-1)).toNat (0:Int))
def Q42(l4:List Int)(l3:List Int):=(l4++([(Q28 l3)]:List Int))
def Q38(l10:List Int):=(fun i=>Ah (l10.getD i 0))
def Q44(l33:List Int):=(fun i=>Ah (l33.getD i 0))
def Q31:=(fun n_=>Bl n_ [2,5,6,25,36007])
def Q34(a8:Int):=(fun i=>Ah ([a8].getD i 0))
def Q27(a8:Int):=([a8].getD (Aq (([a8].length:Int)-1)).toNat (0:Int))
def Q41(a8:Int):=(([]:List Int)++([(Q27 a8)]:List Int))
def Q49(a8:Int):=(fun i=>Ah ((Q41 a8).getD i 0))
def Q48(l4:List Int)(l3:List Int):=(fun i=>Ah ((Q42 l4 l3).getD i 0))
def Q35:AV:=Z33
def Q37:=(fun i=>Ah (([]:List Int).getD i 0))
def Q33(l3:List Int):=(0+(Aq ((l3.length:Int)-1)).toNat)
def Q32(a8:Int):=(0+(Aq (([a8].length:Int)-1)).toNat)
def Q47(a8:Int):=([a8].take (Aq (([a8].length:Int)-1)).toNat)
def Q36:=(fun i=>Ah ((List.replicate 64 (0:Int)).getD i 0))
def Q29(aH:Ct):List AV:=[(Z35 aH.Succ),(Z35 aH.Pred)]
def Q30(a8:Int):=(fun i=>eB ((Ox 64 false (List.replicate 64 false) a8.toNat true).getD i false))
def Q40(aH:Ct)(l3:List Int)(l32:List Int):=((aH.Succ.getD (Q28 l3).toNat []).getD (l32.getD (Q28 l3).toNat (0:Int)).toNat (0:Int))
def Q39(aH:Ct)(a8:Int)(l9:List Int):=((aH.Succ.getD (Q27 a8).toNat []).getD (l9.getD (Q27 a8).toNat (0:Int)).toNat (0:Int))
def Q46:=(Z66:St)
def Q50(a8:Int):List (Nat×AV):=[Zi,Z58,Z55,(7,(.vsl 36007 (Q41 a8).length)),(8,(.vsl 25 (Q32 a8)))]
def Q43(a8:Int)(aH:Ct):=(⟨[Zi,Z58,Z55,(7,(.vsl 36007 ([]:List Int).length)),(8,(.vsl 25 [a8].length)),(9,(Bi (Q27 a8)))],[(Zj (Q29 aH)),(Z71 (Q30 a8)),(Z63 Q36),(25,.arr 1 3 ([a8].length) (Q34 a8)),(36007,.arr 1 3 (([]:List Int).length) Q37)],[]⟩:St)
def Iz(aH:Ct)(a8:Int):Option (List Int):=
 ((K2 (S:=(List Bool×List Int×List Int×List Int)) (X:=List Int) ((Pi aH).bind fun x5=>((bif ((!x5)==false) then Fg a8 (aH.Succ.length:Int) else some false).bind fun x6=>(bif (bif (!x5) then true else(!x6)) then(some (.done ([]:List Int))) else(Aw (A5 a8 64) (Aw (A5 (Aq (([a8].length:Int)-1)) [a8].length) ((Az (Me aH a8) (List.replicate 64 (0:Int))).bind (fun x24=>(match x24 with|(.inl l10)=>(Aw (([]:List Int).length+([([a8].getD (Aq (([a8].length:Int)-1)).toNat (0:Int))]:List Int).length≤room) (Aw (0≤(Aq (([a8].length:Int)-1))∧0+(Aq (([a8].length:Int)-1)).toNat≤[a8].length) (bif (decide (((0:Int):Int)<(([a8].take (Aq (([a8].length:Int)-1)).toNat).length:Int))) then(some (.next ((Ox 64 false (List.replicate 64 false) a8.toNat true),l10,([a8].take (Aq (([a8].length:Int)-1)).toNat),(([]:List Int)++([([a8].getD (Aq (([a8].length:Int)-1)).toNat (0:Int))]:List Int))))) else((C6 (([]:List Int)++([([a8].getD (Aq (([a8].length:Int)-1)).toNat (0:Int))]:List Int))).bind fun x28=>(Aw ((([]:List Int)++([([a8].getD (Aq (([a8].length:Int)-1)).toNat (0:Int))]:List Int)).length=x28.length) (some (.done x28)))))))|(.inr (l11,l12,l13))=>(some (.next (l11,l12,l13,([]:List Int)))))))))))) (Md aH)).bind (fun x54=>(some x54)))
theorem Pq(aH:Ct)(a8:Int)(r:List Int)(h:Iz aH a8=some r):Spec Tryz.prog 98 [(.agg (Mw aH)),(.int .i64 a8)] [] (AV.list 1 Ah 0 r (.own 20000)) [(20000,.tok 1 3 r.length)]:=by
 refine Ac mix Tryz.func98 (fun Γ hq=>?_);have hΓ:=hq.own;unfold Iz at h;refine gR hq [1,2] [2] [(4,Q35)] [] (c1 (Bq 1 Ah (0:Int))) ?_;obtain⟨x54,hx54,h⟩:=bind_some h;refine gS hx54 (fun(s_:(List Bool×List Int×List Int×List Int))=>match s_ with|(l1,l2,l3,l4)=>0) (fun(s_:(List Bool×List Int×List Int×List Int))=>match s_ with|(l1,l2,l3,l4)=>(⟨[Zi,Z58,Z55,(7,(.vsl 36007 l4.length)),(8,(.vsl 25 l3.length))],[(Zj (Q29 aH)),(Z71 (Q45 l1)),(Z46 l2),(Z7 25 l3),(Z7 36007 l4)],[]⟩:St)) (fun r_=>aR (Wn Γ aH a8 r_)) ?_ ?_ ?_
 ·clear h hx54;intro y h;obtain⟨x5,hx5,h⟩:=bind_some h;obtain⟨x6,hx6,h⟩:=bind_some h;refine gR hq [1,2,21] [2] [] [⟨[],[],(.bool x5),[],[],[]⟩,⟨[],[],(.bool x6),[],[],[]⟩] (ci (Y4 aH x5 hx5) (ci (gI ((!x5)==false)) (ci (gI ((!x5)==false)) (ci (gI ((!x5)==false)) (ci (gI ((!x5)==false)) (ci (fun(hg:((!x5)==false)=true)=>(Ip a8 (aH.Succ.length:Int) x6 (B9 hg hx6))) (ci (gI ((!x5)==false)) (c1 (Qn (!x5)))))))))) ?_;refine gC h (fun h=>?_) (fun h=>?_)
  ·refine gR hq [4] [] [(4,Q35)] [] (c1 (Bq 1 Ah (0:Int))) ?_;refine Oy (⟨[(4,Q35)],[],[]⟩:St) ?_;cases h;exact Wm (Jw (Fx [(6004,20000)] (show Le Γ _ Q46 from Le.trans (B0 (st':=⟨[(4,Q35)],[],[]⟩) [4] [] hq) (Le.trans (Rs (t:=4) (nm:=6004) (sz':=1) Q37 3 rfl rfl (.inl ⟨rfl,rfl⟩) (fun h_=>absurd h_ (by decide))) (B0 (st':=Q46) [4] [6004] hq)))))
  ·refine gR hq [1,2,5] [2,5] [Z58] [] trivial ?_;refine Ie (K6 5 (show ∀ k_,k_<64→AVleL ((fun i_=>AV.eraseAll (fun n_=>Bl n_ [2,5]) ((fun i=>(((List.replicate 64 [(.bool false)]).flatten).drop (i*1)).take 1) i_)) k_) ((fun i=>eB ((List.replicate 64 false).getD i false)) k_) from(Xo (e:=eB) (d:=false) (z:=[(.bool false)]) rfl rfl rfl))) ?_;refine gR hq [1,2,5,6] [2,5,6] [Z55] [] trivial ?_;refine Ie (K6 6 (show ∀ k_,k_<64→AVleL ((fun i_=>AV.eraseAll (fun n_=>Bl n_ [2,5,6]) ((fun i=>(((List.replicate 64 [Id]).flatten).drop (i*1)).take 1) i_)) k_) (Q36 k_) from(Xo (e:=Ah) (d:=(0:Int)) (z:=[Id]) rfl rfl rfl))) ?_;refine gR hq [1,2,5,6,7] [2,5,6] [(7,Q35)] [] (c1 (Bq 1 Ah (0:Int))) ?_;obtain⟨hc7,h⟩:=Aa h;refine gR hq [1,2,5,6,7] [2,5,6] [] [] (ci hc7 (c1 (Eq.refl 64))) ?_;refine Ie (K6 5 (show ∀ k_,k_<64→AVleL ((fun i_=>AV.eraseAll (fun n_=>Bl n_ [2,5,6]) ((Fs (fun i=>eB ((List.replicate 64 false).getD i false)) a8.toNat 0 [(.bool true)]) i_)) k_) ((Q30 a8) k_) from(A6 rfl (fun k_ hk_=>(congrArg (AV.eraseAll (fun n_=>Bl n_ [2,5,6])) ((Ml (fun _ _=>rfl) (Li hc7) rfl) k_ hk_)).trans rfl)))) ?_;refine gR hq [2,5,6,7,8] [2,5,6,25] [(25,(.vsl 25 1))] [] trivial ?_;refine Ie (Le.trans (K6 25 (show ∀ k_,k_<1→AVleL ((fun i_=>AV.eraseAll (fun n_=>Bl n_ [2,5,6,25]) ((fun i_=>([(Bi a8)].drop (i_*1)).take 1) i_)) k_) ((Q34 a8) k_) from(A6 rfl (pw_snoc (n:=0) pw_nil rfl)))) (K7 (fun(k_:Nat) u=>(Cx u [(8,(.vsl 25 k_))] [(25,.arr 1 3 k_ (Q34 a8))])) (show 1=[a8].length from rfl))) ?_;obtain⟨hc8,h⟩:=Aa h;refine gR hq [2,5,6,7,8,9] [2,5,6,25] [] [] (ci hc8 (c1 (Eq.refl ([a8].length)))) ?_;refine Ie (st':=(Q43 a8 aH)) (Le.trans (B0 (st':=⟨[Zi,Z58,Z55,(7,Q35),(8,(.vsl 25 [a8].length)),(9,(Bi (Q27 a8)))],[(Zj (Q29 aH)),(Z71 (Q30 a8)),(Z63 Q36),(25,.arr 1 3 ([a8].length) (Q34 a8))],[]⟩) [2,5,6,7,8,9] [2,5,6,25] hq) (Le.trans (le_arr (t:=7) (nm:=36007) (sz':=1) Q37 3 rfl rfl) (B0 (st':=(Q43 a8 aH)) [2,5,6,7,8,9] [2,5,6,25,36007] hq))) ?_;obtain⟨x24,hx24,h⟩:=bind_some h;refine gL hq hx24 [2,5,6,7,8,9] [2,5,6,25,36007] (fun u l9=>(Cx u [] [(Z46 l9)])) (fun u x_=>match x_ with|(.inl l10)=>aG Γ (.exit 0) (Cx u [] [(Z63 (Q38 l10))])|(.inr (l11,l12,l13))=>aG Γ (.goto 0) (Rz [2,5,6,7,8] [2,5,6,25,36007] u [(8,(.vsl 25 l13.length))] [(5,.arr 1 176 64 (fun i=>eB (l11.getD i false))),(Z46 l12),(Z7 25 l13)])) ?_ ?_
   ·intro l9 y h;unfold Me at h;obtain⟨hc14,h⟩:=Aa h;obtain⟨hc15,h⟩:=Aa h;refine gR hq [2,5,6,7,8,9,41] [2,5,6,25,36007] [] [] (ci hc14 (ci (Eq.refl 64) (c1 hc15))) ?_;refine gC h (fun h=>?_) (fun h=>?_)
    ·obtain⟨hc16,h⟩:=Aa h;obtain⟨hc17,h⟩:=Aa h;obtain⟨hc18,h⟩:=Aa h;refine gR hq [2,5,6,7,8,9,10] [2,5,6,25,36007] [] [] (ci hc16 (ci hc17 (ci (Eq.refl 64) (c1 hc18)))) ?_;obtain⟨hc19,h⟩:=Aa h;obtain⟨hc20,h⟩:=Aa h;refine gR hq [2,5,6,7,8,9,10] [2,5,6,25,36007] [] [] (ci hc19 (ci (Eq.refl 64) (ci hc20 (c1 (Eq.refl 64))))) ?_;refine Ie (K6 6 (show ∀ k_,k_<64→AVleL ((fun i_=>AV.eraseAll Q31 ((Fs (fun i=>Ah (l9.getD i 0)) (Q27 a8).toNat 0 [(.int .i64 (Aq ((l9.getD (Q27 a8).toNat (0:Int))+1)))]) i_)) k_) ((fun i=>Ah ((Ox 64 (0:Int) l9 (Q27 a8).toNat (Aq ((l9.getD (Q27 a8).toNat (0:Int))+1))).getD i 0)) k_) from(A6 rfl (fun k_ hk_=>(congrArg (AV.eraseAll Q31) ((Ml (fun _ _=>rfl) (Li hc20) rfl) k_ hk_)).trans rfl)))) ?_;obtain⟨hc21,h⟩:=Aa h;refine gR hq [2,5,6,7,8,9,10,60] [2,5,6,25,36007] [] [] (ci hc21 (c1 (Eq.refl 64))) ?_;refine gC h (fun h=>?_) (fun h=>?_)
     ·obtain⟨hc22,h⟩:=Aa h;refine gR hq [2,5,6,7,8,10] [2,5,6,25,36007] [] [] (ci hc22 (c1 (Eq.refl 64))) ?_;refine Ie (K6 5 (show ∀ k_,k_<64→AVleL ((fun i_=>AV.eraseAll Q31 ((Fs (Q30 a8) (Q39 aH a8 l9).toNat 0 [(.bool true)]) i_)) k_) ((fun i=>eB ((Ox 64 false (Ox 64 false (List.replicate 64 false) a8.toNat true) (Q39 aH a8 l9).toNat true).getD i false)) k_) from(A6 rfl (fun k_ hk_=>(congrArg (AV.eraseAll Q31) ((Ml (fun _ _=>rfl) (Li hc22) rfl) k_ hk_)).trans rfl)))) ?_;obtain⟨hc23,h⟩:=Aa h;refine gR hq [2,5,6,7,8] [2,5,6,25,36007] [(65,(Z40 (Q39 aH a8 l9)))] [] (ci (Bd 1 Ah (0:Int) ([(Q39 aH a8 l9)]:List Int)) (ci (Eq.refl ([a8].length)) (c1 hc23))) ?_;cases h;exact gO (B2 (Le.trans (Le.trans (K6 25 (show ∀ k_,k_<([a8].length+([(Q39 aH a8 l9)]:List Int).length)→AVleL ((fun i_=>AV.eraseAll Q31 ((G0 ([a8].length) (Q34 a8) (fun i=>Ah (([(Q39 aH a8 l9)]:List Int).getD i 0))) i_)) k_) ((fun i=>Ah (([a8]++([(Q39 aH a8 l9)]:List Int)).getD i 0)) k_) from(A6 (G5 _ _) (fun k_ hk_=>(congrArg (AV.eraseAll Q31) ((R7 (fun _ _=>rfl) (fun _ _=>rfl)) k_ hk_)).trans rfl)))) (K7 (fun(k_:Nat) u=>(Cx u [(8,(.vsl 25 k_))] [(25,.arr 1 3 k_ (fun i=>Ah (([a8]++([(Q39 aH a8 l9)]:List Int)).getD i 0)))])) (show([a8].length+([(Q39 aH a8 l9)]:List Int).length)=([a8]++([(Q39 aH a8 l9)]:List Int)).length from(G5 _ _)))) C9))
     ·cases h;exact gN (B0 [2,5,6,7,8,9] [2,5,6,25,36007] hq)
    ·cases h;exact gO (B2 (B0 [2,5,6,7,8,9] [2,5,6,25,36007] hq))
   ·clear hx24;rcases x24 with l10|⟨l11,l12,l13⟩
    ·refine gA ?_;obtain⟨hc26,h⟩:=Aa h;refine gR hq [2,5,6,7,8] [2,5,6,25,36007] [(69,(Z40 (Q27 a8)))] [] (ci (Bd 1 Ah (0:Int) ([(Q27 a8)]:List Int)) (ci (Eq.refl (([]:List Int).length)) (c1 hc26))) ?_;refine Ie (Le.trans (K6 36007 (show ∀ k_,k_<(([]:List Int).length+([(Q27 a8)]:List Int).length)→AVleL ((fun i_=>AV.eraseAll Q31 ((G0 (([]:List Int).length) Q37 (fun i=>Ah (([(Q27 a8)]:List Int).getD i 0))) i_)) k_) ((Q49 a8) k_) from(A6 (G5 _ _) (fun k_ hk_=>(congrArg (AV.eraseAll Q31) ((R7 (fun _ _=>rfl) (fun _ _=>rfl)) k_ hk_)).trans rfl)))) (K7 (fun(k_:Nat) u=>(Cx u (Yr 36007 k_) [(36007,.arr 1 3 k_ (Q49 a8))])) (show(([]:List Int).length+([(Q27 a8)]:List Int).length)=(Q41 a8).length from(G5 _ _)))) ?_;obtain⟨hc27,h⟩:=Aa h;refine gR hq [2,5,6,7,8] [2,5,6,25,36007] [] [] (c1 hc27) ?_;refine Oy (⟨[Zi,Z58,Z55,(7,(.vsl 36007 (Q41 a8).length)),(8,(.vsub 25 [a8].length 0 (Q32 a8)))],[(Zj (Q29 aH)),(Z71 (Q30 a8)),(Z63 (Q38 l10)),(25,.arr 1 3 ([a8].length) (Q34 a8)),(36007,.arr 1 3 ((Q41 a8).length) (Q49 a8))],[]⟩:St) ?_;refine Ie (Le.trans (Le.trans (le_trunc (t:=8) (r:=25) (k:=(Q32 a8)) rfl rfl hc27.2 (by kernel_rfl) (.row (by kernel_rfl) (.arr (fun _=>by kernel_rfl) (.arr (fun _=>by kernel_rfl) (.arr (fun _=>by kernel_rfl) (.arr (fun _=>by kernel_rfl) .nil))))) (by rw[hΓ];rfl)) (Hu (st':=⟨(Q50 a8),[(Zj (Q29 aH)),(Z71 (Q30 a8)),(Z63 (Q38 l10)),(25,.arr 1 3 (Q32 a8) (Q34 a8)),(36007,.arr 1 3 ((Q41 a8).length) (Q49 a8))],[]⟩) (by kernel_rfl))) (Le.trans (Pc (st':=⟨(Q50 a8),[(Zj (Q29 aH)),(Z71 (Q30 a8)),(Z63 (Q38 l10)),(25,.arr 1 3 (Q32 a8) (fun i=>Ah ((Q47 a8).getD i 0))),(36007,.arr 1 3 ((Q41 a8).length) (Q49 a8))],[]⟩) (TmpsLe.refl _) (.same (.same (.same (.arr (take_le (e:=Ah) (d:=(0:Int))) (.same .nil)))))) (Hu (congrArg (fun k_:Nat=>(⟨[Zi,Z58,Z55,(7,(.vsl 36007 (Q41 a8).length)),(8,(.vsl 25 k_))],[(Zj (Q29 aH)),(Z71 (Q30 a8)),(Z63 (Q38 l10)),(25,.arr 1 3 k_ (fun i=>Ah ((Q47 a8).getD i 0))),(36007,.arr 1 3 ((Q41 a8).length) (Q49 a8))],[]⟩:St)) (show(Q32 a8)=(Q47 a8).length from take_len hc27.2))))) ?_;refine Af hq [2,5,6,7,8,78] [2,5,6,25,36007] ?_;refine gC h (fun h=>?_) (fun h=>?_)
     ·cases h;exact gJn (B0 [2,5,6,7,8] [2,5,6,25,36007] hq)
     ·obtain⟨x28,hx28,h⟩:=bind_some h;obtain⟨hc29,h⟩:=Aa h;refine gR hq [7] [36007] [] [⟨[(36007,34000)],[],(.tuple []),[(Z7 34000 x28)],[],[]⟩] (c1 (Gw (Q41 a8) x28 hx28)) ?_;refine Ie (K7 (fun(k_:Nat) u=>(Cx u (Yr 36007 k_) [])) (show(Q41 a8).length=x28.length from hc29)) ?_;refine Af hq [4] [36007] ?_;refine Oy (⟨[(4,(.vsl 36007 x28.length))],[(Z7 36007 x28)],[]⟩:St) ?_;cases h;exact Wm (Jw (Fx [(36007,20000)] (Le.trans (Ep (nm:=36007) (sz:=1) (n:=x28.length) (e:=3) (f:=(fun i=>Ah (x28.getD i 0))) (g:=(fun i=>Ah (x28.getD i 0))) rfl ⟨rfl,trivial⟩ (fun _ _=>rfl) (by rw[hΓ];rfl)) (Hu (st':=⟨[(4,(Z42 x28 36007))],[(36007,.tok 1 3 x28.length)],[]⟩) (by kernel_rfl)))))
    ·refine gA' (fun st' hl30=>?_);cases h;exact gJn (Le.trans hl30 C9)
 ·clear h hx54;rintro⟨l1,l2,l3,l4⟩ y h;unfold Md at h;obtain⟨hc31,h⟩:=Aa h;refine gR hq [2,5,6,7,8,9] [2,5,6,25,36007] [] [] (ci hc31 (c1 (Eq.refl l3.length))) ?_;obtain⟨x47,hx47,h⟩:=bind_some h;refine gL hq hx47 [2,5,6,7,8,9] [2,5,6,25,36007] (fun u l32=>(Cx u [] [(Z46 l32)])) (fun u x_=>match x_ with|(.inl l33)=>aG Γ (.exit 0) (Cx u [] [(Z63 (Q44 l33))])|(.inr (l34,l35,l36))=>aG Γ (.goto 0) (Rz [2,5,6,7,8] [2,5,6,25,36007] u [(8,(.vsl 25 l36.length))] [(5,.arr 1 176 64 (fun i=>eB (l34.getD i false))),(Z46 l35),(Z7 25 l36)])) ?_ ?_
  ·intro l32 y h;unfold Mf at h;obtain⟨hc37,h⟩:=Aa h;obtain⟨hc38,h⟩:=Aa h;refine gR hq [2,5,6,7,8,9,41] [2,5,6,25,36007] [] [] (ci hc37 (ci (Eq.refl 64) (c1 hc38))) ?_;refine gC h (fun h=>?_) (fun h=>?_)
   ·obtain⟨hc39,h⟩:=Aa h;obtain⟨hc40,h⟩:=Aa h;obtain⟨hc41,h⟩:=Aa h;refine gR hq [2,5,6,7,8,9,10] [2,5,6,25,36007] [] [] (ci hc39 (ci hc40 (ci (Eq.refl 64) (c1 hc41)))) ?_;obtain⟨hc42,h⟩:=Aa h;obtain⟨hc43,h⟩:=Aa h;refine gR hq [2,5,6,7,8,9,10] [2,5,6,25,36007] [] [] (ci hc42 (ci (Eq.refl 64) (ci hc43 (c1 (Eq.refl 64))))) ?_;refine Ie (K6 6 (show ∀ k_,k_<64→AVleL ((fun i_=>AV.eraseAll Q31 ((Fs (fun i=>Ah (l32.getD i 0)) (Q28 l3).toNat 0 [(.int .i64 (Aq ((l32.getD (Q28 l3).toNat (0:Int))+1)))]) i_)) k_) ((fun i=>Ah ((Ox 64 (0:Int) l32 (Q28 l3).toNat (Aq ((l32.getD (Q28 l3).toNat (0:Int))+1))).getD i 0)) k_) from(A6 rfl (fun k_ hk_=>(congrArg (AV.eraseAll Q31) ((Ml (fun _ _=>rfl) (Li hc43) rfl) k_ hk_)).trans rfl)))) ?_;obtain⟨hc44,h⟩:=Aa h;refine gR hq [2,5,6,7,8,9,10,60] [2,5,6,25,36007] [] [] (ci hc44 (c1 (Eq.refl 64))) ?_;refine gC h (fun h=>?_) (fun h=>?_)
    ·obtain⟨hc45,h⟩:=Aa h;refine gR hq [2,5,6,7,8,10] [2,5,6,25,36007] [] [] (ci hc45 (c1 (Eq.refl 64))) ?_;refine Ie (K6 5 (show ∀ k_,k_<64→AVleL ((fun i_=>AV.eraseAll Q31 ((Fs (Q45 l1) (Q40 aH l3 l32).toNat 0 [(.bool true)]) i_)) k_) ((fun i=>eB ((Ox 64 false l1 (Q40 aH l3 l32).toNat true).getD i false)) k_) from(A6 rfl (fun k_ hk_=>(congrArg (AV.eraseAll Q31) ((Ml (fun _ _=>rfl) (Li hc45) rfl) k_ hk_)).trans rfl)))) ?_;obtain⟨hc46,h⟩:=Aa h;refine gR hq [2,5,6,7,8] [2,5,6,25,36007] [(65,(Z40 (Q40 aH l3 l32)))] [] (ci (Bd 1 Ah (0:Int) ([(Q40 aH l3 l32)]:List Int)) (ci (Eq.refl l3.length) (c1 hc46))) ?_;cases h;exact gO (B2 (Le.trans (Le.trans (K6 25 (show ∀ k_,k_<(l3.length+([(Q40 aH l3 l32)]:List Int).length)→AVleL ((fun i_=>AV.eraseAll Q31 ((G0 l3.length (fun i=>Ah (l3.getD i 0)) (fun i=>Ah (([(Q40 aH l3 l32)]:List Int).getD i 0))) i_)) k_) ((fun i=>Ah ((l3++([(Q40 aH l3 l32)]:List Int)).getD i 0)) k_) from(A6 (G5 _ _) (fun k_ hk_=>(congrArg (AV.eraseAll Q31) ((R7 (fun _ _=>rfl) (fun _ _=>rfl)) k_ hk_)).trans rfl)))) (K7 (fun(k_:Nat) u=>(Cx u [(8,(.vsl 25 k_))] [(25,.arr 1 3 k_ (fun i=>Ah ((l3++([(Q40 aH l3 l32)]:List Int)).getD i 0)))])) (show(l3.length+([(Q40 aH l3 l32)]:List Int).length)=(l3++([(Q40 aH l3 l32)]:List Int)).length from(G5 _ _)))) C9))
    ·cases h;exact gN (B0 [2,5,6,7,8,9] [2,5,6,25,36007] hq)
   ·cases h;exact gO (B2 (B0 [2,5,6,7,8,9] [2,5,6,25,36007] hq))
  ·clear hx47;rcases x47 with l33|⟨l34,l35,l36⟩
   ·refine gA ?_;obtain⟨hc49,h⟩:=Aa h;refine gR hq [2,5,6,7,8] [2,5,6,25,36007] [(69,(Z40 (Q28 l3)))] [] (ci (Bd 1 Ah (0:Int) ([(Q28 l3)]:List Int)) (ci (Eq.refl l4.length) (c1 hc49))) ?_;refine Ie (Le.trans (K6 36007 (show ∀ k_,k_<(l4.length+([(Q28 l3)]:List Int).length)→AVleL ((fun i_=>AV.eraseAll Q31 ((G0 l4.length (fun i=>Ah (l4.getD i 0)) (fun i=>Ah (([(Q28 l3)]:List Int).getD i 0))) i_)) k_) ((Q48 l4 l3) k_) from(A6 (G5 _ _) (fun k_ hk_=>(congrArg (AV.eraseAll Q31) ((R7 (fun _ _=>rfl) (fun _ _=>rfl)) k_ hk_)).trans rfl)))) (K7 (fun(k_:Nat) u=>(Cx u (Yr 36007 k_) [(36007,.arr 1 3 k_ (Q48 l4 l3))])) (show(l4.length+([(Q28 l3)]:List Int).length)=(Q42 l4 l3).length from(G5 _ _)))) ?_;obtain⟨hc50,h⟩:=Aa h;refine gR hq [2,5,6,7,8] [2,5,6,25,36007] [] [] (c1 hc50) ?_;refine Oy (⟨[Zi,Z58,Z55,(7,(.vsl 36007 (Q42 l4 l3).length)),(8,(.vsub 25 l3.length 0 (Q33 l3)))],[(Zj (Q29 aH)),(Z71 (Q45 l1)),(Z63 (Q44 l33)),(Z7 25 l3),(36007,.arr 1 3 ((Q42 l4 l3).length) (Q48 l4 l3))],[]⟩:St) ?_;refine Ie (Le.trans (Le.trans (le_trunc (t:=8) (r:=25) (k:=(Q33 l3)) rfl rfl hc50.2 (by kernel_rfl) (.row (by kernel_rfl) (.arr (fun _=>by kernel_rfl) (.arr (fun _=>by kernel_rfl) (.arr (fun _=>by kernel_rfl) (.arr (fun _=>by kernel_rfl) .nil))))) (by rw[hΓ];rfl)) (Hu (st':=⟨[Zi,Z58,Z55,(7,(.vsl 36007 (Q42 l4 l3).length)),(8,(.vsl 25 (Q33 l3)))],[(Zj (Q29 aH)),(Z71 (Q45 l1)),(Z63 (Q44 l33)),(25,.arr 1 3 (Q33 l3) (fun i=>Ah (l3.getD i 0))),(36007,.arr 1 3 ((Q42 l4 l3).length) (Q48 l4 l3))],[]⟩) (by kernel_rfl))) (Le.trans (Pc (st':=⟨[Zi,Z58,Z55,(7,(.vsl 36007 (Q42 l4 l3).length)),(8,(.vsl 25 (Q33 l3)))],[(Zj (Q29 aH)),(Z71 (Q45 l1)),(Z63 (Q44 l33)),(25,.arr 1 3 (Q33 l3) (fun i=>Ah ((l3.take (Aq ((l3.length:Int)-1)).toNat).getD i 0))),(36007,.arr 1 3 ((Q42 l4 l3).length) (Q48 l4 l3))],[]⟩) (TmpsLe.refl _) (.same (.same (.same (.arr (take_le (e:=Ah) (d:=(0:Int))) (.same .nil)))))) (Hu (congrArg (fun k_:Nat=>(⟨[Zi,Z58,Z55,(7,(.vsl 36007 (Q42 l4 l3).length)),(8,(.vsl 25 k_))],[(Zj (Q29 aH)),(Z71 (Q45 l1)),(Z63 (Q44 l33)),(25,.arr 1 3 k_ (fun i=>Ah ((l3.take (Aq ((l3.length:Int)-1)).toNat).getD i 0))),(36007,.arr 1 3 ((Q42 l4 l3).length) (Q48 l4 l3))],[]⟩:St)) (show(Q33 l3)=(l3.take (Aq ((l3.length:Int)-1)).toNat).length from take_len hc50.2))))) ?_;refine Af hq [2,5,6,7,8,78] [2,5,6,25,36007] ?_;refine gC h (fun h=>?_) (fun h=>?_)
    ·cases h;exact gJn (B0 [2,5,6,7,8] [2,5,6,25,36007] hq)
    ·obtain⟨x51,hx51,h⟩:=bind_some h;obtain⟨hc52,h⟩:=Aa h;refine gR hq [7] [36007] [] [⟨[(36007,34000)],[],(.tuple []),[(Z7 34000 x51)],[],[]⟩] (c1 (Gw (Q42 l4 l3) x51 hx51)) ?_;refine Ie (K7 (fun(k_:Nat) u=>(Cx u (Yr 36007 k_) [])) (show(Q42 l4 l3).length=x51.length from hc52)) ?_;refine Af hq [4] [36007] ?_;refine Oy (⟨[(4,(.vsl 36007 x51.length))],[(Z7 36007 x51)],[]⟩:St) ?_;cases h;exact Wm (Jw (Fx [(36007,20000)] (Le.trans (Ep (nm:=36007) (sz:=1) (n:=x51.length) (e:=3) (f:=(fun i=>Ah (x51.getD i 0))) (g:=(fun i=>Ah (x51.getD i 0))) rfl ⟨rfl,trivial⟩ (fun _ _=>rfl) (by rw[hΓ];rfl)) (Hu (st':=⟨[(4,(Z42 x51 36007))],[(36007,.tok 1 3 x51.length)],[]⟩) (by kernel_rfl)))))
   ·refine gA' (fun st' hl53=>?_);cases h;exact gJn (Le.trans hl53 C9)
 ·clear hx54;refine Qx (fun st' hk=>?_);obtain rfl:=OI h;exact gK hk
def M5(aM:Int)(aa7:Int):Option (Int×Int):=
 (some ((Cw ((Cw ((Cw ((H9 .u64 aM (32:Int))*(H9 .u64 aa7 (32:Int))))+(H9 .u64 (Cw ((Cw ((H9 .u64 aM (32:Int))*(Ft .and .u64 aa7 (4294967295:Int))))+(H9 .u64 (Cw ((Ft .and .u64 aM (4294967295:Int))*(Ft .and .u64 aa7 (4294967295:Int)))) (32:Int)))) (32:Int))))+(H9 .u64 (Cw ((Ft .and .u64 (Cw ((Cw ((H9 .u64 aM (32:Int))*(Ft .and .u64 aa7 (4294967295:Int))))+(H9 .u64 (Cw ((Ft .and .u64 aM (4294967295:Int))*(Ft .and .u64 aa7 (4294967295:Int)))) (32:Int)))) (4294967295:Int))+(Cw ((Ft .and .u64 aM (4294967295:Int))*(H9 .u64 aa7 (32:Int)))))) (32:Int)))),(Cw (aM*aa7))))
theorem W1(aM:Int)(aa7:Int)(r:(Int×Int))(h:M5 aM aa7=some r):Spec Tryz.prog 143 [(.int .u64 aM),(.int .u64 aa7)] [] (.tuple [(.int .u64 r.1),(.int .u64 r.2)]) []:=by
 refine Ac mix Tryz.func143 (fun Γ hq=>?_);unfold M5 at h;refine Af hq [0,1] [] ?_;refine Af hq [0,1,6] [] ?_;refine gR hq [0,1,6,7] [] [] [] (c1 (show(0≤(32:Int)) from(by decide))) ?_;refine Af hq [0,1,6,7,8] [] ?_;refine gR hq [0,1,6,7,8,9] [] [] [] (c1 (show(0≤(32:Int)) from(by decide))) ?_;refine Af hq [0,1,6,7,8,9,10] [] ?_;refine gR hq [0,1,6,7,9,11] [] [] [] (c1 (show(0≤(32:Int)) from(by decide))) ?_;refine Af hq [0,1,6,7,9,11,12] [] ?_;refine gR hq [0,1,6,7,9,12,13] [] [] [] (c1 (show(0≤(32:Int)) from(by decide))) ?_;refine Af hq [0,1,7,9,12,13] [] ?_;refine gR hq [0,1,4] [] [] [] (c1 (show(0≤(32:Int)) from(by decide))) ?_;refine Af hq [4,5] [] ?_;cases h;exact Bk []
def J8(aM:Int)(aa7:Int):Option (Int×Int):=
 ((M5 aM aa7).bind fun x1=>(some (x1.1,x1.2)))
theorem Pl(aM:Int)(aa7:Int)(r:(Int×Int))(h:J8 aM aa7=some r):Spec Tryz.prog 111 [(.int .u64 aM),(.int .u64 aa7)] [] (.tuple [(.int .u64 r.1),(.int .u64 r.2)]) []:=by
 refine Ac mix Tryz.func111 (fun Γ hq=>?_);unfold J8 at h;refine Af hq [0,1] [] ?_;refine Sr false ?_;obtain⟨x1,hx1,h⟩:=bind_some h;refine gR hq [8,9] [] [] [⟨[],[],(.tuple [(Hp x1.1),(Hp x1.2)]),[],[],[]⟩] (c1 (W1 aM aa7 x1 hx1)) ?_;refine Af hq [4,5] [] ?_;cases h;exact Bk []
def Ge :(Int×List Int)→Option (LR (Int×List Int) (List Int)):=
 fun((i7,l8):(Int×List Int))=>(bif (decide (i7<(l8.length:Int))) then(Aw (0≤i7∧0+i7.toNat≤l8.length) (Aw (0≤i7∧0+i7.toNat≤l8.length) (some (.next ((Aq (i7+((Nat.min ((0+i7.toNat)-0) (l8.length-(0+i7.toNat))):Int))),(Zk l8 (0+i7.toNat) (Nat.min ((0+i7.toNat)-0) (l8.length-(0+i7.toNat))) (fun i=>l8.getD (0+i) 0))))))) else(some (.done l8)))
def Q51(x3:(Int×Int)):=(List.replicate (Aq x3.2).toNat (0:Int))
def Q53(x3:(Int×Int))(aM:List Int):=(Zk (Q51 x3) 0 (Nat.min aM.length ((Q51 x3).length-0)) (fun i=>aM.getD i 0))
def Q52(l8:List Int)(i7:Int):=(Zk l8 (0+i7.toNat) (Nat.min ((0+i7.toNat)-0) (l8.length-(0+i7.toNat))) (fun i=>l8.getD (0+i) 0))
def Ez(aM:List Int)(aZ:Int):Option (List Int):=
 (Option.bind (α:=Unit) (bif (decide (aZ<0)) then none else(some ())) (fun x1=>(match x1 with|_=>((J8 (Cw (aM.length:Int)) (Cw aZ)).bind fun x3=>(Option.bind (α:=Unit) (bif (bif (decide (((0:Int):Int)<x3.1)) then true else(decide (((9223372036854775807:Int):Int)<x3.2))) then none else(some ())) (fun x4=>(match x4 with|_=>(Aw (0≤(Aq x3.2)∧(Aq x3.2)≤(Aq x3.2)∧(Aq x3.2)≤(room:Int)) ((Az (S:=(Int×List Int)) (X:=List Int) Ge (((Nat.min aM.length ((List.replicate (Aq x3.2).toNat (0:Int)).length-0)):Int),(Zk (List.replicate (Aq x3.2).toNat (0:Int)) 0 (Nat.min aM.length ((List.replicate (Aq x3.2).toNat (0:Int)).length-0)) (fun i=>aM.getD i 0)))).bind (fun x12=>(some x12)))))))))))
theorem L6(aM:List Int)(aZ:Int)(r:List Int)(h:Ez aM aZ=some r):Spec Tryz.prog 129 [(AV.list 1 Ah 0 aM .none),(.int .i64 aZ)] [] (.vsl 20000 r.length) [(20000,.arr 1 3 r.length (fun i=>Ah (r.getD i 0)))]:=by
 refine Ac mix Tryz.func129 (fun Γ hq=>?_);unfold Ez at h;refine gR hq [0,1] [] [(4,Z33)] [] (c1 (Bq 1 Ah (0:Int))) ?_;obtain⟨x1,hx1,h⟩:=bind_some h;refine gJ hx1 (fun _=>aG Γ .normal (⟨[(0,(Wr aM)),(1,(Bi aZ))],[],[]⟩:St)) ?_ ?_
 ·clear h hx1;intro y h;refine Af hq [0,1,10] [] ?_;refine gC h (fun h=>?_) (fun h=>?_)
  ·cases h
  ·cases h;exact gK (B2 (B0 [0,1] [] hq))
 ·clear hx1;refine gA ?_;obtain⟨x3,hx3,h⟩:=bind_some h;refine gR hq [0,5,6] [] [] [⟨[],[],(.tuple [(Hp x3.1),(Hp x3.2)]),[],[],[]⟩] (c1 (Pl (Cw (aM.length:Int)) (Cw aZ) x3 hx3)) ?_;obtain⟨x4,hx4,h⟩:=bind_some h;refine gJ hx4 (fun _=>aG Γ .normal (⟨[(0,(Wr aM)),(6,(Hp x3.2))],[],[]⟩:St)) ?_ ?_
  ·clear h hx4;intro y h;refine gR hq [0,6,26] [] [] [] (ci (gI ((decide (((0:Int):Int)<x3.1))==false)) (c1 (Qn (decide (((0:Int):Int)<x3.1))))) ?_;refine gC h (fun h=>?_) (fun h=>?_)
   ·cases h
   ·cases h;exact gK (B2 (B0 [0,6] [] hq))
  ·clear hx4;refine gA ?_;obtain⟨hc6,h⟩:=Aa h;refine gR hq [0,7] [30] [] [] (c1 hc6) ?_;refine Ie (Le.trans (K6 30 (show ∀ k_,k_<((Aq x3.2).toNat)→AVleL ((fun i_=>AV.eraseAll (fun n_=>Bl n_ [30]) ((fun _=>[Id]) i_)) k_) ((fun i=>Ah ((Q51 x3).getD i 0)) k_) from(fun k hk=>H5 (e:=Ah) (d:=(0:Int)) (.cons (AVle.refl _) .nil) _ k (H6 hk)))) (K7 (fun(k_:Nat) u=>(Cx u (Yr 30 k_) [(30,.arr 1 3 k_ (fun i=>Ah ((Q51 x3).getD i 0)))])) (show(Aq x3.2).toNat=(Q51 x3).length from(List.length_replicate ..).symm))) ?_;refine gR hq [7,8] [30] [] [] (c1 (Eq.refl ((Q51 x3).length))) ?_;refine Ie (Le.trans (K6 30 (show ∀ k_,k_<((Q51 x3).length)→AVleL ((fun i_=>AV.eraseAll (fun n_=>Bl n_ [30]) ((cpF (fun i=>Ah ((Q51 x3).getD i 0)) 0 (Nat.min aM.length ((Q51 x3).length-0)) (fun i=>Ah (aM.getD i 0))) i_)) k_) ((fun i=>Ah ((Q53 x3 aM).getD i 0)) k_) from(A6 (C0 ..) (fun k_ hk_=>(congrArg (AV.eraseAll (fun n_=>Bl n_ [30])) ((P9 (e:=Ah) (d:=(0:Int)) (l:=(Q51 x3)) (s:=(fun i=>aM.getD i 0)) (fun _ _=>rfl) (fun _ _=>rfl)) k_ hk_)).trans rfl)))) (K7 (fun(k_:Nat) u=>(Cx u (Yr 30 k_) [(30,.arr 1 3 k_ (fun i=>Ah ((Q53 x3 aM).getD i 0)))])) (show(Q51 x3).length=(Q53 x3 aM).length from(C0 ..)))) ?_;obtain⟨x12,hx12,h⟩:=bind_some h;refine gL hq hx12 [7,8] [30] (fun u (i7,l8)=>(Cx u [(7,(.vsl 30 l8.length)),(8,(Bi i7))] [(Z7 30 l8)])) (fun u l9=>aG Γ (.exit 0) (⟨(Yr 30 l9.length),[(Z7 30 l9)],[]⟩:St)) ?_ ?_
   ·rintro⟨i7,l8⟩ y h;unfold Ge at h;refine Af hq [7,8,37] [30] ?_;refine gC h (fun h=>?_) (fun h=>?_)
    ·obtain⟨hc10,h⟩:=Aa h;obtain⟨hc11,h⟩:=Aa h;refine gR hq [7,8] [30] [] [] (ci hc10 (ci hc11 (ci (Eq.refl l8.length) (c1 (Eq.refl l8.length))))) ?_;cases h;exact gN (Le.trans (Le.trans (K6 30 (show ∀ k_,k_<l8.length→AVleL ((fun i_=>AV.eraseAll (fun n_=>Bl n_ [30]) ((cpF (fun i=>Ah (l8.getD i 0)) (0+i7.toNat) (Nat.min ((0+i7.toNat)-0) (l8.length-(0+i7.toNat))) (fun i=>(fun i=>Ah (l8.getD i 0)) (0+i))) i_)) k_) ((fun i=>Ah ((Q52 l8 i7).getD i 0)) k_) from(A6 (C0 ..) (fun k_ hk_=>(congrArg (AV.eraseAll (fun n_=>Bl n_ [30])) ((P9 (e:=Ah) (d:=(0:Int)) (l:=l8) (s:=(fun i=>l8.getD (0+i) 0)) (fun _ _=>rfl) (fun _ _=>rfl)) k_ hk_)).trans rfl)))) (K7 (fun(k_:Nat) u=>(Cx u (Yr 30 k_) [(30,.arr 1 3 k_ (fun i=>Ah ((Q52 l8 i7).getD i 0)))])) (show l8.length=(Q52 l8 i7).length from(C0 ..)))) C9)
    ·cases h;exact gO (B2 (B0 [7] [30] hq))
   ·clear hx12;refine gA ?_;refine Af hq [4] [30] ?_;obtain rfl:=OI h;exact Bk [(30,20000)]
def Ra(aE:List Int):(Int×List Bool)→Option (LR (Int×List Bool) (List Bool)):=
 fun((i2,l3):(Int×List Bool))=>(bif (i2 !=-1) then(Aw (A5 i2 l3.length) (Aw (A5 i2 aE.length) (some (.next ((aE.getD i2.toNat 0),(l3.set i2.toNat true)))))) else(some (.done l3)))
def Rb(aE:List Int)(l4:List Bool):Int→Option (LR Int Int):=
 fun(i9:Int)=>(Aw (A5 i9 l4.length) (bif (!(l4.getD i9.toNat false)) then(Aw (A5 i9 aE.length) (some (.next (aE.getD i9.toNat 0)))) else(some (.done i9))))
def M8(aE:List Int)(aF:Int)(aC:Int):Option Int:=
 (Aw (0≤(aE.length:Int)∧(aE.length:Int)≤(aE.length:Int)∧(aE.length:Int)≤(room:Int)) ((Az (Ra aE) (aF,(List.replicate (aE.length:Int).toNat false))).bind (fun x7=>((Az (Rb aE x7) aC).bind (fun x13=>(some x13))))))
theorem Tw(aE:List Int)(aF:Int)(aC:Int)(r:Int)(h:M8 aE aF aC=some r):Spec Tryz.prog 168 [(AV.list 1 Ah 0 aE .none),(.int .i64 aF),(.int .i64 aC)] [] (.int .i64 r) []:=by
 refine Ac mix Tryz.func168 (fun Γ hq=>?_);unfold M8 at h;refine Af hq [0,1,2] [] ?_;obtain⟨hc1,h⟩:=Aa h;refine gR hq [0,1,2,7] [11] [] [] (c1 hc1) ?_;refine Ie (Le.trans (K6 11 (show ∀ k_,k_<((aE.length:Int).toNat)→AVleL ((fun i_=>AV.eraseAll (fun n_=>Bl n_ [11]) ((fun _=>[(.bool false)]) i_)) k_) ((fun i=>eB ((List.replicate (aE.length:Int).toNat false).getD i false)) k_) from(fun k hk=>H5 (e:=eB) (d:=false) (.cons (AVle.refl _) .nil) _ k (H6 hk)))) (K7 (fun(k_:Nat) u=>(Cx u (Yr 11 k_) [(11,.arr 1 4 k_ (fun i=>eB ((List.replicate (aE.length:Int).toNat false).getD i false)))])) (show(aE.length:Int).toNat=(List.replicate (aE.length:Int).toNat false).length from(List.length_replicate ..).symm))) ?_;refine Af hq [0,2,7,8] [11] ?_;obtain⟨x7,hx7,h⟩:=bind_some h;refine gL hq hx7 [0,2,7,8] [11] (fun u (i2,l3)=>(Cx u [(7,(.vsl 11 l3.length)),(8,(Bi i2))] [(11,.arr 1 4 l3.length (fun i=>eB (l3.getD i false)))])) (fun u l4=>aG Γ (.exit 0) (Rz [0,2,7] [11] u (Yr 11 l4.length) [(11,.arr 1 4 l4.length (fun i=>eB (l4.getD i false)))])) ?_ ?_
 ·rintro⟨i2,l3⟩ y h;unfold Ra at h;refine Af hq [0,2,7,8,14] [11] ?_;refine gC h (fun h=>?_) (fun h=>?_)
  ·obtain⟨hc5,h⟩:=Aa h;refine gR hq [0,2,7,8] [11] [] [] (ci hc5 (c1 (Eq.refl l3.length))) ?_;refine Ie (Le.trans (K6 11 (show ∀ k_,k_<l3.length→AVleL ((fun i_=>AV.eraseAll (fun n_=>Bl n_ [11]) ((Fs (fun i=>eB (l3.getD i false)) i2.toNat 0 [(.bool true)]) i_)) k_) ((fun i=>eB ((l3.set i2.toNat true).getD i false)) k_) from(A6 (List.length_set ..).symm (fun k_ hk_=>(congrArg (AV.eraseAll (fun n_=>Bl n_ [11])) ((D1 (fun _ _=>rfl) (Ed hc5) rfl) k_ hk_)).trans rfl)))) (K7 (fun(k_:Nat) u=>(Cx u (Yr 11 k_) [(11,.arr 1 4 k_ (fun i=>eB ((l3.set i2.toNat true).getD i false)))])) (show l3.length=(l3.set i2.toNat true).length from(List.length_set ..).symm))) ?_;obtain⟨hc6,h⟩:=Aa h;refine gR hq [0,2,7,8] [11] [] [] (c1 hc6) ?_;cases h;exact gN C9
  ·cases h;exact gO (B2 (B0 [0,2,7] [11] hq))
 ·clear hx7;refine gA ?_;obtain⟨x13,hx13,h⟩:=bind_some h;refine gL hq hx13 [0,2,7] [11] (fun u i9=>(Cx u [(2,(Bi i9))] [])) (fun u i10=>aG Γ (.exit 2) (⟨[(2,(Bi i10))],[],[]⟩:St)) ?_ ?_
  ·intro i9 y h;unfold Rb at h;obtain⟨hc11,h⟩:=Aa h;refine gR hq [0,2,7,26] [11] [] [] (ci hc11 (c1 (Eq.refl x7.length))) ?_;refine gC h (fun h=>?_) (fun h=>?_)
   ·obtain⟨hc12,h⟩:=Aa h;refine gR hq [0,2,7] [11] [] [] (c1 hc12) ?_;cases h;exact gN C9
   ·cases h;exact gO (B2 (B0 [2] [] hq))
  ·clear hx13;refine gA ?_;refine Af hq [6] [] ?_;obtain rfl:=OI h;exact Bk []
end
end Go.Proofs.YtemgdalocjcbhaaGreat
