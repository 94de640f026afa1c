/-
  The machine, the program's functions and the laws' arithmetic: part 3 of 5.
-/
import Derived.Test.YtiendmljhgbjoaaGreatPk2
import Derived.BigCall
import Derived.Lib.RowBridge
import Derived.Shelf.Slices.Clone
import Derived.Shelf.Slices.CompactI
import Derived.Shelf.Slices.In.SortNone
import Derived.Shelf.Sort.Plain
import Derived.Sort.OwnSortedInts
import Derived.Test.YtiendmljhgbjoaaGreatProg
set_option linter.unusedSectionVars false
set_option linter.unusedVariables false
set_option linter.unusedSimpArgs false
namespace Go.Proofs.YtiendmljhgbjoaaGreat
noncomputable section
open Go Go.RowKit
section
variable {P:Program} {Γ:Gt} {σ:Sto} {I:Nat->Nat->Prop} {θ:Nat->Option (Nat×Nat)} {a:Act} {w:World} {o:Oper}
theorem OW{g bm since:Nat}{seen:Array Nat}{es:Array MapEntry}(hg:w.heap[g]?=some (.mapIter (some bm) since seen since))(hb:w.heap[bm]?=some (.map es since))(hold:∀ x∈es.toList,x.born<since)(ty:TypeId) :
  ((∀ e∈es.toList,e.born∈seen.toList)/\(Instr.next (.pointer (some ⟨g,0,none⟩)) false ty).run P w = .ok (.tuple #[.bool false]) w) \/
  ∃ e∈es.toList,e.born∉seen.toList/\((Instr.next (.pointer (some ⟨g,0,none⟩)) false ty).run P w = .ok (.tuple #[.bool true,e.key,e.val]) (Nv w g (.mapIter (some bm) since (seen.push e.born) since)) \/
   (Instr.next (.pointer (some ⟨g,0,none⟩)) false ty).run P w = .ok (.tuple #[.bool true,e.key,e.val]) (Nv w.drew g (.mapIter (some bm) since (seen.push e.born) since))):=by
 simp only[Instr.next,getObj,Cs,Sem.run,hg,hb,Result.andThen,next_test_false seen es since since hold (zzL7 _),Xe,Ep]
 have hmem:∀ x∈(Array.filter (λe=>!seen.contains e.born) es).toList,x∈es.toList/\x.born∉seen.toList:=λx hx=>by
  simp only[Array.toList_filter,zzL64,Om,Array.contains_eq_mem,IH]at hx;exact⟨hx.1,by simpa using hx.2⟩
 have hall:(Array.filter (λe=>!seen.contains e.born) es).size=0->∀ e∈es.toList,e.born∈seen.toList:=λh0 e he=>by
  by_cases hc:e.born∈seen.toList
  ·exact hc
  ·have:e∈(Array.filter (λe=>!seen.contains e.born) es).toList:=by
    simp only[Array.toList_filter,zzL64,Om,Array.contains_eq_mem,IH];exact⟨he,by simpa using hc⟩
   have h1:0<(Array.filter (λe=>!seen.contains e.born) es).toList.length:=List.length_pos_of_mem this;rw[Yx]at h1;omega
 generalize Array.filter (λe=>!seen.contains e.born) es=L at hmem hall ⊢
 have e1:L.filter (λx=>decide (x.born<since))=L:=Array.filter_eq_self.2 (λx hx=>by simpa using hold x (hmem x (by simpa using hx)).1)
 have e2:L.filter (λx=>decide (x.born>=since)) = #[]:=by
  rw[Array.filter_eq_empty_iff];intro x hx;have:=hold x (hmem x (by simpa using hx)).1
  simp
  omega
 simp only[e1,e2,Array.append_empty]
 by_cases h0:L.size=0
 ·left
  have:L = #[]:=Array.eq_empty_of_size_eq_zero h0;subst this;refine⟨hall rfl,?_⟩;simp[choose,Sem.run,Question.forced]
 ·right
  have hne:L.isEmpty=false:=by simp[Array.isEmpty,h0]
  simp only[hne,Xe,Ep,Array.empty_append,Array.size_map];have hgl:g<w.heap.size:=(Array.getElem?_eq_some_iff.1 hg).1
  have hch:∃(j:Nat) (w1:World),j<L.size/\(w1=w\/w1=w.drew)/\(choose (Question.mapNext L.size)).run P w = .ok j w1:=by
   by_cases hf:L.size<=1
   ·exact⟨0,w,by omega,.inl rfl,by simp[choose,Sem.run,Question.forced,hf]⟩
   ·exact⟨_,w.drew,Nat.mod_lt _ (by omega),.inr rfl,by
     simp only[choose,Sem.run,Question.forced,Dr,hf,Ep,Question.cut]
     rfl⟩
  obtain⟨j,w1,hj,hw,hrun⟩:=hch
  have hLj:L[j]∈L.toList:=by simp
  refine⟨L[j],(hmem _ hLj).1,(hmem _ hLj).2,?_⟩
  have hset:∀ o',(setObj g o').run P w1 = .ok () (Nv w1 g o'):=λo'=>by
   have hh:w1.heap[g]?=some (.mapIter (some bm) since seen since):=by rcases hw with rfl|rfl<;>exact hg
   simp[setObj,Sem.run,hh,Nv]
  simp only[hrun,Array.getElem?_map,Array.getElem?_eq_getElem hj,Vu,Cs,hset,Result.andThen];rcases hw with rfl|rfl
  ·exact .inl rfl
  ·exact .inr rfl
theorem cB(h:Rel Γ σ I θ a w)(hd:∀ d,o.dst=some d->d<Γ.n){x:Operand}(ho:o.op = .next x false){nm mm n:Nat}{s:List Nat}{nn:Bool}{k:IntKind}{l:List (Int×AV)}(hx:Rep I σ.own θ w (a.eval x) (.optr nm mm))
  (hit:σ.own nm=some (.obj (.miter (.omap mm) n s))) (hown:σ.own mm=some (.obj (.map nn k l))) (hn:n=l.length) (K:Act->World->Prop) (Q:Exit->Act->World->Prop)
  (hdone:(∀ i,i<n->i∈s)->∀ I' θ' a' w',Rel Γ (σ.upd o.dst (.tuple [.bool false]) []) I' θ' a' w'->K a' w')
  (hmore:∀ i,i<n->i∉s->∀ I' θ' a' w',Rel Γ (σ.upd o.dst (.tuple [.bool true,.int k (l.getD i (0,.any)).1,(l.getD i (0,.any)).2]) [(nm,.obj (.miter (.omap mm) n (i::s)))]) I' θ' a' w'->K a' w'):o.wp P a w K Q:=by
 obtain⟨_,g,c,ho',hg,hv⟩:=hx.optr_inv
 obtain⟨ob,h2,h3⟩:∃ ob,w.heap[g]?=some ob/\ObjR I σ.own θ w ob (.miter (.omap mm) n s):=by
  rcases h.chg.rel.obj nm _ hit with⟨g',c',ob,h1,h2,h3,h4⟩|⟨h1,_⟩
  ·rw[hg]at h1;simp only[Af,H4]at h1;obtain⟨rfl,rfl⟩:=h1;exact⟨ob,h2,h3⟩
  ·rw[hg]at h1;cases h1
 obtain⟨r,cc,seen,rfl,hseen,rfl,hr⟩:=HH h3;obtain⟨_,_,hxm⟩:=hr.omap_inv;simp only[Value.map.injEq]at hxm
 have hfalse:∀(hrun:(execOp a.eval o).run P w = .ok (.value (.tuple #[.bool false])) w),(∀ i,i<cc->i∈s)->o.wp P a w K Q:=λhrun hall=>
  Ak (x:=.tuple [.bool false]) h hd hrun (.tuple _ _ rfl (λj hj=>by
   obtain rfl:j=0:=by simp at hj;omega
   exact .val _ _ (.bool _))) K Q (hdone hall)
 rcases map_at h hown with⟨gm,c',es',h4,h5,h6⟩|⟨h4,_,h7⟩
 ·rw[h4]at hxm;obtain rfl:r=some gm:=hxm;obtain⟨hlen,hent⟩:=Tx l es'.toList 0 h6
  have hmem:∀ e∈es'.toList,∃ i,i<l.length/\es'.toList[i]?=some e/\e.born=i/\e.key = .int k (l.getD i (0,.any)).1/\JG I w e.val (l.getD i (0,.any)).2:=λe he=>by
   obtain⟨i,hi,rfl⟩:=List.mem_iff_getElem.1 he;obtain⟨v,e1,e2⟩:=hent i (by omega);rw[Ol hi]at e1;have e3:=OI e1;exact⟨i,by omega,Ol hi,by rw[e3];simp,by rw[e3],by rw[e3];exact e2⟩
  rw[<- hn]at h5;have hnx:=OW (P:=P) h2 h5 (λe he=>by obtain⟨i,hi,_,hb,_⟩:=hmem e he;omega) (ty:=0);have hty:∀ ty,Instr.next (.pointer (some ⟨g,0,none⟩)) false ty=Instr.next (.pointer (some ⟨g,0,none⟩)) false 0:=λ_=>rfl;rcases hnx with⟨hall,hrun⟩|⟨e,he,hns,hrun⟩
  ·refine hfalse ?_ (λi hi=>?_)
   ·simp only[execOp,ho,hv,hty];simp[hrun]
   ·obtain⟨v,e1,e2⟩:=hent i (by omega);have:=hall _ (List.mem_of_getElem? e1);rw[<- hseen,zzL96]
    simpa using this
  ·obtain⟨i,hi,_,hb,hkey,hval⟩:=hmem e he
   have his:i∉s:=by rw[<- hseen,zzL96,<- hb];exact hns
   have hrev:(seen.push e.born).toList.reverse=i::s:=by rw[Array.toList_push,List.reverse_append,hseen,hb];rfl
   have step:∀ w1:World,Rel Γ σ I θ a w1->w1.heap=w.heap->(execOp a.eval o).run P w = .ok (.value (.tuple #[.bool true,e.key,e.val])) (Nv w1 g (.mapIter (some gm) cc (seen.push e.born) cc))->o.wp P a w K Q:=λw1 hr1 hh hrun=>by
    have hcell:∀ b j,I b j->w1.cell? ⟨b,j,none⟩=w.cell? ⟨b,j,none⟩:=λb j _=>by simp only[World.cell?,hh]
    have hr':Rep I σ.own θ w1 (.map (some gm)) (.omap mm):=hr.mono (λ_ _ h=>h) hcell (λ_ o ho=>⟨o,ho,.refl _ _⟩)
    have hc:ObjR I σ.own θ w1 (.mapIter (some gm) cc (seen.push e.born) cc) (.miter (.omap mm) cc (i::s)):=by
     have:=ObjR.miter (I:=I) (own:=σ.own) (θ:=θ) (w:=w1) (some gm) (.omap mm) cc cc (seen.push e.born) rfl hr';rwa[hrev]at this
    have kc:=M3 hr1.chg.rel hr1.chg.valid hit hg hc;have hval':RepV I (Nv w1 g (.mapIter (some gm) cc (seen.push e.born) cc)) e.val (l.getD i (0,.any)).2:=hval.1.mono (λ_ _ h=>h) (λb j hj=>by rw[kc.cell b j hj,hcell b j hj])
    have k2:Chg σ.own θ I w1 (σ.upd o.dst (.tuple [.bool true,.int k (l.getD i (0,.any)).1,(l.getD i (0,.any)).2]) [(nm,.obj (.miter (.omap mm) cc (i::s)))]).own θ I (Nv w1 g (.mapIter (some gm) cc (seen.push e.born) cc)):=by rw[Bj];exact kc
    have hput:=T0 (v:=.tuple #[.bool true,e.key,e.val]) (x:=.tuple [.bool true,.int k (l.getD i (0,.any)).1,(l.getD i (0,.any)).2]) hr1 k2 (.tuple _ _ rfl (λj hj=>by
     have hj:j=0\/j=1\/j=2:=by simp at hj;omega
     rcases hj with rfl|rfl|rfl
     ·exact .val _ _ (.bool _)
     ·rw[show(#[Value.bool true,e.key,e.val].getD 1 Go.undef)=e.key from rfl,hkey];exact .val _ _ (.int _ _)
     ·exact .val _ _ hval')) hd
    unfold Oper.wp;rw[hrun];exact hmore i (by omega) his _ _ _ _ hput
   rcases hrun with hrun|hrun
   ·refine step w h rfl ?_;simp only[execOp,ho,hv,hty];simp[hrun]
   ·refine step w.drew (OP h) rfl ?_;simp only[execOp,ho,hv,hty];simp[hrun]
 ·rw[h4]at hxm;obtain rfl:r=none:=hxm;subst h7;refine hfalse ?_ (λi hi=>by simp at hn;omega);simp only[execOp,ho,hv];simp[Instr.next,getObj,Sem.run,h2]
theorem WG{id:Nat}{o1 o2:Oper}{K:Exit->St->Prop}{st:St}{n:Nat}{H:List (Nat×Own)}{x t b nm mm len:Nat}{s:List Nat}{nn:Bool}{k:IntKind}{l:List (Int×AV)}(q:RgQ P Γ n H)(live names:List Nat)
  (h1:o1.op = .next (.tmp x) false) (d1:o1.dst=some t) (g1:o1.guard=none) (h2:o2.op = .extract (.tmp t) 0) (d2:o2.dst=some b) (g2:o2.guard=none) (hb:(Nat.blt t n&&(Nat.blt b n&&(Nat.blt nm A7&&Nat.blt mm A7)))=true)
  (hx:st.get x = .optr nm mm) (hit:Ac st.own nm=some (.obj (.miter (.omap mm) len s))) (hm:Ac st.own mm=some (.obj (.map nn k l))) (hlen:len=l.length) (hh:(H.all λx=>Ca x.1 names)=true)
  (hdone:(∀ i,i<len->i∈s)->K .normal (A0 live names ((st.upd (some t) (.tuple [.bool false]) []).upd (some b) (.bool false) [])))
  (hmore:∀ i,i<len->i∉s->K .normal (A0 live names ((st.upd (some t) (.tuple [.bool true,.int k (l.getD i (0,.any)).1,(l.getD i (0,.any)).2]) [(nm,.obj (.miter (.omap mm) len (i::s)))]).upd (some b) (.bool true) []))):Rr P Γ (.region id #[o1,o2] false) K st:=by
 simp only[A2,Gs]at hb;obtain⟨b1,b2,b3,b4⟩:=hb;intro I θ a w hrel;refine wp_region ?_;have hget:∀ t,Rep I st.sto.own θ w (a.tmps.getD t undef) (st.get t):=hrel.slots
 have w1:∀ tm,Region.wanted o1 tm=true:=λtm=>by simp[Region.wanted,g1]
 have w2:∀ tm,Region.wanted o2 tm=true:=λtm=>by simp[Region.wanted,g2]
 have hl:(List.range (#[o1,o2]:Array Oper).size)=[0,1]:=rfl;have hsec:∀(st2:St) (vb:Bool) (r:List AV) (I':Nat->Nat->Prop) (θ':Nat->Option (Nat×Nat)) (a':Act) (w':World),st2.get t = .tuple (.bool vb::r)->Rel Γ st2.sto I' θ' a' w'->K .normal (A0 live names (st2.upd (some b) (.bool vb) []))->
   wpOps P #[o1,o2] (λe a' w'=>∃ st' I' θ',K e st'/\Rel Γ st'.sto I' θ' a' w') [1] a' w':=λst2 vb r I' θ' a' w' hgt hr hK=>by
  rw[wpOps_cons]
  show wpOp P #[o1,o2] _ 1 _ a' w'
  unfold wpOp;simp only[show(#[o1,o2]:Array Oper)[1]?=some o2 from rfl,w2,Ha];refine .inl ?_;have ht:=hr.slots t;rw[show st2.sto.tmp t=st2.get t from rfl,hgt]at ht;obtain⟨vs,hv,hsz,hvr⟩:=ht.tuple_inv;have h0:=hvr 0 (by simp);have h0':vs.getD 0 Go.undef = .bool vb:=Rep.bool_inv h0
  have hpos:0<vs.size:=by rw[hsz];simp
  refine Ak hr (λd hd=>?_) (v:=.bool vb) (x:=.bool vb) ?_ (.val _ _ (.bool _)) _ _ (λI2 θ2 a2 w2 h2=>?_)
  ·rw[d2]at hd;obtain rfl:=OI hd;rw[q.hn];exact b2
  ·simp only[execOp,h2,Act.eval];rw[hv]
   have:vs[0]?=some (.bool vb):=by
    rw[L3,Array.getElem?_eq_getElem hpos,Yz]at h0';rw[Array.getElem?_eq_getElem hpos,h0']
   simp[Instr.extract,this]
  ·refine⟨_,I2,θ2,hK,Qu ?_ (q.hand hh)⟩;rw[BL (ns:=[]) st2 (some b) (.bool vb) [] rfl];rw[d2]at h2;exact h2
 rw[hl,wpOps_cons];unfold wpOp;simp only[show(#[o1,o2]:Array Oper)[0]?=some o1 from rfl,w1,Ha];refine .inl ?_;have hxr:=hget x;rw[hx]at hxr;refine cB hrel (λd hd=>?_) h1 (nm:=nm) (mm:=mm) (n:=len) (s:=s) (nn:=nn) (k:=k) (l:=l) hxr ((Az b3).trans hit) ((Az b4).trans hm) hlen _ _ (λhall I' θ' a' w' hr=>?_) (λi hi hni I' θ' a' w' hr=>?_)
 ·rw[d1]at hd;obtain rfl:=OI hd;rw[q.hn];exact b1
 ·rw[d1,<- BL (ns:=[]) st (some t) (.tuple [.bool false]) [] rfl]at hr;refine hsec _ false [] I' θ' a' w' ?_ hr (hdone hall);simp[St.get,St.upd,Eb]
 ·rw[d1,<- BL (ns:=[nm]) st (some t) _ [(nm,.obj (.miter (.omap mm) len (i::s)))] (by simp[Qk,b3])]at hr;refine hsec _ true [.int k (l.getD i (0,.any)).1,(l.getD i (0,.any)).2] I' θ' a' w' ?_ hr (hmore i hi hni);simp[St.get,St.upd,Eb]
end
def Sw{S X:Type}(f:Nat->S->Option (LR S X))(g:S->Option (LR S X)):List Nat->S->Option X
 | [],s=>match g s with|some (.done x)=>some x|_=>none
 | i::l,s=>match f i s with|some (.next s')=>Sw f g l s'|some (.done x)=>some x|none=>none
open Classical in
open Classical in
def Vl{S X:Type}(eqv:X->X->Prop)(n:Nat)(f:Nat->S->Option (LR S X))(g:S->Option (LR S X))(s:S):Option X:=
 if h:∃ x,∀ τ:List Nat,τ.Perm (List.range n)->∃ x',Sw f g τ s=some x'/\eqv x' x then some (Classical.choose h) else none
theorem Zo{S X:Type}{eqv:X->X->Prop}{n:Nat}{f:Nat->S->Option (LR S X)}{g:S->Option (LR S X)}{s:S}{x:X}(h:Vl eqv n f g s=some x):∀ τ:List Nat,τ.Perm (List.range n)->∃ x',Sw f g τ s=some x'/\eqv x' x:=by
 unfold Vl at h
 split at h
 ·rename_i h0
  obtain rfl:=OI h;exact Classical.choose_spec h0
 ·cases h
theorem XQ{S X:Type}{eqv:X->X->Prop}{n:Nat}{f:Nat->S->Option (LR S X)}{g:S->Option (LR S X)}{s:S}(h:∃ x,∀ τ:List Nat,τ.Perm (List.range n)->∃ x',Sw f g τ s=some x'/\eqv x' x):∃ x,Vl eqv n f g s=some x:=by
 unfold Vl;rw[dif_pos h];exact⟨_,rfl⟩
theorem DT{α:Type}[DecidableEq α]{a b:List α}(ha:a.Nodup)(hb:b.Nodup)(h:∀ x,x∈a↔x∈b):a.Perm b:=by
 refine List.perm_iff_count.2 λx=>?_;rw[ha.count,hb.count];simp only[h x]
section
variable {P:Program} {Γ:Gt}
theorem MF{S X:Type}{body:Code}(Q:X->Prop)(n:Nat)(H:List Nat->S->St)(f:Nat->S->Option (LR S X))(g:S->Option (LR S X))(KX:X->Exit->St->Prop){K:Exit->St->Prop}
  (hb:∀(z:List Nat) (s:S),((∀ i,i<n->i∈z)->∃ y,g s=some y)->(∀ i,i<n->i∉z->∃ y,f i s=some y)->
   Rr P Γ body (λe st=>(∃ y,g s=some y/\Mc Γ (H z) KX y e st/\∀ i,i<n->i∈z)\/∃ i y,f i s=some y/\Mc Γ (H (i::z)) KX y e st/\i<n/\i∉z) (H z s))
  {s:S} (hr:∀ τ:List Nat,τ.Perm (List.range n)->∃ x,Sw f g τ s=some x/\Q x) (hK:∀ x,Q x->∀ e st',KX x e st'->K e st'):Rr P Γ (.loop body) K (H [] s):=by
 intro I θ a w hrel;refine Yt (λm a w=>∃ z s I θ,m=n-z.length/\z.Nodup/\(∀ i∈z,i<n)/\(∀ τ:List Nat,(z++τ).Perm (List.range n)->∃ x,Sw f g τ s=some x/\Q x)/\Rel Γ (H z s).sto I θ a w) (λm a w ⟨z,s,I,θ,hm,hz,hzn,hruns,hrel⟩=>?_) (n:=n-0) ⟨[],s,I,θ,rfl,List.nodup_nil,(λi hi=>by cases hi),(λτ hτ=>hr τ hτ),hrel⟩
 have hall:(∀ i,i<n->i∈z)->(z++[]).Perm (List.range n):=λh=>by
  rw[List.append_nil]
  exact DT hz List.nodup_range λi=>by rw[zzL43];exact⟨hzn i,h i⟩
 have hone:∀ i,i<n->i∉z->∃ τ,(z++i::τ).Perm (List.range n):=λi hi hni=>by
  refine⟨(List.range n).filter λj=>decide (j∉i::z),DT ?_ List.nodup_range λj=>?_⟩
  ·refine List.nodup_append.2 ⟨hz,zzL73.2 ⟨by simp,List.nodup_range.filter _⟩,λp hp q hq hpq=>?_⟩;subst hpq;rcases zzL23.1 hq with rfl|hq
   ·exact hni hp
   ·have:=(zzL64.1 hq).2;simp at this;exact this.2 hp
  ·rw[zzL11,zzL23,zzL64,zzL43]
   constructor
   ·rintro(h|rfl|h)
    ·exact hzn j h
    ·exact hi
    ·exact h.1
   ·intro h
    by_cases h1:j∈z
    ·exact .inl h1
    ·by_cases h2:j=i
     ·exact .inr (.inl h2)
     ·exact .inr (.inr ⟨h,by simp[h1,h2]⟩)
 have hg:(∀ i,i<n->i∈z)->∃ y,g s=some y:=λh=>by
  obtain⟨x,this,_⟩:=hruns [] (hall h);unfold Sw at this
  cases hgs:g s with
  | none=>rw[hgs]at this;cases this
  | some y=>exact⟨y,rfl⟩
 have hf:∀ i,i<n->i∉z->∃ y,f i s=some y:=λi hi hni=>by
  obtain⟨τ,hτ⟩:=hone i hi hni;obtain⟨x,this,_⟩:=hruns _ hτ;unfold Sw at this
  cases hfs:f i s with
  | none=>rw[hfs]at this;cases this
  | some y=>exact⟨y,rfl⟩
 refine Mg (hb z s hg hf I θ a w hrel) λe a' w' ⟨st',I',θ',h1,h2⟩=>?_;rcases h1 with⟨y,hgs,hk,hal⟩|⟨i,y,hfs,hk,hi,hni⟩
 ·obtain⟨x,hx,hQ⟩:=hruns [] (hall hal);unfold Sw at hx;rw[hgs]at hx
  cases y with
  | next s'=>cases hx
  | done x'=>
   obtain rfl:=OI hx;obtain⟨hne,hkx⟩:=hk
   cases e with
   | normal=>exact(hne rfl).elim
   | _=>exact⟨st',I',θ',hK _ hQ _ _ hkx,h2⟩
 ·obtain⟨τ,hτ⟩:=hone i hi hni
  have hlen:z.length<n:=by
   have:=hτ.length_eq;rw[E5,On,Zy]at this;omega
  cases y with
  | next s'=>
   obtain⟨rfl,hle⟩:=hk;obtain⟨I'',θ'',h3⟩:=hle I' θ' a' w' h2;refine⟨n-(i::z).length,by simp only[On];omega,i::z,s',I'',θ'',rfl,zzL73.2 ⟨hni,hz⟩,?_,λρ hρ=>?_,h3⟩
   ·intro j hj;rcases zzL23.1 hj with rfl|hj
    ·exact hi
    ·exact hzn j hj
   ·obtain⟨x,this,hQ⟩:=hruns (i::ρ) (List.Perm.trans List.perm_middle hρ);unfold Sw at this;rw[hfs]at this;exact⟨x,this,hQ⟩
  | done x'=>
   obtain⟨x,hx,hQ⟩:=hruns _ hτ;unfold Sw at hx;rw[hfs]at hx;obtain rfl:=OI hx;obtain⟨hne,hkx⟩:=hk
   cases e with
   | normal=>exact(hne rfl).elim
   | _=>exact⟨st',I',θ',hK _ hQ _ _ hkx,h2⟩
end
theorem fD{V:Type}{f:V->AV}{l:List (Int×V)}{d:Int×V}{i:Nat}{k:IntKind}(h:i<(mapE f l).length):AVle (.tuple [.int k ((mapE f l).getD i (0,.any)).1,((mapE f l).getD i (0,.any)).2]) (.tuple [.int k (l.getD i d).1,f (l.getD i d).2]):=by
 have hl:i<l.length:=by simpa [mapE] using h
 have e:(mapE f l).getD i (0,.any)=((l.getD i d).1,f (l.getD i d).2):=by simp[mapE,List.getD,hl]
 rw[e];exact AVle.refl _
section
variable {P:Program} {Γ:Gt}
def AQ(P:Program)(Γ:Gt)(body:Code)(K:Exit->St->Prop):Nat->St->Prop
 | 0,_=>False
 | n+1,st=>Rr P Γ body (λe st'=>(e = .normal/\AQ P Γ body K n st')\/(e≠.normal/\K e st')) st
theorem RA{body:Code}{K:Exit->St->Prop}{st:St}(n:Nat)(h:AQ P Γ body K n st):Rr P Γ (.loop body) K st:=by
 intro I θ a w hrel;refine Yt (λm a w=>∃ st I θ,AQ P Γ body K m st/\Rel Γ st.sto I θ a w) (λm a w ⟨st,I,θ,hu,hrel⟩=>?_) (n:=n) ⟨st,I,θ,h,hrel⟩
 cases m with
 | zero=>exact hu.elim
 | succ m=>
  refine Mg (hu I θ a w hrel) λe a' w' ⟨st',I',θ',h1,h2⟩=>?_;rcases h1 with⟨rfl,h1⟩|⟨hne,h1⟩
  ·exact⟨m,Nat.lt_succ_self m,st',I',θ',h1,h2⟩
  ·cases e with
   | normal=>exact(hne rfl).elim
   | _=>exact⟨st',I',θ',h1,h2⟩
end
inductive di where
 | nx (y:Code)
 | bl (id:Nat)
 | ag (c:Code) (n:Nat)
inductive Jy where
 | run (c:Code) (fs:List di)
 | out (e:Exit) (fs:List di)
def de(P:Program)(Γ:Gt)(K:Exit->St->Prop):List di->Exit->St->Prop
 | []=>K
 | .nx y::fs=>gw P Γ y (de P Γ K fs)
 | .bl id::fs=>Xx id (de P Γ K fs)
 | .ag c n::fs=>λe st=>(e = .normal/\AQ P Γ c (de P Γ K fs) n st)\/(e≠.normal/\de P Γ K fs e st)
def GG(P:Program)(Γ:Gt)(K:Exit->St->Prop):Jy->St->Prop
 | .run c fs,st=>Rr P Γ c (de P Γ K fs) st
 | .out e fs,st=>de P Γ K fs e st
def R9:Code->Nat->Nat
 | .exit i,k=>bif Nat.beq i k then 1 else 0
 | .seq a b,k=>Nat.min 2 (R9 a k+R9 b k)
 | .cond _ a b,k=>Nat.min 2 (R9 a k+R9 b k)
 | .loop c,k=>Nat.min 1 (R9 c k)
 | .scope c,k=>Nat.min 1 (R9 c k)
 | .block _ c,k=>R9 c k
 | _,_=>0
def Nc:Code->Nat
 | .region _ _ _=>1
 | .skip=>1
 | .label _=>1
 | .seq a b=>bif Nat.beq (Nc a) 0 then 0 else Nc b
 | .cond _ a b=>Nat.min 2 (Nc a+Nc b)
 | .block i c=>Nat.min 2 (Nc c+R9 c i)
 | .scope c=>Nat.min 2 (Nc c)
 | _=>0
def ba(a:Code):Bool:=match a with | .region _ _ _=>false|a=>Nat.ble 2 (Nc a)
def DC:Nat->Code ⊕ Exit->List di->Jy
 | 0,.inl c,fs=>.run c fs
 | 0,.inr e,fs=>.out e fs
 | n+1,.inl c,fs=>
  match c with
  | .skip=>DC n (.inr .normal) fs
  | .label _=>DC n (.inr .normal) fs
  | .seq a b=>bif ba a then .run (.seq a b) fs else DC n (.inl a) (.nx b::fs)
  | .block id a=>DC n (.inl a) (.bl id::fs)
  | .exit id=>DC n (.inr (.exit id)) fs
  | .goto l=>DC n (.inr (.goto l)) fs
  | .ret=>DC n (.inr .ret) fs
  | c=>.run c fs
 | n+1,.inr e,fs=>
  match fs with
  | []=>.out e []
  | .nx y::fs=>(match e with | .normal=>DC n (.inl y) fs|e=>DC n (.inr e) fs)
  | .bl id::fs=>(match e with | .exit i=>bif Nat.beq i id then DC n (.inr .normal) fs else DC n (.inr (.exit i)) fs|e=>DC n (.inr e) fs)
  | .ag c m::fs=>(match e with | .normal=>(match m with|0=>.out .normal (.ag c 0::fs)|m+1=>DC n (.inl c) (.ag c m::fs))|e=>DC n (.inr e) fs)
section
variable {P:Program} {Γ:Gt} {K:Exit->St->Prop}
theorem Bl:∀(n:Nat) (x:Code ⊕ Exit) (fs:List di) (st:St),GG P Γ K (DC n x fs) st->(match x with | .inl c=>Rr P Γ c (de P Γ K fs) st | .inr e=>de P Γ K fs e st)
 | 0,.inl c,fs,st,h=>h
 | 0,.inr e,fs,st,h=>h
 | n+1,.inl c,fs,st,h=>by
  cases c with
  | skip=>exact ak (Bl n _ fs st h)
  | label l=>exact WF (Bl n _ fs st h)
  | seq a b=>
   cases hj:ba a with
   | true=>simp only[DC,hj]at h;exact h
   | false=>simp only[DC,hj]at h;exact JO (Bl n (.inl a) _ st h)
  | block id a=>exact WE (Bl n (.inl a) _ st h)
  | exit id=>exact af (Bl n _ fs st h)
  | goto l=>exact ah (Bl n _ fs st h)
  | ret=>exact eD (Bl n (.inr .ret) fs st h)
  | _=>exact h
 | n+1,.inr e,[],st,h=>h
 | n+1,.inr e,.nx y::fs,st,h=>by
  cases e with
  | normal=>exact Bl n (.inl y) fs st h
  | exit i=>exact Bl n _ fs st h
  | goto l=>exact Bl n _ fs st h
  | ret=>exact Bl n (.inr .ret) fs st h
  | panic c=>exact Bl n _ fs st h
  | outgrown=>exact Bl n _ fs st h
 | n+1,.inr e,.bl id::fs,st,h=>by
  cases e with
  | normal=>exact Bl n _ fs st h
  | exit i=>
   cases hb:Nat.beq i id with
   | true=>
    obtain rfl:=Bs hb;simp only[DC,hb]at h;exact RC (Bl n _ fs st h)
   | false=>
    simp only[DC,hb]at h;exact RB hb (Bl n _ fs st h)
  | goto l=>exact Bl n _ fs st h
  | ret=>exact Bl n (.inr .ret) fs st h
  | panic c=>exact Bl n _ fs st h
  | outgrown=>exact Bl n _ fs st h
 | n+1,.inr e,.ag c m::fs,st,h=>by
  cases e with
  | normal=>
   cases m with
   | zero=>exact h
   | succ m=>exact .inl ⟨rfl,Bl n (.inl c) _ st h⟩
  | exit i=>exact .inr ⟨(by intro hh;cases hh),Bl n _ fs st h⟩
  | goto l=>exact .inr ⟨(by intro hh;cases hh),Bl n _ fs st h⟩
  | ret=>exact .inr ⟨(by intro hh;cases hh),Bl n (.inr .ret) fs st h⟩
  | panic ch=>exact .inr ⟨(by intro hh;cases hh),Bl n _ fs st h⟩
  | outgrown=>exact .inr ⟨(by intro hh;cases hh),Bl n _ fs st h⟩
theorem Ht{n:Nat}{c:Code}{fs:List di}{st:St}(h:GG P Γ K (DC n (.inl c) fs) st):Rr P Γ c (de P Γ K fs) st:=Bl n _ fs st h
theorem Sj{n:Nat}{e:Exit}{fs:List di}{st:St}(h:GG P Γ K (DC n (.inr e) fs) st):de P Γ K fs e st:=Bl n _ fs st h
def ee(c:Code)(fs:List di):Jy:=DC 400 (.inl c) fs
def lv(e:Exit)(fs:List di):Jy:=DC 400 (.inr e) fs
def fH:Jy->Jy
 | .run _ fs=>lv .normal fs
 | x=>x
def fO:Jy->Option (List Oper×Bool)
 | .run (.region _ ops draw) _=>some (ops.toList,draw)
 | _=>none
def dc(P:Program)(S:V1)(n:Nat)(cs:List (Nat×AV))(live names:List Nat)(x:Jy)(st:St)(rs:List R0):Option (St×List Prop×Bool):=
 match fO x with
 | some (ops,draw)=>AU P S n cs live names ops draw st rs
 | none=>none
def fI(P:Program)(S:V1)(n:Nat)(cs:List (Nat×AV))(live names:List Nat)(x:Jy)(st:St)(rs:List R0):St:=
 match dc P S n cs live names x st rs with
 | some r=>r.1
 | none=>st
def df(r:Option (St×List Prop×Bool)):Option (Prop×Bool):=
 match r with
 | some r=>some (MN r.2.1,r.2.2)
 | none=>none
theorem gR{x:Jy}{st:St}{n:Nat}{H:List (Nat×Own)}(q:RgQ P Γ n H)(live names:List Nat)(cs:List (Nat×AV))(rs:List R0){O:Prop}(hO:O)
  (k:GG P Γ K (fH x) (fI P (Spec P) n cs live names x st rs))
  (h:df (dc P (Spec P) n cs live names x st rs)=some (O,true):=by kernel_rfl) (hh:(H.all λx=>Ca x.1 names)=true:=by kernel_rfl):GG P Γ K x st:=by
 unfold dc at h;unfold fI dc at k
 cases x with
 | out e fs=>simp[fO,df]at h
 | run c fs=>
  cases c with
  | region id ops draw=>
   simp only[fO]at h k
   cases hr:AU P _ n cs _ _ _ _ st rs with
   | none=>rw[hr]at h;simp[df]at h
   | some r=>
    obtain⟨st',obs,d⟩:=r;rw[hr]at h k;obtain⟨rfl,rfl⟩:=h;have:=QZ (id:=id)  q.hn q.mix (q.hand hh) hr hO (Sj k);exact(by simpa using this:Rr P Γ _ _ st)
  | _=>simp[fO,df]at h
theorem Ap{x:Jy}{st:St}{n:Nat}{H:List (Nat×Own)}(q:RgQ P Γ n H)(live names:List Nat)
  (k:GG P Γ K (fH x) (fI P (Spec P) n [] live names x st []))
  (h:df (dc P (Spec P) n [] live names x st [])=some (True,true):=by kernel_rfl) (hh:(H.all λx=>Ca x.1 names)=true:=by kernel_rfl):GG P Γ K x st:=gR q _ _ [] [] trivial k h hh
def gb:Jy->Bool | .run _ _=>true|_=>false
theorem Mz{x:Jy}{st st':St}(h:Le Γ st st')
  (k:GG P Γ K x st')
  (hx:gb x=true:=by kernel_rfl):GG P Γ K x st:=by
 cases x with
 | run c fs=>exact QY h k
 | out e fs=>cases hx
theorem Tn{x:Jy}{st:St}(st':St)
  (k:GG P Γ K x st')
  (h:st=st':=by kernel_rfl):GG P Γ K x st:=h▸k
def gM(x:Jy)(st:St):AV:=match x with | .run (.cond c _ _) _=>RJ st.get c|_=>.any
def ls(b:Bool):Jy->Jy
 | .run (.cond _ c d) fs=>ee (bif b then c else d) fs
 | x=>x
theorem gC{x:Jy}{st:St}{R:Type}{b:Bool}{m1 m2:Option R}{r:R}(h:(bif b then m1 else m2)=some r)
  (kt:m1=some r->GG P Γ K (ls true x) st) (kf:m2=some r->GG P Γ K (ls false x) st)
  (hv:gM x st = .bool b:=by kernel_rfl):GG P Γ K x st:=by
 cases x with
 | out e fs=>cases hv
 | run c fs=>
  cases c with
  | cond c y z=>
   refine ME b hv (λhb=>Ht  (kt ?_)) (λhb=>Ht  (kf ?_))
   ·subst hb;exact h
   ·subst hb;exact h
  | _=>cases hv
theorem WX{x:Jy}{st:St}(b:Bool)
  (k:GG P Γ K (ls b x) st)
  (hv:gM x st = .bool b:=by kernel_rfl):GG P Γ K x st:=by
 cases x with
 | out e fs=>cases hv
 | run c fs=>
  cases c with
  | cond c y z=>
   refine ME b hv (λhb=>Ht (n:=400) ?_) (λhb=>Ht (n:=400) ?_)
   ·subst hb;exact k
   ·subst hb;exact k
  | _=>cases hv
theorem lt1{P:Nat->Prop}(h0:P 0)(i:Nat)(h:i<1):P i:=by
 grind
theorem lt2{P:Nat->Prop}(h0:P 0)(h1:P 1)(i:Nat)(h:i<2):P i:=by
 grind
theorem rk(o:Own):some o=some o:=rfl
theorem gK{x:Jy}{st:St}{e:Exit}(h:K e st)(hx:x = .out e []:=by kernel_rfl):GG P Γ K x st:=by subst hx;exact h
def aG(Γ:Gt)(e0:Exit)(og:St):Exit->St->Prop:=λe st=>e=e0/\Le Γ st og
def aR(K:Exit->St->Prop):Exit->St->Prop:=λe st=>e = .ret/\K e st
theorem Ea{e0:Exit}{og st:St}(h:Le Γ st og):aG Γ e0 og e0 st:=⟨rfl,h⟩
theorem R3{st:St}(h:K .ret st):aR K .ret st:=⟨rfl,h⟩
def m8:Exit->Bool | .normal=>true|_=>false
theorem gN{S X:Type}{x:Jy}{st:St}{H:S->St}{KX:X->Exit->St->Prop}{s':S}(h:Le Γ st (H s'))(hx:x = .out .normal []:=by kernel_rfl):GG P Γ (Mc Γ H KX (.next s')) x st:=by
 subst hx;exact⟨rfl,h⟩
theorem gO{S X:Type}{x:Jy}{st:St}{H:S->St}{KX:X->Exit->St->Prop}{y:X}{e:Exit}(h:KX y e st)(hx:x = .out e []:=by kernel_rfl)(hn:m8 e=false:=by kernel_rfl):GG P Γ (Mc Γ H KX (.done y)) x st:=by
 subst hx;exact⟨(by rintro rfl;cases hn),h⟩
def fK(P:Program)(Γ:Gt)(rs:List ResultVar)(H:List (Nat×Own))(res:AV)(H':List (Nat×Own)):Exit->St->Prop:=mc Γ (kM P rs H res H')
theorem K0{rs:List ResultVar}{H H':List (Nat×Own)}{res:AV}{st st':St}{e:Exit}(ρ:List (Nat×Nat))(hl:Le Γ st st')(hr:UZ P rs ρ H st'=some (res,H'):=by kernel_rfl)
  (he:(match e with | .ret=>true | .normal=>true|_=>false)=true:=by kernel_rfl):fK P Γ rs H res H' e st:=by
 refine⟨st',hl,?_,ρ,hr⟩
 cases e with
 | ret=>exact .inl rfl
 | normal=>exact .inr rfl
 | _=>cases he
theorem C1{rs:List ResultVar}{H H':List (Nat×Own)}{res:AV}{x:Jy}{st:St}(ρ:List (Nat×Nat))(hr:UZ P rs ρ H st=some (res,H'):=by kernel_rfl)
  (hx:x = .out .ret []:=by kernel_rfl):GG P Γ (fK P Γ rs H res H') x st:=gK  (K0 ρ (Le.refl _ _) hr) hx
def JP(fn:Func):Code:=match fn.body with|some c=>c|none=>.skip
theorem Yp {f : FuncId} {fn : Func} {args : List AV} {H H' : List (Nat × Own)} {res : AV} (hm : P.follows .mixedOrders = true) (hf : P.funcs[f]? = some fn)
    (k : ∀ Γ : Gt, RgQ P Γ fn.ntmps H → GG P Γ (fK P Γ fn.results.toList H res H') (ee (JP fn) []) (X2 args H))
    (hb : fn.body.isSome = true := by kernel_rfl) (hname : (fn.name == "runtime.NumGoroutine") = false := by kernel_rfl) (hlen : Nat.ble args.length fn.ntmps = true := by kernel_rfl) (hpl : DU H = true := by kernel_rfl) : Spec P f args H res H' := by
  obtain ⟨c, hc⟩ := zzL72.1 hb
  have e : JP fn = c := by unfold JP; rw [hc]
  refine PB hf hc hname hlen (fun Γ hn hΓ => ?_) hpl; have := k Γ ⟨hn, hm, hΓ⟩; rw [e] at this; exact iL (Ht this)
theorem bg{st st':St}(h:st=st'):Le Γ st st':=h▸Le.refl Γ st
def RO:Jy->Bool | .run (.loop _) _=>true|_=>false
def gH:Jy->Jy
 | .run (.loop c) _=>ee c []
 | x=>x
def cK(e:Exit):Jy->Jy
 | .run _ fs=>lv e fs
 | x=>x
def kJ{α:Type}(k:Nat)(x:α):List (Nat×α)->List (Nat×α)
 | []=>[(k,x)]
 | (k',y)::l=>bif Nat.beq k k' then(k,x)::l else bif Nat.blt k k' then(k,x)::(k',y)::l else(k',y)::kJ k x l
def fS{α:Type}:List (Nat×α)->List (Nat×α)->List (Nat×α)
 | [],l=>l
 | (k,x)::r,l=>fS r (kJ k x l)
def Fo(st:St)(ts:List (Nat×AV))(os:List (Nat×Own))(fs:List (Nat×YK):=[]):St:=⟨fS ts st.tmps,fS os st.own,fS fs st.fam⟩
def Xt(live names:List Nat)(st:St)(ts:List (Nat×AV))(os:List (Nat×Own))(fs:List (Nat×YK):=[]):St:=A0 live names (Fo st ts os fs)
theorem gL{S X:Type}{x:Jy}{st:St}{n:Nat}{Hf:List (Nat×Own)}(q:RgQ P Γ n Hf){f:S->Option (LR S X)}{s0:S}{y:X}(hx:Ai f s0=some y)(live names:List Nat)(H:St->S->St)(KX:St->X->Exit->St->Prop)
  (kb:∀ s y,f s=some y->GG P Γ (Mc Γ (H (A0 live names st)) (KX (A0 live names st)) y) (gH x) (H (A0 live names st) s)) (ko:∀ e st',KX (A0 live names st) y e st'->GG P Γ K (cK e x) st')
  (h0:A0 live names st=H (A0 live names st) s0:=by kernel_rfl) (hl:RO x=true:=by kernel_rfl) (hh:(Hf.all λx=>Ca x.1 names)=true:=by kernel_rfl):GG P Γ K x st:=by
 cases x with
 | out e fs=>cases hl
 | run c fs=>
  cases c with
  | loop c=>
   refine QY  ?_ (aj _ f _ (λs y hy=>Ht (kb s y hy)) hx λe st' hk=>Sj (ko e st' hk));rw[<- h0];exact Dv _ _ q rfl hh
  | _=>cases hl
theorem gA{x:Jy}{f:Exit->Jy->Jy}{e0:Exit}{og:St}
  (k:GG P Γ K (f e0 x) og)
  (hr:gb (f e0 x)=true:=by kernel_rfl):∀ e st',aG Γ e0 og e st'->GG P Γ K (f e x) st':=by
 rintro e st' ⟨rfl,hl⟩;exact Mz hl k hr
theorem gX{x:Jy}{f:Exit->Jy->Jy}{e0:Exit}{og:St}(k:∀ st',Le Γ st' og->GG P Γ K (f e0 x) st'):∀ e st',aG Γ e0 og e st'->GG P Γ K (f e x) st':=by
 rintro e st' ⟨rfl,hl⟩;exact k st' hl
theorem Vx{x:Jy}{f:Exit->Jy->Jy}{K':Exit->St->Prop}(k:∀ st',K' .ret st'->GG P Γ K (f .ret x) st'):∀ e st',aR K' e st'->GG P Γ K (f e x) st':=by
 rintro e st' ⟨rfl,hl⟩;exact k st' hl
theorem gU{x:Jy}{st:St}(n:Nat)
  (k:GG P Γ K (match x with | .run (.loop c) fs=>ee c (.ag c n::fs)|x=>x) st)
  (hl:RO x=true:=by kernel_rfl):GG P Γ K x st:=by
 cases x with
 | out e fs=>cases hl
 | run c fs=>
  cases c with
  | loop c=>exact RA (n+1) (Ht k)
  | _=>cases hl
def kC:Jy->Bool | .run (.seq _ _) _=>true|_=>false
def kA:Jy->Jy
 | .run (.seq a _) _=>ee a []
 | x=>x
def kL(e:Exit):Jy->Jy
 | .run (.seq _ b) fs=>lv e (.nx b::fs)
 | x=>x
theorem gJ{X:Type}{x:Jy}{st:St}{m:Option X}{y:X}(hx:m=some y)(KX:X->Exit->St->Prop)
  (kb:∀ y,m=some y->GG P Γ (KX y) (kA x) st) (ko:∀ e st',KX y e st'->GG P Γ K (kL e x) st')
  (hs:kC x=true:=by kernel_rfl):GG P Γ K x st:=by
 cases x with
 | out e fs=>cases hs
 | run c fs=>
  cases c with
  | seq a b=>exact JO (ai KX hx (λy hy=>Ht (kb y hy)) λe st' hk=>Sj (ko e st' hk))
  | _=>cases hs
def eh:Jy->Bool | .run (.scope _) _=>true|_=>false
def kT:Jy->Code | .run (.scope c) _=>c|_=>.skip
def kD(c:Code)(l:Nat):Jy:=ee ((findLabel c l).getD .skip) []
theorem gS{S X:Type}{x:Jy}{st:St}{f0:Option (LR S X)}{f:S->Option (LR S X)}{y:X}(hx:O5 f0 f=some y)(lab:S->Nat)(H:S->St)(KX:X->Exit->St->Prop)
  (k0:∀ y,f0=some y->GG P Γ (CQ Γ (kT x) lab H KX y) (ee (kT x) []) st) (kb:∀ s y,f s=some y->GG P Γ (CQ Γ (kT x) lab H KX y) (kD (kT x) (lab s)) (H s)) (ko:∀ e st',KX y e st'->GG P Γ K (cK e x) st')
  (hs:eh x=true:=by kernel_rfl):GG P Γ K x st:=by
 cases x with
 | out e fs=>cases hs
 | run c fs=>
  cases c with
  | scope c=>
   refine WH lab H f0 f KX (λy hy=>Ht (k0 y hy)) (λs y rest hf hy=>?_) hx λe st' hk=>Sj (ko e st' hk);have:=kb s y hy;unfold kD kT at this;rw[hf]at this;exact Ht this
  | _=>cases hs
theorem eZ{S X:Type}{x:Jy}{st:St}{c:Code}{lab:S->Nat}{H:S->St}{KX:X->Exit->St->Prop}{s':S}(h:Le Γ st (H s'))(hx:x = .out (.goto (lab s')) []:=by kernel_rfl)(hf:(findLabel c (lab s')).isSome=true:=by kernel_rfl) :
  GG P Γ (CQ Γ c lab H KX (.next s')) x st:=by
 subst hx;exact⟨rfl,hf,h⟩
theorem gY{S X:Type}{x:Jy}{st:St}{c:Code}{lab:S->Nat}{H:S->St}{KX:X->Exit->St->Prop}{y:X}{e:Exit}(h:KX y e st)(hx:x = .out e []:=by kernel_rfl)
  (hf:(match e with | .goto l=>(findLabel c l).isNone|_=>true)=true:=by kernel_rfl):GG P Γ (CQ Γ c lab H KX (.done y)) x st:=by
 subst hx;refine⟨?_,h⟩;rintro l rfl
 simpa using hf
theorem Sf{α:Type}{st:St}(U:α->St->St){a b:α}(h:a=b)(h1:st=U a st:=by kernel_rfl):Le Γ st (U b st):=by subst h;exact bg h1
theorem lz{st:St}(F F':Bool->St->St)(g:Bool)(h1:st=F g st:=by kernel_rfl)(ht:F true st=F' true st:=by kernel_rfl)(hf:F false st=F' false st:=by kernel_rfl):Le Γ st (F' g st):=by
 refine bg (h1.trans ?_)
 cases g<;>assumption
def Own.withF(g:Nat->List AV):Own->Own
 | .arr sz e n _=>.arr sz e n g
 | o=>o
def gG(st:St)(nm:Nat):Option (Nat×(Nat->List AV)):=match Ac st.own nm with|some (.arr _ _ n f)=>some (n,f)|_=>none
def kV(nm:Nat)(g:Nat->List AV)(st:St):St:=⟨st.tmps,(match Ac st.own nm with|some o=>Cl st.own nm (o.withF g)|none=>st.own),st.fam⟩
theorem DQ{nm sz n:Nat}{e:TypeId}{f g:Nat->List AV}(hp:∀ k,k<n->AVleL (f k) (g k)):∀{l:List (Nat×Own)},Ac l nm=some (.arr sz e n f)->OwnsLe l (Cl l nm (.arr sz e n g))
 | [],h=>by cases h
 | (k,o)::l,h=>by
  simp only[Ac]at h;simp only[Cl]
  cases hb:Nat.beq k nm with
  | true=>
   obtain rfl:=Bs hb;rw[hb]at h;simp only[Ae,Af]at h;subst h;exact .arr hp (.refl _)
  | false=>
   rw[hb]at h;exact .same (DQ hp h)
theorem Wh{st:St}(nm:Nat){n:Nat}{f g:Nat->List AV}(hp:∀ k,k<n->AVleL (f k) (g k))(h:gG st nm=some (n,f):=by kernel_rfl):Le Γ st (kV nm g st):=by
 unfold gG at h;unfold kV
 cases ho:Ac _ nm with
 | none=>rw[ho]at h;cases h
 | some o=>
  rw[ho]at h
  cases o with
  | arr sz e n' f'=>
   obtain⟨rfl,rfl⟩:=h;exact Kg (TmpsLe.refl _) (DQ hp ho)
  | _=>cases h
def bC(st:St)(nm j:Nat):Option AV:=match Ac st.own nm with|some (.row _ cells)=>cells[j]? | _=>none
def Own.withC(j:Nat)(x:AV):Own->Own
 | .row e cells=>.row e (cells.set j x)
 | o=>o
def kU(nm j:Nat)(x:AV)(st:St):St:=⟨st.tmps,(match Ac st.own nm with|some o=>Cl st.own nm (o.withC j x)|none=>st.own),st.fam⟩
theorem UM{a b:AV}(h:AVle a b):∀{l:List AV} {j:Nat},l[j]?=some a->AVleL l (l.set j b)
 | [],j,h=>by simp at h
 | x::l,0,h'=>by
  simp only[List.getElem?_cons_zero,Af]at h';subst h';exact .cons h (.refl _)
 | x::l,j+1,h'=>by
  exact .cons (.refl _) (UM h h')
theorem DR{nm:Nat}{e:TypeId}{x y:List AV}(hp:AVleL x y):∀{l:List (Nat×Own)},Ac l nm=some (.row e x)->OwnsLe l (Cl l nm (.row e y))
 | [],h=>by cases h
 | (k,o)::l,h=>by
  simp only[Ac]at h;simp only[Cl]
  cases hb:Nat.beq k nm with
  | true=>
   obtain rfl:=Bs hb;rw[hb]at h;simp only[Ae,Af]at h;subst h;exact .row hp (.refl _)
  | false=>
   rw[hb]at h;exact .same (DR hp h)
theorem ek{st:St}(nm j:Nat){a b:AV}(hp:AVle a b)(h:bC st nm j=some a:=by kernel_rfl):Le Γ st (kU nm j b st):=by
 unfold bC at h;unfold kU
 cases ho:Ac _ nm with
 | none=>rw[ho]at h;cases h
 | some o=>
  rw[ho]at h
  cases o with
  | row e cells=>exact Kg (TmpsLe.refl _) (DR (UM hp h) ho)
  | _=>cases h
theorem XO{V:Type}:HO ([]:List (Int×V)) []:=⟨.nil,List.nodup_nil⟩
def gt(nm:Nat)(x:AObj)(st:St):St:=⟨st.tmps,Cl st.own nm (.obj x),st.fam⟩
theorem mf{V:Type}{st:St}(nm:Nat)(nn:Bool)(k:IntKind){f:V->AV}{a b:List (Int×V)}(hp:HO a b)(h:Ac st.own nm=some (.obj (.map nn k (mapE f a))):=by kernel_rfl)(hlt:Nat.blt nm A7=true:=by kernel_rfl):Le Γ st (gt nm (.pmap nn k (mapE f b)) st):=
 KC _ h (λ_ _ _ _ h=>RY hp h) hlt
theorem m9{st:St}(nm:Nat)(k:IntKind)(l:List (Int×AV))(h:Ac st.own nm=some (.obj (.pmap true k l)):=by kernel_rfl)(hlt:Nat.blt nm A7=true:=by kernel_rfl):Le Γ st (gt nm (.pmap false k l) st):=
 KC _ h (λ_ _ _ _ h=>XL h) hlt
theorem gI(g:Bool):g=true->g=true:=id
theorem L8(c:Bool):c=true->(c==true)=true:=gT
theorem Ua(c:Bool):c=false->(c==false)=true:=gF
theorem Cp{α:Type}(sz:Nat)(e:α->List AV)(d:α)(l:List α):AVle (.slice sz l.length (λi=>(l.map e).getD i []) .exact) (AV.list sz e d l .exact):=iK rfl λi h=>ez l i h
theorem Ir{α:Type}(sz:Nat)(e:α->List AV)(d:α):AVle (.slice 0 0 (λ_=>[]) .exact) (AV.list sz e d [] .exact):=El
theorem V4{α:Type}(sz nm:Nat)(e:α->List AV)(d:α)(l m:List α):AVle (.slice sz (l.length+m.length) (Jc l.length (λi=>e (l.getD i d)) (λi=>e (m.getD i d))) (.own nm)) (AV.list sz e d (l++m) (.own nm)):=iJ
def bn(x:Jy)(ix tx bx:Nat):Bool:=
 match x with
 | .run (.loop (.seq (.region _ ops false) _)) _=>
  match ops.toList with
  | [o1,o2]=>
   (match o1.op,o2.op with | .next (.tmp a) false,.extract (.tmp b) 0=>Nat.beq a ix&&Nat.beq b tx|_,_=>false) &&
   (match o1.dst,o2.dst,o1.guard,o2.guard with|some a,some b,none,none=>Nat.beq a tx&&Nat.beq b bx|_,_,_,_=>false)
  | _=>false
 | _=>false
def BC:Jy->Jy
 | .run (.loop (.seq _ c)) _=>ee c []
 | x=>x
theorem mz{S X:Type}{x:Jy}{st:St}{n:Nat}{Hf:List (Nat×Own)}(q:RgQ P Γ n Hf){len:Nat}{f:Nat->S->Option (LR S X)}{g:S->Option (LR S X)}{s0:S}(Q:X->Prop)(hx:∀ τ:List Nat,τ.Perm (List.range len)->∃ x,Sw f g τ s0=some x/\Q x)(live names:List Nat)(H:St->List Nat->S->St)(KX:St->X->Exit->St->Prop)
  (ix tx bx nm mm:Nat) (nn:Bool) (km:IntKind) (l:List (Int×AV)) (lv2 nm2:List Nat)
  (h0:A0 live names st=H (A0 live names st) [] s0:=by kernel_rfl) (hc:bn x ix tx bx=true:=by kernel_rfl) (hb:(Nat.blt tx n&&(Nat.blt bx n&&(Nat.blt nm A7&&Nat.blt mm A7)))=true:=by kernel_rfl)
  (hit:(λz s=>(H (A0 live names st) z s).get ix)=(λ_ _=>AV.optr nm mm):=by kernel_rfl) (hmi:(λz s=>Ac (H (A0 live names st) z s).own nm)=(λz _=>some (.obj (.miter (.omap mm) len z))):=by kernel_rfl)
  (hma:(λz s=>Ac (H (A0 live names st) z s).own mm)=(λ_ _=>some (.obj (.map nn km l))):=by kernel_rfl) (hlen:len=l.length:=by kernel_rfl) (hh:(Hf.all λx=>Ca x.1 names)=true:=by kernel_rfl) (hh2:(Hf.all λx=>Ca x.1 nm2)=true:=by kernel_rfl)
  (kd:∀ z s y,g s=some y->(∀ i,i<len->i∈z)->GG P Γ (Mc Γ (H (A0 live names st) z) (KX (A0 live names st)) y) (BC x) (A0 lv2 nm2 (((H (A0 live names st) z s).upd (some tx) (.tuple [.bool false]) []).upd (some bx) (.bool false) [])))
  (kn:∀ z s i y,f i s=some y->i<len->i∉z->GG P Γ (Mc Γ (H (A0 live names st) (i::z)) (KX (A0 live names st)) y) (BC x)
   (A0 lv2 nm2 (((H (A0 live names st) z s).upd (some tx) (.tuple [.bool true,.int km (l.getD i (0,.any)).1,(l.getD i (0,.any)).2]) [(nm,.obj (.miter (.omap mm) len (i::z)))]).upd (some bx) (.bool true) [])))
  (ko:∀ y,Q y->∀ e st',KX (A0 live names st) y e st'->GG P Γ K (cK e x) st'):GG P Γ K x st:=by
 unfold bn at hc
 split at hc
 ·rename_i id ops rest fs
  split at hc
  ·rename_i o1 o2 hops
   obtain rfl:ops = #[o1,o2]:=by grind
   simp only[A2]at hc;obtain⟨c1,c2⟩:=hc
   split at c1
   ·rename_i a b e1 e2
    split at c2
    ·rename_i a' b' e3 e4 e5 e6
     simp only[A2]at c1 c2;obtain rfl:=Bs c1.1;obtain rfl:=Bs c1.2;obtain rfl:=Bs c2.1;obtain rfl:=Bs c2.2;refine QY  ?_ (MF Q len (H (A0 live names st)) f g _ (λz s hg hf=>?_) hx λy hy e st' hk=>Sj (ko y hy e st' hk))
     ·rw[<- h0];exact Dv _ _ q rfl hh
     refine JO (WG q lv2 nm2 e1 e3 e5 e2 e4 e6 hb (congrFun (congrFun hit z) s) (congrFun (congrFun hmi z) s) (congrFun (congrFun hma z) s) hlen hh2 (λhall=>?_) (λi hi hn=>?_))
     ·obtain⟨y,h⟩:=hg hall;exact BX (Ht (kd z s y h hall)) (λe st' hk=>.inl ⟨y,h,hk,hall⟩)
     ·obtain⟨y,h⟩:=hf i hi hn;exact BX (Ht (kn z s i y h hi hn)) (λe st' hk=>.inr ⟨i,y,h,hk,hi,hn⟩)
    ·cases c2
   ·cases c1
  ·cases hc
 ·cases hc
theorem my{S X:Type}{x:Jy}{st:St}{n:Nat}{Hf:List (Nat×Own)}(q:RgQ P Γ n Hf){len:Nat}{f:Nat->S->Option (LR S X)}{g:S->Option (LR S X)}{s0:S}{eqv:X->X->Prop}{y:X}(hx:Vl eqv len f g s0=some y)(live names:List Nat)(H:St->List Nat->S->St)(KX:St->X->Exit->St->Prop)
  (ix tx bx nm mm:Nat) (nn:Bool) (km:IntKind) (l:List (Int×AV)) (lv2 nm2:List Nat)
  (h0:A0 live names st=H (A0 live names st) [] s0:=by kernel_rfl) (hc:bn x ix tx bx=true:=by kernel_rfl) (hb:(Nat.blt tx n&&(Nat.blt bx n&&(Nat.blt nm A7&&Nat.blt mm A7)))=true:=by kernel_rfl)
  (hit:(λz s=>(H (A0 live names st) z s).get ix)=(λ_ _=>AV.optr nm mm):=by kernel_rfl) (hmi:(λz s=>Ac (H (A0 live names st) z s).own nm)=(λz _=>some (.obj (.miter (.omap mm) len z))):=by kernel_rfl)
  (hma:(λz s=>Ac (H (A0 live names st) z s).own mm)=(λ_ _=>some (.obj (.map nn km l))):=by kernel_rfl) (hlen:len=l.length:=by kernel_rfl) (hh:(Hf.all λx=>Ca x.1 names)=true:=by kernel_rfl) (hh2:(Hf.all λx=>Ca x.1 nm2)=true:=by kernel_rfl)
  (kd:∀ z s y,g s=some y->(∀ i,i<len->i∈z)->GG P Γ (Mc Γ (H (A0 live names st) z) (KX (A0 live names st)) y) (BC x) (A0 lv2 nm2 (((H (A0 live names st) z s).upd (some tx) (.tuple [.bool false]) []).upd (some bx) (.bool false) [])))
  (kn:∀ z s i y,f i s=some y->i<len->i∉z->GG P Γ (Mc Γ (H (A0 live names st) (i::z)) (KX (A0 live names st)) y) (BC x)
   (A0 lv2 nm2 (((H (A0 live names st) z s).upd (some tx) (.tuple [.bool true,.int km (l.getD i (0,.any)).1,(l.getD i (0,.any)).2]) [(nm,.obj (.miter (.omap mm) len (i::z)))]).upd (some bx) (.bool true) [])))
  (ko:∀ y',eqv y' y->∀ e st',KX (A0 live names st) y' e st'->GG P Γ K (cK e x) st'):GG P Γ K x st:=
 mz q _ (Zo hx) _ _ H KX ix tx bx nm mm nn km l lv2 nm2 h0 hc hb hit hmi hma hlen hh hh2 kd kn ko
theorem Ns{st st':St}(h:st=st':=by kernel_rfl):Le Γ st st':=h▸Le.refl Γ st
theorem ci{p q:Prop}(a:p)(b:q):p/\q:=⟨a,b⟩
theorem c1{p:Prop}(a:p):p/\True:=⟨a,trivial⟩
end
section
variable {P:Program} {Γ:Gt} {K:Exit->St->Prop}
theorem tB{α β:Type}{m:Option α}{f:α->Option β}{r:β}{G:Prop}(h:m.bind f=some r)(k:∀ x,m=some x->f x=some r->G):G:=have⟨x,hx,h⟩:=bind_some h;k x hx h
theorem tC{β:Type}{c:Prop}[Decidable c]{m:Option β}{r:β}{G:Prop}(h:Cq c m=some r)(k:c->m=some r->G):G:=k (M4 h).1 (M4 h).2
@[elab_as_elim] theorem tS{α:Type}{a:α}{M:α->Prop}{b:α}(h:some a=some b)(k:M a):M b:=OI h▸k
theorem tV{x:Jy}{st:St}{n:Nat}{H:List (Nat×Own)}(q:RgQ P Γ n H)(live names:List Nat){β:Type}{c:Prop}[Decidable c]{m:Option β}{r:β}(h:Cq c m=some r)
  (k:m=some r->GG P Γ K (fH x) (fI P (Spec P) n [] live names x st []))
  (h1:df (dc P (Spec P) n [] live names x st [])=some (c/\True,true):=by kernel_rfl) (hh:(H.all λx=>Ca x.1 names)=true:=by kernel_rfl):GG P Γ K x st:=gR q live names [] [] (c1 (M4 h).1) (k (M4 h).2) h1 hh
theorem tN{S X:Type}{x:Jy}{st:St}{H:S->St}{KX:X->Exit->St->Prop}{s':S}{y:LR S X}(h:some (.next s')=some y)(h1:st=H s':=by kernel_rfl)(hx:x = .out .normal []:=by kernel_rfl):GG P Γ (Mc Γ H KX y) x st:=OI h▸gN (Ns h1) hx
theorem tL{S X α:Type}{x:Jy}{st:St}{n:Nat}{Hf:List (Nat×Own)}(q:RgQ P Γ n Hf){f:S->Option (LR S X)}{s0:S}{g:X->Option α}{r:α}(h:(Ai f s0).bind g=some r)(live names:List Nat)(H:St->S->St)(KX:St->X->Exit->St->Prop)
  (kb:∀ s y,f s=some y->GG P Γ (Mc Γ (H (A0 live names st)) (KX (A0 live names st)) y) (gH x) (H (A0 live names st) s)) (ko:∀ y,g y=some r->∀ e st',KX (A0 live names st) y e st'->GG P Γ K (cK e x) st')
  (h0:A0 live names st=H (A0 live names st) s0:=by kernel_rfl) (hl:RO x=true:=by kernel_rfl) (hh:(Hf.all λx=>Ca x.1 names)=true:=by kernel_rfl):GG P Γ K x st:=tB h λy hy h=>gL q hy live names H KX kb (ko y h) h0 hl hh
theorem tU{x:Jy}{st:St}{n:Nat}{H:List (Nat×Own)}(q:RgQ P Γ n H)(live names:List Nat){O:Prop}(hO:O)
  (k:GG P Γ K (fH x) (fI P (Spec P) n [] live names x st []))
  (h:df (dc P (Spec P) n [] live names x st [])=some (O,true):=by kernel_rfl) (hh:(H.all λx=>Ca x.1 names)=true:=by kernel_rfl):GG P Γ K x st:=gR q live names [] [] hO k h hh
theorem tT{x:Jy}{st:St}{n:Nat}{H:List (Nat×Own)}(q:RgQ P Γ n H)(live names:List Nat)(rs:List R0){O:Prop}(hO:O)
  (k:GG P Γ K (fH x) (fI P (Spec P) n [] live names x st rs))
  (h:df (dc P (Spec P) n [] live names x st rs)=some (O,true):=by kernel_rfl) (hh:(H.all λx=>Ca x.1 names)=true:=by kernel_rfl):GG P Γ K x st:=gR q live names [] rs hO k h hh
theorem tW{x:Jy}{st:St}{n:Nat}{H:List (Nat×Own)}(q:RgQ P Γ n H)(live names live2 names2:List Nat)
  (k:GG P Γ K (fH (fH x)) (fI P (Spec P) n [] live2 names2 (fH x) (fI P (Spec P) n [] live names x st []) []))
  (h:df (dc P (Spec P) n [] live names x st [])=some (True,true):=by kernel_rfl) (hh:(H.all λx=>Ca x.1 names)=true:=by kernel_rfl)
  (h2:df (dc P (Spec P) n [] live2 names2 (fH x) (fI P (Spec P) n [] live names x st []) [])=some (True,true):=by kernel_rfl) (hh2:(H.all λx=>Ca x.1 names2)=true:=by kernel_rfl):GG P Γ K x st:=Ap q live names (Ap q live2 names2 k h2 hh2) h hh
end
theorem Nr{R:Prop}(g:Bool)(r:R):(g=true->g=true)/\((g=true->g=true)/\(R)):=⟨id,⟨id,r⟩⟩
theorem MX{R:Prop}(g:Bool)(r:R):(g=true->g=true)/\((g=true->g=true)/\((g=true->g=true)/\(R))):=⟨id,⟨id,⟨id,r⟩⟩⟩
theorem jU{R:Prop}(g:Bool)(r:R):(g=true->g=true)/\((g=true->g=true)/\((g=true->g=true)/\((g=true->g=true)/\(R)))):=⟨id,⟨id,⟨id,⟨id,r⟩⟩⟩⟩
theorem j9{R:Prop}(g:Bool)(r:R):(g=true->g=true)/\((g=true->g=true)/\((g=true->g=true)/\((g=true->g=true)/\((g=true->g=true)/\(R))))):=⟨id,⟨id,⟨id,⟨id,⟨id,r⟩⟩⟩⟩⟩
theorem mt{R:Prop}(g:Bool)(r:R):(g=true->g=true)/\((g=true->g=true)/\((g=true->g=true)/\((g=true->g=true)/\((g=true->g=true)/\((g=true->g=true)/\(R)))))):=⟨id,⟨id,⟨id,⟨id,⟨id,⟨id,r⟩⟩⟩⟩⟩⟩
theorem mu{R:Prop}(g:Bool)(r:R):(g=true->g=true)/\((g=true->g=true)/\((g=true->g=true)/\((g=true->g=true)/\((g=true->g=true)/\((g=true->g=true)/\((g=true->g=true)/\(R))))))):=⟨id,⟨id,⟨id,⟨id,⟨id,⟨id,⟨id,r⟩⟩⟩⟩⟩⟩⟩
theorem mv{R:Prop}(g:Bool)(r:R):(g=true->g=true)/\((g=true->g=true)/\((g=true->g=true)/\((g=true->g=true)/\((g=true->g=true)/\((g=true->g=true)/\((g=true->g=true)/\((g=true->g=true)/\(R)))))))):=⟨id,⟨id,⟨id,⟨id,⟨id,⟨id,⟨id,⟨id,r⟩⟩⟩⟩⟩⟩⟩⟩
theorem mw{R:Prop}(g:Bool)(r:R):(g=true->g=true)/\((g=true->g=true)/\((g=true->g=true)/\((g=true->g=true)/\((g=true->g=true)/\((g=true->g=true)/\((g=true->g=true)/\((g=true->g=true)/\((g=true->g=true)/\(R))))))))):=⟨id,⟨id,⟨id,⟨id,⟨id,⟨id,⟨id,⟨id,⟨id,r⟩⟩⟩⟩⟩⟩⟩⟩⟩
theorem UE{p0 p1 R:Prop}(a0:p0)(a1:p1)(r:R):p0/\p1/\R:=⟨a0,a1,r⟩
theorem c2{p0 p1:Prop}(a0:p0)(a1:p1):p0/\p1/\True:=⟨a0,a1,trivial⟩
theorem j6{p0 p1 p2 R:Prop}(a0:p0)(a1:p1)(a2:p2)(r:R):p0/\p1/\p2/\R:=⟨a0,a1,a2,r⟩
theorem c3{p0 p1 p2:Prop}(a0:p0)(a1:p1)(a2:p2):p0/\p1/\p2/\True:=⟨a0,a1,a2,trivial⟩
theorem md{p0 p1 p2 p3 R:Prop}(a0:p0)(a1:p1)(a2:p2)(a3:p3)(r:R):p0/\p1/\p2/\p3/\R:=⟨a0,a1,a2,a3,r⟩
theorem c4{p0 p1 p2 p3:Prop}(a0:p0)(a1:p1)(a2:p2)(a3:p3):p0/\p1/\p2/\p3/\True:=⟨a0,a1,a2,a3,trivial⟩
theorem mq{p0 p1 p2 p3 p4 R:Prop}(a0:p0)(a1:p1)(a2:p2)(a3:p3)(a4:p4)(r:R):p0/\p1/\p2/\p3/\p4/\R:=⟨a0,a1,a2,a3,a4,r⟩
theorem c5{p0 p1 p2 p3 p4:Prop}(a0:p0)(a1:p1)(a2:p2)(a3:p3)(a4:p4):p0/\p1/\p2/\p3/\p4/\True:=⟨a0,a1,a2,a3,a4,trivial⟩
theorem c6{p0 p1 p2 p3 p4 p5:Prop}(a0:p0)(a1:p1)(a2:p2)(a3:p3)(a4:p4)(a5:p5):p0/\p1/\p2/\p3/\p4/\p5/\True:=⟨a0,a1,a2,a3,a4,a5,trivial⟩
theorem mr{p0 p1 p2 p3 p4 p5 p6 R:Prop}(a0:p0)(a1:p1)(a2:p2)(a3:p3)(a4:p4)(a5:p5)(a6:p6)(r:R):p0/\p1/\p2/\p3/\p4/\p5/\p6/\R:=⟨a0,a1,a2,a3,a4,a5,a6,r⟩
theorem c7{p0 p1 p2 p3 p4 p5 p6:Prop}(a0:p0)(a1:p1)(a2:p2)(a3:p3)(a4:p4)(a5:p5)(a6:p6):p0/\p1/\p2/\p3/\p4/\p5/\p6/\True:=⟨a0,a1,a2,a3,a4,a5,a6,trivial⟩
theorem c8{p0 p1 p2 p3 p4 p5 p6 p7:Prop}(a0:p0)(a1:p1)(a2:p2)(a3:p3)(a4:p4)(a5:p5)(a6:p6)(a7:p7):p0/\p1/\p2/\p3/\p4/\p5/\p6/\p7/\True:=⟨a0,a1,a2,a3,a4,a5,a6,a7,trivial⟩
theorem me{p0 p1 p2 p3 p4 p5 p6 p7 p8 R:Prop}(a0:p0)(a1:p1)(a2:p2)(a3:p3)(a4:p4)(a5:p5)(a6:p6)(a7:p7)(a8:p8)(r:R):p0/\p1/\p2/\p3/\p4/\p5/\p6/\p7/\p8/\R:=⟨a0,a1,a2,a3,a4,a5,a6,a7,a8,r⟩
theorem c9{p0 p1 p2 p3 p4 p5 p6 p7 p8:Prop}(a0:p0)(a1:p1)(a2:p2)(a3:p3)(a4:p4)(a5:p5)(a6:p6)(a7:p7)(a8:p8):p0/\p1/\p2/\p3/\p4/\p5/\p6/\p7/\p8/\True:=⟨a0,a1,a2,a3,a4,a5,a6,a7,a8,trivial⟩
structure mW(c:List AV)(o N sz:Nat)(f:Nat->List AV):Prop where
 get:∀ i,i<N->(c.drop (o+i*sz)).take sz=f i
open Go.Shelf
def NC:Go.Shelf.Ren:=⟨fun|189=>157|125=>181|257=>180|128=>205|129=>206|294=>197|295=>198|296=>199|297=>200|298=>201|299=>202|216=>193|300=>203|301=>204|328=>220|329=>221|330=>222|331=>223|332=>224|215=>218|343=>230|n=>n,fun|28=>33|3=>3|46=>53|0=>0|51=>236|53=>23|4=>4|183=>231|182=>230|131=>217|5=>5|9=>9|218=>244|222=>248|228=>252|229=>133|n=>n,fun|n=>n⟩
theorem UL:Go.Proofs.Lays.n189 Tryz.prog NC:={
 mixed:=by kernel_rfl
 f125:=Tryz.func181.trans (B5 some (by kernel_rfl))
 f128:=Tryz.func205.trans (B5 some (by kernel_rfl))
 f129:=Tryz.func206.trans (B5 some (by kernel_rfl))
 f189:=Tryz.func157.trans (B5 some (by kernel_rfl))
 f215:=Tryz.func218.trans (B5 some (by kernel_rfl))
 f216:=Tryz.func193.trans (B5 some (by kernel_rfl))
 f257:=Tryz.func180.trans (B5 some (by kernel_rfl))
 f294:=Tryz.func197.trans (B5 some (by kernel_rfl))
 f295:=Tryz.func198.trans (B5 some (by kernel_rfl))
 f296:=Tryz.func199.trans (B5 some (by kernel_rfl))
 f297:=Tryz.func200.trans (B5 some (by kernel_rfl))
 f298:=Tryz.func201.trans (B5 some (by kernel_rfl))
 f299:=Tryz.func202.trans (B5 some (by kernel_rfl))
 f300:=Tryz.func203.trans (B5 some (by kernel_rfl))
 f301:=Tryz.func204.trans (B5 some (by kernel_rfl))
 f328:=Tryz.func220.trans (B5 some (by kernel_rfl))
 f329:=Tryz.func221.trans (B5 some (by kernel_rfl))
 f330:=Tryz.func222.trans (B5 some (by kernel_rfl))
 f331:=Tryz.func223.trans (B5 some (by kernel_rfl))
 f332:=Tryz.func224.trans (B5 some (by kernel_rfl))
 f343:=Tryz.func230.trans (B5 some (by kernel_rfl))
 t0:=Tryz.underlying0
 a0:=Tryz.isAgg0
 z0:=Tryz.sizeOf0
 v0:=Tryz.zeroValue0
 t3:=Tryz.underlying3
 a3:=Tryz.isAgg3
 z3:=Tryz.sizeOf3
 v3:=Tryz.zeroValue3
 t4:=Tryz.underlying4
 a4:=Tryz.isAgg4
 z4:=Tryz.sizeOf4
 v4:=Tryz.zeroValue4
 t5:=Tryz.underlying5
 a5:=Tryz.isAgg5
 z5:=Tryz.sizeOf5
 v5:=Tryz.zeroValue5
 t9:=Tryz.underlying9
 a9:=Tryz.isAgg9
 z9:=Tryz.sizeOf9
 v9:=Tryz.zeroValue9
 t28:=Tryz.underlying33
 a28:=Tryz.isAgg33
 z28:=Tryz.sizeOf33
 v28:=Tryz.zeroValue33
 t46:=Tryz.underlying53
 a46:=Tryz.isAgg53
 z46:=Tryz.sizeOf53
 v46:=Tryz.zeroValue53
 t51:=Tryz.underlying236
 a51:=Tryz.isAgg236
 z51:=Tryz.sizeOf236
 v51:=Tryz.zeroValue236
 t53:=Tryz.underlying23
 a53:=Tryz.isAgg23
 z53:=Tryz.sizeOf23
 v53:=Tryz.zeroValue23
 t131:=Tryz.underlying217
 a131:=Tryz.isAgg217
 z131:=Tryz.sizeOf217
 v131:=Tryz.zeroValue217
 t182:=Tryz.underlying230
 a182:=Tryz.isAgg230
 z182:=Tryz.sizeOf230
 v182:=Tryz.zeroValue230
 t183:=Tryz.underlying231
 a183:=Tryz.isAgg231
 z183:=Tryz.sizeOf231
 v183:=Tryz.zeroValue231
 t218:=Tryz.underlying244
 a218:=Tryz.isAgg244
 z218:=Tryz.sizeOf244
 v218:=Tryz.zeroValue244
 t222:=Tryz.underlying248
 a222:=Tryz.isAgg248
 z222:=Tryz.sizeOf248
 v222:=Tryz.zeroValue248
 t228:=Tryz.underlying252
 a228:=Tryz.isAgg252
 z228:=Tryz.sizeOf252
 v228:=Tryz.zeroValue252
 t229:=Tryz.underlying133
 a229:=Tryz.isAgg133
 z229:=Tryz.sizeOf133
 v229:=Tryz.zeroValue133 }
def FI:Go.Shelf.Ren:=⟨fun|15=>156|n=>n,fun|22=>33|3=>3|4=>4|n=>n,fun|n=>n⟩
theorem X3:Go.Proofs.Lays2.n15 Tryz.prog FI:={
 mixed:=by kernel_rfl
 f15:=Tryz.func156.trans (B5 some (by kernel_rfl))
 t3:=Tryz.underlying3
 a3:=Tryz.isAgg3
 z3:=Tryz.sizeOf3
 v3:=Tryz.zeroValue3
 t4:=Tryz.underlying4
 a4:=Tryz.isAgg4
 z4:=Tryz.sizeOf4
 v4:=Tryz.zeroValue4
 t22:=Tryz.underlying33
 a22:=Tryz.isAgg33
 z22:=Tryz.sizeOf33
 v22:=Tryz.zeroValue33
 i3:=by kernel_rfl }
def FJ:Go.Shelf.Ren:=⟨fun|20=>158|n=>n,fun|22=>33|3=>3|4=>4|0=>0|n=>n,fun|n=>n⟩
theorem GX:Go.Proofs.Lays2.n20 Tryz.prog FJ:={
 mixed:=by kernel_rfl
 f20:=Tryz.func158.trans (B5 some (by kernel_rfl))
 t0:=Tryz.underlying0
 a0:=Tryz.isAgg0
 z0:=Tryz.sizeOf0
 v0:=Tryz.zeroValue0
 t3:=Tryz.underlying3
 a3:=Tryz.isAgg3
 z3:=Tryz.sizeOf3
 v3:=Tryz.zeroValue3
 t4:=Tryz.underlying4
 a4:=Tryz.isAgg4
 z4:=Tryz.sizeOf4
 v4:=Tryz.zeroValue4
 t22:=Tryz.underlying33
 a22:=Tryz.isAgg33
 z22:=Tryz.sizeOf33
 v22:=Tryz.zeroValue33
 i3:=by kernel_rfl }
open Go.Sort
section
variable {I:Nat->Nat->Prop} {θ:Nat->Option (Nat×Nat)} {w w':World}
theorem SF(I:Nat->Nat->Prop)(θ:Nat->Option (Nat×Nat))(w:World):Gu I (Ac []) θ w:=
 ⟨(λ_ _ _ h=>by cases h),(λ_ _ _ _ h=>by cases h),(λ_ _ _ _ _ h=>(h rfl).elim),(λ_ _ _ _ _ h=>by cases h),(λ_ _ h=>by cases h),(λ_ _ _ h=>by cases h)⟩
theorem cR{own:Nat->Option Own}{zs:Array Value}{x:AV}(h:RepL I own θ w zs.toList [x]):∃ v,zs = #[v]/\Rep I own θ w v x:=by
 obtain⟨l⟩:=zs
 cases h with
 | cons h1 h2=>cases h2;exact⟨_,rfl,h1⟩
theorem Uj(hb:Below w.heap.size w w')(hval:∀ b o,I b o->∃ u,w.cell? ⟨b,o,none⟩=some u){N:Nat->Nat->Prop}(hN:∀ b o,N b o->w.heap.size<=b/\∃ u,w'.cell? ⟨b,o,none⟩=some u) :
  Chg (Ac []) θ I w (Ac []) θ (λb o=>I b o\/N b o) w':=
 have hcell:∀ b o,I b o->w'.cell? ⟨b,o,none⟩=w.cell? ⟨b,o,none⟩:=λb o hi=>by
  obtain⟨u,hu⟩:=hval b o hi;exact Zv (a:=⟨b,o,none⟩) (hb.block b (Ln hu))
 {imm:=λ_ _ h=>.inl h,cell:=hcell,le:=λ_ _ h=>(by cases h),rel:=SF _ _ _,
  valid:=λb o hi=>by
   rcases hi with hi|hi
   ·obtain⟨u,hu⟩:=hval b o hi;exact⟨u,(hcell b o hi).trans hu⟩
   ·exact(hN b o hi).2,
  os:=hb.os,tape:=hb.tape,output:=hb.output,drawn:=λh=>h.elim,grow:=hb.size,frame:=λb hlt _=>hb.block b hlt,new:=λ_ _ _ h=>(h rfl).elim,
  immNew:=λb o hi=>by
   rcases hi with hi|hi
   ·exact .inl hi
   ·exact .inr (.inl (hN b o hi).1) }
end
theorem V5{w W:World}{g n:Nat}{os:Array Obj}{d:Array Int}(hb:Below w.heap.size w W)(hg:w.heap.size<=g):Below w.heap.size w (grow (putRow (Value.int .i64) (Sort.ahead W n) g 0 d) os):=by
 have k:=grownBy_sortedI (w:=W) (g:=g) (n:=n) (os:=os) d;refine hb.trans ⟨k.os,k.tape,k.output,k.size,λb hlt=>k.block b (Nat.lt_of_lt_of_le hlt hb.size) (λe=>?_)⟩;have:=OI e;omega
def JD(w W:World)(g cap n:Nat)(zs:List Int):Prop:=
 Below w.heap.size w W/\w.heap.size<=g/\∃ cur,W.heap[g]?=some (.cells cur 3 (0,0))/\n<=cap/\cap<=maxLen/\cur.size=cap/\cur.toList.take zs.length=zs.map (Value.int .i64)/\zs.length=n
theorem UW{w W:World}{v:Value}{n:Nat}{zs:List Int}(h:W.ownsRow w.heap.size 3 1 v n (zs.map (Value.int .i64)))(hne:v≠.slice none 0 0)(hb:Below w.heap.size w W):∃ g cap,v = .slice (some ⟨g,0,none⟩) n cap/\JD w W g cap n zs:=by
 have hl:zs.length=n:=by have:=h.1;simpa using this
 rcases h.2 with⟨rfl,_⟩|⟨g,cap,cur,rfl,hg,hcur,hcap,hmax,hsz,ht⟩
 ·exact(hne rfl).elim
 ·rw[Qz]at hsz ht;exact⟨g,cap,rfl,hb,hg,cur,hcur,hcap,hmax,hsz,by rw[hl];exact ht,hl⟩
theorem ar(ad:Addr)(c:Nat)(w:World):Calls Tryz.prog 156 #[.slice (some ad) 0 c] w λe W=>∃ g cap,e = .returned (.slice (some ⟨g,0,none⟩) 0 cap)/\JD w W g cap 0 []:=
 (Any.slices_Clone_int_zero X3 ad c w).mono λe W ⟨v,he,hown,hne,hb⟩=>by
  obtain⟨g,cap,rfl,h⟩:=UW (zs:=[]) hown hne hb;exact⟨g,cap,he,h⟩
theorem eH(b off n c:Nat)(zs:List Int)(w:World)(hz:zs.length=n)(hbig:n<=17592186044416)(hc:∀ j,j<n->w.cell? ⟨b,off+j,none⟩=some (.int .i64 (zs.getD j 0))) :
  Calls Tryz.prog 156 #[.slice (some ⟨b,off,none⟩) n c] w λe W=>∃ g cap,e = .returned (.slice (some ⟨g,0,none⟩) n cap)/\JD w W g cap n zs:=
 (Any.slices_Clone_int X3 b off n c zs w (by omega) (by omega) (λj hj=>hc j (by omega))).mono λe W ⟨v,he,hown,hne,hb⟩=>by
  rw[show zs.take n=zs by rw[<- hz];exact Vt ..]at hown;obtain⟨g,cap,rfl,h⟩:=UW hown hne hb;exact⟨g,cap,he,h⟩
theorem iS{w W:World}{g cap n:Nat}{zs:List Int}(h:JD w W g cap n zs)(hbig:n<=17592186044416):Calls Tryz.prog 157 #[.slice (some ⟨g,0,none⟩) n cap] W λe W2=>e = .returned (.tuple #[])/\JD w W2 g cap n (zs.mergeSort λx y=>decide (x<=y)):=by
 obtain⟨hb,hg,cur,hcur,hcap,hmax,hsz,ht,rfl⟩:=h;refine(Any.slices_Sort_int UL g 0 cap zs W (holds_of_blockI hcur ht) (We hcur) (by omega)).mono λe W2 ⟨he,q,os,hW⟩=>⟨he,?_⟩;subst hW;have hl:(zs.mergeSort λx y=>decide (x<=y)).length=zs.length:=List.length_mergeSort ..;have b2:=V5 (n:=q) (os:=os) (d:=(zs.mergeSort λx y=>decide (x<=y)).toArray) hb hg;exact⟨b2,hg,_,heap_sortedI _ hcur,hcap,hmax,by simp[putCells,hsz],take_putCellsI cur _ (by omega),hl⟩
theorem WL{w W:World}{g cap n:Nat}{zs:List Int}(h:JD w W g cap n zs)(hbig:n<=17592186044416):Calls Tryz.prog 158 #[.slice (some ⟨g,0,none⟩) n cap] W λe W2=>e = .returned (.slice (some ⟨g,0,none⟩) (Lib.compact zs).length cap)/\JD w W2 g cap (Lib.compact zs).length (Lib.compact zs):=by
 obtain⟨hb,hg,cur,hcur,hcap,hmax,hsz,ht,rfl⟩:=h;refine(Any.slices_Compact_int GX g 0 cap zs W (holds_of_blockI hcur ht) (by omega) hcap).mono λe W2 ⟨he,q,hW⟩=>⟨he,?_⟩;subst hW;have hcl:=Lib.compact_length_le zs
 generalize Lib.compact zs=cs at hcl ⊢
 generalize hts:cs++List.replicate (zs.length-cs.length) (0:Int)=ts
 have htl:ts.length=zs.length:=by rw[<- hts,E5,Xd];omega
 have b2:=V5 (n:=q) (os:=#[]) (d:=ts.toArray) hb hg;have h2:=heap_sortedI (n:=q) (os:=#[]) ts.toArray hcur;rw[grow_empty]at b2 h2;have h3:=take_putCellsI cur ts (by omega);refine⟨b2,hg,_,h2,by omega,hmax,by simp[putCells,hsz],?_,rfl⟩;have:=B5 (List.take cs.length) h3;rw[List.take_take,Nat.min_eq_left (by omega),<- List.map_take,<- hts,List.take_left' rfl]at this;rw[<- hts];exact this
def dj(w w':World)(v:Value)(r:List Int):Prop:=
 (v = .slice none 0 0/\r=[])\/∃ g cap,v = .slice (some ⟨g,0,none⟩) r.length cap/\JD w w' g cap r.length r
set_option maxHeartbeats 4000000 in
set_option maxRecDepth 100000 in
theorem cq(a:Option Addr)(n c:Nat)(zs:List Int)(w:World)(hz:zs.length=n)(hn:a=none->n=0)(hbig:n<=17592186044416)
  (hc:0<n->∃ b off,a=some ⟨b,off,none⟩/\∀ j,j<n->w.cell? ⟨b,off+j,none⟩=some (.int .i64 (zs.getD j 0))) :
  Calls Tryz.prog 116 #[.slice a n c] w λe w'=>∃ v,e = .returned v/\Below w.heap.size w w'/\dj w w' v (Lib.compact (zs.mergeSort λx y=>decide (x<=y))):=by
 cases a with
 | none=>
  obtain rfl:=hn rfl;obtain rfl:zs=[]:=zzL106.1 hz
  have hr:Lib.compact (([]:List Int).mergeSort λx y=>decide (x<=y))=[]:=by simp[Lib.compact,Lib.compactUpTo]
  rw[hr];have h1:Calls Tryz.prog 156 #[.slice none 0 c] w λe w'=>e = .returned (.slice none 0 0)/\w'=w:=Any.slices_Clone_int_nil X3 0 c w;have h2:Calls Tryz.prog 157 #[.slice none 0 0] w λe w'=>e = .returned (.tuple #[])/\w'=w:=Any.slices_Sort_int_none UL none 0 w;have h3:Calls Tryz.prog 158 #[.slice none 0 0] w λe w'=>e = .returned (.slice none 0 0)/\w'=w:=Any.slices_Compact_int_empty GX none 0 w
  go_enter Tryz.func116,Tryz.ntmps116
  go_wp2_with (first
   | (go_at_call 156;refine h1.mono ?_;rintro e W ⟨rfl,rfl⟩)
   | (go_at_call 157;refine h2.mono ?_;rintro e W ⟨rfl,rfl⟩)
   | (go_at_call 158;refine h3.mono ?_;rintro e W ⟨rfl,rfl⟩))
  go_ret
  exact⟨_,rfl,Below.refl _ _,.inl ⟨rfl,rfl⟩⟩
 | some ad=>
  have h1:Calls Tryz.prog 156 #[.slice (some ad) n c] w λe W=>∃ g cap,e = .returned (.slice (some ⟨g,0,none⟩) n cap)/\JD w W g cap n zs:=by
   by_cases h0:n=0
   ·subst h0;obtain rfl:zs=[]:=zzL106.1 hz;exact ar ad c w
   ·obtain⟨b,off,hab,hcell⟩:=hc (by omega);obtain rfl:=OI hab;exact eH b off n c zs w hz hbig hcell
  go_enter Tryz.func116,Tryz.ntmps116
  go_wp2_with (first
   | (go_at_call 156;refine h1.mono ?_;rintro e W ⟨g,cap,rfl,hO⟩)
   | (go_at_call 157;refine(iS hO hbig).mono ?_;rintro e W2 ⟨rfl,hO2⟩)
   | (go_at_call 158;refine(WL hO2 hbig).mono ?_;rintro e W3 ⟨rfl,hO3⟩))
  go_ret
  exact⟨_,rfl,hO3.1,.inr ⟨_,_,rfl,hO3⟩⟩
def RM(x:Int):List Int->List Int
 | []=>[x]
 | y::l=>if x<=y then x::y::l else y::RM x l
def bZ:List Int->List Int
 | []=>[]
 | x::l=>RM x (bZ l)
theorem insI_perm(x:Int):∀ l,(RM x l).Perm (x::l)
 | []=>.refl _
 | y::l=>by
  unfold RM
  split
  ·exact .refl _
  ·exact((insI_perm x l).cons y).trans (.swap x y l)
theorem UI{x:Int}:∀{l:List Int},l.Pairwise (·<=·)->(RM x l).Pairwise (·<=·)
 | [],_=>by simp[RM]
 | y::l,h=>by
  have h':=zzL122.1 h;unfold RM
  split
  ·rename_i hxy
   exact zzL122.2 ⟨λz hz=>by
    rcases zzL23.1 hz with rfl|hz
    ·exact hxy
    ·exact Int.le_trans hxy (h'.1 z hz),h⟩
  ·rename_i hxy
   refine zzL122.2 ⟨λz hz=>?_,UI h'.2⟩;rcases zzL23.1 ((insI_perm x l).mem_iff.1 hz) with rfl|hz
   ·omega
   ·exact h'.1 z hz
theorem GW:∀ l,(bZ l).Perm l
 | []=>.refl _
 | x::l=>(insI_perm x _).trans ((GW l).cons x)
theorem UK:∀ l,(bZ l).Pairwise (·<=·)
 | []=>.nil
 | x::l=>UI (UK l)
theorem UJ(l:List Int):bZ l=l.mergeSort λx y=>decide (x<=y):=by
 refine List.Perm.eq_of_pairwise (le:=(·<=·)) (λa b _ _ h1 h2=>Int.le_antisymm h1 h2) (UK l) ?_ ((GW l).trans (List.mergeSort_perm l _).symm);have:=List.pairwise_mergeSort (le:=λ(x y:Int)=>decide (x<=y)) (λa b c h1 h2=>by simp at *;omega) (λa b=>by simp;omega) l
 exact this.imp λh=>by simpa using h
def Xc(l:List Int):Option (List Int):=Cq (l.length<=17592186044416) (some (Lib.compact (bZ l)))
theorem SY(l r:List Int)(h:Xc l=some r):Spec Tryz.prog 116 [AV.list 1 (λx=>[.int .i64 x]) (0:Int) l .none] [] (AV.list 1 (λx=>[.int .i64 x]) (0:Int) r .none) []:=by
 obtain⟨hlen,h⟩:=M4 h;rw[UJ]at h;obtain rfl:=OI h;refine⟨enters_of Tryz.func116 (by kernel_rfl) rfl,λw I θ zs hargs _ hval _=>?_⟩;obtain⟨v,rfl,hv⟩:=cR hargs;obtain⟨_,a,cap,us,rfl,hcap,hmax,hz,hnn,h1,hl,hr⟩:=hv.slice_val.slice_inv
 have hint:∀ i,i<l.length->us i = .int .i64 (l.getD i 0):=λi hi=>by
  have:=hr i 0 hi (by omega);rw[Qz,K7]at this;have h2:RepV I w (us i) (.int .i64 (l.getD i 0)):=this;exact Rep.int_inv (own:=Ac []) (θ:=θ) (.val _ _ h2)
 refine(cq a l.length cap l w rfl (λha=>by have:=hnn ha;omega) hlen (λhp=>?_)).mono λe w' ⟨v,he,hb,hout⟩=>?_
 ·obtain⟨b,rfl,hs,_,hcell⟩:=hz hp;obtain⟨blk,off,spot⟩:=b;simp only at hs hcell;subst hs;exact⟨blk,off,rfl,λj hj=>by rw[hcell j (by omega),hint j hj]⟩
 ·generalize Lib.compact (l.mergeSort λx y=>decide (x<=y))=r at hout ⊢
  rcases hout with⟨rfl,rfl⟩|⟨g,cap',rfl,_,hg,cur,hcur,hc1,hc2,hc3,htake,_⟩
  ·exact⟨_,_,θ,he,Uj hb hval (N:=λ_ _=>False) (λ_ _ h=>h.elim),.val _ _ (.slice none 0 0 1 _ (λ_=>undef) (zzL7 _) (K8 _) (λh=>by cases h) (λ_=>rfl) (λj hj=>by simp at hj) (λi hi=>by cases hi) (λi c hi=>by cases hi))⟩
  ·have hcell:∀ j,j<r.length->w'.cell? ⟨g,j,none⟩=some (.int .i64 (r.getD j 0)):=λj hj=>by
    rw[J6 _ _ _ cur 3 (0,0) hcur]
    have h2:(cur.toList.take r.length)[j]?=(r.map (Value.int .i64))[j]?:=by rw[htake]
    rw[List.getElem?_take_of_lt hj,Array.getElem?_toList]at h2;rw[h2];simp[List.getD,hj]
   refine⟨_,_,θ,he,Uj hb hval (N:=λb o=>b=g/\o<r.length) (λb o ⟨hbg,ho⟩=>⟨by omega,by subst hbg;exact⟨_,hcell o ho⟩⟩),.val _ _ (.slice (some ⟨g,0,none⟩) r.length cap' 1 _ (λj=>.int .i64 (r.getD j 0)) hc1 hc2 (λ_=>⟨⟨g,0,none⟩,rfl,rfl,λj hj=>.inr ⟨rfl,by simpa using hj⟩,λj hj=>by rw[Fq];exact hcell j (by omega)⟩) (λh=>by cases h) (λ_ _=>rfl) (λ_ _=>rfl) (λi c hi hc=>?_))⟩
   obtain rfl:c=0:=by omega
   rw[Qz,K7];exact .int _ _
abbrev A3:=List Int
abbrev Nt:=List (List Int)
def Fa:=[30000,37006,9100005]
def Ug:=[(30000,30000),(37006,37006),(9100005,9100005)]
def Fe:=[30000,37006]
def Mh:=[3,30000,37006,9100005]
def J8:=[2,5,6,25,36007]
def O6:=[6,30000,37006,9100005]
def PT:=[(30000,30000),(9100000,9100000),(9100001,9100001)]
def Nw:=[3,4,6,7,5700]
def AP:=[(30000,30000),(37006,37006)]
def J9:=[2,13,21]
def Kz:=[8,30000,37006]
def H5:=[1,7,8,9]
def Rn:=[30000,37006,13000005]
def Td:=[3,4,6,7,5700,30000]
def K9:=[2,3,4,6,7]
def Xm:=[3,5,30000,37006,9100005]
def Xn:=[0,4,6,21,22,30,31,32]
def Xo:=[4,30000,9100000,9100001]
def U2:=[2,5,6,7,26,27,28]
def Z0:=[5,30000,37006,9100005]
def VG:=[0,2,3,8,9,16,17,18,54,55,56,62,63,64]
def VH:=[0,2,3,5,16,17,18,24,25,26,31,32,33]
def II:=[4,7,30000,9100000,9100001]
def U3:=[2,5,6,7,8,9]
def IJ:=[3,9,30000,37006,9100005]
def PN:=[3,7,10,11,12,17,18,19,25]
def Te:=[2,5,6,7,8]
def Tf:=[1,3,4,5,6]
def PO:=[0,2,3,16,17,18,24,25,26]
def PP:=[0,2,3,16,17,18,54,55,56]
def Hb:=[0,1]
def dH:=[(30000,30000),(37006,37006),(13000005,9200005)]
def dI:=[(30000,30000),(37006,37006),(9300005,9200005)]
def Oo:=[10,70010]
def VI:=[3,7,10,11,12,17,18,19,24,25]
def Xp:=[3,10,11,12]
def PQ:=[3,10,11,12,17,18,19]
def AA:=[1,7,8,9,10]
def IK:=[3,31,30000,37006]
def AB:=[1,6,7,8,9]
def VJ:=[3,4,11,12,13,18,19,20]
def VK:=[0,5,12,13,14,18,19,20]
def VM:=[6,7,30000,37006,9100005]
def FA:=[1,7,8,9,16]
def U4:=[0,21,22]
def IL:=[31,30000,37006]
def IM:=[2,3,4,6,7,8]
def PR:=[0,2,3,16,17,18]
def L6:=[7,8]
def dJ:=[0,4,6,21,22,30,31,32,33]
def dK:=[0,4,6,21,22,30,31,32,40]
def IP:=[0,5,8,9,10]
def dL:=[0,4,6,8,21,22,30,31,32]
def dM:=[4,6,30000,9100000,9100001]
def g6:=[(30000,30000),(37006,37006),(8,9200005)]
def U5:=[2,5,6]
def IQ:=[0,16,17,18]
def VN:=[2,5,6,7,8,9,10]
def dN:=[6,8,30000,37006,9100005]
def PS:=[3,30000,37006]
def VO:=[2,4,5,18,19,20]
def IR:=[0,1,12,13]
def AC:=[0,1,10]
def PU:=[(30000,30000)]
def Pv:=[2,3]
def Pw:=[6,7]
def dO:=[2,3,4,6,7,8,11,66]
def PV:=[3,11,12,13]
def PW:=[0,12,13,14]
def PX:=[6,18,19,25]
def dP:=[2,3,4,6,7,8,9,10]
def Ro:=[4,5]
def IU:=[2,5,6,7]
def IV:=[18,19,20]
def VP:=[14,17,10000305]
def U6:=[2,16]
def g7:=[2,5,6,7,9,10,26,27,28,44]
def FB:=[1,4,22]
def dQ:=[30000,37006,9300005]
def dR:=[2,3,4,6,7,8,11]
def VQ:=[0,1,3,9,10]
def dS:=[0,1,5,14,15,16]
def dT:=[2,3,4,6,7,8,9]
def FC:=[2,3,4]
def g8:=[2,5,6,7,9,10,26,27,28]
def g9:=[4,5,30000,9100000,9100001]
def U7:=[0,3]
def VR:=[0,15,16,17]
def VS:=[0,21,22,23]
def dU:=[2,3,4,6,7,37]
def hY:=[2,5,6,7,26,27,28,29]
def PY:=[5,18,19]
def PZ:=[6,18,19]
def Xq:=[1,2]
def IW:=[1,2,5]
def dV:=[1,2,15,16,17]
def hZ:=[2,5,6,7,9,26,27,28]
def dW:=[0,1,32,33,34]
def h9:=[10,30000,37006,9100005]
def IX:=[4,5,6]
def LF:=[2,5,6,25]
def dF:=[2,5,6,7,8,9,10,60]
def dG:=[4,30000,37006,9100005]
def TF:=[0,3,4,14,15]
def TG:=[0,4,6,21,22]
def LG:=[0,2,7,8]
def TH:=[(34001,34001)]
def Y5:=[18,19]
def LH:=[3,7,8,9]
def TI:=[2,3,4,6,19]
def LI:=[3,4,6,7]
def LJ:=[6,7,5700]
def TJ:=[1,23,24,25]
def EZ:=[0,1,5]
def TK:=[3,38,39,40]
def TL:=[0,37,38,39]
def TM:=[0,6,21,22]
set_option maxRecDepth 100000
set_option maxHeartbeats 2000000
def Ax(x:Int):List AV:=[(.int .i64 x)]
def lu(x:Int):List AV:=[(.int .u64 x)]
structure Ah where
 V:Int
 Scale:Int
 deriving Inhabited,DecidableEq
def Dz(x:Ah):List AV:=[(.int .i64 x.V),(.int .u64 x.Scale)]
def eU(x:List Ah):List AV:=[(AV.list 2 Dz default x .none)]
structure TForm where
 Terms:List Ah
 Off:Int
 deriving Inhabited,DecidableEq
def eTForm(x:TForm):List AV:=[(AV.list 2 Dz default x.Terms .none),(.int .u64 x.Off)]
def H2(x:A3):List AV:=[(AV.list 1 Ax 0 x .none)]
structure Ds where
 Kind:Int
 Bits:Int
 Lanes:Int
 Dst:Int
 Args:A3
 Imm:Int
 deriving Inhabited,DecidableEq
def MP(x:Ds):List AV:=[(.int .i64 x.Kind),(.int .i64 x.Bits),(.int .i64 x.Lanes),(.int .i64 x.Dst),(AV.list 1 Ax 0 x.Args .none),(.int .u64 x.Imm)]
structure Hc where
 Bits:Int
 Dst:Int
 From:A3
 Args:A3
 deriving Inhabited,DecidableEq
def CH(x:Hc):List AV:=[(.int .i64 x.Bits),(.int .i64 x.Dst),(AV.list 1 Ax 0 x.From .none),(AV.list 1 Ax 0 x.Args .none)]
structure Jb where
 Kind:Int
 Arg:Int
 To:A3
 deriving Inhabited,DecidableEq
def bH(x:Jb):List AV:=[(.int .i64 x.Kind),(.int .i64 x.Arg),(AV.list 1 Ax 0 x.To .none)]
structure Am where
 Phis:List Hc
 Ops:List Ds
 End:Jb
 deriving Inhabited,DecidableEq
def Gb(x:Am):List AV:=[(AV.list 4 CH default x.Phis .none),(AV.list 6 MP default x.Ops .none),(.int .i64 x.End.Kind),(.int .i64 x.End.Arg),(AV.list 1 Ax 0 x.End.To .none)]
structure Ab where
 Params:A3
 Ret:Int
 Blocks:List Am
 deriving Inhabited,DecidableEq
def X0(x:Ab):List AV:=[(AV.list 1 Ax 0 x.Params .none),(.int .i64 x.Ret),(AV.list 5 Gb default x.Blocks .none)]
abbrev Gr:=(Int×Int)
def Bp(x:Gr):List AV:=[(.int .i64 x.1),(.int .i64 x.2)]
structure G3 where
 block:Int
 at_:Int
 deriving Inhabited,DecidableEq
def AZ(x:G3):List AV:=[(.int .i64 x.block),(.int .i64 x.at_)]
structure A6 where
 v:Int
 shape:Gr
 place:G3
 deriving Inhabited,DecidableEq
def I7(x:A6):List AV:=[(.int .i64 x.v),(.int .i64 x.shape.1),(.int .i64 x.shape.2),(.int .i64 x.place.block),(.int .i64 x.place.at_)]
structure Cw where
 Succ:Nt
 Pred:Nt
 deriving Inhabited,DecidableEq
def P4(x:Cw):List AV:=[(AV.list 1 H2 [] x.Succ .none),(AV.list 1 H2 [] x.Pred .none)]
def eB(x:Bool):List AV:=[(.bool x)]
structure Aj where
 shape:Gr
 place:G3
 deriving Inhabited,DecidableEq
def P5(x:Aj):List AV:=[(.int .i64 x.shape.1),(.int .i64 x.shape.2),(.int .i64 x.place.block),(.int .i64 x.place.at_)]
structure mX where
 Scale:A3
 Off:Int
 deriving Inhabited,DecidableEq
structure TDef where
 V:Int
 Block:Int
 At:Int
 Shape:Gr
 deriving Inhabited,DecidableEq
structure Mm where
 V:Int
 Block:Int
 At:Int
 Shape:Gr
 deriving Inhabited,DecidableEq
structure lF where
 Op:List Ds
 Found:List Bool
 Form:List TForm
 deriving Inhabited,DecidableEq
theorem mix:Tryz.prog.follows .mixedOrders=true:=by kernel_rfl
abbrev sP:=Spec Tryz.prog
abbrev SZ:=(Nat×Own)
theorem sG {f : FuncId} {fn : Func} {args : List AV} {H H' : List SZ} {res : AV} (hf : Tryz.prog.funcs[f]? = some fn) (k : ∀ Γ : Gt, RgQ Tryz.prog Γ fn.ntmps H → GG Tryz.prog Γ (fK Tryz.prog Γ fn.results.toList H res H') (ee (JP fn) []) (X2 args H)) (hb : fn.body.isSome = true := by kernel_rfl) (hname : (fn.name == "runtime.NumGoroutine") = false := by kernel_rfl) (hlen : Nat.ble args.length fn.ntmps = true := by kernel_rfl) (hpl : DU H = true := by kernel_rfl) : sP f args H res H' := Yp mix hf k hb hname hlen hpl
def Z1:=λza zb zc zd zf zg zm=>((30000,.row 110 [(AV.list 1 Ax 0 za .none),(.int .i64 zb),(AV.list 5 Gb default zc .none),(.int .i64 zd),(AV.list 1 Ax 0 zf .none),(.omap zg),(AV.list 5 I7 default zm (.own 37006))]):Nat×Own)
def Z2:=λza=>(⟨[],[],(.bool za),[],[],[]⟩:R0)
def Z3:=λza zb zc zd zf zg zm=>([(30000,.row 110 [(AV.list 1 Ax 0 za .none),(.int .i64 zb),(AV.list 5 Gb default zc .none),(.int .i64 zd),(AV.list 1 Ax 0 zf .none),.nilm,(AV.list 5 I7 default zg (.own 37006))]),(37006,.tok 5 195 zm)]:List SZ)
def Z4:=λza (zb:A3)=>((za,.arr 1 3 zb.length (λi=>Ax (zb.getD i 0))):Nat×Own)
def Z5:=([(.slice 0 0 (λ_=>[]) .exact),(.int .u64 (0:Int))]:List AV)
def Z6:=λza=>((AV.list 2 Bp ((0:Int),(0:Int)) za .none):AV)
def Z7:=λza=>((.int .i64 za):AV)
def Z8:=λza=>((37006,.tok 5 195 za):Nat×Own)
def Z9:=λza=>((AV.list 2 Dz default za .none):AV)
def BQ:=λza=>(⟨[],[],(.agg (eTForm za)),[],[],[]⟩:R0)
def Px:=λza=>((AV.list 1 Ax 0 za .none):AV)
def QD:=((30000,.row 80 [(.omap 9100000),(.omap 9100001)]):Nat×Own)
def jx:=λza zb zc zd zf zg zm zn=>(⟨[(30000,30000),(37006,37006),(9100005,9100005)],[],(.tuple []),[(Z1 za zb zc zd zf 9100005 zg),(Z8 zm),(9100005,.obj (.map false .i64 zn))],[],[]⟩:R0)
def YN:=((AV.list 2 Dz default ([]:List Ah) .exact):AV)
def Oq:=((.int .i64 (0:Int)):AV)
def d5:=λza zb=>([(10,.arr 1 33 za (Md 1 Ax (0:Int) zb (Tag.fam 70010)))]:List SZ)
def lG:=λza (zb:A3) (zc:A3)=>((.slice 1 (bif za then zb.length else zc.length) (λi=>bif za then Ax (zb.getD i 0) else Ax (zc.getD i 0)) .none):AV)
def Iq:=λza=>((.int .u64 za):AV)
def jy:=λza zb zc zd zf zg=>((30000,.row 110 [(Px za),(Z7 zb),(AV.list 5 Gb default zc .none),(Z7 zd),(Px zf),(.omap 8),(AV.list 5 I7 default zg (.own 37006))]):Nat×Own)
def O9:=λza=>((.agg (P5 za)):AV)
def QE:=λza=>((AV.list 1 H2 [] za .none):AV)
def U9:=((.int .u64 (0:Int)):AV)
def jz:=λza zb zc zd zf zg zm zn zp=>([(Z1 za zb zc zd zf zg zm),(Z8 zn),(zg,.obj (.map false .i64 zp))]:List SZ)
def QF:=λza zb=>((AV.list 1 Ax 0 za (.own zb)):AV)
def lk:=λza (zb:List A6) (zc:List A6)=>((.slice 5 (bif za then zb.length else zc.length) (λi=>bif za then I7 (zb.getD i default) else I7 (zc.getD i default)) (.own 37006)):AV)
def mY:=λza zb zc zd zf zg=>(⟨[(2,(.clo za [] [])),(3,(.ptr 3 0)),(4,(.ptr 4 0)),(6,(.ptr 6 0)),(7,(.ptr 7 0))],[(3,.row 25 [(Z9 zb),(Iq zc)]),(4,.row 25 [(Z9 zd),(Iq zf)]),(6,.row 25 Z5),(7,.row 25 [(AV.list 2 Dz default ([]:List Ah) (.own 5700)),(Iq zg)]),(5700,.tok 2 51 (([]:List Ah).length))],[]⟩:St)
def Mn:=λza=>((.agg (eTForm za)):AV)
def YO:=λza=>((AV.list 5 Gb default za .none):AV)
def jR:=λza zb=>((7,.row 25 [(AV.list 2 Dz default za (.own 5700)),(Iq zb)]):Nat×Own)
def gB:=λza zb=>((.agg (P5 (mget (default:Aj) za zb))):AV)
def YP:=((.slice 0 0 (λ_=>[]) .exact):AV)
def JI:=λza zb zc zd zf zg zm=>([(Z1 za zb zc zd zf 9100005 zg),(Z8 zm)]:List SZ)
def iD:=((AV.list 1 Ax 0 ([]:A3) .exact):AV)
def Vw:=λza=>((.agg (MP za)):AV)
def iE:=((AV.list 2 Dz default ([]:List Ah) .none):AV)
def VY:=λza=>(⟨[],[],(Z6 za),[],[],[]⟩:R0)
def VZ:=λza=>(⟨[],[],(Z7 za),[],[],[]⟩:R0)
def lH:=((AV.list 2 Bp ((0:Int),(0:Int)) ([]:List Gr) .exact):AV)
def BR:=λza=>((.agg (Bp za)):AV)
def mZ:=λza (zb:List Am) (zc:List Am)=>((.slice 5 (bif za then zb.length else zc.length) (λi=>bif za then Gb (zb.getD i default) else Gb (zc.getD i default)) .none):AV)
def TS:=λza=>((30000,.row 23 [(Iq za)]):Nat×Own)
def YQ:=λza zb=>((za,.obj (.map true .i64 zb)):Nat×Own)
def ll:=λza zb zc zd zf zg zm zn zp=>(⟨[(30000,30000),(37006,37006),(9100005,9100005)],[],(.agg (AZ za)),(jz zb zc zd zf zg 9100005 zm zn zp),[],[]⟩:R0)
def jS:=λza=>((AV.list 1 Ax 0 ([za]:A3) .exact):AV)
def ma:=λza zb zc zd zf zg zm=>(⟨[(2,(.clo za [] [])),(3,(.ptr 3 0)),(4,(.ptr 4 0)),(6,(.ptr 6 0)),(7,(.ptr 7 0))],[(3,.row 25 [(Z9 zb),(Iq zc)]),(4,.row 25 [(Z9 zd),(Iq zf)]),(6,.row 25 Z5),(7,.row 25 [zg,(Iq zm)])],[]⟩:St)
def Xr:=((.ptr 30000 0):AV)
def LK:=((2,(.ptr 2 0)):Nat×AV)
def lm:=λza zb zc zd zf zg zm zn zp=>(⟨[(30000,30000),(37006,37006),(9100005,9100005)],[],(.bool za),(jz zb zc zd zf zg 9100005 zm zn zp),[],[]⟩:R0)
def mb:=λza (zb:A3) (zc:A3)=>((.slice 1 (bif (za==true) then zb.length else zc.length) (λi=>bif (za==true) then Ax (zb.getD i 0) else Ax (zc.getD i 0)) .none):AV)
def lI:=λza zb zc zd zf zg zm zn=>(⟨[(30000,30000),(37006,37006)],[],(.bool za),(Z3 zb zc zd zf zg zm zn),[],[]⟩:R0)
def ln:=λ(za:List Gr)=>([(30,.arr 2 73 za.length (λi=>Bp (za.getD i ((0:Int),(0:Int)))))]:List SZ)
abbrev g5:=(Nat×AV)
def lp:=λza zb=>([(72,(AV.list 2 Dz default za .exact)),(73,(AV.list 2 Dz default (zb++za) (.own 5700)))]:List g5)
def QQ:=λza=>((.int .i64 (za:Int)):AV)
def j0:=λ(za:A3)=>((6,.arr 1 208 64 (λi=>Ax (za.getD i 0))):Nat×Own)
def gD:=λza zb zc=>((.int .i64 (bif za then zb else zc)):AV)
def jT:=λza zb=>(⟨[],[],(.tuple [(Iq za),(Z9 zb)]),[],[],[]⟩:R0)
def ZK:=((6,(.vpt 6 64 0 0)):Nat×AV)
def Z58:=(⟨[(4,(AV.list 1 Ax 0 ([]:A3) (.own 6004)))],[(6004,.tok 1 3 (([]:A3).length))],[]⟩:St)
def lq:=λza zb=>(⟨[(30000,30000),(37006,37006)],[],(Z7 za),zb,[],[]⟩:R0)
def ZL:=((5,(.vpt 5 64 0 0)):Nat×AV)
def QG:=((6,(.ptr 6 0)):Nat×AV)
def YR:=λza=>((6,.arr 1 208 64 za):Nat×Own)
def WA:=((4,(.ptr 4 0)):Nat×AV)
def ZM:=λza=>((5,.arr 1 207 64 za):Nat×Own)
def LL:=λza=>((2,.row 99 za):Nat×Own)

abbrev ks:=(LR (Int×Int) Int)
def Ki(a4:Ab):Gr->Option ks:=
 λ((i1,i2):Gr)=>(bif (decide (i2<(a4.Blocks.length:Int))) then(Cq (B6 i2 a4.Blocks.length) (some (.next ((Bh (i1+(Bh ((((a4.Blocks.getD i2.toNat default).Phis).length:Int)+(((a4.Blocks.getD i2.toNat default).Ops).length:Int))))),(Bh (i2+1)))))) else(some (.done i1)))
def N8(a4:Ab):Option Int:=
 ((Ai (Ki a4) ((a4.Blocks.length:Int),(0:Int))).bind (λx5=>(some x5)))
variable{v0:Ab}{v1:Int}
theorem KI(h:N8 v0=some v1):sP 106 [(.agg (X0 v0))] [] (.int .i64 v1) []:=
 sG Tryz.func106 λΓ q=>tW q [1] [1] [1,3] [1] (Ap q Xp [] (tL q h Xp [] (λu (i1,i2)=>(Fo u [(3,(Z7 i1)),(12,(Z7 i2))] [])) (λu i3=>aG Γ (.exit 0) (⟨[(3,(Z7 i3))],[],[]⟩:St)) (λ⟨i1,i2⟩ y h=>Ap q [3,10,11,12,13] [] (gC h (λh=>tV q [3,5,10,11,12] [5] h λh=>tW q Xp [] Xp [] (tN h)) λh=>tS h (gO (Ea (Dv [3] [] q))))) λx5 h=>gA (Ap q [2] [] (tS h (C1 [])))))
def Gl(aA:A3):Int->Option (LR Int (Unit ⊕ Bool)):=
 λ(i1:Int)=>(bif (decide (i1<(aA.length:Int))) then(Cq (B6 i1 aA.length) (bif (bif (decide ((aA.getD i1.toNat 0)<0)) then true else(decide ((2147483647:Int)<(aA.getD i1.toNat 0)))) then(some (.done (.inr false))) else(some (.next (Bh (i1+1)))))) else(some (.done (.inl ()))))
def V0(Γ:Gt)(aA:A3)(r:Bool):Exit->St->Prop:=fK Tryz.prog Γ Tryz.f107.results.toList [] (.bool r) []
def Cu(aA:A3):Option Bool:=
 ((Ai (Gl aA) (0:Int)).bind (λx3=>(match x3 with|(.inl _)=>(some true)|(.inr r5)=>(some r5))))
variable{v2:A3}{v3:Bool}
theorem Em(h:Cu v2=some v3):sP 107 [(Px v2)] [] (.bool v3) []:=
 sG Tryz.func107 λΓ q=>tW q [0] [] [5,6,7] [] (tL q h [5,6,7] [] (λu i1=>(Fo u [(7,(Z7 i1))] [])) (λu x_=>match x_ with|(.inl _)=>aG Γ (.exit 0) (⟨[],[],[]⟩:St)|(.inr r_)=>aR (V0 Γ v2 r_)) (λi1 y h=>Ap q [5,6,7,8] [] (gC h (λh=>tV q [4,5,6,7] [] h λh=>tU q [5,6,7,16] [] (c2 (gI ((decide ((v2.getD i1.toNat 0)<0))==false)) (Ua (decide ((v2.getD i1.toNat 0)<0)))) (gC h (λh=>Ap q [2] [] (tS h (gO (R3 (K0 [] (Le.refl _ _)))))) λh=>Ap q [5,6,7] [] (tN h))) λh=>tS h (gO (Ea (Dv [] [] q))))) λx3 h=>(match x3,h with | .inl _,h=>gA (Ap q [2] [] (tS h (C1 []))) | .inr r5,h=>Vx (λst' hk=>tS h (gK hk))))
def E6(aA:A3):Option Bool:=
 ((bif ((decide ((aA.length:Int)<=64))==true) then Cu aA else some false).bind λx1=>(some (bif (decide ((aA.length:Int)<=64)) then x1 else false)))
theorem I4(h:E6 v2=some v3):sP 179 [(Px v2)] [] (.bool v3) []:=
 sG Tryz.func179 λΓ q=>Ap q [0] [] (tB h λx1 y1 h=>tT q [2] [] [(Z2 x1)] (c3 (gI ((decide ((v2.length:Int)<=64))==true)) (λ(hg:((decide ((v2.length:Int)<=64))==true)=true)=>(Em (A8 hg y1))) (L8 (decide ((v2.length:Int)<=64)))) (tS h (C1 [])))
def Kk(aU:Hc):Option Bool:=
 ((Cu ([aU.Bits,aU.Dst]:A3)).bind λx1=>((bif (x1==true) then E6 aU.From else some false).bind λx2=>((bif ((bif x1 then x2 else false)==true) then E6 aU.Args else some false).bind λx3=>(some (bif (bif x1 then x2 else false) then x3 else false)))))
variable{v4:Hc}
theorem AK(h:Kk v4=some v3):sP 150 [(.agg (CH v4))] [] (.bool v3) []:=
 sG Tryz.func150 λΓ q=>Ap q [1] [1] (tB h λx1 y1 h=>tB h λx2 y2 h=>tB h λx3 y3 h=>gR q [2] [] [(7,(AV.list 1 Ax 0 ([v4.Bits,v4.Dst]:A3) .exact))] [(Z2 x1),(Z2 x2),(Z2 x3)] (UE (Cp 1 Ax (0:Int) ([v4.Bits,v4.Dst]:A3)) (Em y1) (Nr (x1==true) (UE (λ(hg:(x1==true)=true)=>(I4 (A8 hg y2))) (L8 x1) (Nr ((bif x1 then x2 else false)==true) (c2 (λ(hg:((bif x1 then x2 else false)==true)=true)=>(I4 (A8 hg y3))) (L8 (bif x1 then x2 else false))))))) (tS h (C1 [])))
def Et(aA:List Hc):Int->Option (LR Int (Unit ⊕ Bool)):=
 λ(i1:Int)=>(bif (decide (i1<(aA.length:Int))) then(Cq (B6 i1 aA.length) ((Kk (aA.getD i1.toNat default)).bind λx3=>(bif (!x3) then(some (.done (.inr false))) else(some (.next (Bh (i1+1))))))) else(some (.done (.inl ()))))
def Rq(Γ:Gt)(aA:List Hc)(r:Bool):Exit->St->Prop:=fK Tryz.prog Γ Tryz.f149.results.toList [] (.bool r) []
def F4(aA:List Hc):Option Bool:=
 ((Ai (Et aA) (0:Int)).bind (λx4=>(match x4 with|(.inl _)=>(some true)|(.inr r6)=>(some r6))))
variable{v5:List Hc}
theorem Qq(h:F4 v5=some v3):sP 149 [(AV.list 4 CH default v5 .none),(.clo 150 [] [])] [] (.bool v3) []:=
 sG Tryz.func149 λΓ q=>tW q Hb [] H5 [] (tL q h H5 [] (λu i1=>(Fo u [(9,(Z7 i1))] [])) (λu x_=>match x_ with|(.inl _)=>aG Γ (.exit 0) (⟨[],[],[]⟩:St)|(.inr r_)=>aR (Rq Γ v5 r_)) (λi1 y h=>Ap q AA [] (gC h (λh=>tV q AB [6] h λh=>tB h λx3 y3 h=>tT q FA [] [(Z2 x3)] (c1 (AK y3)) (gC h (λh=>Ap q [4] [] (tS h (gO (R3 (K0 [] (Le.refl _ _)))))) λh=>Ap q H5 [] (tN h))) λh=>tS h (gO (Ea (Dv [] [] q))))) λx4 h=>(match x4,h with | .inl _,h=>gA (Ap q [4] [] (tS h (C1 []))) | .inr r6,h=>Vx (λst' hk=>tS h (gK hk))))
def Lp(a1:Ds):Option Bool:=
 ((Cu ([a1.Kind,a1.Bits,a1.Lanes,a1.Dst]:A3)).bind λx1=>((bif (x1==true) then E6 a1.Args else some false).bind λx2=>(some (bif x1 then x2 else false))))
variable{v6:Ds}
theorem DG(h:Lp v6=some v3):sP 152 [(Vw v6)] [] (.bool v3) []:=
 sG Tryz.func152 λΓ q=>Ap q [1] [1] (tB h λx1 y1 h=>tB h λx2 y2 h=>gR q [2] [] [(11,(AV.list 1 Ax 0 ([v6.Kind,v6.Bits,v6.Lanes,v6.Dst]:A3) .exact))] [(Z2 x1),(Z2 x2)] (UE (Cp 1 Ax (0:Int) ([v6.Kind,v6.Bits,v6.Lanes,v6.Dst]:A3)) (Em y1) (Nr (x1==true) (c2 (λ(hg:(x1==true)=true)=>(I4 (A8 hg y2))) (L8 x1)))) (tS h (C1 [])))
def E3(aA:List Ds):Int->Option (LR Int (Unit ⊕ Bool)):=
 λ(i1:Int)=>(bif (decide (i1<(aA.length:Int))) then(Cq (B6 i1 aA.length) ((Lp (aA.getD i1.toNat default)).bind λx3=>(bif (!x3) then(some (.done (.inr false))) else(some (.next (Bh (i1+1))))))) else(some (.done (.inl ()))))
def R5(Γ:Gt)(aA:List Ds)(r:Bool):Exit->St->Prop:=fK Tryz.prog Γ Tryz.f151.results.toList [] (.bool r) []
def Gk(aA:List Ds):Option Bool:=
 ((Ai (E3 aA) (0:Int)).bind (λx4=>(match x4 with|(.inl _)=>(some true)|(.inr r6)=>(some r6))))
variable{v7:List Ds}
theorem Rx(h:Gk v7=some v3):sP 151 [(AV.list 6 MP default v7 .none),(.clo 152 [] [])] [] (.bool v3) []:=
 sG Tryz.func151 λΓ q=>tW q Hb [] H5 [] (tL q h H5 [] (λu i1=>(Fo u [(9,(Z7 i1))] [])) (λu x_=>match x_ with|(.inl _)=>aG Γ (.exit 0) (⟨[],[],[]⟩:St)|(.inr r_)=>aR (R5 Γ v7 r_)) (λi1 y h=>Ap q AA [] (gC h (λh=>tV q AB [6] h λh=>tB h λx3 y3 h=>tT q FA [] [(Z2 x3)] (c1 (DG y3)) (gC h (λh=>Ap q [4] [] (tS h (gO (R3 (K0 [] (Le.refl _ _)))))) λh=>Ap q H5 [] (tN h))) λh=>tS h (gO (Ea (Dv [] [] q))))) λx4 h=>(match x4,h with | .inl _,h=>gA (Ap q [4] [] (tS h (C1 []))) | .inr r6,h=>Vx (λst' hk=>tS h (gK hk))))
def Kj(aE:Jb):Option Bool:=
 ((Cu ([aE.Kind,aE.Arg]:A3)).bind λx1=>((bif (x1==true) then E6 aE.To else some false).bind λx2=>(some (bif x1 then x2 else false))))
variable{v8:Jb}
theorem AJ(h:Kj v8=some v3):sP 153 [(.agg (bH v8))] [] (.bool v3) []:=
 sG Tryz.func153 λΓ q=>Ap q [1] [1] (tB h λx1 y1 h=>tB h λx2 y2 h=>gR q [2] [] [(7,(AV.list 1 Ax 0 ([v8.Kind,v8.Arg]:A3) .exact))] [(Z2 x1),(Z2 x2)] (UE (Cp 1 Ax (0:Int) ([v8.Kind,v8.Arg]:A3)) (Em y1) (Nr (x1==true) (c2 (λ(hg:(x1==true)=true)=>(I4 (A8 hg y2))) (L8 x1)))) (tS h (C1 [])))
def Ix(aI:Am):Option Bool:=
 ((F4 aI.Phis).bind λx1=>((bif (x1==true) then Gk aI.Ops else some false).bind λx2=>((bif ((bif x1 then x2 else false)==true) then Kj (⟨aI.End.Kind,aI.End.Arg,aI.End.To⟩:Jb) else some false).bind λx3=>(some (bif (bif x1 then x2 else false) then x3 else false)))))
variable{v9:Am}
theorem Wv(h:Ix v9=some v3):sP 109 [(.agg (Gb v9))] [] (.bool v3) []:=
 sG Tryz.func109 λΓ q=>Ap q [1] [1] (tB h λx1 y1 h=>tB h λx2 y2 h=>tB h λx3 y3 h=>tT q [2] [] [(Z2 x1),(Z2 x2),(Z2 x3)] (ci (Qq y1) (Nr (x1==true) (UE (λ(hg:(x1==true)=true)=>(Rx (A8 hg y2))) (L8 x1) (Nr ((bif x1 then x2 else false)==true) (c2 (λ(hg:((bif x1 then x2 else false)==true)=true)=>(AJ (A8 hg y3))) (L8 (bif x1 then x2 else false))))))) (tS h (C1 [])))
def D3(aA:List Am):Int->Option (LR Int (Unit ⊕ Bool)):=
 λ(i1:Int)=>(bif (decide (i1<(aA.length:Int))) then(Cq (B6 i1 aA.length) ((Ix (aA.getD i1.toNat default)).bind λx3=>(bif (!x3) then(some (.done (.inr false))) else(some (.next (Bh (i1+1))))))) else(some (.done (.inl ()))))
def O8(Γ:Gt)(aA:List Am)(r:Bool):Exit->St->Prop:=fK Tryz.prog Γ Tryz.f108.results.toList [] (.bool r) []
def E2(aA:List Am):Option Bool:=
 ((Ai (D3 aA) (0:Int)).bind (λx4=>(match x4 with|(.inl _)=>(some true)|(.inr r6)=>(some r6))))
variable{v10:List Am}
theorem O3(h:E2 v10=some v3):sP 108 [(YO v10),(.clo 109 [] [])] [] (.bool v3) []:=
 sG Tryz.func108 λΓ q=>tW q Hb [] H5 [] (tL q h H5 [] (λu i1=>(Fo u [(9,(Z7 i1))] [])) (λu x_=>match x_ with|(.inl _)=>aG Γ (.exit 0) (⟨[],[],[]⟩:St)|(.inr r_)=>aR (O8 Γ v10 r_)) (λi1 y h=>Ap q AA [] (gC h (λh=>tV q AB [6] h λh=>tB h λx3 y3 h=>tT q FA [] [(Z2 x3)] (c1 (Wv y3)) (gC h (λh=>Ap q [4] [] (tS h (gO (R3 (K0 [] (Le.refl _ _)))))) λh=>Ap q H5 [] (tN h))) λh=>tS h (gO (Ea (Dv [] [] q))))) λx4 h=>(match x4,h with | .inl _,h=>gA (Ap q [4] [] (tS h (C1 []))) | .inr r6,h=>Vx (λst' hk=>tS h (gK hk))))
def Q2(a4:Ab):=(decide ((a4.Blocks.length:Int)<1))
def Q1(a4:Ab):=(decide ((16:Int)<(a4.Params.length:Int)))
def Qg(a4:Ab):Option Bool:=
 (bif (bif (decide ((a4.Blocks.length:Int)<1)) then true else(decide ((64:Int)<(a4.Blocks.length:Int)))) then(some false) else((bif ((decide ((16:Int)<(a4.Params.length:Int)))==false) then N8 a4 else some (0:Int)).bind λx1=>(bif (bif (decide ((16:Int)<(a4.Params.length:Int))) then true else(decide ((512:Int)<x1))) then(some false) else((Cu a4.Params).bind λx2=>((bif (x2==true) then Cu ([a4.Ret]:A3) else some false).bind λx3=>((bif ((bif x2 then x3 else false)==true) then E2 a4.Blocks else some false).bind λx4=>(some (bif (bif x2 then x3 else false) then x4 else false))))))))
theorem NX(h:Qg v0=some v3):sP 75 [(.agg (X0 v0))] [] (.bool v3) []:=
 sG Tryz.func75 λΓ q=>Ap q [1] [1] (tU q [1,12] [1] (MX ((Q2 v0)==false) (c1 (Ua (Q2 v0)))) (gC h (λh=>Ap q [2] [] (tS h (C1 []))) λh=>tB h λx1 y1 h=>tT q [1,21] [1] [(VZ x1)] (c4 (gI ((Q1 v0)==false)) (λ(hg:((Q1 v0)==false)=true)=>(KI (A8 hg y1))) (gI ((Q1 v0)==false)) (Ua (Q1 v0))) (gC h (λh=>Ap q [2] [] (tS h (C1 []))) λh=>tB h λx2 y2 h=>tB h λx3 y3 h=>tB h λx4 y4 h=>gR q [2] [] [(28,(jS v0.Ret))] [(Z2 x2),(Z2 x3),(Z2 x4)] (ci (Em y2) (Nr (x2==true) (md (show((x2==true)=true->(AVle (.slice 1 1 (λi=>([[(Z7 v0.Ret)]]:List (List AV)).getD i []) .exact) (jS v0.Ret))) from(λhg=>@(Cp 1 Ax (0:Int) ([v0.Ret]:A3)))) (gI (x2==true)) (λ(hg:(x2==true)=true)=>(Em (A8 hg y3))) (L8 x2) (Nr ((bif x2 then x3 else false)==true) (c2 (λ(hg:((bif x2 then x3 else false)==true)=true)=>(O3 (A8 hg y4))) (L8 (bif x2 then x3 else false))))))) (tS h (C1 [])))))
def Ic(aa9:Bool)(aE:Int):Option Int:=
 (bif aa9 then(some (0:Int)) else(some aE))
variable{v11:Int}
theorem Rg(h:Ic v3 v1=some v11):sP 122 [(.bool v3),(Z7 v1)] [] (.int .i64 v11) []:=
 sG Tryz.func122 λΓ q=>tW q Hb [] [1,5] [] (gC h (λh=>Ap q [4] [] (tS h (C1 []))) λh=>Ap q [4] [] (tS h (C1 [])))
abbrev YG:=(Int×Ab×Int×A3×List A6)
def Gi(a0:Ab)(a5:Int)(a9:A3)(a6:List A6):Option YG:=
 ((Qg a0).bind λx1=>((Ic x1 (4:Int)).bind λx2=>(some (x2,a0,a5,a9,a6))))
variable{v12:List A6}{v13:YG}
theorem Rv(h:Gi v0 v1 v2 v12=some v13):sP 91 [Xr] (Z3 v0.Params v0.Ret v0.Blocks v1 v2 v12 v12.length) (Z7 v13.1) (Z3 v13.2.1.Params v13.2.1.Ret v13.2.1.Blocks v13.2.2.1 v13.2.2.2.1 v13.2.2.2.2 v13.2.2.2.2.length):=
 sG Tryz.func91 λΓ q=>Ap q [0] Fe (tB h λx1 y1 h=>tB h λx2 y2 h=>tT q [2] Fe [(Z2 x1),(VZ x2)] (c2 (NX y1) (Rg y2)) (tS h (C1 AP)))
def Hs(aP:Int):Option Bool:=
 (some (bif (decide ((1:Int)<=aP)) then(decide (aP<=64)) else false))
theorem Ph(h:Hs v1=some v3):sP 114 [(Z7 v1)] [] (.bool v3) []:=
 sG Tryz.func114 λΓ q=>Ap q [0] [] (tU q [2] [] (c2 (gI ((decide ((1:Int)<=v1))==true)) (L8 (decide ((1:Int)<=v1)))) (tS h (C1 [])))
def F8(aJ:Int)(aP:Int):Option Bool:=
 (some (bif (decide ((0:Int)<=aJ)) then(decide (aJ<aP)) else false))
theorem Ll(h:F8 v1 v11=some v3):sP 155 [(Z7 v1),(Z7 v11)] [] (.bool v3) []:=
 sG Tryz.func155 λΓ q=>Ap q Hb [] (tU q [4] [] (Nr ((decide ((0:Int)<=v1))==true) (c1 (L8 (decide ((0:Int)<=v1))))) (tS h (C1 [])))
def B0(aE:Jb)(aP:Int):Int->Option (LR Int (Unit ⊕ Bool)):=
 λ(i7:Int)=>(bif (decide (i7<(aE.To.length:Int))) then(Cq (B6 i7 aE.To.length) ((bif (((aE.To.getD i7.toNat 0)==0)==false) then F8 (aE.To.getD i7.toNat 0) aP else some false).bind λx9=>(bif (bif ((aE.To.getD i7.toNat 0)==0) then true else(!x9)) then(some (.done (.inr false))) else(some (.next (Bh (i7+1))))))) else(some (.done (.inl ()))))
def Q0(Γ:Gt)(aE:Jb)(aP:Int)(r:Bool):Exit->St->Prop:=fK Tryz.prog Γ Tryz.f115.results.toList [] (.bool r) []
def Q3(aE:Jb)(i7:Int):=((aE.To.getD i7.toNat 0)==0)
def Jl(aE:Jb)(aP:Int):Option Bool:=
 (Option.bind (α:=(Int ⊕ Bool)) (Option.bind (α:=Bool) (bif (aE.Kind==0) then(some (aE.Kind==0)) else(some (aE.Kind==3))) (λx3=>(bif x3 then(some (.inl (0:Int))) else(bif (aE.Kind==1) then(some (.inl (1:Int))) else(bif (aE.Kind==2) then(some (.inl (2:Int))) else(some (.inr false))))))) (λx5=>(match x5 with|(.inl i1)=>(bif ((aE.To.length:Int)!=i1) then(some false) else((Ai (B0 aE aP) (0:Int)).bind (λx10=>(match x10 with|(.inl _)=>(some true)|(.inr r12)=>(some r12)))))|(.inr r13)=>(some r13))))
theorem Yj(h:Jl v8 v1=some v3):sP 115 [(.agg (bH v8)),(Z7 v1)] [] (.bool v3) []:=
 sG Tryz.func115 λΓ q=>tW q Xq [2] IW [2] (tB h λx5 y5 h=>gJ y5 (λx_=>match x_ with|(.inl i1)=>aG Γ .normal (⟨[(1,(Z7 v1)),LK,(5,(Z7 i1))],[(2,.row 46 [(Z7 v8.Kind),(Z7 v8.Arg),(Px v8.To)])],[]⟩:St)|(.inr r_)=>aR (Q0 Γ v8 v1 r_)) (λy h=>Ap q [1,2,5,9] [2] (tB h λx3 y3 h=>gJ y3 (λb2=>aG Γ .normal (⟨[(1,(Z7 v1)),LK,(5,Oq),(9,(Z7 v8.Kind)),(10,(.bool b2))],[(2,.row 46 [(Z7 v8.Kind),(Z7 v8.Arg),(Px v8.To)])],[]⟩:St)) (λy h=>Ap q [1,2,5,9,10] [2] (gC h (λh=>tS h (gK (Ea Ns))) λh=>Ap q [1,2,5,9,10] [2] (tS h (gK (Ea Ns))))) (gA (gC h (λh=>tS h (gK (Ea (Dv IW [2] q)))) λh=>Ap q [1,2,9,13] [2] (gC h (λh=>Ap q IW [2] (tS h (gK (Ea Ns)))) λh=>Ap q [1,2,15] [2] (gC h (λh=>Ap q IW [2] (tS h (gK (Ea Ns)))) λh=>Ap q [4] [] (tS h (gK (R3 (K0 [] (Le.refl _ _))))))))))) (match x5,h with | .inl i1,h=>gA (Ap q [1,2,21] [2] (gC h (λh=>Ap q [4] [] (tS h (C1 []))) λh=>Ap q TJ [] (tL q h TJ [] (λu i7=>(Fo u [(25,(Z7 i7))] [])) (λu x_=>match x_ with|(.inl _)=>aG Γ (.exit 1) (⟨[],[],[]⟩:St)|(.inr r_)=>aR (Q0 Γ v8 v1 r_)) (λi7 y h=>Ap q [1,23,24,25,26] [] (gC h (λh=>tV q [1,7,23,24,25] [] h λh=>tB h λx9 y9 h=>tT q [1,23,24,25,36] [] [(Z2 x9)] (Nr ((Q3 v8 i7)==false) (c3 (λ(hg:((Q3 v8 i7)==false)=true)=>(Ll (A8 hg y9))) (gI ((Q3 v8 i7)==false)) (Ua (Q3 v8 i7)))) (gC h (λh=>Ap q [4] [] (tS h (gO (R3 (K0 [] (Le.refl _ _)))))) λh=>Ap q TJ [] (tN h))) λh=>tS h (gO (Ea (Dv [] [] q))))) λx10 h=>(match x10,h with | .inl _,h=>gA (Ap q [4] [] (tS h (C1 []))) | .inr r12,h=>Vx (λst' hk=>tS h (gK hk)))))) | .inr r13,h=>Vx (λst' hk=>tS h (gK hk))))
abbrev jY:=(Int×Nt)
def D4(aB:Nt)(i2:Int):jY->Option (LR (Int×Nt) Nt):=
 λ((i6,l7):jY)=>(bif (decide (i6<((aB.getD i2.toNat []).length:Int))) then(Cq (B6 i6 (aB.getD i2.toNat []).length) (Cq (B6 ((aB.getD i2.toNat []).getD i6.toNat 0) l7.length) (Cq (B6 ((aB.getD i2.toNat []).getD i6.toNat 0) l7.length) (Cq ((l7.getD ((aB.getD i2.toNat []).getD i6.toNat 0).toNat []).length+([i2]:A3).length<=room) (Cq (B6 ((aB.getD i2.toNat []).getD i6.toNat 0) l7.length) (some (.next ((Bh (i6+1)),(l7.set ((aB.getD i2.toNat []).getD i6.toNat 0).toNat ((l7.getD ((aB.getD i2.toNat []).getD i6.toNat 0).toNat [])++([i2]:A3))))))))))) else(some (.done l7)))
def D5(aB:Nt):jY->Option (LR (Int×Nt) Nt):=
 λ((i2,l3):jY)=>(bif (decide (i2<(aB.length:Int))) then(Cq (B6 i2 aB.length) ((Ai (D4 aB i2) ((0:Int),l3)).bind (λx14=>(some (.next ((Bh (i2+1)),x14)))))) else(some (.done l3)))
def Q8(i2:Int):=([i2]:A3)
def Q4(aB:Nt)(i2:Int)(i6:Int):=((aB.getD i2.toNat []).getD i6.toNat 0)
def Q9(l7:Nt)(aB:Nt)(i2:Int)(i6:Int):=(l7.getD (Q4 aB i2 i6).toNat [])
def Q5(aB:Nt):=(List.replicate (aB.length:Int).toNat ([]:A3))
def jf(l7:Nt)(aB:Nt)(i2:Int)(i6:Int):=(l7.set (Q4 aB i2 i6).toNat ((Q9 l7 aB i2 i6)++(Q8 i2)))
def Q7(aB:Nt):List g5:=[(0,(QE aB)),(3,(.vsl 10 (aB.length:Int).toNat))]
def Q6(l7:Nt)(i2:Int)(aB:Nt)(i6:Int):List g5:=[(3,(.vsl 10 l7.length)),(4,(Z7 i2)),(11,(QE aB)),(12,(QQ aB.length)),(13,(Z7 i2)),(18,(AV.list 1 Ax 0 (aB.getD i2.toNat []) .none)),(19,(.int .i64 ((aB.getD i2.toNat []).length:Int))),(20,(Z7 i6))]
def mG(l7:Nt)(i2:Int)(aB:Nt)(i6:Int):List g5:=[(3,(.vsl 10 l7.length)),(4,(Z7 i2)),(7,(Z7 (Q4 aB i2 i6))),(11,(QE aB)),(12,(QQ aB.length)),(13,(Z7 i2)),(18,(AV.list 1 Ax 0 (aB.getD i2.toNat []) .none)),(19,(.int .i64 ((aB.getD i2.toNat []).length:Int))),(20,(Z7 i6))]
def Ig(aB:Nt):Option Nt:=
 (Cq (0<=(aB.length:Int)/\(aB.length:Int)<=(aB.length:Int)/\(aB.length:Int)<=(room:Int)) ((Ai (D5 aB) ((0:Int),(List.replicate (aB.length:Int).toNat ([]:A3)))).bind (λx16=>(some x16))))
variable{v14:Nt}{v15:Nt}
theorem Ri(h:Ig v14=some v15):sP 117 [(QE v14)] [] (AV.list 1 H2 [] v15 (.own 20000)) [(20000,.tok 1 33 v15.length)]:=
 sG Tryz.func117 λΓ q=>have hΓ:=q.own;gR q [0] [] [(2,(AV.list 1 H2 [] ([]:Nt) .exact))] [] (c1 (Ir 1 H2 [])) (tV q U7 [10] h λh=>Tn (⟨(Q7 v14),[(10,.arr 1 33 ((v14.length:Int).toNat) (λi_=>AV.eraseAll (λn_=>Ca n_ [10]) ((λ_=>[YP]) i_)))],[]⟩:St) (Mz (Le.trans (Kg (st':=⟨(Q7 v14),[(10,.arr 1 33 ((v14.length:Int).toNat) (Md 1 Ax (0:Int) (Q5 v14) (λ_=>.exact)))],[]⟩) (TmpsLe.refl _) (.arr bK .nil)) (Le.trans (Le.trans (be (r:=10) (b:=70010) Ax (0:Int) (Q5 v14) 3 rfl rfl (Xd ..).symm (λh_=>absurd h_ (by decide))) (M7 (st':=⟨(Q7 v14),[(10,.arr 1 33 ((v14.length:Int).toNat) (Md 1 Ax (0:Int) (Q5 v14) (Tag.fam 70010)))],[(70010,⟨1,3,Mo (Q5 v14)⟩)]⟩) (by kernel_rfl))) (M7 (B5 (λk_:Nat=>(⟨[(0,(QE v14)),(3,(.vsl 10 k_))],(d5 k_ (Q5 v14)),[(70010,⟨1,3,Mo (Q5 v14)⟩)]⟩:St)) (show(v14.length:Int).toNat=(Q5 v14).length from(Xd ..).symm))))) (Ap q PV Oo (tL q h PV Oo (λu (i2,l3)=>(Fo u [(3,(.vsl 10 l3.length)),(13,(Z7 i2))] (d5 l3.length l3) [(70010,⟨1,3,Mo l3⟩)])) (λu l4=>aG Γ (.exit 0) (⟨[(3,(.vsl 10 l4.length))],(d5 l4.length l4),[(70010,⟨1,3,Mo l4⟩)]⟩:St)) (λ⟨i2,l3⟩ y h=>Ap q [3,11,12,13,14] Oo (gC h (λh=>tV q [3,4,5,11,12,13] Oo h λh=>Ap q VJ Oo (tL q h VJ Oo (λu (i6,l7)=>(Fo u [(3,(.vsl 10 l7.length)),(20,(Z7 i6))] (d5 l7.length l7) [(70010,⟨1,3,Mo l7⟩)])) (λu l8=>aG Γ (.exit 2) (Xt PV Oo u [(3,(.vsl 10 l8.length))] (d5 l8.length l8) [(70010,⟨1,3,Mo l8⟩)])) (λ⟨i6,l7⟩ y h=>Ap q [3,4,11,12,13,18,19,20,21] Oo (gC h (λh=>tV q [3,4,7,11,12,13,18,19,20] Oo h λh=>Tn (⟨(mG l7 i2 v14 i6),(d5 l7.length l7),[(70010,⟨1,3,Mo l7⟩)]⟩:St) (tC h λc10_ h=>tC h λc11_ h=>tC h λc12_ h=>tC h λc13_ h=>Mz (Le.trans (ep (r:=10) (b:=70010) (k:=60010) Ax (0:Int) l7 (Q4 v14 i2 i6).toNat 3 rfl rfl rfl rfl (N4 c10_) (by kernel_rfl) (.here .nil)) (M7 (st':=⟨(mG l7 i2 v14 i6),[(10,.arr 1 33 l7.length (Md 1 Ax (0:Int) l7 (Fg 70010 (Q4 v14 i2 i6).toNat 60010))),(60010,.tok 1 3 ((Q9 l7 v14 i2 i6).length))],[(70010,⟨1,3,Wf l7 (Q4 v14 i2 i6).toNat⟩)]⟩) (by kernel_rfl))) (gR q VJ [10,60010,70010] [(29,(QF (Q9 l7 v14 i2 i6) 60010)),(31,(AV.list 1 Ax 0 (Q8 i2) .exact)),(32,(AV.list 1 Ax 0 ((Q9 l7 v14 i2 i6)++(Q8 i2)) (.own 60010)))] [] (me c11_ (Eq.refl l7.length) (show(AVle (((Md 1 Ax (0:Int) l7 (Fg 70010 (Q4 v14 i2 i6).toNat 60010)) (Q4 v14 i2 i6).toNat).getD 0 .any) (QF (Q9 l7 v14 i2 i6) 60010)) from WC) (Cp 1 Ax (0:Int) (Q8 i2)) (Eq.refl ((Q9 l7 v14 i2 i6).length)) c12_ (V4 1 60010 Ax (0:Int) (Q9 l7 v14 i2 i6) (Q8 i2)) (Iu (Q9 l7 v14 i2 i6) (Q8 i2)) c13_ (c1 (Eq.refl l7.length))) (Tn (⟨(Q6 l7 i2 v14 i6),[(10,.arr 1 33 l7.length (λi_=>AV.eraseAll (λn_=>Ca n_ [10,60010,70010]) ((K1 (Md 1 Ax (0:Int) l7 (Fg 70010 (Q4 v14 i2 i6).toNat 60010)) (Q4 v14 i2 i6).toNat 0 [(AV.list 1 Ax 0 ((Q9 l7 v14 i2 i6)++(Q8 i2)) (.own 60010))]) i_))),(60010,.tok 1 3 (((Q9 l7 v14 i2 i6)++(Q8 i2)).length))],[(70010,⟨1,3,Wf l7 (Q4 v14 i2 i6).toNat⟩)]⟩:St) (Mz (Le.trans (Le.trans (ic (r:=10) (b:=70010) (k:=60010) Ax (0:Int) l7 (Q4 v14 i2 i6).toNat ((Q9 l7 v14 i2 i6)++(Q8 i2)) 3 rfl (cM (N4 c10_) rfl rfl) rfl rfl rfl rfl (N4 c10_) (by kernel_rfl) (.here (.tok .nil)) (by rw[hΓ];rfl)) (M7 (st':=⟨(Q6 l7 i2 v14 i6),(d5 l7.length (jf l7 v14 i2 i6)),[(70010,⟨1,3,Mo (jf l7 v14 i2 i6)⟩)]⟩) (by kernel_rfl))) (M7 (B5 (λk_:Nat=>(⟨[(3,(.vsl 10 k_)),(4,(Z7 i2)),(11,(QE v14)),(12,(QQ v14.length)),(13,(Z7 i2)),(18,(AV.list 1 Ax 0 (v14.getD i2.toNat []) .none)),(19,(.int .i64 ((v14.getD i2.toNat []).length:Int))),(20,(Z7 i6))],(d5 k_ (jf l7 v14 i2 i6)),[(70010,⟨1,3,Mo (jf l7 v14 i2 i6)⟩)]⟩:St)) (show l7.length=(jf l7 v14 i2 i6).length from(Hx ..).symm)))) (Ap q VJ Oo (tN h))))))) λh=>tS h (gO (Ea (Dv PV Oo q))))) λx14 h=>gA (Ap q PV Oo (tN h)))) λh=>tS h (gO (Ea (Dv [3] Oo q))))) λx16 h=>gA (Ap q [2] Oo (Tn (⟨[(2,(.vsl 10 x16.length))],(d5 x16.length x16),[(70010,⟨1,3,Mo x16⟩)]⟩:St) (tS h (gK (e:=.ret) (K0 [(10,20000)] (Le.trans (Lb (nm:=10) (sz:=1) (n:=x16.length) (e:=33) (f:=(Md 1 Ax (0:Int) x16 (Tag.fam 70010))) (g:=(λi=>H2 (x16.getD i []))) rfl ⟨rfl,trivial⟩ (λ_ _=>rfl) (by rw[hΓ];rfl)) (Dv (st':=⟨[(2,(AV.list 1 H2 [] x16 (.own 10)))],[(10,.tok 1 33 x16.length)],[]⟩) [2] [10] q)))))))))))
def Ew(a4:Ab):jY->Option (LR (Int×Nt) (Nt ⊕ (Cw×Int))):=
 λ((i3,l4):jY)=>(bif (decide (i3<(a4.Blocks.length:Int))) then(Cq (B6 i3 a4.Blocks.length) ((Jl (⟨(a4.Blocks.getD i3.toNat default).End.Kind,(a4.Blocks.getD i3.toNat default).End.Arg,(a4.Blocks.getD i3.toNat default).End.To⟩:Jb) (a4.Blocks.length:Int)).bind λx7=>(bif (!x7) then(some (.done (.inr ((⟨([]:Nt),([]:Nt)⟩:Cw),(5:Int))))) else((Xc ((a4.Blocks.getD i3.toNat default).End.To)).bind λx8=>(Cq (B6 i3 l4.length) (some (.next ((Bh (i3+1)),(l4.set i3.toNat x8))))))))) else(some (.done (.inl l4))))
abbrev ky:=(Cw×Int)
def QK(Γ:Gt)(a4:Ab)(r:ky):Exit->St->Prop:=fK Tryz.prog Γ Tryz.f87.results.toList [] (.tuple [(.agg (P4 r.1)),(Z7 r.2)]) []
def dr:AV:=YP
def jJ:List g5:=[LK,(3,(.int .i64 (5:Int)))]
def mn(a4:Ab)(i3:Int):=(a4.Blocks.getD i3.toNat default)
def k4:AV:=(AV.list 1 H2 [] ([]:Nt) .none)
def lM(a4:Ab):=(List.replicate (a4.Blocks.length:Int).toNat ([]:A3))
def fy:List AV:=[(AV.list 1 H2 [] ([]:Nt) .exact),(AV.list 1 H2 [] ([]:Nt) .exact)]
def Qi(a4:Ab):Option ky:=
 ((Hs (a4.Blocks.length:Int)).bind λx1=>(bif (!x1) then(some ((⟨([]:Nt),([]:Nt)⟩:Cw),(5:Int))) else(Cq (0<=(a4.Blocks.length:Int)/\(a4.Blocks.length:Int)<=(a4.Blocks.length:Int)/\(a4.Blocks.length:Int)<=(room:Int)) ((Ai (Ew a4) ((0:Int),(List.replicate (a4.Blocks.length:Int).toNat ([]:A3)))).bind (λx10=>(match x10 with|(.inl l5)=>((Ig l5).bind λx12=>(some ((⟨l5,x12⟩:Cw),(0:Int))))|(.inr r13)=>(some r13)))))))
variable{v16:ky}
theorem OA(h:Qi v0=some v16):sP 87 [(.agg (X0 v0))] [] (.tuple [(.agg (P4 v16.1)),(Z7 v16.2)]) []:=
 sG Tryz.func87 λΓ q=>have hΓ:=q.own;tW q Xq Xq [1,2,4] Xq (tB h λx1 y1 h=>tT q [1,2,4,13] Xq [(Z2 x1)] (c1 (Ph y1)) (gC h (λh=>gR q Pv [2] [(14,(.agg fy))] [] (c1 (show(AVle (.agg [dr,dr]) (.agg fy)) from(AVle.agg (.cons El (.cons El .nil))))) (Tn (⟨jJ,[(LL fy)],[]⟩:St) (tS h (gK (e:=.ret) (K0 [] (show Le Γ _ (⟨jJ,[(2,.row 99 [k4,k4])],[]⟩:St) from Le.trans (Dv (st':=⟨jJ,[(LL fy)],[]⟩) Pv [2] q) (Kg (.cons (AVle.refl _) (.cons (AVle.refl _) .nil)) (.row (.cons AVle.untag (.cons AVle.untag .nil)) .nil)))))))) λh=>tV q [1,2,4,5] [1,2,16] h λh=>by exact Mz (Le.trans (Wh 16 (show ∀ k_,k_<((v0.Blocks.length:Int).toNat)->AVleL ((λi_=>AV.eraseAll (λn_=>Ca n_ [1,2,16]) ((λ_=>[dr]) i_)) k_) ((λi=>H2 ((lM v0).getD i [])) k_) from(λk hk=>Wl (e:=H2) (d:=[]) (.cons (λ_ _ _ _ _ hh=>AVle.untag _ _ _ _ _ (El _ _ _ _ _ hh)) .nil) _ k (W6 hk)))) (Sf (λ(k_:Nat) u=>(Fo u [(5,(.vsl 16 k_))] [(16,.arr 1 33 k_ (λi=>H2 ((lM v0).getD i [])))])) (show(v0.Blocks.length:Int).toNat=(lM v0).length from(Xd ..).symm))) (Ap q VO U6 (tL q h VO U6 (λu (i3,l4)=>(Fo u [(5,(.vsl 16 l4.length)),(20,(Z7 i3))] [(16,.arr 1 33 l4.length (λi=>H2 (l4.getD i [])))])) (λu x_=>match x_ with|(.inl l5)=>aG Γ (.exit 0) (Xt [2,5] U6 u [(5,(.vsl 16 l5.length))] [(16,.arr 1 33 l5.length (λi=>H2 (l5.getD i [])))])|(.inr r_)=>aR (QK Γ v0 r_)) (λ⟨i3,l4⟩ y h=>Ap q [2,4,5,18,19,20,21] U6 (gC h (λh=>tV q [2,4,5,6,7,18,19,20] [2,7,16] h λh=>tB h λx7 y7 h=>tT q [2,4,5,6,7,18,19,20,29] [2,7,16] [(Z2 x7)] (c1 (Yj y7)) (gC h (λh=>gR q Pv [2] [(30,(.agg fy))] [] (c1 (show(AVle (.agg [dr,dr]) (.agg fy)) from(AVle.agg (.cons El (.cons El .nil))))) (Tn (⟨jJ,[(LL fy)],[]⟩:St) (tS h (gO (R3 (K0 [] (show Le Γ _ (⟨jJ,[(2,.row 99 [k4,k4])],[]⟩:St) from Le.trans (Dv (st':=⟨jJ,[(LL fy)],[]⟩) Pv [2] q) (Kg (.cons (AVle.refl _) (.cons (AVle.refl _) .nil)) (.row (.cons AVle.untag (.cons AVle.untag .nil)) .nil))))))))) λh=>tB h λx8 y8 h=>tC h λc9_ h=>tT q VO U6 [⟨[],[],(Px x8),[],[],[]⟩] (c3 (SY ((mn v0 i3).End.To) x8 y8) c9_ (Eq.refl l4.length)) (Mz (Le.trans (Wh 16 (show ∀ k_,k_<l4.length->AVleL ((λi_=>AV.eraseAll (λn_=>Ca n_ U6) ((K1 (λi=>H2 (l4.getD i [])) i3.toNat 0 [(Px x8)]) i_)) k_) ((λi=>H2 ((l4.set i3.toNat x8).getD i [])) k_) from(Cf (Hx ..).symm (λk_ hk_=>(B5 (AV.eraseAll (λn_=>Ca n_ U6)) ((Lz (λ_ _=>rfl) (N5 c9_) rfl) k_ hk_)).trans rfl)))) (Sf (λ(k_:Nat) u=>(Fo u [(5,(.vsl 16 k_))] [(16,.arr 1 33 k_ (λi=>H2 ((l4.set i3.toNat x8).getD i [])))])) (show l4.length=(l4.set i3.toNat x8).length from(Hx ..).symm))) (Ap q VO U6 (tN h))))) λh=>tS h (gO (Ea (Dv [2,5] U6 q))))) λx10 h=>(match x10,h with | .inl l5,h=>gA (Tn (⟨[LK,(5,(.vsl 16 l5.length))],[(2,.row 99 [dr,dr]),(16,.arr 1 33 l5.length (λi=>H2 (l5.getD i [])))],[]⟩:St) (Mz (Le.trans (Lb (nm:=16) (sz:=1) (n:=l5.length) (e:=33) (f:=(λi=>H2 (l5.getD i []))) (g:=(λi=>H2 (l5.getD i []))) rfl ⟨rfl,trivial⟩ (λ_ _=>rfl) (by rw[hΓ];rfl)) (M7 (st':=⟨[LK,(5,(AV.list 1 H2 [] l5 (.own 16)))],[(2,.row 99 [dr,dr]),(16,.tok 1 33 l5.length)],[]⟩) (by kernel_rfl))) (tB h λx12 y12 h=>tT q Pv [2,16,41] [⟨[],[(20000,41)],(AV.list 1 H2 [] x12 (.own 20000)),[(20000,.tok 1 33 x12.length)],[],[]⟩] (c1 (Ri y12)) (tS h (C1 []))))) | .inr r13,h=>Vx (λst' hk=>tS h (gK hk)))))))
abbrev mh:=(LR (Int×Int) (Unit ⊕ Bool))
def Ci(aB:Nt)(i2:Int):Gr->Option mh:=
 λ((i4,i5):Gr)=>(bif (decide (i5<((aB.getD i2.toNat []).length:Int))) then(Cq (B6 i5 (aB.getD i2.toNat []).length) ((bif ((decide (((aB.getD i2.toNat []).getD i5.toNat 0)<=i4))==false) then F8 ((aB.getD i2.toNat []).getD i5.toNat 0) (aB.length:Int) else some false).bind λx7=>(bif (bif (decide (((aB.getD i2.toNat []).getD i5.toNat 0)<=i4)) then true else(!x7)) then(some (.done (.inr false))) else(some (.next (((aB.getD i2.toNat []).getD i5.toNat 0),(Bh (i5+1)))))))) else(some (.done (.inl ()))))
def Cj(aB:Nt):Int->Option (LR Int (Unit ⊕ Bool)):=
 λ(i2:Int)=>(bif (decide (i2<(aB.length:Int))) then(Cq (B6 i2 aB.length) ((Ai (Ci aB i2) ((-1:Int),(0:Int))).bind (λx8=>(match x8 with|(.inl _)=>(some (.next (Bh (i2+1))))|(.inr r10)=>(some (.done (.inr r10))))))) else(some (.done (.inl ()))))
def Ra(Γ:Gt)(aB:Nt)(r:Bool):Exit->St->Prop:=fK Tryz.prog Γ Tryz.f183.results.toList [] (.bool r) []
def k5(aB:Nt)(i2:Int)(i5:Int)(i4:Int):=(decide (((aB.getD i2.toNat []).getD i5.toNat 0)<=i4))
def Jm(aB:Nt):Option Bool:=
 ((Hs (aB.length:Int)).bind λx1=>(bif (!x1) then(some false) else((Ai (Cj aB) (0:Int)).bind (λx11=>(match x11 with|(.inl _)=>(some true)|(.inr r13)=>(some r13))))))
theorem Yk(h:Jm v14=some v3):sP 183 [(QE v14)] [] (.bool v3) []:=
 sG Tryz.func183 λΓ q=>Ap q [0] [] (tB h λx1 y1 h=>tT q [0,11] [] [(Z2 x1)] (c1 (Ph y1)) (gC h (λh=>Ap q [2] [] (tS h (C1 []))) λh=>Ap q PW [] (tL q h PW [] (λu i2=>(Fo u [(14,(Z7 i2))] [])) (λu x_=>match x_ with|(.inl _)=>aG Γ (.exit 0) (⟨[],[],[]⟩:St)|(.inr r_)=>aR (Ra Γ v14 r_)) (λi2 y h=>Ap q [0,12,13,14,15] [] (gC h (λh=>tV q [0,4,12,13,14] [] h λh=>tW q [0,4,5,12,13,14] [] VK [] (tL q h VK [] (λu (i4,i5)=>(Fo u [(5,(Z7 i4)),(20,(Z7 i5))] [])) (λu x_=>match x_ with|(.inl _)=>aG Γ (.exit 2) (Xt PW [] u [] [])|(.inr r_)=>aR (Ra Γ v14 r_)) (λ⟨i4,i5⟩ y h=>Ap q [0,5,12,13,14,18,19,20,21] [] (gC h (λh=>tV q [0,5,7,12,13,14,18,19,20] [] h λh=>tB h λx7 y7 h=>tT q [0,7,12,13,14,18,19,20,33] [] [(Z2 x7)] (MX ((k5 v14 i2 i5 i4)==false) (c3 (λ(hg:((k5 v14 i2 i5 i4)==false)=true)=>(Ll (A8 hg y7))) (gI ((k5 v14 i2 i5 i4)==false)) (Ua (k5 v14 i2 i5 i4)))) (gC h (λh=>Ap q [2] [] (tS h (gO (R3 (K0 [] (Le.refl _ _)))))) λh=>tW q VK [] VK [] (tN h))) λh=>tS h (gO (Ea (Dv PW [] q))))) λx8 h=>(match x8,h with | .inl _,h=>gA (Ap q PW [] (tN h)) | .inr r10,h=>Vx (λst' hk=>tS h (gO (R3 hk)))))) λh=>tS h (gO (Ea (Dv [] [] q))))) λx11 h=>(match x11,h with | .inl _,h=>gA (Ap q [2] [] (tS h (C1 []))) | .inr r13,h=>Vx (λst' hk=>tS h (gK hk))))))
def Bf(aM:A3)(aO:A3):Int->Option (LR Int (Unit ⊕ Bool)):=
 λ(i1:Int)=>(bif (decide (i1<(aM.length:Int))) then(Cq (B6 i1 aM.length) (Cq (B6 i1 aO.length) (bif ((aM.getD i1.toNat 0)!=(aO.getD i1.toNat 0)) then(some (.done (.inr false))) else(some (.next (Bh (i1+1))))))) else(some (.done (.inl ()))))
def Pz(Γ:Gt)(aM:A3)(aO:A3)(r:Bool):Exit->St->Prop:=fK Tryz.prog Γ Tryz.f119.results.toList [] (.bool r) []
def D7(aM:A3)(aO:A3):Option Bool:=
 (bif ((aM.length:Int)!=(aO.length:Int)) then(some false) else((Ai (Bf aM aO) (0:Int)).bind (λx4=>(match x4 with|(.inl _)=>(some true)|(.inr r6)=>(some r6)))))
variable{v17:A3}
theorem J2(h:D7 v2 v17=some v3):sP 119 [(Px v2),(Px v17)] [] (.bool v3) []:=
 sG Tryz.func119 λΓ q=>tW q Hb [] AC [] (gC h (λh=>Ap q [4] [] (tS h (C1 []))) λh=>Ap q IR [] (tL q h IR [] (λu i1=>(Fo u [(13,(Z7 i1))] [])) (λu x_=>match x_ with|(.inl _)=>aG Γ (.exit 0) (⟨[],[],[]⟩:St)|(.inr r_)=>aR (Pz Γ v2 v17 r_)) (λi1 y h=>Ap q [0,1,12,13,14] [] (gC h (λh=>Ap q [0,1,5,12,13] [] (tC h λc2_ h=>tC h λc3_ h=>tU q [0,1,12,13,24] [] (c2 c2_ c3_) (gC h (λh=>Ap q [4] [] (tS h (gO (R3 (K0 [] (Le.refl _ _)))))) λh=>Ap q IR [] (tN h)))) λh=>tS h (gO (Ea (Dv [] [] q))))) λx4 h=>(match x4,h with | .inl _,h=>gA (Ap q [4] [] (tS h (C1 []))) | .inr r6,h=>Vx (λst' hk=>tS h (gK hk)))))
def Ar(aM:Nt)(aO:Nt):Int->Option (LR Int (Unit ⊕ Bool)):=
 λ(i1:Int)=>(bif (decide (i1<(aM.length:Int))) then(Cq (B6 i1 aM.length) (Cq (B6 i1 aO.length) ((D7 (aM.getD i1.toNat []) (aO.getD i1.toNat [])).bind λx4=>(bif (!x4) then(some (.done (.inr false))) else(some (.next (Bh (i1+1)))))))) else(some (.done (.inl ()))))
def Jp(Γ:Gt)(aM:Nt)(aO:Nt)(r:Bool):Exit->St->Prop:=fK Tryz.prog Γ Tryz.f184.results.toList [] (.bool r) []
def Ck(aM:Nt)(aO:Nt):Option Bool:=
 (bif ((aM.length:Int)!=(aO.length:Int)) then(some false) else((Ai (Ar aM aO) (0:Int)).bind (λx5=>(match x5 with|(.inl _)=>(some true)|(.inr r7)=>(some r7)))))
theorem Je(h:Ck v14 v15=some v3):sP 184 [(QE v14),(QE v15),(.clo 119 [] [])] [] (.bool v3) []:=
 sG Tryz.func184 λΓ q=>tW q [0,1,2] [] [0,1,2,14] [] (gC h (λh=>Ap q [6] [] (tS h (C1 []))) λh=>Ap q dV [] (tL q h dV [] (λu i1=>(Fo u [(17,(Z7 i1))] [])) (λu x_=>match x_ with|(.inl _)=>aG Γ (.exit 0) (⟨[],[],[]⟩:St)|(.inr r_)=>aR (Jp Γ v14 v15 r_)) (λi1 y h=>Ap q [1,2,15,16,17,18] [] (gC h (λh=>tV q [1,2,7,8,15,16,17] [] h λh=>tV q [1,2,8,9,15,16,17] [] h λh=>tB h λx4 y4 h=>tT q [1,2,15,16,17,30] [] [(Z2 x4)] (c1 (J2 y4)) (gC h (λh=>Ap q [6] [] (tS h (gO (R3 (K0 [] (Le.refl _ _)))))) λh=>Ap q dV [] (tN h))) λh=>tS h (gO (Ea (Dv [] [] q))))) λx5 h=>(match x5,h with | .inl _,h=>gA (Ap q [6] [] (tS h (C1 []))) | .inr r7,h=>Vx (λst' hk=>tS h (gK hk)))))
def Ob(aD:Cw):Option Bool:=
 ((Jm aD.Succ).bind λx1=>((bif (x1==true) then Ig aD.Succ else some []).bind λx2=>((bif (x1==true) then Ck aD.Pred x2 else some false).bind λx3=>(some (bif x1 then x3 else false)))))
variable{v18:Cw}
theorem KM(h:Ob v18=some v3):sP 160 [(.agg (P4 v18))] [] (.bool v3) []:=
 sG Tryz.func160 λΓ q=>Ap q [1] [1] (tB h λx1 y1 h=>tB h λx2 y2 h=>tB h λx3 y3 h=>tT q [2] [] [(Z2 x1),⟨[],[],(QE x2),[],[],[]⟩,(Z2 x3)] (ci (Yk y1) (MX (x1==true) (ci (show((x1==true)=true->(sP 117 [(QE v18.Succ)] [] (QE x2) [])) from(λhg=>(Spec.drop (Ri (A8 hg y2))))) (Nr (x1==true) (c2 (λ(hg:(x1==true)=true)=>(Je (A8 hg y3))) (L8 x1)))))) (tS h (C1 [])))
abbrev mF:=(Int×Int×A3)
def A9 :mF->Option (LR (Int×Int×A3) A3):=
 λ((i1,i2,l3):mF)=>(bif (decide (i1<i2)) then(Cq (B6 i2 l3.length) (Cq (B6 i1 l3.length) (Cq (B6 i1 l3.length) (Cq (B6 i2 l3.length) (some (.next ((Bh (i1+1)),(Bh (i2-1)),((l3.set i1.toNat (l3.getD i2.toNat 0)).set i2.toNat (l3.getD i1.toNat 0))))))))) else(some (.done l3)))
def lN(l3:A3)(i1:Int)(i2:Int):=((l3.set i1.toNat (l3.getD i2.toNat 0)).set i2.toNat (l3.getD i1.toNat 0))
def Dq(aY:A3):Option A3:=
 ((Ai (S:=mF) (X:=A3) A9 ((0:Int),(Bh ((aY.length:Int)-1)),aY)).bind (λx9=>(some x9)))
theorem I9(h:Dq v2=some v17):sP 161 [(.vsl 34000 v2.length)] [(Z4 34000 v2)] (.tuple []) [(Z4 34000 v17)]:=
 sG Tryz.func161 λΓ q=>Ap q [0,2,3] [34000] (tL q h [0,2,3] [34000] (λu (i1,i2,l3)=>(Fo u [(0,(.vsl 34000 l3.length)),(2,(Z7 i1)),(3,(Z7 i2))] [(Z4 34000 l3)])) (λu l4=>aG Γ (.exit 0) (⟨[],[(Z4 34000 l4)],[]⟩:St)) (λ⟨i1,i2,l3⟩ y h=>Ap q [0,2,3,9] [34000] (gC h (λh=>tC h λc5_ h=>tC h λc6_ h=>tC h λc7_ h=>tC h λc8_ h=>tU q [0,2,3] [34000] (c8 c5_ (Eq.refl l3.length) c6_ (Eq.refl l3.length) c7_ (Eq.refl l3.length) c8_ (Eq.refl l3.length)) (Mz (Le.trans (Wh 34000 (show ∀ k_,k_<l3.length->AVleL ((λi_=>AV.eraseAll (λn_=>Ca n_ [34000]) ((K1 (K1 (λi=>Ax (l3.getD i 0)) i1.toNat 0 [(.int .i64 (l3.getD i2.toNat 0))]) i2.toNat 0 [(.int .i64 (l3.getD i1.toNat 0))]) i_)) k_) ((λi=>Ax ((lN l3 i1 i2).getD i 0)) k_) from(Cf (Eq.trans (Hx ..).symm (Hx ..).symm) (λk_ hk_=>(B5 (AV.eraseAll (λn_=>Ca n_ [34000])) ((Lz (Lz (λ_ _=>rfl) (N5 c7_) rfl) (ed c8_) rfl) k_ hk_)).trans rfl)))) (Sf (λ(k_:Nat) u=>(Fo u [(0,(.vsl 34000 k_))] [(34000,.arr 1 3 k_ (λi=>Ax ((lN l3 i1 i2).getD i 0)))])) (show l3.length=(lN l3 i1 i2).length from(Eq.trans (Hx ..).symm (Hx ..).symm)))) (Ap q [0,2,3] [34000] (tN h)))) λh=>tS h (gO (Ea (Dv [] [34000] q))))) λx9 h=>gX (λst' hl10=>tS h (gK (e:=.normal) (K0 [(34000,34000)] hl10))))
abbrev mi:=(LR A3 (A3 ⊕ (List Bool×A3×A3)))
def X5(aD:Cw)(a2:Int):A3->Option mi:=
 λ(l9:A3)=>(Cq (B6 ([a2].getD (Bh (([a2].length:Int)-1)).toNat (0:Int)) 64) (Cq (B6 ([a2].getD (Bh (([a2].length:Int)-1)).toNat (0:Int)) aD.Succ.length) (bif (decide ((l9.getD ([a2].getD (Bh (([a2].length:Int)-1)).toNat (0:Int)).toNat (0:Int))<((aD.Succ.getD ([a2].getD (Bh (([a2].length:Int)-1)).toNat (0:Int)).toNat []).length:Int))) then(Cq (B6 ([a2].getD (Bh (([a2].length:Int)-1)).toNat (0:Int)) aD.Succ.length) (Cq (B6 ([a2].getD (Bh (([a2].length:Int)-1)).toNat (0:Int)) 64) (Cq (B6 (l9.getD ([a2].getD (Bh (([a2].length:Int)-1)).toNat (0:Int)).toNat (0:Int)) (aD.Succ.getD ([a2].getD (Bh (([a2].length:Int)-1)).toNat (0:Int)).toNat []).length) (Cq (B6 ([a2].getD (Bh (([a2].length:Int)-1)).toNat (0:Int)) 64) (Cq (B6 ([a2].getD (Bh (([a2].length:Int)-1)).toNat (0:Int)) 64) (Cq (B6 ((aD.Succ.getD ([a2].getD (Bh (([a2].length:Int)-1)).toNat (0:Int)).toNat []).getD (l9.getD ([a2].getD (Bh (([a2].length:Int)-1)).toNat (0:Int)).toNat (0:Int)).toNat (0:Int)) 64) (bif (!((Jx 64 false (List.replicate 64 false) a2.toNat true).getD ((aD.Succ.getD ([a2].getD (Bh (([a2].length:Int)-1)).toNat (0:Int)).toNat []).getD (l9.getD ([a2].getD (Bh (([a2].length:Int)-1)).toNat (0:Int)).toNat (0:Int)).toNat (0:Int)).toNat false)) then(Cq (B6 ((aD.Succ.getD ([a2].getD (Bh (([a2].length:Int)-1)).toNat (0:Int)).toNat []).getD (l9.getD ([a2].getD (Bh (([a2].length:Int)-1)).toNat (0:Int)).toNat (0:Int)).toNat (0:Int)) 64) (Cq ([a2].length+([((aD.Succ.getD ([a2].getD (Bh (([a2].length:Int)-1)).toNat (0:Int)).toNat []).getD (l9.getD ([a2].getD (Bh (([a2].length:Int)-1)).toNat (0:Int)).toNat (0:Int)).toNat (0:Int))]:A3).length<=room) (some (.done (.inr ((Jx 64 false (Jx 64 false (List.replicate 64 false) a2.toNat true) ((aD.Succ.getD ([a2].getD (Bh (([a2].length:Int)-1)).toNat (0:Int)).toNat []).getD (l9.getD ([a2].getD (Bh (([a2].length:Int)-1)).toNat (0:Int)).toNat (0:Int)).toNat (0:Int)).toNat true),(Jx 64 (0:Int) l9 ([a2].getD (Bh (([a2].length:Int)-1)).toNat (0:Int)).toNat (Bh ((l9.getD ([a2].getD (Bh (([a2].length:Int)-1)).toNat (0:Int)).toNat (0:Int))+1))),([a2]++([((aD.Succ.getD ([a2].getD (Bh (([a2].length:Int)-1)).toNat (0:Int)).toNat []).getD (l9.getD ([a2].getD (Bh (([a2].length:Int)-1)).toNat (0:Int)).toNat (0:Int)).toNat (0:Int))]:A3)))))))) else(some (.next (Jx 64 (0:Int) l9 ([a2].getD (Bh (([a2].length:Int)-1)).toNat (0:Int)).toNat (Bh ((l9.getD ([a2].getD (Bh (([a2].length:Int)-1)).toNat (0:Int)).toNat (0:Int))+1)))))))))))) else(some (.done (.inl l9))))))
def Fs(aD:Cw)(l1:List Bool)(l3:A3):A3->Option mi:=
 λ(l32:A3)=>(Cq (B6 (l3.getD (Bh ((l3.length:Int)-1)).toNat (0:Int)) 64) (Cq (B6 (l3.getD (Bh ((l3.length:Int)-1)).toNat (0:Int)) aD.Succ.length) (bif (decide ((l32.getD (l3.getD (Bh ((l3.length:Int)-1)).toNat (0:Int)).toNat (0:Int))<((aD.Succ.getD (l3.getD (Bh ((l3.length:Int)-1)).toNat (0:Int)).toNat []).length:Int))) then(Cq (B6 (l3.getD (Bh ((l3.length:Int)-1)).toNat (0:Int)) aD.Succ.length) (Cq (B6 (l3.getD (Bh ((l3.length:Int)-1)).toNat (0:Int)) 64) (Cq (B6 (l32.getD (l3.getD (Bh ((l3.length:Int)-1)).toNat (0:Int)).toNat (0:Int)) (aD.Succ.getD (l3.getD (Bh ((l3.length:Int)-1)).toNat (0:Int)).toNat []).length) (Cq (B6 (l3.getD (Bh ((l3.length:Int)-1)).toNat (0:Int)) 64) (Cq (B6 (l3.getD (Bh ((l3.length:Int)-1)).toNat (0:Int)) 64) (Cq (B6 ((aD.Succ.getD (l3.getD (Bh ((l3.length:Int)-1)).toNat (0:Int)).toNat []).getD (l32.getD (l3.getD (Bh ((l3.length:Int)-1)).toNat (0:Int)).toNat (0:Int)).toNat (0:Int)) 64) (bif (!(l1.getD ((aD.Succ.getD (l3.getD (Bh ((l3.length:Int)-1)).toNat (0:Int)).toNat []).getD (l32.getD (l3.getD (Bh ((l3.length:Int)-1)).toNat (0:Int)).toNat (0:Int)).toNat (0:Int)).toNat false)) then(Cq (B6 ((aD.Succ.getD (l3.getD (Bh ((l3.length:Int)-1)).toNat (0:Int)).toNat []).getD (l32.getD (l3.getD (Bh ((l3.length:Int)-1)).toNat (0:Int)).toNat (0:Int)).toNat (0:Int)) 64) (Cq (l3.length+([((aD.Succ.getD (l3.getD (Bh ((l3.length:Int)-1)).toNat (0:Int)).toNat []).getD (l32.getD (l3.getD (Bh ((l3.length:Int)-1)).toNat (0:Int)).toNat (0:Int)).toNat (0:Int))]:A3).length<=room) (some (.done (.inr ((Jx 64 false l1 ((aD.Succ.getD (l3.getD (Bh ((l3.length:Int)-1)).toNat (0:Int)).toNat []).getD (l32.getD (l3.getD (Bh ((l3.length:Int)-1)).toNat (0:Int)).toNat (0:Int)).toNat (0:Int)).toNat true),(Jx 64 (0:Int) l32 (l3.getD (Bh ((l3.length:Int)-1)).toNat (0:Int)).toNat (Bh ((l32.getD (l3.getD (Bh ((l3.length:Int)-1)).toNat (0:Int)).toNat (0:Int))+1))),(l3++([((aD.Succ.getD (l3.getD (Bh ((l3.length:Int)-1)).toNat (0:Int)).toNat []).getD (l32.getD (l3.getD (Bh ((l3.length:Int)-1)).toNat (0:Int)).toNat (0:Int)).toNat (0:Int))]:A3)))))))) else(some (.next (Jx 64 (0:Int) l32 (l3.getD (Bh ((l3.length:Int)-1)).toNat (0:Int)).toNat (Bh ((l32.getD (l3.getD (Bh ((l3.length:Int)-1)).toNat (0:Int)).toNat (0:Int))+1)))))))))))) else(some (.done (.inl l32))))))
abbrev dA:=(List Bool×A3×A3×A3)
def Cr(aD:Cw):dA->Option (LR (List Bool×A3×A3×A3) A3):=
 λ(s_:dA)=>match s_ with|(l1,l2,l3,l4)=>(Cq (B6 (Bh ((l3.length:Int)-1)) l3.length) ((Ai (Fs aD l1 l3) l2).bind (λx47=>(match x47 with|(.inl l33)=>(Cq (l4.length+([(l3.getD (Bh ((l3.length:Int)-1)).toNat (0:Int))]:A3).length<=room) (Cq (0<=(Bh ((l3.length:Int)-1))/\0+(Bh ((l3.length:Int)-1)).toNat<=l3.length) (bif (decide ((0:Int)<((l3.take (Bh ((l3.length:Int)-1)).toNat).length:Int))) then(some (.next (l1,l33,(l3.take (Bh ((l3.length:Int)-1)).toNat),(l4++([(l3.getD (Bh ((l3.length:Int)-1)).toNat (0:Int))]:A3))))) else((Dq (l4++([(l3.getD (Bh ((l3.length:Int)-1)).toNat (0:Int))]:A3))).bind λx51=>(Cq ((l4++([(l3.getD (Bh ((l3.length:Int)-1)).toNat (0:Int))]:A3)).length=x51.length) (some (.done x51)))))))|(.inr (l34,l35,l36))=>(some (.next (l34,l35,l36,l4)))))))
def FD(Γ:Gt)(aD:Cw)(a2:Int)(r:A3):Exit->St->Prop:=fK Tryz.prog Γ Tryz.f123.results.toList [] (QF r 20000) [(20000,.tok 1 3 r.length)]
def jM(l1:List Bool):=(λi=>eB (l1.getD i false))
def YL(l3:A3):=(l3.getD (Bh ((l3.length:Int)-1)).toNat (0:Int))
def ZD(l4:A3)(l3:A3):=(l4++([(YL l3)]:A3))
def jr(l10:A3):=(λi=>Ax (l10.getD i 0))
def js(l33:A3):=(λi=>Ax (l33.getD i 0))
def QA:=(λn_=>Ca n_ [2,5,6,25,36007])
def iC(a2:Int):=(λi=>Ax ([a2].getD i 0))
def TQ(a2:Int):=([a2].getD (Bh (([a2].length:Int)-1)).toNat (0:Int))
def da(a2:Int):=(([]:A3)++([(TQ a2)]:A3))
def jO(a2:Int):=(λi=>Ax ((da a2).getD i 0))
def jN(l4:A3)(l3:A3):=(λi=>Ax ((ZD l4 l3).getD i 0))
def jL:AV:=iD
def k6:=(λi=>Ax (([]:A3).getD i 0))
def iB(l3:A3):=(0+(Bh ((l3.length:Int)-1)).toNat)
def jK(a2:Int):=(0+(Bh (([a2].length:Int)-1)).toNat)
def lQ(a2:Int):=([a2].take (Bh (([a2].length:Int)-1)).toNat)
def lO:=(λi=>Ax ((List.replicate 64 (0:Int)).getD i 0))
def ZB(aD:Cw):List AV:=[(QE aD.Succ),(QE aD.Pred)]
def f4(a2:Int):=(λi=>eB ((Jx 64 false (List.replicate 64 false) a2.toNat true).getD i false))
def dZ(aD:Cw)(l3:A3)(l32:A3):=((aD.Succ.getD (YL l3).toNat []).getD (l32.getD (YL l3).toNat (0:Int)).toNat (0:Int))
def dY(aD:Cw)(a2:Int)(l9:A3):=((aD.Succ.getD (TQ a2).toNat []).getD (l9.getD (TQ a2).toNat (0:Int)).toNat (0:Int))
def mI:=(Z58:St)
def mJ(a2:Int):List g5:=[LK,ZL,ZK,(7,(.vsl 36007 (da a2).length)),(8,(.vsl 25 (jK a2)))]
def mH(a2:Int)(aD:Cw):=(⟨[LK,ZL,ZK,(7,(.vsl 36007 ([]:A3).length)),(8,(.vsl 25 [a2].length)),(9,(Z7 (TQ a2)))],[(LL (ZB aD)),(ZM (f4 a2)),(YR lO),(25,.arr 1 3 ([a2].length) (iC a2)),(36007,.arr 1 3 (([]:A3).length) k6)],[]⟩:St)
def Gw(aD:Cw)(a2:Int):Option A3:=
 ((O5 (S:=dA) (X:=A3) ((Ob aD).bind λx5=>((bif ((!x5)==false) then F8 a2 (aD.Succ.length:Int) else some false).bind λx6=>(bif (bif (!x5) then true else(!x6)) then(some (.done ([]:A3))) else(Cq (B6 a2 64) (Cq (B6 (Bh (([a2].length:Int)-1)) [a2].length) ((Ai (X5 aD a2) (List.replicate 64 (0:Int))).bind (λx24=>(match x24 with|(.inl l10)=>(Cq (([]:A3).length+([([a2].getD (Bh (([a2].length:Int)-1)).toNat (0:Int))]:A3).length<=room) (Cq (0<=(Bh (([a2].length:Int)-1))/\0+(Bh (([a2].length:Int)-1)).toNat<=[a2].length) (bif (decide ((0:Int)<(([a2].take (Bh (([a2].length:Int)-1)).toNat).length:Int))) then(some (.next ((Jx 64 false (List.replicate 64 false) a2.toNat true),l10,([a2].take (Bh (([a2].length:Int)-1)).toNat),(([]:A3)++([([a2].getD (Bh (([a2].length:Int)-1)).toNat (0:Int))]:A3))))) else((Dq (([]:A3)++([([a2].getD (Bh (([a2].length:Int)-1)).toNat (0:Int))]:A3))).bind λx28=>(Cq ((([]:A3)++([([a2].getD (Bh (([a2].length:Int)-1)).toNat (0:Int))]:A3)).length=x28.length) (some (.done x28)))))))|(.inr (l11,l12,l13))=>(some (.next (l11,l12,l13,([]:A3)))))))))))) (Cr aD)).bind (λx54=>(some x54)))
theorem So(h:Gw v18 v1=some v2):sP 123 [(.agg (P4 v18)),(Z7 v1)] [] (QF v2 20000) [(20000,.tok 1 3 v2.length)]:=
 sG Tryz.func123 λΓ q=>have hΓ:=q.own;gR q Xq [2] [(4,jL)] [] (c1 (Ir 1 Ax (0:Int))) (tB h λx54 y54 h=>gS y54 (λ(s_:dA)=>match s_ with|(l1,l2,l3,l4)=>0) (λ(s_:dA)=>match s_ with|(l1,l2,l3,l4)=>(⟨[LK,ZL,ZK,(7,(.vsl 36007 l4.length)),(8,(.vsl 25 l3.length))],[(LL (ZB v18)),(ZM (jM l1)),(j0 l2),(Z4 25 l3),(Z4 36007 l4)],[]⟩:St)) (λr_=>aR (FD Γ v18 v1 r_)) (λy h=>tB h λx5 y5 h=>tB h λx6 y6 h=>tT q [1,2,21] [2] [(Z2 x5),(Z2 x6)] (ci (KM y5) (jU ((!x5)==false) (c3 (λ(hg:((!x5)==false)=true)=>(Ll (A8 hg y6))) (gI ((!x5)==false)) (Ua (!x5))))) (gC h (λh=>gR q [4] [] [(4,jL)] [] (c1 (Ir 1 Ax (0:Int))) (Tn (⟨[(4,jL)],[],[]⟩:St) (tS h (gY (R3 (K0 [(6004,20000)] (show Le Γ _ mI from Le.trans (Dv (st':=⟨[(4,jL)],[],[]⟩) [4] [] q) (Le.trans (bf (t:=4) (nm:=6004) (sz':=1) k6 3 rfl rfl (.inl ⟨rfl,rfl⟩) (λh_=>absurd h_ (by decide))) (Dv (st':=mI) [4] [6004] q))))))))) λh=>gR q IW [2,5] [ZL] [] trivial (Mz (Wh 5 (show ∀ k_,k_<64->AVleL ((λi_=>AV.eraseAll (λn_=>Ca n_ [2,5]) ((λi=>(((List.replicate 64 [(.bool false)]).flatten).drop (i*1)).take 1) i_)) k_) ((λi=>eB ((List.replicate 64 false).getD i false)) k_) from(GI (e:=eB) (d:=false) (z:=[(.bool false)]) rfl rfl rfl))) (gR q [1,2,5,6] U5 [ZK] [] trivial (Mz (Wh 6 (show ∀ k_,k_<64->AVleL ((λi_=>AV.eraseAll (λn_=>Ca n_ U5) ((λi=>(((List.replicate 64 [Oq]).flatten).drop (i*1)).take 1) i_)) k_) (lO k_) from(GI (e:=Ax) (d:=(0:Int)) (z:=[Oq]) rfl rfl rfl))) (gR q [1,2,5,6,7] U5 [(7,jL)] [] (c1 (Ir 1 Ax (0:Int))) (tC h λc7_ h=>tU q [1,2,5,6,7] U5 (c2 c7_ (Eq.refl 64)) (Mz (Wh 5 (show ∀ k_,k_<64->AVleL ((λi_=>AV.eraseAll (λn_=>Ca n_ U5) ((K1 (λi=>eB ((List.replicate 64 false).getD i false)) v1.toNat 0 [(.bool true)]) i_)) k_) ((f4 v1) k_) from(Cf rfl (λk_ hk_=>(B5 (AV.eraseAll (λn_=>Ca n_ U5)) ((Pj (λ_ _=>rfl) (N4 c7_) rfl) k_ hk_)).trans rfl)))) (gR q Te LF [(25,(.vsl 25 1))] [] trivial (Mz (Le.trans (Wh 25 (show ∀ k_,k_<1->AVleL ((λi_=>AV.eraseAll (λn_=>Ca n_ LF) ((λi_=>([(Z7 v1)].drop (i_*1)).take 1) i_)) k_) ((iC v1) k_) from(Cf rfl (fT (n:=0) iw rfl)))) (Sf (λ(k_:Nat) u=>(Fo u [(8,(.vsl 25 k_))] [(25,.arr 1 3 k_ (iC v1))])) (show 1=[v1].length from rfl))) (tC h λc8_ h=>tU q U3 LF (c2 c8_ (Eq.refl ([v1].length))) (Mz (st':=(mH v1 v18)) (Le.trans (Dv (st':=⟨[LK,ZL,ZK,(7,jL),(8,(.vsl 25 [v1].length)),(9,(Z7 (TQ v1)))],[(LL (ZB v18)),(ZM (f4 v1)),(YR lO),(25,.arr 1 3 ([v1].length) (iC v1))],[]⟩) U3 LF q) (Le.trans (ib (t:=7) (nm:=36007) (sz':=1) k6 3 rfl rfl) (Dv (st':=(mH v1 v18)) U3 J8 q))) (tL q h U3 J8 (λu l9=>(Fo u [] [(j0 l9)])) (λu x_=>match x_ with|(.inl l10)=>aG Γ (.exit 0) (Fo u [] [(YR (jr l10))])|(.inr (l11,l12,l13))=>aG Γ (.goto 0) (Xt Te J8 u [(8,(.vsl 25 l13.length))] [(5,.arr 1 207 64 (λi=>eB (l11.getD i false))),(j0 l12),(Z4 25 l13)])) (λl9 y h=>tC h λc14_ h=>tC h λc15_ h=>tU q [2,5,6,7,8,9,41] J8 (c3 c14_ (Eq.refl 64) c15_) (gC h (λh=>tC h λc16_ h=>tC h λc17_ h=>tC h λc18_ h=>tU q VN J8 (c4 c16_ c17_ (Eq.refl 64) c18_) (tC h λc19_ h=>tC h λc20_ h=>tU q VN J8 (c4 c19_ (Eq.refl 64) c20_ (Eq.refl 64)) (Mz (Wh 6 (show ∀ k_,k_<64->AVleL ((λi_=>AV.eraseAll QA ((K1 (λi=>Ax (l9.getD i 0)) (TQ v1).toNat 0 [(.int .i64 (Bh ((l9.getD (TQ v1).toNat (0:Int))+1)))]) i_)) k_) ((λi=>Ax ((Jx 64 (0:Int) l9 (TQ v1).toNat (Bh ((l9.getD (TQ v1).toNat (0:Int))+1))).getD i 0)) k_) from(Cf rfl (λk_ hk_=>(B5 (AV.eraseAll QA) ((Pj (λ_ _=>rfl) (N4 c20_) rfl) k_ hk_)).trans rfl)))) (tC h λc21_ h=>tU q dF J8 (c2 c21_ (Eq.refl 64)) (gC h (λh=>tC h λc22_ h=>tU q [2,5,6,7,8,10] J8 (c2 c22_ (Eq.refl 64)) (Mz (Wh 5 (show ∀ k_,k_<64->AVleL ((λi_=>AV.eraseAll QA ((K1 (f4 v1) (dY v18 v1 l9).toNat 0 [(.bool true)]) i_)) k_) ((λi=>eB ((Jx 64 false (Jx 64 false (List.replicate 64 false) v1.toNat true) (dY v18 v1 l9).toNat true).getD i false)) k_) from(Cf rfl (λk_ hk_=>(B5 (AV.eraseAll QA) ((Pj (λ_ _=>rfl) (N4 c22_) rfl) k_ hk_)).trans rfl)))) (tC h λc23_ h=>gR q Te J8 [(65,(jS (dY v18 v1 l9)))] [] (c3 (Cp 1 Ax (0:Int) ([(dY v18 v1 l9)]:A3)) (Eq.refl ([v1].length)) c23_) (tS h (gO (Ea (Le.trans (Le.trans (Wh 25 (show ∀ k_,k_<([v1].length+([(dY v18 v1 l9)]:A3).length)->AVleL ((λi_=>AV.eraseAll QA ((Jc ([v1].length) (iC v1) (λi=>Ax (([(dY v18 v1 l9)]:A3).getD i 0))) i_)) k_) ((λi=>Ax (([v1]++([(dY v18 v1 l9)]:A3)).getD i 0)) k_) from(Cf (Iu _ _) (λk_ hk_=>(B5 (AV.eraseAll QA) ((V3 (λ_ _=>rfl) (λ_ _=>rfl)) k_ hk_)).trans rfl)))) (Sf (λ(k_:Nat) u=>(Fo u [(8,(.vsl 25 k_))] [(25,.arr 1 3 k_ (λi=>Ax (([v1]++([(dY v18 v1 l9)]:A3)).getD i 0)))])) (show([v1].length+([(dY v18 v1 l9)]:A3).length)=([v1]++([(dY v18 v1 l9)]:A3)).length from(Iu _ _)))) Ns))))))) λh=>tS h (gN (Dv U3 J8 q))))))) λh=>tS h (gO (Ea (Dv U3 J8 q))))) λx24 h=>(match x24,h with | .inl l10,h=>gA (tC h λc26_ h=>gR q Te J8 [(69,(jS (TQ v1)))] [] (c3 (Cp 1 Ax (0:Int) ([(TQ v1)]:A3)) (Eq.refl (([]:A3).length)) c26_) (Mz (Le.trans (Wh 36007 (show ∀ k_,k_<(([]:A3).length+([(TQ v1)]:A3).length)->AVleL ((λi_=>AV.eraseAll QA ((Jc (([]:A3).length) k6 (λi=>Ax (([(TQ v1)]:A3).getD i 0))) i_)) k_) ((jO v1) k_) from(Cf (Iu _ _) (λk_ hk_=>(B5 (AV.eraseAll QA) ((V3 (λ_ _=>rfl) (λ_ _=>rfl)) k_ hk_)).trans rfl)))) (Sf (λ(k_:Nat) u=>(Fo u [(7,(.vsl 36007 k_))] [(36007,.arr 1 3 k_ (jO v1))])) (show(([]:A3).length+([(TQ v1)]:A3).length)=(da v1).length from(Iu _ _)))) (tC h λc27_ h=>tU q Te J8 (c1 c27_) (Tn (⟨[LK,ZL,ZK,(7,(.vsl 36007 (da v1).length)),(8,(.vsub 25 [v1].length 0 (jK v1)))],[(LL (ZB v18)),(ZM (f4 v1)),(YR (jr l10)),(25,.arr 1 3 ([v1].length) (iC v1)),(36007,.arr 1 3 ((da v1).length) (jO v1))],[]⟩:St) (Mz (Le.trans (Le.trans (NE (t:=8) (r:=25) (k:=(jK v1)) rfl rfl c27_.2 (by kernel_rfl) (.row (by kernel_rfl) (.arr (λ_=>by kernel_rfl) (.arr (λ_=>by kernel_rfl) (.arr (λ_=>by kernel_rfl) (.arr (λ_=>by kernel_rfl) .nil))))) (by rw[hΓ];rfl)) (M7 (st':=⟨(mJ v1),[(LL (ZB v18)),(ZM (f4 v1)),(YR (jr l10)),(25,.arr 1 3 (jK v1) (iC v1)),(36007,.arr 1 3 ((da v1).length) (jO v1))],[]⟩) (by kernel_rfl))) (Le.trans (Kg (st':=⟨(mJ v1),[(LL (ZB v18)),(ZM (f4 v1)),(YR (jr l10)),(25,.arr 1 3 (jK v1) (λi=>Ax ((lQ v1).getD i 0))),(36007,.arr 1 3 ((da v1).length) (jO v1))],[]⟩) (TmpsLe.refl _) (.same (.same (.same (.arr (VB (e:=Ax) (d:=(0:Int))) (.same .nil)))))) (M7 (B5 (λk_:Nat=>(⟨[LK,ZL,ZK,(7,(.vsl 36007 (da v1).length)),(8,(.vsl 25 k_))],[(LL (ZB v18)),(ZM (f4 v1)),(YR (jr l10)),(25,.arr 1 3 k_ (λi=>Ax ((lQ v1).getD i 0))),(36007,.arr 1 3 ((da v1).length) (jO v1))],[]⟩:St)) (show(jK v1)=(lQ v1).length from PE c27_.2))))) (Ap q [2,5,6,7,8,78] J8 (gC h (λh=>tS h (eZ (Dv Te J8 q))) λh=>tB h λx28 y28 h=>tC h λc29_ h=>tT q [7] [36007] [⟨[(36007,34000)],[],(.tuple []),[(Z4 34000 x28)],[],[]⟩] (c1 (I9 y28)) (Mz (Sf (λ(k_:Nat) u=>(Fo u [(7,(.vsl 36007 k_))] [])) (show(da v1).length=x28.length from c29_)) (Ap q [4] [36007] (Tn (⟨[(4,(.vsl 36007 x28.length))],[(Z4 36007 x28)],[]⟩:St) (tS h (gY (R3 (K0 [(36007,20000)] (Le.trans (Lb (nm:=36007) (sz:=1) (n:=x28.length) (e:=3) (f:=(λi=>Ax (x28.getD i 0))) (g:=(λi=>Ax (x28.getD i 0))) rfl ⟨rfl,trivial⟩ (λ_ _=>rfl) (by rw[hΓ];rfl)) (M7 (st':=⟨[(4,(QF x28 36007))],[(36007,.tok 1 3 x28.length)],[]⟩) (by kernel_rfl))))))))))))))))) | .inr ⟨l11,l12,l13⟩,h=>gX (λst' hl30=>tS h (eZ (Le.trans hl30 Ns))))))))))))))))) (λ⟨l1,l2,l3,l4⟩ y h=>tC h λc31_ h=>tU q U3 J8 (c2 c31_ (Eq.refl l3.length)) (tL q h U3 J8 (λu l32=>(Fo u [] [(j0 l32)])) (λu x_=>match x_ with|(.inl l33)=>aG Γ (.exit 0) (Fo u [] [(YR (js l33))])|(.inr (l34,l35,l36))=>aG Γ (.goto 0) (Xt Te J8 u [(8,(.vsl 25 l36.length))] [(5,.arr 1 207 64 (λi=>eB (l34.getD i false))),(j0 l35),(Z4 25 l36)])) (λl32 y h=>tC h λc37_ h=>tC h λc38_ h=>tU q [2,5,6,7,8,9,41] J8 (c3 c37_ (Eq.refl 64) c38_) (gC h (λh=>tC h λc39_ h=>tC h λc40_ h=>tC h λc41_ h=>tU q VN J8 (c4 c39_ c40_ (Eq.refl 64) c41_) (tC h λc42_ h=>tC h λc43_ h=>tU q VN J8 (c4 c42_ (Eq.refl 64) c43_ (Eq.refl 64)) (Mz (Wh 6 (show ∀ k_,k_<64->AVleL ((λi_=>AV.eraseAll QA ((K1 (λi=>Ax (l32.getD i 0)) (YL l3).toNat 0 [(.int .i64 (Bh ((l32.getD (YL l3).toNat (0:Int))+1)))]) i_)) k_) ((λi=>Ax ((Jx 64 (0:Int) l32 (YL l3).toNat (Bh ((l32.getD (YL l3).toNat (0:Int))+1))).getD i 0)) k_) from(Cf rfl (λk_ hk_=>(B5 (AV.eraseAll QA) ((Pj (λ_ _=>rfl) (N4 c43_) rfl) k_ hk_)).trans rfl)))) (tC h λc44_ h=>tU q dF J8 (c2 c44_ (Eq.refl 64)) (gC h (λh=>tC h λc45_ h=>tU q [2,5,6,7,8,10] J8 (c2 c45_ (Eq.refl 64)) (Mz (Wh 5 (show ∀ k_,k_<64->AVleL ((λi_=>AV.eraseAll QA ((K1 (jM l1) (dZ v18 l3 l32).toNat 0 [(.bool true)]) i_)) k_) ((λi=>eB ((Jx 64 false l1 (dZ v18 l3 l32).toNat true).getD i false)) k_) from(Cf rfl (λk_ hk_=>(B5 (AV.eraseAll QA) ((Pj (λ_ _=>rfl) (N4 c45_) rfl) k_ hk_)).trans rfl)))) (tC h λc46_ h=>gR q Te J8 [(65,(jS (dZ v18 l3 l32)))] [] (c3 (Cp 1 Ax (0:Int) ([(dZ v18 l3 l32)]:A3)) (Eq.refl l3.length) c46_) (tS h (gO (Ea (Le.trans (Le.trans (Wh 25 (show ∀ k_,k_<(l3.length+([(dZ v18 l3 l32)]:A3).length)->AVleL ((λi_=>AV.eraseAll QA ((Jc l3.length (λi=>Ax (l3.getD i 0)) (λi=>Ax (([(dZ v18 l3 l32)]:A3).getD i 0))) i_)) k_) ((λi=>Ax ((l3++([(dZ v18 l3 l32)]:A3)).getD i 0)) k_) from(Cf (Iu _ _) (λk_ hk_=>(B5 (AV.eraseAll QA) ((V3 (λ_ _=>rfl) (λ_ _=>rfl)) k_ hk_)).trans rfl)))) (Sf (λ(k_:Nat) u=>(Fo u [(8,(.vsl 25 k_))] [(25,.arr 1 3 k_ (λi=>Ax ((l3++([(dZ v18 l3 l32)]:A3)).getD i 0)))])) (show(l3.length+([(dZ v18 l3 l32)]:A3).length)=(l3++([(dZ v18 l3 l32)]:A3)).length from(Iu _ _)))) Ns))))))) λh=>tS h (gN (Dv U3 J8 q))))))) λh=>tS h (gO (Ea (Dv U3 J8 q))))) λx47 h=>(match x47,h with | .inl l33,h=>gA (tC h λc49_ h=>gR q Te J8 [(69,(jS (YL l3)))] [] (c3 (Cp 1 Ax (0:Int) ([(YL l3)]:A3)) (Eq.refl l4.length) c49_) (Mz (Le.trans (Wh 36007 (show ∀ k_,k_<(l4.length+([(YL l3)]:A3).length)->AVleL ((λi_=>AV.eraseAll QA ((Jc l4.length (λi=>Ax (l4.getD i 0)) (λi=>Ax (([(YL l3)]:A3).getD i 0))) i_)) k_) ((jN l4 l3) k_) from(Cf (Iu _ _) (λk_ hk_=>(B5 (AV.eraseAll QA) ((V3 (λ_ _=>rfl) (λ_ _=>rfl)) k_ hk_)).trans rfl)))) (Sf (λ(k_:Nat) u=>(Fo u [(7,(.vsl 36007 k_))] [(36007,.arr 1 3 k_ (jN l4 l3))])) (show(l4.length+([(YL l3)]:A3).length)=(ZD l4 l3).length from(Iu _ _)))) (tC h λc50_ h=>tU q Te J8 (c1 c50_) (Tn (⟨[LK,ZL,ZK,(7,(.vsl 36007 (ZD l4 l3).length)),(8,(.vsub 25 l3.length 0 (iB l3)))],[(LL (ZB v18)),(ZM (jM l1)),(YR (js l33)),(Z4 25 l3),(36007,.arr 1 3 ((ZD l4 l3).length) (jN l4 l3))],[]⟩:St) (Mz (Le.trans (Le.trans (NE (t:=8) (r:=25) (k:=(iB l3)) rfl rfl c50_.2 (by kernel_rfl) (.row (by kernel_rfl) (.arr (λ_=>by kernel_rfl) (.arr (λ_=>by kernel_rfl) (.arr (λ_=>by kernel_rfl) (.arr (λ_=>by kernel_rfl) .nil))))) (by rw[hΓ];rfl)) (M7 (st':=⟨[LK,ZL,ZK,(7,(.vsl 36007 (ZD l4 l3).length)),(8,(.vsl 25 (iB l3)))],[(LL (ZB v18)),(ZM (jM l1)),(YR (js l33)),(25,.arr 1 3 (iB l3) (λi=>Ax (l3.getD i 0))),(36007,.arr 1 3 ((ZD l4 l3).length) (jN l4 l3))],[]⟩) (by kernel_rfl))) (Le.trans (Kg (st':=⟨[LK,ZL,ZK,(7,(.vsl 36007 (ZD l4 l3).length)),(8,(.vsl 25 (iB l3)))],[(LL (ZB v18)),(ZM (jM l1)),(YR (js l33)),(25,.arr 1 3 (iB l3) (λi=>Ax ((l3.take (Bh ((l3.length:Int)-1)).toNat).getD i 0))),(36007,.arr 1 3 ((ZD l4 l3).length) (jN l4 l3))],[]⟩) (TmpsLe.refl _) (.same (.same (.same (.arr (VB (e:=Ax) (d:=(0:Int))) (.same .nil)))))) (M7 (B5 (λk_:Nat=>(⟨[LK,ZL,ZK,(7,(.vsl 36007 (ZD l4 l3).length)),(8,(.vsl 25 k_))],[(LL (ZB v18)),(ZM (jM l1)),(YR (js l33)),(25,.arr 1 3 k_ (λi=>Ax ((l3.take (Bh ((l3.length:Int)-1)).toNat).getD i 0))),(36007,.arr 1 3 ((ZD l4 l3).length) (jN l4 l3))],[]⟩:St)) (show(iB l3)=(l3.take (Bh ((l3.length:Int)-1)).toNat).length from PE c50_.2))))) (Ap q [2,5,6,7,8,78] J8 (gC h (λh=>tS h (eZ (Dv Te J8 q))) λh=>tB h λx51 y51 h=>tC h λc52_ h=>tT q [7] [36007] [⟨[(36007,34000)],[],(.tuple []),[(Z4 34000 x51)],[],[]⟩] (c1 (I9 y51)) (Mz (Sf (λ(k_:Nat) u=>(Fo u [(7,(.vsl 36007 k_))] [])) (show(ZD l4 l3).length=x51.length from c52_)) (Ap q [4] [36007] (Tn (⟨[(4,(.vsl 36007 x51.length))],[(Z4 36007 x51)],[]⟩:St) (tS h (gY (R3 (K0 [(36007,20000)] (Le.trans (Lb (nm:=36007) (sz:=1) (n:=x51.length) (e:=3) (f:=(λi=>Ax (x51.getD i 0))) (g:=(λi=>Ax (x51.getD i 0))) rfl ⟨rfl,trivial⟩ (λ_ _=>rfl) (by rw[hΓ];rfl)) (M7 (st':=⟨[(4,(QF x51 36007))],[(36007,.tok 1 3 x51.length)],[]⟩) (by kernel_rfl))))))))))))))))) | .inr ⟨l34,l35,l36⟩,h=>gX (λst' hl53=>tS h (eZ (Le.trans hl53 Ns)))))) (Vx (λst' hk=>tS h (gK hk))))
def Wk(a3:Int)(aL:Int):Option Gr:=
 (some ((Gq ((Gq ((Gq ((W9 .u64 a3 (32:Int))*(W9 .u64 aL (32:Int))))+(W9 .u64 (Gq ((Gq ((W9 .u64 a3 (32:Int))*(N1 .and .u64 aL (4294967295:Int))))+(W9 .u64 (Gq ((N1 .and .u64 a3 (4294967295:Int))*(N1 .and .u64 aL (4294967295:Int)))) (32:Int)))) (32:Int))))+(W9 .u64 (Gq ((N1 .and .u64 (Gq ((Gq ((W9 .u64 a3 (32:Int))*(N1 .and .u64 aL (4294967295:Int))))+(W9 .u64 (Gq ((N1 .and .u64 a3 (4294967295:Int))*(N1 .and .u64 aL (4294967295:Int)))) (32:Int)))) (4294967295:Int))+(Gq ((N1 .and .u64 a3 (4294967295:Int))*(W9 .u64 aL (32:Int)))))) (32:Int)))),(Gq (a3*aL))))
variable{v19:Gr}
theorem FM(h:Wk v1 v11=some v19):sP 208 [(Iq v1),(Iq v11)] [] (.tuple [(Iq v19.1),(Iq v19.2)]) []:=
 sG Tryz.func208 λΓ q=>tW q Hb [] [0,1,6] [] (tU q [0,1,6,7] [] (c1 (show(0<=(32:Int)) from(by decide))) (Ap q [0,1,6,7,8] [] (tU q [0,1,6,7,8,9] [] (c1 (show(0<=(32:Int)) from(by decide))) (Ap q [0,1,6,7,8,9,10] [] (tU q [0,1,6,7,9,11] [] (c1 (show(0<=(32:Int)) from(by decide))) (Ap q [0,1,6,7,9,11,12] [] (tU q [0,1,6,7,9,12,13] [] (c1 (show(0<=(32:Int)) from(by decide))) (Ap q [0,1,7,9,12,13] [] (tU q [0,1,4] [] (c1 (show(0<=(32:Int)) from(by decide))) (Ap q Ro [] (tS h (C1 []))))))))))))
def Ld(a3:Int)(aL:Int):Option Gr:=
 ((Wk a3 aL).bind λx1=>(some (x1.1,x1.2)))
theorem Zk(h:Ld v1 v11=some v19):sP 185 [(Iq v1),(Iq v11)] [] (.tuple [(Iq v19.1),(Iq v19.2)]) []:=
 sG Tryz.func185 λΓ q=>Ap q Hb [] (WX false (tB h λx1 y1 h=>tT q [8,9] [] [⟨[],[],(.tuple [(Iq x1.1),(Iq x1.2)]),[],[],[]⟩] (c1 (FM y1)) (Ap q Ro [] (tS h (C1 [])))))
abbrev TA:=(Int×A3)
def B9 :TA->Option (LR (Int×A3) A3):=
 λ((i7,l8):TA)=>(bif (decide (i7<(l8.length:Int))) then(Cq (0<=i7/\0+i7.toNat<=l8.length) (Cq (0<=i7/\0+i7.toNat<=l8.length) (some (.next ((Bh (i7+((Nat.min ((0+i7.toNat)-0) (l8.length-(0+i7.toNat))):Int))),(RH l8 (0+i7.toNat) (Nat.min ((0+i7.toNat)-0) (l8.length-(0+i7.toNat))) (λi=>l8.getD (0+i) 0))))))) else(some (.done l8)))
def ZE(x3:Gr):=(List.replicate (Bh x3.2).toNat (0:Int))
def lS(x3:Gr)(a3:A3):=(RH (ZE x3) 0 (Nat.min a3.length ((ZE x3).length-0)) (λi=>a3.getD i 0))
def lR(l8:A3)(i7:Int):=(RH l8 (0+i7.toNat) (Nat.min ((0+i7.toNat)-0) (l8.length-(0+i7.toNat))) (λi=>l8.getD (0+i) 0))
def E4(a3:A3)(aZ:Int):Option A3:=
 (Option.bind (α:=Unit) (bif (decide (aZ<0)) then none else(some ())) (λx1=>(match x1 with|_=>((Ld (Gq (a3.length:Int)) (Gq aZ)).bind λx3=>(Option.bind (α:=Unit) (bif (bif (decide ((0:Int)<x3.1)) then true else(decide ((9223372036854775807:Int)<x3.2))) then none else(some ())) (λx4=>(match x4 with|_=>(Cq (0<=(Bh x3.2)/\(Bh x3.2)<=(Bh x3.2)/\(Bh x3.2)<=(room:Int)) ((Ai (S:=TA) (X:=A3) B9 (((Nat.min a3.length ((List.replicate (Bh x3.2).toNat (0:Int)).length-0)):Int),(RH (List.replicate (Bh x3.2).toNat (0:Int)) 0 (Nat.min a3.length ((List.replicate (Bh x3.2).toNat (0:Int)).length-0)) (λi=>a3.getD i 0)))).bind (λx12=>(some x12)))))))))))
theorem O4(h:E4 v2 v1=some v17):sP 162 [(Px v2),(Z7 v1)] [] (.vsl 20000 v17.length) [(Z4 20000 v17)]:=
 sG Tryz.func162 λΓ q=>gR q Hb [] [(4,iD)] [] (c1 (Ir 1 Ax (0:Int))) (tB h λx1 y1 h=>gJ y1 (λ_=>aG Γ .normal (⟨[(0,(Px v2)),(1,(Z7 v1))],[],[]⟩:St)) (λy h=>Ap q AC [] (gC h (λh=>nomatch h) λh=>tS h (gK (Ea (Dv Hb [] q))))) (gA (tB h λx3 y3 h=>tT q [0,5,6] [] [⟨[],[],(.tuple [(Iq x3.1),(Iq x3.2)]),[],[],[]⟩] (c1 (Zk y3)) (tB h λx4 y4 h=>gJ y4 (λ_=>aG Γ .normal (⟨[(0,(Px v2)),(6,(Iq x3.2))],[],[]⟩:St)) (λy h=>tU q [0,6,26] [] (c2 (gI ((decide ((0:Int)<x3.1))==false)) (Ua (decide ((0:Int)<x3.1)))) (gC h (λh=>nomatch h) λh=>tS h (gK (Ea (Dv [0,6] [] q))))) (gA (tV q [0,7] [30] h λh=>by exact Mz (Le.trans (Wh 30 (show ∀ k_,k_<((Bh x3.2).toNat)->AVleL ((λi_=>AV.eraseAll (λn_=>Ca n_ [30]) ((λ_=>[Oq]) i_)) k_) ((λi=>Ax ((ZE x3).getD i 0)) k_) from(λk hk=>Wl (e:=Ax) (d:=(0:Int)) (.cons (AVle.refl _) .nil) _ k (W6 hk)))) (Sf (λ(k_:Nat) u=>(Fo u [(7,(.vsl 30 k_))] [(30,.arr 1 3 k_ (λi=>Ax ((ZE x3).getD i 0)))])) (show(Bh x3.2).toNat=(ZE x3).length from(Xd ..).symm))) (tU q L6 [30] (c1 (Eq.refl ((ZE x3).length))) (Mz (Le.trans (Wh 30 (show ∀ k_,k_<((ZE x3).length)->AVleL ((λi_=>AV.eraseAll (λn_=>Ca n_ [30]) ((MO (λi=>Ax ((ZE x3).getD i 0)) 0 (Nat.min v2.length ((ZE x3).length-0)) (λi=>Ax (v2.getD i 0))) i_)) k_) ((λi=>Ax ((lS x3 v2).getD i 0)) k_) from(Cf (Ft ..) (λk_ hk_=>(B5 (AV.eraseAll (λn_=>Ca n_ [30])) ((AX (e:=Ax) (d:=(0:Int)) (l:=(ZE x3)) (s:=(λi=>v2.getD i 0)) (λ_ _=>rfl) (λ_ _=>rfl)) k_ hk_)).trans rfl)))) (Sf (λ(k_:Nat) u=>(Fo u [(7,(.vsl 30 k_))] [(30,.arr 1 3 k_ (λi=>Ax ((lS x3 v2).getD i 0)))])) (show(ZE x3).length=(lS x3 v2).length from(Ft ..)))) (tL q h L6 [30] (λu (i7,l8)=>(Fo u [(7,(.vsl 30 l8.length)),(8,(Z7 i7))] [(Z4 30 l8)])) (λu l9=>aG Γ (.exit 0) (⟨[(7,(.vsl 30 l9.length))],[(Z4 30 l9)],[]⟩:St)) (λ⟨i7,l8⟩ y h=>Ap q [7,8,37] [30] (gC h (λh=>tC h λc10_ h=>tC h λc11_ h=>tU q L6 [30] (c4 c10_ c11_ (Eq.refl l8.length) (Eq.refl l8.length)) (tS h (gN (Le.trans (Le.trans (Wh 30 (show ∀ k_,k_<l8.length->AVleL ((λi_=>AV.eraseAll (λn_=>Ca n_ [30]) ((MO (λi=>Ax (l8.getD i 0)) (0+i7.toNat) (Nat.min ((0+i7.toNat)-0) (l8.length-(0+i7.toNat))) (λi=>(λi=>Ax (l8.getD i 0)) (0+i))) i_)) k_) ((λi=>Ax ((lR l8 i7).getD i 0)) k_) from(Cf (Ft ..) (λk_ hk_=>(B5 (AV.eraseAll (λn_=>Ca n_ [30])) ((AX (e:=Ax) (d:=(0:Int)) (l:=l8) (s:=(λi=>l8.getD (0+i) 0)) (λ_ _=>rfl) (λ_ _=>rfl)) k_ hk_)).trans rfl)))) (Sf (λ(k_:Nat) u=>(Fo u [(7,(.vsl 30 k_))] [(30,.arr 1 3 k_ (λi=>Ax ((lR l8 i7).getD i 0)))])) (show l8.length=(lR l8 i7).length from(Ft ..)))) Ns)))) λh=>tS h (gO (Ea (Dv [7] [30] q))))) λx12 h=>gA (Ap q [4] [30] (tS h (C1 [(30,20000)]))))))))))))
def Fk(aC:A3):(Int×List Bool)->Option (LR (Int×List Bool) (List Bool)):=
 λ((i2,l3):(Int×List Bool))=>(bif (i2 !=-1) then(Cq (B6 i2 l3.length) (Cq (B6 i2 aC.length) (some (.next ((aC.getD i2.toNat 0),(l3.set i2.toNat true)))))) else(some (.done l3)))
def Fl(aC:A3)(l4:List Bool):Int->Option (LR Int Int):=
 λ(i9:Int)=>(Cq (B6 i9 l4.length) (bif (!(l4.getD i9.toNat false)) then(Cq (B6 i9 aC.length) (some (.next (aC.getD i9.toNat 0)))) else(some (.done i9))))
def Lh(aC:A3)(aF:Int)(aH:Int):Option Int:=
 (Cq (0<=(aC.length:Int)/\(aC.length:Int)<=(aC.length:Int)/\(aC.length:Int)<=(room:Int)) ((Ai (Fk aC) (aF,(List.replicate (aC.length:Int).toNat false))).bind (λx7=>((Ai (Fl aC x7) aH).bind (λx13=>(some x13))))))
variable{v20:Int}
theorem Zl(h:Lh v2 v1 v11=some v20):sP 186 [(Px v2),(Z7 v1),(Z7 v11)] [] (.int .i64 v20) []:=
 sG Tryz.func186 λΓ q=>Ap q [0,1,2] [] (tV q [0,1,2,7] [11] h λh=>by exact Mz (Le.trans (Wh 11 (show ∀ k_,k_<((v2.length:Int).toNat)->AVleL ((λi_=>AV.eraseAll (λn_=>Ca n_ [11]) ((λ_=>[(.bool false)]) i_)) k_) ((λi=>eB ((List.replicate (v2.length:Int).toNat false).getD i false)) k_) from(λk hk=>Wl (e:=eB) (d:=false) (.cons (AVle.refl _) .nil) _ k (W6 hk)))) (Sf (λ(k_:Nat) u=>(Fo u [(7,(.vsl 11 k_))] [(11,.arr 1 4 k_ (λi=>eB ((List.replicate (v2.length:Int).toNat false).getD i false)))])) (show(v2.length:Int).toNat=(List.replicate (v2.length:Int).toNat false).length from(Xd ..).symm))) (Ap q LG [11] (tL q h LG [11] (λu (i2,l3)=>(Fo u [(7,(.vsl 11 l3.length)),(8,(Z7 i2))] [(11,.arr 1 4 l3.length (λi=>eB (l3.getD i false)))])) (λu l4=>aG Γ (.exit 0) (Xt [0,2,7] [11] u [(7,(.vsl 11 l4.length))] [(11,.arr 1 4 l4.length (λi=>eB (l4.getD i false)))])) (λ⟨i2,l3⟩ y h=>Ap q [0,2,7,8,14] [11] (gC h (λh=>tC h λc5_ h=>tU q LG [11] (c2 c5_ (Eq.refl l3.length)) (Mz (Le.trans (Wh 11 (show ∀ k_,k_<l3.length->AVleL ((λi_=>AV.eraseAll (λn_=>Ca n_ [11]) ((K1 (λi=>eB (l3.getD i false)) i2.toNat 0 [(.bool true)]) i_)) k_) ((λi=>eB ((l3.set i2.toNat true).getD i false)) k_) from(Cf (Hx ..).symm (λk_ hk_=>(B5 (AV.eraseAll (λn_=>Ca n_ [11])) ((Lz (λ_ _=>rfl) (N5 c5_) rfl) k_ hk_)).trans rfl)))) (Sf (λ(k_:Nat) u=>(Fo u [(7,(.vsl 11 k_))] [(11,.arr 1 4 k_ (λi=>eB ((l3.set i2.toNat true).getD i false)))])) (show l3.length=(l3.set i2.toNat true).length from(Hx ..).symm))) (tV q LG [11] h λh=>tN h))) λh=>tS h (gO (Ea (Dv [0,2,7] [11] q))))) λx7 h=>gA (tL q h [0,2,7] [11] (λu i9=>(Fo u [(2,(Z7 i9))] [])) (λu i10=>aG Γ (.exit 2) (⟨[(2,(Z7 i10))],[],[]⟩:St)) (λi9 y h=>tC h λc11_ h=>tU q [0,2,7,26] [11] (c2 c11_ (Eq.refl x7.length)) (gC h (λh=>tV q [0,2,7] [11] h λh=>tN h) λh=>tS h (gO (Ea (Dv [2] [] q))))) λx13 h=>gA (Ap q [6] [] (tS h (C1 [])))))))
def Dw(aC:A3)(aA:A3):Gr->Option ks:=
 λ((i1,i2):Gr)=>(bif (decide (i2<(aA.length:Int))) then(Option.bind (α:=Int) (Cq (B6 i2 aA.length) (Cq (B6 (aA.getD i2.toNat 0) aC.length) (bif ((aC.getD (aA.getD i2.toNat 0).toNat (0:Int))==-2) then(some i1) else(bif (i1==-2) then(some (aA.getD i2.toNat 0)) else((Lh aC i1 (aA.getD i2.toNat 0)).bind λx7=>(some x7)))))) (λx8=>(some (.next (x8,(Bh (i2+1))))))) else(some (.done i1)))
def Hz(aC:A3)(aA:A3):Option Int:=
 ((Ai (Dw aC aA) ((-2:Int),(0:Int))).bind (λx10=>(some x10)))
theorem Sn(h:Hz v2 v17=some v1):sP 163 [(Px v2),(Px v17)] [] (.int .i64 v1) []:=
 sG Tryz.func163 λΓ q=>tW q Hb [] EZ [] (Ap q IP [] (tL q h IP [] (λu (i1,i2)=>(Fo u [(5,(Z7 i1)),(10,(Z7 i2))] [])) (λu i3=>aG Γ (.exit 0) (⟨[(5,(Z7 i3))],[],[]⟩:St)) (λ⟨i1,i2⟩ y h=>Ap q [0,5,8,9,10,11] [] (gC h (λh=>tB h λx8 y8 h=>gJ y8 (λi4=>aG Γ .normal (⟨[(0,(Px v2)),(5,(Z7 i4)),(8,(Px v17)),(9,(QQ v17.length)),(10,(Z7 i2))],[],[]⟩:St)) (λy h=>tV q [0,5,7,8,9,10] [] h λh=>tV q [0,5,7,8,9,10,18] [] h λh=>gC h (λh=>tS h (gK (Ea (Dv IP [] q)))) λh=>Ap q [0,5,7,8,9,10,24] [] (gC h (λh=>Ap q IP [] (tS h (gK (Ea Ns)))) λh=>tB h λx7 y7 h=>tT q IP [] [(VZ x7)] (c1 (Zl y7)) (tS h (gK (Ea Ns))))) (gA (Ap q IP [] (tN h)))) λh=>tS h (gO (Ea (Dv [5] [] q))))) λx10 h=>gA (Ap q [4] [] (tS h (C1 [])))))
set_option maxRecDepth 100000
set_option maxHeartbeats 2000000
abbrev fp:=(Bool×Int×A3)
abbrev kj:=(LR (Bool×Int×A3) (Bool×A3))
abbrev dB:=(Bool×A3)
def Dp(aD:Cw)(x3:A3):fp->Option kj:=
 λ((b7,i8,l9):fp)=>(bif (decide (i8<((x3.drop (1:Int).toNat).length:Int))) then(Option.bind (α:=dB) (Cq (B6 i8 (x3.drop (1:Int).toNat).length) (Cq (B6 ((x3.drop (1:Int).toNat).getD i8.toNat 0) aD.Pred.length) ((Hz l9 (aD.Pred.getD ((x3.drop (1:Int).toNat).getD i8.toNat 0).toNat [])).bind λx16=>(Cq (B6 ((x3.drop (1:Int).toNat).getD i8.toNat 0) l9.length) (bif (x16 !=(l9.getD ((x3.drop (1:Int).toNat).getD i8.toNat 0).toNat (0:Int))) then(Cq (B6 ((x3.drop (1:Int).toNat).getD i8.toNat 0) l9.length) (some (true,(l9.set ((x3.drop (1:Int).toNat).getD i8.toNat 0).toNat x16)))) else(some (b7,l9))))))) (λ(b12,l13)=>(some (.next (b12,(Bh (i8+1)),l13))))) else(some (.done (b7,l9))))
def Ov(aD:Cw)(l1:A3):fp->Option kj:=
 λ((b24,i25,l26):fp)=>(bif (decide (i25<((l1.drop (1:Int).toNat).length:Int))) then(Option.bind (α:=dB) (Cq (B6 i25 (l1.drop (1:Int).toNat).length) (Cq (B6 ((l1.drop (1:Int).toNat).getD i25.toNat 0) aD.Pred.length) ((Hz l26 (aD.Pred.getD ((l1.drop (1:Int).toNat).getD i25.toNat 0).toNat [])).bind λx33=>(Cq (B6 ((l1.drop (1:Int).toNat).getD i25.toNat 0) l26.length) (bif (x33 !=(l26.getD ((l1.drop (1:Int).toNat).getD i25.toNat 0).toNat (0:Int))) then(Cq (B6 ((l1.drop (1:Int).toNat).getD i25.toNat 0) l26.length) (some (true,(l26.set ((l1.drop (1:Int).toNat).getD i25.toNat 0).toNat x33)))) else(some (b24,l26))))))) (λ(b29,l30)=>(some (.next (b29,(Bh (i25+1)),l30))))) else(some (.done (b24,l26))))
abbrev dC:=(A3×A3)
def Eu(aD:Cw):dC->Option (LR (A3×A3) A3):=
 λ(s_:dC)=>match s_ with|(l1,l2)=>(Cq (0<=(1:Int)/\(1:Int)<=(l1.length:Int)) ((Ai (Ov aD l1) (false,(0:Int),l2)).bind (λx38=>(match x38 with|(b27,l28)=>(bif b27 then(some (.next (l1,l28))) else(some (.done l28)))))))
def QJ(Γ:Gt)(aD:Cw)(aS:Int)(r:A3):Exit->St->Prop:=fK Tryz.prog Γ Tryz.f124.results.toList [] (QF r 20000) [(20000,.tok 1 3 r.length)]
def jP:=(λn_=>Ca n_ [2,13,21])
def lA:List g5:=[(4,iD)]
def k9(x3:A3)(i8:Int):=((x3.drop (1:Int).toNat).getD i8.toNat 0)
def k7(l1:A3)(i25:Int):=((l1.drop (1:Int).toNat).getD i25.toNat 0)
def lT(aD:Cw):List AV:=[(QE aD.Succ),(QE aD.Pred)]
def mK:=(Z58:St)
def M9(aD:Cw)(aS:Int):Option A3:=
 ((O5 (S:=dC) (X:=A3) ((Gw aD aS).bind λx3=>(bif ((x3.length:Int)==0) then(some (.done ([]:A3))) else((E4 ([(-2:Int)]:A3) (aD.Succ.length:Int)).bind λx4=>(Cq (B6 aS x4.length) (Cq (0<=(1:Int)/\(1:Int)<=(x3.length:Int)) ((Ai (Dp aD x3) (false,(0:Int),(x4.set aS.toNat (-1:Int)))).bind (λ(b10,l11)=>(bif b10 then(some (.next (x3,l11))) else(some (.done l11)))))))))) (Eu aD)).bind (λx40=>(some x40)))
theorem NZ(h:M9 v18 v1=some v2):sP 124 [(.agg (P4 v18)),(Z7 v1)] [] (QF v2 20000) [(20000,.tok 1 3 v2.length)]:=
 sG Tryz.func124 λΓ q=>have hΓ:=q.own;gR q Xq [2] lA [] (c1 (Ir 1 Ax (0:Int))) (tB h λx40 y40 h=>gS y40 (λ(s_:dC)=>match s_ with|(l1,l2)=>0) (λ(s_:dC)=>match s_ with|(l1,l2)=>(⟨[LK,(5,(QF l1 13)),(6,(.vsl 21 l2.length))],[(LL (lT v18)),(13,.tok 1 3 l1.length),(Z4 21 l2)],[]⟩:St)) (λr_=>aR (QJ Γ v18 v1 r_)) (λy h=>tB h λx3 y3 h=>tT q IW [2,13] [⟨[],[(20000,13)],(QF x3 20000),[(20000,.tok 1 3 x3.length)],[],[]⟩] (c1 (So y3)) (Ap q [1,2,5,16] [2,13] (gC h (λh=>gR q [4] [] lA [] (c1 (Ir 1 Ax (0:Int))) (Tn (⟨lA,[],[]⟩:St) (tS h (gY (R3 (K0 [(6004,20000)] (show Le Γ _ mK from Le.trans (Dv (st':=⟨lA,[],[]⟩) [4] [] q) (Le.trans (bf (t:=4) (nm:=6004) (sz':=1) (λi=>Ax (([]:A3).getD i 0)) 3 rfl rfl (.inl ⟨rfl,rfl⟩) (λh_=>absurd h_ (by decide))) (Dv (st':=mK) [4] [6004] q))))))))) λh=>tB h λx4 y4 h=>gR q [1,2,5,6] J9 [(17,(AV.list 1 Ax 0 ([(-2:Int)]:A3) .exact))] [⟨[],[(20000,21)],(.vsl 20000 x4.length),[(Z4 20000 x4)],[],[]⟩] (c2 (Cp 1 Ax (0:Int) ([(-2:Int)]:A3)) (O4 y4)) (tC h λc5_ h=>tU q U5 J9 (c2 c5_ (Eq.refl x4.length)) (Mz (Le.trans (Wh 21 (show ∀ k_,k_<x4.length->AVleL ((λi_=>AV.eraseAll jP ((K1 (λi=>Ax (x4.getD i 0)) v1.toNat 0 [(.int .i64 (-1:Int))]) i_)) k_) ((λi=>Ax ((x4.set v1.toNat (-1:Int)).getD i 0)) k_) from(Cf (Hx ..).symm (λk_ hk_=>(B5 (AV.eraseAll jP) ((Lz (λ_ _=>rfl) (N5 c5_) rfl) k_ hk_)).trans rfl)))) (Sf (λ(k_:Nat) u=>(Fo u [(6,(.vsl 21 k_))] [(21,.arr 1 3 k_ (λi=>Ax ((x4.set v1.toNat (-1:Int)).getD i 0)))])) (show x4.length=(x4.set v1.toNat (-1:Int)).length from(Hx ..).symm))) (Ap q IU J9 (tC h λc6_ h=>gR q U2 J9 [(26,(AV.list 1 Ax 0 (x3.drop (1:Int).toNat) .none))] [] (c2 c6_ (show(AVle (.slice 1 (x3.length-(1:Int).toNat) (λi=>Ax (x3.getD ((1:Int).toNat+i) 0)) .none) (AV.list 1 Ax 0 (x3.drop (1:Int).toNat) .none)) from JN)) (tL q h U2 J9 (λu (b7,i8,l9)=>(Fo u [(6,(.vsl 21 l9.length)),(7,(.bool b7)),(28,(Z7 i8))] [(Z4 21 l9)])) (λu (b10,l11)=>aG Γ (.exit 0) (Xt IU J9 u [(6,(.vsl 21 l11.length)),(7,(.bool b10))] [(Z4 21 l11)])) (λ⟨b7,i8,l9⟩ y h=>Ap q hY J9 (gC h (λh=>tB h λx19 y19 h=>gJ y19 (λ(b12,l13)=>aG Γ .normal (⟨[LK,(5,(QF x3 13)),(6,(.vsl 21 l13.length)),(7,(.bool b12)),(26,(AV.list 1 Ax 0 (x3.drop (1:Int).toNat) .none)),(27,(.int .i64 ((x3.drop (1:Int).toNat).length:Int))),(28,(Z7 i8))],[(LL (lT v18)),(13,.tok 1 3 x3.length),(Z4 21 l13)],[]⟩:St)) (λy h=>tV q hZ J9 h λh=>tC h λc15_ h=>tB h λx16 y16 h=>tT q g8 J9 [⟨[],[],(Z7 x16),[],[21],[]⟩] (c4 c15_ (Sn y16) (show(CL []) from trivial) (Eq.refl l9.length)) (tC h λc17_ h=>tU q g7 J9 (c2 c17_ (Eq.refl l9.length)) (gC h (λh=>tC h λc18_ h=>tU q U2 J9 (c2 c18_ (Eq.refl l9.length)) (tS h (gK (Ea (Le.trans (Le.trans (Wh 21 (show ∀ k_,k_<l9.length->AVleL ((λi_=>AV.eraseAll jP ((K1 (λi=>Ax (l9.getD i 0)) (k9 x3 i8).toNat 0 [(Z7 x16)]) i_)) k_) ((λi=>Ax ((l9.set (k9 x3 i8).toNat x16).getD i 0)) k_) from(Cf (Hx ..).symm (λk_ hk_=>(B5 (AV.eraseAll jP) ((Lz (λ_ _=>rfl) (N5 c18_) rfl) k_ hk_)).trans rfl)))) (Sf (λ(k_:Nat) u=>(Fo u [(6,(.vsl 21 k_))] [(21,.arr 1 3 k_ (λi=>Ax ((l9.set (k9 x3 i8).toNat x16).getD i 0)))])) (show l9.length=(l9.set (k9 x3 i8).toNat x16).length from(Hx ..).symm))) Ns))))) λh=>tS h (gK (Ea (Dv U2 J9 q)))))) (match x19,h with|⟨b12,l13⟩,h=>gA (Ap q U2 J9 (tN h)))) λh=>tS h (gO (Ea (Dv IU J9 q))))) λx21 h=>(match x21,h with|⟨b10,l11⟩,h=>gA (Ap q [2,5,6,50] J9 (gC h (λh=>tS h (eZ (Dv U5 J9 q))) λh=>Ap q [4] [21] (Tn (⟨[(4,(.vsl 21 l11.length))],[(Z4 21 l11)],[]⟩:St) (tS h (gY (R3 (K0 [(21,20000)] (Le.trans (Lb (nm:=21) (sz:=1) (n:=l11.length) (e:=3) (f:=(λi=>Ax (l11.getD i 0))) (g:=(λi=>Ax (l11.getD i 0))) rfl ⟨rfl,trivial⟩ (λ_ _=>rfl) (by rw[hΓ];rfl)) (M7 (st':=⟨[(4,(QF l11 21))],[(21,.tok 1 3 l11.length)],[]⟩) (by kernel_rfl))))))))))))))))))) (λ⟨l1,l2⟩ y h=>Ap q IU J9 (tC h λc23_ h=>gR q U2 J9 [(26,(AV.list 1 Ax 0 (l1.drop (1:Int).toNat) .none))] [] (c2 c23_ (show(AVle (.slice 1 (l1.length-(1:Int).toNat) (λi=>Ax (l1.getD ((1:Int).toNat+i) 0)) .none) (AV.list 1 Ax 0 (l1.drop (1:Int).toNat) .none)) from JN)) (tL q h U2 J9 (λu (b24,i25,l26)=>(Fo u [(6,(.vsl 21 l26.length)),(7,(.bool b24)),(28,(Z7 i25))] [(Z4 21 l26)])) (λu (b27,l28)=>aG Γ (.exit 0) (Xt IU J9 u [(6,(.vsl 21 l28.length)),(7,(.bool b27))] [(Z4 21 l28)])) (λ⟨b24,i25,l26⟩ y h=>Ap q hY J9 (gC h (λh=>tB h λx36 y36 h=>gJ y36 (λ(b29,l30)=>aG Γ .normal (⟨[LK,(5,(QF l1 13)),(6,(.vsl 21 l30.length)),(7,(.bool b29)),(26,(AV.list 1 Ax 0 (l1.drop (1:Int).toNat) .none)),(27,(.int .i64 ((l1.drop (1:Int).toNat).length:Int))),(28,(Z7 i25))],[(LL (lT v18)),(13,.tok 1 3 l1.length),(Z4 21 l30)],[]⟩:St)) (λy h=>tV q hZ J9 h λh=>tC h λc32_ h=>tB h λx33 y33 h=>tT q g8 J9 [⟨[],[],(Z7 x33),[],[21],[]⟩] (c4 c32_ (Sn y33) (show(CL []) from trivial) (Eq.refl l26.length)) (tC h λc34_ h=>tU q g7 J9 (c2 c34_ (Eq.refl l26.length)) (gC h (λh=>tC h λc35_ h=>tU q U2 J9 (c2 c35_ (Eq.refl l26.length)) (tS h (gK (Ea (Le.trans (Le.trans (Wh 21 (show ∀ k_,k_<l26.length->AVleL ((λi_=>AV.eraseAll jP ((K1 (λi=>Ax (l26.getD i 0)) (k7 l1 i25).toNat 0 [(Z7 x33)]) i_)) k_) ((λi=>Ax ((l26.set (k7 l1 i25).toNat x33).getD i 0)) k_) from(Cf (Hx ..).symm (λk_ hk_=>(B5 (AV.eraseAll jP) ((Lz (λ_ _=>rfl) (N5 c35_) rfl) k_ hk_)).trans rfl)))) (Sf (λ(k_:Nat) u=>(Fo u [(6,(.vsl 21 k_))] [(21,.arr 1 3 k_ (λi=>Ax ((l26.set (k7 l1 i25).toNat x33).getD i 0)))])) (show l26.length=(l26.set (k7 l1 i25).toNat x33).length from(Hx ..).symm))) Ns))))) λh=>tS h (gK (Ea (Dv U2 J9 q)))))) (match x36,h with|⟨b29,l30⟩,h=>gA (Ap q U2 J9 (tN h)))) λh=>tS h (gO (Ea (Dv IU J9 q))))) λx38 h=>(match x38,h with|⟨b27,l28⟩,h=>gA (Ap q [2,5,6,50] J9 (gC h (λh=>tS h (eZ (Dv U5 J9 q))) λh=>Ap q [4] [21] (Tn (⟨[(4,(.vsl 21 l28.length))],[(Z4 21 l28)],[]⟩:St) (tS h (gY (R3 (K0 [(21,20000)] (Le.trans (Lb (nm:=21) (sz:=1) (n:=l28.length) (e:=3) (f:=(λi=>Ax (l28.getD i 0))) (g:=(λi=>Ax (l28.getD i 0))) rfl ⟨rfl,trivial⟩ (λ_ _=>rfl) (by rw[hΓ];rfl)) (M7 (st':=⟨[(4,(QF l28 21))],[(21,.tok 1 3 l28.length)],[]⟩) (by kernel_rfl)))))))))))))) (Vx (λst' hk=>tS h (gK hk))))
def Hk(aa3:List Hc)(aa4:A3):Int->Option (LR Int (Unit ⊕ Bool)):=
 λ(i1:Int)=>(bif (decide (i1<(aa3.length:Int))) then(Cq (B6 i1 aa3.length) ((D7 ((aa3.getD i1.toNat default).From) aa4).bind λx3=>(bif (bif (!x3) then true else((((aa3.getD i1.toNat default).Args).length:Int)!=(aa4.length:Int))) then(some (.done (.inr false))) else(some (.next (Bh (i1+1))))))) else(some (.done (.inl ()))))
def AE(Γ:Gt)(aa3:List Hc)(aa4:A3)(r:Bool):Exit->St->Prop:=fK Tryz.prog Γ Tryz.f125.results.toList [] (.bool r) []
def Jk(aa3:List Hc)(aa4:A3):Option Bool:=
 ((Ai (Hk aa3 aa4) (0:Int)).bind (λx4=>(match x4 with|(.inl _)=>(some true)|(.inr r6)=>(some r6))))
theorem Yg(h:Jk v5 v2=some v3):sP 125 [(AV.list 4 CH default v5 .none),(Px v2)] [] (.bool v3) []:=
 sG Tryz.func125 λΓ q=>tW q Hb [] H5 [] (tL q h H5 [] (λu i1=>(Fo u [(9,(Z7 i1))] [])) (λu x_=>match x_ with|(.inl _)=>aG Γ (.exit 0) (⟨[],[],[]⟩:St)|(.inr r_)=>aR (AE Γ v5 v2 r_)) (λi1 y h=>Ap q AA [] (gC h (λh=>tV q AB [6] h λh=>tB h λx3 y3 h=>tT q [1,7,8,9,25] [] [(Z2 x3)] (ci (J2 y3) (j9 ((!x3)==false) (c1 (Ua (!x3))))) (gC h (λh=>Ap q [4] [] (tS h (gO (R3 (K0 [] (Le.refl _ _)))))) λh=>Ap q H5 [] (tN h))) λh=>tS h (gO (Ea (Dv [] [] q))))) λx4 h=>(match x4,h with | .inl _,h=>gA (Ap q [4] [] (tS h (C1 []))) | .inr r6,h=>Vx (λst' hk=>tS h (gK hk))))
def mL(aE:Jb):=(bif (aE.Kind==0) then true else(aE.Kind==2))
def Hr(aE:Jb):Option Bool:=
 (some (bif (bif (aE.Kind==0) then true else(aE.Kind==2)) then true else(aE.Arg==0)))
theorem Yf(h:Hr v8=some v3):sP 126 [(.agg (bH v8))] [] (.bool v3) []:=
 sG Tryz.func126 λΓ q=>Ap q [1] [1] (tU q [2] [] (Nr ((v8.Kind==0)==false) (ci (Ua (v8.Kind==0)) (Nr ((mL v8)==false) (c1 (Ua (mL v8)))))) (tS h (C1 [])))
def Cg(a0:Ab)(a5:Int)(a6:List A6)(x1:ky)(x3:A3):Int->Option (LR Int (Unit ⊕ (Int×Ab×Int×A3×List A6))):=
 λ(i4:Int)=>(bif (decide (i4<(a0.Blocks.length:Int))) then(Cq (B6 i4 a0.Blocks.length) (Cq (B6 i4 x1.1.Pred.length) ((Jk ((a0.Blocks.getD i4.toNat default).Phis) (x1.1.Pred.getD i4.toNat [])).bind λx7=>((bif ((!x7)==false) then Hr (⟨(a0.Blocks.getD i4.toNat default).End.Kind,(a0.Blocks.getD i4.toNat default).End.Arg,(a0.Blocks.getD i4.toNat default).End.To⟩:Jb) else some false).bind λx8=>(bif (bif (!x7) then true else(!x8)) then(some (.done (.inr ((5:Int),a0,a5,x3,a6)))) else(some (.next (Bh (i4+1))))))))) else(some (.done (.inl ()))))
def Py(Γ:Gt)(a0:Ab)(a5:Int)(a9:A3)(a6:List A6)(r:YG):Exit->St->Prop:=fK Tryz.prog Γ Tryz.f92.results.toList (Z3 a0.Params a0.Ret a0.Blocks a5 a9 a6 a6.length) (Z7 r.1) (Z3 r.2.1.Params r.2.1.Ret r.2.1.Blocks r.2.2.1 r.2.2.2.1 r.2.2.2.2 r.2.2.2.2.length)
def lU(x1:ky):=((x1.2 !=0)==false)
def mM(x3:A3)(a0:Ab)(a5:Int)(a6:List A6):List SZ:=[(31,.tok 1 3 x3.length),(30000,.row 110 [(Px a0.Params),(Z7 a0.Ret),(YO a0.Blocks),(Z7 a5),(Px x3),.nilm,(AV.list 5 I7 default a6 (.own 37006))]),(Z8 a6.length)]
def lB(x3:A3)(a0:Ab)(a5:Int)(a6:List A6):List SZ:=[(31,.tok 1 3 x3.length),(30000,.row 110 [(Px a0.Params),(Z7 a0.Ret),(YO a0.Blocks),(Z7 a5),(QF x3 31),.nilm,(AV.list 5 I7 default a6 (.own 37006))]),(Z8 a6.length)]
def Fi(a0:Ab)(a5:Int)(a9:A3)(a6:List A6):Option YG:=
 ((Qi a0).bind λx1=>((bif ((x1.2 !=0)==false) then Gw x1.1 (0:Int) else some []).bind λx2=>(bif (bif (x1.2 !=0) then true else(decide ((x2.length:Int)<(a0.Blocks.length:Int)))) then(some ((5:Int),a0,a5,a9,a6)) else((M9 x1.1 (0:Int)).bind λx3=>((Ai (Cg a0 a5 a6 x1 x3) (0:Int)).bind (λx9=>(match x9 with|(.inl _)=>(some ((0:Int),a0,a5,x3,a6))|(.inr r11)=>(some r11))))))))
theorem Pg(h:Fi v0 v1 v2 v12=some v13):sP 92 [Xr] (Z3 v0.Params v0.Ret v0.Blocks v1 v2 v12 v12.length) (Z7 v13.1) (Z3 v13.2.1.Params v13.2.1.Ret v13.2.1.Blocks v13.2.2.1 v13.2.2.2.1 v13.2.2.2.2 v13.2.2.2.2.length):=
 sG Tryz.func92 λΓ q=>Ap q [0] Fe (tB h λx1 y1 h=>tT q [0,3,4] PS [⟨[],[],(.tuple [(.agg (P4 x1.1)),(Z7 x1.2)]),[],[],[]⟩] (c1 (OA y1)) (tB h λx2 y2 h=>tT q [0,3,28] PS [⟨[],[],(Px x2),[],[],[]⟩] (UE (gI (lU x1)) (show((lU x1)=true->(sP 123 [(.agg (P4 x1.1)),Oq] [] (Px x2) [])) from(λhg=>(Spec.drop (So (A8 hg y2))))) (mv (lU x1) (c1 (Ua (x1.2 !=0))))) (gC h (λh=>Ap q [2] Fe (tS h (C1 AP))) λh=>tB h λx3 y3 h=>tT q U7 IK [⟨[],[(20000,31)],(QF x3 20000),[(20000,.tok 1 3 x3.length)],[],[]⟩] (c1 (NZ y3)) (Ap q TK IK (tL q h TK IK (λu i4=>(Fo u [(40,(Z7 i4))] [])) (λu x_=>match x_ with|(.inl _)=>aG Γ (.exit 0) (Xt [] IL u [] [])|(.inr r_)=>aR (Py Γ v0 v1 v2 v12 r_)) (λi4 y h=>Ap q [3,38,39,40,41] IK (gC h (λh=>tV q [3,5,6,38,39,40] [3,6,31,30000,37006] h λh=>tC h λc6_ h=>tB h λx7 y7 h=>tB h λx8 y8 h=>tT q [3,38,39,40,59] IK [(Z2 x7),(Z2 x8)] (UE c6_ (Yg y7) (Nr ((!x7)==false) (c3 (λ(hg:((!x7)==false)=true)=>(Yf (A8 hg y8))) (gI ((!x7)==false)) (Ua (!x7))))) (gC h (λh=>Ap q [2] IL (Tn (⟨[(2,(.int .i64 (5:Int)))],(lB x3 v0 v1 v12),[]⟩:St) (tS h (gO (R3 (K0 AP (show Le Γ _ (⟨[(2,(.int .i64 (5:Int)))],(mM x3 v0 v1 v12),[]⟩:St) from Le.trans (Dv (st':=⟨[(2,(.int .i64 (5:Int)))],(lB x3 v0 v1 v12),[]⟩) [2] IL q) (Kg (.cons (AVle.refl _) .nil) (.same (.row (.cons (AVle.refl _) (.cons (AVle.refl _) (.cons (AVle.refl _) (.cons (AVle.refl _) (.cons AVle.untag (.cons (AVle.refl _) (.cons (AVle.refl _) .nil))))))) (.same .nil))))))))))) λh=>Ap q TK IK (tN h))) λh=>tS h (gO (Ea (Dv [] IL q))))) λx9 h=>(match x9,h with | .inl _,h=>gA (Ap q [2] IL (Tn (⟨[(2,Oq)],(lB x3 v0 v1 v12),[]⟩:St) (tS h (gK (e:=.ret) (K0 AP (show Le Γ _ (⟨[(2,Oq)],(mM x3 v0 v1 v12),[]⟩:St) from Le.trans (Dv (st':=⟨[(2,Oq)],(lB x3 v0 v1 v12),[]⟩) [2] IL q) (Kg (.cons (AVle.refl _) .nil) (.same (.row (.cons (AVle.refl _) (.cons (AVle.refl _) (.cons (AVle.refl _) (.cons (AVle.refl _) (.cons AVle.untag (.cons (AVle.refl _) (.cons (AVle.refl _) .nil))))))) (.same .nil)))))))))) | .inr r11,h=>Vx (λst' hk=>tS h (gK hk))))))))
def Gx(aK:Int):Option Bool:=
 (Option.bind (α:=Bool) (bif (aK==1) then(some (aK==1)) else(bif (aK==8) then(some (aK==8)) else(bif (aK==16) then(some (aK==16)) else(bif (aK==32) then(some (aK==32)) else(some (aK==64)))))) (λx2=>(bif x2 then(some true) else(some false))))
theorem Ik(h:Gx v1=some v3):sP 128 [(Z7 v1)] [] (.bool v3) []:=
 sG Tryz.func128 λΓ q=>tW q [0] [] [3] [] (tB h λx2 y2 h=>gJ y2 (λb1=>aG Γ .normal (⟨[(4,(.bool b1))],[],[]⟩:St)) (λy h=>Ap q [3,4] [] (gC h (λh=>tS h (gK (Ea (Dv [4] [] q)))) λh=>Ap q [3,4] [] (gC h (λh=>tS h (gK (Ea (Dv [4] [] q)))) λh=>Ap q [3,4] [] (gC h (λh=>tS h (gK (Ea (Dv [4] [] q)))) λh=>Ap q [3,4] [] (gC h (λh=>tS h (gK (Ea (Dv [4] [] q)))) λh=>Ap q [4] [] (tS h (gK (Ea Ns)))))))) (gA (gC h (λh=>Ap q [2] [] (tS h (C1 []))) λh=>Ap q [2] [] (tS h (C1 [])))))
def Hj(aA:A3):Int->Option (LR Int (Unit ⊕ Bool)):=
 λ(i1:Int)=>(bif (decide (i1<(aA.length:Int))) then(Cq (B6 i1 aA.length) ((Gx (aA.getD i1.toNat 0)).bind λx3=>(bif (!x3) then(some (.done (.inr false))) else(some (.next (Bh (i1+1))))))) else(some (.done (.inl ()))))
def AD(Γ:Gt)(aA:A3)(r:Bool):Exit->St->Prop:=fK Tryz.prog Γ Tryz.f127.results.toList [] (.bool r) []
def Jj(aA:A3):Option Bool:=
 ((Ai (Hj aA) (0:Int)).bind (λx4=>(match x4 with|(.inl _)=>(some true)|(.inr r6)=>(some r6))))
theorem Ye(h:Jj v2=some v3):sP 127 [(Px v2),(.clo 128 [] [])] [] (.bool v3) []:=
 sG Tryz.func127 λΓ q=>tW q Hb [] H5 [] (tL q h H5 [] (λu i1=>(Fo u [(9,(Z7 i1))] [])) (λu x_=>match x_ with|(.inl _)=>aG Γ (.exit 0) (⟨[],[],[]⟩:St)|(.inr r_)=>aR (AD Γ v2 r_)) (λi1 y h=>Ap q AA [] (gC h (λh=>tV q AB [] h λh=>tB h λx3 y3 h=>tT q FA [] [(Z2 x3)] (c1 (Ik y3)) (gC h (λh=>Ap q [4] [] (tS h (gO (R3 (K0 [] (Le.refl _ _)))))) λh=>Ap q H5 [] (tN h))) λh=>tS h (gO (Ea (Dv [] [] q))))) λx4 h=>(match x4,h with | .inl _,h=>gA (Ap q [4] [] (tS h (C1 []))) | .inr r6,h=>Vx (λst' hk=>tS h (gK hk))))
def Lg(aU:Hc):Option Bool:=
 ((Gx aU.Bits).bind λx1=>(some x1))
theorem Wu(h:Lg v4=some v3):sP 165 [(.agg (CH v4))] [] (.bool v3) []:=
 sG Tryz.func165 λΓ q=>Ap q [1] [1] (tB h λx1 y1 h=>tT q [2] [] [(Z2 x1)] (c1 (Ik y1)) (tS h (C1 [])))
def Fh(aA:List Hc):Int->Option (LR Int (Unit ⊕ Bool)):=
 λ(i1:Int)=>(bif (decide (i1<(aA.length:Int))) then(Cq (B6 i1 aA.length) ((Lg (aA.getD i1.toNat default)).bind λx3=>(bif (!x3) then(some (.done (.inr false))) else(some (.next (Bh (i1+1))))))) else(some (.done (.inl ()))))
def T8(Γ:Gt)(aA:List Hc)(r:Bool):Exit->St->Prop:=fK Tryz.prog Γ Tryz.f164.results.toList [] (.bool r) []
def G2(aA:List Hc):Option Bool:=
 ((Ai (Fh aA) (0:Int)).bind (λx4=>(match x4 with|(.inl _)=>(some true)|(.inr r6)=>(some r6))))
theorem Sk(h:G2 v5=some v3):sP 164 [(AV.list 4 CH default v5 .none),(.clo 165 [] [])] [] (.bool v3) []:=
 sG Tryz.func164 λΓ q=>tW q Hb [] H5 [] (tL q h H5 [] (λu i1=>(Fo u [(9,(Z7 i1))] [])) (λu x_=>match x_ with|(.inl _)=>aG Γ (.exit 0) (⟨[],[],[]⟩:St)|(.inr r_)=>aR (T8 Γ v5 r_)) (λi1 y h=>Ap q AA [] (gC h (λh=>tV q AB [6] h λh=>tB h λx3 y3 h=>tT q FA [] [(Z2 x3)] (c1 (Wu y3)) (gC h (λh=>Ap q [4] [] (tS h (gO (R3 (K0 [] (Le.refl _ _)))))) λh=>Ap q H5 [] (tN h))) λh=>tS h (gO (Ea (Dv [] [] q))))) λx4 h=>(match x4,h with | .inl _,h=>gA (Ap q [4] [] (tS h (C1 []))) | .inr r6,h=>Vx (λst' hk=>tS h (gK hk))))
def Lq(aQ:Int):Option Bool:=
 (some (bif (decide ((0:Int)<=aQ)) then(decide (aQ<=22)) else false))
theorem DL(h:Lq v1=some v3):sP 192 [(Z7 v1)] [] (.bool v3) []:=
 sG Tryz.func192 λΓ q=>Ap q [0] [] (tU q [2] [] (c2 (gI ((decide ((0:Int)<=v1))==true)) (L8 (decide ((0:Int)<=v1)))) (tS h (C1 [])))
def mN(x5:Bool)(aK:Int):=(bif x5 then(decide ((8:Int)<=aK)) else false)
def Mr(aK:Int)(aa2:Int):Option Bool:=
 (bif (aa2==1) then((Gx aK).bind λx1=>(some x1)) else(Option.bind (α:=Bool) (bif (aa2==2) then(some (aa2==2)) else(bif (aa2==4) then(some (aa2==4)) else(bif (aa2==8) then(some (aa2==8)) else(some (aa2==16))))) (λx3=>(bif x3 then((Gx aK).bind λx5=>(some (bif (bif x5 then(decide ((8:Int)<=aK)) else false) then(decide (((Bh (aK*aa2)):Int)<=128)) else false))) else(some false)))))
theorem FT(h:Mr v1 v11=some v3):sP 209 [(Z7 v1),(Z7 v11)] [] (.bool v3) []:=
 sG Tryz.func209 λΓ q=>tW q Hb [] EZ [] (Ap q [0,1,5,6] [] (gC h (λh=>tB h λx1 y1 h=>tT q [4] [] [(Z2 x1)] (c1 (Ik y1)) (tS h (C1 []))) λh=>tB h λx3 y3 h=>gJ y3 (λb2=>aG Γ .normal (⟨[(0,(Z7 v1)),(1,(Z7 v11)),(10,(.bool b2))],[],[]⟩:St)) (λy h=>Ap q [0,1,5,10] [] (gC h (λh=>tS h (gK (Ea (Dv AC [] q)))) λh=>Ap q [0,1,5,10] [] (gC h (λh=>tS h (gK (Ea (Dv AC [] q)))) λh=>Ap q [0,1,5,10] [] (gC h (λh=>tS h (gK (Ea (Dv AC [] q)))) λh=>Ap q AC [] (tS h (gK (Ea Ns))))))) (gA (gC h (λh=>tB h λx5 y5 h=>tT q [4] [] [(Z2 x5)] (j6 (Ik y5) (gI (x5==true)) (L8 x5) (MX ((mN x5 v1)==true) (c1 (L8 (mN x5 v1))))) (tS h (C1 []))) λh=>Ap q [4] [] (tS h (C1 []))))))
def lC(a1:Ds):List SZ:=[(1,.row 43 [(Z7 a1.Kind),(Z7 a1.Bits),(Z7 a1.Lanes),(Z7 a1.Dst),(Px a1.Args),(Iq a1.Imm)])]
def Iy(a1:Ds):Option Bool:=
 (Option.bind (α:=Bool) (bif (a1.Kind==16) then(some (a1.Kind==16)) else(some (a1.Kind==17))) (λx2=>(bif x2 then(some (decide ((8:Int)<=a1.Bits))) else(Option.bind (α:=Bool) (bif (a1.Kind==18) then(some (a1.Kind==18)) else(some (a1.Kind==19))) (λx5=>(bif x5 then(some (bif (decide ((8:Int)<=a1.Bits)) then(a1.Lanes==1) else false)) else(Option.bind (α:=Bool) (bif (a1.Kind==4) then(some (a1.Kind==4)) else(bif (a1.Kind==10) then(some (a1.Kind==10)) else(bif (a1.Kind==11) then(some (a1.Kind==11)) else(bif (a1.Kind==12) then(some (a1.Kind==12)) else(bif (a1.Kind==14) then(some (a1.Kind==14)) else(bif (a1.Kind==15) then(some (a1.Kind==15)) else(some (a1.Kind==20)))))))) (λx8=>(bif x8 then(some (a1.Lanes==1)) else(Option.bind (α:=Bool) (bif (a1.Kind==21) then(some (a1.Kind==21)) else(some (a1.Kind==22))) (λx11=>(bif x11 then(some (decide ((1:Int)<a1.Lanes))) else(some true)))))))))))))
theorem Wx(h:Iy v6=some v3):sP 210 [(Vw v6)] [] (.bool v3) []:=
 sG Tryz.func210 λΓ q=>tW q [1] [1] [1,4] [1] (tB h λx2 y2 h=>gJ y2 (λb1=>aG Γ .normal (⟨[(1,(.ptr 1 0)),(4,(Z7 v6.Kind)),(5,(.bool b1))],(lC v6),[]⟩:St)) (λy h=>Ap q [1,4,5] [1] (gC h (λh=>tS h (gK (Ea Ns))) λh=>Ap q [1,4,5] [1] (tS h (gK (Ea Ns))))) (gA (gC h (λh=>Ap q [2] [] (tS h (C1 []))) λh=>tB h λx5 y5 h=>gJ y5 (λb4=>aG Γ .normal (⟨[(1,(.ptr 1 0)),(4,(Z7 v6.Kind)),(11,(.bool b4))],(lC v6),[]⟩:St)) (λy h=>Ap q [1,4,11] [1] (gC h (λh=>tS h (gK (Ea Ns))) λh=>Ap q [1,4,11] [1] (tS h (gK (Ea Ns))))) (gA (gC h (λh=>tU q [2] [] (Nr ((decide ((8:Int)<=v6.Bits))==true) (c1 (L8 (decide ((8:Int)<=v6.Bits))))) (tS h (C1 []))) λh=>tB h λx8 y8 h=>gJ y8 (λb7=>aG Γ .normal (⟨[(1,(.ptr 1 0)),(4,(Z7 v6.Kind)),(22,(.bool b7))],(lC v6),[]⟩:St)) (λy h=>Ap q FB [1] (gC h (λh=>tS h (gK (Ea Ns))) λh=>Ap q FB [1] (gC h (λh=>tS h (gK (Ea Ns))) λh=>Ap q FB [1] (gC h (λh=>tS h (gK (Ea Ns))) λh=>Ap q FB [1] (gC h (λh=>tS h (gK (Ea Ns))) λh=>Ap q FB [1] (gC h (λh=>tS h (gK (Ea Ns))) λh=>Ap q FB [1] (gC h (λh=>tS h (gK (Ea Ns))) λh=>Ap q FB [1] (tS h (gK (Ea Ns)))))))))) (gA (gC h (λh=>Ap q [2] [] (tS h (C1 []))) λh=>tB h λx11 y11 h=>gJ y11 (λb10=>aG Γ .normal (⟨[(1,(.ptr 1 0)),(33,(.bool b10))],(lC v6),[]⟩:St)) (λy h=>Ap q [1,4,33] [1] (gC h (λh=>tS h (gK (Ea (Dv [1,33] [1] q)))) λh=>Ap q [1,33] [1] (tS h (gK (Ea Ns))))) (gA (gC h (λh=>Ap q [2] [] (tS h (C1 []))) λh=>Ap q [2] [] (tS h (C1 [])))))))))))
def Qj(a8:Int)(aK:Int):Option Int:=
 ((Gx aK).bind λx1=>(bif (!x1) then(some (0:Int)) else(Cq (0<=(Bh ((64:Int)-aK))) (Cq (0<=(Bh ((64:Int)-aK))) (some (W9 .u64 (SQ .u64 a8 (Bh ((64:Int)-aK))) (Bh ((64:Int)-aK))))))))
theorem OC(h:Qj v1 v11=some v20):sP 225 [(Iq v1),(Z7 v11)] [] (.int .u64 v20) []:=
 sG Tryz.func225 λΓ q=>Ap q Hb [] (tB h λx1 y1 h=>tT q [0,1,7] [] [(Z2 x1)] (c1 (Ik y1)) (gC h (λh=>Ap q [4] [] (tS h (C1 []))) λh=>tC h λc2_ h=>tC h λc3_ h=>tU q [4] [] (c2 c2_ c3_) (tS h (C1 []))))
def Ii(aa5:Int):Option Bool:=
 ((bif ((decide (aa5<=64))==true) then Gx (Bh aa5) else some false).bind λx1=>(some (bif (decide (aa5<=64)) then x1 else false)))
theorem Rk(h:Ii v1=some v3):sP 226 [(Iq v1)] [] (.bool v3) []:=
 sG Tryz.func226 λΓ q=>Ap q [0] [] (tB h λx1 y1 h=>tT q [2] [] [(Z2 x1)] (Nr ((decide (v1<=64))==true) (c2 (λ(hg:((decide (v1<=64))==true)=true)=>(Ik (A8 hg y1))) (L8 (decide (v1<=64))))) (tS h (C1 [])))
def Kq(a1:Ds):Option Bool:=
 (bif (a1.Kind==0) then((Qj a1.Imm a1.Bits).bind λx1=>(some (x1==a1.Imm))) else(bif (a1.Kind==14) then((Ii a1.Imm).bind λx2=>(some (bif x2 then(decide (a1.Imm<(Gq a1.Bits))) else false))) else(bif (a1.Kind==15) then((Ii a1.Imm).bind λx3=>(some (bif x3 then(decide (((Gq a1.Bits):Int)<a1.Imm)) else false))) else(bif (a1.Kind==22) then(some (decide (a1.Imm<(Gq a1.Lanes)))) else(some (a1.Imm==0))))))
theorem AN(h:Kq v6=some v3):sP 211 [(Vw v6)] [] (.bool v3) []:=
 sG Tryz.func211 λΓ q=>tW q [1] [1] [1,4] [1] (Ap q [1,4,5] [1] (gC h (λh=>tB h λx1 y1 h=>tT q [2] [] [⟨[],[],(Iq x1),[],[],[]⟩] (c1 (OC y1)) (tS h (C1 []))) λh=>Ap q [1,4,15] [1] (gC h (λh=>tB h λx2 y2 h=>tT q [2] [] [(Z2 x2)] (ci (Rk y2) (j9 (x2==true) (c1 (L8 x2)))) (tS h (C1 []))) λh=>Ap q [1,4,28] [1] (gC h (λh=>tB h λx3 y3 h=>tT q [2] [] [(Z2 x3)] (ci (Rk y3) (j9 (x3==true) (c1 (L8 x3)))) (tS h (C1 []))) λh=>Ap q [1,41] [1] (gC h (λh=>Ap q [2] [] (tS h (C1 []))) λh=>Ap q [2] [] (tS h (C1 [])))))))
abbrev PL:=((Int×Int))
abbrev fq:=(List (Int×Int))
def E7(aaA:List PL):Option fq:=
 (some aaA)
variable{v21:List PL}{v22:List PL}
theorem Fm(h:E7 v21=some v22):sP 214 [(Z6 v21)] [] (Z6 v22) []:=
 sG Tryz.func214 λΓ q=>gR q [0] [] [(2,lH)] [] (c1 (Ir 2 Bp ((0:Int),(0:Int)))) (Ap q [2] [] (tS h (C1 [])))
abbrev jG:=(Int×List (Int×Int))
def B8 :jG->Option (LR (Int×List (Int×Int)) (List (Int×Int))):=
 λ((i7,l8):jG)=>(bif (decide (i7<(l8.length:Int))) then(Cq (0<=i7/\0+i7.toNat<=l8.length) (Cq (0<=i7/\0+i7.toNat<=l8.length) (some (.next ((Bh (i7+((Nat.min ((0+i7.toNat)-0) (l8.length-(0+i7.toNat))):Int))),(RH l8 (0+i7.toNat) (Nat.min ((0+i7.toNat)-0) (l8.length-(0+i7.toNat))) (λi=>l8.getD (0+i) ((0:Int),(0:Int))))))))) else(some (.done l8)))
def ZF(x3:Gr):=(List.replicate (Bh x3.2).toNat ((0:Int),(0:Int)))
def lW(x3:Gr)(a3:List PL):=(RH (ZF x3) 0 (Nat.min a3.length ((ZF x3).length-0)) (λi=>a3.getD i ((0:Int),(0:Int))))
def lV(l8:List PL)(i7:Int):=(RH l8 (0+i7.toNat) (Nat.min ((0+i7.toNat)-0) (l8.length-(0+i7.toNat))) (λi=>l8.getD (0+i) ((0:Int),(0:Int))))
def Bm(a3:List PL)(aZ:Int):Option fq:=
 (Option.bind (α:=Unit) (bif (decide (aZ<0)) then none else(some ())) (λx1=>(match x1 with|_=>((Ld (Gq (a3.length:Int)) (Gq aZ)).bind λx3=>(Option.bind (α:=Unit) (bif (bif (decide ((0:Int)<x3.1)) then true else(decide ((9223372036854775807:Int)<x3.2))) then none else(some ())) (λx4=>(match x4 with|_=>(Cq (0<=(Bh x3.2)/\(Bh x3.2)<=(Bh x3.2)/\(Bh x3.2)<=(room:Int)) ((Ai (S:=jG) (X:=List Gr) B8 (((Nat.min a3.length ((List.replicate (Bh x3.2).toNat ((0:Int),(0:Int))).length-0)):Int),(RH (List.replicate (Bh x3.2).toNat ((0:Int),(0:Int))) 0 (Nat.min a3.length ((List.replicate (Bh x3.2).toNat ((0:Int),(0:Int))).length-0)) (λi=>a3.getD i ((0:Int),(0:Int)))))).bind (λx12=>(some x12)))))))))))
theorem Mb(h:Bm v21 v1=some v22):sP 215 [(Z6 v21),(Z7 v1)] [] (AV.list 2 Bp ((0:Int),(0:Int)) v22 (.own 20000)) [(20000,.tok 2 73 v22.length)]:=
 sG Tryz.func215 λΓ q=>have hΓ:=q.own;gR q Hb [] [(4,lH)] [] (c1 (Ir 2 Bp ((0:Int),(0:Int)))) (tB h λx1 y1 h=>gJ y1 (λ_=>aG Γ .normal (⟨[(0,(Z6 v21)),(1,(Z7 v1))],[],[]⟩:St)) (λy h=>Ap q AC [] (gC h (λh=>nomatch h) λh=>tS h (gK (Ea (Dv Hb [] q))))) (gA (tB h λx3 y3 h=>tT q [0,5,6] [] [⟨[],[],(.tuple [(Iq x3.1),(Iq x3.2)]),[],[],[]⟩] (c1 (Zk y3)) (tB h λx4 y4 h=>gJ y4 (λ_=>aG Γ .normal (⟨[(0,(Z6 v21)),(6,(Iq x3.2))],[],[]⟩:St)) (λy h=>tU q [0,6,26] [] (c2 (gI ((decide ((0:Int)<x3.1))==false)) (Ua (decide ((0:Int)<x3.1)))) (gC h (λh=>nomatch h) λh=>tS h (gK (Ea (Dv [0,6] [] q))))) (gA (tV q [0,7] [30] h λh=>by exact Mz (Le.trans (Wh 30 (show ∀ k_,k_<((Bh x3.2).toNat)->AVleL ((λi_=>AV.eraseAll (λn_=>Ca n_ [30]) ((λ_=>[Oq,Oq]) i_)) k_) ((λi=>Bp ((ZF x3).getD i ((0:Int),(0:Int)))) k_) from(λk hk=>Wl (e:=Bp) (d:=((0:Int),(0:Int))) (.cons (AVle.refl _) (.cons (AVle.refl _) .nil)) _ k (W6 hk)))) (Sf (λ(k_:Nat) u=>(Fo u [(7,(.vsl 30 k_))] [(30,.arr 2 73 k_ (λi=>Bp ((ZF x3).getD i ((0:Int),(0:Int)))))])) (show(Bh x3.2).toNat=(ZF x3).length from(Xd ..).symm))) (tU q L6 [30] (c1 (Eq.refl ((ZF x3).length))) (Mz (Le.trans (Wh 30 (show ∀ k_,k_<((ZF x3).length)->AVleL ((λi_=>AV.eraseAll (λn_=>Ca n_ [30]) ((MO (λi=>Bp ((ZF x3).getD i ((0:Int),(0:Int)))) 0 (Nat.min v21.length ((ZF x3).length-0)) (λi=>Bp (v21.getD i ((0:Int),(0:Int))))) i_)) k_) ((λi=>Bp ((lW x3 v21).getD i ((0:Int),(0:Int)))) k_) from(Cf (Ft ..) (λk_ hk_=>(B5 (AV.eraseAll (λn_=>Ca n_ [30])) ((AX (e:=Bp) (d:=((0:Int),(0:Int))) (l:=(ZF x3)) (s:=(λi=>v21.getD i ((0:Int),(0:Int)))) (λ_ _=>rfl) (λ_ _=>rfl)) k_ hk_)).trans rfl)))) (Sf (λ(k_:Nat) u=>(Fo u [(7,(.vsl 30 k_))] [(30,.arr 2 73 k_ (λi=>Bp ((lW x3 v21).getD i ((0:Int),(0:Int)))))])) (show(ZF x3).length=(lW x3 v21).length from(Ft ..)))) (tL q h L6 [30] (λu (i7,l8)=>(Fo u [(7,(.vsl 30 l8.length)),(8,(Z7 i7))] (ln l8))) (λu l9=>aG Γ (.exit 0) (⟨[(7,(.vsl 30 l9.length))],(ln l9),[]⟩:St)) (λ⟨i7,l8⟩ y h=>Ap q [7,8,37] [30] (gC h (λh=>tC h λc10_ h=>tC h λc11_ h=>tU q L6 [30] (c4 c10_ c11_ (Eq.refl l8.length) (Eq.refl l8.length)) (tS h (gN (Le.trans (Le.trans (Wh 30 (show ∀ k_,k_<l8.length->AVleL ((λi_=>AV.eraseAll (λn_=>Ca n_ [30]) ((MO (λi=>Bp (l8.getD i ((0:Int),(0:Int)))) (0+i7.toNat) (Nat.min ((0+i7.toNat)-0) (l8.length-(0+i7.toNat))) (λi=>(λi=>Bp (l8.getD i ((0:Int),(0:Int)))) (0+i))) i_)) k_) ((λi=>Bp ((lV l8 i7).getD i ((0:Int),(0:Int)))) k_) from(Cf (Ft ..) (λk_ hk_=>(B5 (AV.eraseAll (λn_=>Ca n_ [30])) ((AX (e:=Bp) (d:=((0:Int),(0:Int))) (l:=l8) (s:=(λi=>l8.getD (0+i) ((0:Int),(0:Int)))) (λ_ _=>rfl) (λ_ _=>rfl)) k_ hk_)).trans rfl)))) (Sf (λ(k_:Nat) u=>(Fo u [(7,(.vsl 30 k_))] [(30,.arr 2 73 k_ (λi=>Bp ((lV l8 i7).getD i ((0:Int),(0:Int)))))])) (show l8.length=(lV l8 i7).length from(Ft ..)))) Ns)))) λh=>tS h (gO (Ea (Dv [7] [30] q))))) λx12 h=>gA (Ap q [4] [30] (Tn (⟨[(4,(.vsl 30 x12.length))],(ln x12),[]⟩:St) (tS h (gK (e:=.ret) (K0 [(30,20000)] (Le.trans (Lb (nm:=30) (sz:=2) (n:=x12.length) (e:=73) (f:=(λi=>Bp (x12.getD i ((0:Int),(0:Int))))) (g:=(λi=>Bp (x12.getD i ((0:Int),(0:Int))))) rfl ⟨rfl,trivial⟩ (λ_ _=>rfl) (by rw[hΓ];rfl)) (M7 (st':=⟨[(4,(AV.list 2 Bp ((0:Int),(0:Int)) x12 (.own 30)))],[(30,.tok 2 73 x12.length)],[]⟩) (by kernel_rfl)))))))))))))))))
def mO(a1:Ds):List SZ:=[(1,.row 43 [(Z7 a1.Kind),(Z7 a1.Bits),(Z7 a1.Lanes),(Z7 a1.Dst),(Px a1.Args),(Iq a1.Imm)]),(3,.row 73 [(.int .i64 (1:Int)),(.int .i64 (1:Int))]),(4,.row 73 [(QQ 64),(.int .i64 (1:Int))]),(5,.row 73 [(Z7 a1.Bits),(Z7 a1.Lanes)]),(6,.row 73 [(Z7 a1.Bits),(.int .i64 (1:Int))])]
def Kr(a1:Ds):Option fq:=
 (bif (a1.Kind==0) then((E7 ([]:List Gr)).bind λx1=>(some x1)) else(bif (a1.Kind==13) then((E7 ([((1:Int),(1:Int)),(a1.Bits,a1.Lanes),(a1.Bits,a1.Lanes)]:List Gr)).bind λx2=>(some x2)) else(Option.bind (α:=Bool) (bif (a1.Kind==14) then(some (a1.Kind==14)) else(some (a1.Kind==15))) (λx4=>(bif x4 then((E7 ([((Bh a1.Imm),(1:Int))]:List Gr)).bind λx6=>(some x6)) else(bif (a1.Kind==16) then((E7 ([((64:Int),(1:Int))]:List Gr)).bind λx7=>(some x7)) else(bif (a1.Kind==17) then((E7 ([((64:Int),(1:Int)),(a1.Bits,a1.Lanes)]:List Gr)).bind λx8=>(some x8)) else(Option.bind (α:=Bool) (bif (a1.Kind==18) then(some (a1.Kind==18)) else(some (a1.Kind==19))) (λx10=>(bif x10 then((E7 ([((1:Int),(1:Int)),((64:Int),(1:Int)),(a1.Bits,(1:Int))]:List Gr)).bind λx12=>(some x12)) else(bif (a1.Kind==20) then((E7 ([((1:Int),(1:Int)),(a1.Bits,(1:Int)),(a1.Bits,(1:Int)),(a1.Bits,(1:Int))]:List Gr)).bind λx13=>(some x13)) else(bif (a1.Kind==21) then((Bm ([(a1.Bits,(1:Int))]:List Gr) a1.Lanes).bind λx14=>((E7 x14).bind λx15=>(some x15))) else(bif (a1.Kind==22) then((E7 ([(a1.Bits,a1.Lanes)]:List Gr)).bind λx16=>(some x16)) else((E7 ([(a1.Bits,a1.Lanes),(a1.Bits,a1.Lanes)]:List Gr)).bind λx17=>(some x17)))))))))))))))
theorem Ur(h:Kr v6=some v21):sP 190 [(Vw v6)] [] (Z6 v21) []:=
 sG Tryz.func190 λΓ q=>gR q [1] [1] [(2,lH)] [] (c1 (Ir 2 Bp ((0:Int),(0:Int)))) (tW q [1,3,4] [1,3,4] Tf Tf (tW q [1,3,4,5,6,18] Tf [1,3,4,5,6,18,19] Tf (gC h (λh=>tB h λx1 y1 h=>tT q [2] [] [(VY x1)] (c1 (show(sP 214 [YP] [] (Z6 x1) []) from(Spec.args (.cons eA .nil) (Fm y1)))) (tS h (C1 []))) λh=>Ap q [1,3,4,5,6,18,22] Tf (gC h (λh=>tB h λx2 y2 h=>gR q [2] [] [(27,(AV.list 2 Bp ((0:Int),(0:Int)) ([((1:Int),(1:Int)),(v6.Bits,v6.Lanes),(v6.Bits,v6.Lanes)]:List Gr) .exact))] [(VY x2)] (c2 (Cp 2 Bp ((0:Int),(0:Int)) ([((1:Int),(1:Int)),(v6.Bits,v6.Lanes),(v6.Bits,v6.Lanes)]:List Gr)) (Fm y2)) (tS h (C1 []))) λh=>tB h λx4 y4 h=>gJ y4 (λb3=>aG Γ .normal (⟨[(1,(.ptr 1 0)),(3,(.ptr 3 0)),WA,(5,(.ptr 5 0)),QG,(18,(Z7 v6.Kind)),(29,(.bool b3))],(mO v6),[]⟩:St)) (λy h=>Ap q [1,3,4,5,6,18,29] Tf (gC h (λh=>tS h (gK (Ea Ns))) λh=>Ap q [1,3,4,5,6,18,29] Tf (tS h (gK (Ea Ns))))) (gA (gC h (λh=>tB h λx6 y6 h=>gR q [2] [] [(36,(AV.list 2 Bp ((0:Int),(0:Int)) ([((Bh v6.Imm),(1:Int))]:List Gr) .exact))] [(VY x6)] (c2 (Cp 2 Bp ((0:Int),(0:Int)) ([((Bh v6.Imm),(1:Int))]:List Gr)) (Fm y6)) (tS h (C1 []))) λh=>Ap q [1,3,4,5,6,18,38] Tf (gC h (λh=>tB h λx7 y7 h=>gR q [2] [] [(41,(AV.list 2 Bp ((0:Int),(0:Int)) ([((64:Int),(1:Int))]:List Gr) .exact))] [(VY x7)] (c2 (Cp 2 Bp ((0:Int),(0:Int)) ([((64:Int),(1:Int))]:List Gr)) (Fm y7)) (tS h (C1 []))) λh=>Ap q [1,3,4,5,6,18,43] Tf (gC h (λh=>tB h λx8 y8 h=>gR q [2] [] [(47,(AV.list 2 Bp ((0:Int),(0:Int)) ([((64:Int),(1:Int)),(v6.Bits,v6.Lanes)]:List Gr) .exact))] [(VY x8)] (c2 (Cp 2 Bp ((0:Int),(0:Int)) ([((64:Int),(1:Int)),(v6.Bits,v6.Lanes)]:List Gr)) (Fm y8)) (tS h (C1 []))) λh=>tB h λx10 y10 h=>gJ y10 (λb9=>aG Γ .normal (⟨[(1,(.ptr 1 0)),(3,(.ptr 3 0)),WA,(5,(.ptr 5 0)),QG,(18,(Z7 v6.Kind)),(49,(.bool b9))],(mO v6),[]⟩:St)) (λy h=>Ap q [1,3,4,5,6,18,49] Tf (gC h (λh=>tS h (gK (Ea Ns))) λh=>Ap q [1,3,4,5,6,18,49] Tf (tS h (gK (Ea Ns))))) (gA (gC h (λh=>tB h λx12 y12 h=>gR q [2] [] [(55,(AV.list 2 Bp ((0:Int),(0:Int)) ([((1:Int),(1:Int)),((64:Int),(1:Int)),(v6.Bits,(1:Int))]:List Gr) .exact))] [(VY x12)] (c2 (Cp 2 Bp ((0:Int),(0:Int)) ([((1:Int),(1:Int)),((64:Int),(1:Int)),(v6.Bits,(1:Int))]:List Gr)) (Fm y12)) (tS h (C1 []))) λh=>Ap q [1,3,5,6,18,57] [1,3,5,6] (gC h (λh=>tB h λx13 y13 h=>gR q [2] [] [(63,(AV.list 2 Bp ((0:Int),(0:Int)) ([((1:Int),(1:Int)),(v6.Bits,(1:Int)),(v6.Bits,(1:Int)),(v6.Bits,(1:Int))]:List Gr) .exact))] [(VY x13)] (c2 (Cp 2 Bp ((0:Int),(0:Int)) ([((1:Int),(1:Int)),(v6.Bits,(1:Int)),(v6.Bits,(1:Int)),(v6.Bits,(1:Int))]:List Gr)) (Fm y13)) (tS h (C1 []))) λh=>Ap q [1,5,6,18,65] [1,5,6] (gC h (λh=>tB h λx14 y14 h=>tB h λx15 y15 h=>gR q [2] [] [(68,(AV.list 2 Bp ((0:Int),(0:Int)) ([(v6.Bits,(1:Int))]:List Gr) .exact))] [⟨[],[(20000,71)],(AV.list 2 Bp ((0:Int),(0:Int)) x14 (.own 20000)),[(20000,.tok 2 73 x14.length)],[],[]⟩,(VY x15)] (c3 (Cp 2 Bp ((0:Int),(0:Int)) ([(v6.Bits,(1:Int))]:List Gr)) (Mb y14) (Fm y15)) (tS h (C1 []))) λh=>Ap q [5,73] [5] (gC h (λh=>tB h λx16 y16 h=>gR q [2] [] [(76,(AV.list 2 Bp ((0:Int),(0:Int)) ([(v6.Bits,v6.Lanes)]:List Gr) .exact))] [(VY x16)] (c2 (Cp 2 Bp ((0:Int),(0:Int)) ([(v6.Bits,v6.Lanes)]:List Gr)) (Fm y16)) (tS h (C1 []))) λh=>tB h λx17 y17 h=>gR q [2] [] [(80,(AV.list 2 Bp ((0:Int),(0:Int)) ([(v6.Bits,v6.Lanes),(v6.Bits,v6.Lanes)]:List Gr) .exact))] [(VY x17)] (c2 (Cp 2 Bp ((0:Int),(0:Int)) ([(v6.Bits,v6.Lanes),(v6.Bits,v6.Lanes)]:List Gr)) (Fm y17)) (tS h (C1 [])))))))))))))))
def Ih(a8:Int):Option Bool:=
 (some (bif (decide ((1:Int)<=a8)) then(decide (a8<=1023)) else false))
theorem Rj(h:Ih v1=some v3):sP 227 [(Z7 v1)] [] (.bool v3) []:=
 sG Tryz.func227 λΓ q=>Ap q [0] [] (tU q [2] [] (c2 (gI ((decide ((1:Int)<=v1))==true)) (L8 (decide ((1:Int)<=v1)))) (tS h (C1 [])))
def Gm(a1:Ds):Int->Option (LR Int (Unit ⊕ Bool)):=
 λ(i2:Int)=>(bif (decide (i2<(a1.Args.length:Int))) then(Cq (B6 i2 a1.Args.length) ((Ih (a1.Args.getD i2.toNat 0)).bind λx4=>(bif (!x4) then(some (.done (.inr false))) else(some (.next (Bh (i2+1))))))) else(some (.done (.inl ()))))
def BO(Γ:Gt)(a1:Ds)(r:Bool):Exit->St->Prop:=fK Tryz.prog Γ Tryz.f212.results.toList [] (.bool r) []
def Kn(a1:Ds):Option Bool:=
 ((Kr a1).bind λx1=>(bif ((a1.Args.length:Int)!=(x1.length:Int)) then(some false) else((Ai (Gm a1) (0:Int)).bind (λx5=>(match x5 with|(.inl _)=>(some true)|(.inr r7)=>(some r7))))))
theorem AL(h:Kn v6=some v3):sP 212 [(Vw v6)] [] (.bool v3) []:=
 sG Tryz.func212 λΓ q=>Ap q [1] [1] (tB h λx1 y1 h=>tT q [1,11] [1] [(VY x1)] (c1 (Ur y1)) (gC h (λh=>Ap q [2] [] (tS h (C1 []))) λh=>Ap q [13,14,15] [] (tL q h [13,14,15] [] (λu i2=>(Fo u [(15,(Z7 i2))] [])) (λu x_=>match x_ with|(.inl _)=>aG Γ (.exit 0) (⟨[],[],[]⟩:St)|(.inr r_)=>aR (BO Γ v6 r_)) (λi2 y h=>Ap q [13,14,15,16] [] (gC h (λh=>tV q [4,13,14,15] [] h λh=>tB h λx4 y4 h=>tT q [13,14,15,21] [] [(Z2 x4)] (c1 (Rj y4)) (gC h (λh=>Ap q [2] [] (tS h (gO (R3 (K0 [] (Le.refl _ _)))))) λh=>Ap q [13,14,15] [] (tN h))) λh=>tS h (gO (Ea (Dv [] [] q))))) λx5 h=>(match x5,h with | .inl _,h=>gA (Ap q [2] [] (tS h (C1 []))) | .inr r7,h=>Vx (λst' hk=>tS h (gK hk))))))
def mP(a1:Ds):List SZ:=[(1,.row 43 [(Z7 a1.Kind),(Z7 a1.Bits),(Z7 a1.Lanes),(Z7 a1.Dst),(Px a1.Args),(Iq a1.Imm)])]
def Kp(a1:Ds):Option Gr:=
 (Option.bind (α:=Bool) (bif (a1.Kind==17) then(some (a1.Kind==17)) else(some (a1.Kind==19))) (λx2=>(bif x2 then(some ((0:Int),(0:Int))) else(Option.bind (α:=Bool) (bif (a1.Kind==10) then(some (a1.Kind==10)) else(bif (a1.Kind==11) then(some (a1.Kind==11)) else(some (a1.Kind==12)))) (λx5=>(bif x5 then(some ((1:Int),(1:Int))) else(bif (a1.Kind==22) then(some (a1.Bits,(1:Int))) else(some (a1.Bits,a1.Lanes)))))))))
theorem Uq(h:Kp v6=some v19):sP 189 [(Vw v6)] [] (.tuple [(Z7 v19.1),(Z7 v19.2)]) []:=
 sG Tryz.func189 λΓ q=>tW q [1] [1] [1,5] [1] (tB h λx2 y2 h=>gJ y2 (λb1=>aG Γ .normal (⟨[(1,(.ptr 1 0)),(5,(Z7 v6.Kind)),(6,(.bool b1))],(mP v6),[]⟩:St)) (λy h=>Ap q [1,5,6] [1] (gC h (λh=>tS h (gK (Ea Ns))) λh=>Ap q [1,5,6] [1] (tS h (gK (Ea Ns))))) (gA (gC h (λh=>Ap q Pv [] (tS h (C1 []))) λh=>tB h λx5 y5 h=>gJ y5 (λb4=>aG Γ .normal (⟨[(1,(.ptr 1 0)),(5,(Z7 v6.Kind)),(9,(.bool b4))],(mP v6),[]⟩:St)) (λy h=>Ap q [1,5,9] [1] (gC h (λh=>tS h (gK (Ea Ns))) λh=>Ap q [1,5,9] [1] (gC h (λh=>tS h (gK (Ea Ns))) λh=>Ap q [1,5,9] [1] (tS h (gK (Ea Ns)))))) (gA (gC h (λh=>Ap q Pv [] (tS h (C1 []))) λh=>Ap q [1,13] [1] (gC h (λh=>Ap q Pv [] (tS h (C1 []))) λh=>Ap q Pv [] (tS h (C1 []))))))))
def Ko(a1:Ds):Option Bool:=
 ((Kp a1).bind λx1=>(bif (x1.1==0) then(some (a1.Dst==0)) else((Ih a1.Dst).bind λx2=>(some x2))))
theorem AM(h:Ko v6=some v3):sP 213 [(Vw v6)] [] (.bool v3) []:=
 sG Tryz.func213 λΓ q=>Ap q [1] [1] (tB h λx1 y1 h=>tT q [1,3] [1] [⟨[],[],(.tuple [(Z7 x1.1),(Z7 x1.2)]),[],[],[]⟩] (c1 (Uq y1)) (Ap q [1,11] [1] (gC h (λh=>Ap q [2] [] (tS h (C1 []))) λh=>tB h λx2 y2 h=>tT q [2] [] [(Z2 x2)] (c1 (Rj y2)) (tS h (C1 [])))))
def f6(x1:Bool)(x2:Bool):=(bif (!x1) then true else(!x2))
def Li(a1:Ds):Option Bool:=
 ((Lq a1.Kind).bind λx1=>((bif ((!x1)==false) then Mr a1.Bits a1.Lanes else some false).bind λx2=>((bif ((bif (!x1) then true else(!x2))==false) then Iy a1 else some false).bind λx3=>((bif ((bif (bif (!x1) then true else(!x2)) then true else(!x3))==false) then Kq a1 else some false).bind λx4=>(bif (bif (bif (bif (!x1) then true else(!x2)) then true else(!x3)) then true else(!x4)) then(some false) else((Kn a1).bind λx5=>((bif (x5==true) then Ko a1 else some false).bind λx6=>(some (bif x5 then x6 else false)))))))))
theorem Sq(h:Li v6=some v3):sP 187 [(Vw v6)] [] (.bool v3) []:=
 sG Tryz.func187 λΓ q=>Ap q [1] [1] (tB h λx1 y1 h=>tB h λx2 y2 h=>tB h λx3 y3 h=>tB h λx4 y4 h=>tT q [1,24] [1] [(Z2 x1),(Z2 x2),(Z2 x3),(Z2 x4)] (ci (DL y1) (jU ((!x1)==false) (me (λ(hg:((!x1)==false)=true)=>(FT (A8 hg y2))) (gI ((!x1)==false)) (Ua (!x1)) (gI ((f6 x1 x2)==false)) (λ(hg:((f6 x1 x2)==false)=true)=>(Wx (A8 hg y3))) (gI ((f6 x1 x2)==false)) (Ua (f6 x1 x2)) (gI ((bif (f6 x1 x2) then true else(!x3))==false)) (λ(hg:((bif (f6 x1 x2) then true else(!x3))==false)=true)=>(AN (A8 hg y4))) (c2 (gI ((bif (f6 x1 x2) then true else(!x3))==false)) (Ua (bif (f6 x1 x2) then true else(!x3))))))) (gC h (λh=>Ap q [2] [] (tS h (C1 []))) λh=>tB h λx5 y5 h=>tB h λx6 y6 h=>tT q [2] [] [(Z2 x5),(Z2 x6)] (c4 (AL y5) (gI (x5==true)) (λ(hg:(x5==true)=true)=>(AM (A8 hg y6))) (L8 x5)) (tS h (C1 []))))
def Mp(a1:Ds)(aa8:Int):Option Bool:=
 (bif (aa8==0) then(some (bif (decide (a1.Kind<=17)) then(a1.Lanes==1) else false)) else(bif (aa8==1) then(some (bif (decide (a1.Kind<=20)) then(a1.Lanes==1) else false)) else(some true)))
theorem FO(h:Mp v6 v1=some v3):sP 188 [(Vw v6),(Z7 v1)] [] (.bool v3) []:=
 sG Tryz.func188 λΓ q=>tW q Xq [2] [2,5] [2] (Ap q U5 [2] (gC h (λh=>tU q [4] [] (Nr ((decide (v6.Kind<=17))==true) (c1 (L8 (decide (v6.Kind<=17))))) (tS h (C1 []))) λh=>Ap q U6 [2] (gC h (λh=>tU q [4] [] (Nr ((decide (v6.Kind<=20))==true) (c1 (L8 (decide (v6.Kind<=20))))) (tS h (C1 []))) λh=>Ap q [4] [] (tS h (C1 [])))))
abbrev S7:=(Bool×Ab×Int×A3×List A6)
def E1(a1:Ds)(a0:Ab)(a5:Int)(a9:A3)(a6:List A6):Option S7:=
 ((Li a1).bind λx1=>((bif (x1==true) then Mp a1 a5 else some false).bind λx2=>(some ((bif x1 then x2 else false),a0,a5,a9,a6))))
variable{v23:S7}
theorem O2(h:E1 v6 v0 v1 v2 v12=some v23):sP 167 [Xr,(Vw v6)] (Z3 v0.Params v0.Ret v0.Blocks v1 v2 v12 v12.length) (.bool v23.1) (Z3 v23.2.1.Params v23.2.1.Ret v23.2.1.Blocks v23.2.2.1 v23.2.2.2.1 v23.2.2.2.2 v23.2.2.2.2.length):=
 sG Tryz.func167 λΓ q=>Ap q U7 PS (tB h λx1 y1 h=>tB h λx2 y2 h=>tT q [4] Fe [(Z2 x1),(Z2 x2)] (ci (Sq y1) (j9 (x1==true) (c2 (λ(hg:(x1==true)=true)=>(FO (A8 hg y2))) (L8 x1)))) (tS h (C1 AP)))
abbrev Mf:=(Int×A3×Int×List Am×Int×A3×List A6)
abbrev kl:=(LR (Int×A3×Int×List Am×Int×A3×List A6) ((A3×Int×List Am×Int×A3×List A6) ⊕ (Bool×Ab×Int×A3×List A6)))
def Eh(aA:List Ds):Mf->Option kl:=
 λ((i1,l2,i3,l4,i5,l6,l7):Mf)=>(bif (decide (i1<(aA.length:Int))) then(Cq (B6 i1 aA.length) ((E1 (aA.getD i1.toNat default) (⟨l2,i3,l4⟩:Ab) i5 l6 l7).bind λx15=>(bif (!x15.1) then(some (.done (.inr (false,x15.2.1,x15.2.2.1,x15.2.2.2.1,x15.2.2.2.2)))) else(some (.next ((Bh (i1+1)),x15.2.1.Params,x15.2.1.Ret,x15.2.1.Blocks,x15.2.2.1,x15.2.2.2.1,x15.2.2.2.2)))))) else(some (.done (.inl (l2,i3,l4,i5,l6,l7)))))
def U8(Γ:Gt)(aA:List Ds)(a0:Ab)(a5:Int)(a9:A3)(a6:List A6)(r:S7):Exit->St->Prop:=fK Tryz.prog Γ Tryz.f166.results.toList (Z3 a0.Params a0.Ret a0.Blocks a5 a9 a6 a6.length) (.bool r.1) (Z3 r.2.1.Params r.2.1.Ret r.2.1.Blocks r.2.2.1 r.2.2.2.1 r.2.2.2.2 r.2.2.2.2.length)
def Hi(aA:List Ds)(a0:Ab)(a5:Int)(a9:A3)(a6:List A6):Option S7:=
 ((Ai (Eh aA) ((0:Int),a0.Params,a0.Ret,a0.Blocks,a5,a9,a6)).bind (λx16=>(match x16 with|(.inl (l8,i9,l10,i11,l12,l13))=>(some (true,(⟨l8,i9,l10⟩:Ab),i11,l12,l13))|(.inr r18)=>(some r18))))
theorem Uf(h:Hi v7 v0 v1 v2 v12=some v23):sP 166 [(AV.list 6 MP default v7 .none),(.clo 167 [Xr] [])] (Z3 v0.Params v0.Ret v0.Blocks v1 v2 v12 v12.length) (.bool v23.1) (Z3 v23.2.1.Params v23.2.1.Ret v23.2.1.Blocks v23.2.2.1 v23.2.2.2.1 v23.2.2.2.2 v23.2.2.2.2.length):=
 sG Tryz.func166 λΓ q=>tW q Hb Fe H5 Fe (tL q h H5 Fe (λu (i1,l2,i3,l4,i5,l6,l7)=>(Fo u [(9,(Z7 i1))] (Z3 l2 i3 l4 i5 l6 l7 l7.length))) (λu x_=>match x_ with|(.inl (l8,i9,l10,i11,l12,l13))=>aG Γ (.exit 0) (⟨[],(Z3 l8 i9 l10 i11 l12 l13 l13.length),[]⟩:St)|(.inr r_)=>aR (U8 Γ v7 v0 v1 v2 v12 r_)) (λ⟨i1,l2,i3,l4,i5,l6,l7⟩ y h=>Ap q AA Fe (gC h (λh=>tV q AB [6,30000,37006] h λh=>tB h λx15 y15 h=>tT q FA Fe [(lI x15.1 x15.2.1.Params x15.2.1.Ret x15.2.1.Blocks x15.2.2.1 x15.2.2.2.1 x15.2.2.2.2 x15.2.2.2.2.length)] (c1 (O2 y15)) (gC h (λh=>Ap q [4] Fe (tS h (gO (R3 (K0 AP (Le.refl _ _)))))) λh=>Ap q H5 Fe (tN h))) λh=>tS h (gO (Ea (Dv [] Fe q))))) λx16 h=>(match x16,h with | .inl ⟨l8,i9,l10,i11,l12,l13⟩,h=>gA (Ap q [4] Fe (tS h (C1 AP))) | .inr r18,h=>Vx (λst' hk=>tS h (gK hk))))
def lZ(x1:Bool)(x2:S7)(a9:A3):AV:=(mb x1 x2.2.2.2.1 a9)
def lY(x1:Bool)(x2:S7)(a0:Ab):AV:=(mb x1 x2.2.1.Params a0.Params)
def lX(x1:Bool)(x2:S7)(a0:Ab):AV:=(.slice 5 (bif (x1==true) then x2.2.1.Blocks.length else a0.Blocks.length) (λi=>bif (x1==true) then Gb (x2.2.1.Blocks.getD i default) else Gb (a0.Blocks.getD i default)) .none)
def D0(aI:Am)(a0:Ab)(a5:Int)(a9:A3)(a6:List A6):Option S7:=
 ((G2 aI.Phis).bind λx1=>((bif (x1==true) then Hi aI.Ops a0 a5 a9 a6 else some (false,(default:Ab),(0:Int),[],[])).bind λx2=>(some ((bif x1 then x2.1 else false),(⟨(bif (x1==true) then x2.2.1.Params else a0.Params),(bif (x1==true) then x2.2.1.Ret else a0.Ret),(bif (x1==true) then x2.2.1.Blocks else a0.Blocks)⟩:Ab),(bif (x1==true) then x2.2.2.1 else a5),(bif (x1==true) then x2.2.2.2.1 else a9),(bif (x1==true) then x2.2.2.2.2 else a6)))))
theorem Ms(h:D0 v9 v0 v1 v2 v12=some v23):sP 130 [Xr,(.agg (Gb v9))] (Z3 v0.Params v0.Ret v0.Blocks v1 v2 v12 v12.length) (.bool v23.1) (Z3 v23.2.1.Params v23.2.1.Ret v23.2.1.Blocks v23.2.2.1 v23.2.2.2.1 v23.2.2.2.2 v23.2.2.2.2.length):=
 sG Tryz.func130 λΓ q=>Ap q U7 PS (tB h λx1 y1 h=>tB h λx2 y2 h=>tT q [4] Fe [(Z2 x1),(lI x2.1 x2.2.1.Params x2.2.1.Ret x2.2.1.Blocks x2.2.2.1 x2.2.2.2.1 x2.2.2.2.2 x2.2.2.2.2.length)] (ci (Sk y1) (jU (x1==true) (c2 (λ(hg:(x1==true)=true)=>(Uf (A8 hg y2))) (L8 x1)))) (tS h (gK (e:=.ret) (K0 AP (Le.trans (lz (λg_ u=>(Fo u [] [(30000,.row 110 [(lY x1 x2 v0),(.int .i64 (bif (x1==true) then x2.2.1.Ret else v0.Ret)),(lX x1 x2 v0),(.int .i64 (bif (x1==true) then x2.2.2.1 else v1)),(lZ x1 x2 v2),.nilm,(lk g_ x2.2.2.2.2 v12)]),(37006,.tok 5 195 (bif g_ then x2.2.2.2.2.length else v12.length))])) (λg_ u=>(Fo u [] [(30000,.row 110 [(lY x1 x2 v0),(.int .i64 (bif (x1==true) then x2.2.1.Ret else v0.Ret)),(lX x1 x2 v0),(.int .i64 (bif (x1==true) then x2.2.2.1 else v1)),(lZ x1 x2 v2),.nilm,(AV.list 5 I7 default (bif g_ then x2.2.2.2.2 else v12) (.own 37006))]),(37006,.tok 5 195 ((bif g_ then x2.2.2.2.2 else v12).length))])) (x1==true)) (Le.trans (ek 30000 0 (show AVle (lY x1 x2 v0) (AV.list 1 Ax 0 (bif (x1==true) then x2.2.1.Params else v0.Params) .none) from Ga)) (Le.trans (ek 30000 2 (show AVle (lX x1 x2 v0) (AV.list 5 Gb default (bif (x1==true) then x2.2.1.Blocks else v0.Blocks) .none) from Ga)) (ek 30000 4 (show AVle (lZ x1 x2 v2) (AV.list 1 Ax 0 (bif (x1==true) then x2.2.2.2.1 else v2) .none) from Ga)))))))))
def Do(aA:List Am):Mf->Option kl:=
 λ((i1,l2,i3,l4,i5,l6,l7):Mf)=>(bif (decide (i1<(aA.length:Int))) then(Cq (B6 i1 aA.length) ((D0 (aA.getD i1.toNat default) (⟨l2,i3,l4⟩:Ab) i5 l6 l7).bind λx15=>(bif (!x15.1) then(some (.done (.inr (false,x15.2.1,x15.2.2.1,x15.2.2.2.1,x15.2.2.2.2)))) else(some (.next ((Bh (i1+1)),x15.2.1.Params,x15.2.1.Ret,x15.2.1.Blocks,x15.2.2.1,x15.2.2.2.1,x15.2.2.2.2)))))) else(some (.done (.inl (l2,i3,l4,i5,l6,l7)))))
def Rp(Γ:Gt)(aA:List Am)(a0:Ab)(a5:Int)(a9:A3)(a6:List A6)(r:S7):Exit->St->Prop:=fK Tryz.prog Γ Tryz.f129.results.toList (Z3 a0.Params a0.Ret a0.Blocks a5 a9 a6 a6.length) (.bool r.1) (Z3 r.2.1.Params r.2.1.Ret r.2.1.Blocks r.2.2.1 r.2.2.2.1 r.2.2.2.2 r.2.2.2.2.length)
def F1(aA:List Am)(a0:Ab)(a5:Int)(a9:A3)(a6:List A6):Option S7:=
 ((Ai (Do aA) ((0:Int),a0.Params,a0.Ret,a0.Blocks,a5,a9,a6)).bind (λx16=>(match x16 with|(.inl (l8,i9,l10,i11,l12,l13))=>(some (true,(⟨l8,i9,l10⟩:Ab),i11,l12,l13))|(.inr r18)=>(some r18))))
theorem Qn(h:F1 v10 v0 v1 v2 v12=some v23):sP 129 [(YO v10),(.clo 130 [Xr] [])] (Z3 v0.Params v0.Ret v0.Blocks v1 v2 v12 v12.length) (.bool v23.1) (Z3 v23.2.1.Params v23.2.1.Ret v23.2.1.Blocks v23.2.2.1 v23.2.2.2.1 v23.2.2.2.2 v23.2.2.2.2.length):=
 sG Tryz.func129 λΓ q=>tW q Hb Fe H5 Fe (tL q h H5 Fe (λu (i1,l2,i3,l4,i5,l6,l7)=>(Fo u [(9,(Z7 i1))] (Z3 l2 i3 l4 i5 l6 l7 l7.length))) (λu x_=>match x_ with|(.inl (l8,i9,l10,i11,l12,l13))=>aG Γ (.exit 0) (⟨[],(Z3 l8 i9 l10 i11 l12 l13 l13.length),[]⟩:St)|(.inr r_)=>aR (Rp Γ v10 v0 v1 v2 v12 r_)) (λ⟨i1,l2,i3,l4,i5,l6,l7⟩ y h=>Ap q AA Fe (gC h (λh=>tV q AB [6,30000,37006] h λh=>tB h λx15 y15 h=>tT q FA Fe [(lI x15.1 x15.2.1.Params x15.2.1.Ret x15.2.1.Blocks x15.2.2.1 x15.2.2.2.1 x15.2.2.2.2 x15.2.2.2.2.length)] (c1 (Ms y15)) (gC h (λh=>Ap q [4] Fe (tS h (gO (R3 (K0 AP (Le.refl _ _)))))) λh=>Ap q H5 Fe (tN h))) λh=>tS h (gO (Ea (Dv [] Fe q))))) λx16 h=>(match x16,h with | .inl ⟨l8,i9,l10,i11,l12,l13⟩,h=>gA (Ap q [4] Fe (tS h (C1 AP))) | .inr r18,h=>Vx (λst' hk=>tS h (gK hk))))
def VX(x1:Bool)(x2:Bool):=((bif x1 then x2 else false)==true)
def lf(x1:Bool)(x2:Bool)(x3:S7)(a9:A3):AV:=(lG (VX x1 x2) x3.2.2.2.1 a9)
def ld(x1:Bool)(x2:Bool)(x3:S7)(a0:Ab):AV:=(lG (VX x1 x2) x3.2.1.Params a0.Params)
def lc(x1:Bool)(x2:Bool)(x3:S7)(a0:Ab):AV:=(mZ (VX x1 x2) x3.2.1.Blocks a0.Blocks)
def F2(a0:Ab)(a5:Int)(a9:A3)(a6:List A6):Option YG:=
 ((Jj a0.Params).bind λx1=>((bif (x1==true) then Gx a0.Ret else some false).bind λx2=>((bif ((bif x1 then x2 else false)==true) then F1 a0.Blocks a0 a5 a9 a6 else some (false,(default:Ab),(0:Int),[],[])).bind λx3=>((Ic (bif (bif x1 then x2 else false) then x3.1 else false) (6:Int)).bind λx4=>(some (x4,(⟨(bif ((bif x1 then x2 else false)==true) then x3.2.1.Params else a0.Params),(bif ((bif x1 then x2 else false)==true) then x3.2.1.Ret else a0.Ret),(bif ((bif x1 then x2 else false)==true) then x3.2.1.Blocks else a0.Blocks)⟩:Ab),(bif ((bif x1 then x2 else false)==true) then x3.2.2.1 else a5),(bif ((bif x1 then x2 else false)==true) then x3.2.2.2.1 else a9),(bif ((bif x1 then x2 else false)==true) then x3.2.2.2.2 else a6)))))))
theorem Qo(h:F2 v0 v1 v2 v12=some v13):sP 93 [Xr] (Z3 v0.Params v0.Ret v0.Blocks v1 v2 v12 v12.length) (Z7 v13.1) (Z3 v13.2.1.Params v13.2.1.Ret v13.2.1.Blocks v13.2.2.1 v13.2.2.2.1 v13.2.2.2.2 v13.2.2.2.2.length):=
 sG Tryz.func93 λΓ q=>Ap q [0] Fe (tB h λx1 y1 h=>tB h λx2 y2 h=>tB h λx3 y3 h=>tT q [3] Fe [(Z2 x1),(Z2 x2),(lI x3.1 x3.2.1.Params x3.2.1.Ret x3.2.1.Blocks x3.2.2.1 x3.2.2.2.1 x3.2.2.2.2 x3.2.2.2.2.length)] (ci (Ye y1) (j9 (x1==true) (UE (λ(hg:(x1==true)=true)=>(Ik (A8 hg y2))) (L8 x1) (mu (VX x1 x2) (c2 (λ(hg:(VX x1 x2)=true)=>(Qn (A8 hg y3))) (L8 (bif x1 then x2 else false))))))) (Mz (Le.trans (lz (λg_ u=>(Fo u [] [(30000,.row 110 [(ld x1 x2 x3 v0),(gD (VX x1 x2) x3.2.1.Ret v0.Ret),(lc x1 x2 x3 v0),(gD (VX x1 x2) x3.2.2.1 v1),(lf x1 x2 x3 v2),.nilm,(lk g_ x3.2.2.2.2 v12)]),(37006,.tok 5 195 (bif g_ then x3.2.2.2.2.length else v12.length))])) (λg_ u=>(Fo u [] [(30000,.row 110 [(ld x1 x2 x3 v0),(gD (VX x1 x2) x3.2.1.Ret v0.Ret),(lc x1 x2 x3 v0),(gD (VX x1 x2) x3.2.2.1 v1),(lf x1 x2 x3 v2),.nilm,(AV.list 5 I7 default (bif g_ then x3.2.2.2.2 else v12) (.own 37006))]),(37006,.tok 5 195 ((bif g_ then x3.2.2.2.2 else v12).length))])) (VX x1 x2)) (Le.trans (ek 30000 0 (show AVle (ld x1 x2 x3 v0) (AV.list 1 Ax 0 (bif (VX x1 x2) then x3.2.1.Params else v0.Params) .none) from Ga)) (Le.trans (ek 30000 2 (show AVle (lc x1 x2 x3 v0) (AV.list 5 Gb default (bif (VX x1 x2) then x3.2.1.Blocks else v0.Blocks) .none) from Ga)) (ek 30000 4 (show AVle (lf x1 x2 x3 v2) (AV.list 1 Ax 0 (bif (VX x1 x2) then x3.2.2.2.1 else v2) .none) from Ga))))) (tB h λx4 y4 h=>tT q [2] Fe [(VZ x4)] (c1 (Rg y4)) (tS h (C1 AP)))))
def C9(aK:Int):Option Gr:=
 (some (aK,(1:Int)))
theorem Hu(h:C9 v1=some v19):sP 131 [(Z7 v1)] [] (BR v19) []:=
 sG Tryz.func131 λΓ q=>tW q [0,2] [2] [2] [2] (tS h (C1 []))
def jQ:=(λ(v_:Aj)=>((O9 v_):AV))
abbrev Jg:=(Int×Aj)
abbrev PM:=(Bool×Ab×Int×A3×List A6×List (Int×Aj))
def D1(a8:Int)(aX:Gr)(aJ:G3)(a0:Ab)(a5:Int)(a9:A3)(a7:List Jg)(a6:List A6):Option PM:=
 (bif (bif (bif (Bv a7 a8) then true else(decide (a8<1))) then true else(decide ((1023:Int)<a8))) then(some (false,a0,a5,a9,a6,a7)) else(some (true,a0,a5,a9,a6,(Ei a7 a8 (⟨aX,aJ⟩:Aj)))))
variable{v24:G3}{v25:List Jg}{v26:PM}
abbrev GB:=(Int×AV)
theorem J1(h:D1 v1 v19 v24 v0 v11 v2 v25 v12=some v26):sP 168 [Xr,(Z7 v1),(BR v19),(.agg (AZ v24))] [(Z1 v0.Params v0.Ret v0.Blocks v11 v2 9100005 v12),(Z8 v12.length),(9100005,.obj (.map true .i64 (mapE (λ(v_:Aj)=>((O9 v_):AV)) v25)))] (.bool v26.1) [(Z1 v26.2.1.Params v26.2.1.Ret v26.2.1.Blocks v26.2.2.1 v26.2.2.2.1 9100005 v26.2.2.2.2.1),(Z8 v26.2.2.2.2.1.length),(9100005,.obj (.map true .i64 (mapE (λ(v_:Aj)=>((O9 v_):AV)) v26.2.2.2.2.2)))]:=
 sG Tryz.func168 λΓ q=>Ap q [0,1,6,7] VM (gR q [0,1,6,7,10] VM [(17,(.tuple [(gB v25 v1),(.bool (Bv v25 v1))]))] [] (c1 (show(AVle (.tuple [mget (.agg [Oq,Oq,Oq,Oq]) (mapE jQ v25) v1,.bool (Bv (mapE jQ v25) v1)]) (.tuple [(gB v25 v1),(.bool (Bv v25 v1))])) from(Wp (f:=jQ) (l:=v25) (AVle.refl _) rfl))) (tU q [0,1,6,7,28] VM (c4 (gI ((Bv v25 v1)==false)) (Ua (Bv v25 v1)) (gI ((bif (Bv v25 v1) then true else(decide (v1<1)))==false)) (Ua (bif (Bv v25 v1) then true else(decide (v1<1))))) (gC h (λh=>Ap q [8] Fa (tS h (C1 Ug))) λh=>Ap q [] Fa (Mz (Sf (λ(k_:List GB) u=>Fo u [] [(YQ 9100005 k_)]) (show(Ei (mapE jQ v25) v1 (.agg [(Z7 v19.1),(Z7 v19.2),(Z7 v24.block),(Z7 v24.at_)]))=(mapE jQ (Ei v25 v1 (⟨v19,v24⟩:Aj))) from(Wq (f:=jQ) (l:=v25) (v:=(⟨v19,v24⟩:Aj)) rfl rfl))) (Ap q [8] Fa (tS h (C1 Ug)))))))
def Kl(a1:Ds):Option Gr:=
 ((Li a1).bind λx1=>(bif (!x1) then(some ((0:Int),(0:Int))) else((Kp a1).bind λx2=>(some (x2.1,x2.2)))))
theorem FS(h:Kl v6=some v19):sP 169 [(Vw v6)] [] (.tuple [(Z7 v19.1),(Z7 v19.2)]) []:=
 sG Tryz.func169 λΓ q=>Ap q [1] [1] (tB h λx1 y1 h=>tT q [1,6] [1] [(Z2 x1)] (c1 (Sq y1)) (gC h (λh=>Ap q Pv [] (tS h (C1 []))) λh=>tB h λx2 y2 h=>tT q Pv [] [⟨[],[],(.tuple [(Z7 x2.1),(Z7 x2.2)]),[],[],[]⟩] (c1 (Uq y2)) (tS h (C1 []))))
set_option maxRecDepth 100000
set_option maxHeartbeats 2000000
abbrev ft:=(Int×A3×Int×List Am×Int×A3×List A6×List (Int×Aj))
abbrev kp:=(LR (Int×A3×Int×List Am×Int×A3×List A6×List (Int×Aj)) ((A3×Int×List Am×Int×A3×List A6×List (Int×Aj)) ⊕ (Bool×Ab×Int×A3×List A6×List (Int×Aj))))
def Cn(aV:Int)(aI:Am):ft->Option kp:=
 λ((i1,l2,i3,l4,i5,l6,l7,l8):ft)=>(bif (decide (i1<(aI.Phis.length:Int))) then(Cq (B6 i1 aI.Phis.length) ((C9 ((aI.Phis.getD i1.toNat default).Bits)).bind λx17=>((D1 ((aI.Phis.getD i1.toNat default).Dst) x17 (⟨aV,(-1:Int)⟩:G3) (⟨l2,i3,l4⟩:Ab) i5 l6 l8 l7).bind λx18=>(bif (!x18.1) then(some (.done (.inr (false,x18.2.1,x18.2.2.1,x18.2.2.2.1,x18.2.2.2.2.1,x18.2.2.2.2.2)))) else(some (.next ((Bh (i1+1)),x18.2.1.Params,x18.2.1.Ret,x18.2.1.Blocks,x18.2.2.1,x18.2.2.2.1,x18.2.2.2.2.1,x18.2.2.2.2.2))))))) else(some (.done (.inl (l2,i3,l4,i5,l6,l7,l8)))))
def Bu(aV:Int)(aI:Am):ft->Option kp:=
 λ((i21,l22,i23,l24,i25,l26,l27,l28):ft)=>(bif (decide (i21<(aI.Ops.length:Int))) then(Cq (B6 i21 aI.Ops.length) ((Kl (aI.Ops.getD i21.toNat default)).bind λx37=>((bif ((decide ((0:Int)<x37.1))==true) then D1 ((aI.Ops.getD i21.toNat default).Dst) (x37.1,x37.2) (⟨aV,i21⟩:G3) (⟨l22,i23,l24⟩:Ab) i25 l26 l28 l27 else some (false,(default:Ab),(0:Int),[],[],[])).bind λx38=>(bif (bif (decide ((0:Int)<x37.1)) then(!x38.1) else false) then(some (.done (.inr (false,(⟨(bif ((decide ((0:Int)<x37.1))==true) then x38.2.1.Params else l22),(bif ((decide ((0:Int)<x37.1))==true) then x38.2.1.Ret else i23),(bif ((decide ((0:Int)<x37.1))==true) then x38.2.1.Blocks else l24)⟩:Ab),(bif ((decide ((0:Int)<x37.1))==true) then x38.2.2.1 else i25),(bif ((decide ((0:Int)<x37.1))==true) then x38.2.2.2.1 else l26),(bif ((decide ((0:Int)<x37.1))==true) then x38.2.2.2.2.1 else l27),(bif ((decide ((0:Int)<x37.1))==true) then x38.2.2.2.2.2 else l28))))) else(some (.next ((Bh (i21+1)),(bif ((decide ((0:Int)<x37.1))==true) then x38.2.1.Params else l22),(bif ((decide ((0:Int)<x37.1))==true) then x38.2.1.Ret else i23),(bif ((decide ((0:Int)<x37.1))==true) then x38.2.1.Blocks else l24),(bif ((decide ((0:Int)<x37.1))==true) then x38.2.2.1 else i25),(bif ((decide ((0:Int)<x37.1))==true) then x38.2.2.2.1 else l26),(bif ((decide ((0:Int)<x37.1))==true) then x38.2.2.2.2.1 else l27),(bif ((decide ((0:Int)<x37.1))==true) then x38.2.2.2.2.2 else l28)))))))) else(some (.done (.inl (l22,i23,l24,i25,l26,l27,l28)))))
def I6(Γ:Gt)(aV:Int)(aI:Am)(a0:Ab)(a5:Int)(a9:A3)(a7:List Jg)(a6:List A6)(r:PM):Exit->St->Prop:=fK Tryz.prog Γ Tryz.f132.results.toList [(Z1 a0.Params a0.Ret a0.Blocks a5 a9 9100005 a6),(Z8 a6.length),(9100005,.obj (.map true .i64 (mapE (λ(v_:Aj)=>((O9 v_):AV)) a7)))] (.bool r.1) [(Z1 r.2.1.Params r.2.1.Ret r.2.1.Blocks r.2.2.1 r.2.2.2.1 9100005 r.2.2.2.2.1),(Z8 r.2.2.2.2.1.length),(9100005,.obj (.map true .i64 (mapE (λ(v_:Aj)=>((O9 v_):AV)) r.2.2.2.2.2)))]
def QC(x37:Gr):=((decide ((0:Int)<x37.1))==true)
def dz:=(λ(v_:Aj)=>((O9 v_):AV))
def lh(x37:Gr)(x38:PM)(l26:A3):AV:=(lG (QC x37) x38.2.2.2.1 l26)
def li(x37:Gr)(x38:PM)(l24:List Am):AV:=(mZ (QC x37) x38.2.1.Blocks l24)
def lg(x37:Gr)(x38:PM)(l22:A3):AV:=(lG (QC x37) x38.2.1.Params l22)
def Eg(aV:Int)(aI:Am)(a0:Ab)(a5:Int)(a9:A3)(a7:List Jg)(a6:List A6):Option PM:=
 ((Ai (Cn aV aI) ((0:Int),a0.Params,a0.Ret,a0.Blocks,a5,a9,a6,a7)).bind (λx19=>(match x19 with|(.inl (l9,i10,l11,i12,l13,l14,l15))=>((Ai (Bu aV aI) ((0:Int),l9,i10,l11,i12,l13,l14,l15)).bind (λx39=>(match x39 with|(.inl (l29,i30,l31,i32,l33,l34,l35))=>(some (true,(⟨l29,i30,l31⟩:Ab),i32,l33,l34,l35))|(.inr r41)=>(some r41))))|(.inr r42)=>(some r42))))
theorem Nd(h:Eg v1 v9 v0 v11 v2 v25 v12=some v26):sP 132 [Xr,(Z7 v1),(.agg (Gb v9))] [(Z1 v0.Params v0.Ret v0.Blocks v11 v2 9100005 v12),(Z8 v12.length),(9100005,.obj (.map true .i64 (mapE (λ(v_:Aj)=>((O9 v_):AV)) v25)))] (.bool v26.1) [(Z1 v26.2.1.Params v26.2.1.Ret v26.2.1.Blocks v26.2.2.1 v26.2.2.2.1 9100005 v26.2.2.2.2.1),(Z8 v26.2.2.2.2.1.length),(9100005,.obj (.map true .i64 (mapE (λ(v_:Aj)=>((O9 v_):AV)) v26.2.2.2.2.2)))]:=
 sG Tryz.func132 λΓ q=>tW q EZ Z0 dS Z0 (tL q h dS Z0 (λu (i1,l2,i3,l4,i5,l6,l7,l8)=>(Fo u [(16,(Z7 i1))] [(Z1 l2 i3 l4 i5 l6 9100005 l7),(Z8 l7.length),(9100005,.obj (.map true .i64 (mapE dz l8)))])) (λu x_=>match x_ with|(.inl (l9,i10,l11,i12,l13,l14,l15))=>aG Γ (.exit 0) (Xt EZ Z0 u [] [(Z1 l9 i10 l11 i12 l13 9100005 l14),(Z8 l14.length),(9100005,.obj (.map true .i64 (mapE dz l15)))])|(.inr r_)=>aR (I6 Γ v1 v9 v0 v11 v2 v25 v12 r_)) (λ⟨i1,l2,i3,l4,i5,l6,l7,l8⟩ y h=>Ap q [0,1,5,14,15,16,17] Z0 (gC h (λh=>tV q [0,1,5,8,14,15,16] [5,8,30000,37006,9100005] h λh=>tB h λx17 y17 h=>tB h λx18 y18 h=>tT q [0,1,5,14,15,16,29] Z0 [⟨[],[],(BR x17),[],[],[]⟩,⟨Ug,[],(.bool x18.1),[(Z1 x18.2.1.Params x18.2.1.Ret x18.2.1.Blocks x18.2.2.1 x18.2.2.2.1 9100005 x18.2.2.2.2.1),(Z8 x18.2.2.2.2.1.length),(9100005,.obj (.map true .i64 (mapE dz x18.2.2.2.2.2)))],[],[]⟩] (c2 (Hu y17) (J1 y18)) (gC h (λh=>Ap q [6] Fa (tS h (gO (R3 (K0 Ug (Le.refl _ _)))))) λh=>Ap q dS Z0 (tN h))) λh=>tS h (gO (Ea (Dv EZ Z0 q))))) λx19 h=>(match x19,h with | .inl ⟨l9,i10,l11,i12,l13,l14,l15⟩,h=>gA (Ap q dW Fa (tL q h dW Fa (λu (i21,l22,i23,l24,i25,l26,l27,l28)=>(Fo u [(34,(Z7 i21))] [(Z1 l22 i23 l24 i25 l26 9100005 l27),(Z8 l27.length),(9100005,.obj (.map true .i64 (mapE dz l28)))])) (λu x_=>match x_ with|(.inl (l29,i30,l31,i32,l33,l34,l35))=>aG Γ (.exit 2) (⟨[],[(Z1 l29 i30 l31 i32 l33 9100005 l34),(Z8 l34.length),(9100005,.obj (.map true .i64 (mapE dz l35)))],[]⟩:St)|(.inr r_)=>aR (I6 Γ v1 v9 v0 v11 v2 v25 v12 r_)) (λ⟨i21,l22,i23,l24,i25,l26,l27,l28⟩ y h=>Ap q [0,1,32,33,34,35] Fa (gC h (λh=>tV q [0,1,9,10,32,33,34] h9 h λh=>tB h λx37 y37 h=>tT q [0,1,9,10,11,12,32,33,34] h9 [⟨[],[],(.tuple [(Z7 x37.1),(Z7 x37.2)]),[],[],[]⟩] (c1 (FS y37)) (tB h λx38 y38 h=>tT q [0,1,32,33,34,58] Fa [⟨Ug,[],(.bool x38.1),[(Z1 x38.2.1.Params x38.2.1.Ret x38.2.1.Blocks x38.2.2.1 x38.2.2.2.1 9100005 x38.2.2.2.2.1),(Z8 x38.2.2.2.2.1.length),(9100005,.obj (.map true .i64 (mapE dz x38.2.2.2.2.2)))],[],[]⟩] (mw (QC x37) (c3 (λ(hg:(QC x37)=true)=>(J1 (A8 hg y38))) (gI (QC x37)) (L8 (decide ((0:Int)<x37.1))))) (Mz (Le.trans (Sf (λ(k_:List GB) u=>Fo u [] [(YQ 9100005 k_)]) (show(bif (QC x37) then(mapE dz x38.2.2.2.2.2) else(mapE dz l28))=(mapE dz (bif (QC x37) then x38.2.2.2.2.2 else l28)) from(am rfl rfl))) (Le.trans (lz (λg_ u=>(Fo u [] [(30000,.row 110 [(lg x37 x38 l22),(gD (QC x37) x38.2.1.Ret i23),(li x37 x38 l24),(gD (QC x37) x38.2.2.1 i25),(lh x37 x38 l26),(.omap 9100005),(lk g_ x38.2.2.2.2.1 l27)]),(37006,.tok 5 195 (bif g_ then x38.2.2.2.2.1.length else l27.length))])) (λg_ u=>(Fo u [] [(30000,.row 110 [(lg x37 x38 l22),(gD (QC x37) x38.2.1.Ret i23),(li x37 x38 l24),(gD (QC x37) x38.2.2.1 i25),(lh x37 x38 l26),(.omap 9100005),(AV.list 5 I7 default (bif g_ then x38.2.2.2.2.1 else l27) (.own 37006))]),(37006,.tok 5 195 ((bif g_ then x38.2.2.2.2.1 else l27).length))])) (QC x37)) (Le.trans (ek 30000 0 (show AVle (lg x37 x38 l22) (AV.list 1 Ax 0 (bif (QC x37) then x38.2.1.Params else l22) .none) from Ga)) (Le.trans (ek 30000 2 (show AVle (li x37 x38 l24) (AV.list 5 Gb default (bif (QC x37) then x38.2.1.Blocks else l24) .none) from Ga)) (ek 30000 4 (show AVle (lh x37 x38 l26) (AV.list 1 Ax 0 (bif (QC x37) then x38.2.2.2.1 else l26) .none) from Ga)))))) (gC h (λh=>Ap q [6] Fa (tS h (gO (R3 (K0 Ug (Le.refl _ _)))))) λh=>Ap q dW Fa (tN h))))) λh=>tS h (gO (Ea (Dv [] Fa q))))) λx39 h=>(match x39,h with | .inl ⟨l29,i30,l31,i32,l33,l34,l35⟩,h=>gA (Ap q [6] Fa (tS h (C1 Ug))) | .inr r41,h=>Vx (λst' hk=>tS h (gK hk))))) | .inr r42,h=>Vx (λst' hk=>tS h (gK hk))))
abbrev kq:=(Int×List (Int×Aj))
def D2(a0:Ab):kq->Option (LR (Int×List (Int×Aj)) (List (Int×Aj))):=
 λ((i1,l2):kq)=>(bif (decide (i1<(a0.Params.length:Int))) then(Cq (B6 i1 a0.Params.length) ((C9 (a0.Params.getD i1.toNat 0)).bind λx5=>(some (.next ((Bh (i1+1)),(Ei l2 (Bh (i1+1)) (⟨x5,(⟨(0:Int),(-1:Int)⟩:G3)⟩:Aj))))))) else(some (.done l2)))
abbrev kr:=(Int×List (Int×Aj)×A3×Int×List Am×Int×A3×List A6)
def C8(a0:Ab):kr->Option (LR (Int×List (Int×Aj)×A3×Int×List Am×Int×A3×List A6) ((List (Int×Aj)×A3×Int×List Am×Int×A3×List A6) ⊕ (Int×Ab×Int×A3×List A6×List (Int×Aj)))):=
 λ((i8,l9,l10,i11,l12,i13,l14,l15):kr)=>(bif (decide (i8<(a0.Blocks.length:Int))) then(Cq (B6 i8 a0.Blocks.length) ((Eg i8 (a0.Blocks.getD i8.toNat default) (⟨l10,i11,l12⟩:Ab) i13 l14 l9 l15).bind λx24=>(bif (!x24.1) then(some (.done (.inr ((7:Int),x24.2.1,x24.2.2.1,x24.2.2.2.1,x24.2.2.2.2.1,x24.2.2.2.2.2)))) else(some (.next ((Bh (i8+1)),x24.2.2.2.2.2,x24.2.1.Params,x24.2.1.Ret,x24.2.1.Blocks,x24.2.2.1,x24.2.2.2.1,x24.2.2.2.2.1)))))) else(some (.done (.inl (l9,l10,i11,l12,i13,l14,l15)))))
abbrev TB:=(Int×Ab×Int×A3×List A6×List (Int×Aj))
def O7(Γ:Gt)(a0:Ab)(a5:Int)(a9:A3)(a6:List A6)(r:TB):Exit->St->Prop:=fK Tryz.prog Γ Tryz.f94.results.toList (Z3 a0.Params a0.Ret a0.Blocks a5 a9 a6 a6.length) (Z7 r.1) [(Z1 r.2.1.Params r.2.1.Ret r.2.1.Blocks r.2.2.1 r.2.2.2.1 9200005 r.2.2.2.2.1),(Z8 r.2.2.2.2.1.length),(9200005,.obj (.map false .i64 (mapE (λ(v_:Aj)=>((O9 v_):AV)) r.2.2.2.2.2)))]
def TR:=(λ(v_:Aj)=>((O9 v_):AV))
def mQ(l16:List Jg)(l17:A3)(i18:Int)(l19:List Am)(i20:Int)(l21:A3)(l22:List A6):List SZ:=[(8,.obj (.map true .i64 (mapE TR l16))),(jy l17 i18 l19 i20 l21 l22),(Z8 l22.length)]
def Ez(a0:Ab)(a5:Int)(a9:A3)(a6:List A6):Option TB:=
 ((Ai (D2 a0) ((0:Int),([]:List Jg))).bind (λx6=>((Ai (C8 a0) ((0:Int),x6,a0.Params,a0.Ret,a0.Blocks,a5,a9,a6)).bind (λx25=>(match x25 with|(.inl (l16,l17,i18,l19,i20,l21,l22))=>(some ((0:Int),(⟨l17,i18,l19⟩:Ab),i20,l21,l22,l16))|(.inr r27)=>(some r27))))))
variable{v27:TB}
theorem Oz(h:Ez v0 v1 v2 v12=some v27):sP 94 [Xr] (Z3 v0.Params v0.Ret v0.Blocks v1 v2 v12 v12.length) (Z7 v27.1) [(Z1 v27.2.1.Params v27.2.1.Ret v27.2.1.Blocks v27.2.2.1 v27.2.2.2.1 9200005 v27.2.2.2.2.1),(Z8 v27.2.2.2.2.1.length),(9200005,.obj (.map false .i64 (mapE (λ(v_:Aj)=>((O9 v_):AV)) v27.2.2.2.2.2)))]:=
 sG Tryz.func94 λΓ q=>tW q [0] Fe [0] Kz (Mz (Sf (λ(k_:List GB) u=>Fo u [] [(8,.obj (.map true .i64 k_))]) (show[]=(mapE TR ([]:List Jg)) from rfl)) (Ap q VR Kz (tL q h VR Kz (λu (i1,l2)=>(Fo u [(17,(Z7 i1))] [(8,.obj (.map true .i64 (mapE TR l2)))])) (λu l3=>aG Γ (.exit 0) (Xt [0] Kz u [] [(8,.obj (.map true .i64 (mapE TR l3)))])) (λ⟨i1,l2⟩ y h=>Ap q [0,15,16,17,18] Kz (gC h (λh=>tV q [0,3,4,15,16,17] Kz h λh=>tB h λx5 y5 h=>tT q VR Kz [⟨[],[],(BR x5),[],[],[]⟩] (c1 (Hu y5)) (Mz (Sf (λ(k_:List GB) u=>Fo u [] [(8,.obj (.map true .i64 k_))]) (show(Ei (mapE TR l2) (Bh (i1+1)) (.agg [(Z7 x5.1),(Z7 x5.2),Oq,(.int .i64 (-1:Int))]))=(mapE TR (Ei l2 (Bh (i1+1)) (⟨x5,(⟨(0:Int),(-1:Int)⟩:G3)⟩:Aj))) from(Wq (f:=TR) (l:=l2) (v:=(⟨x5,(⟨(0:Int),(-1:Int)⟩:G3)⟩:Aj)) rfl rfl))) (Ap q VR Kz (tN h)))) λh=>tS h (gO (Ea (Dv [0] Kz q))))) λx6 h=>gA (Ap q TL Kz (tL q h TL Kz (λu (i8,l9,l10,i11,l12,i13,l14,l15)=>(Fo u [(39,(Z7 i8))] [(8,.obj (.map true .i64 (mapE TR l9))),(jy l10 i11 l12 i13 l14 l15),(Z8 l15.length)])) (λu x_=>match x_ with|(.inl (l16,l17,i18,l19,i20,l21,l22))=>aG Γ (.exit 2) (⟨[],(mQ l16 l17 i18 l19 i20 l21 l22),[]⟩:St)|(.inr r_)=>aR (O7 Γ v0 v1 v2 v12 r_)) (λ⟨i8,l9,l10,i11,l12,i13,l14,l15⟩ y h=>Ap q [0,37,38,39,40] Kz (gC h (λh=>tV q [0,5,6,37,38,39] [6,8,30000,37006] h λh=>tB h λx24 y24 h=>tT q [0,37,38,39,48] Kz [⟨[(30000,30000),(37006,37006),(8,9100005)],[],(.bool x24.1),[(Z1 x24.2.1.Params x24.2.1.Ret x24.2.1.Blocks x24.2.2.1 x24.2.2.2.1 9100005 x24.2.2.2.2.1),(Z8 x24.2.2.2.2.1.length),(9100005,.obj (.map true .i64 (mapE TR x24.2.2.2.2.2)))],[],[]⟩] (c1 (Nd y24)) (gC h (λh=>Ap q [2] Kz (Tn (⟨[(2,(.int .i64 (7:Int)))],[(8,.obj (.map true .i64 (mapE TR x24.2.2.2.2.2))),(jy x24.2.1.Params x24.2.1.Ret x24.2.1.Blocks x24.2.2.1 x24.2.2.2.1 x24.2.2.2.2.1),(Z8 x24.2.2.2.2.1.length)],[]⟩:St) (tS h (gO (R3 (K0 g6 (Le.trans (KC (nm:=8) (.map false .i64 (mapE TR x24.2.2.2.2.2)) rfl (λ_ _ _ _ h_=>NS h_)) (Dv (st':=⟨[(2,(.int .i64 (7:Int)))],[(8,.obj (.map false .i64 (mapE TR x24.2.2.2.2.2))),(jy x24.2.1.Params x24.2.1.Ret x24.2.1.Blocks x24.2.2.1 x24.2.2.2.1 x24.2.2.2.2.1),(Z8 x24.2.2.2.2.1.length)],[]⟩) [2] Kz q)))))))) λh=>Ap q TL Kz (tN h))) λh=>tS h (gO (Ea (Dv [] Kz q))))) λx25 h=>(match x25,h with | .inl ⟨l16,l17,i18,l19,i20,l21,l22⟩,h=>gA (Ap q [2] Kz (Tn (⟨[(2,Oq)],(mQ l16 l17 i18 l19 i20 l21 l22),[]⟩:St) (tS h (gK (e:=.ret) (K0 g6 (Le.trans (KC (nm:=8) (.map false .i64 (mapE TR l16)) rfl (λ_ _ _ _ h_=>NS h_)) (Dv (st':=⟨[(2,Oq)],[(8,.obj (.map false .i64 (mapE TR l16))),(jy l17 i18 l19 i20 l21 l22),(Z8 l22.length)],[]⟩) [2] Kz q))))))) | .inr r27,h=>Vx (λst' hk=>tS h (gK hk))))))))
abbrev ku:=(G3×Ab×Int×A3×List A6)
def Ec(aV:Int)(a0:Ab)(a5:Int)(a9:A3)(a7:List Jg)(a6:List A6):Option ku:=
 (Cq (B6 aV a0.Blocks.length) (some ((⟨aV,(((a0.Blocks.getD aV.toNat default).Ops).length:Int)⟩:G3),a0,a5,a9,a6)))
variable{v28:ku}
theorem Ij(h:Ec v1 v0 v11 v2 v25 v12=some v28):sP 171 [Xr,(Z7 v1)] [(Z1 v0.Params v0.Ret v0.Blocks v11 v2 9100005 v12),(Z8 v12.length),(9100005,.obj (.map false .i64 (mapE (λ(v_:Aj)=>((O9 v_):AV)) v25)))] (.agg (AZ v28.1)) [(Z1 v28.2.1.Params v28.2.1.Ret v28.2.1.Blocks v28.2.2.1 v28.2.2.2.1 9100005 v28.2.2.2.2),(Z8 v28.2.2.2.2.length),(9100005,.obj (.map false .i64 (mapE (λ(v_:Aj)=>((O9 v_):AV)) v25)))]:=
 sG Tryz.func171 λΓ q=>Ap q [0,1,4] dG (tV q [4] dG h λh=>tS h (C1 Ug))
abbrev fu:=(Ab×Int×A3×List A6)
def Di(a8:Int)(aX:Gr)(aJ:G3)(a0:Ab)(a5:Int)(a9:A3)(a7:List Jg)(a6:List A6):Option fu:=
 (Cq (a6.length+([(⟨a8,aX,aJ⟩:A6)]:List A6).length<=room) (some (a0,a5,a9,(a6++([(⟨a8,aX,aJ⟩:A6)]:List A6)))))
variable{v29:fu}
theorem Gn(h:Di v1 v19 v24 v0 v11 v2 v25 v12=some v29):sP 170 [Xr,(Z7 v1),(BR v19),(.agg (AZ v24))] [(Z1 v0.Params v0.Ret v0.Blocks v11 v2 9100005 v12),(Z8 v12.length),(9100005,.obj (.map false .i64 (mapE (λ(v_:Aj)=>((O9 v_):AV)) v25)))] (.tuple []) [(Z1 v29.1.Params v29.1.Ret v29.1.Blocks v29.2.1 v29.2.2.1 9100005 v29.2.2.2),(Z8 v29.2.2.2.length),(9100005,.obj (.map false .i64 (mapE (λ(v_:Aj)=>((O9 v_):AV)) v25)))]:=
 sG Tryz.func170 λΓ q=>Ap q [0,1,6,7] VM (tC h λc1_ h=>gR q [] Fa [(17,(AV.list 5 I7 default ([(⟨v1,v19,v24⟩:A6)]:List A6) .exact)),(18,(AV.list 5 I7 default (v12++([(⟨v1,v19,v24⟩:A6)]:List A6)) (.own 37006)))] [] (c5 (Cp 5 I7 (default:A6) ([(⟨v1,v19,v24⟩:A6)]:List A6)) (Eq.refl v12.length) c1_ (V4 5 37006 I7 (default:A6) v12 ([(⟨v1,v19,v24⟩:A6)]:List A6)) (Iu v12 ([(⟨v1,v19,v24⟩:A6)]:List A6))) (tS h (gK (e:=.normal) (K0 Ug (Le.refl _ _)))))
def lD:List g5:=[(2,lH)]
def Km(a1:Ds):Option fq:=
 ((Li a1).bind λx1=>(bif (!x1) then(some ([]:List Gr)) else((Kr a1).bind λx2=>(some x2))))
theorem FU(h:Km v6=some v21):sP 172 [(Vw v6)] [] (Z6 v21) []:=
 sG Tryz.func172 λΓ q=>gR q [1] [1] lD [] (c1 (Ir 2 Bp ((0:Int),(0:Int)))) (tB h λx1 y1 h=>tT q [1,5] [1] [(Z2 x1)] (c1 (Sq y1)) (gC h (λh=>gR q [2] [] lD [] (c1 (Ir 2 Bp ((0:Int),(0:Int)))) (Tn (⟨lD,[],[]⟩:St) (tS h (gK (e:=.ret) (K0 [] (show Le Γ _ (⟨[(2,(AV.list 2 Bp ((0:Int),(0:Int)) ([]:List Gr) .none))],[],[]⟩:St) from Le.trans (Dv (st':=⟨lD,[],[]⟩) [2] [] q) (Kg (.cons AVle.untag .nil) .nil))))))) λh=>tB h λx2 y2 h=>tT q [2] [] [(VY x2)] (c1 (Ur y2)) (tS h (C1 []))))
abbrev dD:=(LR (Int×A3×Int×List Am×Int×A3×List A6) (A3×Int×List Am×Int×A3×List A6))
def C3(a0:Ab)(a7:List Jg)(i1:Int)(i21:Int):Mf->Option dD:=
 λ((i35,l36,i37,l38,i39,l40,l41):Mf)=>(bif (decide (i35<(((((a0.Blocks.getD i1.toNat default).Phis).getD i21.toNat default).Args).length:Int))) then(Cq (B6 i35 ((((a0.Blocks.getD i1.toNat default).Phis).getD i21.toNat default).Args).length) ((C9 ((((a0.Blocks.getD i1.toNat default).Phis).getD i21.toNat default).Bits)).bind λx49=>(Cq (B6 i35 ((((a0.Blocks.getD i1.toNat default).Phis).getD i21.toNat default).From).length) ((Ec (((((a0.Blocks.getD i1.toNat default).Phis).getD i21.toNat default).From).getD i35.toNat 0) (⟨l36,i37,l38⟩:Ab) i39 l40 a7 l41).bind λx51=>((Di (((((a0.Blocks.getD i1.toNat default).Phis).getD i21.toNat default).Args).getD i35.toNat 0) x49 x51.1 x51.2.1 x51.2.2.1 x51.2.2.2.1 a7 x51.2.2.2.2).bind λx52=>(some (.next ((Bh (i35+1)),x52.1.Params,x52.1.Ret,x52.1.Blocks,x52.2.1,x52.2.2.1,x52.2.2.2)))))))) else(some (.done (l36,i37,l38,i39,l40,l41))))
def C4(a0:Ab)(a7:List Jg)(i1:Int):Mf->Option dD:=
 λ((i21,l22,i23,l24,i25,l26,l27):Mf)=>(bif (decide (i21<(((a0.Blocks.getD i1.toNat default).Phis).length:Int))) then(Cq (B6 i21 ((a0.Blocks.getD i1.toNat default).Phis).length) ((Ai (C3 a0 a7 i1 i21) ((0:Int),l22,i23,l24,i25,l26,l27)).bind (λ(l42,i43,l44,i45,l46,l47)=>(some (.next ((Bh (i21+1)),l42,i43,l44,i45,l46,l47)))))) else(some (.done (l22,i23,l24,i25,l26,l27))))
def C5(a0:Ab)(a7:List Jg)(i1:Int)(i57:Int)(x71:List PL):Mf->Option dD:=
 λ((i72,l73,i74,l75,i76,l77,l78):Mf)=>(bif (decide (i72<(x71.length:Int))) then(Cq (B6 i72 x71.length) (Cq (B6 i72 ((((a0.Blocks.getD i1.toNat default).Ops).getD i57.toNat default).Args).length) ((Di (((((a0.Blocks.getD i1.toNat default).Ops).getD i57.toNat default).Args).getD i72.toNat 0) (x71.getD i72.toNat ((0:Int),(0:Int))) (⟨i1,i57⟩:G3) (⟨l73,i74,l75⟩:Ab) i76 l77 a7 l78).bind λx87=>(some (.next ((Bh (i72+1)),x87.1.Params,x87.1.Ret,x87.1.Blocks,x87.2.1,x87.2.2.1,x87.2.2.2)))))) else(some (.done (l73,i74,l75,i76,l77,l78))))
def C6(a0:Ab)(a7:List Jg)(i1:Int):Mf->Option dD:=
 λ((i57,l58,i59,l60,i61,l62,l63):Mf)=>(bif (decide (i57<(((a0.Blocks.getD i1.toNat default).Ops).length:Int))) then(Cq (B6 i57 ((a0.Blocks.getD i1.toNat default).Ops).length) ((Km (((a0.Blocks.getD i1.toNat default).Ops).getD i57.toNat default)).bind λx71=>((Ai (C5 a0 a7 i1 i57 x71) ((0:Int),l58,i59,l60,i61,l62,l63)).bind (λ(l79,i80,l81,i82,l83,l84)=>(some (.next ((Bh (i57+1)),l79,i80,l81,i82,l83,l84))))))) else(some (.done (l58,i59,l60,i61,l62,l63))))
def C7(a0:Ab)(a7:List Jg):Mf->Option dD:=
 λ((i1,l2,i3,l4,i5,l6,l7):Mf)=>(bif (decide (i1<(a0.Blocks.length:Int))) then(Option.bind (α:=(A3×Int×List Am×Int×A3×List A6)) (Cq (B6 i1 a0.Blocks.length) ((Ai (C4 a0 a7 i1) ((0:Int),l2,i3,l4,i5,l6,l7)).bind (λx55=>(match x55 with|(l28,i29,l30,i31,l32,l33)=>((Ai (C6 a0 a7 i1) ((0:Int),l28,i29,l30,i31,l32,l33)).bind (λx90=>(match x90 with|(l64,i65,l66,i67,l68,l69)=>(bif (((a0.Blocks.getD i1.toNat default).End.Kind:Int)==0) then((C9 i65).bind λx92=>((Ec i1 (⟨l64,i65,l66⟩:Ab) i67 l68 a7 l69).bind λx93=>((Di ((a0.Blocks.getD i1.toNat default).End.Arg) x92 x93.1 x93.2.1 x93.2.2.1 x93.2.2.2.1 a7 x93.2.2.2.2).bind λx94=>(some (x94.1.Params,x94.1.Ret,x94.1.Blocks,x94.2.1,x94.2.2.1,x94.2.2.2))))) else(bif (((a0.Blocks.getD i1.toNat default).End.Kind:Int)==2) then((C9 (1:Int)).bind λx95=>((Ec i1 (⟨l64,i65,l66⟩:Ab) i67 l68 a7 l69).bind λx96=>((Di ((a0.Blocks.getD i1.toNat default).End.Arg) x95 x96.1 x96.2.1 x96.2.2.1 x96.2.2.2.1 a7 x96.2.2.2.2).bind λx97=>(some (x97.1.Params,x97.1.Ret,x97.1.Blocks,x97.2.1,x97.2.2.1,x97.2.2.2))))) else(some (l64,i65,l66,i67,l68,l69))))))))))) (λx98=>(match x98 with|(l14,i15,l16,i17,l18,l19)=>(some (.next ((Bh (i1+1)),l14,i15,l16,i17,l18,l19)))))) else(some (.done (l2,i3,l4,i5,l6,l7))))
def nC(a0:Ab)(i1:Int):=(a0.Blocks.getD i1.toNat default)
def f7(a7:List Jg):=(mapE (λ(v_:Aj)=>((O9 v_):AV)) a7)
def Ey(a0:Ab)(a5:Int)(a9:A3)(a7:List Jg)(a6:List A6):Option fu:=
 ((Ai (C7 a0 a7) ((0:Int),a0.Params,a0.Ret,a0.Blocks,a5,a9,a6)).bind (λ(l8,i9,l10,i11,l12,l13)=>(some ((⟨l8,i9,l10⟩:Ab),i11,l12,l13))))
theorem Oy(h:Ey v0 v1 v2 v25 v12=some v29):sP 133 [Xr] [(Z1 v0.Params v0.Ret v0.Blocks v1 v2 9100005 v12),(Z8 v12.length),(9100005,.obj (.map false .i64 (mapE (λ(v_:Aj)=>((O9 v_):AV)) v25)))] (.tuple []) [(Z1 v29.1.Params v29.1.Ret v29.1.Blocks v29.2.1 v29.2.2.1 9100005 v29.2.2.2),(Z8 v29.2.2.2.length),(9100005,.obj (.map false .i64 (mapE (λ(v_:Aj)=>((O9 v_):AV)) v25)))]:=
 sG Tryz.func133 λΓ q=>Ap q IQ Fa (tL q h IQ Fa (λu (i1,l2,i3,l4,i5,l6,l7)=>(Fo u [(18,(Z7 i1))] (JI l2 i3 l4 i5 l6 l7 l7.length))) (λu (l8,i9,l10,i11,l12,l13)=>aG Γ (.exit 0) (Xt [] Fa u [] (JI l8 i9 l10 i11 l12 l13 l13.length))) (λ⟨i1,l2,i3,l4,i5,l6,l7⟩ y h=>Ap q [0,16,17,18,19] Fa (gC h (λh=>tB h λx98 y98 h=>gJ y98 (λ(l14,i15,l16,i17,l18,l19)=>aG Γ .normal (⟨[(0,Xr),(16,(YO v0.Blocks)),(17,(QQ v0.Blocks.length)),(18,(Z7 i1))],(jz l14 i15 l16 i17 l18 9100005 l19 l19.length (f7 v25)),[]⟩:St)) (λy h=>tV q PR Mh h λh=>Ap q PO Mh (tL q h PO Mh (λu (i21,l22,i23,l24,i25,l26,l27)=>(Fo u [(26,(Z7 i21))] (JI l22 i23 l24 i25 l26 l27 l27.length))) (λu (l28,i29,l30,i31,l32,l33)=>aG Γ (.exit 2) (Xt PR Mh u [] (JI l28 i29 l30 i31 l32 l33 l33.length))) (λ⟨i21,l22,i23,l24,i25,l26,l27⟩ y h=>Ap q [0,2,3,16,17,18,24,25,26,27] Mh (gC h (λh=>tV q [0,2,3,5,16,17,18,24,25,26] Xm h λh=>Ap q VH Xm (tL q h VH Xm (λu (i35,l36,i37,l38,i39,l40,l41)=>(Fo u [(33,(Z7 i35))] (JI l36 i37 l38 i39 l40 l41 l41.length))) (λu (l42,i43,l44,i45,l46,l47)=>aG Γ (.exit 4) (Xt PO Mh u [] (JI l42 i43 l44 i45 l46 l47 l47.length))) (λ⟨i35,l36,i37,l38,i39,l40,l41⟩ y h=>Ap q [0,2,3,5,16,17,18,24,25,26,31,32,33,34] Xm (gC h (λh=>tV q [0,2,3,5,6,7,16,17,18,24,25,26,31,32,33] Xm h λh=>tB h λx49 y49 h=>tC h λc50_ h=>tB h λx51 y51 h=>tB h λx52 y52 h=>tT q VH Xm [⟨[],[],(BR x49),[],[],[]⟩,(ll x51.1 x51.2.1.Params x51.2.1.Ret x51.2.1.Blocks x51.2.2.1 x51.2.2.2.1 x51.2.2.2.2 x51.2.2.2.2.length (f7 v25)),(jx x52.1.Params x52.1.Ret x52.1.Blocks x52.2.1 x52.2.2.1 x52.2.2.2 x52.2.2.2.length (f7 v25))] (c4 (Hu y49) c50_ (Ij y51) (Gn y52)) (Ap q VH Xm (tN h))) λh=>tS h (gO (Ea (Dv PO Mh q))))) λx53 h=>(match x53,h with|⟨l42,i43,l44,i45,l46,l47⟩,h=>gA (Ap q PO Mh (tN h))))) λh=>tS h (gO (Ea (Dv PR Mh q))))) λx55 h=>(match x55,h with|⟨l28,i29,l30,i31,l32,l33⟩,h=>gA (Ap q PP Mh (tL q h PP Mh (λu (i57,l58,i59,l60,i61,l62,l63)=>(Fo u [(56,(Z7 i57))] (JI l58 i59 l60 i61 l62 l63 l63.length))) (λu (l64,i65,l66,i67,l68,l69)=>aG Γ (.exit 6) (Xt PR Mh u [] (JI l64 i65 l66 i67 l68 l69 l69.length))) (λ⟨i57,l58,i59,l60,i61,l62,l63⟩ y h=>Ap q [0,2,3,16,17,18,54,55,56,57] Mh (gC h (λh=>tV q [0,2,3,8,9,16,17,18,54,55,56] IJ h λh=>tB h λx71 y71 h=>tT q VG IJ [(VY x71)] (c1 (FU y71)) (tL q h VG IJ (λu (i72,l73,i74,l75,i76,l77,l78)=>(Fo u [(64,(Z7 i72))] (JI l73 i74 l75 i76 l77 l78 l78.length))) (λu (l79,i80,l81,i82,l83,l84)=>aG Γ (.exit 8) (Xt PP Mh u [] (JI l79 i80 l81 i82 l83 l84 l84.length))) (λ⟨i72,l73,i74,l75,i76,l77,l78⟩ y h=>Ap q [0,2,3,8,9,16,17,18,54,55,56,62,63,64,65] IJ (gC h (λh=>tV q [0,2,3,8,9,10,11,16,17,18,54,55,56,62,63,64] [3,9,11,30000,37006,9100005] h λh=>tC h λc86_ h=>tB h λx87 y87 h=>tT q VG IJ [(jx x87.1.Params x87.1.Ret x87.1.Blocks x87.2.1 x87.2.2.1 x87.2.2.2 x87.2.2.2.length (f7 v25))] (c2 c86_ (Gn y87)) (Ap q VG IJ (tN h))) λh=>tS h (gO (Ea (Dv PP Mh q))))) λx88 h=>(match x88,h with|⟨l79,i80,l81,i82,l83,l84⟩,h=>gA (Ap q PP Mh (tN h))))) λh=>tS h (gO (Ea (Dv PR Mh q))))) λx90 h=>(match x90,h with|⟨l64,i65,l66,i67,l68,l69⟩,h=>gA (tW q [0,2,3,16,17,18,84] Mh [0,2,3,16,17,18,84,85] Mh (gC h (λh=>tB h λx92 y92 h=>tB h λx93 y93 h=>tB h λx94 y94 h=>tT q IQ Fa [⟨[],[],(BR x92),[],[],[]⟩,(ll x93.1 x93.2.1.Params x93.2.1.Ret x93.2.1.Blocks x93.2.2.1 x93.2.2.2.1 x93.2.2.2.2 x93.2.2.2.2.length (f7 v25)),(jx x94.1.Params x94.1.Ret x94.1.Blocks x94.2.1 x94.2.2.1 x94.2.2.2 x94.2.2.2.length (f7 v25))] (c3 (Hu y92) (Ij y93) (Gn y94)) (tS h (gK (Ea Ns)))) λh=>Ap q [0,2,3,16,17,18,101] Mh (gC h (λh=>tB h λx95 y95 h=>tB h λx96 y96 h=>tB h λx97 y97 h=>tT q IQ Fa [⟨[],[],(BR x95),[],[],[]⟩,(ll x96.1 x96.2.1.Params x96.2.1.Ret x96.2.1.Blocks x96.2.2.1 x96.2.2.2.1 x96.2.2.2.2 x96.2.2.2.2.length (f7 v25)),(jx x97.1.Params x97.1.Ret x97.1.Blocks x97.2.1 x97.2.2.1 x97.2.2.2 x97.2.2.2.length (f7 v25))] (c3 (Hu y95) (Ij y96) (Gn y97)) (tS h (gK (Ea Ns)))) λh=>tS h (gK (Ea (Dv IQ Fa q)))))))))))) (match x98,h with|⟨l14,i15,l16,i17,l18,l19⟩,h=>gA (Ap q IQ Fa (tN h)))) λh=>tS h (gO (Ea (Dv [] Fa q))))) λx100 h=>(match x100,h with|⟨l8,i9,l10,i11,l12,l13⟩,h=>gX (λst' hl101=>tS h (gK (e:=.normal) (K0 Ug hl101)))))
def G6(aN:A6)(a0:Ab)(a5:Int)(a9:A3)(a7:List Jg)(a6:List A6):Option S7:=
 (some ((Bv a7 aN.v),a0,a5,a9,a6))
variable{v30:A6}
theorem O1(h:G6 v30 v0 v1 v2 v25 v12=some v23):sP 134 [Xr,(.agg (I7 v30))] [(Z1 v0.Params v0.Ret v0.Blocks v1 v2 9100005 v12),(Z8 v12.length),(9100005,.obj (.map false .i64 (mapE (λ(v_:Aj)=>((O9 v_):AV)) v25)))] (.bool v23.1) [(Z1 v23.2.1.Params v23.2.1.Ret v23.2.1.Blocks v23.2.2.1 v23.2.2.2.1 9100005 v23.2.2.2.2),(Z8 v23.2.2.2.2.length),(9100005,.obj (.map false .i64 (mapE (λ(v_:Aj)=>((O9 v_):AV)) v25)))]:=
 sG Tryz.func134 λΓ q=>Ap q U7 Mh (gR q [6] Fa [(14,(.tuple [(gB v25 v30.v),(.bool (Bv v25 v30.v))]))] [] (c1 (show(AVle (.tuple [mget (.agg [Oq,Oq,Oq,Oq]) (mapE (λ(v_:Aj)=>((O9 v_):AV)) v25) v30.v,.bool (Bv (mapE (λ(v_:Aj)=>((O9 v_):AV)) v25) v30.v)]) (.tuple [(gB v25 v30.v),(.bool (Bv v25 v30.v))])) from(Wp (f:=(λ(v_:Aj)=>((O9 v_):AV))) (l:=v25) (AVle.refl _) rfl))) (Ap q [4] Fa (tS h (C1 Ug))))
def Ib(aN:A6)(a0:Ab)(a5:Int)(a9:A3)(a7:List Jg)(a6:List A6):Option S7:=
 (some (((((mget (default:Aj) a7 aN.v).shape.1:Int)==aN.shape.1)&&((((mget (default:Aj) a7 aN.v).shape.2:Int)==aN.shape.2)&&true)),a0,a5,a9,a6))
theorem Ru(h:Ib v30 v0 v1 v2 v25 v12=some v23):sP 135 [Xr,(.agg (I7 v30))] [(Z1 v0.Params v0.Ret v0.Blocks v1 v2 9100005 v12),(Z8 v12.length),(9100005,.obj (.map false .i64 (mapE (λ(v_:Aj)=>((O9 v_):AV)) v25)))] (.bool v23.1) [(Z1 v23.2.1.Params v23.2.1.Ret v23.2.1.Blocks v23.2.2.1 v23.2.2.2.1 9100005 v23.2.2.2.2),(Z8 v23.2.2.2.2.length),(9100005,.obj (.map false .i64 (mapE (λ(v_:Aj)=>((O9 v_):AV)) v25)))]:=
 sG Tryz.func135 λΓ q=>Ap q U7 Mh (gR q [4] Fa [(11,(gB v25 v30.v))] [] (c1 (show(AVle (mget (.agg [Oq,Oq,Oq,Oq]) (mapE (λ(v_:Aj)=>((O9 v_):AV)) v25) v30.v) (gB v25 v30.v)) from(BE (f:=(λ(v_:Aj)=>((O9 v_):AV))) (l:=v25) (AVle.refl _) rfl))) (tS h (C1 Ug)))
def Bt(aY:A3)(a8:Int):Int->Option (LR Int (Unit ⊕ Int)):=
 λ(i1:Int)=>(bif (decide (i1<(aY.length:Int))) then(Cq (B6 i1 aY.length) (bif (a8==(aY.getD i1.toNat 0)) then(some (.done (.inr i1))) else(some (.next (Bh (i1+1)))))) else(some (.done (.inl ()))))
def P0(Γ:Gt)(aY:A3)(a8:Int)(r:Int):Exit->St->Prop:=fK Tryz.prog Γ Tryz.f176.results.toList [] (.int .i64 r) []
def D8(aY:A3)(a8:Int):Option Int:=
 ((Ai (Bt aY a8) (0:Int)).bind (λx3=>(match x3 with|(.inl _)=>(some (-1:Int))|(.inr r5)=>(some r5))))
theorem Pi(h:D8 v2 v1=some v11):sP 176 [(Px v2),(Z7 v1)] [] (.int .i64 v11) []:=
 sG Tryz.func176 λΓ q=>tW q Hb [] [0,1,7,8] [] (tL q h [0,1,7,8] [] (λu i1=>(Fo u [(8,(Z7 i1))] [])) (λu x_=>match x_ with|(.inl _)=>aG Γ (.exit 0) (⟨[],[],[]⟩:St)|(.inr r_)=>aR (P0 Γ v2 v1 r_)) (λi1 y h=>Ap q [0,1,7,8,9] [] (gC h (λh=>Ap q [0,1,5,7,8] [] (tV q [0,1,5,7,8,16] [] h λh=>gC h (λh=>Ap q [4] [] (tS h (gO (R3 (K0 [] (Le.refl _ _)))))) λh=>Ap q [0,1,7,8] [] (tN h))) λh=>tS h (gO (Ea (Dv [] [] q))))) λx3 h=>(match x3,h with | .inl _,h=>gA (Ap q [4] [] (tS h (C1 []))) | .inr r5,h=>Vx (λst' hk=>tS h (gK hk))))
def Hy(aC:A3)(aJ:Int):Option Bool:=
 (some (bif (decide ((0:Int)<=aJ)) then(decide (aJ<(aC.length:Int))) else false))
theorem Sl(h:Hy v2 v1=some v3):sP 229 [(Px v2),(Z7 v1)] [] (.bool v3) []:=
 sG Tryz.func229 λΓ q=>Ap q Hb [] (tU q [4] [] (MX ((decide ((0:Int)<=v1))==true) (c1 (L8 (decide ((0:Int)<=v1))))) (tS h (C1 [])))
def Co(aC:A3)(aa1:Int)(aS:Int):TA->Option (LR (Int×A3) (A3 ⊕ (Bool×A3))):=
 λ((i1,l2):TA)=>(bif (i1 !=aS) then(Cq (B6 i1 l2.length) (bif ((l2.getD i1.toNat 0)!=0) then(Cq (B6 i1 l2.length) (some (.done (.inr (((l2.getD i1.toNat 0)!=(Bh (aa1+1))),l2))))) else(Cq (B6 i1 aC.length) ((Hy aC (aC.getD i1.toNat 0)).bind λx7=>(bif (!x7) then(some (.done (.inr (false,l2)))) else(Cq (B6 i1 l2.length) (Cq (B6 i1 aC.length) (some (.next ((aC.getD i1.toNat 0),(l2.set i1.toNat (Bh (aa1+1))))))))))))) else(some (.done (.inl l2))))
def LO(Γ:Gt)(aC:A3)(aa7:A3)(aa1:Int)(aS:Int)(r:dB):Exit->St->Prop:=fK Tryz.prog Γ Tryz.f228.results.toList [(Z4 34001 aa7)] (.bool r.1) [(Z4 34001 r.2)]
def Oa(aC:A3)(aa7:A3)(aa1:Int)(aS:Int):Option dB:=
 ((Ai (Co aC aa1 aS) (aa1,aa7)).bind (λx10=>(match x10 with|(.inl l3)=>(some (true,l3))|(.inr r12)=>(some r12))))
variable{v31:dB}
theorem KK(h:Oa v2 v17 v1 v11=some v31):sP 228 [(Px v2),(.vsl 34001 v17.length),(Z7 v1),(Z7 v11)] [(Z4 34001 v17)] (.bool v31.1) [(Z4 34001 v31.2)]:=
 sG Tryz.func228 λΓ q=>tW q [0,1,2,3] [34001] [0,1,2,3,9] [34001] (Ap q VQ [34001] (tL q h VQ [34001] (λu (i1,l2)=>(Fo u [(1,(.vsl 34001 l2.length)),(10,(Z7 i1))] [(Z4 34001 l2)])) (λu x_=>match x_ with|(.inl l3)=>aG Γ (.exit 0) (⟨[],[(Z4 34001 l3)],[]⟩:St)|(.inr r_)=>aR (LO Γ v2 v17 v1 v11 r_)) (λ⟨i1,l2⟩ y h=>Ap q [0,1,3,9,10,16] [34001] (gC h (λh=>tC h λc4_ h=>tU q [0,1,3,9,10,25] [34001] (c2 c4_ (Eq.refl l2.length)) (gC h (λh=>tC h λc5_ h=>tU q [8] [34001] (c2 c5_ (Eq.refl l2.length)) (tS h (gO (R3 (K0 TH (Le.refl _ _)))))) λh=>tC h λc6_ h=>tB h λx7 y7 h=>tT q [0,1,3,9,10,38] [34001] [(Z2 x7)] (c2 c6_ (Sl y7)) (gC h (λh=>Ap q [8] [34001] (tS h (gO (R3 (K0 TH (Le.refl _ _)))))) λh=>tC h λc8_ h=>tU q VQ [34001] (c2 c8_ (Eq.refl l2.length)) (Mz (Le.trans (Wh 34001 (show ∀ k_,k_<l2.length->AVleL ((λi_=>AV.eraseAll (λn_=>Ca n_ [34001]) ((K1 (λi=>Ax (l2.getD i 0)) i1.toNat 0 [(.int .i64 (Bh (v1+1)))]) i_)) k_) ((λi=>Ax ((l2.set i1.toNat (Bh (v1+1))).getD i 0)) k_) from(Cf (Hx ..).symm (λk_ hk_=>(B5 (AV.eraseAll (λn_=>Ca n_ [34001])) ((Lz (λ_ _=>rfl) (N5 c8_) rfl) k_ hk_)).trans rfl)))) (Sf (λ(k_:Nat) u=>(Fo u [(1,(.vsl 34001 k_))] [(34001,.arr 1 3 k_ (λi=>Ax ((l2.set i1.toNat (Bh (v1+1))).getD i 0)))])) (show l2.length=(l2.set i1.toNat (Bh (v1+1))).length from(Hx ..).symm))) (tV q VQ [34001] h λh=>tN h))))) λh=>tS h (gO (Ea (Dv [] [34001] q))))) λx10 h=>(match x10,h with | .inl l3,h=>gA (Ap q [8] [34001] (tS h (C1 TH))) | .inr r12,h=>Vx (λst' hk=>tS h (gK hk)))))
def Ed(aC:A3)(x1:Int):TA->Option (LR (Int×A3) (Unit ⊕ Bool)):=
 λ((i3,l4):TA)=>(bif (decide (i3<(aC.length:Int))) then(Cq (B6 i3 aC.length) ((bif (((aC.getD i3.toNat 0)!=-2)==true) then Oa aC l4 i3 x1 else some (false,[])).bind λx6=>(Cq ((((aC.getD i3.toNat 0)!=-2)==true)=true->(l4.length=x6.2.length)) (bif (bif ((aC.getD i3.toNat 0)!=-2) then(!x6.1) else false) then(some (.done (.inr false))) else(some (.next ((Bh (i3+1)),(bif (((aC.getD i3.toNat 0)!=-2)==true) then x6.2 else l4)))))))) else(some (.done (.inl ()))))
def JB(Γ:Gt)(aC:A3)(r:Bool):Exit->St->Prop:=fK Tryz.prog Γ Tryz.f216.results.toList [] (.bool r) []
def db(aC:A3)(i3:Int):=(((aC.getD i3.toNat 0)!=-2)==true)
def Mq(aC:A3):Option Bool:=
 ((D8 aC (-1:Int)).bind λx1=>(bif (decide (x1<0)) then(some false) else(Cq (0<=(aC.length:Int)/\(aC.length:Int)<=(aC.length:Int)/\(aC.length:Int)<=(room:Int)) ((Ai (Ed aC x1) ((0:Int),(List.replicate (aC.length:Int).toNat (0:Int)))).bind (λx8=>(match x8 with|(.inl _)=>(some true)|(.inr r10)=>(some r10)))))))
theorem FP(h:Mq v2=some v3):sP 216 [(Px v2)] [] (.bool v3) []:=
 sG Tryz.func216 λΓ q=>Ap q [0] [] (tB h λx1 y1 h=>tT q U7 [] [(VZ x1)] (c1 (Pi y1)) (Ap q [0,3,9] [] (gC h (λh=>Ap q [2] [] (tS h (C1 []))) λh=>tV q [0,3,4] [12] h λh=>by exact Mz (Le.trans (Wh 12 (show ∀ k_,k_<((v2.length:Int).toNat)->AVleL ((λi_=>AV.eraseAll (λn_=>Ca n_ [12]) ((λ_=>[Oq]) i_)) k_) ((λi=>Ax ((List.replicate (v2.length:Int).toNat (0:Int)).getD i 0)) k_) from(λk hk=>Wl (e:=Ax) (d:=(0:Int)) (.cons (AVle.refl _) .nil) _ k (W6 hk)))) (Sf (λ(k_:Nat) u=>(Fo u [(4,(.vsl 12 k_))] [(12,.arr 1 3 k_ (λi=>Ax ((List.replicate (v2.length:Int).toNat (0:Int)).getD i 0)))])) (show(v2.length:Int).toNat=(List.replicate (v2.length:Int).toNat (0:Int)).length from(Xd ..).symm))) (Ap q TF [12] (tL q h TF [12] (λu (i3,l4)=>(Fo u [(4,(.vsl 12 l4.length)),(15,(Z7 i3))] [(Z4 12 l4)])) (λu x_=>match x_ with|(.inl _)=>aG Γ (.exit 0) (⟨[],[],[]⟩:St)|(.inr r_)=>aR (JB Γ v2 r_)) (λ⟨i3,l4⟩ y h=>Ap q [0,3,4,14,15,16] [12] (gC h (λh=>Ap q [0,3,4,5,14,15] [12] (tC h λc5_ h=>tB h λx6 y6 h=>tC h λc7_ h=>tT q [0,3,4,14,15,30] [12] [⟨[(12,34001)],[],(.bool x6.1),[(Z4 34001 x6.2)],[],[]⟩] (ci c5_ (jU (db v2 i3) (c3 (λ(hg:(db v2 i3)=true)=>(KK (A8 hg y6))) (gI (db v2 i3)) (L8 ((v2.getD i3.toNat 0)!=-2))))) (Mz (Le.trans (Wh 12 (show ∀ k_,k_<(bif (db v2 i3) then x6.2.length else l4.length)->AVleL ((λi_=>AV.eraseAll (λn_=>Ca n_ [12]) ((λi=>bif (db v2 i3) then(λi=>Ax (x6.2.getD i 0)) i else(λi=>Ax (l4.getD i 0)) i) i_)) k_) ((λi=>Ax ((bif (db v2 i3) then x6.2 else l4).getD i 0)) k_) from(Cf TY (λk_ hk_=>(B5 (AV.eraseAll (λn_=>Ca n_ [12])) ((λ_ _=>eE) k_ hk_)).trans rfl)))) (Le.trans (Sf (λ(k_:Nat) u=>(Fo u [] [(12,.arr 1 3 k_ (λi=>Ax ((bif (db v2 i3) then x6.2 else l4).getD i 0)))])) (show(bif (db v2 i3) then x6.2.length else l4.length)=(bif (db v2 i3) then x6.2 else l4).length from TY)) (Sf (λ(k_:Nat) u=>(Fo u [(4,(.vsl 12 k_))] [])) (show l4.length=(bif (db v2 i3) then x6.2 else l4).length from(eF c7_))))) (gC h (λh=>Ap q [2] [] (tS h (gO (R3 (K0 [] (Le.refl _ _)))))) λh=>Ap q TF [12] (tN h))))) λh=>tS h (gO (Ea (Dv [] [] q))))) λx8 h=>(match x8,h with | .inl _,h=>gA (Ap q [2] [] (tS h (C1 []))) | .inr r10,h=>Vx (λst' hk=>tS h (gK hk))))))))
def Ie(aC:A3)(aJ:Int):Option Bool:=
 ((Hy aC aJ).bind λx1=>(Cq ((x1==true)=true->(B6 aJ aC.length)) (some (bif x1 then((aC.getD aJ.toNat 0)!=-2) else false))))
theorem Rh(h:Ie v2 v1=some v3):sP 217 [(Px v2),(Z7 v1)] [] (.bool v3) []:=
 sG Tryz.func217 λΓ q=>Ap q Hb [] (tB h λx1 y1 h=>tC h λc2_ h=>tT q [4] [] [(Z2 x1)] (ci (Sl y1) (Nr (x1==true) (ci c2_ (Nr (x1==true) (c1 (L8 x1)))))) (tS h (C1 [])))
def N9(aC:A3)(aF:Int)(aH:Int):Option Bool:=
 ((Mq aC).bind λx1=>((bif (x1==true) then Ie aC aF else some false).bind λx2=>((bif ((bif x1 then x2 else false)==true) then Ie aC aH else some false).bind λx3=>(some (bif (bif x1 then x2 else false) then x3 else false)))))
theorem KJ(h:N9 v2 v1 v11=some v3):sP 191 [(Px v2),(Z7 v1),(Z7 v11)] [] (.bool v3) []:=
 sG Tryz.func191 λΓ q=>Ap q [0,1,2] [] (tB h λx1 y1 h=>tB h λx2 y2 h=>tB h λx3 y3 h=>tT q [6] [] [(Z2 x1),(Z2 x2),(Z2 x3)] (ci (FP y1) (Nr (x1==true) (UE (λ(hg:(x1==true)=true)=>(Rh (A8 hg y2))) (L8 x1) (Nr ((bif x1 then x2 else false)==true) (c2 (λ(hg:((bif x1 then x2 else false)==true)=true)=>(Rh (A8 hg y3))) (L8 (bif x1 then x2 else false))))))) (tS h (C1 [])))
def Qh(aC:A3)(aF:Int)(aH:Int):Option Bool:=
 ((N9 aC aF aH).bind λx1=>((bif (x1==true) then Lh aC aF aH else some (0:Int)).bind λx2=>(some (bif x1 then(x2==aF) else false))))
theorem NY(h:Qh v2 v1 v11=some v3):sP 173 [(Px v2),(Z7 v1),(Z7 v11)] [] (.bool v3) []:=
 sG Tryz.func173 λΓ q=>Ap q [0,1,2] [] (tB h λx1 y1 h=>tB h λx2 y2 h=>tT q [6] [] [(Z2 x1),(VZ x2)] (ci (KJ y1) (MX (x1==true) (ci (λ(hg:(x1==true)=true)=>(Zl (A8 hg y2))) (Nr (x1==true) (c1 (L8 x1)))))) (tS h (C1 [])))
def E0(aN:A6)(a0:Ab)(a5:Int)(a9:A3)(a7:List Jg)(a6:List A6):Option S7:=
 (bif (((mget (default:Aj) a7 aN.v).place.block:Int)==aN.place.block) then(some ((decide (((mget (default:Aj) a7 aN.v).place.at_:Int)<aN.place.at_)),a0,a5,a9,a6)) else((Qh a9 ((mget (default:Aj) a7 aN.v).place.block) aN.place.block).bind λx1=>(some (x1,a0,a5,a9,a6))))
theorem O0(h:E0 v30 v0 v1 v2 v25 v12=some v23):sP 136 [Xr,(.agg (I7 v30))] [(Z1 v0.Params v0.Ret v0.Blocks v1 v2 9100005 v12),(Z8 v12.length),(9100005,.obj (.map false .i64 (mapE (λ(v_:Aj)=>((O9 v_):AV)) v25)))] (.bool v23.1) [(Z1 v23.2.1.Params v23.2.1.Ret v23.2.1.Blocks v23.2.2.1 v23.2.2.2.1 9100005 v23.2.2.2.2),(Z8 v23.2.2.2.2.length),(9100005,.obj (.map false .i64 (mapE (λ(v_:Aj)=>((O9 v_):AV)) v25)))]:=
 sG Tryz.func136 λΓ q=>Ap q U7 Mh (gR q [0,3,5] Xm [(12,(gB v25 v30.v))] [] (c1 (show(AVle (mget (.agg [Oq,Oq,Oq,Oq]) (mapE (λ(v_:Aj)=>((O9 v_):AV)) v25) v30.v) (gB v25 v30.v)) from(BE (f:=(λ(v_:Aj)=>((O9 v_):AV))) (l:=v25) (AVle.refl _) rfl))) (Ap q [0,3,5,19] Xm (gC h (λh=>Ap q [4] Fa (tS h (C1 Ug))) λh=>tB h λx1 y1 h=>tT q [4] Fa [(Z2 x1)] (c1 (NY y1)) (tS h (C1 Ug)))))
abbrev jH:=(LR (Int×A3×Int×List Am×Int×A3×List A6) ((A3×Int×List Am×Int×A3×List A6) ⊕ (A3×Int×List Am×Int×A3×List A6)))
def Cy(a7:List Jg)(x8:fu):Mf->Option jH:=
 λ((i9,l10,i11,l12,i13,l14,l15):Mf)=>(bif (decide (i9<(x8.2.2.2.length:Int))) then(Cq (B6 i9 x8.2.2.2.length) ((G6 (x8.2.2.2.getD i9.toNat default) (⟨l10,i11,l12⟩:Ab) i13 l14 a7 l15).bind λx29=>(bif (!x29.1) then(some (.done (.inr (x29.2.1.Params,x29.2.1.Ret,x29.2.1.Blocks,x29.2.2.1,x29.2.2.2.1,x29.2.2.2.2)))) else(some (.next ((Bh (i9+1)),x29.2.1.Params,x29.2.1.Ret,x29.2.1.Blocks,x29.2.2.1,x29.2.2.2.1,x29.2.2.2.2)))))) else(some (.done (.inl (l10,i11,l12,i13,l14,l15)))))
def Cz(a7:List Jg)(l21:List A6):Mf->Option jH:=
 λ((i32,l33,i34,l35,i36,l37,l38):Mf)=>(bif (decide (i32<(l21.length:Int))) then(Cq (B6 i32 l21.length) ((Ib (l21.getD i32.toNat default) (⟨l33,i34,l35⟩:Ab) i36 l37 a7 l38).bind λx52=>(bif (!x52.1) then(some (.done (.inr (x52.2.1.Params,x52.2.1.Ret,x52.2.1.Blocks,x52.2.2.1,x52.2.2.2.1,x52.2.2.2.2)))) else(some (.next ((Bh (i32+1)),x52.2.1.Params,x52.2.1.Ret,x52.2.1.Blocks,x52.2.2.1,x52.2.2.2.1,x52.2.2.2.2)))))) else(some (.done (.inl (l33,i34,l35,i36,l37,l38)))))
def C0(a7:List Jg)(l44:List A6):Mf->Option jH:=
 λ((i55,l56,i57,l58,i59,l60,l61):Mf)=>(bif (decide (i55<(l44.length:Int))) then(Cq (B6 i55 l44.length) ((E0 (l44.getD i55.toNat default) (⟨l56,i57,l58⟩:Ab) i59 l60 a7 l61).bind λx75=>(bif (!x75.1) then(some (.done (.inr (x75.2.1.Params,x75.2.1.Ret,x75.2.1.Blocks,x75.2.2.1,x75.2.2.2.1,x75.2.2.2.2)))) else(some (.next ((Bh (i55+1)),x75.2.1.Params,x75.2.1.Ret,x75.2.1.Blocks,x75.2.2.1,x75.2.2.2.1,x75.2.2.2.2)))))) else(some (.done (.inl (l56,i57,l58,i59,l60,l61)))))
def J0 :Mf->Option (LR (Int×A3×Int×List Am×Int×A3×List A6) (Int×Ab×Int×A3×List A6)):=
 λ(s_:Mf)=>match s_ with|(i1,l2,i3,l4,i5,l6,l7)=>(some (.done (i1,(⟨l2,i3,l4⟩:Ab),i5,l6,l7)))
def R4(Γ:Gt)(a0:Ab)(a5:Int)(a9:A3)(a7:List Jg)(a6:List A6)(r:YG):Exit->St->Prop:=fK Tryz.prog Γ Tryz.f95.results.toList [(Z1 a0.Params a0.Ret a0.Blocks a5 a9 9100005 a6),(Z8 a6.length),(9100005,.obj (.map false .i64 (mapE (λ(v_:Aj)=>((O9 v_):AV)) a7)))] (Z7 r.1) [(Z1 r.2.1.Params r.2.1.Ret r.2.1.Blocks r.2.2.1 r.2.2.2.1 9100005 r.2.2.2.2),(Z8 r.2.2.2.2.length),(9100005,.obj (.map false .i64 (mapE (λ(v_:Aj)=>((O9 v_):AV)) a7)))]
def jt(a7:List Jg):=(mapE (λ(v_:Aj)=>((O9 v_):AV)) a7)
def Gj(a0:Ab)(a5:Int)(a9:A3)(a7:List Jg)(a6:List A6):Option YG:=
 ((O5 (S:=Mf) (X:=YG) ((Ey a0 a5 a9 a7 a6).bind λx8=>((Ai (Cy a7 x8) ((0:Int),x8.1.Params,x8.1.Ret,x8.1.Blocks,x8.2.1,x8.2.2.1,x8.2.2.2)).bind (λx30=>(match x30 with|(.inl (l16,i17,l18,i19,l20,l21))=>((Ai (Cz a7 l21) ((0:Int),l16,i17,l18,i19,l20,l21)).bind (λx53=>(match x53 with|(.inl (l39,i40,l41,i42,l43,l44))=>((Ai (C0 a7 l44) ((0:Int),l39,i40,l41,i42,l43,l44)).bind (λx76=>(match x76 with|(.inl (l62,i63,l64,i65,l66,l67))=>(some (.done ((0:Int),(⟨l62,i63,l64⟩:Ab),i65,l66,l67)))|(.inr (l68,i69,l70,i71,l72,l73))=>(some (.next ((7:Int),l68,i69,l70,i71,l72,l73))))))|(.inr (l45,i46,l47,i48,l49,l50))=>(some (.next ((6:Int),l45,i46,l47,i48,l49,l50))))))|(.inr (l22,i23,l24,i25,l26,l27))=>(some (.next ((7:Int),l22,i23,l24,i25,l26,l27))))))) J0).bind (λx81=>(some x81)))
theorem Rw(h:Gj v0 v1 v2 v25 v12=some v13):sP 95 [Xr] [(Z1 v0.Params v0.Ret v0.Blocks v1 v2 9100005 v12),(Z8 v12.length),(9100005,.obj (.map false .i64 (mapE (λ(v_:Aj)=>((O9 v_):AV)) v25)))] (Z7 v13.1) [(Z1 v13.2.1.Params v13.2.1.Ret v13.2.1.Blocks v13.2.2.1 v13.2.2.2.1 9100005 v13.2.2.2.2),(Z8 v13.2.2.2.2.length),(9100005,.obj (.map false .i64 (mapE (λ(v_:Aj)=>((O9 v_):AV)) v25)))]:=
 sG Tryz.func95 λΓ q=>Ap q [0] Fa (tB h λx81 y81 h=>gS y81 (λ(s_:Mf)=>match s_ with|(i1,l2,i3,l4,i5,l6,l7)=>0) (λ(s_:Mf)=>match s_ with|(i1,l2,i3,l4,i5,l6,l7)=>(⟨[(4,(Z7 i1))],(jz l2 i3 l4 i5 l6 9100005 l7 l7.length (jt v25)),[]⟩:St)) (λr_=>aR (R4 Γ v0 v1 v2 v25 v12 r_)) (λy h=>tB h λx8 y8 h=>tT q [0] Fa [(jx x8.1.Params x8.1.Ret x8.1.Blocks x8.2.1 x8.2.2.1 x8.2.2.2 x8.2.2.2.length (jt v25))] (c1 (Oy y8)) (tW q U7 Mh U7 Mh (Ap q U4 Fa (gU 3 (Ap q VS Fa (WX true (tU q TM O6 (c1 (show(B6 (0:Int) 3) from(by decide))) (tW q TG O6 Xn O6 (tL q h Xn O6 (λu (i9,l10,i11,l12,i13,l14,l15)=>(Fo u [(32,(Z7 i9))] (JI l10 i11 l12 i13 l14 l15 l15.length))) (λu x_=>match x_ with|(.inl (l16,i17,l18,i19,l20,l21))=>aG Γ (.exit 2) (Xt U4 Fa u [] (JI l16 i17 l18 i19 l20 l21 l21.length))|(.inr (l22,i23,l24,i25,l26,l27))=>aG Γ (.goto 0) (Xt [4] Fa u [] (JI l22 i23 l24 i25 l26 l27 l27.length))) (λ⟨i9,l10,i11,l12,i13,l14,l15⟩ y h=>Ap q dJ O6 (gC h (λh=>tV q dL dN h λh=>tB h λx29 y29 h=>tT q dK O6 [(lm x29.1 x29.2.1.Params x29.2.1.Ret x29.2.1.Blocks x29.2.2.1 x29.2.2.2.1 x29.2.2.2.2 x29.2.2.2.2.length (jt v25))] (c1 (O1 y29)) (gC h (λh=>tS h (gO (Ea (Dv [4] Fa q)))) λh=>Ap q Xn O6 (tN h))) λh=>tS h (gO (Ea (Dv U4 Fa q))))) λx30 h=>(match x30,h with | .inl ⟨l16,i17,l18,i19,l20,l21⟩,h=>gA (tW q U4 Fa VS Fa (WX true (tU q TM O6 (c1 (show(B6 (1:Int) 3) from(by decide))) (tW q TG O6 Xn O6 (tL q h Xn O6 (λu (i32,l33,i34,l35,i36,l37,l38)=>(Fo u [(32,(Z7 i32))] (JI l33 i34 l35 i36 l37 l38 l38.length))) (λu x_=>match x_ with|(.inl (l39,i40,l41,i42,l43,l44))=>aG Γ (.exit 2) (Xt U4 Fa u [] (JI l39 i40 l41 i42 l43 l44 l44.length))|(.inr (l45,i46,l47,i48,l49,l50))=>aG Γ (.goto 0) (Xt [4] Fa u [] (JI l45 i46 l47 i48 l49 l50 l50.length))) (λ⟨i32,l33,i34,l35,i36,l37,l38⟩ y h=>Ap q dJ O6 (gC h (λh=>tV q dL dN h λh=>tB h λx52 y52 h=>tT q dK O6 [(lm x52.1 x52.2.1.Params x52.2.1.Ret x52.2.1.Blocks x52.2.2.1 x52.2.2.2.1 x52.2.2.2.2 x52.2.2.2.2.length (jt v25))] (c1 (Ru y52)) (gC h (λh=>tS h (gO (Ea (Dv [4] Fa q)))) λh=>Ap q Xn O6 (tN h))) λh=>tS h (gO (Ea (Dv U4 Fa q))))) λx53 h=>(match x53,h with | .inl ⟨l39,i40,l41,i42,l43,l44⟩,h=>gA (tW q U4 Fa VS Fa (WX true (tU q TM O6 (c1 (show(B6 (2:Int) 3) from(by decide))) (tW q TG O6 Xn O6 (tL q h Xn O6 (λu (i55,l56,i57,l58,i59,l60,l61)=>(Fo u [(32,(Z7 i55))] (JI l56 i57 l58 i59 l60 l61 l61.length))) (λu x_=>match x_ with|(.inl (l62,i63,l64,i65,l66,l67))=>aG Γ (.exit 2) (Xt U4 Fa u [] (JI l62 i63 l64 i65 l66 l67 l67.length))|(.inr (l68,i69,l70,i71,l72,l73))=>aG Γ (.goto 0) (Xt [4] Fa u [] (JI l68 i69 l70 i71 l72 l73 l73.length))) (λ⟨i55,l56,i57,l58,i59,l60,l61⟩ y h=>Ap q dJ O6 (gC h (λh=>tV q dL dN h λh=>tB h λx75 y75 h=>tT q dK O6 [(lm x75.1 x75.2.1.Params x75.2.1.Ret x75.2.1.Blocks x75.2.2.1 x75.2.2.2.1 x75.2.2.2.2 x75.2.2.2.2.length (jt v25))] (c1 (O0 y75)) (gC h (λh=>tS h (gO (Ea (Dv [4] Fa q)))) λh=>Ap q Xn O6 (tN h))) λh=>tS h (gO (Ea (Dv U4 Fa q))))) λx76 h=>(match x76,h with | .inl ⟨l62,i63,l64,i65,l66,l67⟩,h=>gA (tW q U4 Fa VS Fa (WX false (Ap q [2] Fa (tS h (gY (R3 (K0 Ug (Le.refl _ _)))))))) | .inr ⟨l68,i69,l70,i71,l72,l73⟩,h=>gX (λst' hl78=>tS h (eZ (Le.trans hl78 Ns))))))))) | .inr ⟨l45,i46,l47,i48,l49,l50⟩,h=>gX (λst' hl79=>tS h (eZ (Le.trans hl79 Ns))))))))) | .inr ⟨l22,i23,l24,i25,l26,l27⟩,h=>gX (λst' hl80=>tS h (eZ (Le.trans hl80 Ns))))))))))))) (λ⟨i1,l2,i3,l4,i5,l6,l7⟩ y h=>Ap q [2] Fa (tS h (gY (R3 (K0 Ug (Le.refl _ _)))))) (Vx (λst' hk=>tS h (gK hk))))
def ju:=(λ(v_:Aj)=>((O9 v_):AV))
def mR(x1:YG):List SZ:=(Z3 x1.2.1.Params x1.2.1.Ret x1.2.1.Blocks x1.2.2.1 x1.2.2.2.1 x1.2.2.2.2 x1.2.2.2.2.length)
def mS(x2:YG):List SZ:=(Z3 x2.2.1.Params x2.2.1.Ret x2.2.1.Blocks x2.2.2.1 x2.2.2.2.1 x2.2.2.2.2 x2.2.2.2.2.length)
def mT(x3:YG):List SZ:=(Z3 x3.2.1.Params x3.2.1.Ret x3.2.1.Blocks x3.2.2.1 x3.2.2.2.1 x3.2.2.2.2 x3.2.2.2.2.length)
def F3(a0:Ab)(a5:Int)(a9:A3)(a6:List A6):Option TB:=
 ((Gi a0 a5 a9 a6).bind λx1=>(bif (x1.1 !=0) then(some (x1.1,x1.2.1,x1.2.2.1,x1.2.2.2.1,x1.2.2.2.2,([]:List Jg))) else((Fi x1.2.1 x1.2.2.1 x1.2.2.2.1 x1.2.2.2.2).bind λx2=>(bif (x2.1 !=0) then(some (x2.1,x2.2.1,x2.2.2.1,x2.2.2.2.1,x2.2.2.2.2,([]:List Jg))) else((F2 x2.2.1 x2.2.2.1 x2.2.2.2.1 x2.2.2.2.2).bind λx3=>(bif (x3.1 !=0) then(some (x3.1,x3.2.1,x3.2.2.1,x3.2.2.2.1,x3.2.2.2.2,([]:List Jg))) else((Ez x3.2.1 x3.2.2.1 x3.2.2.2.1 x3.2.2.2.2).bind λx4=>(bif (x4.1 !=0) then(some (x4.1,x4.2.1,x4.2.2.1,x4.2.2.2.1,x4.2.2.2.2.1,x4.2.2.2.2.2)) else((Gj x4.2.1 x4.2.2.1 x4.2.2.2.1 x4.2.2.2.2.2 x4.2.2.2.2.1).bind λx5=>(bif (x5.1 !=0) then(some (x5.1,x5.2.1,x5.2.2.1,x5.2.2.2.1,x5.2.2.2.2,x4.2.2.2.2.2)) else(some ((0:Int),x5.2.1,x5.2.2.1,x5.2.2.2.1,x5.2.2.2.2,x4.2.2.2.2.2))))))))))))
theorem Qp(h:F3 v0 v1 v2 v12=some v27):sP 56 [Xr] (Z3 v0.Params v0.Ret v0.Blocks v1 v2 v12 v12.length) (Z7 v27.1) [(Z1 v27.2.1.Params v27.2.1.Ret v27.2.1.Blocks v27.2.2.1 v27.2.2.2.1 9200005 v27.2.2.2.2.1),(Z8 v27.2.2.2.2.1.length),(9200005,.obj (.map false .i64 (mapE (λ(v_:Aj)=>((O9 v_):AV)) v27.2.2.2.2.2)))]:=
 sG Tryz.func56 λΓ q=>tW q [0] Fe [3] PS (Ap q Y5 Fe (gU 5 (Ap q IV Fe (WX true (tU q PY Fe (c1 (show(B6 (0:Int) 5) from(by decide))) (tB h λx1 y1 h=>tT q PZ Fe [(lq x1.1 (mR x1))] (c1 (Rv y1)) (Ap q PX Fe (gC h (λh=>Ap q [2] Fe (Tn (⟨[(2,(Z7 x1.1))],(mR x1),[]⟩:St) (tS h (gK (e:=.ret) (K0 dI (Le.trans (Qe (r:=30000) (j:=5) (nm:=9300005) .i64 rfl rfl (nl rfl) rfl) (Dv (st':=⟨[(2,(Z7 x1.1))],[(Z1 x1.2.1.Params x1.2.1.Ret x1.2.1.Blocks x1.2.2.1 x1.2.2.2.1 9300005 x1.2.2.2.2),(Z8 x1.2.2.2.2.length),(9300005,.obj (.map false .i64 (mapE ju ([]:List Jg))))],[]⟩) [2] dQ q))))))) λh=>tW q Y5 Fe IV Fe (WX true (tU q PY Fe (c1 (show(B6 (1:Int) 5) from(by decide))) (tB h λx2 y2 h=>tT q PZ Fe [(lq x2.1 (mS x2))] (c1 (Pg y2)) (Ap q PX Fe (gC h (λh=>Ap q [2] Fe (Tn (⟨[(2,(Z7 x2.1))],(mS x2),[]⟩:St) (tS h (gK (e:=.ret) (K0 dI (Le.trans (Qe (r:=30000) (j:=5) (nm:=9300005) .i64 rfl rfl (nl rfl) rfl) (Dv (st':=⟨[(2,(Z7 x2.1))],[(Z1 x2.2.1.Params x2.2.1.Ret x2.2.1.Blocks x2.2.2.1 x2.2.2.2.1 9300005 x2.2.2.2.2),(Z8 x2.2.2.2.2.length),(9300005,.obj (.map false .i64 (mapE ju ([]:List Jg))))],[]⟩) [2] dQ q))))))) λh=>tW q Y5 Fe IV Fe (WX true (tU q PY Fe (c1 (show(B6 (2:Int) 5) from(by decide))) (tB h λx3 y3 h=>tT q PZ Fe [(lq x3.1 (mT x3))] (c1 (Qo y3)) (Ap q PX Fe (gC h (λh=>Ap q [2] Fe (Tn (⟨[(2,(Z7 x3.1))],(mT x3),[]⟩:St) (tS h (gK (e:=.ret) (K0 dI (Le.trans (Qe (r:=30000) (j:=5) (nm:=9300005) .i64 rfl rfl (nl rfl) rfl) (Dv (st':=⟨[(2,(Z7 x3.1))],[(Z1 x3.2.1.Params x3.2.1.Ret x3.2.1.Blocks x3.2.2.1 x3.2.2.2.1 9300005 x3.2.2.2.2),(Z8 x3.2.2.2.2.length),(9300005,.obj (.map false .i64 (mapE ju ([]:List Jg))))],[]⟩) [2] dQ q))))))) λh=>tW q Y5 Fe IV Fe (WX true (tU q PY Fe (c1 (show(B6 (3:Int) 5) from(by decide))) (tB h λx4 y4 h=>tT q PZ Rn [⟨AP,[(9200005,13000005)],(Z7 x4.1),[(Z1 x4.2.1.Params x4.2.1.Ret x4.2.1.Blocks x4.2.2.1 x4.2.2.2.1 9200005 x4.2.2.2.2.1),(Z8 x4.2.2.2.2.1.length),(9200005,.obj (.map false .i64 (mapE ju x4.2.2.2.2.2)))],[],[]⟩] (c1 (Oz y4)) (Ap q PX Rn (gC h (λh=>Ap q [2] Rn (tS h (C1 dH))) λh=>tW q Y5 Rn IV Rn (WX true (tU q PY Rn (c1 (show(B6 (4:Int) 5) from(by decide))) (tB h λx5 y5 h=>tT q PZ Rn [⟨[(30000,30000),(37006,37006),(13000005,9100005)],[],(Z7 x5.1),[(Z1 x5.2.1.Params x5.2.1.Ret x5.2.1.Blocks x5.2.2.1 x5.2.2.2.1 9100005 x5.2.2.2.2),(Z8 x5.2.2.2.2.length),(9100005,.obj (.map false .i64 (mapE ju x4.2.2.2.2.2)))],[],[]⟩] (c1 (Rw y5)) (Ap q PX Rn (gC h (λh=>Ap q [2] Rn (tS h (C1 dH))) λh=>tW q Y5 Rn IV Rn (WX false (Ap q [2] Rn (tS h (C1 dH))))))))))))))))))))))))))))))))
end
end Go.Proofs.YtiendmljhgbjoaaGreat
