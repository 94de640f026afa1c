/-
  The machine, the program's functions and the laws' arithmetic: part 3 of 5.
-/
import Derived.Test.YtiendmljhgbjoaaGreatPk2
import Derived.BigCall
import Derived.Lib.RowBridge
import Derived.Shelf.Slices.Clone
import Derived.Shelf.Slices.CompactI
import Derived.Shelf.Slices.In.SortNone
import Derived.Shelf.Sort.Plain
import Derived.Sort.OwnSortedInts
import Derived.Test.YtiendmljhgbjoaaGreatProg
set_option linter.unusedSectionVars false
set_option linter.unusedVariables false
set_option linter.unusedSimpArgs false
namespace Go.Proofs.YtiendmljhgbjoaaGreat
noncomputable section
open Go Go.RowKit
section
variable {P:Program} {Γ:G5} {σ:Sto} {I:Nat->Nat->Prop} {θ:Nat->Option (Nat×Nat)} {a:Act} {w:World} {o:Oper}
theorem QH{g bm since:Nat}{seen:Array Nat}{es:Array MapEntry}(hg:w.heap[g]?=some (.mapIter (some bm) since seen since))(hb:w.heap[bm]?=some (.map es since))(hold:∀ x∈es.toList,x.born<since)(ty:TypeId) :
  ((∀ e∈es.toList,e.born∈seen.toList)/\(Instr.next (.pointer (some ⟨g,0,none⟩)) false ty).run P w = .ok (.tuple #[.bool false]) w) \/
  ∃ e∈es.toList,e.born∉seen.toList/\((Instr.next (.pointer (some ⟨g,0,none⟩)) false ty).run P w = .ok (.tuple #[.bool true,e.key,e.val]) (On w g (.mapIter (some bm) since (seen.push e.born) since)) \/
   (Instr.next (.pointer (some ⟨g,0,none⟩)) false ty).run P w = .ok (.tuple #[.bool true,e.key,e.val]) (On w.drew g (.mapIter (some bm) since (seen.push e.born) since))):=by
 simp only[Instr.next,getObj,C0,Sem.run,hg,hb,Result.andThen,next_test_false seen es since since hold (zzL8 _),X8,E2]
 have hmem:∀ x∈(Array.filter (λe=>!seen.contains e.born) es).toList,x∈es.toList/\x.born∉seen.toList:=λx hx=>by
  simp only[Array.toList_filter,zzL66,Pe,Array.contains_eq_mem,JV]at hx;exact⟨hx.1,by simpa using hx.2⟩
 have hall:(Array.filter (λe=>!seen.contains e.born) es).size=0->∀ e∈es.toList,e.born∈seen.toList:=λh0 e he=>by
  by_cases hc:e.born∈seen.toList
  ·exact hc
  ·have:e∈(Array.filter (λe=>!seen.contains e.born) es).toList:=by
    simp only[Array.toList_filter,zzL66,Pe,Array.contains_eq_mem,JV];exact⟨he,by simpa using hc⟩
   have h1:0<(Array.filter (λe=>!seen.contains e.born) es).toList.length:=List.length_pos_of_mem this;rw[Zq]at h1;omega
 generalize Array.filter (λe=>!seen.contains e.born) es=L at hmem hall ⊢
 have e1:L.filter (λx=>decide (x.born<since))=L:=Array.filter_eq_self.2 (λx hx=>by simpa using hold x (hmem x (by simpa using hx)).1)
 have e2:L.filter (λx=>decide (x.born>=since)) = #[]:=by
  rw[Array.filter_eq_empty_iff];intro x hx;have:=hold x (hmem x (by simpa using hx)).1
  simp
  omega
 simp only[e1,e2,Array.append_empty]
 by_cases h0:L.size=0
 ·left
  have:L = #[]:=Array.eq_empty_of_size_eq_zero h0;subst this;refine⟨hall rfl,?_⟩;simp[choose,Sem.run,Question.forced]
 ·right
  have hne:L.isEmpty=false:=by simp[Array.isEmpty,h0]
  simp only[hne,X8,E2,Array.empty_append,Array.size_map];have hgl:g<w.heap.size:=(Array.getElem?_eq_some_iff.1 hg).1
  have hch:∃(j:Nat) (w1:World),j<L.size/\(w1=w\/w1=w.drew)/\(choose (Question.mapNext L.size)).run P w = .ok j w1:=by
   by_cases hf:L.size<=1
   ·exact⟨0,w,by omega,.inl rfl,by simp[choose,Sem.run,Question.forced,hf]⟩
   ·exact⟨_,w.drew,Nat.mod_lt _ (by omega),.inr rfl,by
     simp only[choose,Sem.run,Question.forced,Ds,hf,E2,Question.cut]
     rfl⟩
  obtain⟨j,w1,hj,hw,hrun⟩:=hch
  have hLj:L[j]∈L.toList:=by simp
  refine⟨L[j],(hmem _ hLj).1,(hmem _ hLj).2,?_⟩
  have hset:∀ o',(setObj g o').run P w1 = .ok () (On w1 g o'):=λo'=>by
   have hh:w1.heap[g]?=some (.mapIter (some bm) since seen since):=by rcases hw with rfl|rfl<;>exact hg
   simp[setObj,Sem.run,hh,On]
  simp only[hrun,Array.getElem?_map,Array.getElem?_eq_getElem hj,Wq,C0,hset,Result.andThen];rcases hw with rfl|rfl
  ·exact .inl rfl
  ·exact .inr rfl
theorem dS(h:Rel Γ σ I θ a w)(hd:∀ d,o.dst=some d->d<Γ.n){x:Operand}(ho:o.op = .next x false){nm mm n:Nat}{s:List Nat}{nn:Bool}{k:IntKind}{l:List (Int×AV)}(hx:Rep I σ.own θ w (a.eval x) (.optr nm mm))
  (hit:σ.own nm=some (.obj (.miter (.omap mm) n s))) (hown:σ.own mm=some (.obj (.map nn k l))) (hn:n=l.length) (K:Act->World->Prop) (Q:Exit->Act->World->Prop)
  (hdone:(∀ i,i<n->i∈s)->∀ I' θ' a' w',Rel Γ (σ.upd o.dst (.tuple [.bool false]) []) I' θ' a' w'->K a' w')
  (hmore:∀ i,i<n->i∉s->∀ I' θ' a' w',Rel Γ (σ.upd o.dst (.tuple [.bool true,.int k (l.getD i (0,.any)).1,(l.getD i (0,.any)).2]) [(nm,.obj (.miter (.omap mm) n (i::s)))]) I' θ' a' w'->K a' w'):o.wp P a w K Q:=by
 obtain⟨_,g,c,ho',hg,hv⟩:=hx.optr_inv
 obtain⟨ob,h2,h3⟩:∃ ob,w.heap[g]?=some ob/\ObjR I σ.own θ w ob (.miter (.omap mm) n s):=by
  rcases h.chg.rel.obj nm _ hit with⟨g',c',ob,h1,h2,h3,h4⟩|⟨h1,_⟩
  ·rw[hg]at h1;simp only[Af,In]at h1;obtain⟨rfl,rfl⟩:=h1;exact⟨ob,h2,h3⟩
  ·rw[hg]at h1;cases h1
 obtain⟨r,cc,seen,rfl,hseen,rfl,hr⟩:=IX h3;obtain⟨_,_,hxm⟩:=hr.omap_inv;simp only[Value.map.injEq]at hxm
 have hfalse:∀(hrun:(execOp a.eval o).run P w = .ok (.value (.tuple #[.bool false])) w),(∀ i,i<cc->i∈s)->o.wp P a w K Q:=λhrun hall=>
  Ak (x:=.tuple [.bool false]) h hd hrun (.tuple _ _ rfl (λj hj=>by
   obtain rfl:j=0:=by simp at hj;omega
   exact .val _ _ (.bool _))) K Q (hdone hall)
 rcases map_at h hown with⟨gm,c',es',h4,h5,h6⟩|⟨h4,_,h7⟩
 ·rw[h4]at hxm;obtain rfl:r=some gm:=hxm;obtain⟨hlen,hent⟩:=Us l es'.toList 0 h6
  have hmem:∀ e∈es'.toList,∃ i,i<l.length/\es'.toList[i]?=some e/\e.born=i/\e.key = .int k (l.getD i (0,.any)).1/\KQ I w e.val (l.getD i (0,.any)).2:=λe he=>by
   obtain⟨i,hi,rfl⟩:=List.mem_iff_getElem.1 he;obtain⟨v,e1,e2⟩:=hent i (by omega);rw[Nb hi]at e1;have e3:=OI e1;exact⟨i,by omega,Nb hi,by rw[e3];simp,by rw[e3],by rw[e3];exact e2⟩
  rw[<- hn]at h5;have hnx:=QH (P:=P) h2 h5 (λe he=>by obtain⟨i,hi,_,hb,_⟩:=hmem e he;omega) (ty:=0);have hty:∀ ty,Instr.next (.pointer (some ⟨g,0,none⟩)) false ty=Instr.next (.pointer (some ⟨g,0,none⟩)) false 0:=λ_=>rfl;rcases hnx with⟨hall,hrun⟩|⟨e,he,hns,hrun⟩
  ·refine hfalse ?_ (λi hi=>?_)
   ·simp only[execOp,ho,hv,hty];simp[hrun]
   ·obtain⟨v,e1,e2⟩:=hent i (by omega);have:=hall _ (List.mem_of_getElem? e1);rw[<- hseen,zzL98]
    simpa using this
  ·obtain⟨i,hi,_,hb,hkey,hval⟩:=hmem e he
   have his:i∉s:=by rw[<- hseen,zzL98,<- hb];exact hns
   have hrev:(seen.push e.born).toList.reverse=i::s:=by rw[Array.toList_push,List.reverse_append,hseen,hb];rfl
   have step:∀ w1:World,Rel Γ σ I θ a w1->w1.heap=w.heap->(execOp a.eval o).run P w = .ok (.value (.tuple #[.bool true,e.key,e.val])) (On w1 g (.mapIter (some gm) cc (seen.push e.born) cc))->o.wp P a w K Q:=λw1 hr1 hh hrun=>by
    have hcell:∀ b j,I b j->w1.cell? ⟨b,j,none⟩=w.cell? ⟨b,j,none⟩:=λb j _=>by simp only[World.cell?,hh]
    have hr':Rep I σ.own θ w1 (.map (some gm)) (.omap mm):=hr.mono (λ_ _ h=>h) hcell (λ_ o ho=>⟨o,ho,.refl _ _⟩)
    have hc:ObjR I σ.own θ w1 (.mapIter (some gm) cc (seen.push e.born) cc) (.miter (.omap mm) cc (i::s)):=by
     have:=ObjR.miter (I:=I) (own:=σ.own) (θ:=θ) (w:=w1) (some gm) (.omap mm) cc cc (seen.push e.born) rfl hr';rwa[hrev]at this
    have kc:=Nv hr1.chg.rel hr1.chg.valid hit hg hc;have hval':RepV I (On w1 g (.mapIter (some gm) cc (seen.push e.born) cc)) e.val (l.getD i (0,.any)).2:=hval.1.mono (λ_ _ h=>h) (λb j hj=>by rw[kc.cell b j hj,hcell b j hj])
    have k2:Chg σ.own θ I w1 (σ.upd o.dst (.tuple [.bool true,.int k (l.getD i (0,.any)).1,(l.getD i (0,.any)).2]) [(nm,.obj (.miter (.omap mm) cc (i::s)))]).own θ I (On w1 g (.mapIter (some gm) cc (seen.push e.born) cc)):=by rw[Bj];exact kc
    have hput:=Uv (v:=.tuple #[.bool true,e.key,e.val]) (x:=.tuple [.bool true,.int k (l.getD i (0,.any)).1,(l.getD i (0,.any)).2]) hr1 k2 (.tuple _ _ rfl (λj hj=>by
     have hj:j=0\/j=1\/j=2:=by simp at hj;omega
     rcases hj with rfl|rfl|rfl
     ·exact .val _ _ (.bool _)
     ·rw[show(#[Value.bool true,e.key,e.val].getD 1 Go.undef)=e.key from rfl,hkey];exact .val _ _ (.int _ _)
     ·exact .val _ _ hval')) hd
    unfold Oper.wp;rw[hrun];exact hmore i (by omega) his _ _ _ _ hput
   rcases hrun with hrun|hrun
   ·refine step w h rfl ?_;simp only[execOp,ho,hv,hty];simp[hrun]
   ·refine step w.drew (PZ h) rfl ?_;simp only[execOp,ho,hv,hty];simp[hrun]
 ·rw[h4]at hxm;obtain rfl:r=none:=hxm;subst h7;refine hfalse ?_ (λi hi=>by simp at hn;omega);simp only[execOp,ho,hv];simp[Instr.next,getObj,Sem.run,h2]
theorem YG{id:Nat}{o1 o2:Oper}{K:Exit->St->Prop}{st:St}{n:Nat}{H:List (Nat×Own)}{x t b nm mm len:Nat}{s:List Nat}{nn:Bool}{k:IntKind}{l:List (Int×AV)}(q:RgQ P Γ n H)(live names:List Nat)
  (h1:o1.op = .next (.tmp x) false) (d1:o1.dst=some t) (g1:o1.guard=none) (h2:o2.op = .extract (.tmp t) 0) (d2:o2.dst=some b) (g2:o2.guard=none) (hb:(Nat.blt t n&&(Nat.blt b n&&(Nat.blt nm A7&&Nat.blt mm A7)))=true)
  (hx:st.get x = .optr nm mm) (hit:Ac st.own nm=some (.obj (.miter (.omap mm) len s))) (hm:Ac st.own mm=some (.obj (.map nn k l))) (hlen:len=l.length) (hh:(H.all λx=>Bl x.1 names)=true)
  (hdone:(∀ i,i<len->i∈s)->K .normal (A1 live names ((st.upd (some t) (.tuple [.bool false]) []).upd (some b) (.bool false) [])))
  (hmore:∀ i,i<len->i∉s->K .normal (A1 live names ((st.upd (some t) (.tuple [.bool true,.int k (l.getD i (0,.any)).1,(l.getD i (0,.any)).2]) [(nm,.obj (.miter (.omap mm) len (i::s)))]).upd (some b) (.bool true) []))):Si P Γ (.region id #[o1,o2] false) K st:=by
 simp only[A3,G4]at hb;obtain⟨b1,b2,b3,b4⟩:=hb;intro I θ a w hrel;refine wp_region ?_;have hget:∀ t,Rep I st.sto.own θ w (a.tmps.getD t undef) (st.get t):=hrel.slots
 have w1:∀ tm,Region.wanted o1 tm=true:=λtm=>by simp[Region.wanted,g1]
 have w2:∀ tm,Region.wanted o2 tm=true:=λtm=>by simp[Region.wanted,g2]
 have hl:(List.range (#[o1,o2]:Array Oper).size)=[0,1]:=rfl;have hsec:∀(st2:St) (vb:Bool) (r:List AV) (I':Nat->Nat->Prop) (θ':Nat->Option (Nat×Nat)) (a':Act) (w':World),st2.get t = .tuple (.bool vb::r)->Rel Γ st2.sto I' θ' a' w'->K .normal (A1 live names (st2.upd (some b) (.bool vb) []))->
   wpOps P #[o1,o2] (λe a' w'=>∃ st' I' θ',K e st'/\Rel Γ st'.sto I' θ' a' w') [1] a' w':=λst2 vb r I' θ' a' w' hgt hr hK=>by
  rw[wpOps_cons]
  show wpOp P #[o1,o2] _ 1 _ a' w'
  unfold wpOp;simp only[show(#[o1,o2]:Array Oper)[1]?=some o2 from rfl,w2,Hp];refine .inl ?_;have ht:=hr.slots t;rw[show st2.sto.tmp t=st2.get t from rfl,hgt]at ht;obtain⟨vs,hv,hsz,hvr⟩:=ht.tuple_inv;have h0:=hvr 0 (by simp);have h0':vs.getD 0 Go.undef = .bool vb:=Rep.bool_inv h0
  have hpos:0<vs.size:=by rw[hsz];simp
  refine Ak hr (λd hd=>?_) (v:=.bool vb) (x:=.bool vb) ?_ (.val _ _ (.bool _)) _ _ (λI2 θ2 a2 w2 h2=>?_)
  ·rw[d2]at hd;obtain rfl:=OI hd;rw[q.hn];exact b2
  ·simp only[execOp,h2,Act.eval];rw[hv]
   have:vs[0]?=some (.bool vb):=by
    rw[Mp,Array.getElem?_eq_getElem hpos,Zr]at h0';rw[Array.getElem?_eq_getElem hpos,h0']
   simp[Instr.extract,this]
  ·refine⟨_,I2,θ2,hK,Rr ?_ (q.hand hh)⟩;rw[CV (ns:=[]) st2 (some b) (.bool vb) [] rfl];rw[d2]at h2;exact h2
 rw[hl,wpOps_cons];unfold wpOp;simp only[show(#[o1,o2]:Array Oper)[0]?=some o1 from rfl,w1,Hp];refine .inl ?_;have hxr:=hget x;rw[hx]at hxr;refine dS hrel (λd hd=>?_) h1 (nm:=nm) (mm:=mm) (n:=len) (s:=s) (nn:=nn) (k:=k) (l:=l) hxr ((A0 b3).trans hit) ((A0 b4).trans hm) hlen _ _ (λhall I' θ' a' w' hr=>?_) (λi hi hni I' θ' a' w' hr=>?_)
 ·rw[d1]at hd;obtain rfl:=OI hd;rw[q.hn];exact b1
 ·rw[d1,<- CV (ns:=[]) st (some t) (.tuple [.bool false]) [] rfl]at hr;refine hsec _ false [] I' θ' a' w' ?_ hr (hdone hall);simp[St.get,St.upd,El]
 ·rw[d1,<- CV (ns:=[nm]) st (some t) _ [(nm,.obj (.miter (.omap mm) len (i::s)))] (by simp[Rh,b3])]at hr;refine hsec _ true [.int k (l.getD i (0,.any)).1,(l.getD i (0,.any)).2] I' θ' a' w' ?_ hr (hmore i hi hni);simp[St.get,St.upd,El]
end
def Tl{S X:Type}(f:Nat->S->Option (LR S X))(g:S->Option (LR S X)):List Nat->S->Option X
 | [],s=>match g s with|some (.done x)=>some x|_=>none
 | i::l,s=>match f i s with|some (.next s')=>Tl f g l s'|some (.done x)=>some x|none=>none
open Classical in
open Classical in
def Wh{S X:Type}(eqv:X->X->Prop)(n:Nat)(f:Nat->S->Option (LR S X))(g:S->Option (LR S X))(s:S):Option X:=
 if h:∃ x,∀ τ:List Nat,τ.Perm (List.range n)->∃ x',Tl f g τ s=some x'/\eqv x' x then some (Classical.choose h) else none
theorem AW{S X:Type}{eqv:X->X->Prop}{n:Nat}{f:Nat->S->Option (LR S X)}{g:S->Option (LR S X)}{s:S}{x:X}(h:Wh eqv n f g s=some x):∀ τ:List Nat,τ.Perm (List.range n)->∃ x',Tl f g τ s=some x'/\eqv x' x:=by
 unfold Wh at h
 split at h
 ·rename_i h0
  obtain rfl:=OI h;exact Classical.choose_spec h0
 ·cases h
theorem ZU{S X:Type}{eqv:X->X->Prop}{n:Nat}{f:Nat->S->Option (LR S X)}{g:S->Option (LR S X)}{s:S}(h:∃ x,∀ τ:List Nat,τ.Perm (List.range n)->∃ x',Tl f g τ s=some x'/\eqv x' x):∃ x,Wh eqv n f g s=some x:=by
 unfold Wh;rw[dif_pos h];exact⟨_,rfl⟩
theorem FD{α:Type}[DecidableEq α]{a b:List α}(ha:a.Nodup)(hb:b.Nodup)(h:∀ x,x∈a↔x∈b):a.Perm b:=by
 refine List.perm_iff_count.2 λx=>?_;rw[ha.count,hb.count];simp only[h x]
section
variable {P:Program} {Γ:G5}
theorem NO{S X:Type}{body:Code}(Q:X->Prop)(n:Nat)(H:List Nat->S->St)(f:Nat->S->Option (LR S X))(g:S->Option (LR S X))(KX:X->Exit->St->Prop){K:Exit->St->Prop}
  (hb:∀(z:List Nat) (s:S),((∀ i,i<n->i∈z)->∃ y,g s=some y)->(∀ i,i<n->i∉z->∃ y,f i s=some y)->
   Si P Γ body (λe st=>(∃ y,g s=some y/\M0 Γ (H z) KX y e st/\∀ i,i<n->i∈z)\/∃ i y,f i s=some y/\M0 Γ (H (i::z)) KX y e st/\i<n/\i∉z) (H z s))
  {s:S} (hr:∀ τ:List Nat,τ.Perm (List.range n)->∃ x,Tl f g τ s=some x/\Q x) (hK:∀ x,Q x->∀ e st',KX x e st'->K e st'):Si P Γ (.loop body) K (H [] s):=by
 intro I θ a w hrel;refine Zl (λm a w=>∃ z s I θ,m=n-z.length/\z.Nodup/\(∀ i∈z,i<n)/\(∀ τ:List Nat,(z++τ).Perm (List.range n)->∃ x,Tl f g τ s=some x/\Q x)/\Rel Γ (H z s).sto I θ a w) (λm a w ⟨z,s,I,θ,hm,hz,hzn,hruns,hrel⟩=>?_) (n:=n-0) ⟨[],s,I,θ,rfl,List.nodup_nil,(λi hi=>by cases hi),(λτ hτ=>hr τ hτ),hrel⟩
 have hall:(∀ i,i<n->i∈z)->(z++[]).Perm (List.range n):=λh=>by
  rw[List.append_nil]
  exact FD hz List.nodup_range λi=>by rw[zzL41];exact⟨hzn i,h i⟩
 have hone:∀ i,i<n->i∉z->∃ τ,(z++i::τ).Perm (List.range n):=λi hi hni=>by
  refine⟨(List.range n).filter λj=>decide (j∉i::z),FD ?_ List.nodup_range λj=>?_⟩
  ·refine List.nodup_append.2 ⟨hz,zzL76.2 ⟨by simp,List.nodup_range.filter _⟩,λp hp q hq hpq=>?_⟩;subst hpq;rcases zzL22.1 hq with rfl|hq
   ·exact hni hp
   ·have:=(zzL66.1 hq).2;simp at this;exact this.2 hp
  ·rw[zzL11,zzL22,zzL66,zzL41]
   constructor
   ·rintro(h|rfl|h)
    ·exact hzn j h
    ·exact hi
    ·exact h.1
   ·intro h
    by_cases h1:j∈z
    ·exact .inl h1
    ·by_cases h2:j=i
     ·exact .inr (.inl h2)
     ·exact .inr (.inr ⟨h,by simp[h1,h2]⟩)
 have hg:(∀ i,i<n->i∈z)->∃ y,g s=some y:=λh=>by
  obtain⟨x,this,_⟩:=hruns [] (hall h);unfold Tl at this
  cases hgs:g s with
  | none=>rw[hgs]at this;cases this
  | some y=>exact⟨y,rfl⟩
 have hf:∀ i,i<n->i∉z->∃ y,f i s=some y:=λi hi hni=>by
  obtain⟨τ,hτ⟩:=hone i hi hni;obtain⟨x,this,_⟩:=hruns _ hτ;unfold Tl at this
  cases hfs:f i s with
  | none=>rw[hfs]at this;cases this
  | some y=>exact⟨y,rfl⟩
 refine M4 (hb z s hg hf I θ a w hrel) λe a' w' ⟨st',I',θ',h1,h2⟩=>?_;rcases h1 with⟨y,hgs,hk,hal⟩|⟨i,y,hfs,hk,hi,hni⟩
 ·obtain⟨x,hx,hQ⟩:=hruns [] (hall hal);unfold Tl at hx;rw[hgs]at hx
  cases y with
  | next s'=>cases hx
  | done x'=>
   obtain rfl:=OI hx;obtain⟨hne,hkx⟩:=hk
   cases e with
   | normal=>exact(hne rfl).elim
   | _=>exact⟨st',I',θ',hK _ hQ _ _ hkx,h2⟩
 ·obtain⟨τ,hτ⟩:=hone i hi hni
  have hlen:z.length<n:=by
   have:=hτ.length_eq;rw[Fg,Pf,BE]at this;omega
  cases y with
  | next s'=>
   obtain⟨rfl,hle⟩:=hk;obtain⟨I'',θ'',h3⟩:=hle I' θ' a' w' h2;refine⟨n-(i::z).length,by simp only[Pf];omega,i::z,s',I'',θ'',rfl,zzL76.2 ⟨hni,hz⟩,?_,λρ hρ=>?_,h3⟩
   ·intro j hj;rcases zzL22.1 hj with rfl|hj
    ·exact hi
    ·exact hzn j hj
   ·obtain⟨x,this,hQ⟩:=hruns (i::ρ) (List.Perm.trans List.perm_middle hρ);unfold Tl at this;rw[hfs]at this;exact⟨x,this,hQ⟩
  | done x'=>
   obtain⟨x,hx,hQ⟩:=hruns _ hτ;unfold Tl at hx;rw[hfs]at hx;obtain rfl:=OI hx;obtain⟨hne,hkx⟩:=hk
   cases e with
   | normal=>exact(hne rfl).elim
   | _=>exact⟨st',I',θ',hK _ hQ _ _ hkx,h2⟩
end
theorem gi{V:Type}{f:V->AV}{l:List (Int×V)}{d:Int×V}{i:Nat}{k:IntKind}(h:i<(mapE f l).length):AVle (.tuple [.int k ((mapE f l).getD i (0,.any)).1,((mapE f l).getD i (0,.any)).2]) (.tuple [.int k (l.getD i d).1,f (l.getD i d).2]):=by
 have hl:i<l.length:=by simpa [mapE] using h
 have e:(mapE f l).getD i (0,.any)=((l.getD i d).1,f (l.getD i d).2):=by simp[mapE,List.getD,hl]
 rw[e];exact AVle.refl _
section
variable {P:Program} {Γ:G5}
def BZ(P:Program)(Γ:G5)(body:Code)(K:Exit->St->Prop):Nat->St->Prop
 | 0,_=>False
 | n+1,st=>Si P Γ body (λe st'=>(e = .normal/\BZ P Γ body K n st')\/(e≠.normal/\K e st')) st
theorem SL{body:Code}{K:Exit->St->Prop}{st:St}(n:Nat)(h:BZ P Γ body K n st):Si P Γ (.loop body) K st:=by
 intro I θ a w hrel;refine Zl (λm a w=>∃ st I θ,BZ P Γ body K m st/\Rel Γ st.sto I θ a w) (λm a w ⟨st,I,θ,hu,hrel⟩=>?_) (n:=n) ⟨st,I,θ,h,hrel⟩
 cases m with
 | zero=>exact hu.elim
 | succ m=>
  refine M4 (hu I θ a w hrel) λe a' w' ⟨st',I',θ',h1,h2⟩=>?_;rcases h1 with⟨rfl,h1⟩|⟨hne,h1⟩
  ·exact⟨m,Nat.lt_succ_self m,st',I',θ',h1,h2⟩
  ·cases e with
   | normal=>exact(hne rfl).elim
   | _=>exact⟨st',I',θ',h1,h2⟩
end
inductive fI where
 | nx (y:Code)
 | bl (id:Nat)
 | ag (c:Code) (n:Nat)
inductive Kh where
 | run (c:Code) (fs:List fI)
 | out (e:Exit) (fs:List fI)
def fE(P:Program)(Γ:G5)(K:Exit->St->Prop):List fI->Exit->St->Prop
 | []=>K
 | .nx y::fs=>jR P Γ y (fE P Γ K fs)
 | .bl id::fs=>Yo id (fE P Γ K fs)
 | .ag c n::fs=>λe st=>(e = .normal/\BZ P Γ c (fE P Γ K fs) n st)\/(e≠.normal/\fE P Γ K fs e st)
def GG(P:Program)(Γ:G5)(K:Exit->St->Prop):Kh->St->Prop
 | .run c fs,st=>Si P Γ c (fE P Γ K fs) st
 | .out e fs,st=>fE P Γ K fs e st
def S0:Code->Nat->Nat
 | .exit i,k=>bif Nat.beq i k then 1 else 0
 | .seq a b,k=>Nat.min 2 (S0 a k+S0 b k)
 | .cond _ a b,k=>Nat.min 2 (S0 a k+S0 b k)
 | .loop c,k=>Nat.min 1 (S0 c k)
 | .scope c,k=>Nat.min 1 (S0 c k)
 | .block _ c,k=>S0 c k
 | _,_=>0
def N3:Code->Nat
 | .region _ _ _=>1
 | .skip=>1
 | .label _=>1
 | .seq a b=>bif Nat.beq (N3 a) 0 then 0 else N3 b
 | .cond _ a b=>Nat.min 2 (N3 a+N3 b)
 | .block i c=>Nat.min 2 (N3 c+S0 c i)
 | .scope c=>Nat.min 2 (N3 c)
 | _=>0
def cp(a:Code):Bool:=match a with | .region _ _ _=>false|a=>Nat.ble 2 (N3 a)
def EL:Nat->Code ⊕ Exit->List fI->Kh
 | 0,.inl c,fs=>.run c fs
 | 0,.inr e,fs=>.out e fs
 | n+1,.inl c,fs=>
  match c with
  | .skip=>EL n (.inr .normal) fs
  | .label _=>EL n (.inr .normal) fs
  | .seq a b=>bif cp a then .run (.seq a b) fs else EL n (.inl a) (.nx b::fs)
  | .block id a=>EL n (.inl a) (.bl id::fs)
  | .exit id=>EL n (.inr (.exit id)) fs
  | .goto l=>EL n (.inr (.goto l)) fs
  | .ret=>EL n (.inr .ret) fs
  | c=>.run c fs
 | n+1,.inr e,fs=>
  match fs with
  | []=>.out e []
  | .nx y::fs=>(match e with | .normal=>EL n (.inl y) fs|e=>EL n (.inr e) fs)
  | .bl id::fs=>(match e with | .exit i=>bif Nat.beq i id then EL n (.inr .normal) fs else EL n (.inr (.exit i)) fs|e=>EL n (.inr e) fs)
  | .ag c m::fs=>(match e with | .normal=>(match m with|0=>.out .normal (.ag c 0::fs)|m+1=>EL n (.inl c) (.ag c m::fs))|e=>EL n (.inr e) fs)
section
variable {P:Program} {Γ:G5} {K:Exit->St->Prop}
theorem Bo:∀(n:Nat) (x:Code ⊕ Exit) (fs:List fI) (st:St),GG P Γ K (EL n x fs) st->(match x with | .inl c=>Si P Γ c (fE P Γ K fs) st | .inr e=>fE P Γ K fs e st)
 | 0,.inl c,fs,st,h=>h
 | 0,.inr e,fs,st,h=>h
 | n+1,.inl c,fs,st,h=>by
  cases c with
  | skip=>exact cA (Bo n _ fs st h)
  | label l=>exact YF (Bo n _ fs st h)
  | seq a b=>
   cases hj:cp a with
   | true=>simp only[EL,hj]at h;exact h
   | false=>simp only[EL,hj]at h;exact KY (Bo n (.inl a) _ st h)
  | block id a=>exact YE (Bo n (.inl a) _ st h)
  | exit id=>exact bw (Bo n _ fs st h)
  | goto l=>exact bz (Bo n _ fs st h)
  | ret=>exact fi (Bo n (.inr .ret) fs st h)
  | _=>exact h
 | n+1,.inr e,[],st,h=>h
 | n+1,.inr e,.nx y::fs,st,h=>by
  cases e with
  | normal=>exact Bo n (.inl y) fs st h
  | exit i=>exact Bo n _ fs st h
  | goto l=>exact Bo n _ fs st h
  | ret=>exact Bo n (.inr .ret) fs st h
  | panic c=>exact Bo n _ fs st h
  | outgrown=>exact Bo n _ fs st h
 | n+1,.inr e,.bl id::fs,st,h=>by
  cases e with
  | normal=>exact Bo n _ fs st h
  | exit i=>
   cases hb:Nat.beq i id with
   | true=>
    obtain rfl:=Bt hb;simp only[EL,hb]at h;exact SN (Bo n _ fs st h)
   | false=>
    simp only[EL,hb]at h;exact SM hb (Bo n _ fs st h)
  | goto l=>exact Bo n _ fs st h
  | ret=>exact Bo n (.inr .ret) fs st h
  | panic c=>exact Bo n _ fs st h
  | outgrown=>exact Bo n _ fs st h
 | n+1,.inr e,.ag c m::fs,st,h=>by
  cases e with
  | normal=>
   cases m with
   | zero=>exact h
   | succ m=>exact .inl ⟨rfl,Bo n (.inl c) _ st h⟩
  | exit i=>exact .inr ⟨(by intro hh;cases hh),Bo n _ fs st h⟩
  | goto l=>exact .inr ⟨(by intro hh;cases hh),Bo n _ fs st h⟩
  | ret=>exact .inr ⟨(by intro hh;cases hh),Bo n (.inr .ret) fs st h⟩
  | panic ch=>exact .inr ⟨(by intro hh;cases hh),Bo n _ fs st h⟩
  | outgrown=>exact .inr ⟨(by intro hh;cases hh),Bo n _ fs st h⟩
theorem H7{n:Nat}{c:Code}{fs:List fI}{st:St}(h:GG P Γ K (EL n (.inl c) fs) st):Si P Γ c (fE P Γ K fs) st:=Bo n _ fs st h
theorem Ta{n:Nat}{e:Exit}{fs:List fI}{st:St}(h:GG P Γ K (EL n (.inr e) fs) st):fE P Γ K fs e st:=Bo n _ fs st h
def gM(c:Code)(fs:List fI):Kh:=EL 400 (.inl c) fs
def nY(e:Exit)(fs:List fI):Kh:=EL 400 (.inr e) fs
def gt:Kh->Kh
 | .run _ fs=>nY .normal fs
 | x=>x
def g5:Kh->Option (List Oper×Bool)
 | .run (.region _ ops draw) _=>some (ops.toList,draw)
 | _=>none
def fD(P:Program)(S:Wx)(n:Nat)(cs:List (Nat×AV))(live names:List Nat)(x:Kh)(st:St)(rs:List Ss):Option (St×List Prop×Bool):=
 match g5 x with
 | some (ops,draw)=>CC P S n cs live names ops draw st rs
 | none=>none
def gu(P:Program)(S:Wx)(n:Nat)(cs:List (Nat×AV))(live names:List Nat)(x:Kh)(st:St)(rs:List Ss):St:=
 match fD P S n cs live names x st rs with
 | some r=>r.1
 | none=>st
def fF(r:Option (St×List Prop×Bool)):Option (Prop×Bool):=
 match r with
 | some r=>some (NW r.2.1,r.2.2)
 | none=>none
theorem gR{x:Kh}{st:St}{n:Nat}{H:List (Nat×Own)}(q:RgQ P Γ n H)(live names:List Nat)(cs:List (Nat×AV))(rs:List Ss){O:Prop}(hO:O)
  (k:GG P Γ K (gt x) (gu P (Spec P) n cs live names x st rs))
  (h:fF (fD P (Spec P) n cs live names x st rs)=some (O,true):=by kernel_rfl) (hh:(H.all λx=>Bl x.1 names)=true:=by kernel_rfl):GG P Γ K x st:=by
 unfold fD at h;unfold gu fD at k
 cases x with
 | out e fs=>simp[g5,fF]at h
 | run c fs=>
  cases c with
  | region id ops draw=>
   simp only[g5]at h k
   cases hr:CC P _ n cs _ _ _ _ st rs with
   | none=>rw[hr]at h;simp[fF]at h
   | some r=>
    obtain⟨st',obs,d⟩:=r;rw[hr]at h k;obtain⟨rfl,rfl⟩:=h;have:=SK (id:=id)  q.hn q.mix (q.hand hh) hr hO (Ta k);exact(by simpa using this:Si P Γ _ _ st)
  | _=>simp[g5,fF]at h
theorem Ao{x:Kh}{st:St}{n:Nat}{H:List (Nat×Own)}(q:RgQ P Γ n H)(live names:List Nat)
  (k:GG P Γ K (gt x) (gu P (Spec P) n [] live names x st []))
  (h:fF (fD P (Spec P) n [] live names x st [])=some (True,true):=by kernel_rfl) (hh:(H.all λx=>Bl x.1 names)=true:=by kernel_rfl):GG P Γ K x st:=gR q _ _ [] [] trivial k h hh
def jE:Kh->Bool | .run _ _=>true|_=>false
theorem J3{x:Kh}{st st':St}(h:Le Γ st st')
  (k:GG P Γ K x st')
  (hx:jE x=true:=by kernel_rfl):GG P Γ K x st:=by
 cases x with
 | run c fs=>exact SJ h k
 | out e fs=>cases hx
theorem Ul{x:Kh}{st:St}(st':St)
  (k:GG P Γ K x st')
  (h:st=st':=by kernel_rfl):GG P Γ K x st:=h▸k
def iv(x:Kh)(st:St):AV:=match x with | .run (.cond c _ _) _=>SU st.get c|_=>.any
def nW(b:Bool):Kh->Kh
 | .run (.cond _ c d) fs=>gM (bif b then c else d) fs
 | x=>x
theorem gC{x:Kh}{st:St}{R:Type}{b:Bool}{m1 m2:Option R}{r:R}(h:(bif b then m1 else m2)=some r)
  (kt:m1=some r->GG P Γ K (nW true x) st) (kf:m2=some r->GG P Γ K (nW false x) st)
  (hv:iv x st = .bool b:=by kernel_rfl):GG P Γ K x st:=by
 cases x with
 | out e fs=>cases hv
 | run c fs=>
  cases c with
  | cond c y z=>
   refine NN b hv (λhb=>H7  (kt ?_)) (λhb=>H7  (kf ?_))
   ·subst hb;exact h
   ·subst hb;exact h
  | _=>cases hv
theorem ZB{x:Kh}{st:St}(b:Bool)
  (k:GG P Γ K (nW b x) st)
  (hv:iv x st = .bool b:=by kernel_rfl):GG P Γ K x st:=by
 cases x with
 | out e fs=>cases hv
 | run c fs=>
  cases c with
  | cond c y z=>
   refine NN b hv (λhb=>H7 (n:=400) ?_) (λhb=>H7 (n:=400) ?_)
   ·subst hb;exact k
   ·subst hb;exact k
  | _=>cases hv
theorem lt1{P:Nat->Prop}(h0:P 0)(i:Nat)(h:i<1):P i:=by
 grind
theorem lt2{P:Nat->Prop}(h0:P 0)(h1:P 1)(i:Nat)(h:i<2):P i:=by
 grind
theorem rk(o:Own):some o=some o:=rfl
theorem gK{x:Kh}{st:St}{e:Exit}(h:K e st)(hx:x = .out e []:=by kernel_rfl):GG P Γ K x st:=by subst hx;exact h
def aG(Γ:G5)(e0:Exit)(og:St):Exit->St->Prop:=λe st=>e=e0/\Le Γ st og
def aR(K:Exit->St->Prop):Exit->St->Prop:=λe st=>e = .ret/\K e st
theorem D7{e0:Exit}{og st:St}(h:Le Γ st og):aG Γ e0 og e0 st:=⟨rfl,h⟩
theorem Sh{st:St}(h:K .ret st):aR K .ret st:=⟨rfl,h⟩
def oW:Exit->Bool | .normal=>true|_=>false
theorem gN{S X:Type}{x:Kh}{st:St}{H:S->St}{KX:X->Exit->St->Prop}{s':S}(h:Le Γ st (H s'))(hx:x = .out .normal []:=by kernel_rfl):GG P Γ (M0 Γ H KX (.next s')) x st:=by
 subst hx;exact⟨rfl,h⟩
theorem gO{S X:Type}{x:Kh}{st:St}{H:S->St}{KX:X->Exit->St->Prop}{y:X}{e:Exit}(h:KX y e st)(hx:x = .out e []:=by kernel_rfl)(hn:oW e=false:=by kernel_rfl):GG P Γ (M0 Γ H KX (.done y)) x st:=by
 subst hx;exact⟨(by rintro rfl;cases hn),h⟩
def fK(P:Program)(Γ:G5)(rs:List ResultVar)(H:List (Nat×Own))(res:AV)(H':List (Nat×Own)):Exit->St->Prop:=oE Γ (mC P rs H res H')
theorem Ks{rs:List ResultVar}{H H':List (Nat×Own)}{res:AV}{st st':St}{e:Exit}(ρ:List (Nat×Nat))(hl:Le Γ st st')(hr:WV P rs ρ H st'=some (res,H'):=by kernel_rfl)
  (he:(match e with | .ret=>true | .normal=>true|_=>false)=true:=by kernel_rfl):fK P Γ rs H res H' e st:=by
 refine⟨st',hl,?_,ρ,hr⟩
 cases e with
 | ret=>exact .inl rfl
 | normal=>exact .inr rfl
 | _=>cases he
theorem C1{rs:List ResultVar}{H H':List (Nat×Own)}{res:AV}{x:Kh}{st:St}(ρ:List (Nat×Nat))(hr:WV P rs ρ H st=some (res,H'):=by kernel_rfl)
  (hx:x = .out .ret []:=by kernel_rfl):GG P Γ (fK P Γ rs H res H') x st:=gK  (Ks ρ (Le.refl _ _) hr) hx
def KZ(fn:Func):Code:=match fn.body with|some c=>c|none=>.skip
theorem Zh {f : FuncId} {fn : Func} {args : List AV} {H H' : List (Nat × Own)} {res : AV} (hm : P.follows .mixedOrders = true) (hf : P.funcs[f]? = some fn)
    (k : ∀ Γ : G5, RgQ P Γ fn.ntmps H → GG P Γ (fK P Γ fn.results.toList H res H') (gM (KZ fn) []) (Yv args H))
    (hb : fn.body.isSome = true := by kernel_rfl) (hname : (fn.name == "runtime.NumGoroutine") = false := by kernel_rfl) (hlen : Nat.ble args.length fn.ntmps = true := by kernel_rfl) (hpl : FE H = true := by kernel_rfl) : Spec P f args H res H' := by
  obtain ⟨c, hc⟩ := zzL75.1 hb
  have e : KZ fn = c := by unfold KZ; rw [hc]
  refine QM hf hc hname hlen (fun Γ hn hΓ => ?_) hpl; have := k Γ ⟨hn, hm, hΓ⟩; rw [e] at this; exact jp (H7 this)
theorem dA{st st':St}(h:st=st'):Le Γ st st':=h▸Le.refl Γ st
def TA:Kh->Bool | .run (.loop _) _=>true|_=>false
def iu:Kh->Kh
 | .run (.loop c) _=>gM c []
 | x=>x
def db(e:Exit):Kh->Kh
 | .run _ fs=>nY e fs
 | x=>x
def lw{α:Type}(k:Nat)(x:α):List (Nat×α)->List (Nat×α)
 | []=>[(k,x)]
 | (k',y)::l=>bif Nat.beq k k' then(k,x)::l else bif Nat.blt k k' then(k,x)::(k',y)::l else(k',y)::lw k x l
def g9{α:Type}:List (Nat×α)->List (Nat×α)->List (Nat×α)
 | [],l=>l
 | (k,x)::r,l=>g9 r (lw k x l)
def Fn(st:St)(ts:List (Nat×AV))(os:List (Nat×Own))(fs:List (Nat×au):=[]):St:=⟨g9 ts st.tmps,g9 os st.own,g9 fs st.fam⟩
def Wj(live names:List Nat)(st:St)(ts:List (Nat×AV))(os:List (Nat×Own))(fs:List (Nat×au):=[]):St:=A1 live names (Fn st ts os fs)
theorem gL{S X:Type}{x:Kh}{st:St}{n:Nat}{Hf:List (Nat×Own)}(q:RgQ P Γ n Hf){f:S->Option (LR S X)}{s0:S}{y:X}(hx:Ai f s0=some y)(live names:List Nat)(H:St->S->St)(KX:St->X->Exit->St->Prop)
  (kb:∀ s y,f s=some y->GG P Γ (M0 Γ (H (A1 live names st)) (KX (A1 live names st)) y) (iu x) (H (A1 live names st) s)) (ko:∀ e st',KX (A1 live names st) y e st'->GG P Γ K (db e x) st')
  (h0:A1 live names st=H (A1 live names st) s0:=by kernel_rfl) (hl:TA x=true:=by kernel_rfl) (hh:(Hf.all λx=>Bl x.1 names)=true:=by kernel_rfl):GG P Γ K x st:=by
 cases x with
 | out e fs=>cases hl
 | run c fs=>
  cases c with
  | loop c=>
   refine SJ  ?_ (b8 _ f _ (λs y hy=>H7 (kb s y hy)) hx λe st' hk=>Ta (ko e st' hk));rw[<- h0];exact Dv _ _ q rfl hh
  | _=>cases hl
theorem gA{x:Kh}{f:Exit->Kh->Kh}{e0:Exit}{og:St}
  (k:GG P Γ K (f e0 x) og)
  (hr:jE (f e0 x)=true:=by kernel_rfl):∀ e st',aG Γ e0 og e st'->GG P Γ K (f e x) st':=by
 rintro e st' ⟨rfl,hl⟩;exact J3 hl k hr
theorem jA{x:Kh}{f:Exit->Kh->Kh}{e0:Exit}{og:St}(k:∀ st',Le Γ st' og->GG P Γ K (f e0 x) st'):∀ e st',aG Γ e0 og e st'->GG P Γ K (f e x) st':=by
 rintro e st' ⟨rfl,hl⟩;exact k st' hl
theorem Wa{x:Kh}{f:Exit->Kh->Kh}{K':Exit->St->Prop}(k:∀ st',K' .ret st'->GG P Γ K (f .ret x) st'):∀ e st',aR K' e st'->GG P Γ K (f e x) st':=by
 rintro e st' ⟨rfl,hl⟩;exact k st' hl
theorem gU{x:Kh}{st:St}(n:Nat)
  (k:GG P Γ K (match x with | .run (.loop c) fs=>gM c (.ag c n::fs)|x=>x) st)
  (hl:TA x=true:=by kernel_rfl):GG P Γ K x st:=by
 cases x with
 | out e fs=>cases hl
 | run c fs=>
  cases c with
  | loop c=>exact SL (n+1) (H7 k)
  | _=>cases hl
def ln:Kh->Bool | .run (.seq _ _) _=>true|_=>false
def ll:Kh->Kh
 | .run (.seq a _) _=>gM a []
 | x=>x
def mB(e:Exit):Kh->Kh
 | .run (.seq _ b) fs=>nY e (.nx b::fs)
 | x=>x
theorem gJ{X:Type}{x:Kh}{st:St}{m:Option X}{y:X}(hx:m=some y)(KX:X->Exit->St->Prop)
  (kb:∀ y,m=some y->GG P Γ (KX y) (ll x) st) (ko:∀ e st',KX y e st'->GG P Γ K (mB e x) st')
  (hs:ln x=true:=by kernel_rfl):GG P Γ K x st:=by
 cases x with
 | out e fs=>cases hs
 | run c fs=>
  cases c with
  | seq a b=>exact KY (b6 KX hx (λy hy=>H7 (kb y hy)) λe st' hk=>Ta (ko e st' hk))
  | _=>cases hs
def gQ:Kh->Bool | .run (.scope _) _=>true|_=>false
def mD:Kh->Code | .run (.scope c) _=>c|_=>.skip
def lp(c:Code)(l:Nat):Kh:=gM ((findLabel c l).getD .skip) []
theorem gS{S X:Type}{x:Kh}{st:St}{f0:Option (LR S X)}{f:S->Option (LR S X)}{y:X}(hx:Pu f0 f=some y)(lab:S->Nat)(H:S->St)(KX:X->Exit->St->Prop)
  (k0:∀ y,f0=some y->GG P Γ (DZ Γ (mD x) lab H KX y) (gM (mD x) []) st) (kb:∀ s y,f s=some y->GG P Γ (DZ Γ (mD x) lab H KX y) (lp (mD x) (lab s)) (H s)) (ko:∀ e st',KX y e st'->GG P Γ K (db e x) st')
  (hs:gQ x=true:=by kernel_rfl):GG P Γ K x st:=by
 cases x with
 | out e fs=>cases hs
 | run c fs=>
  cases c with
  | scope c=>
   refine YH lab H f0 f KX (λy hy=>H7 (k0 y hy)) (λs y rest hf hy=>?_) hx λe st' hk=>Ta (ko e st' hk);have:=kb s y hy;unfold lp mD at this;rw[hf]at this;exact H7 this
  | _=>cases hs
theorem gD{S X:Type}{x:Kh}{st:St}{c:Code}{lab:S->Nat}{H:S->St}{KX:X->Exit->St->Prop}{s':S}(h:Le Γ st (H s'))(hx:x = .out (.goto (lab s')) []:=by kernel_rfl)(hf:(findLabel c (lab s')).isSome=true:=by kernel_rfl) :
  GG P Γ (DZ Γ c lab H KX (.next s')) x st:=by
 subst hx;exact⟨rfl,hf,h⟩
theorem jB{S X:Type}{x:Kh}{st:St}{c:Code}{lab:S->Nat}{H:S->St}{KX:X->Exit->St->Prop}{y:X}{e:Exit}(h:KX y e st)(hx:x = .out e []:=by kernel_rfl)
  (hf:(match e with | .goto l=>(findLabel c l).isNone|_=>true)=true:=by kernel_rfl):GG P Γ (DZ Γ c lab H KX (.done y)) x st:=by
 subst hx;refine⟨?_,h⟩;rintro l rfl
 simpa using hf
theorem S6{α:Type}{st:St}(U:α->St->St){a b:α}(h:a=b)(h1:st=U a st:=by kernel_rfl):Le Γ st (U b st):=by subst h;exact dA h1
theorem na{st:St}(F F':Bool->St->St)(g:Bool)(h1:st=F g st:=by kernel_rfl)(ht:F true st=F' true st:=by kernel_rfl)(hf:F false st=F' false st:=by kernel_rfl):Le Γ st (F' g st):=by
 refine dA (h1.trans ?_)
 cases g<;>assumption
def Own.withF(g:Nat->List AV):Own->Own
 | .arr sz e n _=>.arr sz e n g
 | o=>o
def ir(st:St)(nm:Nat):Option (Nat×(Nat->List AV)):=match Ac st.own nm with|some (.arr _ _ n f)=>some (n,f)|_=>none
def mF(nm:Nat)(g:Nat->List AV)(st:St):St:=⟨st.tmps,(match Ac st.own nm with|some o=>Cs st.own nm (o.withF g)|none=>st.own),st.fam⟩
theorem FA{nm sz n:Nat}{e:TypeId}{f g:Nat->List AV}(hp:∀ k,k<n->AVleL (f k) (g k)):∀{l:List (Nat×Own)},Ac l nm=some (.arr sz e n f)->OwnsLe l (Cs l nm (.arr sz e n g))
 | [],h=>by cases h
 | (k,o)::l,h=>by
  simp only[Ac]at h;simp only[Cs]
  cases hb:Nat.beq k nm with
  | true=>
   obtain rfl:=Bt hb;rw[hb]at h;simp only[Ae,Af]at h;subst h;exact .arr hp (.refl _)
  | false=>
   rw[hb]at h;exact .same (FA hp h)
theorem Ly{st:St}(nm:Nat){n:Nat}{f g:Nat->List AV}(hp:∀ k,k<n->AVleL (f k) (g k))(h:ir st nm=some (n,f):=by kernel_rfl):Le Γ st (mF nm g st):=by
 unfold ir at h;unfold mF
 cases ho:Ac _ nm with
 | none=>rw[ho]at h;cases h
 | some o=>
  rw[ho]at h
  cases o with
  | arr sz e n' f'=>
   obtain⟨rfl,rfl⟩:=h;exact K1 (TmpsLe.refl _) (FA hp ho)
  | _=>cases h
def cN(st:St)(nm j:Nat):Option AV:=match Ac st.own nm with|some (.row _ cells)=>cells[j]? | _=>none
def Own.withC(j:Nat)(x:AV):Own->Own
 | .row e cells=>.row e (cells.set j x)
 | o=>o
def mE(nm j:Nat)(x:AV)(st:St):St:=⟨st.tmps,(match Ac st.own nm with|some o=>Cs st.own nm (o.withC j x)|none=>st.own),st.fam⟩
theorem WH{a b:AV}(h:AVle a b):∀{l:List AV} {j:Nat},l[j]?=some a->AVleL l (l.set j b)
 | [],j,h=>by simp at h
 | x::l,0,h'=>by
  simp only[List.getElem?_cons_zero,Af]at h';subst h';exact .cons h (.refl _)
 | x::l,j+1,h'=>by
  exact .cons (.refl _) (WH h h')
theorem FB{nm:Nat}{e:TypeId}{x y:List AV}(hp:AVleL x y):∀{l:List (Nat×Own)},Ac l nm=some (.row e x)->OwnsLe l (Cs l nm (.row e y))
 | [],h=>by cases h
 | (k,o)::l,h=>by
  simp only[Ac]at h;simp only[Cs]
  cases hb:Nat.beq k nm with
  | true=>
   obtain rfl:=Bt hb;rw[hb]at h;simp only[Ae,Af]at h;subst h;exact .row hp (.refl _)
  | false=>
   rw[hb]at h;exact .same (FB hp h)
theorem gW{st:St}(nm j:Nat){a b:AV}(hp:AVle a b)(h:cN st nm j=some a:=by kernel_rfl):Le Γ st (mE nm j b st):=by
 unfold cN at h;unfold mE
 cases ho:Ac _ nm with
 | none=>rw[ho]at h;cases h
 | some o=>
  rw[ho]at h
  cases o with
  | row e cells=>exact K1 (TmpsLe.refl _) (FB (WH hp h) ho)
  | _=>cases h
theorem ZS{V:Type}:JE ([]:List (Int×V)) []:=⟨.nil,List.nodup_nil⟩
def jP(nm:Nat)(x:AObj)(st:St):St:=⟨st.tmps,Cs st.own nm (.obj x),st.fam⟩
theorem oG{V:Type}{st:St}(nm:Nat)(nn:Bool)(k:IntKind){f:V->AV}{a b:List (Int×V)}(hp:JE a b)(h:Ac st.own nm=some (.obj (.map nn k (mapE f a))):=by kernel_rfl)(hlt:Nat.blt nm A7=true:=by kernel_rfl):Le Γ st (jP nm (.pmap nn k (mapE f b)) st):=
 LL _ h (λ_ _ _ _ h=>TK hp h) hlt
theorem oX{st:St}(nm:Nat)(k:IntKind)(l:List (Int×AV))(h:Ac st.own nm=some (.obj (.pmap true k l)):=by kernel_rfl)(hlt:Nat.blt nm A7=true:=by kernel_rfl):Le Γ st (jP nm (.pmap false k l) st):=
 LL _ h (λ_ _ _ _ h=>ZP h) hlt
theorem gI(g:Bool):g=true->g=true:=id
theorem M6(c:Bool):c=true->(c==true)=true:=gT
theorem U4(c:Bool):c=false->(c==false)=true:=gF
theorem Cn{α:Type}(sz:Nat)(e:α->List AV)(d:α)(l:List α):AVle (.slice sz l.length (λi=>(l.map e).getD i []) .exact) (AV.list sz e d l .exact):=jo rfl λi h=>gb l i h
theorem Jg{α:Type}(sz:Nat)(e:α->List AV)(d:α):AVle (.slice 0 0 (λ_=>[]) .exact) (AV.list sz e d [] .exact):=Dx
theorem Uf{α:Type}(sz nm:Nat)(e:α->List AV)(d:α)(l m:List α):AVle (.slice sz (l.length+m.length) (Jv l.length (λi=>e (l.getD i d)) (λi=>e (m.getD i d))) (.own nm)) (AV.list sz e d (l++m) (.own nm)):=jn
def dE(x:Kh)(ix tx bx:Nat):Bool:=
 match x with
 | .run (.loop (.seq (.region _ ops false) _)) _=>
  match ops.toList with
  | [o1,o2]=>
   (match o1.op,o2.op with | .next (.tmp a) false,.extract (.tmp b) 0=>Nat.beq a ix&&Nat.beq b tx|_,_=>false) &&
   (match o1.dst,o2.dst,o1.guard,o2.guard with|some a,some b,none,none=>Nat.beq a tx&&Nat.beq b bx|_,_,_,_=>false)
  | _=>false
 | _=>false
def CK:Kh->Kh
 | .run (.loop (.seq _ c)) _=>gM c []
 | x=>x
theorem oV{S X:Type}{x:Kh}{st:St}{n:Nat}{Hf:List (Nat×Own)}(q:RgQ P Γ n Hf){len:Nat}{f:Nat->S->Option (LR S X)}{g:S->Option (LR S X)}{s0:S}(Q:X->Prop)(hx:∀ τ:List Nat,τ.Perm (List.range len)->∃ x,Tl f g τ s0=some x/\Q x)(live names:List Nat)(H:St->List Nat->S->St)(KX:St->X->Exit->St->Prop)
  (ix tx bx nm mm:Nat) (nn:Bool) (km:IntKind) (l:List (Int×AV)) (lv2 nm2:List Nat)
  (h0:A1 live names st=H (A1 live names st) [] s0:=by kernel_rfl) (hc:dE x ix tx bx=true:=by kernel_rfl) (hb:(Nat.blt tx n&&(Nat.blt bx n&&(Nat.blt nm A7&&Nat.blt mm A7)))=true:=by kernel_rfl)
  (hit:(λz s=>(H (A1 live names st) z s).get ix)=(λ_ _=>AV.optr nm mm):=by kernel_rfl) (hmi:(λz s=>Ac (H (A1 live names st) z s).own nm)=(λz _=>some (.obj (.miter (.omap mm) len z))):=by kernel_rfl)
  (hma:(λz s=>Ac (H (A1 live names st) z s).own mm)=(λ_ _=>some (.obj (.map nn km l))):=by kernel_rfl) (hlen:len=l.length:=by kernel_rfl) (hh:(Hf.all λx=>Bl x.1 names)=true:=by kernel_rfl) (hh2:(Hf.all λx=>Bl x.1 nm2)=true:=by kernel_rfl)
  (kd:∀ z s y,g s=some y->(∀ i,i<len->i∈z)->GG P Γ (M0 Γ (H (A1 live names st) z) (KX (A1 live names st)) y) (CK x) (A1 lv2 nm2 (((H (A1 live names st) z s).upd (some tx) (.tuple [.bool false]) []).upd (some bx) (.bool false) [])))
  (kn:∀ z s i y,f i s=some y->i<len->i∉z->GG P Γ (M0 Γ (H (A1 live names st) (i::z)) (KX (A1 live names st)) y) (CK x)
   (A1 lv2 nm2 (((H (A1 live names st) z s).upd (some tx) (.tuple [.bool true,.int km (l.getD i (0,.any)).1,(l.getD i (0,.any)).2]) [(nm,.obj (.miter (.omap mm) len (i::z)))]).upd (some bx) (.bool true) [])))
  (ko:∀ y,Q y->∀ e st',KX (A1 live names st) y e st'->GG P Γ K (db e x) st'):GG P Γ K x st:=by
 unfold dE at hc
 split at hc
 ·rename_i id ops rest fs
  split at hc
  ·rename_i o1 o2 hops
   obtain rfl:ops = #[o1,o2]:=by grind
   simp only[A3]at hc;obtain⟨c1,c2⟩:=hc
   split at c1
   ·rename_i a b e1 e2
    split at c2
    ·rename_i a' b' e3 e4 e5 e6
     simp only[A3]at c1 c2;obtain rfl:=Bt c1.1;obtain rfl:=Bt c1.2;obtain rfl:=Bt c2.1;obtain rfl:=Bt c2.2;refine SJ  ?_ (NO Q len (H (A1 live names st)) f g _ (λz s hg hf=>?_) hx λy hy e st' hk=>Ta (ko y hy e st' hk))
     ·rw[<- h0];exact Dv _ _ q rfl hh
     refine KY (YG q lv2 nm2 e1 e3 e5 e2 e4 e6 hb (congrFun (congrFun hit z) s) (congrFun (congrFun hmi z) s) (congrFun (congrFun hma z) s) hlen hh2 (λhall=>?_) (λi hi hn=>?_))
     ·obtain⟨y,h⟩:=hg hall;exact DF (H7 (kd z s y h hall)) (λe st' hk=>.inl ⟨y,h,hk,hall⟩)
     ·obtain⟨y,h⟩:=hf i hi hn;exact DF (H7 (kn z s i y h hi hn)) (λe st' hk=>.inr ⟨i,y,h,hk,hi,hn⟩)
    ·cases c2
   ·cases c1
  ·cases hc
 ·cases hc
theorem oU{S X:Type}{x:Kh}{st:St}{n:Nat}{Hf:List (Nat×Own)}(q:RgQ P Γ n Hf){len:Nat}{f:Nat->S->Option (LR S X)}{g:S->Option (LR S X)}{s0:S}{eqv:X->X->Prop}{y:X}(hx:Wh eqv len f g s0=some y)(live names:List Nat)(H:St->List Nat->S->St)(KX:St->X->Exit->St->Prop)
  (ix tx bx nm mm:Nat) (nn:Bool) (km:IntKind) (l:List (Int×AV)) (lv2 nm2:List Nat)
  (h0:A1 live names st=H (A1 live names st) [] s0:=by kernel_rfl) (hc:dE x ix tx bx=true:=by kernel_rfl) (hb:(Nat.blt tx n&&(Nat.blt bx n&&(Nat.blt nm A7&&Nat.blt mm A7)))=true:=by kernel_rfl)
  (hit:(λz s=>(H (A1 live names st) z s).get ix)=(λ_ _=>AV.optr nm mm):=by kernel_rfl) (hmi:(λz s=>Ac (H (A1 live names st) z s).own nm)=(λz _=>some (.obj (.miter (.omap mm) len z))):=by kernel_rfl)
  (hma:(λz s=>Ac (H (A1 live names st) z s).own mm)=(λ_ _=>some (.obj (.map nn km l))):=by kernel_rfl) (hlen:len=l.length:=by kernel_rfl) (hh:(Hf.all λx=>Bl x.1 names)=true:=by kernel_rfl) (hh2:(Hf.all λx=>Bl x.1 nm2)=true:=by kernel_rfl)
  (kd:∀ z s y,g s=some y->(∀ i,i<len->i∈z)->GG P Γ (M0 Γ (H (A1 live names st) z) (KX (A1 live names st)) y) (CK x) (A1 lv2 nm2 (((H (A1 live names st) z s).upd (some tx) (.tuple [.bool false]) []).upd (some bx) (.bool false) [])))
  (kn:∀ z s i y,f i s=some y->i<len->i∉z->GG P Γ (M0 Γ (H (A1 live names st) (i::z)) (KX (A1 live names st)) y) (CK x)
   (A1 lv2 nm2 (((H (A1 live names st) z s).upd (some tx) (.tuple [.bool true,.int km (l.getD i (0,.any)).1,(l.getD i (0,.any)).2]) [(nm,.obj (.miter (.omap mm) len (i::z)))]).upd (some bx) (.bool true) [])))
  (ko:∀ y',eqv y' y->∀ e st',KX (A1 live names st) y' e st'->GG P Γ K (db e x) st'):GG P Γ K x st:=
 oV q _ (AW hx) _ _ H KX ix tx bx nm mm nn km l lv2 nm2 h0 hc hb hit hmi hma hlen hh hh2 kd kn ko
theorem M7{st st':St}(h:st=st':=by kernel_rfl):Le Γ st st':=h▸Le.refl Γ st
theorem ci{p q:Prop}(a:p)(b:q):p/\q:=⟨a,b⟩
theorem c1{p:Prop}(a:p):p/\True:=⟨a,trivial⟩
end
section
variable {P:Program} {Γ:G5} {K:Exit->St->Prop}
theorem tB{α β:Type}{m:Option α}{f:α->Option β}{r:β}{G:Prop}(h:m.bind f=some r)(k:∀ x,m=some x->f x=some r->G):G:=have⟨x,hx,h⟩:=bind_some h;k x hx h
theorem tC{β:Type}{c:Prop}[Decidable c]{m:Option β}{r:β}{G:Prop}(h:Cg c m=some r)(k:c->m=some r->G):G:=k (Nw h).1 (Nw h).2
@[elab_as_elim] theorem tS{α:Type}{a:α}{M:α->Prop}{b:α}(h:some a=some b)(k:M a):M b:=OI h▸k
theorem tV{x:Kh}{st:St}{n:Nat}{H:List (Nat×Own)}(q:RgQ P Γ n H)(live names:List Nat){β:Type}{c:Prop}[Decidable c]{m:Option β}{r:β}(h:Cg c m=some r)
  (k:m=some r->GG P Γ K (gt x) (gu P (Spec P) n [] live names x st []))
  (h1:fF (fD P (Spec P) n [] live names x st [])=some (c/\True,true):=by kernel_rfl) (hh:(H.all λx=>Bl x.1 names)=true:=by kernel_rfl):GG P Γ K x st:=gR q live names [] [] (c1 (Nw h).1) (k (Nw h).2) h1 hh
theorem tN{S X:Type}{x:Kh}{st:St}{H:S->St}{KX:X->Exit->St->Prop}{s':S}{y:LR S X}(h:some (.next s')=some y)(h1:st=H s':=by kernel_rfl)(hx:x = .out .normal []:=by kernel_rfl):GG P Γ (M0 Γ H KX y) x st:=OI h▸gN (M7 h1) hx
theorem tL{S X α:Type}{x:Kh}{st:St}{n:Nat}{Hf:List (Nat×Own)}(q:RgQ P Γ n Hf){f:S->Option (LR S X)}{s0:S}{g:X->Option α}{r:α}(h:(Ai f s0).bind g=some r)(live names:List Nat)(H:St->S->St)(KX:St->X->Exit->St->Prop)
  (kb:∀ s y,f s=some y->GG P Γ (M0 Γ (H (A1 live names st)) (KX (A1 live names st)) y) (iu x) (H (A1 live names st) s)) (ko:∀ y,g y=some r->∀ e st',KX (A1 live names st) y e st'->GG P Γ K (db e x) st')
  (h0:A1 live names st=H (A1 live names st) s0:=by kernel_rfl) (hl:TA x=true:=by kernel_rfl) (hh:(Hf.all λx=>Bl x.1 names)=true:=by kernel_rfl):GG P Γ K x st:=tB h λy hy h=>gL q hy live names H KX kb (ko y h) h0 hl hh
theorem tU{x:Kh}{st:St}{n:Nat}{H:List (Nat×Own)}(q:RgQ P Γ n H)(live names:List Nat){O:Prop}(hO:O)
  (k:GG P Γ K (gt x) (gu P (Spec P) n [] live names x st []))
  (h:fF (fD P (Spec P) n [] live names x st [])=some (O,true):=by kernel_rfl) (hh:(H.all λx=>Bl x.1 names)=true:=by kernel_rfl):GG P Γ K x st:=gR q live names [] [] hO k h hh
theorem tT{x:Kh}{st:St}{n:Nat}{H:List (Nat×Own)}(q:RgQ P Γ n H)(live names:List Nat)(rs:List Ss){O:Prop}(hO:O)
  (k:GG P Γ K (gt x) (gu P (Spec P) n [] live names x st rs))
  (h:fF (fD P (Spec P) n [] live names x st rs)=some (O,true):=by kernel_rfl) (hh:(H.all λx=>Bl x.1 names)=true:=by kernel_rfl):GG P Γ K x st:=gR q live names [] rs hO k h hh
theorem tW{x:Kh}{st:St}{n:Nat}{H:List (Nat×Own)}(q:RgQ P Γ n H)(live names live2 names2:List Nat)
  (k:GG P Γ K (gt (gt x)) (gu P (Spec P) n [] live2 names2 (gt x) (gu P (Spec P) n [] live names x st []) []))
  (h:fF (fD P (Spec P) n [] live names x st [])=some (True,true):=by kernel_rfl) (hh:(H.all λx=>Bl x.1 names)=true:=by kernel_rfl)
  (h2:fF (fD P (Spec P) n [] live2 names2 (gt x) (gu P (Spec P) n [] live names x st []) [])=some (True,true):=by kernel_rfl) (hh2:(H.all λx=>Bl x.1 names2)=true:=by kernel_rfl):GG P Γ K x st:=Ao q live names (Ao q live2 names2 k h2 hh2) h hh
end
theorem Pz{R:Prop}(g:Bool)(r:R):(g=true->g=true)/\((g=true->g=true)/\(R)):=⟨id,⟨id,r⟩⟩
theorem OH{R:Prop}(g:Bool)(r:R):(g=true->g=true)/\((g=true->g=true)/\((g=true->g=true)/\(R))):=⟨id,⟨id,⟨id,r⟩⟩⟩
theorem kz{R:Prop}(g:Bool)(r:R):(g=true->g=true)/\((g=true->g=true)/\((g=true->g=true)/\((g=true->g=true)/\(R)))):=⟨id,⟨id,⟨id,⟨id,r⟩⟩⟩⟩
theorem lk{R:Prop}(g:Bool)(r:R):(g=true->g=true)/\((g=true->g=true)/\((g=true->g=true)/\((g=true->g=true)/\((g=true->g=true)/\(R))))):=⟨id,⟨id,⟨id,⟨id,⟨id,r⟩⟩⟩⟩⟩
theorem oF{R:Prop}(g:Bool)(r:R):(g=true->g=true)/\((g=true->g=true)/\((g=true->g=true)/\((g=true->g=true)/\((g=true->g=true)/\((g=true->g=true)/\(R)))))):=⟨id,⟨id,⟨id,⟨id,⟨id,⟨id,r⟩⟩⟩⟩⟩⟩
theorem oR{R:Prop}(g:Bool)(r:R):(g=true->g=true)/\((g=true->g=true)/\((g=true->g=true)/\((g=true->g=true)/\((g=true->g=true)/\((g=true->g=true)/\((g=true->g=true)/\(R))))))):=⟨id,⟨id,⟨id,⟨id,⟨id,⟨id,⟨id,r⟩⟩⟩⟩⟩⟩⟩
theorem oS{R:Prop}(g:Bool)(r:R):(g=true->g=true)/\((g=true->g=true)/\((g=true->g=true)/\((g=true->g=true)/\((g=true->g=true)/\((g=true->g=true)/\((g=true->g=true)/\((g=true->g=true)/\(R)))))))):=⟨id,⟨id,⟨id,⟨id,⟨id,⟨id,⟨id,⟨id,r⟩⟩⟩⟩⟩⟩⟩⟩
theorem oT{R:Prop}(g:Bool)(r:R):(g=true->g=true)/\((g=true->g=true)/\((g=true->g=true)/\((g=true->g=true)/\((g=true->g=true)/\((g=true->g=true)/\((g=true->g=true)/\((g=true->g=true)/\((g=true->g=true)/\(R))))))))):=⟨id,⟨id,⟨id,⟨id,⟨id,⟨id,⟨id,⟨id,⟨id,r⟩⟩⟩⟩⟩⟩⟩⟩⟩
theorem YP{p0 p1 R:Prop}(a0:p0)(a1:p1)(r:R):p0/\p1/\R:=⟨a0,a1,r⟩
theorem c2{p0 p1:Prop}(a0:p0)(a1:p1):p0/\p1/\True:=⟨a0,a1,trivial⟩
theorem j5{p0 p1 p2 R:Prop}(a0:p0)(a1:p1)(a2:p2)(r:R):p0/\p1/\p2/\R:=⟨a0,a1,a2,r⟩
theorem c3{p0 p1 p2:Prop}(a0:p0)(a1:p1)(a2:p2):p0/\p1/\p2/\True:=⟨a0,a1,a2,trivial⟩
theorem oP{p0 p1 p2 p3 R:Prop}(a0:p0)(a1:p1)(a2:p2)(a3:p3)(r:R):p0/\p1/\p2/\p3/\R:=⟨a0,a1,a2,a3,r⟩
theorem c4{p0 p1 p2 p3:Prop}(a0:p0)(a1:p1)(a2:p2)(a3:p3):p0/\p1/\p2/\p3/\True:=⟨a0,a1,a2,a3,trivial⟩
theorem c5{p0 p1 p2 p3 p4:Prop}(a0:p0)(a1:p1)(a2:p2)(a3:p3)(a4:p4):p0/\p1/\p2/\p3/\p4/\True:=⟨a0,a1,a2,a3,a4,trivial⟩
theorem c6{p0 p1 p2 p3 p4 p5:Prop}(a0:p0)(a1:p1)(a2:p2)(a3:p3)(a4:p4)(a5:p5):p0/\p1/\p2/\p3/\p4/\p5/\True:=⟨a0,a1,a2,a3,a4,a5,trivial⟩
theorem oQ{p0 p1 p2 p3 p4 p5 p6 R:Prop}(a0:p0)(a1:p1)(a2:p2)(a3:p3)(a4:p4)(a5:p5)(a6:p6)(r:R):p0/\p1/\p2/\p3/\p4/\p5/\p6/\R:=⟨a0,a1,a2,a3,a4,a5,a6,r⟩
theorem c7{p0 p1 p2 p3 p4 p5 p6:Prop}(a0:p0)(a1:p1)(a2:p2)(a3:p3)(a4:p4)(a5:p5)(a6:p6):p0/\p1/\p2/\p3/\p4/\p5/\p6/\True:=⟨a0,a1,a2,a3,a4,a5,a6,trivial⟩
theorem c8{p0 p1 p2 p3 p4 p5 p6 p7:Prop}(a0:p0)(a1:p1)(a2:p2)(a3:p3)(a4:p4)(a5:p5)(a6:p6)(a7:p7):p0/\p1/\p2/\p3/\p4/\p5/\p6/\p7/\True:=⟨a0,a1,a2,a3,a4,a5,a6,a7,trivial⟩
theorem nX{p0 p1 p2 p3 p4 p5 p6 p7 p8 R:Prop}(a0:p0)(a1:p1)(a2:p2)(a3:p3)(a4:p4)(a5:p5)(a6:p6)(a7:p7)(a8:p8)(r:R):p0/\p1/\p2/\p3/\p4/\p5/\p6/\p7/\p8/\R:=⟨a0,a1,a2,a3,a4,a5,a6,a7,a8,r⟩
theorem c9{p0 p1 p2 p3 p4 p5 p6 p7 p8:Prop}(a0:p0)(a1:p1)(a2:p2)(a3:p3)(a4:p4)(a5:p5)(a6:p6)(a7:p7)(a8:p8):p0/\p1/\p2/\p3/\p4/\p5/\p6/\p7/\p8/\True:=⟨a0,a1,a2,a3,a4,a5,a6,a7,a8,trivial⟩
structure bU(c:List AV)(o N sz:Nat)(f:Nat->List AV):Prop where
 get:∀ i,i<N->(c.drop (o+i*sz)).take sz=f i
theorem dz{N sz:Nat}{f:Nat->List AV}{rest:List AV}(hl:∀ i,i<N->(f i).length=sz):bU (Gq N f++rest) 0 N sz f:=⟨λi hi=>by
 have h:=SW hl i hi;have hl':=Ki hl;have h1:(i+1)*sz<=N*sz:=F5 _ hi;rw[Du]at h1
 rw[Fh,List.drop_append_of_le_length (by omega),List.take_append_of_le_length (by rw[BF];omega),h]⟩
theorem CU{c:List AV}{o N:Nat}{f:Nat->List AV}{i:Int}{x:AV}(h:bU c o N 1 f)(hi:Bx i N)(hx:f i.toNat=[x]):AVle (c.getD (o+i.toNat*1) .any) x:=by
 have:=h.get _ (J4 hi);rw[hx]at this
 have e:c.getD (o+i.toNat*1) .any=((c.drop (o+i.toNat*1)).take 1).getD 0 .any:=by
  simp[Na]
 rw[e,this];exact .refl _
theorem UC{o s N L:Nat}{i:Int}(hi:Bx i N)(h:Nat.ble (o+N*s) L=true):o+i.toNat*s+s<=L:=by
 have h1:(i.toNat+1)*s<=N*s:=F5 _ (J4 hi);rw[Du]at h1;have:=G3 h;omega
theorem CT{o N L:Nat}{i:Int}(hi:Bx i N)(h:Nat.ble (o+N*1) L=true):o+i.toNat*1<L:=UC hi h
theorem DU{l:List Nat}{f g:Nat->List AV}(h:∀ k,k∈l->f k=g k):l.flatMap f=l.flatMap g:=by
 induction l with
 | nil=>rfl
 | cons k l ih=>rw[Oj,Oj,h k (Kq ..),ih λj hj=>h j (F3 _ hj)]
theorem dg{N sz i:Nat}{f f':Nat->List AV}{cs rest:List AV}(hl:∀ i,i<N->(f i).length=sz)(hi:i<N)(hc:cs.length=sz)(e1:f' i=cs)(e2:∀ k,k<N->k≠i->f' k=f k) :
  (Gq N f++rest).take (0+i*sz)++cs++(Gq N f++rest).drop (0+i*sz+cs.length)=Gq N f'++rest:=by
 have hF:=Ki hl;have h1:(i+1)*sz<=N*sz:=F5 _ hi;rw[Du]at h1
 have hsplit:∀ g:Nat->List AV,Gq N g=Gq i g++(g i++(List.range' (i+1) (N-(i+1))).flatMap g):=λg=>by
  unfold Gq
  have:List.range N=List.range i++(i::List.range' (i+1) (N-(i+1))):=by
   rw[Vt,Vt,show i::List.range' (i+1) (N-(i+1))=List.range' i (N-(i+1)+1) from rfl,show List.range' i (N-(i+1)+1)=List.range' (0+1*i) (N-(i+1)+1) by simp,List.range'_append]
   congr 1
   omega
  rw[this,List.flatMap_append,Oj]
 have ha:Gq i f'=Gq i f:=by
  unfold Gq;exact DU λk hk=>e2 k (by have:=zzL41.1 hk;omega) (by have:=zzL41.1 hk;omega)
 have hb:(List.range' (i+1) (N-(i+1))).flatMap f'=(List.range' (i+1) (N-(i+1))).flatMap f:=
  DU λk hk=>e2 k (by have:=List.mem_range'.1 hk;omega) (by have:=List.mem_range'.1 hk;omega)
 have hil:=Ki (n:=i) (f:=f) (sz:=sz) λk hk=>hl k (by omega);rw[hsplit f,hsplit f',e1,ha,hb,Fh];rw[Oi,Oi,<- hil,List.take_left',Oi,Oi,Oi]
 ·congr 1
  congr 1
  rw[hc,<- hl i hi,<- List.drop_drop,List.drop_left,List.drop_left]
 ·rfl
theorem dh{c0 X X' cs:List AV}{k o j n:Nat}(hk:c0.length=k)(h:X.take (o+j)++cs++X.drop (o+j+n)=X'):(c0++X).take (k+o+j)++cs++(c0++X).drop (k+o+j+n)=c0++X':=by
 subst hk;rw[<- h,Pg,List.take_append,List.drop_append];simp only[Oi];rw[List.take_of_length_le (by omega),show c0.length+(o+j)-c0.length=o+j by omega,List.drop_of_length_le (by omega),show c0.length+(o+j)+n-c0.length=o+j+n by omega]
 rfl
theorem Xc{a b c d:List AV}(h:AVleL a b)(k:AVleL c d):AVleL (a++c) (b++d):=by
 induction h with
 | nil=>exact k
 | cons h _ ih=>exact .cons h ih
theorem cx{a b:List AV}(h:AVleL a b):∀ n,AVleL (a.take n) (b.take n):=by
 induction h with
 | nil=>intro n;simp;exact .nil
 | cons h _ ih=>intro n;cases n with|zero=>exact .nil|succ n=>exact .cons h (ih n)
theorem cu{a b:List AV}(h:AVleL a b):∀ n,AVleL (a.drop n) (b.drop n):=by
 induction h with
 | nil=>intro n;simp;exact .nil
 | cons h t ih=>intro n;cases n with|zero=>exact .cons h t|succ n=>exact ih n
theorem cw{f g:Nat->List AV}{N:Nat}(h:∀ i,AVleL (f i) (g i)):AVleL (Gq N f) (Gq N g):=by
 unfold Gq
 induction List.range N with
 | nil=>exact .nil
 | cons k l ih=>rw[Oj,Oj];exact Xc (h k) ih
def Sj:List (Nat->Bool)->List AV->List AV
 | [],l=>l
 | k::ks,l=>AV.eraseAll k (Sj ks l)
theorem NY(ks:List (Nat->Bool))(a b:List AV):Sj ks (a++b)=Sj ks a++Sj ks b:=by
 induction ks with
 | nil=>rfl
 | cons k ks ih=>unfold Sj;rw[ih,Mv]
theorem YS(ks:List (Nat->Bool))(a:List AV)(n:Nat):Sj ks (a.take n)=(Sj ks a).take n:=by
 induction ks with
 | nil=>rfl
 | cons k ks ih=>unfold Sj;rw[ih,GU]
theorem YQ(ks:List (Nat->Bool))(a:List AV)(n:Nat):Sj ks (a.drop n)=(Sj ks a).drop n:=by
 induction ks with
 | nil=>rfl
 | cons k ks ih=>unfold Sj;rw[ih,GT]
theorem YR(k:Nat->Bool)(ks:List (Nat->Bool))(a:List AV):Sj ks (AV.eraseAll k a)=Sj (ks++[k]) a:=by
 induction ks with
 | nil=>rfl
 | cons j ks ih=>exact B8 (AV.eraseAll j) ih
theorem Yr{a:List AV}(h:∀ k,AV.eraseAll k a=a)(ks:List (Nat->Bool)):Sj ks a=a:=by
 induction ks with
 | nil=>rfl
 | cons k ks ih=>unfold Sj;rw[ih,h]
theorem LE{a b:List AV}(h:∀ k,AV.eraseAll k a=a)(h':∀ k,AV.eraseAll k b=b)(k:Nat->Bool):AV.eraseAll k (a++b)=a++b:=by rw[Mv,h,h']
theorem WB{N:Nat}{f:Nat->List AV}(h:∀ i k,AV.eraseAll k (f i)=f i)(k:Nat->Bool):AV.eraseAll k (Gq N f)=Gq N f:=by
 unfold Gq
 induction List.range N with
 | nil=>rfl
 | cons i l ih=>rw[Oj,Mv,h,ih]
def jg(F G:Nat->List AV):Prop:=∀ ks k,k<1->AVleL (Sj ks (F k)) (G k)
theorem Hu{F G:Nat->List AV}(h:jg F G):∀ k,k<1->AVleL (F k) (G k):=h []
theorem Cj{F G:Nat->List AV}{keep:Nat->Bool}(h:jg F G):jg (λi=>AV.eraseAll keep (F i)) G:=λks k hk=>by rw[YR];exact h _ k hk
theorem D2{c:List AV}(h:∀ k,AV.eraseAll k c=c):jg (λ_=>c) (λ_=>c):=λks k _=>by rw[Yr h];exact .refl _
theorem UH{F G:Nat->List AV}{j:Nat}{cs cs' R:List AV}(h:jg F G)(hcs:∀ k,AV.eraseAll k cs=cs)(hc:AVleL cs cs')(e:(G 0).take j++cs'++(G 0).drop (j+cs'.length)=R):jg (I8 F 0 j cs) (λ_=>R):=λks k hk=>by
 obtain rfl:k=0:=by omega
 rw[<- e]
 show AVleL (Sj ks ((F 0).take j++cs++(F 0).drop (j+cs.length))) _
 rw[hc.length,NY,NY,YS,YQ,Yr hcs];exact Xc (Xc (cx (h ks 0 hk) _) hc) (cu (h ks 0 hk) _)
theorem iP{Z R:List AV}{S:Nat}(hz:∀ k,AV.eraseAll k Z=Z)(h:AVleL Z R)(hs:Z.length=S):jg (λi=>(Z.drop (i*S)).take S) (λ_=>R):=λks k hk=>by
 obtain rfl:k=0:=by omega
 show AVleL (Sj ks ((Z.drop (0*S)).take S)) R
 rw[Nat.zero_mul,Je,<- hs,BG,Yr hz];exact h
theorem kV{α:Type}{e:α->List AV}{N i:Nat}{d v:α}{l:List α}(hi:i<N):e ((Ha N d l i v).getD i d)=e v:=by
 rw[Kn hi,Nat.beq_refl];rfl
theorem iK{α:Type}{e:α->List AV}{N i:Nat}{d v:α}{l:List α}:∀ k,k<N->k≠i->e ((Ha N d l i v).getD k d)=e (l.getD k d):=λk hk hn=>by
 rw[Kn hk]
 cases h:Nat.beq k i with
 | true=>exact absurd (Bt h) hn
 | false=>rfl
open Go.Shelf
def ON:Go.Shelf.Ren:=⟨fun|189=>157|125=>181|257=>180|128=>205|129=>206|294=>197|295=>198|296=>199|297=>200|298=>201|299=>202|216=>193|300=>203|301=>204|328=>220|329=>221|330=>222|331=>223|332=>224|215=>218|343=>230|n=>n,fun|28=>33|3=>3|46=>53|0=>0|51=>236|53=>23|4=>4|183=>231|182=>230|131=>217|5=>5|9=>9|218=>244|222=>248|228=>252|229=>133|n=>n,fun|n=>n⟩
theorem WG:Go.Proofs.Lays.n189 Tryz.prog ON:={
 mixed:=by kernel_rfl
 f125:=Tryz.func181.trans (B8 some (by kernel_rfl))
 f128:=Tryz.func205.trans (B8 some (by kernel_rfl))
 f129:=Tryz.func206.trans (B8 some (by kernel_rfl))
 f189:=Tryz.func157.trans (B8 some (by kernel_rfl))
 f215:=Tryz.func218.trans (B8 some (by kernel_rfl))
 f216:=Tryz.func193.trans (B8 some (by kernel_rfl))
 f257:=Tryz.func180.trans (B8 some (by kernel_rfl))
 f294:=Tryz.func197.trans (B8 some (by kernel_rfl))
 f295:=Tryz.func198.trans (B8 some (by kernel_rfl))
 f296:=Tryz.func199.trans (B8 some (by kernel_rfl))
 f297:=Tryz.func200.trans (B8 some (by kernel_rfl))
 f298:=Tryz.func201.trans (B8 some (by kernel_rfl))
 f299:=Tryz.func202.trans (B8 some (by kernel_rfl))
 f300:=Tryz.func203.trans (B8 some (by kernel_rfl))
 f301:=Tryz.func204.trans (B8 some (by kernel_rfl))
 f328:=Tryz.func220.trans (B8 some (by kernel_rfl))
 f329:=Tryz.func221.trans (B8 some (by kernel_rfl))
 f330:=Tryz.func222.trans (B8 some (by kernel_rfl))
 f331:=Tryz.func223.trans (B8 some (by kernel_rfl))
 f332:=Tryz.func224.trans (B8 some (by kernel_rfl))
 f343:=Tryz.func230.trans (B8 some (by kernel_rfl))
 t0:=Tryz.underlying0
 a0:=Tryz.isAgg0
 z0:=Tryz.sizeOf0
 v0:=Tryz.zeroValue0
 t3:=Tryz.underlying3
 a3:=Tryz.isAgg3
 z3:=Tryz.sizeOf3
 v3:=Tryz.zeroValue3
 t4:=Tryz.underlying4
 a4:=Tryz.isAgg4
 z4:=Tryz.sizeOf4
 v4:=Tryz.zeroValue4
 t5:=Tryz.underlying5
 a5:=Tryz.isAgg5
 z5:=Tryz.sizeOf5
 v5:=Tryz.zeroValue5
 t9:=Tryz.underlying9
 a9:=Tryz.isAgg9
 z9:=Tryz.sizeOf9
 v9:=Tryz.zeroValue9
 t28:=Tryz.underlying33
 a28:=Tryz.isAgg33
 z28:=Tryz.sizeOf33
 v28:=Tryz.zeroValue33
 t46:=Tryz.underlying53
 a46:=Tryz.isAgg53
 z46:=Tryz.sizeOf53
 v46:=Tryz.zeroValue53
 t51:=Tryz.underlying236
 a51:=Tryz.isAgg236
 z51:=Tryz.sizeOf236
 v51:=Tryz.zeroValue236
 t53:=Tryz.underlying23
 a53:=Tryz.isAgg23
 z53:=Tryz.sizeOf23
 v53:=Tryz.zeroValue23
 t131:=Tryz.underlying217
 a131:=Tryz.isAgg217
 z131:=Tryz.sizeOf217
 v131:=Tryz.zeroValue217
 t182:=Tryz.underlying230
 a182:=Tryz.isAgg230
 z182:=Tryz.sizeOf230
 v182:=Tryz.zeroValue230
 t183:=Tryz.underlying231
 a183:=Tryz.isAgg231
 z183:=Tryz.sizeOf231
 v183:=Tryz.zeroValue231
 t218:=Tryz.underlying244
 a218:=Tryz.isAgg244
 z218:=Tryz.sizeOf244
 v218:=Tryz.zeroValue244
 t222:=Tryz.underlying248
 a222:=Tryz.isAgg248
 z222:=Tryz.sizeOf248
 v222:=Tryz.zeroValue248
 t228:=Tryz.underlying252
 a228:=Tryz.isAgg252
 z228:=Tryz.sizeOf252
 v228:=Tryz.zeroValue252
 t229:=Tryz.underlying133
 a229:=Tryz.isAgg133
 z229:=Tryz.sizeOf133
 v229:=Tryz.zeroValue133 }
def GW:Go.Shelf.Ren:=⟨fun|15=>156|n=>n,fun|22=>33|3=>3|4=>4|n=>n,fun|n=>n⟩
theorem Yw:Go.Proofs.Lays2.n15 Tryz.prog GW:={
 mixed:=by kernel_rfl
 f15:=Tryz.func156.trans (B8 some (by kernel_rfl))
 t3:=Tryz.underlying3
 a3:=Tryz.isAgg3
 z3:=Tryz.sizeOf3
 v3:=Tryz.zeroValue3
 t4:=Tryz.underlying4
 a4:=Tryz.isAgg4
 z4:=Tryz.sizeOf4
 v4:=Tryz.zeroValue4
 t22:=Tryz.underlying33
 a22:=Tryz.isAgg33
 z22:=Tryz.sizeOf33
 v22:=Tryz.zeroValue33
 i3:=by kernel_rfl }
def GX:Go.Shelf.Ren:=⟨fun|20=>158|n=>n,fun|22=>33|3=>3|4=>4|0=>0|n=>n,fun|n=>n⟩
theorem IJ:Go.Proofs.Lays2.n20 Tryz.prog GX:={
 mixed:=by kernel_rfl
 f20:=Tryz.func158.trans (B8 some (by kernel_rfl))
 t0:=Tryz.underlying0
 a0:=Tryz.isAgg0
 z0:=Tryz.sizeOf0
 v0:=Tryz.zeroValue0
 t3:=Tryz.underlying3
 a3:=Tryz.isAgg3
 z3:=Tryz.sizeOf3
 v3:=Tryz.zeroValue3
 t4:=Tryz.underlying4
 a4:=Tryz.isAgg4
 z4:=Tryz.sizeOf4
 v4:=Tryz.zeroValue4
 t22:=Tryz.underlying33
 a22:=Tryz.isAgg33
 z22:=Tryz.sizeOf33
 v22:=Tryz.zeroValue33
 i3:=by kernel_rfl }
open Go.Sort
section
variable {I:Nat->Nat->Prop} {θ:Nat->Option (Nat×Nat)} {w w':World}
theorem TR(I:Nat->Nat->Prop)(θ:Nat->Option (Nat×Nat))(w:World):G6 I (Ac []) θ w:=
 ⟨(λ_ _ _ h=>by cases h),(λ_ _ _ _ h=>by cases h),(λ_ _ _ _ _ h=>(h rfl).elim),(λ_ _ _ _ _ h=>by cases h),(λ_ _ h=>by cases h),(λ_ _ _ h=>by cases h)⟩
theorem dn{own:Nat->Option Own}{zs:Array Value}{x:AV}(h:RepL I own θ w zs.toList [x]):∃ v,zs = #[v]/\Rep I own θ w v x:=by
 obtain⟨l⟩:=zs
 cases h with
 | cons h1 h2=>cases h2;exact⟨_,rfl,h1⟩
theorem Vd(hb:Below w.heap.size w w')(hval:∀ b o,I b o->∃ u,w.cell? ⟨b,o,none⟩=some u){N:Nat->Nat->Prop}(hN:∀ b o,N b o->w.heap.size<=b/\∃ u,w'.cell? ⟨b,o,none⟩=some u) :
  Chg (Ac []) θ I w (Ac []) θ (λb o=>I b o\/N b o) w':=
 have hcell:∀ b o,I b o->w'.cell? ⟨b,o,none⟩=w.cell? ⟨b,o,none⟩:=λb o hi=>by
  obtain⟨u,hu⟩:=hval b o hi;exact BD (a:=⟨b,o,none⟩) (hb.block b (L9 hu))
 {imm:=λ_ _ h=>.inl h,cell:=hcell,le:=λ_ _ h=>(by cases h),rel:=TR _ _ _,
  valid:=λb o hi=>by
   rcases hi with hi|hi
   ·obtain⟨u,hu⟩:=hval b o hi;exact⟨u,(hcell b o hi).trans hu⟩
   ·exact(hN b o hi).2,
  os:=hb.os,tape:=hb.tape,output:=hb.output,drawn:=λh=>h.elim,grow:=hb.size,frame:=λb hlt _=>hb.block b hlt,new:=λ_ _ _ h=>(h rfl).elim,
  immNew:=λb o hi=>by
   rcases hi with hi|hi
   ·exact .inl hi
   ·exact .inr (.inl (hN b o hi).1) }
end
theorem W0{w W:World}{g n:Nat}{os:Array Obj}{d:Array Int}(hb:Below w.heap.size w W)(hg:w.heap.size<=g):Below w.heap.size w (grow (putRow (Value.int .i64) (Sort.ahead W n) g 0 d) os):=by
 have k:=grownBy_sortedI (w:=W) (g:=g) (n:=n) (os:=os) d;refine hb.trans ⟨k.os,k.tape,k.output,k.size,λb hlt=>k.block b (Nat.lt_of_lt_of_le hlt hb.size) (λe=>?_)⟩;have:=OI e;omega
def KL(w W:World)(g cap n:Nat)(zs:List Int):Prop:=
 Below w.heap.size w W/\w.heap.size<=g/\∃ cur,W.heap[g]?=some (.cells cur 3 (0,0))/\n<=cap/\cap<=maxLen/\cur.size=cap/\cur.toList.take zs.length=zs.map (Value.int .i64)/\zs.length=n
theorem WS{w W:World}{v:Value}{n:Nat}{zs:List Int}(h:W.ownsRow w.heap.size 3 1 v n (zs.map (Value.int .i64)))(hne:v≠.slice none 0 0)(hb:Below w.heap.size w W):∃ g cap,v = .slice (some ⟨g,0,none⟩) n cap/\KL w W g cap n zs:=by
 have hl:zs.length=n:=by have:=h.1;simpa using this
 rcases h.2 with⟨rfl,_⟩|⟨g,cap,cur,rfl,hg,hcur,hcap,hmax,hsz,ht⟩
 ·exact(hne rfl).elim
 ·rw[Rw]at hsz ht;exact⟨g,cap,rfl,hb,hg,cur,hcur,hcap,hmax,hsz,by rw[hl];exact ht,hl⟩
theorem cG(ad:Addr)(c:Nat)(w:World):Calls Tryz.prog 156 #[.slice (some ad) 0 c] w λe W=>∃ g cap,e = .returned (.slice (some ⟨g,0,none⟩) 0 cap)/\KL w W g cap 0 []:=
 (Any.slices_Clone_int_zero Yw ad c w).mono λe W ⟨v,he,hown,hne,hb⟩=>by
  obtain⟨g,cap,rfl,h⟩:=WS (zs:=[]) hown hne hb;exact⟨g,cap,he,h⟩
theorem fm(b off n c:Nat)(zs:List Int)(w:World)(hz:zs.length=n)(hbig:n<=17592186044416)(hc:∀ j,j<n->w.cell? ⟨b,off+j,none⟩=some (.int .i64 (zs.getD j 0))) :
  Calls Tryz.prog 156 #[.slice (some ⟨b,off,none⟩) n c] w λe W=>∃ g cap,e = .returned (.slice (some ⟨g,0,none⟩) n cap)/\KL w W g cap n zs:=
 (Any.slices_Clone_int Yw b off n c zs w (by omega) (by omega) (λj hj=>hc j (by omega))).mono λe W ⟨v,he,hown,hne,hb⟩=>by
  rw[show zs.take n=zs by rw[<- hz];exact BG ..]at hown;obtain⟨g,cap,rfl,h⟩:=WS hown hne hb;exact⟨g,cap,he,h⟩
theorem jx{w W:World}{g cap n:Nat}{zs:List Int}(h:KL w W g cap n zs)(hbig:n<=17592186044416):Calls Tryz.prog 157 #[.slice (some ⟨g,0,none⟩) n cap] W λe W2=>e = .returned (.tuple #[])/\KL w W2 g cap n (zs.mergeSort λx y=>decide (x<=y)):=by
 obtain⟨hb,hg,cur,hcur,hcap,hmax,hsz,ht,rfl⟩:=h;refine(Any.slices_Sort_int WG g 0 cap zs W (holds_of_blockI hcur ht) (W9 hcur) (by omega)).mono λe W2 ⟨he,q,os,hW⟩=>⟨he,?_⟩;subst hW;have hl:(zs.mergeSort λx y=>decide (x<=y)).length=zs.length:=List.length_mergeSort ..;have b2:=W0 (n:=q) (os:=os) (d:=(zs.mergeSort λx y=>decide (x<=y)).toArray) hb hg;exact⟨b2,hg,_,heap_sortedI _ hcur,hcap,hmax,by simp[putCells,hsz],take_putCellsI cur _ (by omega),hl⟩
theorem YL{w W:World}{g cap n:Nat}{zs:List Int}(h:KL w W g cap n zs)(hbig:n<=17592186044416):Calls Tryz.prog 158 #[.slice (some ⟨g,0,none⟩) n cap] W λe W2=>e = .returned (.slice (some ⟨g,0,none⟩) (Lib.compact zs).length cap)/\KL w W2 g cap (Lib.compact zs).length (Lib.compact zs):=by
 obtain⟨hb,hg,cur,hcur,hcap,hmax,hsz,ht,rfl⟩:=h;refine(Any.slices_Compact_int IJ g 0 cap zs W (holds_of_blockI hcur ht) (by omega) hcap).mono λe W2 ⟨he,q,hW⟩=>⟨he,?_⟩;subst hW;have hcl:=Lib.compact_length_le zs
 generalize Lib.compact zs=cs at hcl ⊢
 generalize hts:cs++List.replicate (zs.length-cs.length) (0:Int)=ts
 have htl:ts.length=zs.length:=by rw[<- hts,Fg,X7];omega
 have b2:=W0 (n:=q) (os:=#[]) (d:=ts.toArray) hb hg;have h2:=heap_sortedI (n:=q) (os:=#[]) ts.toArray hcur;rw[grow_empty]at b2 h2;have h3:=take_putCellsI cur ts (by omega);refine⟨b2,hg,_,h2,by omega,hmax,by simp[putCells,hsz],?_,rfl⟩;have:=B8 (List.take cs.length) h3;rw[List.take_take,Nat.min_eq_left (by omega),<- List.map_take,<- hts,List.take_left' rfl]at this;rw[<- hts];exact this
def fJ(w w':World)(v:Value)(r:List Int):Prop:=
 (v = .slice none 0 0/\r=[])\/∃ g cap,v = .slice (some ⟨g,0,none⟩) r.length cap/\KL w w' g cap r.length r
set_option maxHeartbeats 4000000 in
set_option maxRecDepth 100000 in
theorem eI(a:Option Addr)(n c:Nat)(zs:List Int)(w:World)(hz:zs.length=n)(hn:a=none->n=0)(hbig:n<=17592186044416)
  (hc:0<n->∃ b off,a=some ⟨b,off,none⟩/\∀ j,j<n->w.cell? ⟨b,off+j,none⟩=some (.int .i64 (zs.getD j 0))) :
  Calls Tryz.prog 116 #[.slice a n c] w λe w'=>∃ v,e = .returned v/\Below w.heap.size w w'/\fJ w w' v (Lib.compact (zs.mergeSort λx y=>decide (x<=y))):=by
 cases a with
 | none=>
  obtain rfl:=hn rfl;obtain rfl:zs=[]:=zzL107.1 hz
  have hr:Lib.compact (([]:List Int).mergeSort λx y=>decide (x<=y))=[]:=by simp[Lib.compact,Lib.compactUpTo]
  rw[hr];have h1:Calls Tryz.prog 156 #[.slice none 0 c] w λe w'=>e = .returned (.slice none 0 0)/\w'=w:=Any.slices_Clone_int_nil Yw 0 c w;have h2:Calls Tryz.prog 157 #[.slice none 0 0] w λe w'=>e = .returned (.tuple #[])/\w'=w:=Any.slices_Sort_int_none WG none 0 w;have h3:Calls Tryz.prog 158 #[.slice none 0 0] w λe w'=>e = .returned (.slice none 0 0)/\w'=w:=Any.slices_Compact_int_empty IJ none 0 w
  go_enter Tryz.func116,Tryz.ntmps116
  go_wp2_with (first
   | (go_at_call 156;refine h1.mono ?_;rintro e W ⟨rfl,rfl⟩)
   | (go_at_call 157;refine h2.mono ?_;rintro e W ⟨rfl,rfl⟩)
   | (go_at_call 158;refine h3.mono ?_;rintro e W ⟨rfl,rfl⟩))
  go_ret
  exact⟨_,rfl,Below.refl _ _,.inl ⟨rfl,rfl⟩⟩
 | some ad=>
  have h1:Calls Tryz.prog 156 #[.slice (some ad) n c] w λe W=>∃ g cap,e = .returned (.slice (some ⟨g,0,none⟩) n cap)/\KL w W g cap n zs:=by
   by_cases h0:n=0
   ·subst h0;obtain rfl:zs=[]:=zzL107.1 hz;exact cG ad c w
   ·obtain⟨b,off,hab,hcell⟩:=hc (by omega);obtain rfl:=OI hab;exact fm b off n c zs w hz hbig hcell
  go_enter Tryz.func116,Tryz.ntmps116
  go_wp2_with (first
   | (go_at_call 156;refine h1.mono ?_;rintro e W ⟨g,cap,rfl,hO⟩)
   | (go_at_call 157;refine(jx hO hbig).mono ?_;rintro e W2 ⟨rfl,hO2⟩)
   | (go_at_call 158;refine(YL hO2 hbig).mono ?_;rintro e W3 ⟨rfl,hO3⟩))
  go_ret
  exact⟨_,rfl,hO3.1,.inr ⟨_,_,rfl,hO3⟩⟩
def SY(x:Int):List Int->List Int
 | []=>[x]
 | y::l=>if x<=y then x::y::l else y::SY x l
def cn:List Int->List Int
 | []=>[]
 | x::l=>SY x (cn l)
theorem insI_perm(x:Int):∀ l,(SY x l).Perm (x::l)
 | []=>.refl _
 | y::l=>by
  unfold SY
  split
  ·exact .refl _
  ·exact((insI_perm x l).cons y).trans (.swap x y l)
theorem WD{x:Int}:∀{l:List Int},l.Pairwise (·<=·)->(SY x l).Pairwise (·<=·)
 | [],_=>by simp[SY]
 | y::l,h=>by
  have h':=zzL122.1 h;unfold SY
  split
  ·rename_i hxy
   exact zzL122.2 ⟨λz hz=>by
    rcases zzL22.1 hz with rfl|hz
    ·exact hxy
    ·exact Int.le_trans hxy (h'.1 z hz),h⟩
  ·rename_i hxy
   refine zzL122.2 ⟨λz hz=>?_,WD h'.2⟩;rcases zzL22.1 ((insI_perm x l).mem_iff.1 hz) with rfl|hz
   ·omega
   ·exact h'.1 z hz
theorem II:∀ l,(cn l).Perm l
 | []=>.refl _
 | x::l=>(insI_perm x _).trans ((II l).cons x)
theorem WF:∀ l,(cn l).Pairwise (·<=·)
 | []=>.nil
 | x::l=>WD (WF l)
theorem WE(l:List Int):cn l=l.mergeSort λx y=>decide (x<=y):=by
 refine List.Perm.eq_of_pairwise (le:=(·<=·)) (λa b _ _ h1 h2=>Int.le_antisymm h1 h2) (WF l) ?_ ((II l).trans (List.mergeSort_perm l _).symm);have:=List.pairwise_mergeSort (le:=λ(x y:Int)=>decide (x<=y)) (λa b c h1 h2=>by simp at *;omega) (λa b=>by simp;omega) l
 exact this.imp λh=>by simpa using h
def X6(l:List Int):Option (List Int):=Cg (l.length<=17592186044416) (some (Lib.compact (cn l)))
theorem UN(l r:List Int)(h:X6 l=some r):Spec Tryz.prog 116 [AV.list 1 (λx=>[.int .i64 x]) (0:Int) l .none] [] (AV.list 1 (λx=>[.int .i64 x]) (0:Int) r .none) []:=by
 obtain⟨hlen,h⟩:=Nw h;rw[WE]at h;obtain rfl:=OI h;refine⟨enters_of Tryz.func116 (by kernel_rfl) rfl,λw I θ zs hargs _ hval _=>?_⟩;obtain⟨v,rfl,hv⟩:=dn hargs;obtain⟨_,a,cap,us,rfl,hcap,hmax,hz,hnn,h1,hl,hr⟩:=hv.slice_val.slice_inv
 have hint:∀ i,i<l.length->us i = .int .i64 (l.getD i 0):=λi hi=>by
  have:=hr i 0 hi (by omega);rw[Rw,Lt]at this;have h2:RepV I w (us i) (.int .i64 (l.getD i 0)):=this;exact Rep.int_inv (own:=Ac []) (θ:=θ) (.val _ _ h2)
 refine(eI a l.length cap l w rfl (λha=>by have:=hnn ha;omega) hlen (λhp=>?_)).mono λe w' ⟨v,he,hb,hout⟩=>?_
 ·obtain⟨b,rfl,hs,_,hcell⟩:=hz hp;obtain⟨blk,off,spot⟩:=b;simp only at hs hcell;subst hs;exact⟨blk,off,rfl,λj hj=>by rw[hcell j (by omega),hint j hj]⟩
 ·generalize Lib.compact (l.mergeSort λx y=>decide (x<=y))=r at hout ⊢
  rcases hout with⟨rfl,rfl⟩|⟨g,cap',rfl,_,hg,cur,hcur,hc1,hc2,hc3,htake,_⟩
  ·exact⟨_,_,θ,he,Vd hb hval (N:=λ_ _=>False) (λ_ _ h=>h.elim),.val _ _ (.slice none 0 0 1 _ (λ_=>undef) (zzL8 _) (Lu _) (λh=>by cases h) (λ_=>rfl) (λj hj=>by simp at hj) (λi hi=>by cases hi) (λi c hi=>by cases hi))⟩
  ·have hcell:∀ j,j<r.length->w'.cell? ⟨g,j,none⟩=some (.int .i64 (r.getD j 0)):=λj hj=>by
    rw[Kr _ _ _ cur 3 (0,0) hcur]
    have h2:(cur.toList.take r.length)[j]?=(r.map (Value.int .i64))[j]?:=by rw[htake]
    rw[List.getElem?_take_of_lt hj,Array.getElem?_toList]at h2;rw[h2];simp[List.getD,hj]
   refine⟨_,_,θ,he,Vd hb hval (N:=λb o=>b=g/\o<r.length) (λb o ⟨hbg,ho⟩=>⟨by omega,by subst hbg;exact⟨_,hcell o ho⟩⟩),.val _ _ (.slice (some ⟨g,0,none⟩) r.length cap' 1 _ (λj=>.int .i64 (r.getD j 0)) hc1 hc2 (λ_=>⟨⟨g,0,none⟩,rfl,rfl,λj hj=>.inr ⟨rfl,by simpa using hj⟩,λj hj=>by rw[Fh];exact hcell j (by omega)⟩) (λh=>by cases h) (λ_ _=>rfl) (λ_ _=>rfl) (λi c hi hc=>?_))⟩
   obtain rfl:c=0:=by omega
   rw[Rw,Lt];exact .int _ _
abbrev A4:=List Int
abbrev Ol:=List (List Int)
def Fm:=[30000,37006,9100005]
def Va:=[(30000,30000),(37006,37006),(9100005,9100005)]
def Fq:=[30000,37006]
def M5:=[3,30000,37006,9100005]
def Ku:=[2,5,6,25,36007]
def Pv:=[6,30000,37006,9100005]
def RD:=[(30000,30000),(9100000,9100000),(9100001,9100001)]
def Oo:=[3,4,6,7,5700]
def BX:=[(30000,30000),(37006,37006)]
def Kv:=[2,13,21]
def Lm:=[8,30000,37006]
def Io:=[1,7,8,9]
def Sc:=[30000,37006,13000005]
def Ua:=[3,4,6,7,5700,30000]
def Lv:=[2,3,4,6,7]
def Yd:=[3,5,30000,37006,9100005]
def Ye:=[0,4,6,21,22,30,31,32]
def Yf:=[4,30000,9100000,9100001]
def Vy:=[2,5,6,7,26,27,28]
def BI:=[5,30000,37006,9100005]
def XD:=[0,2,3,8,9,16,17,18,54,55,56,62,63,64]
def XE:=[0,2,3,5,16,17,18,24,25,26,31,32,33]
def JW:=[4,7,30000,9100000,9100001]
def Vz:=[2,5,6,7,8,9]
def JX:=[3,9,30000,37006,9100005]
def Yg:=[2,3,5300,34000]
def QY:=[3,7,10,11,12,17,18,19,25]
def Ub:=[2,5,6,7,8]
def Uc:=[1,3,4,5,6]
def QZ:=[0,2,3,16,17,18,24,25,26]
def RA:=[0,2,3,16,17,18,54,55,56]
def Hr:=[0,1]
def eY:=[(30000,30000),(37006,37006),(13000005,9200005)]
def eZ:=[(30000,30000),(37006,37006),(9300005,9200005)]
def Ph:=[10,70010]
def XF:=[3,7,10,11,12,17,18,19,24,25]
def Qh:=[8,13,15]
def Jf:=[2,3]
def Yh:=[3,10,11,12]
def RB:=[3,10,11,12,17,18,19]
def BJ:=[1,7,8,9,10]
def JY:=[3,31,30000,37006]
def BK:=[1,6,7,8,9]
def XG:=[3,4,11,12,13,18,19,20]
def XH:=[0,5,12,13,14,18,19,20]
def XI:=[6,7,30000,37006,9100005]
def GJ:=[1,7,8,9,16]
def V0:=[0,21,22]
def JZ:=[31,30000,37006]
def KA:=[2,3,4,6,7,8]
def RC:=[0,2,3,16,17,18]
def Mt:=[7,8]
def ea:=[0,4,6,21,22,30,31,32,33]
def eb:=[0,4,6,21,22,30,31,32,40]
def KB:=[0,5,8,9,10]
def ed:=[0,4,6,8,21,22,30,31,32]
def ee:=[4,6,30000,9100000,9100001]
def jV:=[(30000,30000),(37006,37006),(8,9200005)]
def V1:=[2,5,6]
def KC:=[0,16,17,18]
def XJ:=[2,5,6,7,8,9,10]
def eg:=[6,8,30000,37006,9100005]
def RE:=[3,30000,37006]
def XK:=[2,4,5,18,19,20]
def KD:=[0,1,12,13]
def GK:=[0,2,3,4]
def BL:=[0,1,10]
def RF:=[(30000,30000)]
def XL:=[1,3,8,9,10,11]
def Qi:=[6,7]
def eh:=[2,3,4,6,7,8,11,66]
def RG:=[3,11,12,13]
def RH:=[0,12,13,14]
def RI:=[6,18,19,25]
def ei:=[2,3,4,6,7,8,9,10]
def Sd:=[4,5]
def KE:=[2,5,6,7]
def KF:=[18,19,20]
def XM:=[14,17,10000305]
def Se:=[1,8]
def V2:=[2,16]
def jW:=[2,5,6,7,9,10,26,27,28,44]
def GL:=[1,4,22]
def ek:=[30000,37006,9300005]
def en:=[2,3,4,6,7,8,11]
def RJ:=[2,3,34000]
def XN:=[0,1,3,9,10]
def ep:=[0,1,5,14,15,16]
def er:=[2,3,4,6,7,8,9]
def GM:=[2,3,4]
def jX:=[2,5,6,7,9,10,26,27,28]
def jY:=[4,5,30000,9100000,9100001]
def V3:=[0,3]
def XO:=[0,15,16,17]
def XP:=[0,21,22,23]
def et:=[2,3,4,6,7,37]
def jZ:=[2,5,6,7,26,27,28,29]
def RK:=[5,18,19]
def RL:=[6,18,19]
def Yi:=[1,2]
def Zy:=[1,2,5]
def UU:=[1,2,15,16,17]
def eU:=[2,5,6,7,9,26,27,28]
def Zz:=[1,3,4]
def UV:=[0,1,32,33,34]
def eV:=[10,30000,37006,9100005]
def Z0:=[4,5,6]
def MS:=[2,5,6,25]
def eW:=[2,5,6,7,8,9,10,60]
def eX:=[4,30000,37006,9100005]
def UW:=[0,3,4,14,15]
def UX:=[0,4,6,21,22]
def MT:=[0,2,7,8]
def UY:=[(34001,34001)]
def AA:=[18,19]
def MU:=[3,7,8,9]
def UZ:=[2,3,4,6,19]
def MV:=[3,4,6,7]
def MW:=[6,7,5700]
def VA:=[1,3,8,9,10]
def VB:=[1,23,24,25]
def GH:=[0,2,3]
def GI:=[0,1,5]
def VC:=[3,38,39,40]
def VD:=[0,37,38,39]
def VE:=[3,4,7,8,9]
def VF:=[0,6,21,22]
set_option maxRecDepth 100000
set_option maxHeartbeats 2000000
def Az(x:Int):List AV:=[(.int .i64 x)]
def Yt(x:Int):List AV:=[(.int .u64 x)]
structure Ag where
 V:Int
 Scale:Int
 deriving Inhabited,DecidableEq
def Db(x:Ag):List AV:=[(.int .i64 x.V),(.int .u64 x.Scale)]
def f6(x:List Ag):List AV:=[(AV.list 2 Db default x .none)]
structure TForm where
 Terms:List Ag
 Off:Int
 deriving Inhabited,DecidableEq
def eTForm(x:TForm):List AV:=[(AV.list 2 Db default x.Terms .none),(.int .u64 x.Off)]
def Ik(x:A4):List AV:=[(AV.list 1 Az 0 x .none)]
structure D1 where
 Kind:Int
 Bits:Int
 Lanes:Int
 Dst:Int
 Args:A4
 Imm:Int
 deriving Inhabited,DecidableEq
def NZ(x:D1):List AV:=[(.int .i64 x.Kind),(.int .i64 x.Bits),(.int .i64 x.Lanes),(.int .i64 x.Dst),(AV.list 1 Az 0 x.Args .none),(.int .u64 x.Imm)]
structure Hs where
 Bits:Int
 Dst:Int
 From:A4
 Args:A4
 deriving Inhabited,DecidableEq
def DP(x:Hs):List AV:=[(.int .i64 x.Bits),(.int .i64 x.Dst),(AV.list 1 Az 0 x.From .none),(AV.list 1 Az 0 x.Args .none)]
structure Ju where
 Kind:Int
 Arg:Int
 To:A4
 deriving Inhabited,DecidableEq
def cR(x:Ju):List AV:=[(.int .i64 x.Kind),(.int .i64 x.Arg),(AV.list 1 Az 0 x.To .none)]
structure An where
 Phis:List Hs
 Ops:List D1
 End:Ju
 deriving Inhabited,DecidableEq
def Gn(x:An):List AV:=[(AV.list 4 DP default x.Phis .none),(AV.list 6 NZ default x.Ops .none),(.int .i64 x.End.Kind),(.int .i64 x.End.Arg),(AV.list 1 Az 0 x.End.To .none)]
structure Ab where
 Params:A4
 Ret:Int
 Blocks:List An
 deriving Inhabited,DecidableEq
def Ys(x:Ab):List AV:=[(AV.list 1 Az 0 x.Params .none),(.int .i64 x.Ret),(AV.list 5 Gn default x.Blocks .none)]
abbrev G2:=(Int×Int)
def Bs(x:G2):List AV:=[(.int .i64 x.1),(.int .i64 x.2)]
structure Hg where
 block:Int
 at_:Int
 deriving Inhabited,DecidableEq
def CH(x:Hg):List AV:=[(.int .i64 x.block),(.int .i64 x.at_)]
structure A6 where
 v:Int
 shape:G2
 place:Hg
 deriving Inhabited,DecidableEq
def Jq(x:A6):List AV:=[(.int .i64 x.v),(.int .i64 x.shape.1),(.int .i64 x.shape.2),(.int .i64 x.place.block),(.int .i64 x.place.at_)]
structure C5 where
 Succ:Ol
 Pred:Ol
 deriving Inhabited,DecidableEq
def Qr(x:C5):List AV:=[(AV.list 1 Ik [] x.Succ .none),(AV.list 1 Ik [] x.Pred .none)]
def eB(x:Bool):List AV:=[(.bool x)]
structure Aj where
 shape:G2
 place:Hg
 deriving Inhabited,DecidableEq
def Qs(x:Aj):List AV:=[(.int .i64 x.shape.1),(.int .i64 x.shape.2),(.int .i64 x.place.block),(.int .i64 x.place.at_)]
structure Dn where
 Scale:A4
 Off:Int
 deriving Inhabited,DecidableEq
def Dc(x:Dn):List AV:=Gq 1024 (λi=>Yt (x.Scale.getD i 0))++(([(.int .u64 x.Off)]:List AV)++([]:List AV))
theorem Ct(x:Dn):∀ k,AV.eraseAll k (Dc x)=Dc x:=LE (WB λ_ _=>rfl) (LE (λ_=>rfl) (λ_=>rfl))
theorem Lj(x:Dn):bU (Dc x) 0 1024 1 (λi=>Yt (x.Scale.getD i 0)):=dz (λ_ _=>rfl)
theorem Tv(x:Dn)(i:Int)(hi:Bx i 1024)(v:Int):(Dc x).take (0+i.toNat*1)++Yt v++(Dc x).drop (0+i.toNat*1+(Yt v).length)=Dc ⟨Ha 1024 (0:Int) x.Scale i.toNat v,x.Off⟩:=dg (λ_ _=>rfl) (J4 hi) rfl (kV (J4 hi)) iK
theorem MK(x:Dn)(v:Int):(Dc x).take 1024++Yt v++(Dc x).drop (1024+(Yt v).length)=Dc ⟨x.Scale,v⟩:=(dh (k:=1024) (o:=0) (j:=0) (Ki (n:=1024) (sz:=1) (λ_ _=>rfl)) rfl)
structure TDef where
 V:Int
 Block:Int
 At:Int
 Shape:G2
 deriving Inhabited,DecidableEq
structure Nf where
 V:Int
 Block:Int
 At:Int
 Shape:G2
 deriving Inhabited,DecidableEq
structure ml where
 Op:List D1
 Found:List Bool
 Form:List TForm
 deriving Inhabited,DecidableEq
theorem mix:Tryz.prog.follows .mixedOrders=true:=by kernel_rfl
abbrev sP:=Spec Tryz.prog
abbrev UO:=(Nat×Own)
theorem sG {f : FuncId} {fn : Func} {args : List AV} {H H' : List UO} {res : AV} (hf : Tryz.prog.funcs[f]? = some fn) (k : ∀ Γ : G5, RgQ Tryz.prog Γ fn.ntmps H → GG Tryz.prog Γ (fK Tryz.prog Γ fn.results.toList H res H') (gM (KZ fn) []) (Yv args H)) (hb : fn.body.isSome = true := by kernel_rfl) (hname : (fn.name == "runtime.NumGoroutine") = false := by kernel_rfl) (hlen : Nat.ble args.length fn.ntmps = true := by kernel_rfl) (hpl : FE H = true := by kernel_rfl) : sP f args H res H' := Zh mix hf k hb hname hlen hpl
def Z1:=λza zb zc zd zf zg zm=>((30000,.row 110 [(AV.list 1 Az 0 za .none),(.int .i64 zb),(AV.list 5 Gn default zc .none),(.int .i64 zd),(AV.list 1 Az 0 zf .none),(.omap zg),(AV.list 5 Jq default zm (.own 37006))]):Nat×Own)
def Z2:=λza=>(⟨[],[],(.bool za),[],[],[]⟩:Ss)
def Z3:=λza zb zc zd zf zg zm=>([(30000,.row 110 [(AV.list 1 Az 0 za .none),(.int .i64 zb),(AV.list 5 Gn default zc .none),(.int .i64 zd),(AV.list 1 Az 0 zf .none),.nilm,(AV.list 5 Jq default zg (.own 37006))]),(37006,.tok 5 195 zm)]:List UO)
def Z4:=λza (zb:A4)=>((za,.arr 1 3 zb.length (λi=>Az (zb.getD i 0))):Nat×Own)
def Z5:=([(.slice 0 0 (λ_=>[]) .exact),(.int .u64 (0:Int))]:List AV)
def Z6:=λza=>((AV.list 2 Bs ((0:Int),(0:Int)) za .none):AV)
def Z7:=λza=>((.int .i64 za):AV)
def Z8:=λza=>((37006,.tok 5 195 za):Nat×Own)
def Z9:=λza=>((AV.list 2 Db default za .none):AV)
def Qj:=λza=>((AV.list 1 Az 0 za .none):AV)
def RO:=((30000,.row 80 [(.omap 9100000),(.omap 9100001)]):Nat×Own)
def XW:=((AV.list 2 Db default ([]:List Ag) .exact):AV)
def lZ:=λza zb zc zd zf zg zm zn=>(⟨[(30000,30000),(37006,37006),(9100005,9100005)],[],(.tuple []),[(Z1 za zb zc zd zf 9100005 zg),(Z8 zm),(9100005,.obj (.map false .i64 zn))],[],[]⟩:Ss)
def Ln:=λza=>((.agg (eTForm za)):AV)
def lc:=λza zb zc zd zf zg=>((30000,.row 110 [(Qj za),(Z7 zb),(AV.list 5 Gn default zc .none),(Z7 zd),(Qj zf),(.omap 8),(AV.list 5 Jq default zg (.own 37006))]):Nat×Own)
def fZ:=λza zb=>([(10,.arr 1 33 za (M1 1 Az (0:Int) zb (Tag.fam 70010)))]:List UO)
def Py:=λza=>((.agg (Qs za)):AV)
def mn:=λza (zb:A4) (zc:A4)=>((.slice 1 (bif za then zb.length else zc.length) (λi=>bif za then Az (zb.getD i 0) else Az (zc.getD i 0)) .none):AV)
def Ot:=((.int .i64 (0:Int)):AV)
def fa:=λza zb zc=>([(AV.list 2 Db default za (.own zb)),(.int .u64 zc)]:List AV)
def ld:=λza zb zc zd zf zg zm zn zp=>([(Z1 za zb zc zd zf zg zm),(Z8 zn),(zg,.obj (.map false .i64 zp))]:List UO)
def RP:=λza=>((AV.list 1 Ik [] za .none):AV)
def Hc:=λza=>((.int .u64 za):AV)
def ND:=λza=>(⟨[],[],(Ln za),[],[],[]⟩:Ss)
def ay:=λza=>((AV.list 5 Gn default za .none):AV)
def nP:=λza (zb:List A6) (zc:List A6)=>((.slice 5 (bif za then zb.length else zc.length) (λi=>bif za then Jq (zb.getD i default) else Jq (zc.getD i default)) (.own 37006)):AV)
def U3:=((.int .u64 (0:Int)):AV)
def RQ:=λza zb=>((AV.list 1 Az 0 za (.own zb)):AV)
def oA:=λza zb zc zd zf zg=>(⟨[(2,(.clo za [] [])),(3,(.ptr 3 0)),(4,(.ptr 4 0)),(6,(.ptr 6 0)),(7,(.ptr 7 0))],[(3,.row 25 [(Z9 zb),(Hc zc)]),(4,.row 25 [(Z9 zd),(Hc zf)]),(6,.row 25 Z5),(7,.row 25 [(AV.list 2 Db default ([]:List Ag) (.own 5700)),(Hc zg)]),(5700,.tok 2 51 (([]:List Ag).length))],[]⟩:St)
def io:=λza zb=>((.agg (Qs (mget (default:Aj) za zb))):AV)
def XX:=λza=>(⟨[],[],(Z6 za),[],[],[]⟩:Ss)
def XY:=((.slice 0 0 (λ_=>[]) .exact):AV)
def KS:=λza zb zc zd zf zg zm=>([(Z1 za zb zc zd zf 9100005 zg),(Z8 zm)]:List UO)
def jh:=((AV.list 1 Az 0 ([]:A4) .exact):AV)
def Ws:=λza=>((.agg (NZ za)):AV)
def ji:=((AV.list 2 Db default ([]:List Ag) .none):AV)
def mo:=((AV.list 2 Bs ((0:Int),(0:Int)) ([]:List G2) .exact):AV)
def XZ:=λza=>(⟨[],[],(Z7 za),[],[],[]⟩:Ss)
def DA:=λza=>((.agg (Bs za)):AV)
def HS:=((2,(.ptr 2 0)):Nat×AV)
def oB:=λza (zb:List An) (zc:List An)=>((.slice 5 (bif za then zb.length else zc.length) (λi=>bif za then Gn (zb.getD i default) else Gn (zc.getD i default)) .none):AV)
def VM:=λza=>((30000,.row 23 [(Hc za)]):Nat×Own)
def bB:=λza zb=>((za,.obj (.map true .i64 zb)):Nat×Own)
def nQ:=λza zb zc zd zf zg zm zn zp=>(⟨[(30000,30000),(37006,37006),(9100005,9100005)],[],(.agg (CH za)),(ld zb zc zd zf zg 9100005 zm zn zp),[],[]⟩:Ss)
def kw:=λza=>((AV.list 1 Az 0 ([za]:A4) .exact):AV)
def oC:=λza zb zc zd zf zg zm=>(⟨[(2,(.clo za [] [])),(3,(.ptr 3 0)),(4,(.ptr 4 0)),(6,(.ptr 6 0)),(7,(.ptr 7 0))],[(3,.row 25 [(Z9 zb),(Hc zc)]),(4,.row 25 [(Z9 zd),(Hc zf)]),(6,.row 25 Z5),(7,.row 25 [zg,(Hc zm)])],[]⟩:St)
def nR:=λza zb zc zd zf zg zm zn zp=>(⟨[(30000,30000),(37006,37006),(9100005,9100005)],[],(.bool za),(ld zb zc zd zf zg 9100005 zm zn zp),[],[]⟩:Ss)
def Yj:=((.ptr 30000 0):AV)
def lf:=λ(za:A4)=>((6,.arr 1 208 64 (λi=>Az (za.getD i 0))):Nat×Own)
def oD:=λza (zb:A4) (zc:A4)=>((.slice 1 (bif (za==true) then zb.length else zc.length) (λi=>bif (za==true) then Az (zb.getD i 0) else Az (zc.getD i 0)) .none):AV)
def mq:=λza zb zc zd zf zg zm zn=>(⟨[(30000,30000),(37006,37006)],[],(.bool za),(Z3 zb zc zd zf zg zm zn),[],[]⟩:Ss)
def nS:=λ(za:List G2)=>([(30,.arr 2 73 za.length (λi=>Bs (za.getD i ((0:Int),(0:Int)))))]:List UO)
abbrev iX:=(Nat×AV)
def nT:=λza zb=>([(72,(AV.list 2 Db default za .exact)),(73,(AV.list 2 Db default (zb++za) (.own 5700)))]:List iX)
def SA:=λza=>((.int .i64 (za:Int)):AV)
def bY:=((6,(.vpt 6 64 0 0)):Nat×AV)
def ip:=λza zb zc=>((.int .i64 (bif za then zb else zc)):AV)
def Z57:=(⟨[(4,(AV.list 1 Az 0 ([]:A4) (.own 6004)))],[(6004,.tok 1 3 (([]:A4).length))],[]⟩:St)
def kx:=λza zb=>(⟨[],[],(.tuple [(Hc za),(Z9 zb)]),[],[],[]⟩:Ss)
def bZ:=((5,(.vpt 5 64 0 0)):Nat×AV)
def nU:=λza zb=>(⟨[(30000,30000),(37006,37006)],[],(Z7 za),zb,[],[]⟩:Ss)
def RR:=((6,(.ptr 6 0)):Nat×AV)
def bC:=λza=>((6,.arr 1 208 64 za):Nat×Own)
def ba:=λza=>((5,.arr 1 207 64 za):Nat×Own)
def YA:=((4,(.ptr 4 0)):Nat×AV)

abbrev mS:=(LR (Int×Int) Int)
def K3(a4:Ab):G2->Option mS:=
 λ((i1,i2):G2)=>(bif (decide (i2<(a4.Blocks.length:Int))) then(Cg (Bx i2 a4.Blocks.length) (some (.next ((Bh (i1+(Bh ((((a4.Blocks.getD i2.toNat default).Phis).length:Int)+(((a4.Blocks.getD i2.toNat default).Ops).length:Int))))),(Bh (i2+1)))))) else(some (.done i1)))
def O1(a4:Ab):Option Int:=
 ((Ai (K3 a4) ((a4.Blocks.length:Int),(0:Int))).bind (λx5=>(some x5)))
variable{v0:Ab}{v1:Int}
theorem LW(h:O1 v0=some v1):sP 106 [(.agg (Ys v0))] [] (.int .i64 v1) []:=
 sG Tryz.func106 λΓ q=>tW q [1] [1] [1,3] [1] (Ao q Yh [] (tL q h Yh [] (λu (i1,i2)=>(Fn u [(3,(Z7 i1)),(12,(Z7 i2))] [])) (λu i3=>aG Γ (.exit 0) (⟨[(3,(Z7 i3))],[],[]⟩:St)) (λ⟨i1,i2⟩ y h=>Ao q [3,10,11,12,13] [] (gC h (λh=>tV q [3,5,10,11,12] [5] h λh=>tW q Yh [] Yh [] (tN h)) λh=>tS h (gO (D7 (Dv [3] [] q))))) λx5 h=>gA (Ao q [2] [] (tS h (C1 [])))))
def Gy(aA:A4):Int->Option (LR Int (Unit ⊕ Bool)):=
 λ(i1:Int)=>(bif (decide (i1<(aA.length:Int))) then(Cg (Bx i1 aA.length) (bif (bif (decide ((aA.getD i1.toNat 0)<0)) then true else(decide ((2147483647:Int)<(aA.getD i1.toNat 0)))) then(some (.done (.inr false))) else(some (.next (Bh (i1+1)))))) else(some (.done (.inl ()))))
def Wv(Γ:G5)(aA:A4)(r:Bool):Exit->St->Prop:=fK Tryz.prog Γ Tryz.f107.results.toList [] (.bool r) []
def C3(aA:A4):Option Bool:=
 ((Ai (Gy aA) (0:Int)).bind (λx3=>(match x3 with|(.inl _)=>(some true)|(.inr r5)=>(some r5))))
variable{v2:A4}{v3:Bool}
theorem Ez(h:C3 v2=some v3):sP 107 [(Qj v2)] [] (.bool v3) []:=
 sG Tryz.func107 λΓ q=>tW q [0] [] [5,6,7] [] (tL q h [5,6,7] [] (λu i1=>(Fn u [(7,(Z7 i1))] [])) (λu x_=>match x_ with|(.inl _)=>aG Γ (.exit 0) (⟨[],[],[]⟩:St)|(.inr r_)=>aR (Wv Γ v2 r_)) (λi1 y h=>Ao q [5,6,7,8] [] (gC h (λh=>tV q [4,5,6,7] [] h λh=>tU q [5,6,7,16] [] (c2 (gI ((decide ((v2.getD i1.toNat 0)<0))==false)) (U4 (decide ((v2.getD i1.toNat 0)<0)))) (gC h (λh=>Ao q [2] [] (tS h (gO (Sh (Ks [] (Le.refl _ _)))))) λh=>Ao q [5,6,7] [] (tN h))) λh=>tS h (gO (D7 (Dv [] [] q))))) λx3 h=>(match x3,h with | .inl _,h=>gA (Ao q [2] [] (tS h (C1 []))) | .inr r5,h=>Wa (λst' hk=>tS h (gK hk))))
def Fi(aA:A4):Option Bool:=
 ((bif ((decide ((aA.length:Int)<=64))==true) then C3 aA else some false).bind λx1=>(some (bif (decide ((aA.length:Int)<=64)) then x1 else false)))
theorem Jn(h:Fi v2=some v3):sP 179 [(Qj v2)] [] (.bool v3) []:=
 sG Tryz.func179 λΓ q=>Ao q [0] [] (tB h λx1 y1 h=>tT q [2] [] [(Z2 x1)] (c3 (gI ((decide ((v2.length:Int)<=64))==true)) (λ(hg:((decide ((v2.length:Int)<=64))==true)=true)=>(Ez (Bk hg y1))) (M6 (decide ((v2.length:Int)<=64)))) (tS h (C1 [])))
def K5(aW:Hs):Option Bool:=
 ((C3 ([aW.Bits,aW.Dst]:A4)).bind λx1=>((bif (x1==true) then Fi aW.From else some false).bind λx2=>((bif ((bif x1 then x2 else false)==true) then Fi aW.Args else some false).bind λx3=>(some (bif (bif x1 then x2 else false) then x3 else false)))))
variable{v4:Hs}
theorem BS(h:K5 v4=some v3):sP 150 [(.agg (DP v4))] [] (.bool v3) []:=
 sG Tryz.func150 λΓ q=>Ao q [1] [1] (tB h λx1 y1 h=>tB h λx2 y2 h=>tB h λx3 y3 h=>gR q [2] [] [(7,(AV.list 1 Az 0 ([v4.Bits,v4.Dst]:A4) .exact))] [(Z2 x1),(Z2 x2),(Z2 x3)] (YP (Cn 1 Az (0:Int) ([v4.Bits,v4.Dst]:A4)) (Ez y1) (Pz (x1==true) (YP (λ(hg:(x1==true)=true)=>(Jn (Bk hg y2))) (M6 x1) (Pz ((bif x1 then x2 else false)==true) (c2 (λ(hg:((bif x1 then x2 else false)==true)=true)=>(Jn (Bk hg y3))) (M6 (bif x1 then x2 else false))))))) (tS h (C1 [])))
def E4(aA:List Hs):Int->Option (LR Int (Unit ⊕ Bool)):=
 λ(i1:Int)=>(bif (decide (i1<(aA.length:Int))) then(Cg (Bx i1 aA.length) ((K5 (aA.getD i1.toNat default)).bind λx3=>(bif (!x3) then(some (.done (.inr false))) else(some (.next (Bh (i1+1))))))) else(some (.done (.inl ()))))
def Sg(Γ:G5)(aA:List Hs)(r:Bool):Exit->St->Prop:=fK Tryz.prog Γ Tryz.f149.results.toList [] (.bool r) []
def Gf(aA:List Hs):Option Bool:=
 ((Ai (E4 aA) (0:Int)).bind (λx4=>(match x4 with|(.inl _)=>(some true)|(.inr r6)=>(some r6))))
variable{v5:List Hs}
theorem Rn(h:Gf v5=some v3):sP 149 [(AV.list 4 DP default v5 .none),(.clo 150 [] [])] [] (.bool v3) []:=
 sG Tryz.func149 λΓ q=>tW q Hr [] Io [] (tL q h Io [] (λu i1=>(Fn u [(9,(Z7 i1))] [])) (λu x_=>match x_ with|(.inl _)=>aG Γ (.exit 0) (⟨[],[],[]⟩:St)|(.inr r_)=>aR (Sg Γ v5 r_)) (λi1 y h=>Ao q BJ [] (gC h (λh=>tV q BK [6] h λh=>tB h λx3 y3 h=>tT q GJ [] [(Z2 x3)] (c1 (BS y3)) (gC h (λh=>Ao q [4] [] (tS h (gO (Sh (Ks [] (Le.refl _ _)))))) λh=>Ao q Io [] (tN h))) λh=>tS h (gO (D7 (Dv [] [] q))))) λx4 h=>(match x4,h with | .inl _,h=>gA (Ao q [4] [] (tS h (C1 []))) | .inr r6,h=>Wa (λst' hk=>tS h (gK hk))))
def Mb(a2:D1):Option Bool:=
 ((C3 ([a2.Kind,a2.Bits,a2.Lanes,a2.Dst]:A4)).bind λx1=>((bif (x1==true) then Fi a2.Args else some false).bind λx2=>(some (bif x1 then x2 else false))))
variable{v6:D1}
theorem EQ(h:Mb v6=some v3):sP 152 [(Ws v6)] [] (.bool v3) []:=
 sG Tryz.func152 λΓ q=>Ao q [1] [1] (tB h λx1 y1 h=>tB h λx2 y2 h=>gR q [2] [] [(11,(AV.list 1 Az 0 ([v6.Kind,v6.Bits,v6.Lanes,v6.Dst]:A4) .exact))] [(Z2 x1),(Z2 x2)] (YP (Cn 1 Az (0:Int) ([v6.Kind,v6.Bits,v6.Lanes,v6.Dst]:A4)) (Ez y1) (Pz (x1==true) (c2 (λ(hg:(x1==true)=true)=>(Jn (Bk hg y2))) (M6 x1)))) (tS h (C1 [])))
def Fe(aA:List D1):Int->Option (LR Int (Unit ⊕ Bool)):=
 λ(i1:Int)=>(bif (decide (i1<(aA.length:Int))) then(Cg (Bx i1 aA.length) ((Mb (aA.getD i1.toNat default)).bind λx3=>(bif (!x3) then(some (.done (.inr false))) else(some (.next (Bh (i1+1))))))) else(some (.done (.inl ()))))
def Sv(Γ:G5)(aA:List D1)(r:Bool):Exit->St->Prop:=fK Tryz.prog Γ Tryz.f151.results.toList [] (.bool r) []
def Gx(aA:List D1):Option Bool:=
 ((Ai (Fe aA) (0:Int)).bind (λx4=>(match x4 with|(.inl _)=>(some true)|(.inr r6)=>(some r6))))
variable{v7:List D1}
theorem Sp(h:Gx v7=some v3):sP 151 [(AV.list 6 NZ default v7 .none),(.clo 152 [] [])] [] (.bool v3) []:=
 sG Tryz.func151 λΓ q=>tW q Hr [] Io [] (tL q h Io [] (λu i1=>(Fn u [(9,(Z7 i1))] [])) (λu x_=>match x_ with|(.inl _)=>aG Γ (.exit 0) (⟨[],[],[]⟩:St)|(.inr r_)=>aR (Sv Γ v7 r_)) (λi1 y h=>Ao q BJ [] (gC h (λh=>tV q BK [6] h λh=>tB h λx3 y3 h=>tT q GJ [] [(Z2 x3)] (c1 (EQ y3)) (gC h (λh=>Ao q [4] [] (tS h (gO (Sh (Ks [] (Le.refl _ _)))))) λh=>Ao q Io [] (tN h))) λh=>tS h (gO (D7 (Dv [] [] q))))) λx4 h=>(match x4,h with | .inl _,h=>gA (Ao q [4] [] (tS h (C1 []))) | .inr r6,h=>Wa (λst' hk=>tS h (gK hk))))
def K4(aH:Ju):Option Bool:=
 ((C3 ([aH.Kind,aH.Arg]:A4)).bind λx1=>((bif (x1==true) then Fi aH.To else some false).bind λx2=>(some (bif x1 then x2 else false))))
variable{v8:Ju}
theorem BR(h:K4 v8=some v3):sP 153 [(.agg (cR v8))] [] (.bool v3) []:=
 sG Tryz.func153 λΓ q=>Ao q [1] [1] (tB h λx1 y1 h=>tB h λx2 y2 h=>gR q [2] [] [(7,(AV.list 1 Az 0 ([v8.Kind,v8.Arg]:A4) .exact))] [(Z2 x1),(Z2 x2)] (YP (Cn 1 Az (0:Int) ([v8.Kind,v8.Arg]:A4)) (Ez y1) (Pz (x1==true) (c2 (λ(hg:(x1==true)=true)=>(Jn (Bk hg y2))) (M6 x1)))) (tS h (C1 [])))
def Jk(aL:An):Option Bool:=
 ((Gf aL.Phis).bind λx1=>((bif (x1==true) then Gx aL.Ops else some false).bind λx2=>((bif ((bif x1 then x2 else false)==true) then K4 (⟨aL.End.Kind,aL.End.Arg,aL.End.To⟩:Ju) else some false).bind λx3=>(some (bif (bif x1 then x2 else false) then x3 else false)))))
variable{v9:An}
theorem Xq(h:Jk v9=some v3):sP 109 [(.agg (Gn v9))] [] (.bool v3) []:=
 sG Tryz.func109 λΓ q=>Ao q [1] [1] (tB h λx1 y1 h=>tB h λx2 y2 h=>tB h λx3 y3 h=>tT q [2] [] [(Z2 x1),(Z2 x2),(Z2 x3)] (ci (Rn y1) (Pz (x1==true) (YP (λ(hg:(x1==true)=true)=>(Sp (Bk hg y2))) (M6 x1) (Pz ((bif x1 then x2 else false)==true) (c2 (λ(hg:((bif x1 then x2 else false)==true)=true)=>(BR (Bk hg y3))) (M6 (bif x1 then x2 else false))))))) (tS h (C1 [])))
def Ed(aA:List An):Int->Option (LR Int (Unit ⊕ Bool)):=
 λ(i1:Int)=>(bif (decide (i1<(aA.length:Int))) then(Cg (Bx i1 aA.length) ((Jk (aA.getD i1.toNat default)).bind λx3=>(bif (!x3) then(some (.done (.inr false))) else(some (.next (Bh (i1+1))))))) else(some (.done (.inl ()))))
def Px(Γ:G5)(aA:List An)(r:Bool):Exit->St->Prop:=fK Tryz.prog Γ Tryz.f108.results.toList [] (.bool r) []
def Fd(aA:List An):Option Bool:=
 ((Ai (Ed aA) (0:Int)).bind (λx4=>(match x4 with|(.inl _)=>(some true)|(.inr r6)=>(some r6))))
variable{v10:List An}
theorem Ps(h:Fd v10=some v3):sP 108 [(ay v10),(.clo 109 [] [])] [] (.bool v3) []:=
 sG Tryz.func108 λΓ q=>tW q Hr [] Io [] (tL q h Io [] (λu i1=>(Fn u [(9,(Z7 i1))] [])) (λu x_=>match x_ with|(.inl _)=>aG Γ (.exit 0) (⟨[],[],[]⟩:St)|(.inr r_)=>aR (Px Γ v10 r_)) (λi1 y h=>Ao q BJ [] (gC h (λh=>tV q BK [6] h λh=>tB h λx3 y3 h=>tT q GJ [] [(Z2 x3)] (c1 (Xq y3)) (gC h (λh=>Ao q [4] [] (tS h (gO (Sh (Ks [] (Le.refl _ _)))))) λh=>Ao q Io [] (tN h))) λh=>tS h (gO (D7 (Dv [] [] q))))) λx4 h=>(match x4,h with | .inl _,h=>gA (Ao q [4] [] (tS h (C1 []))) | .inr r6,h=>Wa (λst' hk=>tS h (gK hk))))
def Q2(a4:Ab):=(decide ((a4.Blocks.length:Int)<1))
def Q1(a4:Ab):=(decide ((16:Int)<(a4.Params.length:Int)))
def Rd(a4:Ab):Option Bool:=
 (bif (bif (decide ((a4.Blocks.length:Int)<1)) then true else(decide ((64:Int)<(a4.Blocks.length:Int)))) then(some false) else((bif ((decide ((16:Int)<(a4.Params.length:Int)))==false) then O1 a4 else some (0:Int)).bind λx1=>(bif (bif (decide ((16:Int)<(a4.Params.length:Int))) then true else(decide ((512:Int)<x1))) then(some false) else((C3 a4.Params).bind λx2=>((bif (x2==true) then C3 ([a4.Ret]:A4) else some false).bind λx3=>((bif ((bif x2 then x3 else false)==true) then Fd a4.Blocks else some false).bind λx4=>(some (bif (bif x2 then x3 else false) then x4 else false))))))))
theorem PJ(h:Rd v0=some v3):sP 75 [(.agg (Ys v0))] [] (.bool v3) []:=
 sG Tryz.func75 λΓ q=>Ao q [1] [1] (tU q [1,12] [1] (OH ((Q2 v0)==false) (c1 (U4 (Q2 v0)))) (gC h (λh=>Ao q [2] [] (tS h (C1 []))) λh=>tB h λx1 y1 h=>tT q [1,21] [1] [(XZ x1)] (c4 (gI ((Q1 v0)==false)) (λ(hg:((Q1 v0)==false)=true)=>(LW (Bk hg y1))) (gI ((Q1 v0)==false)) (U4 (Q1 v0))) (gC h (λh=>Ao q [2] [] (tS h (C1 []))) λh=>tB h λx2 y2 h=>tB h λx3 y3 h=>tB h λx4 y4 h=>gR q [2] [] [(28,(kw v0.Ret))] [(Z2 x2),(Z2 x3),(Z2 x4)] (ci (Ez y2) (Pz (x2==true) (oP (show((x2==true)=true->(AVle (.slice 1 1 (λi=>([[(Z7 v0.Ret)]]:List (List AV)).getD i []) .exact) (kw v0.Ret))) from(λhg=>@(Cn 1 Az (0:Int) ([v0.Ret]:A4)))) (gI (x2==true)) (λ(hg:(x2==true)=true)=>(Ez (Bk hg y3))) (M6 x2) (Pz ((bif x2 then x3 else false)==true) (c2 (λ(hg:((bif x2 then x3 else false)==true)=true)=>(Ps (Bk hg y4))) (M6 (bif x2 then x3 else false))))))) (tS h (C1 [])))))
def Iv(aaB:Bool)(aH:Int):Option Int:=
 (bif aaB then(some (0:Int)) else(some aH))
variable{v11:Int}
theorem R5(h:Iv v3 v1=some v11):sP 122 [(.bool v3),(Z7 v1)] [] (.int .i64 v11) []:=
 sG Tryz.func122 λΓ q=>tW q Hr [] [1,5] [] (gC h (λh=>Ao q [4] [] (tS h (C1 []))) λh=>Ao q [4] [] (tS h (C1 [])))
abbrev ao:=(Int×Ab×Int×A4×List A6)
def Gv(a0:Ab)(a5:Int)(a9:A4)(a6:List A6):Option ao:=
 ((Rd a0).bind λx1=>((Iv x1 (4:Int)).bind λx2=>(some (x2,a0,a5,a9,a6))))
variable{v12:List A6}{v13:ao}
theorem Sn(h:Gv v0 v1 v2 v12=some v13):sP 91 [Yj] (Z3 v0.Params v0.Ret v0.Blocks v1 v2 v12 v12.length) (Z7 v13.1) (Z3 v13.2.1.Params v13.2.1.Ret v13.2.1.Blocks v13.2.2.1 v13.2.2.2.1 v13.2.2.2.2 v13.2.2.2.2.length):=
 sG Tryz.func91 λΓ q=>Ao q [0] Fq (tB h λx1 y1 h=>tB h λx2 y2 h=>tT q [2] Fq [(Z2 x1),(XZ x2)] (c2 (PJ y1) (R5 y2)) (tS h (C1 BX)))
def H6(aF:Int):Option Bool:=
 (some (bif (decide ((1:Int)<=aF)) then(decide (aF<=64)) else false))
theorem P5(h:H6 v1=some v3):sP 114 [(Z7 v1)] [] (.bool v3) []:=
 sG Tryz.func114 λΓ q=>Ao q [0] [] (tU q [2] [] (c2 (gI ((decide ((1:Int)<=v1))==true)) (M6 (decide ((1:Int)<=v1)))) (tS h (C1 [])))
def Gj(aM:Int)(aF:Int):Option Bool:=
 (some (bif (decide ((0:Int)<=aM)) then(decide (aM<aF)) else false))
theorem L7(h:Gj v1 v11=some v3):sP 155 [(Z7 v1),(Z7 v11)] [] (.bool v3) []:=
 sG Tryz.func155 λΓ q=>Ao q Hr [] (tU q [4] [] (Pz ((decide ((0:Int)<=v1))==true) (c1 (M6 (decide ((0:Int)<=v1))))) (tS h (C1 [])))
def B5(aH:Ju)(aF:Int):Int->Option (LR Int (Unit ⊕ Bool)):=
 λ(i7:Int)=>(bif (decide (i7<(aH.To.length:Int))) then(Cg (Bx i7 aH.To.length) ((bif (((aH.To.getD i7.toNat 0)==0)==false) then Gj (aH.To.getD i7.toNat 0) aF else some false).bind λx9=>(bif (bif ((aH.To.getD i7.toNat 0)==0) then true else(!x9)) then(some (.done (.inr false))) else(some (.next (Bh (i7+1))))))) else(some (.done (.inl ()))))
def Rx(Γ:G5)(aH:Ju)(aF:Int)(r:Bool):Exit->St->Prop:=fK Tryz.prog Γ Tryz.f115.results.toList [] (.bool r) []
def Q3(aH:Ju)(i7:Int):=((aH.To.getD i7.toNat 0)==0)
def J8(aH:Ju)(aF:Int):Option Bool:=
 (Option.bind (α:=(Int ⊕ Bool)) (Option.bind (α:=Bool) (bif (aH.Kind==0) then(some (aH.Kind==0)) else(some (aH.Kind==3))) (λx3=>(bif x3 then(some (.inl (0:Int))) else(bif (aH.Kind==1) then(some (.inl (1:Int))) else(bif (aH.Kind==2) then(some (.inl (2:Int))) else(some (.inr false))))))) (λx5=>(match x5 with|(.inl i1)=>(bif ((aH.To.length:Int)!=i1) then(some false) else((Ai (B5 aH aF) (0:Int)).bind (λx10=>(match x10 with|(.inl _)=>(some true)|(.inr r12)=>(some r12)))))|(.inr r13)=>(some r13))))
theorem Zc(h:J8 v8 v1=some v3):sP 115 [(.agg (cR v8)),(Z7 v1)] [] (.bool v3) []:=
 sG Tryz.func115 λΓ q=>tW q Yi [2] Zy [2] (tB h λx5 y5 h=>gJ y5 (λx_=>match x_ with|(.inl i1)=>aG Γ .normal (⟨[(1,(Z7 v1)),HS,(5,(Z7 i1))],[(2,.row 46 [(Z7 v8.Kind),(Z7 v8.Arg),(Qj v8.To)])],[]⟩:St)|(.inr r_)=>aR (Rx Γ v8 v1 r_)) (λy h=>Ao q [1,2,5,9] [2] (tB h λx3 y3 h=>gJ y3 (λb2=>aG Γ .normal (⟨[(1,(Z7 v1)),HS,(5,Ot),(9,(Z7 v8.Kind)),(10,(.bool b2))],[(2,.row 46 [(Z7 v8.Kind),(Z7 v8.Arg),(Qj v8.To)])],[]⟩:St)) (λy h=>Ao q [1,2,5,9,10] [2] (gC h (λh=>tS h (gK (D7 M7))) λh=>Ao q [1,2,5,9,10] [2] (tS h (gK (D7 M7))))) (gA (gC h (λh=>tS h (gK (D7 (Dv Zy [2] q)))) λh=>Ao q [1,2,9,13] [2] (gC h (λh=>Ao q Zy [2] (tS h (gK (D7 M7)))) λh=>Ao q [1,2,15] [2] (gC h (λh=>Ao q Zy [2] (tS h (gK (D7 M7)))) λh=>Ao q [4] [] (tS h (gK (Sh (Ks [] (Le.refl _ _))))))))))) (match x5,h with | .inl i1,h=>gA (Ao q [1,2,21] [2] (gC h (λh=>Ao q [4] [] (tS h (C1 []))) λh=>Ao q VB [] (tL q h VB [] (λu i7=>(Fn u [(25,(Z7 i7))] [])) (λu x_=>match x_ with|(.inl _)=>aG Γ (.exit 1) (⟨[],[],[]⟩:St)|(.inr r_)=>aR (Rx Γ v8 v1 r_)) (λi7 y h=>Ao q [1,23,24,25,26] [] (gC h (λh=>tV q [1,7,23,24,25] [] h λh=>tB h λx9 y9 h=>tT q [1,23,24,25,36] [] [(Z2 x9)] (Pz ((Q3 v8 i7)==false) (c3 (λ(hg:((Q3 v8 i7)==false)=true)=>(L7 (Bk hg y9))) (gI ((Q3 v8 i7)==false)) (U4 (Q3 v8 i7)))) (gC h (λh=>Ao q [4] [] (tS h (gO (Sh (Ks [] (Le.refl _ _)))))) λh=>Ao q VB [] (tN h))) λh=>tS h (gO (D7 (Dv [] [] q))))) λx10 h=>(match x10,h with | .inl _,h=>gA (Ao q [4] [] (tS h (C1 []))) | .inr r12,h=>Wa (λst' hk=>tS h (gK hk)))))) | .inr r13,h=>Wa (λst' hk=>tS h (gK hk))))
abbrev k7:=(Int×Ol)
def Ee(aB:Ol)(i2:Int):k7->Option (LR (Int×Ol) Ol):=
 λ((i6,l7):k7)=>(bif (decide (i6<((aB.getD i2.toNat []).length:Int))) then(Cg (Bx i6 (aB.getD i2.toNat []).length) (Cg (Bx ((aB.getD i2.toNat []).getD i6.toNat 0) l7.length) (Cg (Bx ((aB.getD i2.toNat []).getD i6.toNat 0) l7.length) (Cg ((l7.getD ((aB.getD i2.toNat []).getD i6.toNat 0).toNat []).length+([i2]:A4).length<=room) (Cg (Bx ((aB.getD i2.toNat []).getD i6.toNat 0) l7.length) (some (.next ((Bh (i6+1)),(l7.set ((aB.getD i2.toNat []).getD i6.toNat 0).toNat ((l7.getD ((aB.getD i2.toNat []).getD i6.toNat 0).toNat [])++([i2]:A4))))))))))) else(some (.done l7)))
def Ef(aB:Ol):k7->Option (LR (Int×Ol) Ol):=
 λ((i2,l3):k7)=>(bif (decide (i2<(aB.length:Int))) then(Cg (Bx i2 aB.length) ((Ai (Ee aB i2) ((0:Int),l3)).bind (λx14=>(some (.next ((Bh (i2+1)),x14)))))) else(some (.done l3)))
def Q8(i2:Int):=([i2]:A4)
def Q4(aB:Ol)(i2:Int)(i6:Int):=((aB.getD i2.toNat []).getD i6.toNat 0)
def Q9(l7:Ol)(aB:Ol)(i2:Int)(i6:Int):=(l7.getD (Q4 aB i2 i6).toNat [])
def Q5(aB:Ol):=(List.replicate (aB.length:Int).toNat ([]:A4))
def lE(l7:Ol)(aB:Ol)(i2:Int)(i6:Int):=(l7.set (Q4 aB i2 i6).toNat ((Q9 l7 aB i2 i6)++(Q8 i2)))
def Q7(aB:Ol):List iX:=[(0,(RP aB)),(3,(.vsl 10 (aB.length:Int).toNat))]
def Q6(l7:Ol)(i2:Int)(aB:Ol)(i6:Int):List iX:=[(3,(.vsl 10 l7.length)),(4,(Z7 i2)),(11,(RP aB)),(12,(SA aB.length)),(13,(Z7 i2)),(18,(AV.list 1 Az 0 (aB.getD i2.toNat []) .none)),(19,(.int .i64 ((aB.getD i2.toNat []).length:Int))),(20,(Z7 i6))]
def nk(l7:Ol)(i2:Int)(aB:Ol)(i6:Int):List iX:=[(3,(.vsl 10 l7.length)),(4,(Z7 i2)),(7,(Z7 (Q4 aB i2 i6))),(11,(RP aB)),(12,(SA aB.length)),(13,(Z7 i2)),(18,(AV.list 1 Az 0 (aB.getD i2.toNat []) .none)),(19,(.int .i64 ((aB.getD i2.toNat []).length:Int))),(20,(Z7 i6))]
def Ix(aB:Ol):Option Ol:=
 (Cg (0<=(aB.length:Int)/\(aB.length:Int)<=(aB.length:Int)/\(aB.length:Int)<=(room:Int)) ((Ai (Ef aB) ((0:Int),(List.replicate (aB.length:Int).toNat ([]:A4)))).bind (λx16=>(some x16))))
variable{v14:Ol}{v15:Ol}
theorem R7(h:Ix v14=some v15):sP 117 [(RP v14)] [] (AV.list 1 Ik [] v15 (.own 20000)) [(20000,.tok 1 33 v15.length)]:=
 sG Tryz.func117 λΓ q=>have hΓ:=q.own;gR q [0] [] [(2,(AV.list 1 Ik [] ([]:Ol) .exact))] [] (c1 (Jg 1 Ik [])) (tV q V3 [10] h λh=>Ul (⟨(Q7 v14),[(10,.arr 1 33 ((v14.length:Int).toNat) (λi_=>AV.eraseAll (λn_=>Bl n_ [10]) ((λ_=>[XY]) i_)))],[]⟩:St) (J3 (Le.trans (K1 (st':=⟨(Q7 v14),[(10,.arr 1 33 ((v14.length:Int).toNat) (M1 1 Az (0:Int) (Q5 v14) (λ_=>.exact)))],[]⟩) (TmpsLe.refl _) (.arr cU .nil)) (Le.trans (Le.trans (cy (r:=10) (b:=70010) Az (0:Int) (Q5 v14) 3 rfl rfl (X7 ..).symm (λh_=>absurd h_ (by decide))) (Nz (st':=⟨(Q7 v14),[(10,.arr 1 33 ((v14.length:Int).toNat) (M1 1 Az (0:Int) (Q5 v14) (Tag.fam 70010)))],[(70010,⟨1,3,Ng (Q5 v14)⟩)]⟩) (by kernel_rfl))) (Nz (B8 (λk_:Nat=>(⟨[(0,(RP v14)),(3,(.vsl 10 k_))],(fZ k_ (Q5 v14)),[(70010,⟨1,3,Ng (Q5 v14)⟩)]⟩:St)) (show(v14.length:Int).toNat=(Q5 v14).length from(X7 ..).symm))))) (Ao q RG Ph (tL q h RG Ph (λu (i2,l3)=>(Fn u [(3,(.vsl 10 l3.length)),(13,(Z7 i2))] (fZ l3.length l3) [(70010,⟨1,3,Ng l3⟩)])) (λu l4=>aG Γ (.exit 0) (⟨[(3,(.vsl 10 l4.length))],(fZ l4.length l4),[(70010,⟨1,3,Ng l4⟩)]⟩:St)) (λ⟨i2,l3⟩ y h=>Ao q [3,11,12,13,14] Ph (gC h (λh=>tV q [3,4,5,11,12,13] Ph h λh=>Ao q XG Ph (tL q h XG Ph (λu (i6,l7)=>(Fn u [(3,(.vsl 10 l7.length)),(20,(Z7 i6))] (fZ l7.length l7) [(70010,⟨1,3,Ng l7⟩)])) (λu l8=>aG Γ (.exit 2) (Wj RG Ph u [(3,(.vsl 10 l8.length))] (fZ l8.length l8) [(70010,⟨1,3,Ng l8⟩)])) (λ⟨i6,l7⟩ y h=>Ao q [3,4,11,12,13,18,19,20,21] Ph (gC h (λh=>tV q [3,4,7,11,12,13,18,19,20] Ph h λh=>Ul (⟨(nk l7 i2 v14 i6),(fZ l7.length l7),[(70010,⟨1,3,Ng l7⟩)]⟩:St) (tC h λc10_ h=>tC h λc11_ h=>tC h λc12_ h=>tC h λc13_ h=>J3 (Le.trans (gY (r:=10) (b:=70010) (k:=60010) Az (0:Int) l7 (Q4 v14 i2 i6).toNat 3 rfl rfl rfl rfl (J4 c10_) (by kernel_rfl) (.here .nil)) (Nz (st':=⟨(nk l7 i2 v14 i6),[(10,.arr 1 33 l7.length (M1 1 Az (0:Int) l7 (Ft 70010 (Q4 v14 i2 i6).toNat 60010))),(60010,.tok 1 3 ((Q9 l7 v14 i2 i6).length))],[(70010,⟨1,3,Xa l7 (Q4 v14 i2 i6).toNat⟩)]⟩) (by kernel_rfl))) (gR q XG [10,60010,70010] [(29,(RQ (Q9 l7 v14 i2 i6) 60010)),(31,(AV.list 1 Az 0 (Q8 i2) .exact)),(32,(AV.list 1 Az 0 ((Q9 l7 v14 i2 i6)++(Q8 i2)) (.own 60010)))] [] (nX c11_ (Eq.refl l7.length) (show(AVle (((M1 1 Az (0:Int) l7 (Ft 70010 (Q4 v14 i2 i6).toNat 60010)) (Q4 v14 i2 i6).toNat).getD 0 .any) (RQ (Q9 l7 v14 i2 i6) 60010)) from YC) (Cn 1 Az (0:Int) (Q8 i2)) (Eq.refl ((Q9 l7 v14 i2 i6).length)) c12_ (Uf 1 60010 Az (0:Int) (Q9 l7 v14 i2 i6) (Q8 i2)) (Il (Q9 l7 v14 i2 i6) (Q8 i2)) c13_ (c1 (Eq.refl l7.length))) (Ul (⟨(Q6 l7 i2 v14 i6),[(10,.arr 1 33 l7.length (λi_=>AV.eraseAll (λn_=>Bl n_ [10,60010,70010]) ((I8 (M1 1 Az (0:Int) l7 (Ft 70010 (Q4 v14 i2 i6).toNat 60010)) (Q4 v14 i2 i6).toNat 0 [(AV.list 1 Az 0 ((Q9 l7 v14 i2 i6)++(Q8 i2)) (.own 60010))]) i_))),(60010,.tok 1 3 (((Q9 l7 v14 i2 i6)++(Q8 i2)).length))],[(70010,⟨1,3,Xa l7 (Q4 v14 i2 i6).toNat⟩)]⟩:St) (J3 (Le.trans (Le.trans (kA (r:=10) (b:=70010) (k:=60010) Az (0:Int) l7 (Q4 v14 i2 i6).toNat ((Q9 l7 v14 i2 i6)++(Q8 i2)) 3 rfl (de (J4 c10_) rfl rfl) rfl rfl rfl rfl (J4 c10_) (by kernel_rfl) (.here (.tok .nil)) (by rw[hΓ];rfl)) (Nz (st':=⟨(Q6 l7 i2 v14 i6),(fZ l7.length (lE l7 v14 i2 i6)),[(70010,⟨1,3,Ng (lE l7 v14 i2 i6)⟩)]⟩) (by kernel_rfl))) (Nz (B8 (λk_:Nat=>(⟨[(3,(.vsl 10 k_)),(4,(Z7 i2)),(11,(RP v14)),(12,(SA v14.length)),(13,(Z7 i2)),(18,(AV.list 1 Az 0 (v14.getD i2.toNat []) .none)),(19,(.int .i64 ((v14.getD i2.toNat []).length:Int))),(20,(Z7 i6))],(fZ k_ (lE l7 v14 i2 i6)),[(70010,⟨1,3,Ng (lE l7 v14 i2 i6)⟩)]⟩:St)) (show l7.length=(lE l7 v14 i2 i6).length from(Ib ..).symm)))) (Ao q XG Ph (tN h))))))) λh=>tS h (gO (D7 (Dv RG Ph q))))) λx14 h=>gA (Ao q RG Ph (tN h)))) λh=>tS h (gO (D7 (Dv [3] Ph q))))) λx16 h=>gA (Ao q [2] Ph (Ul (⟨[(2,(.vsl 10 x16.length))],(fZ x16.length x16),[(70010,⟨1,3,Ng x16⟩)]⟩:St) (tS h (gK (e:=.ret) (Ks [(10,20000)] (Le.trans (Lz (nm:=10) (sz:=1) (n:=x16.length) (e:=33) (f:=(M1 1 Az (0:Int) x16 (Tag.fam 70010))) (g:=(λi=>Ik (x16.getD i []))) rfl ⟨rfl,trivial⟩ (λ_ _=>rfl) (by rw[hΓ];rfl)) (Dv (st':=⟨[(2,(AV.list 1 Ik [] x16 (.own 10)))],[(10,.tok 1 33 x16.length)],[]⟩) [2] [10] q)))))))))))
def E6(a4:Ab):k7->Option (LR (Int×Ol) (Ol ⊕ (C5×Int))):=
 λ((i3,l4):k7)=>(bif (decide (i3<(a4.Blocks.length:Int))) then(Cg (Bx i3 a4.Blocks.length) ((J8 (⟨(a4.Blocks.getD i3.toNat default).End.Kind,(a4.Blocks.getD i3.toNat default).End.Arg,(a4.Blocks.getD i3.toNat default).End.To⟩:Ju) (a4.Blocks.length:Int)).bind λx7=>(bif (!x7) then(some (.done (.inr ((⟨([]:Ol),([]:Ol)⟩:C5),(5:Int))))) else((X6 ((a4.Blocks.getD i3.toNat default).End.To)).bind λx8=>(Cg (Bx i3 l4.length) (some (.next ((Bh (i3+1)),(l4.set i3.toNat x8))))))))) else(some (.done (.inl l4))))
abbrev mY:=(C5×Int)
def RV(Γ:G5)(a4:Ab)(r:mY):Exit->St->Prop:=fK Tryz.prog Γ Tryz.f87.results.toList [] (.tuple [(.agg (Qr r.1)),(Z7 r.2)]) []
def fR:AV:=XY
def kh:List iX:=[HS,(3,(.int .i64 (5:Int)))]
def oN(a4:Ab)(i3:Int):=(a4.Blocks.getD i3.toNat default)
def ma:AV:=(AV.list 1 Ik [] ([]:Ol) .none)
def mw(a4:Ab):=(List.replicate (a4.Blocks.length:Int).toNat ([]:A4))
def ig:List AV:=[(AV.list 1 Ik [] ([]:Ol) .exact),(AV.list 1 Ik [] ([]:Ol) .exact)]
def Rf(a4:Ab):Option mY:=
 ((H6 (a4.Blocks.length:Int)).bind λx1=>(bif (!x1) then(some ((⟨([]:Ol),([]:Ol)⟩:C5),(5:Int))) else(Cg (0<=(a4.Blocks.length:Int)/\(a4.Blocks.length:Int)<=(a4.Blocks.length:Int)/\(a4.Blocks.length:Int)<=(room:Int)) ((Ai (E6 a4) ((0:Int),(List.replicate (a4.Blocks.length:Int).toNat ([]:A4)))).bind (λx10=>(match x10 with|(.inl l5)=>((Ix l5).bind λx12=>(some ((⟨l5,x12⟩:C5),(0:Int))))|(.inr r13)=>(some r13)))))))
variable{v16:mY}
theorem PM(h:Rf v0=some v16):sP 87 [(.agg (Ys v0))] [] (.tuple [(.agg (Qr v16.1)),(Z7 v16.2)]) []:=
 sG Tryz.func87 λΓ q=>have hΓ:=q.own;tW q Yi Yi [1,2,4] Yi (tB h λx1 y1 h=>tT q [1,2,4,13] Yi [(Z2 x1)] (c1 (P5 y1)) (gC h (λh=>gR q Jf [2] [(14,(.agg ig))] [] (c1 (show(AVle (.agg [fR,fR]) (.agg ig)) from(AVle.agg (.cons Dx (.cons Dx .nil))))) (Ul (⟨kh,[(2,.row 99 ig)],[]⟩:St) (tS h (gK (e:=.ret) (Ks [] (show Le Γ _ (⟨kh,[(2,.row 99 [ma,ma])],[]⟩:St) from Le.trans (Dv (st':=⟨kh,[(2,.row 99 ig)],[]⟩) Jf [2] q) (K1 (.cons (AVle.refl _) (.cons (AVle.refl _) .nil)) (.row (.cons AVle.untag (.cons AVle.untag .nil)) .nil)))))))) λh=>tV q [1,2,4,5] [1,2,16] h λh=>by exact J3 (Le.trans (Ly 16 (show ∀ k_,k_<((v0.Blocks.length:Int).toNat)->AVleL ((λi_=>AV.eraseAll (λn_=>Bl n_ [1,2,16]) ((λ_=>[fR]) i_)) k_) ((λi=>Ik ((mw v0).getD i [])) k_) from(λk hk=>Xg (e:=Ik) (d:=[]) (.cons (λ_ _ _ _ _ hh=>AVle.untag _ _ _ _ _ (Dx _ _ _ _ _ hh)) .nil) _ k (Xz hk)))) (S6 (λ(k_:Nat) u=>(Fn u [(5,(.vsl 16 k_))] [(16,.arr 1 33 k_ (λi=>Ik ((mw v0).getD i [])))])) (show(v0.Blocks.length:Int).toNat=(mw v0).length from(X7 ..).symm))) (Ao q XK V2 (tL q h XK V2 (λu (i3,l4)=>(Fn u [(5,(.vsl 16 l4.length)),(20,(Z7 i3))] [(16,.arr 1 33 l4.length (λi=>Ik (l4.getD i [])))])) (λu x_=>match x_ with|(.inl l5)=>aG Γ (.exit 0) (Wj [2,5] V2 u [(5,(.vsl 16 l5.length))] [(16,.arr 1 33 l5.length (λi=>Ik (l5.getD i [])))])|(.inr r_)=>aR (RV Γ v0 r_)) (λ⟨i3,l4⟩ y h=>Ao q [2,4,5,18,19,20,21] V2 (gC h (λh=>tV q [2,4,5,6,7,18,19,20] [2,7,16] h λh=>tB h λx7 y7 h=>tT q [2,4,5,6,7,18,19,20,29] [2,7,16] [(Z2 x7)] (c1 (Zc y7)) (gC h (λh=>gR q Jf [2] [(30,(.agg ig))] [] (c1 (show(AVle (.agg [fR,fR]) (.agg ig)) from(AVle.agg (.cons Dx (.cons Dx .nil))))) (Ul (⟨kh,[(2,.row 99 ig)],[]⟩:St) (tS h (gO (Sh (Ks [] (show Le Γ _ (⟨kh,[(2,.row 99 [ma,ma])],[]⟩:St) from Le.trans (Dv (st':=⟨kh,[(2,.row 99 ig)],[]⟩) Jf [2] q) (K1 (.cons (AVle.refl _) (.cons (AVle.refl _) .nil)) (.row (.cons AVle.untag (.cons AVle.untag .nil)) .nil))))))))) λh=>tB h λx8 y8 h=>tC h λc9_ h=>tT q XK V2 [⟨[],[],(Qj x8),[],[],[]⟩] (c3 (UN ((oN v0 i3).End.To) x8 y8) c9_ (Eq.refl l4.length)) (J3 (Le.trans (Ly 16 (show ∀ k_,k_<l4.length->AVleL ((λi_=>AV.eraseAll (λn_=>Bl n_ V2) ((I8 (λi=>Ik (l4.getD i [])) i3.toNat 0 [(Qj x8)]) i_)) k_) ((λi=>Ik ((l4.set i3.toNat x8).getD i [])) k_) from(Cl (Ib ..).symm (λk_ hk_=>(B8 (AV.eraseAll (λn_=>Bl n_ V2)) ((Ml (λ_ _=>rfl) (Oz c9_) rfl) k_ hk_)).trans rfl)))) (S6 (λ(k_:Nat) u=>(Fn u [(5,(.vsl 16 k_))] [(16,.arr 1 33 k_ (λi=>Ik ((l4.set i3.toNat x8).getD i [])))])) (show l4.length=(l4.set i3.toNat x8).length from(Ib ..).symm))) (Ao q XK V2 (tN h))))) λh=>tS h (gO (D7 (Dv [2,5] V2 q))))) λx10 h=>(match x10,h with | .inl l5,h=>gA (Ul (⟨[HS,(5,(.vsl 16 l5.length))],[(2,.row 99 [fR,fR]),(16,.arr 1 33 l5.length (λi=>Ik (l5.getD i [])))],[]⟩:St) (J3 (Le.trans (Lz (nm:=16) (sz:=1) (n:=l5.length) (e:=33) (f:=(λi=>Ik (l5.getD i []))) (g:=(λi=>Ik (l5.getD i []))) rfl ⟨rfl,trivial⟩ (λ_ _=>rfl) (by rw[hΓ];rfl)) (Nz (st':=⟨[HS,(5,(AV.list 1 Ik [] l5 (.own 16)))],[(2,.row 99 [fR,fR]),(16,.tok 1 33 l5.length)],[]⟩) (by kernel_rfl))) (tB h λx12 y12 h=>tT q Jf [2,16,41] [⟨[],[(20000,41)],(AV.list 1 Ik [] x12 (.own 20000)),[(20000,.tok 1 33 x12.length)],[],[]⟩] (c1 (R7 y12)) (tS h (C1 []))))) | .inr r13,h=>Wa (λst' hk=>tS h (gK hk)))))))
abbrev oI:=(LR (Int×Int) (Unit ⊕ Bool))
def Cp(aB:Ol)(i2:Int):G2->Option oI:=
 λ((i4,i5):G2)=>(bif (decide (i5<((aB.getD i2.toNat []).length:Int))) then(Cg (Bx i5 (aB.getD i2.toNat []).length) ((bif ((decide (((aB.getD i2.toNat []).getD i5.toNat 0)<=i4))==false) then Gj ((aB.getD i2.toNat []).getD i5.toNat 0) (aB.length:Int) else some false).bind λx7=>(bif (bif (decide (((aB.getD i2.toNat []).getD i5.toNat 0)<=i4)) then true else(!x7)) then(some (.done (.inr false))) else(some (.next (((aB.getD i2.toNat []).getD i5.toNat 0),(Bh (i5+1)))))))) else(some (.done (.inl ()))))
def Cq(aB:Ol):Int->Option (LR Int (Unit ⊕ Bool)):=
 λ(i2:Int)=>(bif (decide (i2<(aB.length:Int))) then(Cg (Bx i2 aB.length) ((Ai (Cp aB i2) ((-1:Int),(0:Int))).bind (λx8=>(match x8 with|(.inl _)=>(some (.next (Bh (i2+1))))|(.inr r10)=>(some (.done (.inr r10))))))) else(some (.done (.inl ()))))
def Ry(Γ:G5)(aB:Ol)(r:Bool):Exit->St->Prop:=fK Tryz.prog Γ Tryz.f183.results.toList [] (.bool r) []
def mb(aB:Ol)(i2:Int)(i5:Int)(i4:Int):=(decide (((aB.getD i2.toNat []).getD i5.toNat 0)<=i4))
def J9(aB:Ol):Option Bool:=
 ((H6 (aB.length:Int)).bind λx1=>(bif (!x1) then(some false) else((Ai (Cq aB) (0:Int)).bind (λx11=>(match x11 with|(.inl _)=>(some true)|(.inr r13)=>(some r13))))))
theorem Zd(h:J9 v14=some v3):sP 183 [(RP v14)] [] (.bool v3) []:=
 sG Tryz.func183 λΓ q=>Ao q [0] [] (tB h λx1 y1 h=>tT q [0,11] [] [(Z2 x1)] (c1 (P5 y1)) (gC h (λh=>Ao q [2] [] (tS h (C1 []))) λh=>Ao q RH [] (tL q h RH [] (λu i2=>(Fn u [(14,(Z7 i2))] [])) (λu x_=>match x_ with|(.inl _)=>aG Γ (.exit 0) (⟨[],[],[]⟩:St)|(.inr r_)=>aR (Ry Γ v14 r_)) (λi2 y h=>Ao q [0,12,13,14,15] [] (gC h (λh=>tV q [0,4,12,13,14] [] h λh=>tW q [0,4,5,12,13,14] [] XH [] (tL q h XH [] (λu (i4,i5)=>(Fn u [(5,(Z7 i4)),(20,(Z7 i5))] [])) (λu x_=>match x_ with|(.inl _)=>aG Γ (.exit 2) (Wj RH [] u [] [])|(.inr r_)=>aR (Ry Γ v14 r_)) (λ⟨i4,i5⟩ y h=>Ao q [0,5,12,13,14,18,19,20,21] [] (gC h (λh=>tV q [0,5,7,12,13,14,18,19,20] [] h λh=>tB h λx7 y7 h=>tT q [0,7,12,13,14,18,19,20,33] [] [(Z2 x7)] (OH ((mb v14 i2 i5 i4)==false) (c3 (λ(hg:((mb v14 i2 i5 i4)==false)=true)=>(L7 (Bk hg y7))) (gI ((mb v14 i2 i5 i4)==false)) (U4 (mb v14 i2 i5 i4)))) (gC h (λh=>Ao q [2] [] (tS h (gO (Sh (Ks [] (Le.refl _ _)))))) λh=>tW q XH [] XH [] (tN h))) λh=>tS h (gO (D7 (Dv RH [] q))))) λx8 h=>(match x8,h with | .inl _,h=>gA (Ao q RH [] (tN h)) | .inr r10,h=>Wa (λst' hk=>tS h (gO (Sh hk)))))) λh=>tS h (gO (D7 (Dv [] [] q))))) λx11 h=>(match x11,h with | .inl _,h=>gA (Ao q [2] [] (tS h (C1 []))) | .inr r13,h=>Wa (λst' hk=>tS h (gK hk))))))
def Bf(aO:A4)(aS:A4):Int->Option (LR Int (Unit ⊕ Bool)):=
 λ(i1:Int)=>(bif (decide (i1<(aO.length:Int))) then(Cg (Bx i1 aO.length) (Cg (Bx i1 aS.length) (bif ((aO.getD i1.toNat 0)!=(aS.getD i1.toNat 0)) then(some (.done (.inr false))) else(some (.next (Bh (i1+1))))))) else(some (.done (.inl ()))))
def Ql(Γ:G5)(aO:A4)(aS:A4)(r:Bool):Exit->St->Prop:=fK Tryz.prog Γ Tryz.f119.results.toList [] (.bool r) []
def Ei(aO:A4)(aS:A4):Option Bool:=
 (bif ((aO.length:Int)!=(aS.length:Int)) then(some false) else((Ai (Bf aO aS) (0:Int)).bind (λx4=>(match x4 with|(.inl _)=>(some true)|(.inr r6)=>(some r6)))))
variable{v17:A4}
theorem Km(h:Ei v2 v17=some v3):sP 119 [(Qj v2),(Qj v17)] [] (.bool v3) []:=
 sG Tryz.func119 λΓ q=>tW q Hr [] BL [] (gC h (λh=>Ao q [4] [] (tS h (C1 []))) λh=>Ao q KD [] (tL q h KD [] (λu i1=>(Fn u [(13,(Z7 i1))] [])) (λu x_=>match x_ with|(.inl _)=>aG Γ (.exit 0) (⟨[],[],[]⟩:St)|(.inr r_)=>aR (Ql Γ v2 v17 r_)) (λi1 y h=>Ao q [0,1,12,13,14] [] (gC h (λh=>Ao q [0,1,5,12,13] [] (tC h λc2_ h=>tC h λc3_ h=>tU q [0,1,12,13,24] [] (c2 c2_ c3_) (gC h (λh=>Ao q [4] [] (tS h (gO (Sh (Ks [] (Le.refl _ _)))))) λh=>Ao q KD [] (tN h)))) λh=>tS h (gO (D7 (Dv [] [] q))))) λx4 h=>(match x4,h with | .inl _,h=>gA (Ao q [4] [] (tS h (C1 []))) | .inr r6,h=>Wa (λst' hk=>tS h (gK hk)))))
def As(aO:Ol)(aS:Ol):Int->Option (LR Int (Unit ⊕ Bool)):=
 λ(i1:Int)=>(bif (decide (i1<(aO.length:Int))) then(Cg (Bx i1 aO.length) (Cg (Bx i1 aS.length) ((Ei (aO.getD i1.toNat []) (aS.getD i1.toNat [])).bind λx4=>(bif (!x4) then(some (.done (.inr false))) else(some (.next (Bh (i1+1)))))))) else(some (.done (.inl ()))))
def Ka(Γ:G5)(aO:Ol)(aS:Ol)(r:Bool):Exit->St->Prop:=fK Tryz.prog Γ Tryz.f184.results.toList [] (.bool r) []
def Cr(aO:Ol)(aS:Ol):Option Bool:=
 (bif ((aO.length:Int)!=(aS.length:Int)) then(some false) else((Ai (As aO aS) (0:Int)).bind (λx5=>(match x5 with|(.inl _)=>(some true)|(.inr r7)=>(some r7)))))
theorem Jy(h:Cr v14 v15=some v3):sP 184 [(RP v14),(RP v15),(.clo 119 [] [])] [] (.bool v3) []:=
 sG Tryz.func184 λΓ q=>tW q [0,1,2] [] [0,1,2,14] [] (gC h (λh=>Ao q [6] [] (tS h (C1 []))) λh=>Ao q UU [] (tL q h UU [] (λu i1=>(Fn u [(17,(Z7 i1))] [])) (λu x_=>match x_ with|(.inl _)=>aG Γ (.exit 0) (⟨[],[],[]⟩:St)|(.inr r_)=>aR (Ka Γ v14 v15 r_)) (λi1 y h=>Ao q [1,2,15,16,17,18] [] (gC h (λh=>tV q [1,2,7,8,15,16,17] [] h λh=>tV q [1,2,8,9,15,16,17] [] h λh=>tB h λx4 y4 h=>tT q [1,2,15,16,17,30] [] [(Z2 x4)] (c1 (Km y4)) (gC h (λh=>Ao q [6] [] (tS h (gO (Sh (Ks [] (Le.refl _ _)))))) λh=>Ao q UU [] (tN h))) λh=>tS h (gO (D7 (Dv [] [] q))))) λx5 h=>(match x5,h with | .inl _,h=>gA (Ao q [6] [] (tS h (C1 []))) | .inr r7,h=>Wa (λst' hk=>tS h (gK hk)))))
def O4(aD:C5):Option Bool:=
 ((J9 aD.Succ).bind λx1=>((bif (x1==true) then Ix aD.Succ else some []).bind λx2=>((bif (x1==true) then Cr aD.Pred x2 else some false).bind λx3=>(some (bif x1 then x3 else false)))))
variable{v18:C5}
theorem MA(h:O4 v18=some v3):sP 160 [(.agg (Qr v18))] [] (.bool v3) []:=
 sG Tryz.func160 λΓ q=>Ao q [1] [1] (tB h λx1 y1 h=>tB h λx2 y2 h=>tB h λx3 y3 h=>tT q [2] [] [(Z2 x1),⟨[],[],(RP x2),[],[],[]⟩,(Z2 x3)] (ci (Zd y1) (OH (x1==true) (ci (show((x1==true)=true->(sP 117 [(RP v18.Succ)] [] (RP x2) [])) from(λhg=>(Spec.drop (R7 (Bk hg y2))))) (Pz (x1==true) (c2 (λ(hg:(x1==true)=true)=>(Jy (Bk hg y3))) (M6 x1)))))) (tS h (C1 [])))
abbrev nj:=(Int×Int×A4)
def A9 :nj->Option (LR (Int×Int×A4) A4):=
 λ((i1,i2,l3):nj)=>(bif (decide (i1<i2)) then(Cg (Bx i2 l3.length) (Cg (Bx i1 l3.length) (Cg (Bx i1 l3.length) (Cg (Bx i2 l3.length) (some (.next ((Bh (i1+1)),(Bh (i2-1)),((l3.set i1.toNat (l3.getD i2.toNat 0)).set i2.toNat (l3.getD i1.toNat 0))))))))) else(some (.done l3)))
def my(l3:A4)(i1:Int)(i2:Int):=((l3.set i1.toNat (l3.getD i2.toNat 0)).set i2.toNat (l3.getD i1.toNat 0))
def D0(aa0:A4):Option A4:=
 ((Ai (S:=nj) (X:=A4) A9 ((0:Int),(Bh ((aa0.length:Int)-1)),aa0)).bind (λx9=>(some x9)))
theorem Js(h:D0 v2=some v17):sP 161 [(.vsl 34000 v2.length)] [(Z4 34000 v2)] (.tuple []) [(Z4 34000 v17)]:=
 sG Tryz.func161 λΓ q=>Ao q GH [34000] (tL q h GH [34000] (λu (i1,i2,l3)=>(Fn u [(0,(.vsl 34000 l3.length)),(2,(Z7 i1)),(3,(Z7 i2))] [(Z4 34000 l3)])) (λu l4=>aG Γ (.exit 0) (⟨[],[(Z4 34000 l4)],[]⟩:St)) (λ⟨i1,i2,l3⟩ y h=>Ao q [0,2,3,9] [34000] (gC h (λh=>tC h λc5_ h=>tC h λc6_ h=>tC h λc7_ h=>tC h λc8_ h=>tU q GH [34000] (c8 c5_ (Eq.refl l3.length) c6_ (Eq.refl l3.length) c7_ (Eq.refl l3.length) c8_ (Eq.refl l3.length)) (J3 (Le.trans (Ly 34000 (show ∀ k_,k_<l3.length->AVleL ((λi_=>AV.eraseAll (λn_=>Bl n_ [34000]) ((I8 (I8 (λi=>Az (l3.getD i 0)) i1.toNat 0 [(.int .i64 (l3.getD i2.toNat 0))]) i2.toNat 0 [(.int .i64 (l3.getD i1.toNat 0))]) i_)) k_) ((λi=>Az ((my l3 i1 i2).getD i 0)) k_) from(Cl (Eq.trans (Ib ..).symm (Ib ..).symm) (λk_ hk_=>(B8 (AV.eraseAll (λn_=>Bl n_ [34000])) ((Ml (Ml (λ_ _=>rfl) (Oz c7_) rfl) (gH c8_) rfl) k_ hk_)).trans rfl)))) (S6 (λ(k_:Nat) u=>(Fn u [(0,(.vsl 34000 k_))] [(34000,.arr 1 3 k_ (λi=>Az ((my l3 i1 i2).getD i 0)))])) (show l3.length=(my l3 i1 i2).length from(Eq.trans (Ib ..).symm (Ib ..).symm)))) (Ao q GH [34000] (tN h)))) λh=>tS h (gO (D7 (Dv [] [34000] q))))) λx9 h=>jA (λst' hl10=>tS h (gK (e:=.normal) (Ks [(34000,34000)] hl10))))
abbrev oJ:=(LR A4 (A4 ⊕ (List Bool×A4×A4)))
def Yy(aD:C5)(a3:Int):A4->Option oJ:=
 λ(l9:A4)=>(Cg (Bx ([a3].getD (Bh (([a3].length:Int)-1)).toNat (0:Int)) 64) (Cg (Bx ([a3].getD (Bh (([a3].length:Int)-1)).toNat (0:Int)) aD.Succ.length) (bif (decide ((l9.getD ([a3].getD (Bh (([a3].length:Int)-1)).toNat (0:Int)).toNat (0:Int))<((aD.Succ.getD ([a3].getD (Bh (([a3].length:Int)-1)).toNat (0:Int)).toNat []).length:Int))) then(Cg (Bx ([a3].getD (Bh (([a3].length:Int)-1)).toNat (0:Int)) aD.Succ.length) (Cg (Bx ([a3].getD (Bh (([a3].length:Int)-1)).toNat (0:Int)) 64) (Cg (Bx (l9.getD ([a3].getD (Bh (([a3].length:Int)-1)).toNat (0:Int)).toNat (0:Int)) (aD.Succ.getD ([a3].getD (Bh (([a3].length:Int)-1)).toNat (0:Int)).toNat []).length) (Cg (Bx ([a3].getD (Bh (([a3].length:Int)-1)).toNat (0:Int)) 64) (Cg (Bx ([a3].getD (Bh (([a3].length:Int)-1)).toNat (0:Int)) 64) (Cg (Bx ((aD.Succ.getD ([a3].getD (Bh (([a3].length:Int)-1)).toNat (0:Int)).toNat []).getD (l9.getD ([a3].getD (Bh (([a3].length:Int)-1)).toNat (0:Int)).toNat (0:Int)).toNat (0:Int)) 64) (bif (!((Ha 64 false (List.replicate 64 false) a3.toNat true).getD ((aD.Succ.getD ([a3].getD (Bh (([a3].length:Int)-1)).toNat (0:Int)).toNat []).getD (l9.getD ([a3].getD (Bh (([a3].length:Int)-1)).toNat (0:Int)).toNat (0:Int)).toNat (0:Int)).toNat false)) then(Cg (Bx ((aD.Succ.getD ([a3].getD (Bh (([a3].length:Int)-1)).toNat (0:Int)).toNat []).getD (l9.getD ([a3].getD (Bh (([a3].length:Int)-1)).toNat (0:Int)).toNat (0:Int)).toNat (0:Int)) 64) (Cg ([a3].length+([((aD.Succ.getD ([a3].getD (Bh (([a3].length:Int)-1)).toNat (0:Int)).toNat []).getD (l9.getD ([a3].getD (Bh (([a3].length:Int)-1)).toNat (0:Int)).toNat (0:Int)).toNat (0:Int))]:A4).length<=room) (some (.done (.inr ((Ha 64 false (Ha 64 false (List.replicate 64 false) a3.toNat true) ((aD.Succ.getD ([a3].getD (Bh (([a3].length:Int)-1)).toNat (0:Int)).toNat []).getD (l9.getD ([a3].getD (Bh (([a3].length:Int)-1)).toNat (0:Int)).toNat (0:Int)).toNat (0:Int)).toNat true),(Ha 64 (0:Int) l9 ([a3].getD (Bh (([a3].length:Int)-1)).toNat (0:Int)).toNat (Bh ((l9.getD ([a3].getD (Bh (([a3].length:Int)-1)).toNat (0:Int)).toNat (0:Int))+1))),([a3]++([((aD.Succ.getD ([a3].getD (Bh (([a3].length:Int)-1)).toNat (0:Int)).toNat []).getD (l9.getD ([a3].getD (Bh (([a3].length:Int)-1)).toNat (0:Int)).toNat (0:Int)).toNat (0:Int))]:A4)))))))) else(some (.next (Ha 64 (0:Int) l9 ([a3].getD (Bh (([a3].length:Int)-1)).toNat (0:Int)).toNat (Bh ((l9.getD ([a3].getD (Bh (([a3].length:Int)-1)).toNat (0:Int)).toNat (0:Int))+1)))))))))))) else(some (.done (.inl l9))))))
def F4(aD:C5)(l1:List Bool)(l3:A4):A4->Option oJ:=
 λ(l32:A4)=>(Cg (Bx (l3.getD (Bh ((l3.length:Int)-1)).toNat (0:Int)) 64) (Cg (Bx (l3.getD (Bh ((l3.length:Int)-1)).toNat (0:Int)) aD.Succ.length) (bif (decide ((l32.getD (l3.getD (Bh ((l3.length:Int)-1)).toNat (0:Int)).toNat (0:Int))<((aD.Succ.getD (l3.getD (Bh ((l3.length:Int)-1)).toNat (0:Int)).toNat []).length:Int))) then(Cg (Bx (l3.getD (Bh ((l3.length:Int)-1)).toNat (0:Int)) aD.Succ.length) (Cg (Bx (l3.getD (Bh ((l3.length:Int)-1)).toNat (0:Int)) 64) (Cg (Bx (l32.getD (l3.getD (Bh ((l3.length:Int)-1)).toNat (0:Int)).toNat (0:Int)) (aD.Succ.getD (l3.getD (Bh ((l3.length:Int)-1)).toNat (0:Int)).toNat []).length) (Cg (Bx (l3.getD (Bh ((l3.length:Int)-1)).toNat (0:Int)) 64) (Cg (Bx (l3.getD (Bh ((l3.length:Int)-1)).toNat (0:Int)) 64) (Cg (Bx ((aD.Succ.getD (l3.getD (Bh ((l3.length:Int)-1)).toNat (0:Int)).toNat []).getD (l32.getD (l3.getD (Bh ((l3.length:Int)-1)).toNat (0:Int)).toNat (0:Int)).toNat (0:Int)) 64) (bif (!(l1.getD ((aD.Succ.getD (l3.getD (Bh ((l3.length:Int)-1)).toNat (0:Int)).toNat []).getD (l32.getD (l3.getD (Bh ((l3.length:Int)-1)).toNat (0:Int)).toNat (0:Int)).toNat (0:Int)).toNat false)) then(Cg (Bx ((aD.Succ.getD (l3.getD (Bh ((l3.length:Int)-1)).toNat (0:Int)).toNat []).getD (l32.getD (l3.getD (Bh ((l3.length:Int)-1)).toNat (0:Int)).toNat (0:Int)).toNat (0:Int)) 64) (Cg (l3.length+([((aD.Succ.getD (l3.getD (Bh ((l3.length:Int)-1)).toNat (0:Int)).toNat []).getD (l32.getD (l3.getD (Bh ((l3.length:Int)-1)).toNat (0:Int)).toNat (0:Int)).toNat (0:Int))]:A4).length<=room) (some (.done (.inr ((Ha 64 false l1 ((aD.Succ.getD (l3.getD (Bh ((l3.length:Int)-1)).toNat (0:Int)).toNat []).getD (l32.getD (l3.getD (Bh ((l3.length:Int)-1)).toNat (0:Int)).toNat (0:Int)).toNat (0:Int)).toNat true),(Ha 64 (0:Int) l32 (l3.getD (Bh ((l3.length:Int)-1)).toNat (0:Int)).toNat (Bh ((l32.getD (l3.getD (Bh ((l3.length:Int)-1)).toNat (0:Int)).toNat (0:Int))+1))),(l3++([((aD.Succ.getD (l3.getD (Bh ((l3.length:Int)-1)).toNat (0:Int)).toNat []).getD (l32.getD (l3.getD (Bh ((l3.length:Int)-1)).toNat (0:Int)).toNat (0:Int)).toNat (0:Int))]:A4)))))))) else(some (.next (Ha 64 (0:Int) l32 (l3.getD (Bh ((l3.length:Int)-1)).toNat (0:Int)).toNat (Bh ((l32.getD (l3.getD (Bh ((l3.length:Int)-1)).toNat (0:Int)).toNat (0:Int))+1)))))))))))) else(some (.done (.inl l32))))))
abbrev eP:=(List Bool×A4×A4×A4)
def Cz(aD:C5):eP->Option (LR (List Bool×A4×A4×A4) A4):=
 λ(s_:eP)=>match s_ with|(l1,l2,l3,l4)=>(Cg (Bx (Bh ((l3.length:Int)-1)) l3.length) ((Ai (F4 aD l1 l3) l2).bind (λx47=>(match x47 with|(.inl l33)=>(Cg (l4.length+([(l3.getD (Bh ((l3.length:Int)-1)).toNat (0:Int))]:A4).length<=room) (Cg (0<=(Bh ((l3.length:Int)-1))/\0+(Bh ((l3.length:Int)-1)).toNat<=l3.length) (bif (decide ((0:Int)<((l3.take (Bh ((l3.length:Int)-1)).toNat).length:Int))) then(some (.next (l1,l33,(l3.take (Bh ((l3.length:Int)-1)).toNat),(l4++([(l3.getD (Bh ((l3.length:Int)-1)).toNat (0:Int))]:A4))))) else((D0 (l4++([(l3.getD (Bh ((l3.length:Int)-1)).toNat (0:Int))]:A4))).bind λx51=>(Cg ((l4++([(l3.getD (Bh ((l3.length:Int)-1)).toNat (0:Int))]:A4)).length=x51.length) (some (.done x51)))))))|(.inr (l34,l35,l36))=>(some (.next (l34,l35,l36,l4)))))))
def GN(Γ:G5)(aD:C5)(a3:Int)(r:A4):Exit->St->Prop:=fK Tryz.prog Γ Tryz.f123.results.toList [] (RQ r 20000) [(20000,.tok 1 3 r.length)]
def kp(l1:List Bool):=(λi=>eB (l1.getD i false))
def aw(l3:A4):=(l3.getD (Bh ((l3.length:Int)-1)).toNat (0:Int))
def bQ(l4:A4)(l3:A4):=(l4++([(aw l3)]:A4))
def lU(l10:A4):=(λi=>Az (l10.getD i 0))
def lV(l33:A4):=(λi=>Az (l33.getD i 0))
def RM:=(λn_=>Bl n_ [2,5,6,25,36007])
def jf(a3:Int):=(λi=>Az ([a3].getD i 0))
def VJ(a3:Int):=([a3].getD (Bh (([a3].length:Int)-1)).toNat (0:Int))
def e9(a3:Int):=(([]:A4)++([(VJ a3)]:A4))
def kr(a3:Int):=(λi=>Az ((e9 a3).getD i 0))
def kq(l4:A4)(l3:A4):=(λi=>Az ((bQ l4 l3).getD i 0))
def kl:AV:=jh
def mc:=(λi=>Az (([]:A4).getD i 0))
def je(l3:A4):=(0+(Bh ((l3.length:Int)-1)).toNat)
def kj(a3:Int):=(0+(Bh (([a3].length:Int)-1)).toNat)
def m8(a3:Int):=([a3].take (Bh (([a3].length:Int)-1)).toNat)
def mz:=(λi=>Az ((List.replicate 64 (0:Int)).getD i 0))
def bP(aD:C5):List AV:=[(RP aD.Succ),(RP aD.Pred)]
def ii(a3:Int):=(λi=>eB ((Ha 64 false (List.replicate 64 false) a3.toNat true).getD i false))
def e8(aD:C5)(l3:A4)(l32:A4):=((aD.Succ.getD (aw l3).toNat []).getD (l32.getD (aw l3).toNat (0:Int)).toNat (0:Int))
def e7(aD:C5)(a3:Int)(l9:A4):=((aD.Succ.getD (VJ a3).toNat []).getD (l9.getD (VJ a3).toNat (0:Int)).toNat (0:Int))
def nq:=(Z57:St)
def nr(a3:Int):List iX:=[HS,bZ,bY,(7,(.vsl 36007 (e9 a3).length)),(8,(.vsl 25 (kj a3)))]
def np(a3:Int)(aD:C5):=(⟨[HS,bZ,bY,(7,(.vsl 36007 ([]:A4).length)),(8,(.vsl 25 [a3].length)),(9,(Z7 (VJ a3)))],[(2,.row 99 (bP aD)),(ba (ii a3)),(bC mz),(25,.arr 1 3 ([a3].length) (jf a3)),(36007,.arr 1 3 (([]:A4).length) mc)],[]⟩:St)
def G8(aD:C5)(a3:Int):Option A4:=
 ((Pu (S:=eP) (X:=A4) ((O4 aD).bind λx5=>((bif ((!x5)==false) then Gj a3 (aD.Succ.length:Int) else some false).bind λx6=>(bif (bif (!x5) then true else(!x6)) then(some (.done ([]:A4))) else(Cg (Bx a3 64) (Cg (Bx (Bh (([a3].length:Int)-1)) [a3].length) ((Ai (Yy aD a3) (List.replicate 64 (0:Int))).bind (λx24=>(match x24 with|(.inl l10)=>(Cg (([]:A4).length+([([a3].getD (Bh (([a3].length:Int)-1)).toNat (0:Int))]:A4).length<=room) (Cg (0<=(Bh (([a3].length:Int)-1))/\0+(Bh (([a3].length:Int)-1)).toNat<=[a3].length) (bif (decide ((0:Int)<(([a3].take (Bh (([a3].length:Int)-1)).toNat).length:Int))) then(some (.next ((Ha 64 false (List.replicate 64 false) a3.toNat true),l10,([a3].take (Bh (([a3].length:Int)-1)).toNat),(([]:A4)++([([a3].getD (Bh (([a3].length:Int)-1)).toNat (0:Int))]:A4))))) else((D0 (([]:A4)++([([a3].getD (Bh (([a3].length:Int)-1)).toNat (0:Int))]:A4))).bind λx28=>(Cg ((([]:A4)++([([a3].getD (Bh (([a3].length:Int)-1)).toNat (0:Int))]:A4)).length=x28.length) (some (.done x28)))))))|(.inr (l11,l12,l13))=>(some (.next (l11,l12,l13,([]:A4)))))))))))) (Cz aD)).bind (λx54=>(some x54)))
theorem Te(h:G8 v18 v1=some v2):sP 123 [(.agg (Qr v18)),(Z7 v1)] [] (RQ v2 20000) [(20000,.tok 1 3 v2.length)]:=
 sG Tryz.func123 λΓ q=>have hΓ:=q.own;gR q Yi [2] [(4,kl)] [] (c1 (Jg 1 Az (0:Int))) (tB h λx54 y54 h=>gS y54 (λ(s_:eP)=>match s_ with|(l1,l2,l3,l4)=>0) (λ(s_:eP)=>match s_ with|(l1,l2,l3,l4)=>(⟨[HS,bZ,bY,(7,(.vsl 36007 l4.length)),(8,(.vsl 25 l3.length))],[(2,.row 99 (bP v18)),(ba (kp l1)),(lf l2),(Z4 25 l3),(Z4 36007 l4)],[]⟩:St)) (λr_=>aR (GN Γ v18 v1 r_)) (λy h=>tB h λx5 y5 h=>tB h λx6 y6 h=>tT q [1,2,21] [2] [(Z2 x5),(Z2 x6)] (ci (MA y5) (kz ((!x5)==false) (c3 (λ(hg:((!x5)==false)=true)=>(L7 (Bk hg y6))) (gI ((!x5)==false)) (U4 (!x5))))) (gC h (λh=>gR q [4] [] [(4,kl)] [] (c1 (Jg 1 Az (0:Int))) (Ul (⟨[(4,kl)],[],[]⟩:St) (tS h (jB (Sh (Ks [(6004,20000)] (show Le Γ _ nq from Le.trans (Dv (st':=⟨[(4,kl)],[],[]⟩) [4] [] q) (Le.trans (cz (t:=4) (nm:=6004) (sz':=1) mc 3 rfl rfl (.inl ⟨rfl,rfl⟩) (λh_=>absurd h_ (by decide))) (Dv (st':=nq) [4] [6004] q))))))))) λh=>gR q Zy [2,5] [bZ] [] trivial (J3 (Ly 5 (show ∀ k_,k_<64->AVleL ((λi_=>AV.eraseAll (λn_=>Bl n_ [2,5]) ((λi=>(((List.replicate 64 [(.bool false)]).flatten).drop (i*1)).take 1) i_)) k_) ((λi=>eB ((List.replicate 64 false).getD i false)) k_) from(HW (e:=eB) (d:=false) (z:=[(.bool false)]) rfl rfl rfl))) (gR q [1,2,5,6] V1 [bY] [] trivial (J3 (Ly 6 (show ∀ k_,k_<64->AVleL ((λi_=>AV.eraseAll (λn_=>Bl n_ V1) ((λi=>(((List.replicate 64 [Ot]).flatten).drop (i*1)).take 1) i_)) k_) (mz k_) from(HW (e:=Az) (d:=(0:Int)) (z:=[Ot]) rfl rfl rfl))) (gR q [1,2,5,6,7] V1 [(7,kl)] [] (c1 (Jg 1 Az (0:Int))) (tC h λc7_ h=>tU q [1,2,5,6,7] V1 (c2 c7_ (Eq.refl 64)) (J3 (Ly 5 (show ∀ k_,k_<64->AVleL ((λi_=>AV.eraseAll (λn_=>Bl n_ V1) ((I8 (λi=>eB ((List.replicate 64 false).getD i false)) v1.toNat 0 [(.bool true)]) i_)) k_) ((ii v1) k_) from(Cl rfl (λk_ hk_=>(B8 (AV.eraseAll (λn_=>Bl n_ V1)) ((P7 (λ_ _=>rfl) (J4 c7_) rfl) k_ hk_)).trans rfl)))) (gR q Ub MS [(25,(.vsl 25 1))] [] trivial (J3 (Le.trans (Ly 25 (show ∀ k_,k_<1->AVleL ((λi_=>AV.eraseAll (λn_=>Bl n_ MS) ((λi_=>([(Z7 v1)].drop (i_*1)).take 1) i_)) k_) ((jf v1) k_) from(Cl rfl (hY (n:=0) kO rfl)))) (S6 (λ(k_:Nat) u=>(Fn u [(8,(.vsl 25 k_))] [(25,.arr 1 3 k_ (jf v1))])) (show 1=[v1].length from rfl))) (tC h λc8_ h=>tU q Vz MS (c2 c8_ (Eq.refl ([v1].length))) (J3 (st':=(np v1 v18)) (Le.trans (Dv (st':=⟨[HS,bZ,bY,(7,kl),(8,(.vsl 25 [v1].length)),(9,(Z7 (VJ v1)))],[(2,.row 99 (bP v18)),(ba (ii v1)),(bC mz),(25,.arr 1 3 ([v1].length) (jf v1))],[]⟩) Vz MS q) (Le.trans (j9 (t:=7) (nm:=36007) (sz':=1) mc 3 rfl rfl) (Dv (st':=(np v1 v18)) Vz Ku q))) (tL q h Vz Ku (λu l9=>(Fn u [] [(lf l9)])) (λu x_=>match x_ with|(.inl l10)=>aG Γ (.exit 0) (Fn u [] [(bC (lU l10))])|(.inr (l11,l12,l13))=>aG Γ (.goto 0) (Wj Ub Ku u [(8,(.vsl 25 l13.length))] [(5,.arr 1 207 64 (λi=>eB (l11.getD i false))),(lf l12),(Z4 25 l13)])) (λl9 y h=>tC h λc14_ h=>tC h λc15_ h=>tU q [2,5,6,7,8,9,41] Ku (c3 c14_ (Eq.refl 64) c15_) (gC h (λh=>tC h λc16_ h=>tC h λc17_ h=>tC h λc18_ h=>tU q XJ Ku (c4 c16_ c17_ (Eq.refl 64) c18_) (tC h λc19_ h=>tC h λc20_ h=>tU q XJ Ku (c4 c19_ (Eq.refl 64) c20_ (Eq.refl 64)) (J3 (Ly 6 (show ∀ k_,k_<64->AVleL ((λi_=>AV.eraseAll RM ((I8 (λi=>Az (l9.getD i 0)) (VJ v1).toNat 0 [(.int .i64 (Bh ((l9.getD (VJ v1).toNat (0:Int))+1)))]) i_)) k_) ((λi=>Az ((Ha 64 (0:Int) l9 (VJ v1).toNat (Bh ((l9.getD (VJ v1).toNat (0:Int))+1))).getD i 0)) k_) from(Cl rfl (λk_ hk_=>(B8 (AV.eraseAll RM) ((P7 (λ_ _=>rfl) (J4 c20_) rfl) k_ hk_)).trans rfl)))) (tC h λc21_ h=>tU q eW Ku (c2 c21_ (Eq.refl 64)) (gC h (λh=>tC h λc22_ h=>tU q [2,5,6,7,8,10] Ku (c2 c22_ (Eq.refl 64)) (J3 (Ly 5 (show ∀ k_,k_<64->AVleL ((λi_=>AV.eraseAll RM ((I8 (ii v1) (e7 v18 v1 l9).toNat 0 [(.bool true)]) i_)) k_) ((λi=>eB ((Ha 64 false (Ha 64 false (List.replicate 64 false) v1.toNat true) (e7 v18 v1 l9).toNat true).getD i false)) k_) from(Cl rfl (λk_ hk_=>(B8 (AV.eraseAll RM) ((P7 (λ_ _=>rfl) (J4 c22_) rfl) k_ hk_)).trans rfl)))) (tC h λc23_ h=>gR q Ub Ku [(65,(kw (e7 v18 v1 l9)))] [] (c3 (Cn 1 Az (0:Int) ([(e7 v18 v1 l9)]:A4)) (Eq.refl ([v1].length)) c23_) (tS h (gO (D7 (Le.trans (Le.trans (Ly 25 (show ∀ k_,k_<([v1].length+([(e7 v18 v1 l9)]:A4).length)->AVleL ((λi_=>AV.eraseAll RM ((Jv ([v1].length) (jf v1) (λi=>Az (([(e7 v18 v1 l9)]:A4).getD i 0))) i_)) k_) ((λi=>Az (([v1]++([(e7 v18 v1 l9)]:A4)).getD i 0)) k_) from(Cl (Il _ _) (λk_ hk_=>(B8 (AV.eraseAll RM) ((Wz (λ_ _=>rfl) (λ_ _=>rfl)) k_ hk_)).trans rfl)))) (S6 (λ(k_:Nat) u=>(Fn u [(8,(.vsl 25 k_))] [(25,.arr 1 3 k_ (λi=>Az (([v1]++([(e7 v18 v1 l9)]:A4)).getD i 0)))])) (show([v1].length+([(e7 v18 v1 l9)]:A4).length)=([v1]++([(e7 v18 v1 l9)]:A4)).length from(Il _ _)))) M7))))))) λh=>tS h (gN (Dv Vz Ku q))))))) λh=>tS h (gO (D7 (Dv Vz Ku q))))) λx24 h=>(match x24,h with | .inl l10,h=>gA (tC h λc26_ h=>gR q Ub Ku [(69,(kw (VJ v1)))] [] (c3 (Cn 1 Az (0:Int) ([(VJ v1)]:A4)) (Eq.refl (([]:A4).length)) c26_) (J3 (Le.trans (Ly 36007 (show ∀ k_,k_<(([]:A4).length+([(VJ v1)]:A4).length)->AVleL ((λi_=>AV.eraseAll RM ((Jv (([]:A4).length) mc (λi=>Az (([(VJ v1)]:A4).getD i 0))) i_)) k_) ((kr v1) k_) from(Cl (Il _ _) (λk_ hk_=>(B8 (AV.eraseAll RM) ((Wz (λ_ _=>rfl) (λ_ _=>rfl)) k_ hk_)).trans rfl)))) (S6 (λ(k_:Nat) u=>(Fn u [(7,(.vsl 36007 k_))] [(36007,.arr 1 3 k_ (kr v1))])) (show(([]:A4).length+([(VJ v1)]:A4).length)=(e9 v1).length from(Il _ _)))) (tC h λc27_ h=>tU q Ub Ku (c1 c27_) (Ul (⟨[HS,bZ,bY,(7,(.vsl 36007 (e9 v1).length)),(8,(.vsub 25 [v1].length 0 (kj v1)))],[(2,.row 99 (bP v18)),(ba (ii v1)),(bC (lU l10)),(25,.arr 1 3 ([v1].length) (jf v1)),(36007,.arr 1 3 ((e9 v1).length) (kr v1))],[]⟩:St) (J3 (Le.trans (Le.trans (OP (t:=8) (r:=25) (k:=(kj v1)) rfl rfl c27_.2 (by kernel_rfl) (.row (by kernel_rfl) (.arr (λ_=>by kernel_rfl) (.arr (λ_=>by kernel_rfl) (.arr (λ_=>by kernel_rfl) (.arr (λ_=>by kernel_rfl) .nil))))) (by rw[hΓ];rfl)) (Nz (st':=⟨(nr v1),[(2,.row 99 (bP v18)),(ba (ii v1)),(bC (lU l10)),(25,.arr 1 3 (kj v1) (jf v1)),(36007,.arr 1 3 ((e9 v1).length) (kr v1))],[]⟩) (by kernel_rfl))) (Le.trans (K1 (st':=⟨(nr v1),[(2,.row 99 (bP v18)),(ba (ii v1)),(bC (lU l10)),(25,.arr 1 3 (kj v1) (λi=>Az ((m8 v1).getD i 0))),(36007,.arr 1 3 ((e9 v1).length) (kr v1))],[]⟩) (TmpsLe.refl _) (.same (.same (.same (.arr (WX (e:=Az) (d:=(0:Int))) (.same .nil)))))) (Nz (B8 (λk_:Nat=>(⟨[HS,bZ,bY,(7,(.vsl 36007 (e9 v1).length)),(8,(.vsl 25 k_))],[(2,.row 99 (bP v18)),(ba (ii v1)),(bC (lU l10)),(25,.arr 1 3 k_ (λi=>Az ((m8 v1).getD i 0))),(36007,.arr 1 3 ((e9 v1).length) (kr v1))],[]⟩:St)) (show(kj v1)=(m8 v1).length from QP c27_.2))))) (Ao q [2,5,6,7,8,78] Ku (gC h (λh=>tS h (gD (Dv Ub Ku q))) λh=>tB h λx28 y28 h=>tC h λc29_ h=>tT q [7] [36007] [⟨[(36007,34000)],[],(.tuple []),[(Z4 34000 x28)],[],[]⟩] (c1 (Js y28)) (J3 (S6 (λ(k_:Nat) u=>(Fn u [(7,(.vsl 36007 k_))] [])) (show(e9 v1).length=x28.length from c29_)) (Ao q [4] [36007] (Ul (⟨[(4,(.vsl 36007 x28.length))],[(Z4 36007 x28)],[]⟩:St) (tS h (jB (Sh (Ks [(36007,20000)] (Le.trans (Lz (nm:=36007) (sz:=1) (n:=x28.length) (e:=3) (f:=(λi=>Az (x28.getD i 0))) (g:=(λi=>Az (x28.getD i 0))) rfl ⟨rfl,trivial⟩ (λ_ _=>rfl) (by rw[hΓ];rfl)) (Nz (st':=⟨[(4,(RQ x28 36007))],[(36007,.tok 1 3 x28.length)],[]⟩) (by kernel_rfl))))))))))))))))) | .inr ⟨l11,l12,l13⟩,h=>jA (λst' hl30=>tS h (gD (Le.trans hl30 M7))))))))))))))))) (λ⟨l1,l2,l3,l4⟩ y h=>tC h λc31_ h=>tU q Vz Ku (c2 c31_ (Eq.refl l3.length)) (tL q h Vz Ku (λu l32=>(Fn u [] [(lf l32)])) (λu x_=>match x_ with|(.inl l33)=>aG Γ (.exit 0) (Fn u [] [(bC (lV l33))])|(.inr (l34,l35,l36))=>aG Γ (.goto 0) (Wj Ub Ku u [(8,(.vsl 25 l36.length))] [(5,.arr 1 207 64 (λi=>eB (l34.getD i false))),(lf l35),(Z4 25 l36)])) (λl32 y h=>tC h λc37_ h=>tC h λc38_ h=>tU q [2,5,6,7,8,9,41] Ku (c3 c37_ (Eq.refl 64) c38_) (gC h (λh=>tC h λc39_ h=>tC h λc40_ h=>tC h λc41_ h=>tU q XJ Ku (c4 c39_ c40_ (Eq.refl 64) c41_) (tC h λc42_ h=>tC h λc43_ h=>tU q XJ Ku (c4 c42_ (Eq.refl 64) c43_ (Eq.refl 64)) (J3 (Ly 6 (show ∀ k_,k_<64->AVleL ((λi_=>AV.eraseAll RM ((I8 (λi=>Az (l32.getD i 0)) (aw l3).toNat 0 [(.int .i64 (Bh ((l32.getD (aw l3).toNat (0:Int))+1)))]) i_)) k_) ((λi=>Az ((Ha 64 (0:Int) l32 (aw l3).toNat (Bh ((l32.getD (aw l3).toNat (0:Int))+1))).getD i 0)) k_) from(Cl rfl (λk_ hk_=>(B8 (AV.eraseAll RM) ((P7 (λ_ _=>rfl) (J4 c43_) rfl) k_ hk_)).trans rfl)))) (tC h λc44_ h=>tU q eW Ku (c2 c44_ (Eq.refl 64)) (gC h (λh=>tC h λc45_ h=>tU q [2,5,6,7,8,10] Ku (c2 c45_ (Eq.refl 64)) (J3 (Ly 5 (show ∀ k_,k_<64->AVleL ((λi_=>AV.eraseAll RM ((I8 (kp l1) (e8 v18 l3 l32).toNat 0 [(.bool true)]) i_)) k_) ((λi=>eB ((Ha 64 false l1 (e8 v18 l3 l32).toNat true).getD i false)) k_) from(Cl rfl (λk_ hk_=>(B8 (AV.eraseAll RM) ((P7 (λ_ _=>rfl) (J4 c45_) rfl) k_ hk_)).trans rfl)))) (tC h λc46_ h=>gR q Ub Ku [(65,(kw (e8 v18 l3 l32)))] [] (c3 (Cn 1 Az (0:Int) ([(e8 v18 l3 l32)]:A4)) (Eq.refl l3.length) c46_) (tS h (gO (D7 (Le.trans (Le.trans (Ly 25 (show ∀ k_,k_<(l3.length+([(e8 v18 l3 l32)]:A4).length)->AVleL ((λi_=>AV.eraseAll RM ((Jv l3.length (λi=>Az (l3.getD i 0)) (λi=>Az (([(e8 v18 l3 l32)]:A4).getD i 0))) i_)) k_) ((λi=>Az ((l3++([(e8 v18 l3 l32)]:A4)).getD i 0)) k_) from(Cl (Il _ _) (λk_ hk_=>(B8 (AV.eraseAll RM) ((Wz (λ_ _=>rfl) (λ_ _=>rfl)) k_ hk_)).trans rfl)))) (S6 (λ(k_:Nat) u=>(Fn u [(8,(.vsl 25 k_))] [(25,.arr 1 3 k_ (λi=>Az ((l3++([(e8 v18 l3 l32)]:A4)).getD i 0)))])) (show(l3.length+([(e8 v18 l3 l32)]:A4).length)=(l3++([(e8 v18 l3 l32)]:A4)).length from(Il _ _)))) M7))))))) λh=>tS h (gN (Dv Vz Ku q))))))) λh=>tS h (gO (D7 (Dv Vz Ku q))))) λx47 h=>(match x47,h with | .inl l33,h=>gA (tC h λc49_ h=>gR q Ub Ku [(69,(kw (aw l3)))] [] (c3 (Cn 1 Az (0:Int) ([(aw l3)]:A4)) (Eq.refl l4.length) c49_) (J3 (Le.trans (Ly 36007 (show ∀ k_,k_<(l4.length+([(aw l3)]:A4).length)->AVleL ((λi_=>AV.eraseAll RM ((Jv l4.length (λi=>Az (l4.getD i 0)) (λi=>Az (([(aw l3)]:A4).getD i 0))) i_)) k_) ((kq l4 l3) k_) from(Cl (Il _ _) (λk_ hk_=>(B8 (AV.eraseAll RM) ((Wz (λ_ _=>rfl) (λ_ _=>rfl)) k_ hk_)).trans rfl)))) (S6 (λ(k_:Nat) u=>(Fn u [(7,(.vsl 36007 k_))] [(36007,.arr 1 3 k_ (kq l4 l3))])) (show(l4.length+([(aw l3)]:A4).length)=(bQ l4 l3).length from(Il _ _)))) (tC h λc50_ h=>tU q Ub Ku (c1 c50_) (Ul (⟨[HS,bZ,bY,(7,(.vsl 36007 (bQ l4 l3).length)),(8,(.vsub 25 l3.length 0 (je l3)))],[(2,.row 99 (bP v18)),(ba (kp l1)),(bC (lV l33)),(Z4 25 l3),(36007,.arr 1 3 ((bQ l4 l3).length) (kq l4 l3))],[]⟩:St) (J3 (Le.trans (Le.trans (OP (t:=8) (r:=25) (k:=(je l3)) rfl rfl c50_.2 (by kernel_rfl) (.row (by kernel_rfl) (.arr (λ_=>by kernel_rfl) (.arr (λ_=>by kernel_rfl) (.arr (λ_=>by kernel_rfl) (.arr (λ_=>by kernel_rfl) .nil))))) (by rw[hΓ];rfl)) (Nz (st':=⟨[HS,bZ,bY,(7,(.vsl 36007 (bQ l4 l3).length)),(8,(.vsl 25 (je l3)))],[(2,.row 99 (bP v18)),(ba (kp l1)),(bC (lV l33)),(25,.arr 1 3 (je l3) (λi=>Az (l3.getD i 0))),(36007,.arr 1 3 ((bQ l4 l3).length) (kq l4 l3))],[]⟩) (by kernel_rfl))) (Le.trans (K1 (st':=⟨[HS,bZ,bY,(7,(.vsl 36007 (bQ l4 l3).length)),(8,(.vsl 25 (je l3)))],[(2,.row 99 (bP v18)),(ba (kp l1)),(bC (lV l33)),(25,.arr 1 3 (je l3) (λi=>Az ((l3.take (Bh ((l3.length:Int)-1)).toNat).getD i 0))),(36007,.arr 1 3 ((bQ l4 l3).length) (kq l4 l3))],[]⟩) (TmpsLe.refl _) (.same (.same (.same (.arr (WX (e:=Az) (d:=(0:Int))) (.same .nil)))))) (Nz (B8 (λk_:Nat=>(⟨[HS,bZ,bY,(7,(.vsl 36007 (bQ l4 l3).length)),(8,(.vsl 25 k_))],[(2,.row 99 (bP v18)),(ba (kp l1)),(bC (lV l33)),(25,.arr 1 3 k_ (λi=>Az ((l3.take (Bh ((l3.length:Int)-1)).toNat).getD i 0))),(36007,.arr 1 3 ((bQ l4 l3).length) (kq l4 l3))],[]⟩:St)) (show(je l3)=(l3.take (Bh ((l3.length:Int)-1)).toNat).length from QP c50_.2))))) (Ao q [2,5,6,7,8,78] Ku (gC h (λh=>tS h (gD (Dv Ub Ku q))) λh=>tB h λx51 y51 h=>tC h λc52_ h=>tT q [7] [36007] [⟨[(36007,34000)],[],(.tuple []),[(Z4 34000 x51)],[],[]⟩] (c1 (Js y51)) (J3 (S6 (λ(k_:Nat) u=>(Fn u [(7,(.vsl 36007 k_))] [])) (show(bQ l4 l3).length=x51.length from c52_)) (Ao q [4] [36007] (Ul (⟨[(4,(.vsl 36007 x51.length))],[(Z4 36007 x51)],[]⟩:St) (tS h (jB (Sh (Ks [(36007,20000)] (Le.trans (Lz (nm:=36007) (sz:=1) (n:=x51.length) (e:=3) (f:=(λi=>Az (x51.getD i 0))) (g:=(λi=>Az (x51.getD i 0))) rfl ⟨rfl,trivial⟩ (λ_ _=>rfl) (by rw[hΓ];rfl)) (Nz (st':=⟨[(4,(RQ x51 36007))],[(36007,.tok 1 3 x51.length)],[]⟩) (by kernel_rfl))))))))))))))))) | .inr ⟨l34,l35,l36⟩,h=>jA (λst' hl53=>tS h (gD (Le.trans hl53 M7)))))) (Wa (λst' hk=>tS h (gK hk))))
def Xf(a1:Int)(aI:Int):Option G2:=
 (some ((Cf ((Cf ((Cf ((X3 .u64 a1 (32:Int))*(X3 .u64 aI (32:Int))))+(X3 .u64 (Cf ((Cf ((X3 .u64 a1 (32:Int))*(Ox .and .u64 aI (4294967295:Int))))+(X3 .u64 (Cf ((Ox .and .u64 a1 (4294967295:Int))*(Ox .and .u64 aI (4294967295:Int)))) (32:Int)))) (32:Int))))+(X3 .u64 (Cf ((Ox .and .u64 (Cf ((Cf ((X3 .u64 a1 (32:Int))*(Ox .and .u64 aI (4294967295:Int))))+(X3 .u64 (Cf ((Ox .and .u64 a1 (4294967295:Int))*(Ox .and .u64 aI (4294967295:Int)))) (32:Int)))) (4294967295:Int))+(Cf ((Ox .and .u64 a1 (4294967295:Int))*(X3 .u64 aI (32:Int)))))) (32:Int)))),(Cf (a1*aI))))
variable{v19:G2}
theorem HA(h:Xf v1 v11=some v19):sP 208 [(Hc v1),(Hc v11)] [] (.tuple [(Hc v19.1),(Hc v19.2)]) []:=
 sG Tryz.func208 λΓ q=>tW q Hr [] [0,1,6] [] (tU q [0,1,6,7] [] (c1 (show(0<=(32:Int)) from(by decide))) (Ao q [0,1,6,7,8] [] (tU q [0,1,6,7,8,9] [] (c1 (show(0<=(32:Int)) from(by decide))) (Ao q [0,1,6,7,8,9,10] [] (tU q [0,1,6,7,9,11] [] (c1 (show(0<=(32:Int)) from(by decide))) (Ao q [0,1,6,7,9,11,12] [] (tU q [0,1,6,7,9,12,13] [] (c1 (show(0<=(32:Int)) from(by decide))) (Ao q [0,1,7,9,12,13] [] (tU q [0,1,4] [] (c1 (show(0<=(32:Int)) from(by decide))) (Ao q Sd [] (tS h (C1 []))))))))))))
def L1(a1:Int)(aI:Int):Option G2:=
 ((Xf a1 aI).bind λx1=>(some (x1.1,x1.2)))
theorem AQ(h:L1 v1 v11=some v19):sP 185 [(Hc v1),(Hc v11)] [] (.tuple [(Hc v19.1),(Hc v19.2)]) []:=
 sG Tryz.func185 λΓ q=>Ao q Hr [] (ZB false (tB h λx1 y1 h=>tT q [8,9] [] [⟨[],[],(.tuple [(Hc x1.1),(Hc x1.2)]),[],[],[]⟩] (c1 (HA y1)) (Ao q Sd [] (tS h (C1 [])))))
abbrev UP:=(Int×A4)
def Cd :UP->Option (LR (Int×A4) A4):=
 λ((i7,l8):UP)=>(bif (decide (i7<(l8.length:Int))) then(Cg (0<=i7/\0+i7.toNat<=l8.length) (Cg (0<=i7/\0+i7.toNat<=l8.length) (some (.next ((Bh (i7+((Nat.min ((0+i7.toNat)-0) (l8.length-(0+i7.toNat))):Int))),(SS l8 (0+i7.toNat) (Nat.min ((0+i7.toNat)-0) (l8.length-(0+i7.toNat))) (λi=>l8.getD (0+i) 0))))))) else(some (.done l8)))
def bR(x3:G2):=(List.replicate (Bh x3.2).toNat (0:Int))
def nA(x3:G2)(a1:A4):=(SS (bR x3) 0 (Nat.min a1.length ((bR x3).length-0)) (λi=>a1.getD i 0))
def m9(l8:A4)(i7:Int):=(SS l8 (0+i7.toNat) (Nat.min ((0+i7.toNat)-0) (l8.length-(0+i7.toNat))) (λi=>l8.getD (0+i) 0))
def Ff(a1:A4)(aa1:Int):Option A4:=
 (Option.bind (α:=Unit) (bif (decide (aa1<0)) then none else(some ())) (λx1=>(match x1 with|_=>((L1 (Cf (a1.length:Int)) (Cf aa1)).bind λx3=>(Option.bind (α:=Unit) (bif (bif (decide ((0:Int)<x3.1)) then true else(decide ((9223372036854775807:Int)<x3.2))) then none else(some ())) (λx4=>(match x4 with|_=>(Cg (0<=(Bh x3.2)/\(Bh x3.2)<=(Bh x3.2)/\(Bh x3.2)<=(room:Int)) ((Ai (S:=UP) (X:=A4) Cd (((Nat.min a1.length ((List.replicate (Bh x3.2).toNat (0:Int)).length-0)):Int),(SS (List.replicate (Bh x3.2).toNat (0:Int)) 0 (Nat.min a1.length ((List.replicate (Bh x3.2).toNat (0:Int)).length-0)) (λi=>a1.getD i 0)))).bind (λx12=>(some x12)))))))))))
theorem Pt(h:Ff v2 v1=some v17):sP 162 [(Qj v2),(Z7 v1)] [] (.vsl 20000 v17.length) [(Z4 20000 v17)]:=
 sG Tryz.func162 λΓ q=>gR q Hr [] [(4,jh)] [] (c1 (Jg 1 Az (0:Int))) (tB h λx1 y1 h=>gJ y1 (λ_=>aG Γ .normal (⟨[(0,(Qj v2)),(1,(Z7 v1))],[],[]⟩:St)) (λy h=>Ao q BL [] (gC h (λh=>nomatch h) λh=>tS h (gK (D7 (Dv Hr [] q))))) (gA (tB h λx3 y3 h=>tT q [0,5,6] [] [⟨[],[],(.tuple [(Hc x3.1),(Hc x3.2)]),[],[],[]⟩] (c1 (AQ y3)) (tB h λx4 y4 h=>gJ y4 (λ_=>aG Γ .normal (⟨[(0,(Qj v2)),(6,(Hc x3.2))],[],[]⟩:St)) (λy h=>tU q [0,6,26] [] (c2 (gI ((decide ((0:Int)<x3.1))==false)) (U4 (decide ((0:Int)<x3.1)))) (gC h (λh=>nomatch h) λh=>tS h (gK (D7 (Dv [0,6] [] q))))) (gA (tV q [0,7] [30] h λh=>by exact J3 (Le.trans (Ly 30 (show ∀ k_,k_<((Bh x3.2).toNat)->AVleL ((λi_=>AV.eraseAll (λn_=>Bl n_ [30]) ((λ_=>[Ot]) i_)) k_) ((λi=>Az ((bR x3).getD i 0)) k_) from(λk hk=>Xg (e:=Az) (d:=(0:Int)) (.cons (AVle.refl _) .nil) _ k (Xz hk)))) (S6 (λ(k_:Nat) u=>(Fn u [(7,(.vsl 30 k_))] [(30,.arr 1 3 k_ (λi=>Az ((bR x3).getD i 0)))])) (show(Bh x3.2).toNat=(bR x3).length from(X7 ..).symm))) (tU q Mt [30] (c1 (Eq.refl ((bR x3).length))) (J3 (Le.trans (Ly 30 (show ∀ k_,k_<((bR x3).length)->AVleL ((λi_=>AV.eraseAll (λn_=>Bl n_ [30]) ((NX (λi=>Az ((bR x3).getD i 0)) 0 (Nat.min v2.length ((bR x3).length-0)) (λi=>Az (v2.getD i 0))) i_)) k_) ((λi=>Az ((nA x3 v2).getD i 0)) k_) from(Cl (F6 ..) (λk_ hk_=>(B8 (AV.eraseAll (λn_=>Bl n_ [30])) ((CF (e:=Az) (d:=(0:Int)) (l:=(bR x3)) (s:=(λi=>v2.getD i 0)) (λ_ _=>rfl) (λ_ _=>rfl)) k_ hk_)).trans rfl)))) (S6 (λ(k_:Nat) u=>(Fn u [(7,(.vsl 30 k_))] [(30,.arr 1 3 k_ (λi=>Az ((nA x3 v2).getD i 0)))])) (show(bR x3).length=(nA x3 v2).length from(F6 ..)))) (tL q h Mt [30] (λu (i7,l8)=>(Fn u [(7,(.vsl 30 l8.length)),(8,(Z7 i7))] [(Z4 30 l8)])) (λu l9=>aG Γ (.exit 0) (⟨[(7,(.vsl 30 l9.length))],[(Z4 30 l9)],[]⟩:St)) (λ⟨i7,l8⟩ y h=>Ao q [7,8,37] [30] (gC h (λh=>tC h λc10_ h=>tC h λc11_ h=>tU q Mt [30] (c4 c10_ c11_ (Eq.refl l8.length) (Eq.refl l8.length)) (tS h (gN (Le.trans (Le.trans (Ly 30 (show ∀ k_,k_<l8.length->AVleL ((λi_=>AV.eraseAll (λn_=>Bl n_ [30]) ((NX (λi=>Az (l8.getD i 0)) (0+i7.toNat) (Nat.min ((0+i7.toNat)-0) (l8.length-(0+i7.toNat))) (λi=>(λi=>Az (l8.getD i 0)) (0+i))) i_)) k_) ((λi=>Az ((m9 l8 i7).getD i 0)) k_) from(Cl (F6 ..) (λk_ hk_=>(B8 (AV.eraseAll (λn_=>Bl n_ [30])) ((CF (e:=Az) (d:=(0:Int)) (l:=l8) (s:=(λi=>l8.getD (0+i) 0)) (λ_ _=>rfl) (λ_ _=>rfl)) k_ hk_)).trans rfl)))) (S6 (λ(k_:Nat) u=>(Fn u [(7,(.vsl 30 k_))] [(30,.arr 1 3 k_ (λi=>Az ((m9 l8 i7).getD i 0)))])) (show l8.length=(m9 l8 i7).length from(F6 ..)))) M7)))) λh=>tS h (gO (D7 (Dv [7] [30] q))))) λx12 h=>gA (Ao q [4] [30] (tS h (C1 [(30,20000)]))))))))))))
def Fy(aC:A4):(Int×List Bool)->Option (LR (Int×List Bool) (List Bool)):=
 λ((i2,l3):(Int×List Bool))=>(bif (i2 !=-1) then(Cg (Bx i2 l3.length) (Cg (Bx i2 aC.length) (some (.next ((aC.getD i2.toNat 0),(l3.set i2.toNat true)))))) else(some (.done l3)))
def Fz(aC:A4)(l4:List Bool):Int->Option (LR Int Int):=
 λ(i9:Int)=>(Cg (Bx i9 l4.length) (bif (!(l4.getD i9.toNat false)) then(Cg (Bx i9 aC.length) (some (.next (aC.getD i9.toNat 0)))) else(some (.done i9))))
def L3(aC:A4)(aJ:Int)(aK:Int):Option Int:=
 (Cg (0<=(aC.length:Int)/\(aC.length:Int)<=(aC.length:Int)/\(aC.length:Int)<=(room:Int)) ((Ai (Fy aC) (aJ,(List.replicate (aC.length:Int).toNat false))).bind (λx7=>((Ai (Fz aC x7) aK).bind (λx13=>(some x13))))))
variable{v20:Int}
theorem AR(h:L3 v2 v1 v11=some v20):sP 186 [(Qj v2),(Z7 v1),(Z7 v11)] [] (.int .i64 v20) []:=
 sG Tryz.func186 λΓ q=>Ao q [0,1,2] [] (tV q [0,1,2,7] [11] h λh=>by exact J3 (Le.trans (Ly 11 (show ∀ k_,k_<((v2.length:Int).toNat)->AVleL ((λi_=>AV.eraseAll (λn_=>Bl n_ [11]) ((λ_=>[(.bool false)]) i_)) k_) ((λi=>eB ((List.replicate (v2.length:Int).toNat false).getD i false)) k_) from(λk hk=>Xg (e:=eB) (d:=false) (.cons (AVle.refl _) .nil) _ k (Xz hk)))) (S6 (λ(k_:Nat) u=>(Fn u [(7,(.vsl 11 k_))] [(11,.arr 1 4 k_ (λi=>eB ((List.replicate (v2.length:Int).toNat false).getD i false)))])) (show(v2.length:Int).toNat=(List.replicate (v2.length:Int).toNat false).length from(X7 ..).symm))) (Ao q MT [11] (tL q h MT [11] (λu (i2,l3)=>(Fn u [(7,(.vsl 11 l3.length)),(8,(Z7 i2))] [(11,.arr 1 4 l3.length (λi=>eB (l3.getD i false)))])) (λu l4=>aG Γ (.exit 0) (Wj [0,2,7] [11] u [(7,(.vsl 11 l4.length))] [(11,.arr 1 4 l4.length (λi=>eB (l4.getD i false)))])) (λ⟨i2,l3⟩ y h=>Ao q [0,2,7,8,14] [11] (gC h (λh=>tC h λc5_ h=>tU q MT [11] (c2 c5_ (Eq.refl l3.length)) (J3 (Le.trans (Ly 11 (show ∀ k_,k_<l3.length->AVleL ((λi_=>AV.eraseAll (λn_=>Bl n_ [11]) ((I8 (λi=>eB (l3.getD i false)) i2.toNat 0 [(.bool true)]) i_)) k_) ((λi=>eB ((l3.set i2.toNat true).getD i false)) k_) from(Cl (Ib ..).symm (λk_ hk_=>(B8 (AV.eraseAll (λn_=>Bl n_ [11])) ((Ml (λ_ _=>rfl) (Oz c5_) rfl) k_ hk_)).trans rfl)))) (S6 (λ(k_:Nat) u=>(Fn u [(7,(.vsl 11 k_))] [(11,.arr 1 4 k_ (λi=>eB ((l3.set i2.toNat true).getD i false)))])) (show l3.length=(l3.set i2.toNat true).length from(Ib ..).symm))) (tV q MT [11] h λh=>tN h))) λh=>tS h (gO (D7 (Dv [0,2,7] [11] q))))) λx7 h=>gA (tL q h [0,2,7] [11] (λu i9=>(Fn u [(2,(Z7 i9))] [])) (λu i10=>aG Γ (.exit 2) (⟨[(2,(Z7 i10))],[],[]⟩:St)) (λi9 y h=>tC h λc11_ h=>tU q [0,2,7,26] [11] (c2 c11_ (Eq.refl x7.length)) (gC h (λh=>tV q [0,2,7] [11] h λh=>tN h) λh=>tS h (gO (D7 (Dv [2] [] q))))) λx13 h=>gA (Ao q [6] [] (tS h (C1 [])))))))
def D5(aC:A4)(aA:A4):G2->Option mS:=
 λ((i1,i2):G2)=>(bif (decide (i2<(aA.length:Int))) then(Option.bind (α:=Int) (Cg (Bx i2 aA.length) (Cg (Bx (aA.getD i2.toNat 0) aC.length) (bif ((aC.getD (aA.getD i2.toNat 0).toNat (0:Int))==-2) then(some i1) else(bif (i1==-2) then(some (aA.getD i2.toNat 0)) else((L3 aC i1 (aA.getD i2.toNat 0)).bind λx7=>(some x7)))))) (λx8=>(some (.next (x8,(Bh (i2+1))))))) else(some (.done i1)))
def Ih(aC:A4)(aA:A4):Option Int:=
 ((Ai (D5 aC aA) ((-2:Int),(0:Int))).bind (λx10=>(some x10)))
theorem Td(h:Ih v2 v17=some v1):sP 163 [(Qj v2),(Qj v17)] [] (.int .i64 v1) []:=
 sG Tryz.func163 λΓ q=>tW q Hr [] GI [] (Ao q KB [] (tL q h KB [] (λu (i1,i2)=>(Fn u [(5,(Z7 i1)),(10,(Z7 i2))] [])) (λu i3=>aG Γ (.exit 0) (⟨[(5,(Z7 i3))],[],[]⟩:St)) (λ⟨i1,i2⟩ y h=>Ao q [0,5,8,9,10,11] [] (gC h (λh=>tB h λx8 y8 h=>gJ y8 (λi4=>aG Γ .normal (⟨[(0,(Qj v2)),(5,(Z7 i4)),(8,(Qj v17)),(9,(SA v17.length)),(10,(Z7 i2))],[],[]⟩:St)) (λy h=>tV q [0,5,7,8,9,10] [] h λh=>tV q [0,5,7,8,9,10,18] [] h λh=>gC h (λh=>tS h (gK (D7 (Dv KB [] q)))) λh=>Ao q [0,5,7,8,9,10,24] [] (gC h (λh=>Ao q KB [] (tS h (gK (D7 M7)))) λh=>tB h λx7 y7 h=>tT q KB [] [(XZ x7)] (c1 (AR y7)) (tS h (gK (D7 M7))))) (gA (Ao q KB [] (tN h)))) λh=>tS h (gO (D7 (Dv [5] [] q))))) λx10 h=>gA (Ao q [4] [] (tS h (C1 [])))))
set_option maxRecDepth 100000
set_option maxHeartbeats 2000000
abbrev iV:=(Bool×Int×A4)
abbrev mN:=(LR (Bool×Int×A4) (Bool×A4))
abbrev eQ:=(Bool×A4)
def Dz(aD:C5)(x3:A4):iV->Option mN:=
 λ((b7,i8,l9):iV)=>(bif (decide (i8<((x3.drop (1:Int).toNat).length:Int))) then(Option.bind (α:=eQ) (Cg (Bx i8 (x3.drop (1:Int).toNat).length) (Cg (Bx ((x3.drop (1:Int).toNat).getD i8.toNat 0) aD.Pred.length) ((Ih l9 (aD.Pred.getD ((x3.drop (1:Int).toNat).getD i8.toNat 0).toNat [])).bind λx16=>(Cg (Bx ((x3.drop (1:Int).toNat).getD i8.toNat 0) l9.length) (bif (x16 !=(l9.getD ((x3.drop (1:Int).toNat).getD i8.toNat 0).toNat (0:Int))) then(Cg (Bx ((x3.drop (1:Int).toNat).getD i8.toNat 0) l9.length) (some (true,(l9.set ((x3.drop (1:Int).toNat).getD i8.toNat 0).toNat x16)))) else(some (b7,l9))))))) (λ(b12,l13)=>(some (.next (b12,(Bh (i8+1)),l13))))) else(some (.done (b7,l9))))
def Pk(aD:C5)(l1:A4):iV->Option mN:=
 λ((b24,i25,l26):iV)=>(bif (decide (i25<((l1.drop (1:Int).toNat).length:Int))) then(Option.bind (α:=eQ) (Cg (Bx i25 (l1.drop (1:Int).toNat).length) (Cg (Bx ((l1.drop (1:Int).toNat).getD i25.toNat 0) aD.Pred.length) ((Ih l26 (aD.Pred.getD ((l1.drop (1:Int).toNat).getD i25.toNat 0).toNat [])).bind λx33=>(Cg (Bx ((l1.drop (1:Int).toNat).getD i25.toNat 0) l26.length) (bif (x33 !=(l26.getD ((l1.drop (1:Int).toNat).getD i25.toNat 0).toNat (0:Int))) then(Cg (Bx ((l1.drop (1:Int).toNat).getD i25.toNat 0) l26.length) (some (true,(l26.set ((l1.drop (1:Int).toNat).getD i25.toNat 0).toNat x33)))) else(some (b24,l26))))))) (λ(b29,l30)=>(some (.next (b29,(Bh (i25+1)),l30))))) else(some (.done (b24,l26))))
abbrev eR:=(A4×A4)
def E5(aD:C5):eR->Option (LR (A4×A4) A4):=
 λ(s_:eR)=>match s_ with|(l1,l2)=>(Cg (0<=(1:Int)/\(1:Int)<=(l1.length:Int)) ((Ai (Pk aD l1) (false,(0:Int),l2)).bind (λx38=>(match x38 with|(b27,l28)=>(bif b27 then(some (.next (l1,l28))) else(some (.done l28)))))))
def RU(Γ:G5)(aD:C5)(aV:Int)(r:A4):Exit->St->Prop:=fK Tryz.prog Γ Tryz.f124.results.toList [] (RQ r 20000) [(20000,.tok 1 3 r.length)]
def ku:=(λn_=>Bl n_ [2,13,21])
def mf:List iX:=[(4,jh)]
def me(x3:A4)(i8:Int):=((x3.drop (1:Int).toNat).getD i8.toNat 0)
def md(l1:A4)(i25:Int):=((l1.drop (1:Int).toNat).getD i25.toNat 0)
def nB(aD:C5):List AV:=[(RP aD.Succ),(RP aD.Pred)]
def nt:=(Z57:St)
def N1(aD:C5)(aV:Int):Option A4:=
 ((Pu (S:=eR) (X:=A4) ((G8 aD aV).bind λx3=>(bif ((x3.length:Int)==0) then(some (.done ([]:A4))) else((Ff ([(-2:Int)]:A4) (aD.Succ.length:Int)).bind λx4=>(Cg (Bx aV x4.length) (Cg (0<=(1:Int)/\(1:Int)<=(x3.length:Int)) ((Ai (Dz aD x3) (false,(0:Int),(x4.set aV.toNat (-1:Int)))).bind (λ(b10,l11)=>(bif b10 then(some (.next (x3,l11))) else(some (.done l11)))))))))) (E5 aD)).bind (λx40=>(some x40)))
theorem PL(h:N1 v18 v1=some v2):sP 124 [(.agg (Qr v18)),(Z7 v1)] [] (RQ v2 20000) [(20000,.tok 1 3 v2.length)]:=
 sG Tryz.func124 λΓ q=>have hΓ:=q.own;gR q Yi [2] mf [] (c1 (Jg 1 Az (0:Int))) (tB h λx40 y40 h=>gS y40 (λ(s_:eR)=>match s_ with|(l1,l2)=>0) (λ(s_:eR)=>match s_ with|(l1,l2)=>(⟨[HS,(5,(RQ l1 13)),(6,(.vsl 21 l2.length))],[(2,.row 99 (nB v18)),(13,.tok 1 3 l1.length),(Z4 21 l2)],[]⟩:St)) (λr_=>aR (RU Γ v18 v1 r_)) (λy h=>tB h λx3 y3 h=>tT q Zy [2,13] [⟨[],[(20000,13)],(RQ x3 20000),[(20000,.tok 1 3 x3.length)],[],[]⟩] (c1 (Te y3)) (Ao q [1,2,5,16] [2,13] (gC h (λh=>gR q [4] [] mf [] (c1 (Jg 1 Az (0:Int))) (Ul (⟨mf,[],[]⟩:St) (tS h (jB (Sh (Ks [(6004,20000)] (show Le Γ _ nt from Le.trans (Dv (st':=⟨mf,[],[]⟩) [4] [] q) (Le.trans (cz (t:=4) (nm:=6004) (sz':=1) (λi=>Az (([]:A4).getD i 0)) 3 rfl rfl (.inl ⟨rfl,rfl⟩) (λh_=>absurd h_ (by decide))) (Dv (st':=nt) [4] [6004] q))))))))) λh=>tB h λx4 y4 h=>gR q [1,2,5,6] Kv [(17,(AV.list 1 Az 0 ([(-2:Int)]:A4) .exact))] [⟨[],[(20000,21)],(.vsl 20000 x4.length),[(Z4 20000 x4)],[],[]⟩] (c2 (Cn 1 Az (0:Int) ([(-2:Int)]:A4)) (Pt y4)) (tC h λc5_ h=>tU q V1 Kv (c2 c5_ (Eq.refl x4.length)) (J3 (Le.trans (Ly 21 (show ∀ k_,k_<x4.length->AVleL ((λi_=>AV.eraseAll ku ((I8 (λi=>Az (x4.getD i 0)) v1.toNat 0 [(.int .i64 (-1:Int))]) i_)) k_) ((λi=>Az ((x4.set v1.toNat (-1:Int)).getD i 0)) k_) from(Cl (Ib ..).symm (λk_ hk_=>(B8 (AV.eraseAll ku) ((Ml (λ_ _=>rfl) (Oz c5_) rfl) k_ hk_)).trans rfl)))) (S6 (λ(k_:Nat) u=>(Fn u [(6,(.vsl 21 k_))] [(21,.arr 1 3 k_ (λi=>Az ((x4.set v1.toNat (-1:Int)).getD i 0)))])) (show x4.length=(x4.set v1.toNat (-1:Int)).length from(Ib ..).symm))) (Ao q KE Kv (tC h λc6_ h=>gR q Vy Kv [(26,(AV.list 1 Az 0 (x3.drop (1:Int).toNat) .none))] [] (c2 c6_ (show(AVle (.slice 1 (x3.length-(1:Int).toNat) (λi=>Az (x3.getD ((1:Int).toNat+i) 0)) .none) (AV.list 1 Az 0 (x3.drop (1:Int).toNat) .none)) from KW)) (tL q h Vy Kv (λu (b7,i8,l9)=>(Fn u [(6,(.vsl 21 l9.length)),(7,(.bool b7)),(28,(Z7 i8))] [(Z4 21 l9)])) (λu (b10,l11)=>aG Γ (.exit 0) (Wj KE Kv u [(6,(.vsl 21 l11.length)),(7,(.bool b10))] [(Z4 21 l11)])) (λ⟨b7,i8,l9⟩ y h=>Ao q jZ Kv (gC h (λh=>tB h λx19 y19 h=>gJ y19 (λ(b12,l13)=>aG Γ .normal (⟨[HS,(5,(RQ x3 13)),(6,(.vsl 21 l13.length)),(7,(.bool b12)),(26,(AV.list 1 Az 0 (x3.drop (1:Int).toNat) .none)),(27,(.int .i64 ((x3.drop (1:Int).toNat).length:Int))),(28,(Z7 i8))],[(2,.row 99 (nB v18)),(13,.tok 1 3 x3.length),(Z4 21 l13)],[]⟩:St)) (λy h=>tV q eU Kv h λh=>tC h λc15_ h=>tB h λx16 y16 h=>tT q jX Kv [⟨[],[],(Z7 x16),[],[21],[]⟩] (c4 c15_ (Td y16) (show(DT []) from trivial) (Eq.refl l9.length)) (tC h λc17_ h=>tU q jW Kv (c2 c17_ (Eq.refl l9.length)) (gC h (λh=>tC h λc18_ h=>tU q Vy Kv (c2 c18_ (Eq.refl l9.length)) (tS h (gK (D7 (Le.trans (Le.trans (Ly 21 (show ∀ k_,k_<l9.length->AVleL ((λi_=>AV.eraseAll ku ((I8 (λi=>Az (l9.getD i 0)) (me x3 i8).toNat 0 [(Z7 x16)]) i_)) k_) ((λi=>Az ((l9.set (me x3 i8).toNat x16).getD i 0)) k_) from(Cl (Ib ..).symm (λk_ hk_=>(B8 (AV.eraseAll ku) ((Ml (λ_ _=>rfl) (Oz c18_) rfl) k_ hk_)).trans rfl)))) (S6 (λ(k_:Nat) u=>(Fn u [(6,(.vsl 21 k_))] [(21,.arr 1 3 k_ (λi=>Az ((l9.set (me x3 i8).toNat x16).getD i 0)))])) (show l9.length=(l9.set (me x3 i8).toNat x16).length from(Ib ..).symm))) M7))))) λh=>tS h (gK (D7 (Dv Vy Kv q)))))) (match x19,h with|⟨b12,l13⟩,h=>gA (Ao q Vy Kv (tN h)))) λh=>tS h (gO (D7 (Dv KE Kv q))))) λx21 h=>(match x21,h with|⟨b10,l11⟩,h=>gA (Ao q [2,5,6,50] Kv (gC h (λh=>tS h (gD (Dv V1 Kv q))) λh=>Ao q [4] [21] (Ul (⟨[(4,(.vsl 21 l11.length))],[(Z4 21 l11)],[]⟩:St) (tS h (jB (Sh (Ks [(21,20000)] (Le.trans (Lz (nm:=21) (sz:=1) (n:=l11.length) (e:=3) (f:=(λi=>Az (l11.getD i 0))) (g:=(λi=>Az (l11.getD i 0))) rfl ⟨rfl,trivial⟩ (λ_ _=>rfl) (by rw[hΓ];rfl)) (Nz (st':=⟨[(4,(RQ l11 21))],[(21,.tok 1 3 l11.length)],[]⟩) (by kernel_rfl))))))))))))))))))) (λ⟨l1,l2⟩ y h=>Ao q KE Kv (tC h λc23_ h=>gR q Vy Kv [(26,(AV.list 1 Az 0 (l1.drop (1:Int).toNat) .none))] [] (c2 c23_ (show(AVle (.slice 1 (l1.length-(1:Int).toNat) (λi=>Az (l1.getD ((1:Int).toNat+i) 0)) .none) (AV.list 1 Az 0 (l1.drop (1:Int).toNat) .none)) from KW)) (tL q h Vy Kv (λu (b24,i25,l26)=>(Fn u [(6,(.vsl 21 l26.length)),(7,(.bool b24)),(28,(Z7 i25))] [(Z4 21 l26)])) (λu (b27,l28)=>aG Γ (.exit 0) (Wj KE Kv u [(6,(.vsl 21 l28.length)),(7,(.bool b27))] [(Z4 21 l28)])) (λ⟨b24,i25,l26⟩ y h=>Ao q jZ Kv (gC h (λh=>tB h λx36 y36 h=>gJ y36 (λ(b29,l30)=>aG Γ .normal (⟨[HS,(5,(RQ l1 13)),(6,(.vsl 21 l30.length)),(7,(.bool b29)),(26,(AV.list 1 Az 0 (l1.drop (1:Int).toNat) .none)),(27,(.int .i64 ((l1.drop (1:Int).toNat).length:Int))),(28,(Z7 i25))],[(2,.row 99 (nB v18)),(13,.tok 1 3 l1.length),(Z4 21 l30)],[]⟩:St)) (λy h=>tV q eU Kv h λh=>tC h λc32_ h=>tB h λx33 y33 h=>tT q jX Kv [⟨[],[],(Z7 x33),[],[21],[]⟩] (c4 c32_ (Td y33) (show(DT []) from trivial) (Eq.refl l26.length)) (tC h λc34_ h=>tU q jW Kv (c2 c34_ (Eq.refl l26.length)) (gC h (λh=>tC h λc35_ h=>tU q Vy Kv (c2 c35_ (Eq.refl l26.length)) (tS h (gK (D7 (Le.trans (Le.trans (Ly 21 (show ∀ k_,k_<l26.length->AVleL ((λi_=>AV.eraseAll ku ((I8 (λi=>Az (l26.getD i 0)) (md l1 i25).toNat 0 [(Z7 x33)]) i_)) k_) ((λi=>Az ((l26.set (md l1 i25).toNat x33).getD i 0)) k_) from(Cl (Ib ..).symm (λk_ hk_=>(B8 (AV.eraseAll ku) ((Ml (λ_ _=>rfl) (Oz c35_) rfl) k_ hk_)).trans rfl)))) (S6 (λ(k_:Nat) u=>(Fn u [(6,(.vsl 21 k_))] [(21,.arr 1 3 k_ (λi=>Az ((l26.set (md l1 i25).toNat x33).getD i 0)))])) (show l26.length=(l26.set (md l1 i25).toNat x33).length from(Ib ..).symm))) M7))))) λh=>tS h (gK (D7 (Dv Vy Kv q)))))) (match x36,h with|⟨b29,l30⟩,h=>gA (Ao q Vy Kv (tN h)))) λh=>tS h (gO (D7 (Dv KE Kv q))))) λx38 h=>(match x38,h with|⟨b27,l28⟩,h=>gA (Ao q [2,5,6,50] Kv (gC h (λh=>tS h (gD (Dv V1 Kv q))) λh=>Ao q [4] [21] (Ul (⟨[(4,(.vsl 21 l28.length))],[(Z4 21 l28)],[]⟩:St) (tS h (jB (Sh (Ks [(21,20000)] (Le.trans (Lz (nm:=21) (sz:=1) (n:=l28.length) (e:=3) (f:=(λi=>Az (l28.getD i 0))) (g:=(λi=>Az (l28.getD i 0))) rfl ⟨rfl,trivial⟩ (λ_ _=>rfl) (by rw[hΓ];rfl)) (Nz (st':=⟨[(4,(RQ l28 21))],[(21,.tok 1 3 l28.length)],[]⟩) (by kernel_rfl)))))))))))))) (Wa (λst' hk=>tS h (gK hk))))
def H0(aa5:List Hs)(aa6:A4):Int->Option (LR Int (Unit ⊕ Bool)):=
 λ(i1:Int)=>(bif (decide (i1<(aa5.length:Int))) then(Cg (Bx i1 aa5.length) ((Ei ((aa5.getD i1.toNat default).From) aa6).bind λx3=>(bif (bif (!x3) then true else((((aa5.getD i1.toNat default).Args).length:Int)!=(aa6.length:Int))) then(some (.done (.inr false))) else(some (.next (Bh (i1+1))))))) else(some (.done (.inl ()))))
def BN(Γ:G5)(aa5:List Hs)(aa6:A4)(r:Bool):Exit->St->Prop:=fK Tryz.prog Γ Tryz.f125.results.toList [] (.bool r) []
def J7(aa5:List Hs)(aa6:A4):Option Bool:=
 ((Ai (H0 aa5 aa6) (0:Int)).bind (λx4=>(match x4 with|(.inl _)=>(some true)|(.inr r6)=>(some r6))))
theorem Y9(h:J7 v5 v2=some v3):sP 125 [(AV.list 4 DP default v5 .none),(Qj v2)] [] (.bool v3) []:=
 sG Tryz.func125 λΓ q=>tW q Hr [] Io [] (tL q h Io [] (λu i1=>(Fn u [(9,(Z7 i1))] [])) (λu x_=>match x_ with|(.inl _)=>aG Γ (.exit 0) (⟨[],[],[]⟩:St)|(.inr r_)=>aR (BN Γ v5 v2 r_)) (λi1 y h=>Ao q BJ [] (gC h (λh=>tV q BK [6] h λh=>tB h λx3 y3 h=>tT q [1,7,8,9,25] [] [(Z2 x3)] (ci (Km y3) (lk ((!x3)==false) (c1 (U4 (!x3))))) (gC h (λh=>Ao q [4] [] (tS h (gO (Sh (Ks [] (Le.refl _ _)))))) λh=>Ao q Io [] (tN h))) λh=>tS h (gO (D7 (Dv [] [] q))))) λx4 h=>(match x4,h with | .inl _,h=>gA (Ao q [4] [] (tS h (C1 []))) | .inr r6,h=>Wa (λst' hk=>tS h (gK hk))))
def nu(aH:Ju):=(bif (aH.Kind==0) then true else(aH.Kind==2))
def H5(aH:Ju):Option Bool:=
 (some (bif (bif (aH.Kind==0) then true else(aH.Kind==2)) then true else(aH.Arg==0)))
theorem Y8(h:H5 v8=some v3):sP 126 [(.agg (cR v8))] [] (.bool v3) []:=
 sG Tryz.func126 λΓ q=>Ao q [1] [1] (tU q [2] [] (Pz ((v8.Kind==0)==false) (ci (U4 (v8.Kind==0)) (Pz ((nu v8)==false) (c1 (U4 (nu v8)))))) (tS h (C1 [])))
def Cm(a0:Ab)(a5:Int)(a6:List A6)(x1:mY)(x3:A4):Int->Option (LR Int (Unit ⊕ (Int×Ab×Int×A4×List A6))):=
 λ(i4:Int)=>(bif (decide (i4<(a0.Blocks.length:Int))) then(Cg (Bx i4 a0.Blocks.length) (Cg (Bx i4 x1.1.Pred.length) ((J7 ((a0.Blocks.getD i4.toNat default).Phis) (x1.1.Pred.getD i4.toNat [])).bind λx7=>((bif ((!x7)==false) then H5 (⟨(a0.Blocks.getD i4.toNat default).End.Kind,(a0.Blocks.getD i4.toNat default).End.Arg,(a0.Blocks.getD i4.toNat default).End.To⟩:Ju) else some false).bind λx8=>(bif (bif (!x7) then true else(!x8)) then(some (.done (.inr ((5:Int),a0,a5,x3,a6)))) else(some (.next (Bh (i4+1))))))))) else(some (.done (.inl ()))))
def Qk(Γ:G5)(a0:Ab)(a5:Int)(a9:A4)(a6:List A6)(r:ao):Exit->St->Prop:=fK Tryz.prog Γ Tryz.f92.results.toList (Z3 a0.Params a0.Ret a0.Blocks a5 a9 a6 a6.length) (Z7 r.1) (Z3 r.2.1.Params r.2.1.Ret r.2.1.Blocks r.2.2.1 r.2.2.2.1 r.2.2.2.2 r.2.2.2.2.length)
def nC(x1:mY):=((x1.2 !=0)==false)
def nv(x3:A4)(a0:Ab)(a5:Int)(a6:List A6):List UO:=[(31,.tok 1 3 x3.length),(30000,.row 110 [(Qj a0.Params),(Z7 a0.Ret),(ay a0.Blocks),(Z7 a5),(Qj x3),.nilm,(AV.list 5 Jq default a6 (.own 37006))]),(Z8 a6.length)]
def mg(x3:A4)(a0:Ab)(a5:Int)(a6:List A6):List UO:=[(31,.tok 1 3 x3.length),(30000,.row 110 [(Qj a0.Params),(Z7 a0.Ret),(ay a0.Blocks),(Z7 a5),(RQ x3 31),.nilm,(AV.list 5 Jq default a6 (.own 37006))]),(Z8 a6.length)]
def Fv(a0:Ab)(a5:Int)(a9:A4)(a6:List A6):Option ao:=
 ((Rf a0).bind λx1=>((bif ((x1.2 !=0)==false) then G8 x1.1 (0:Int) else some []).bind λx2=>(bif (bif (x1.2 !=0) then true else(decide ((x2.length:Int)<(a0.Blocks.length:Int)))) then(some ((5:Int),a0,a5,a9,a6)) else((N1 x1.1 (0:Int)).bind λx3=>((Ai (Cm a0 a5 a6 x1 x3) (0:Int)).bind (λx9=>(match x9 with|(.inl _)=>(some ((0:Int),a0,a5,x3,a6))|(.inr r11)=>(some r11))))))))
theorem P4(h:Fv v0 v1 v2 v12=some v13):sP 92 [Yj] (Z3 v0.Params v0.Ret v0.Blocks v1 v2 v12 v12.length) (Z7 v13.1) (Z3 v13.2.1.Params v13.2.1.Ret v13.2.1.Blocks v13.2.2.1 v13.2.2.2.1 v13.2.2.2.2 v13.2.2.2.2.length):=
 sG Tryz.func92 λΓ q=>Ao q [0] Fq (tB h λx1 y1 h=>tT q [0,3,4] RE [⟨[],[],(.tuple [(.agg (Qr x1.1)),(Z7 x1.2)]),[],[],[]⟩] (c1 (PM y1)) (tB h λx2 y2 h=>tT q [0,3,28] RE [⟨[],[],(Qj x2),[],[],[]⟩] (YP (gI (nC x1)) (show((nC x1)=true->(sP 123 [(.agg (Qr x1.1)),Ot] [] (Qj x2) [])) from(λhg=>(Spec.drop (Te (Bk hg y2))))) (oS (nC x1) (c1 (U4 (x1.2 !=0))))) (gC h (λh=>Ao q [2] Fq (tS h (C1 BX))) λh=>tB h λx3 y3 h=>tT q V3 JY [⟨[],[(20000,31)],(RQ x3 20000),[(20000,.tok 1 3 x3.length)],[],[]⟩] (c1 (PL y3)) (Ao q VC JY (tL q h VC JY (λu i4=>(Fn u [(40,(Z7 i4))] [])) (λu x_=>match x_ with|(.inl _)=>aG Γ (.exit 0) (Wj [] JZ u [] [])|(.inr r_)=>aR (Qk Γ v0 v1 v2 v12 r_)) (λi4 y h=>Ao q [3,38,39,40,41] JY (gC h (λh=>tV q [3,5,6,38,39,40] [3,6,31,30000,37006] h λh=>tC h λc6_ h=>tB h λx7 y7 h=>tB h λx8 y8 h=>tT q [3,38,39,40,59] JY [(Z2 x7),(Z2 x8)] (YP c6_ (Y9 y7) (Pz ((!x7)==false) (c3 (λ(hg:((!x7)==false)=true)=>(Y8 (Bk hg y8))) (gI ((!x7)==false)) (U4 (!x7))))) (gC h (λh=>Ao q [2] JZ (Ul (⟨[(2,(.int .i64 (5:Int)))],(mg x3 v0 v1 v12),[]⟩:St) (tS h (gO (Sh (Ks BX (show Le Γ _ (⟨[(2,(.int .i64 (5:Int)))],(nv x3 v0 v1 v12),[]⟩:St) from Le.trans (Dv (st':=⟨[(2,(.int .i64 (5:Int)))],(mg x3 v0 v1 v12),[]⟩) [2] JZ q) (K1 (.cons (AVle.refl _) .nil) (.same (.row (.cons (AVle.refl _) (.cons (AVle.refl _) (.cons (AVle.refl _) (.cons (AVle.refl _) (.cons AVle.untag (.cons (AVle.refl _) (.cons (AVle.refl _) .nil))))))) (.same .nil))))))))))) λh=>Ao q VC JY (tN h))) λh=>tS h (gO (D7 (Dv [] JZ q))))) λx9 h=>(match x9,h with | .inl _,h=>gA (Ao q [2] JZ (Ul (⟨[(2,Ot)],(mg x3 v0 v1 v12),[]⟩:St) (tS h (gK (e:=.ret) (Ks BX (show Le Γ _ (⟨[(2,Ot)],(nv x3 v0 v1 v12),[]⟩:St) from Le.trans (Dv (st':=⟨[(2,Ot)],(mg x3 v0 v1 v12),[]⟩) [2] JZ q) (K1 (.cons (AVle.refl _) .nil) (.same (.row (.cons (AVle.refl _) (.cons (AVle.refl _) (.cons (AVle.refl _) (.cons (AVle.refl _) (.cons AVle.untag (.cons (AVle.refl _) (.cons (AVle.refl _) .nil))))))) (.same .nil)))))))))) | .inr r11,h=>Wa (λst' hk=>tS h (gK hk))))))))
def G9(aN:Int):Option Bool:=
 (Option.bind (α:=Bool) (bif (aN==1) then(some (aN==1)) else(bif (aN==8) then(some (aN==8)) else(bif (aN==16) then(some (aN==16)) else(bif (aN==32) then(some (aN==32)) else(some (aN==64)))))) (λx2=>(bif x2 then(some true) else(some false))))
theorem I7(h:G9 v1=some v3):sP 128 [(Z7 v1)] [] (.bool v3) []:=
 sG Tryz.func128 λΓ q=>tW q [0] [] [3] [] (tB h λx2 y2 h=>gJ y2 (λb1=>aG Γ .normal (⟨[(4,(.bool b1))],[],[]⟩:St)) (λy h=>Ao q [3,4] [] (gC h (λh=>tS h (gK (D7 (Dv [4] [] q)))) λh=>Ao q [3,4] [] (gC h (λh=>tS h (gK (D7 (Dv [4] [] q)))) λh=>Ao q [3,4] [] (gC h (λh=>tS h (gK (D7 (Dv [4] [] q)))) λh=>Ao q [3,4] [] (gC h (λh=>tS h (gK (D7 (Dv [4] [] q)))) λh=>Ao q [4] [] (tS h (gK (D7 M7)))))))) (gA (gC h (λh=>Ao q [2] [] (tS h (C1 []))) λh=>Ao q [2] [] (tS h (C1 [])))))
def Hz(aA:A4):Int->Option (LR Int (Unit ⊕ Bool)):=
 λ(i1:Int)=>(bif (decide (i1<(aA.length:Int))) then(Cg (Bx i1 aA.length) ((G9 (aA.getD i1.toNat 0)).bind λx3=>(bif (!x3) then(some (.done (.inr false))) else(some (.next (Bh (i1+1))))))) else(some (.done (.inl ()))))
def BM(Γ:G5)(aA:A4)(r:Bool):Exit->St->Prop:=fK Tryz.prog Γ Tryz.f127.results.toList [] (.bool r) []
def J6(aA:A4):Option Bool:=
 ((Ai (Hz aA) (0:Int)).bind (λx4=>(match x4 with|(.inl _)=>(some true)|(.inr r6)=>(some r6))))
theorem Y7(h:J6 v2=some v3):sP 127 [(Qj v2),(.clo 128 [] [])] [] (.bool v3) []:=
 sG Tryz.func127 λΓ q=>tW q Hr [] Io [] (tL q h Io [] (λu i1=>(Fn u [(9,(Z7 i1))] [])) (λu x_=>match x_ with|(.inl _)=>aG Γ (.exit 0) (⟨[],[],[]⟩:St)|(.inr r_)=>aR (BM Γ v2 r_)) (λi1 y h=>Ao q BJ [] (gC h (λh=>tV q BK [] h λh=>tB h λx3 y3 h=>tT q GJ [] [(Z2 x3)] (c1 (I7 y3)) (gC h (λh=>Ao q [4] [] (tS h (gO (Sh (Ks [] (Le.refl _ _)))))) λh=>Ao q Io [] (tN h))) λh=>tS h (gO (D7 (Dv [] [] q))))) λx4 h=>(match x4,h with | .inl _,h=>gA (Ao q [4] [] (tS h (C1 []))) | .inr r6,h=>Wa (λst' hk=>tS h (gK hk))))
def L2(aW:Hs):Option Bool:=
 ((G9 aW.Bits).bind λx1=>(some x1))
theorem Xp(h:L2 v4=some v3):sP 165 [(.agg (DP v4))] [] (.bool v3) []:=
 sG Tryz.func165 λΓ q=>Ao q [1] [1] (tB h λx1 y1 h=>tT q [2] [] [(Z2 x1)] (c1 (I7 y1)) (tS h (C1 [])))
def Fu(aA:List Hs):Int->Option (LR Int (Unit ⊕ Bool)):=
 λ(i1:Int)=>(bif (decide (i1<(aA.length:Int))) then(Cg (Bx i1 aA.length) ((L2 (aA.getD i1.toNat default)).bind λx3=>(bif (!x3) then(some (.done (.inr false))) else(some (.next (Bh (i1+1))))))) else(some (.done (.inl ()))))
def U1(Γ:G5)(aA:List Hs)(r:Bool):Exit->St->Prop:=fK Tryz.prog Γ Tryz.f164.results.toList [] (.bool r) []
def He(aA:List Hs):Option Bool:=
 ((Ai (Fu aA) (0:Int)).bind (λx4=>(match x4 with|(.inl _)=>(some true)|(.inr r6)=>(some r6))))
theorem Tb(h:He v5=some v3):sP 164 [(AV.list 4 DP default v5 .none),(.clo 165 [] [])] [] (.bool v3) []:=
 sG Tryz.func164 λΓ q=>tW q Hr [] Io [] (tL q h Io [] (λu i1=>(Fn u [(9,(Z7 i1))] [])) (λu x_=>match x_ with|(.inl _)=>aG Γ (.exit 0) (⟨[],[],[]⟩:St)|(.inr r_)=>aR (U1 Γ v5 r_)) (λi1 y h=>Ao q BJ [] (gC h (λh=>tV q BK [6] h λh=>tB h λx3 y3 h=>tT q GJ [] [(Z2 x3)] (c1 (Xp y3)) (gC h (λh=>Ao q [4] [] (tS h (gO (Sh (Ks [] (Le.refl _ _)))))) λh=>Ao q Io [] (tN h))) λh=>tS h (gO (D7 (Dv [] [] q))))) λx4 h=>(match x4,h with | .inl _,h=>gA (Ao q [4] [] (tS h (C1 []))) | .inr r6,h=>Wa (λst' hk=>tS h (gK hk))))
def Mc(aU:Int):Option Bool:=
 (some (bif (decide ((0:Int)<=aU)) then(decide (aU<=22)) else false))
theorem EV(h:Mc v1=some v3):sP 192 [(Z7 v1)] [] (.bool v3) []:=
 sG Tryz.func192 λΓ q=>Ao q [0] [] (tU q [2] [] (c2 (gI ((decide ((0:Int)<=v1))==true)) (M6 (decide ((0:Int)<=v1)))) (tS h (C1 [])))
def nw(x5:Bool)(aN:Int):=(bif x5 then(decide ((8:Int)<=aN)) else false)
def Nj(aN:Int)(aa4:Int):Option Bool:=
 (bif (aa4==1) then((G9 aN).bind λx1=>(some x1)) else(Option.bind (α:=Bool) (bif (aa4==2) then(some (aa4==2)) else(bif (aa4==4) then(some (aa4==4)) else(bif (aa4==8) then(some (aa4==8)) else(some (aa4==16))))) (λx3=>(bif x3 then((G9 aN).bind λx5=>(some (bif (bif x5 then(decide ((8:Int)<=aN)) else false) then(decide (((Bh (aN*aa4)):Int)<=128)) else false))) else(some false)))))
theorem HH(h:Nj v1 v11=some v3):sP 209 [(Z7 v1),(Z7 v11)] [] (.bool v3) []:=
 sG Tryz.func209 λΓ q=>tW q Hr [] GI [] (Ao q [0,1,5,6] [] (gC h (λh=>tB h λx1 y1 h=>tT q [4] [] [(Z2 x1)] (c1 (I7 y1)) (tS h (C1 []))) λh=>tB h λx3 y3 h=>gJ y3 (λb2=>aG Γ .normal (⟨[(0,(Z7 v1)),(1,(Z7 v11)),(10,(.bool b2))],[],[]⟩:St)) (λy h=>Ao q [0,1,5,10] [] (gC h (λh=>tS h (gK (D7 (Dv BL [] q)))) λh=>Ao q [0,1,5,10] [] (gC h (λh=>tS h (gK (D7 (Dv BL [] q)))) λh=>Ao q [0,1,5,10] [] (gC h (λh=>tS h (gK (D7 (Dv BL [] q)))) λh=>Ao q BL [] (tS h (gK (D7 M7))))))) (gA (gC h (λh=>tB h λx5 y5 h=>tT q [4] [] [(Z2 x5)] (j5 (I7 y5) (gI (x5==true)) (M6 x5) (OH ((nw x5 v1)==true) (c1 (M6 (nw x5 v1))))) (tS h (C1 []))) λh=>Ao q [4] [] (tS h (C1 []))))))
def mh(a2:D1):List UO:=[(1,.row 43 [(Z7 a2.Kind),(Z7 a2.Bits),(Z7 a2.Lanes),(Z7 a2.Dst),(Qj a2.Args),(Hc a2.Imm)])]
def Jl(a2:D1):Option Bool:=
 (Option.bind (α:=Bool) (bif (a2.Kind==16) then(some (a2.Kind==16)) else(some (a2.Kind==17))) (λx2=>(bif x2 then(some (decide ((8:Int)<=a2.Bits))) else(Option.bind (α:=Bool) (bif (a2.Kind==18) then(some (a2.Kind==18)) else(some (a2.Kind==19))) (λx5=>(bif x5 then(some (bif (decide ((8:Int)<=a2.Bits)) then(a2.Lanes==1) else false)) else(Option.bind (α:=Bool) (bif (a2.Kind==4) then(some (a2.Kind==4)) else(bif (a2.Kind==10) then(some (a2.Kind==10)) else(bif (a2.Kind==11) then(some (a2.Kind==11)) else(bif (a2.Kind==12) then(some (a2.Kind==12)) else(bif (a2.Kind==14) then(some (a2.Kind==14)) else(bif (a2.Kind==15) then(some (a2.Kind==15)) else(some (a2.Kind==20)))))))) (λx8=>(bif x8 then(some (a2.Lanes==1)) else(Option.bind (α:=Bool) (bif (a2.Kind==21) then(some (a2.Kind==21)) else(some (a2.Kind==22))) (λx11=>(bif x11 then(some (decide ((1:Int)<a2.Lanes))) else(some true)))))))))))))
theorem Xs(h:Jl v6=some v3):sP 210 [(Ws v6)] [] (.bool v3) []:=
 sG Tryz.func210 λΓ q=>tW q [1] [1] [1,4] [1] (tB h λx2 y2 h=>gJ y2 (λb1=>aG Γ .normal (⟨[(1,(.ptr 1 0)),(4,(Z7 v6.Kind)),(5,(.bool b1))],(mh v6),[]⟩:St)) (λy h=>Ao q [1,4,5] [1] (gC h (λh=>tS h (gK (D7 M7))) λh=>Ao q [1,4,5] [1] (tS h (gK (D7 M7))))) (gA (gC h (λh=>Ao q [2] [] (tS h (C1 []))) λh=>tB h λx5 y5 h=>gJ y5 (λb4=>aG Γ .normal (⟨[(1,(.ptr 1 0)),(4,(Z7 v6.Kind)),(11,(.bool b4))],(mh v6),[]⟩:St)) (λy h=>Ao q [1,4,11] [1] (gC h (λh=>tS h (gK (D7 M7))) λh=>Ao q [1,4,11] [1] (tS h (gK (D7 M7))))) (gA (gC h (λh=>tU q [2] [] (Pz ((decide ((8:Int)<=v6.Bits))==true) (c1 (M6 (decide ((8:Int)<=v6.Bits))))) (tS h (C1 []))) λh=>tB h λx8 y8 h=>gJ y8 (λb7=>aG Γ .normal (⟨[(1,(.ptr 1 0)),(4,(Z7 v6.Kind)),(22,(.bool b7))],(mh v6),[]⟩:St)) (λy h=>Ao q GL [1] (gC h (λh=>tS h (gK (D7 M7))) λh=>Ao q GL [1] (gC h (λh=>tS h (gK (D7 M7))) λh=>Ao q GL [1] (gC h (λh=>tS h (gK (D7 M7))) λh=>Ao q GL [1] (gC h (λh=>tS h (gK (D7 M7))) λh=>Ao q GL [1] (gC h (λh=>tS h (gK (D7 M7))) λh=>Ao q GL [1] (gC h (λh=>tS h (gK (D7 M7))) λh=>Ao q GL [1] (tS h (gK (D7 M7)))))))))) (gA (gC h (λh=>Ao q [2] [] (tS h (C1 []))) λh=>tB h λx11 y11 h=>gJ y11 (λb10=>aG Γ .normal (⟨[(1,(.ptr 1 0)),(33,(.bool b10))],(mh v6),[]⟩:St)) (λy h=>Ao q [1,4,33] [1] (gC h (λh=>tS h (gK (D7 (Dv [1,33] [1] q)))) λh=>Ao q [1,33] [1] (tS h (gK (D7 M7))))) (gA (gC h (λh=>Ao q [2] [] (tS h (C1 []))) λh=>Ao q [2] [] (tS h (C1 [])))))))))))
def Rg(a8:Int)(aN:Int):Option Int:=
 ((G9 aN).bind λx1=>(bif (!x1) then(some (0:Int)) else(Cg (0<=(Bh ((64:Int)-aN))) (Cg (0<=(Bh ((64:Int)-aN))) (some (X3 .u64 (UD .u64 a8 (Bh ((64:Int)-aN))) (Bh ((64:Int)-aN))))))))
theorem PO(h:Rg v1 v11=some v20):sP 225 [(Hc v1),(Z7 v11)] [] (.int .u64 v20) []:=
 sG Tryz.func225 λΓ q=>Ao q Hr [] (tB h λx1 y1 h=>tT q [0,1,7] [] [(Z2 x1)] (c1 (I7 y1)) (gC h (λh=>Ao q [4] [] (tS h (C1 []))) λh=>tC h λc2_ h=>tC h λc3_ h=>tU q [4] [] (c2 c2_ c3_) (tS h (C1 []))))
def Iz(aa7:Int):Option Bool:=
 ((bif ((decide (aa7<=64))==true) then G9 (Bh aa7) else some false).bind λx1=>(some (bif (decide (aa7<=64)) then x1 else false)))
theorem R9(h:Iz v1=some v3):sP 226 [(Hc v1)] [] (.bool v3) []:=
 sG Tryz.func226 λΓ q=>Ao q [0] [] (tB h λx1 y1 h=>tT q [2] [] [(Z2 x1)] (Pz ((decide (v1<=64))==true) (c2 (λ(hg:((decide (v1<=64))==true)=true)=>(I7 (Bk hg y1))) (M6 (decide (v1<=64))))) (tS h (C1 [])))
def Lb(a2:D1):Option Bool:=
 (bif (a2.Kind==0) then((Rg a2.Imm a2.Bits).bind λx1=>(some (x1==a2.Imm))) else(bif (a2.Kind==14) then((Iz a2.Imm).bind λx2=>(some (bif x2 then(decide (a2.Imm<(Cf a2.Bits))) else false))) else(bif (a2.Kind==15) then((Iz a2.Imm).bind λx3=>(some (bif x3 then(decide (((Cf a2.Bits):Int)<a2.Imm)) else false))) else(bif (a2.Kind==22) then(some (decide (a2.Imm<(Cf a2.Lanes)))) else(some (a2.Imm==0))))))
theorem BV(h:Lb v6=some v3):sP 211 [(Ws v6)] [] (.bool v3) []:=
 sG Tryz.func211 λΓ q=>tW q [1] [1] [1,4] [1] (Ao q [1,4,5] [1] (gC h (λh=>tB h λx1 y1 h=>tT q [2] [] [⟨[],[],(Hc x1),[],[],[]⟩] (c1 (PO y1)) (tS h (C1 []))) λh=>Ao q [1,4,15] [1] (gC h (λh=>tB h λx2 y2 h=>tT q [2] [] [(Z2 x2)] (ci (R9 y2) (lk (x2==true) (c1 (M6 x2)))) (tS h (C1 []))) λh=>Ao q [1,4,28] [1] (gC h (λh=>tB h λx3 y3 h=>tT q [2] [] [(Z2 x3)] (ci (R9 y3) (lk (x3==true) (c1 (M6 x3)))) (tS h (C1 []))) λh=>Ao q [1,41] [1] (gC h (λh=>Ao q [2] [] (tS h (C1 []))) λh=>Ao q [2] [] (tS h (C1 [])))))))
abbrev QW:=((Int×Int))
abbrev iW:=(List (Int×Int))
def Fj(aaC:List QW):Option iW:=
 (some aaC)
variable{v21:List QW}{v22:List QW}
theorem F1(h:Fj v21=some v22):sP 214 [(Z6 v21)] [] (Z6 v22) []:=
 sG Tryz.func214 λΓ q=>gR q [0] [] [(2,mo)] [] (c1 (Jg 2 Bs ((0:Int),(0:Int)))) (Ao q [2] [] (tS h (C1 [])))
abbrev kZ:=(Int×List (Int×Int))
def Cc :kZ->Option (LR (Int×List (Int×Int)) (List (Int×Int))):=
 λ((i7,l8):kZ)=>(bif (decide (i7<(l8.length:Int))) then(Cg (0<=i7/\0+i7.toNat<=l8.length) (Cg (0<=i7/\0+i7.toNat<=l8.length) (some (.next ((Bh (i7+((Nat.min ((0+i7.toNat)-0) (l8.length-(0+i7.toNat))):Int))),(SS l8 (0+i7.toNat) (Nat.min ((0+i7.toNat)-0) (l8.length-(0+i7.toNat))) (λi=>l8.getD (0+i) ((0:Int),(0:Int))))))))) else(some (.done l8)))
def bS(x3:G2):=(List.replicate (Bh x3.2).toNat ((0:Int),(0:Int)))
def nE(x3:G2)(a1:List QW):=(SS (bS x3) 0 (Nat.min a1.length ((bS x3).length-0)) (λi=>a1.getD i ((0:Int),(0:Int))))
def nD(l8:List QW)(i7:Int):=(SS l8 (0+i7.toNat) (Nat.min ((0+i7.toNat)-0) (l8.length-(0+i7.toNat))) (λi=>l8.getD (0+i) ((0:Int),(0:Int))))
def Bp(a1:List QW)(aa1:Int):Option iW:=
 (Option.bind (α:=Unit) (bif (decide (aa1<0)) then none else(some ())) (λx1=>(match x1 with|_=>((L1 (Cf (a1.length:Int)) (Cf aa1)).bind λx3=>(Option.bind (α:=Unit) (bif (bif (decide ((0:Int)<x3.1)) then true else(decide ((9223372036854775807:Int)<x3.2))) then none else(some ())) (λx4=>(match x4 with|_=>(Cg (0<=(Bh x3.2)/\(Bh x3.2)<=(Bh x3.2)/\(Bh x3.2)<=(room:Int)) ((Ai (S:=kZ) (X:=List G2) Cc (((Nat.min a1.length ((List.replicate (Bh x3.2).toNat ((0:Int),(0:Int))).length-0)):Int),(SS (List.replicate (Bh x3.2).toNat ((0:Int),(0:Int))) 0 (Nat.min a1.length ((List.replicate (Bh x3.2).toNat ((0:Int),(0:Int))).length-0)) (λi=>a1.getD i ((0:Int),(0:Int)))))).bind (λx12=>(some x12)))))))))))
theorem Mz(h:Bp v21 v1=some v22):sP 215 [(Z6 v21),(Z7 v1)] [] (AV.list 2 Bs ((0:Int),(0:Int)) v22 (.own 20000)) [(20000,.tok 2 73 v22.length)]:=
 sG Tryz.func215 λΓ q=>have hΓ:=q.own;gR q Hr [] [(4,mo)] [] (c1 (Jg 2 Bs ((0:Int),(0:Int)))) (tB h λx1 y1 h=>gJ y1 (λ_=>aG Γ .normal (⟨[(0,(Z6 v21)),(1,(Z7 v1))],[],[]⟩:St)) (λy h=>Ao q BL [] (gC h (λh=>nomatch h) λh=>tS h (gK (D7 (Dv Hr [] q))))) (gA (tB h λx3 y3 h=>tT q [0,5,6] [] [⟨[],[],(.tuple [(Hc x3.1),(Hc x3.2)]),[],[],[]⟩] (c1 (AQ y3)) (tB h λx4 y4 h=>gJ y4 (λ_=>aG Γ .normal (⟨[(0,(Z6 v21)),(6,(Hc x3.2))],[],[]⟩:St)) (λy h=>tU q [0,6,26] [] (c2 (gI ((decide ((0:Int)<x3.1))==false)) (U4 (decide ((0:Int)<x3.1)))) (gC h (λh=>nomatch h) λh=>tS h (gK (D7 (Dv [0,6] [] q))))) (gA (tV q [0,7] [30] h λh=>by exact J3 (Le.trans (Ly 30 (show ∀ k_,k_<((Bh x3.2).toNat)->AVleL ((λi_=>AV.eraseAll (λn_=>Bl n_ [30]) ((λ_=>[Ot,Ot]) i_)) k_) ((λi=>Bs ((bS x3).getD i ((0:Int),(0:Int)))) k_) from(λk hk=>Xg (e:=Bs) (d:=((0:Int),(0:Int))) (.cons (AVle.refl _) (.cons (AVle.refl _) .nil)) _ k (Xz hk)))) (S6 (λ(k_:Nat) u=>(Fn u [(7,(.vsl 30 k_))] [(30,.arr 2 73 k_ (λi=>Bs ((bS x3).getD i ((0:Int),(0:Int)))))])) (show(Bh x3.2).toNat=(bS x3).length from(X7 ..).symm))) (tU q Mt [30] (c1 (Eq.refl ((bS x3).length))) (J3 (Le.trans (Ly 30 (show ∀ k_,k_<((bS x3).length)->AVleL ((λi_=>AV.eraseAll (λn_=>Bl n_ [30]) ((NX (λi=>Bs ((bS x3).getD i ((0:Int),(0:Int)))) 0 (Nat.min v21.length ((bS x3).length-0)) (λi=>Bs (v21.getD i ((0:Int),(0:Int))))) i_)) k_) ((λi=>Bs ((nE x3 v21).getD i ((0:Int),(0:Int)))) k_) from(Cl (F6 ..) (λk_ hk_=>(B8 (AV.eraseAll (λn_=>Bl n_ [30])) ((CF (e:=Bs) (d:=((0:Int),(0:Int))) (l:=(bS x3)) (s:=(λi=>v21.getD i ((0:Int),(0:Int)))) (λ_ _=>rfl) (λ_ _=>rfl)) k_ hk_)).trans rfl)))) (S6 (λ(k_:Nat) u=>(Fn u [(7,(.vsl 30 k_))] [(30,.arr 2 73 k_ (λi=>Bs ((nE x3 v21).getD i ((0:Int),(0:Int)))))])) (show(bS x3).length=(nE x3 v21).length from(F6 ..)))) (tL q h Mt [30] (λu (i7,l8)=>(Fn u [(7,(.vsl 30 l8.length)),(8,(Z7 i7))] (nS l8))) (λu l9=>aG Γ (.exit 0) (⟨[(7,(.vsl 30 l9.length))],(nS l9),[]⟩:St)) (λ⟨i7,l8⟩ y h=>Ao q [7,8,37] [30] (gC h (λh=>tC h λc10_ h=>tC h λc11_ h=>tU q Mt [30] (c4 c10_ c11_ (Eq.refl l8.length) (Eq.refl l8.length)) (tS h (gN (Le.trans (Le.trans (Ly 30 (show ∀ k_,k_<l8.length->AVleL ((λi_=>AV.eraseAll (λn_=>Bl n_ [30]) ((NX (λi=>Bs (l8.getD i ((0:Int),(0:Int)))) (0+i7.toNat) (Nat.min ((0+i7.toNat)-0) (l8.length-(0+i7.toNat))) (λi=>(λi=>Bs (l8.getD i ((0:Int),(0:Int)))) (0+i))) i_)) k_) ((λi=>Bs ((nD l8 i7).getD i ((0:Int),(0:Int)))) k_) from(Cl (F6 ..) (λk_ hk_=>(B8 (AV.eraseAll (λn_=>Bl n_ [30])) ((CF (e:=Bs) (d:=((0:Int),(0:Int))) (l:=l8) (s:=(λi=>l8.getD (0+i) ((0:Int),(0:Int)))) (λ_ _=>rfl) (λ_ _=>rfl)) k_ hk_)).trans rfl)))) (S6 (λ(k_:Nat) u=>(Fn u [(7,(.vsl 30 k_))] [(30,.arr 2 73 k_ (λi=>Bs ((nD l8 i7).getD i ((0:Int),(0:Int)))))])) (show l8.length=(nD l8 i7).length from(F6 ..)))) M7)))) λh=>tS h (gO (D7 (Dv [7] [30] q))))) λx12 h=>gA (Ao q [4] [30] (Ul (⟨[(4,(.vsl 30 x12.length))],(nS x12),[]⟩:St) (tS h (gK (e:=.ret) (Ks [(30,20000)] (Le.trans (Lz (nm:=30) (sz:=2) (n:=x12.length) (e:=73) (f:=(λi=>Bs (x12.getD i ((0:Int),(0:Int))))) (g:=(λi=>Bs (x12.getD i ((0:Int),(0:Int))))) rfl ⟨rfl,trivial⟩ (λ_ _=>rfl) (by rw[hΓ];rfl)) (Nz (st':=⟨[(4,(AV.list 2 Bs ((0:Int),(0:Int)) x12 (.own 30)))],[(30,.tok 2 73 x12.length)],[]⟩) (by kernel_rfl)))))))))))))))))
def ny(a2:D1):List UO:=[(1,.row 43 [(Z7 a2.Kind),(Z7 a2.Bits),(Z7 a2.Lanes),(Z7 a2.Dst),(Qj a2.Args),(Hc a2.Imm)]),(3,.row 73 [(.int .i64 (1:Int)),(.int .i64 (1:Int))]),(4,.row 73 [(SA 64),(.int .i64 (1:Int))]),(5,.row 73 [(Z7 a2.Bits),(Z7 a2.Lanes)]),(6,.row 73 [(Z7 a2.Bits),(.int .i64 (1:Int))])]
def Lc(a2:D1):Option iW:=
 (bif (a2.Kind==0) then((Fj ([]:List G2)).bind λx1=>(some x1)) else(bif (a2.Kind==13) then((Fj ([((1:Int),(1:Int)),(a2.Bits,a2.Lanes),(a2.Bits,a2.Lanes)]:List G2)).bind λx2=>(some x2)) else(Option.bind (α:=Bool) (bif (a2.Kind==14) then(some (a2.Kind==14)) else(some (a2.Kind==15))) (λx4=>(bif x4 then((Fj ([((Bh a2.Imm),(1:Int))]:List G2)).bind λx6=>(some x6)) else(bif (a2.Kind==16) then((Fj ([((64:Int),(1:Int))]:List G2)).bind λx7=>(some x7)) else(bif (a2.Kind==17) then((Fj ([((64:Int),(1:Int)),(a2.Bits,a2.Lanes)]:List G2)).bind λx8=>(some x8)) else(Option.bind (α:=Bool) (bif (a2.Kind==18) then(some (a2.Kind==18)) else(some (a2.Kind==19))) (λx10=>(bif x10 then((Fj ([((1:Int),(1:Int)),((64:Int),(1:Int)),(a2.Bits,(1:Int))]:List G2)).bind λx12=>(some x12)) else(bif (a2.Kind==20) then((Fj ([((1:Int),(1:Int)),(a2.Bits,(1:Int)),(a2.Bits,(1:Int)),(a2.Bits,(1:Int))]:List G2)).bind λx13=>(some x13)) else(bif (a2.Kind==21) then((Bp ([(a2.Bits,(1:Int))]:List G2) a2.Lanes).bind λx14=>((Fj x14).bind λx15=>(some x15))) else(bif (a2.Kind==22) then((Fj ([(a2.Bits,a2.Lanes)]:List G2)).bind λx16=>(some x16)) else((Fj ([(a2.Bits,a2.Lanes),(a2.Bits,a2.Lanes)]:List G2)).bind λx17=>(some x17)))))))))))))))
theorem Vl(h:Lc v6=some v21):sP 190 [(Ws v6)] [] (Z6 v21) []:=
 sG Tryz.func190 λΓ q=>gR q [1] [1] [(2,mo)] [] (c1 (Jg 2 Bs ((0:Int),(0:Int)))) (tW q Zz Zz Uc Uc (tW q [1,3,4,5,6,18] Uc [1,3,4,5,6,18,19] Uc (gC h (λh=>tB h λx1 y1 h=>tT q [2] [] [(XX x1)] (c1 (show(sP 214 [XY] [] (Z6 x1) []) from(Spec.args (.cons fg .nil) (F1 y1)))) (tS h (C1 []))) λh=>Ao q [1,3,4,5,6,18,22] Uc (gC h (λh=>tB h λx2 y2 h=>gR q [2] [] [(27,(AV.list 2 Bs ((0:Int),(0:Int)) ([((1:Int),(1:Int)),(v6.Bits,v6.Lanes),(v6.Bits,v6.Lanes)]:List G2) .exact))] [(XX x2)] (c2 (Cn 2 Bs ((0:Int),(0:Int)) ([((1:Int),(1:Int)),(v6.Bits,v6.Lanes),(v6.Bits,v6.Lanes)]:List G2)) (F1 y2)) (tS h (C1 []))) λh=>tB h λx4 y4 h=>gJ y4 (λb3=>aG Γ .normal (⟨[(1,(.ptr 1 0)),(3,(.ptr 3 0)),YA,(5,(.ptr 5 0)),RR,(18,(Z7 v6.Kind)),(29,(.bool b3))],(ny v6),[]⟩:St)) (λy h=>Ao q [1,3,4,5,6,18,29] Uc (gC h (λh=>tS h (gK (D7 M7))) λh=>Ao q [1,3,4,5,6,18,29] Uc (tS h (gK (D7 M7))))) (gA (gC h (λh=>tB h λx6 y6 h=>gR q [2] [] [(36,(AV.list 2 Bs ((0:Int),(0:Int)) ([((Bh v6.Imm),(1:Int))]:List G2) .exact))] [(XX x6)] (c2 (Cn 2 Bs ((0:Int),(0:Int)) ([((Bh v6.Imm),(1:Int))]:List G2)) (F1 y6)) (tS h (C1 []))) λh=>Ao q [1,3,4,5,6,18,38] Uc (gC h (λh=>tB h λx7 y7 h=>gR q [2] [] [(41,(AV.list 2 Bs ((0:Int),(0:Int)) ([((64:Int),(1:Int))]:List G2) .exact))] [(XX x7)] (c2 (Cn 2 Bs ((0:Int),(0:Int)) ([((64:Int),(1:Int))]:List G2)) (F1 y7)) (tS h (C1 []))) λh=>Ao q [1,3,4,5,6,18,43] Uc (gC h (λh=>tB h λx8 y8 h=>gR q [2] [] [(47,(AV.list 2 Bs ((0:Int),(0:Int)) ([((64:Int),(1:Int)),(v6.Bits,v6.Lanes)]:List G2) .exact))] [(XX x8)] (c2 (Cn 2 Bs ((0:Int),(0:Int)) ([((64:Int),(1:Int)),(v6.Bits,v6.Lanes)]:List G2)) (F1 y8)) (tS h (C1 []))) λh=>tB h λx10 y10 h=>gJ y10 (λb9=>aG Γ .normal (⟨[(1,(.ptr 1 0)),(3,(.ptr 3 0)),YA,(5,(.ptr 5 0)),RR,(18,(Z7 v6.Kind)),(49,(.bool b9))],(ny v6),[]⟩:St)) (λy h=>Ao q [1,3,4,5,6,18,49] Uc (gC h (λh=>tS h (gK (D7 M7))) λh=>Ao q [1,3,4,5,6,18,49] Uc (tS h (gK (D7 M7))))) (gA (gC h (λh=>tB h λx12 y12 h=>gR q [2] [] [(55,(AV.list 2 Bs ((0:Int),(0:Int)) ([((1:Int),(1:Int)),((64:Int),(1:Int)),(v6.Bits,(1:Int))]:List G2) .exact))] [(XX x12)] (c2 (Cn 2 Bs ((0:Int),(0:Int)) ([((1:Int),(1:Int)),((64:Int),(1:Int)),(v6.Bits,(1:Int))]:List G2)) (F1 y12)) (tS h (C1 []))) λh=>Ao q [1,3,5,6,18,57] [1,3,5,6] (gC h (λh=>tB h λx13 y13 h=>gR q [2] [] [(63,(AV.list 2 Bs ((0:Int),(0:Int)) ([((1:Int),(1:Int)),(v6.Bits,(1:Int)),(v6.Bits,(1:Int)),(v6.Bits,(1:Int))]:List G2) .exact))] [(XX x13)] (c2 (Cn 2 Bs ((0:Int),(0:Int)) ([((1:Int),(1:Int)),(v6.Bits,(1:Int)),(v6.Bits,(1:Int)),(v6.Bits,(1:Int))]:List G2)) (F1 y13)) (tS h (C1 []))) λh=>Ao q [1,5,6,18,65] [1,5,6] (gC h (λh=>tB h λx14 y14 h=>tB h λx15 y15 h=>gR q [2] [] [(68,(AV.list 2 Bs ((0:Int),(0:Int)) ([(v6.Bits,(1:Int))]:List G2) .exact))] [⟨[],[(20000,71)],(AV.list 2 Bs ((0:Int),(0:Int)) x14 (.own 20000)),[(20000,.tok 2 73 x14.length)],[],[]⟩,(XX x15)] (c3 (Cn 2 Bs ((0:Int),(0:Int)) ([(v6.Bits,(1:Int))]:List G2)) (Mz y14) (F1 y15)) (tS h (C1 []))) λh=>Ao q [5,73] [5] (gC h (λh=>tB h λx16 y16 h=>gR q [2] [] [(76,(AV.list 2 Bs ((0:Int),(0:Int)) ([(v6.Bits,v6.Lanes)]:List G2) .exact))] [(XX x16)] (c2 (Cn 2 Bs ((0:Int),(0:Int)) ([(v6.Bits,v6.Lanes)]:List G2)) (F1 y16)) (tS h (C1 []))) λh=>tB h λx17 y17 h=>gR q [2] [] [(80,(AV.list 2 Bs ((0:Int),(0:Int)) ([(v6.Bits,v6.Lanes),(v6.Bits,v6.Lanes)]:List G2) .exact))] [(XX x17)] (c2 (Cn 2 Bs ((0:Int),(0:Int)) ([(v6.Bits,v6.Lanes),(v6.Bits,v6.Lanes)]:List G2)) (F1 y17)) (tS h (C1 [])))))))))))))))
def Iy(a8:Int):Option Bool:=
 (some (bif (decide ((1:Int)<=a8)) then(decide (a8<=1023)) else false))
theorem R8(h:Iy v1=some v3):sP 227 [(Z7 v1)] [] (.bool v3) []:=
 sG Tryz.func227 λΓ q=>Ao q [0] [] (tU q [2] [] (c2 (gI ((decide ((1:Int)<=v1))==true)) (M6 (decide ((1:Int)<=v1)))) (tS h (C1 [])))
def Gz(a2:D1):Int->Option (LR Int (Unit ⊕ Bool)):=
 λ(i2:Int)=>(bif (decide (i2<(a2.Args.length:Int))) then(Cg (Bx i2 a2.Args.length) ((Iy (a2.Args.getD i2.toNat 0)).bind λx4=>(bif (!x4) then(some (.done (.inr false))) else(some (.next (Bh (i2+1))))))) else(some (.done (.inl ()))))
def CY(Γ:G5)(a2:D1)(r:Bool):Exit->St->Prop:=fK Tryz.prog Γ Tryz.f212.results.toList [] (.bool r) []
def K8(a2:D1):Option Bool:=
 ((Lc a2).bind λx1=>(bif ((a2.Args.length:Int)!=(x1.length:Int)) then(some false) else((Ai (Gz a2) (0:Int)).bind (λx5=>(match x5 with|(.inl _)=>(some true)|(.inr r7)=>(some r7))))))
theorem BT(h:K8 v6=some v3):sP 212 [(Ws v6)] [] (.bool v3) []:=
 sG Tryz.func212 λΓ q=>Ao q [1] [1] (tB h λx1 y1 h=>tT q [1,11] [1] [(XX x1)] (c1 (Vl y1)) (gC h (λh=>Ao q [2] [] (tS h (C1 []))) λh=>Ao q [13,14,15] [] (tL q h [13,14,15] [] (λu i2=>(Fn u [(15,(Z7 i2))] [])) (λu x_=>match x_ with|(.inl _)=>aG Γ (.exit 0) (⟨[],[],[]⟩:St)|(.inr r_)=>aR (CY Γ v6 r_)) (λi2 y h=>Ao q [13,14,15,16] [] (gC h (λh=>tV q [4,13,14,15] [] h λh=>tB h λx4 y4 h=>tT q [13,14,15,21] [] [(Z2 x4)] (c1 (R8 y4)) (gC h (λh=>Ao q [2] [] (tS h (gO (Sh (Ks [] (Le.refl _ _)))))) λh=>Ao q [13,14,15] [] (tN h))) λh=>tS h (gO (D7 (Dv [] [] q))))) λx5 h=>(match x5,h with | .inl _,h=>gA (Ao q [2] [] (tS h (C1 []))) | .inr r7,h=>Wa (λst' hk=>tS h (gK hk))))))
def nz(a2:D1):List UO:=[(1,.row 43 [(Z7 a2.Kind),(Z7 a2.Bits),(Z7 a2.Lanes),(Z7 a2.Dst),(Qj a2.Args),(Hc a2.Imm)])]
def La(a2:D1):Option G2:=
 (Option.bind (α:=Bool) (bif (a2.Kind==17) then(some (a2.Kind==17)) else(some (a2.Kind==19))) (λx2=>(bif x2 then(some ((0:Int),(0:Int))) else(Option.bind (α:=Bool) (bif (a2.Kind==10) then(some (a2.Kind==10)) else(bif (a2.Kind==11) then(some (a2.Kind==11)) else(some (a2.Kind==12)))) (λx5=>(bif x5 then(some ((1:Int),(1:Int))) else(bif (a2.Kind==22) then(some (a2.Bits,(1:Int))) else(some (a2.Bits,a2.Lanes)))))))))
theorem Vk(h:La v6=some v19):sP 189 [(Ws v6)] [] (.tuple [(Z7 v19.1),(Z7 v19.2)]) []:=
 sG Tryz.func189 λΓ q=>tW q [1] [1] [1,5] [1] (tB h λx2 y2 h=>gJ y2 (λb1=>aG Γ .normal (⟨[(1,(.ptr 1 0)),(5,(Z7 v6.Kind)),(6,(.bool b1))],(nz v6),[]⟩:St)) (λy h=>Ao q [1,5,6] [1] (gC h (λh=>tS h (gK (D7 M7))) λh=>Ao q [1,5,6] [1] (tS h (gK (D7 M7))))) (gA (gC h (λh=>Ao q Jf [] (tS h (C1 []))) λh=>tB h λx5 y5 h=>gJ y5 (λb4=>aG Γ .normal (⟨[(1,(.ptr 1 0)),(5,(Z7 v6.Kind)),(9,(.bool b4))],(nz v6),[]⟩:St)) (λy h=>Ao q [1,5,9] [1] (gC h (λh=>tS h (gK (D7 M7))) λh=>Ao q [1,5,9] [1] (gC h (λh=>tS h (gK (D7 M7))) λh=>Ao q [1,5,9] [1] (tS h (gK (D7 M7)))))) (gA (gC h (λh=>Ao q Jf [] (tS h (C1 []))) λh=>Ao q [1,13] [1] (gC h (λh=>Ao q Jf [] (tS h (C1 []))) λh=>Ao q Jf [] (tS h (C1 []))))))))
def K9(a2:D1):Option Bool:=
 ((La a2).bind λx1=>(bif (x1.1==0) then(some (a2.Dst==0)) else((Iy a2.Dst).bind λx2=>(some x2))))
theorem BU(h:K9 v6=some v3):sP 213 [(Ws v6)] [] (.bool v3) []:=
 sG Tryz.func213 λΓ q=>Ao q [1] [1] (tB h λx1 y1 h=>tT q [1,3] [1] [⟨[],[],(.tuple [(Z7 x1.1),(Z7 x1.2)]),[],[],[]⟩] (c1 (Vk y1)) (Ao q [1,11] [1] (gC h (λh=>Ao q [2] [] (tS h (C1 []))) λh=>tB h λx2 y2 h=>tT q [2] [] [(Z2 x2)] (c1 (R8 y2)) (tS h (C1 [])))))
def ij(x1:Bool)(x2:Bool):=(bif (!x1) then true else(!x2))
def L4(a2:D1):Option Bool:=
 ((Mc a2.Kind).bind λx1=>((bif ((!x1)==false) then Nj a2.Bits a2.Lanes else some false).bind λx2=>((bif ((bif (!x1) then true else(!x2))==false) then Jl a2 else some false).bind λx3=>((bif ((bif (bif (!x1) then true else(!x2)) then true else(!x3))==false) then Lb a2 else some false).bind λx4=>(bif (bif (bif (bif (!x1) then true else(!x2)) then true else(!x3)) then true else(!x4)) then(some false) else((K8 a2).bind λx5=>((bif (x5==true) then K9 a2 else some false).bind λx6=>(some (bif x5 then x6 else false)))))))))
theorem Tg(h:L4 v6=some v3):sP 187 [(Ws v6)] [] (.bool v3) []:=
 sG Tryz.func187 λΓ q=>Ao q [1] [1] (tB h λx1 y1 h=>tB h λx2 y2 h=>tB h λx3 y3 h=>tB h λx4 y4 h=>tT q [1,24] [1] [(Z2 x1),(Z2 x2),(Z2 x3),(Z2 x4)] (ci (EV y1) (kz ((!x1)==false) (nX (λ(hg:((!x1)==false)=true)=>(HH (Bk hg y2))) (gI ((!x1)==false)) (U4 (!x1)) (gI ((ij x1 x2)==false)) (λ(hg:((ij x1 x2)==false)=true)=>(Xs (Bk hg y3))) (gI ((ij x1 x2)==false)) (U4 (ij x1 x2)) (gI ((bif (ij x1 x2) then true else(!x3))==false)) (λ(hg:((bif (ij x1 x2) then true else(!x3))==false)=true)=>(BV (Bk hg y4))) (c2 (gI ((bif (ij x1 x2) then true else(!x3))==false)) (U4 (bif (ij x1 x2) then true else(!x3))))))) (gC h (λh=>Ao q [2] [] (tS h (C1 []))) λh=>tB h λx5 y5 h=>tB h λx6 y6 h=>tT q [2] [] [(Z2 x5),(Z2 x6)] (c4 (BT y5) (gI (x5==true)) (λ(hg:(x5==true)=true)=>(BU (Bk hg y6))) (M6 x5)) (tS h (C1 []))))
def Nh(a2:D1)(aaA:Int):Option Bool:=
 (bif (aaA==0) then(some (bif (decide (a2.Kind<=17)) then(a2.Lanes==1) else false)) else(bif (aaA==1) then(some (bif (decide (a2.Kind<=20)) then(a2.Lanes==1) else false)) else(some true)))
theorem HC(h:Nh v6 v1=some v3):sP 188 [(Ws v6),(Z7 v1)] [] (.bool v3) []:=
 sG Tryz.func188 λΓ q=>tW q Yi [2] [2,5] [2] (Ao q V1 [2] (gC h (λh=>tU q [4] [] (Pz ((decide (v6.Kind<=17))==true) (c1 (M6 (decide (v6.Kind<=17))))) (tS h (C1 []))) λh=>Ao q V2 [2] (gC h (λh=>tU q [4] [] (Pz ((decide (v6.Kind<=20))==true) (c1 (M6 (decide (v6.Kind<=20))))) (tS h (C1 []))) λh=>Ao q [4] [] (tS h (C1 [])))))
abbrev T0:=(Bool×Ab×Int×A4×List A6)
def Fc(a2:D1)(a0:Ab)(a5:Int)(a9:A4)(a6:List A6):Option T0:=
 ((L4 a2).bind λx1=>((bif (x1==true) then Nh a2 a5 else some false).bind λx2=>(some ((bif x1 then x2 else false),a0,a5,a9,a6))))
variable{v23:T0}
theorem Pr(h:Fc v6 v0 v1 v2 v12=some v23):sP 167 [Yj,(Ws v6)] (Z3 v0.Params v0.Ret v0.Blocks v1 v2 v12 v12.length) (.bool v23.1) (Z3 v23.2.1.Params v23.2.1.Ret v23.2.1.Blocks v23.2.2.1 v23.2.2.2.1 v23.2.2.2.2 v23.2.2.2.2.length):=
 sG Tryz.func167 λΓ q=>Ao q V3 RE (tB h λx1 y1 h=>tB h λx2 y2 h=>tT q [4] Fq [(Z2 x1),(Z2 x2)] (ci (Tg y1) (lk (x1==true) (c2 (λ(hg:(x1==true)=true)=>(HC (Bk hg y2))) (M6 x1)))) (tS h (C1 BX)))
abbrev M3:=(Int×A4×Int×List An×Int×A4×List A6)
abbrev mO:=(LR (Int×A4×Int×List An×Int×A4×List A6) ((A4×Int×List An×Int×A4×List A6) ⊕ (Bool×Ab×Int×A4×List A6)))
def Eu(aA:List D1):M3->Option mO:=
 λ((i1,l2,i3,l4,i5,l6,l7):M3)=>(bif (decide (i1<(aA.length:Int))) then(Cg (Bx i1 aA.length) ((Fc (aA.getD i1.toNat default) (⟨l2,i3,l4⟩:Ab) i5 l6 l7).bind λx15=>(bif (!x15.1) then(some (.done (.inr (false,x15.2.1,x15.2.2.1,x15.2.2.2.1,x15.2.2.2.2)))) else(some (.next ((Bh (i1+1)),x15.2.1.Params,x15.2.1.Ret,x15.2.1.Blocks,x15.2.2.1,x15.2.2.2.1,x15.2.2.2.2)))))) else(some (.done (.inl (l2,i3,l4,i5,l6,l7)))))
def V4(Γ:G5)(aA:List D1)(a0:Ab)(a5:Int)(a9:A4)(a6:List A6)(r:T0):Exit->St->Prop:=fK Tryz.prog Γ Tryz.f166.results.toList (Z3 a0.Params a0.Ret a0.Blocks a5 a9 a6 a6.length) (.bool r.1) (Z3 r.2.1.Params r.2.1.Ret r.2.1.Blocks r.2.2.1 r.2.2.2.1 r.2.2.2.2 r.2.2.2.2.length)
def Hy(aA:List D1)(a0:Ab)(a5:Int)(a9:A4)(a6:List A6):Option T0:=
 ((Ai (Eu aA) ((0:Int),a0.Params,a0.Ret,a0.Blocks,a5,a9,a6)).bind (λx16=>(match x16 with|(.inl (l8,i9,l10,i11,l12,l13))=>(some (true,(⟨l8,i9,l10⟩:Ab),i11,l12,l13))|(.inr r18)=>(some r18))))
theorem U9(h:Hy v7 v0 v1 v2 v12=some v23):sP 166 [(AV.list 6 NZ default v7 .none),(.clo 167 [Yj] [])] (Z3 v0.Params v0.Ret v0.Blocks v1 v2 v12 v12.length) (.bool v23.1) (Z3 v23.2.1.Params v23.2.1.Ret v23.2.1.Blocks v23.2.2.1 v23.2.2.2.1 v23.2.2.2.2 v23.2.2.2.2.length):=
 sG Tryz.func166 λΓ q=>tW q Hr Fq Io Fq (tL q h Io Fq (λu (i1,l2,i3,l4,i5,l6,l7)=>(Fn u [(9,(Z7 i1))] (Z3 l2 i3 l4 i5 l6 l7 l7.length))) (λu x_=>match x_ with|(.inl (l8,i9,l10,i11,l12,l13))=>aG Γ (.exit 0) (⟨[],(Z3 l8 i9 l10 i11 l12 l13 l13.length),[]⟩:St)|(.inr r_)=>aR (V4 Γ v7 v0 v1 v2 v12 r_)) (λ⟨i1,l2,i3,l4,i5,l6,l7⟩ y h=>Ao q BJ Fq (gC h (λh=>tV q BK [6,30000,37006] h λh=>tB h λx15 y15 h=>tT q GJ Fq [(mq x15.1 x15.2.1.Params x15.2.1.Ret x15.2.1.Blocks x15.2.2.1 x15.2.2.2.1 x15.2.2.2.2 x15.2.2.2.2.length)] (c1 (Pr y15)) (gC h (λh=>Ao q [4] Fq (tS h (gO (Sh (Ks BX (Le.refl _ _)))))) λh=>Ao q Io Fq (tN h))) λh=>tS h (gO (D7 (Dv [] Fq q))))) λx16 h=>(match x16,h with | .inl ⟨l8,i9,l10,i11,l12,l13⟩,h=>gA (Ao q [4] Fq (tS h (C1 BX))) | .inr r18,h=>Wa (λst' hk=>tS h (gK hk))))
def nH(x1:Bool)(x2:T0)(a9:A4):AV:=(oD x1 x2.2.2.2.1 a9)
def nG(x1:Bool)(x2:T0)(a0:Ab):AV:=(oD x1 x2.2.1.Params a0.Params)
def nF(x1:Bool)(x2:T0)(a0:Ab):AV:=(.slice 5 (bif (x1==true) then x2.2.1.Blocks.length else a0.Blocks.length) (λi=>bif (x1==true) then Gn (x2.2.1.Blocks.getD i default) else Gn (a0.Blocks.getD i default)) .none)
def Ea(aL:An)(a0:Ab)(a5:Int)(a9:A4)(a6:List A6):Option T0:=
 ((He aL.Phis).bind λx1=>((bif (x1==true) then Hy aL.Ops a0 a5 a9 a6 else some (false,(default:Ab),(0:Int),[],[])).bind λx2=>(some ((bif x1 then x2.1 else false),(⟨(bif (x1==true) then x2.2.1.Params else a0.Params),(bif (x1==true) then x2.2.1.Ret else a0.Ret),(bif (x1==true) then x2.2.1.Blocks else a0.Blocks)⟩:Ab),(bif (x1==true) then x2.2.2.1 else a5),(bif (x1==true) then x2.2.2.2.1 else a9),(bif (x1==true) then x2.2.2.2.2 else a6)))))
theorem Nk(h:Ea v9 v0 v1 v2 v12=some v23):sP 130 [Yj,(.agg (Gn v9))] (Z3 v0.Params v0.Ret v0.Blocks v1 v2 v12 v12.length) (.bool v23.1) (Z3 v23.2.1.Params v23.2.1.Ret v23.2.1.Blocks v23.2.2.1 v23.2.2.2.1 v23.2.2.2.2 v23.2.2.2.2.length):=
 sG Tryz.func130 λΓ q=>Ao q V3 RE (tB h λx1 y1 h=>tB h λx2 y2 h=>tT q [4] Fq [(Z2 x1),(mq x2.1 x2.2.1.Params x2.2.1.Ret x2.2.1.Blocks x2.2.2.1 x2.2.2.2.1 x2.2.2.2.2 x2.2.2.2.2.length)] (ci (Tb y1) (kz (x1==true) (c2 (λ(hg:(x1==true)=true)=>(U9 (Bk hg y2))) (M6 x1)))) (tS h (gK (e:=.ret) (Ks BX (Le.trans (na (λg_ u=>(Fn u [] [(30000,.row 110 [(nG x1 x2 v0),(.int .i64 (bif (x1==true) then x2.2.1.Ret else v0.Ret)),(nF x1 x2 v0),(.int .i64 (bif (x1==true) then x2.2.2.1 else v1)),(nH x1 x2 v2),.nilm,(nP g_ x2.2.2.2.2 v12)]),(37006,.tok 5 195 (bif g_ then x2.2.2.2.2.length else v12.length))])) (λg_ u=>(Fn u [] [(30000,.row 110 [(nG x1 x2 v0),(.int .i64 (bif (x1==true) then x2.2.1.Ret else v0.Ret)),(nF x1 x2 v0),(.int .i64 (bif (x1==true) then x2.2.2.1 else v1)),(nH x1 x2 v2),.nilm,(AV.list 5 Jq default (bif g_ then x2.2.2.2.2 else v12) (.own 37006))]),(37006,.tok 5 195 ((bif g_ then x2.2.2.2.2 else v12).length))])) (x1==true)) (Le.trans (gW 30000 0 (show AVle (nG x1 x2 v0) (AV.list 1 Az 0 (bif (x1==true) then x2.2.1.Params else v0.Params) .none) from Gm)) (Le.trans (gW 30000 2 (show AVle (nF x1 x2 v0) (AV.list 5 Gn default (bif (x1==true) then x2.2.1.Blocks else v0.Blocks) .none) from Gm)) (gW 30000 4 (show AVle (nH x1 x2 v2) (AV.list 1 Az 0 (bif (x1==true) then x2.2.2.2.1 else v2) .none) from Gm)))))))))
def Dy(aA:List An):M3->Option mO:=
 λ((i1,l2,i3,l4,i5,l6,l7):M3)=>(bif (decide (i1<(aA.length:Int))) then(Cg (Bx i1 aA.length) ((Ea (aA.getD i1.toNat default) (⟨l2,i3,l4⟩:Ab) i5 l6 l7).bind λx15=>(bif (!x15.1) then(some (.done (.inr (false,x15.2.1,x15.2.2.1,x15.2.2.2.1,x15.2.2.2.2)))) else(some (.next ((Bh (i1+1)),x15.2.1.Params,x15.2.1.Ret,x15.2.1.Blocks,x15.2.2.1,x15.2.2.2.1,x15.2.2.2.2)))))) else(some (.done (.inl (l2,i3,l4,i5,l6,l7)))))
def Sf(Γ:G5)(aA:List An)(a0:Ab)(a5:Int)(a9:A4)(a6:List A6)(r:T0):Exit->St->Prop:=fK Tryz.prog Γ Tryz.f129.results.toList (Z3 a0.Params a0.Ret a0.Blocks a5 a9 a6 a6.length) (.bool r.1) (Z3 r.2.1.Params r.2.1.Ret r.2.1.Blocks r.2.2.1 r.2.2.2.1 r.2.2.2.2 r.2.2.2.2.length)
def Gb(aA:List An)(a0:Ab)(a5:Int)(a9:A4)(a6:List A6):Option T0:=
 ((Ai (Dy aA) ((0:Int),a0.Params,a0.Ret,a0.Blocks,a5,a9,a6)).bind (λx16=>(match x16 with|(.inl (l8,i9,l10,i11,l12,l13))=>(some (true,(⟨l8,i9,l10⟩:Ab),i11,l12,l13))|(.inr r18)=>(some r18))))
theorem Rk(h:Gb v10 v0 v1 v2 v12=some v23):sP 129 [(ay v10),(.clo 130 [Yj] [])] (Z3 v0.Params v0.Ret v0.Blocks v1 v2 v12 v12.length) (.bool v23.1) (Z3 v23.2.1.Params v23.2.1.Ret v23.2.1.Blocks v23.2.2.1 v23.2.2.2.1 v23.2.2.2.2 v23.2.2.2.2.length):=
 sG Tryz.func129 λΓ q=>tW q Hr Fq Io Fq (tL q h Io Fq (λu (i1,l2,i3,l4,i5,l6,l7)=>(Fn u [(9,(Z7 i1))] (Z3 l2 i3 l4 i5 l6 l7 l7.length))) (λu x_=>match x_ with|(.inl (l8,i9,l10,i11,l12,l13))=>aG Γ (.exit 0) (⟨[],(Z3 l8 i9 l10 i11 l12 l13 l13.length),[]⟩:St)|(.inr r_)=>aR (Sf Γ v10 v0 v1 v2 v12 r_)) (λ⟨i1,l2,i3,l4,i5,l6,l7⟩ y h=>Ao q BJ Fq (gC h (λh=>tV q BK [6,30000,37006] h λh=>tB h λx15 y15 h=>tT q GJ Fq [(mq x15.1 x15.2.1.Params x15.2.1.Ret x15.2.1.Blocks x15.2.2.1 x15.2.2.2.1 x15.2.2.2.2 x15.2.2.2.2.length)] (c1 (Nk y15)) (gC h (λh=>Ao q [4] Fq (tS h (gO (Sh (Ks BX (Le.refl _ _)))))) λh=>Ao q Io Fq (tN h))) λh=>tS h (gO (D7 (Dv [] Fq q))))) λx16 h=>(match x16,h with | .inl ⟨l8,i9,l10,i11,l12,l13⟩,h=>gA (Ao q [4] Fq (tS h (C1 BX))) | .inr r18,h=>Wa (λst' hk=>tS h (gK hk))))
def XV(x1:Bool)(x2:Bool):=((bif x1 then x2 else false)==true)
def nK(x1:Bool)(x2:Bool)(x3:T0)(a9:A4):AV:=(mn (XV x1 x2) x3.2.2.2.1 a9)
def nJ(x1:Bool)(x2:Bool)(x3:T0)(a0:Ab):AV:=(mn (XV x1 x2) x3.2.1.Params a0.Params)
def nI(x1:Bool)(x2:Bool)(x3:T0)(a0:Ab):AV:=(oB (XV x1 x2) x3.2.1.Blocks a0.Blocks)
def Gc(a0:Ab)(a5:Int)(a9:A4)(a6:List A6):Option ao:=
 ((J6 a0.Params).bind λx1=>((bif (x1==true) then G9 a0.Ret else some false).bind λx2=>((bif ((bif x1 then x2 else false)==true) then Gb a0.Blocks a0 a5 a9 a6 else some (false,(default:Ab),(0:Int),[],[])).bind λx3=>((Iv (bif (bif x1 then x2 else false) then x3.1 else false) (6:Int)).bind λx4=>(some (x4,(⟨(bif ((bif x1 then x2 else false)==true) then x3.2.1.Params else a0.Params),(bif ((bif x1 then x2 else false)==true) then x3.2.1.Ret else a0.Ret),(bif ((bif x1 then x2 else false)==true) then x3.2.1.Blocks else a0.Blocks)⟩:Ab),(bif ((bif x1 then x2 else false)==true) then x3.2.2.1 else a5),(bif ((bif x1 then x2 else false)==true) then x3.2.2.2.1 else a9),(bif ((bif x1 then x2 else false)==true) then x3.2.2.2.2 else a6)))))))
theorem Rl(h:Gc v0 v1 v2 v12=some v13):sP 93 [Yj] (Z3 v0.Params v0.Ret v0.Blocks v1 v2 v12 v12.length) (Z7 v13.1) (Z3 v13.2.1.Params v13.2.1.Ret v13.2.1.Blocks v13.2.2.1 v13.2.2.2.1 v13.2.2.2.2 v13.2.2.2.2.length):=
 sG Tryz.func93 λΓ q=>Ao q [0] Fq (tB h λx1 y1 h=>tB h λx2 y2 h=>tB h λx3 y3 h=>tT q [3] Fq [(Z2 x1),(Z2 x2),(mq x3.1 x3.2.1.Params x3.2.1.Ret x3.2.1.Blocks x3.2.2.1 x3.2.2.2.1 x3.2.2.2.2 x3.2.2.2.2.length)] (ci (Y7 y1) (lk (x1==true) (YP (λ(hg:(x1==true)=true)=>(I7 (Bk hg y2))) (M6 x1) (oR (XV x1 x2) (c2 (λ(hg:(XV x1 x2)=true)=>(Rk (Bk hg y3))) (M6 (bif x1 then x2 else false))))))) (J3 (Le.trans (na (λg_ u=>(Fn u [] [(30000,.row 110 [(nJ x1 x2 x3 v0),(ip (XV x1 x2) x3.2.1.Ret v0.Ret),(nI x1 x2 x3 v0),(ip (XV x1 x2) x3.2.2.1 v1),(nK x1 x2 x3 v2),.nilm,(nP g_ x3.2.2.2.2 v12)]),(37006,.tok 5 195 (bif g_ then x3.2.2.2.2.length else v12.length))])) (λg_ u=>(Fn u [] [(30000,.row 110 [(nJ x1 x2 x3 v0),(ip (XV x1 x2) x3.2.1.Ret v0.Ret),(nI x1 x2 x3 v0),(ip (XV x1 x2) x3.2.2.1 v1),(nK x1 x2 x3 v2),.nilm,(AV.list 5 Jq default (bif g_ then x3.2.2.2.2 else v12) (.own 37006))]),(37006,.tok 5 195 ((bif g_ then x3.2.2.2.2 else v12).length))])) (XV x1 x2)) (Le.trans (gW 30000 0 (show AVle (nJ x1 x2 x3 v0) (AV.list 1 Az 0 (bif (XV x1 x2) then x3.2.1.Params else v0.Params) .none) from Gm)) (Le.trans (gW 30000 2 (show AVle (nI x1 x2 x3 v0) (AV.list 5 Gn default (bif (XV x1 x2) then x3.2.1.Blocks else v0.Blocks) .none) from Gm)) (gW 30000 4 (show AVle (nK x1 x2 x3 v2) (AV.list 1 Az 0 (bif (XV x1 x2) then x3.2.2.2.1 else v2) .none) from Gm))))) (tB h λx4 y4 h=>tT q [2] Fq [(XZ x4)] (c1 (R5 y4)) (tS h (C1 BX)))))
def Dk(aN:Int):Option G2:=
 (some (aN,(1:Int)))
theorem H8(h:Dk v1=some v19):sP 131 [(Z7 v1)] [] (DA v19) []:=
 sG Tryz.func131 λΓ q=>tW q [0,2] [2] [2] [2] (tS h (C1 []))
def kv:=(λ(v_:Aj)=>((Py v_):AV))
abbrev J1:=(Int×Aj)
abbrev QX:=(Bool×Ab×Int×A4×List A6×List (Int×Aj))
def Eb(a8:Int)(aZ:G2)(aM:Hg)(a0:Ab)(a5:Int)(a9:A4)(a7:List J1)(a6:List A6):Option QX:=
 (bif (bif (bif (B1 a7 a8) then true else(decide (a8<1))) then true else(decide ((1023:Int)<a8))) then(some (false,a0,a5,a9,a6,a7)) else(some (true,a0,a5,a9,a6,(Ex a7 a8 (⟨aZ,aM⟩:Aj)))))
variable{v24:Hg}{v25:List J1}{v26:QX}
abbrev HP:=(Int×AV)
theorem Kl(h:Eb v1 v19 v24 v0 v11 v2 v25 v12=some v26):sP 168 [Yj,(Z7 v1),(DA v19),(.agg (CH v24))] [(Z1 v0.Params v0.Ret v0.Blocks v11 v2 9100005 v12),(Z8 v12.length),(9100005,.obj (.map true .i64 (mapE (λ(v_:Aj)=>((Py v_):AV)) v25)))] (.bool v26.1) [(Z1 v26.2.1.Params v26.2.1.Ret v26.2.1.Blocks v26.2.2.1 v26.2.2.2.1 9100005 v26.2.2.2.2.1),(Z8 v26.2.2.2.2.1.length),(9100005,.obj (.map true .i64 (mapE (λ(v_:Aj)=>((Py v_):AV)) v26.2.2.2.2.2)))]:=
 sG Tryz.func168 λΓ q=>Ao q [0,1,6,7] XI (gR q [0,1,6,7,10] XI [(17,(.tuple [(io v25 v1),(.bool (B1 v25 v1))]))] [] (c1 (show(AVle (.tuple [mget (.agg [Ot,Ot,Ot,Ot]) (mapE kv v25) v1,.bool (B1 (mapE kv v25) v1)]) (.tuple [(io v25 v1),(.bool (B1 v25 v1))])) from(Xk (f:=kv) (l:=v25) (AVle.refl _) rfl))) (tU q [0,1,6,7,28] XI (c4 (gI ((B1 v25 v1)==false)) (U4 (B1 v25 v1)) (gI ((bif (B1 v25 v1) then true else(decide (v1<1)))==false)) (U4 (bif (B1 v25 v1) then true else(decide (v1<1))))) (gC h (λh=>Ao q [8] Fm (tS h (C1 Va))) λh=>Ao q [] Fm (J3 (S6 (λ(k_:List HP) u=>Fn u [] [(bB 9100005 k_)]) (show(Ex (mapE kv v25) v1 (.agg [(Z7 v19.1),(Z7 v19.2),(Z7 v24.block),(Z7 v24.at_)]))=(mapE kv (Ex v25 v1 (⟨v19,v24⟩:Aj))) from(Xl (f:=kv) (l:=v25) (v:=(⟨v19,v24⟩:Aj)) rfl rfl))) (Ao q [8] Fm (tS h (C1 Va)))))))
def K6(a2:D1):Option G2:=
 ((L4 a2).bind λx1=>(bif (!x1) then(some ((0:Int),(0:Int))) else((La a2).bind λx2=>(some (x2.1,x2.2)))))
theorem HG(h:K6 v6=some v19):sP 169 [(Ws v6)] [] (.tuple [(Z7 v19.1),(Z7 v19.2)]) []:=
 sG Tryz.func169 λΓ q=>Ao q [1] [1] (tB h λx1 y1 h=>tT q [1,6] [1] [(Z2 x1)] (c1 (Tg y1)) (gC h (λh=>Ao q Jf [] (tS h (C1 []))) λh=>tB h λx2 y2 h=>tT q Jf [] [⟨[],[],(.tuple [(Z7 x2.1),(Z7 x2.2)]),[],[],[]⟩] (c1 (Vk y2)) (tS h (C1 []))))
set_option maxRecDepth 100000
set_option maxHeartbeats 2000000
abbrev iY:=(Int×A4×Int×List An×Int×A4×List A6×List (Int×Aj))
abbrev mP:=(LR (Int×A4×Int×List An×Int×A4×List A6×List (Int×Aj)) ((A4×Int×List An×Int×A4×List A6×List (Int×Aj)) ⊕ (Bool×Ab×Int×A4×List A6×List (Int×Aj))))
def Cv(aX:Int)(aL:An):iY->Option mP:=
 λ((i1,l2,i3,l4,i5,l6,l7,l8):iY)=>(bif (decide (i1<(aL.Phis.length:Int))) then(Cg (Bx i1 aL.Phis.length) ((Dk ((aL.Phis.getD i1.toNat default).Bits)).bind λx17=>((Eb ((aL.Phis.getD i1.toNat default).Dst) x17 (⟨aX,(-1:Int)⟩:Hg) (⟨l2,i3,l4⟩:Ab) i5 l6 l8 l7).bind λx18=>(bif (!x18.1) then(some (.done (.inr (false,x18.2.1,x18.2.2.1,x18.2.2.2.1,x18.2.2.2.2.1,x18.2.2.2.2.2)))) else(some (.next ((Bh (i1+1)),x18.2.1.Params,x18.2.1.Ret,x18.2.1.Blocks,x18.2.2.1,x18.2.2.2.1,x18.2.2.2.2.1,x18.2.2.2.2.2))))))) else(some (.done (.inl (l2,i3,l4,i5,l6,l7,l8)))))
def B0(aX:Int)(aL:An):iY->Option mP:=
 λ((i21,l22,i23,l24,i25,l26,l27,l28):iY)=>(bif (decide (i21<(aL.Ops.length:Int))) then(Cg (Bx i21 aL.Ops.length) ((K6 (aL.Ops.getD i21.toNat default)).bind λx37=>((bif ((decide ((0:Int)<x37.1))==true) then Eb ((aL.Ops.getD i21.toNat default).Dst) (x37.1,x37.2) (⟨aX,i21⟩:Hg) (⟨l22,i23,l24⟩:Ab) i25 l26 l28 l27 else some (false,(default:Ab),(0:Int),[],[],[])).bind λx38=>(bif (bif (decide ((0:Int)<x37.1)) then(!x38.1) else false) then(some (.done (.inr (false,(⟨(bif ((decide ((0:Int)<x37.1))==true) then x38.2.1.Params else l22),(bif ((decide ((0:Int)<x37.1))==true) then x38.2.1.Ret else i23),(bif ((decide ((0:Int)<x37.1))==true) then x38.2.1.Blocks else l24)⟩:Ab),(bif ((decide ((0:Int)<x37.1))==true) then x38.2.2.1 else i25),(bif ((decide ((0:Int)<x37.1))==true) then x38.2.2.2.1 else l26),(bif ((decide ((0:Int)<x37.1))==true) then x38.2.2.2.2.1 else l27),(bif ((decide ((0:Int)<x37.1))==true) then x38.2.2.2.2.2 else l28))))) else(some (.next ((Bh (i21+1)),(bif ((decide ((0:Int)<x37.1))==true) then x38.2.1.Params else l22),(bif ((decide ((0:Int)<x37.1))==true) then x38.2.1.Ret else i23),(bif ((decide ((0:Int)<x37.1))==true) then x38.2.1.Blocks else l24),(bif ((decide ((0:Int)<x37.1))==true) then x38.2.2.1 else i25),(bif ((decide ((0:Int)<x37.1))==true) then x38.2.2.2.1 else l26),(bif ((decide ((0:Int)<x37.1))==true) then x38.2.2.2.2.1 else l27),(bif ((decide ((0:Int)<x37.1))==true) then x38.2.2.2.2.2 else l28)))))))) else(some (.done (.inl (l22,i23,l24,i25,l26,l27,l28)))))
def Jp(Γ:G5)(aX:Int)(aL:An)(a0:Ab)(a5:Int)(a9:A4)(a7:List J1)(a6:List A6)(r:QX):Exit->St->Prop:=fK Tryz.prog Γ Tryz.f132.results.toList [(Z1 a0.Params a0.Ret a0.Blocks a5 a9 9100005 a6),(Z8 a6.length),(9100005,.obj (.map true .i64 (mapE (λ(v_:Aj)=>((Py v_):AV)) a7)))] (.bool r.1) [(Z1 r.2.1.Params r.2.1.Ret r.2.1.Blocks r.2.2.1 r.2.2.2.1 9100005 r.2.2.2.2.1),(Z8 r.2.2.2.2.1.length),(9100005,.obj (.map true .i64 (mapE (λ(v_:Aj)=>((Py v_):AV)) r.2.2.2.2.2)))]
def RN(x37:G2):=((decide ((0:Int)<x37.1))==true)
def fY:=(λ(v_:Aj)=>((Py v_):AV))
def nM(x37:G2)(x38:QX)(l26:A4):AV:=(mn (RN x37) x38.2.2.2.1 l26)
def nN(x37:G2)(x38:QX)(l24:List An):AV:=(oB (RN x37) x38.2.1.Blocks l24)
def nL(x37:G2)(x38:QX)(l22:A4):AV:=(mn (RN x37) x38.2.1.Params l22)
def Es(aX:Int)(aL:An)(a0:Ab)(a5:Int)(a9:A4)(a7:List J1)(a6:List A6):Option QX:=
 ((Ai (Cv aX aL) ((0:Int),a0.Params,a0.Ret,a0.Blocks,a5,a9,a6,a7)).bind (λx19=>(match x19 with|(.inl (l9,i10,l11,i12,l13,l14,l15))=>((Ai (B0 aX aL) ((0:Int),l9,i10,l11,i12,l13,l14,l15)).bind (λx39=>(match x39 with|(.inl (l29,i30,l31,i32,l33,l34,l35))=>(some (true,(⟨l29,i30,l31⟩:Ab),i32,l33,l34,l35))|(.inr r41)=>(some r41))))|(.inr r42)=>(some r42))))
theorem N6(h:Es v1 v9 v0 v11 v2 v25 v12=some v26):sP 132 [Yj,(Z7 v1),(.agg (Gn v9))] [(Z1 v0.Params v0.Ret v0.Blocks v11 v2 9100005 v12),(Z8 v12.length),(9100005,.obj (.map true .i64 (mapE (λ(v_:Aj)=>((Py v_):AV)) v25)))] (.bool v26.1) [(Z1 v26.2.1.Params v26.2.1.Ret v26.2.1.Blocks v26.2.2.1 v26.2.2.2.1 9100005 v26.2.2.2.2.1),(Z8 v26.2.2.2.2.1.length),(9100005,.obj (.map true .i64 (mapE (λ(v_:Aj)=>((Py v_):AV)) v26.2.2.2.2.2)))]:=
 sG Tryz.func132 λΓ q=>tW q GI BI ep BI (tL q h ep BI (λu (i1,l2,i3,l4,i5,l6,l7,l8)=>(Fn u [(16,(Z7 i1))] [(Z1 l2 i3 l4 i5 l6 9100005 l7),(Z8 l7.length),(9100005,.obj (.map true .i64 (mapE fY l8)))])) (λu x_=>match x_ with|(.inl (l9,i10,l11,i12,l13,l14,l15))=>aG Γ (.exit 0) (Wj GI BI u [] [(Z1 l9 i10 l11 i12 l13 9100005 l14),(Z8 l14.length),(9100005,.obj (.map true .i64 (mapE fY l15)))])|(.inr r_)=>aR (Jp Γ v1 v9 v0 v11 v2 v25 v12 r_)) (λ⟨i1,l2,i3,l4,i5,l6,l7,l8⟩ y h=>Ao q [0,1,5,14,15,16,17] BI (gC h (λh=>tV q [0,1,5,8,14,15,16] [5,8,30000,37006,9100005] h λh=>tB h λx17 y17 h=>tB h λx18 y18 h=>tT q [0,1,5,14,15,16,29] BI [⟨[],[],(DA x17),[],[],[]⟩,⟨Va,[],(.bool x18.1),[(Z1 x18.2.1.Params x18.2.1.Ret x18.2.1.Blocks x18.2.2.1 x18.2.2.2.1 9100005 x18.2.2.2.2.1),(Z8 x18.2.2.2.2.1.length),(9100005,.obj (.map true .i64 (mapE fY x18.2.2.2.2.2)))],[],[]⟩] (c2 (H8 y17) (Kl y18)) (gC h (λh=>Ao q [6] Fm (tS h (gO (Sh (Ks Va (Le.refl _ _)))))) λh=>Ao q ep BI (tN h))) λh=>tS h (gO (D7 (Dv GI BI q))))) λx19 h=>(match x19,h with | .inl ⟨l9,i10,l11,i12,l13,l14,l15⟩,h=>gA (Ao q UV Fm (tL q h UV Fm (λu (i21,l22,i23,l24,i25,l26,l27,l28)=>(Fn u [(34,(Z7 i21))] [(Z1 l22 i23 l24 i25 l26 9100005 l27),(Z8 l27.length),(9100005,.obj (.map true .i64 (mapE fY l28)))])) (λu x_=>match x_ with|(.inl (l29,i30,l31,i32,l33,l34,l35))=>aG Γ (.exit 2) (⟨[],[(Z1 l29 i30 l31 i32 l33 9100005 l34),(Z8 l34.length),(9100005,.obj (.map true .i64 (mapE fY l35)))],[]⟩:St)|(.inr r_)=>aR (Jp Γ v1 v9 v0 v11 v2 v25 v12 r_)) (λ⟨i21,l22,i23,l24,i25,l26,l27,l28⟩ y h=>Ao q [0,1,32,33,34,35] Fm (gC h (λh=>tV q [0,1,9,10,32,33,34] eV h λh=>tB h λx37 y37 h=>tT q [0,1,9,10,11,12,32,33,34] eV [⟨[],[],(.tuple [(Z7 x37.1),(Z7 x37.2)]),[],[],[]⟩] (c1 (HG y37)) (tB h λx38 y38 h=>tT q [0,1,32,33,34,58] Fm [⟨Va,[],(.bool x38.1),[(Z1 x38.2.1.Params x38.2.1.Ret x38.2.1.Blocks x38.2.2.1 x38.2.2.2.1 9100005 x38.2.2.2.2.1),(Z8 x38.2.2.2.2.1.length),(9100005,.obj (.map true .i64 (mapE fY x38.2.2.2.2.2)))],[],[]⟩] (oT (RN x37) (c3 (λ(hg:(RN x37)=true)=>(Kl (Bk hg y38))) (gI (RN x37)) (M6 (decide ((0:Int)<x37.1))))) (J3 (Le.trans (S6 (λ(k_:List HP) u=>Fn u [] [(bB 9100005 k_)]) (show(bif (RN x37) then(mapE fY x38.2.2.2.2.2) else(mapE fY l28))=(mapE fY (bif (RN x37) then x38.2.2.2.2.2 else l28)) from(cB rfl rfl))) (Le.trans (na (λg_ u=>(Fn u [] [(30000,.row 110 [(nL x37 x38 l22),(ip (RN x37) x38.2.1.Ret i23),(nN x37 x38 l24),(ip (RN x37) x38.2.2.1 i25),(nM x37 x38 l26),(.omap 9100005),(nP g_ x38.2.2.2.2.1 l27)]),(37006,.tok 5 195 (bif g_ then x38.2.2.2.2.1.length else l27.length))])) (λg_ u=>(Fn u [] [(30000,.row 110 [(nL x37 x38 l22),(ip (RN x37) x38.2.1.Ret i23),(nN x37 x38 l24),(ip (RN x37) x38.2.2.1 i25),(nM x37 x38 l26),(.omap 9100005),(AV.list 5 Jq default (bif g_ then x38.2.2.2.2.1 else l27) (.own 37006))]),(37006,.tok 5 195 ((bif g_ then x38.2.2.2.2.1 else l27).length))])) (RN x37)) (Le.trans (gW 30000 0 (show AVle (nL x37 x38 l22) (AV.list 1 Az 0 (bif (RN x37) then x38.2.1.Params else l22) .none) from Gm)) (Le.trans (gW 30000 2 (show AVle (nN x37 x38 l24) (AV.list 5 Gn default (bif (RN x37) then x38.2.1.Blocks else l24) .none) from Gm)) (gW 30000 4 (show AVle (nM x37 x38 l26) (AV.list 1 Az 0 (bif (RN x37) then x38.2.2.2.1 else l26) .none) from Gm)))))) (gC h (λh=>Ao q [6] Fm (tS h (gO (Sh (Ks Va (Le.refl _ _)))))) λh=>Ao q UV Fm (tN h))))) λh=>tS h (gO (D7 (Dv [] Fm q))))) λx39 h=>(match x39,h with | .inl ⟨l29,i30,l31,i32,l33,l34,l35⟩,h=>gA (Ao q [6] Fm (tS h (C1 Va))) | .inr r41,h=>Wa (λst' hk=>tS h (gK hk))))) | .inr r42,h=>Wa (λst' hk=>tS h (gK hk))))
abbrev mQ:=(Int×List (Int×Aj))
def Ec(a0:Ab):mQ->Option (LR (Int×List (Int×Aj)) (List (Int×Aj))):=
 λ((i1,l2):mQ)=>(bif (decide (i1<(a0.Params.length:Int))) then(Cg (Bx i1 a0.Params.length) ((Dk (a0.Params.getD i1.toNat 0)).bind λx5=>(some (.next ((Bh (i1+1)),(Ex l2 (Bh (i1+1)) (⟨x5,(⟨(0:Int),(-1:Int)⟩:Hg)⟩:Aj))))))) else(some (.done l2)))
abbrev mR:=(Int×List (Int×Aj)×A4×Int×List An×Int×A4×List A6)
def Dj(a0:Ab):mR->Option (LR (Int×List (Int×Aj)×A4×Int×List An×Int×A4×List A6) ((List (Int×Aj)×A4×Int×List An×Int×A4×List A6) ⊕ (Int×Ab×Int×A4×List A6×List (Int×Aj)))):=
 λ((i8,l9,l10,i11,l12,i13,l14,l15):mR)=>(bif (decide (i8<(a0.Blocks.length:Int))) then(Cg (Bx i8 a0.Blocks.length) ((Es i8 (a0.Blocks.getD i8.toNat default) (⟨l10,i11,l12⟩:Ab) i13 l14 l9 l15).bind λx24=>(bif (!x24.1) then(some (.done (.inr ((7:Int),x24.2.1,x24.2.2.1,x24.2.2.2.1,x24.2.2.2.2.1,x24.2.2.2.2.2)))) else(some (.next ((Bh (i8+1)),x24.2.2.2.2.2,x24.2.1.Params,x24.2.1.Ret,x24.2.1.Blocks,x24.2.2.1,x24.2.2.2.1,x24.2.2.2.2.1)))))) else(some (.done (.inl (l9,l10,i11,l12,i13,l14,l15)))))
abbrev UQ:=(Int×Ab×Int×A4×List A6×List (Int×Aj))
def Pw(Γ:G5)(a0:Ab)(a5:Int)(a9:A4)(a6:List A6)(r:UQ):Exit->St->Prop:=fK Tryz.prog Γ Tryz.f94.results.toList (Z3 a0.Params a0.Ret a0.Blocks a5 a9 a6 a6.length) (Z7 r.1) [(Z1 r.2.1.Params r.2.1.Ret r.2.1.Blocks r.2.2.1 r.2.2.2.1 9200005 r.2.2.2.2.1),(Z8 r.2.2.2.2.1.length),(9200005,.obj (.map false .i64 (mapE (λ(v_:Aj)=>((Py v_):AV)) r.2.2.2.2.2)))]
def VK:=(λ(v_:Aj)=>((Py v_):AV))
def n4(l16:List J1)(l17:A4)(i18:Int)(l19:List An)(i20:Int)(l21:A4)(l22:List A6):List UO:=[(8,.obj (.map true .i64 (mapE VK l16))),(lc l17 i18 l19 i20 l21 l22),(Z8 l22.length)]
def Fa(a0:Ab)(a5:Int)(a9:A4)(a6:List A6):Option UQ:=
 ((Ai (Ec a0) ((0:Int),([]:List J1))).bind (λx6=>((Ai (Dj a0) ((0:Int),x6,a0.Params,a0.Ret,a0.Blocks,a5,a9,a6)).bind (λx25=>(match x25 with|(.inl (l16,l17,i18,l19,i20,l21,l22))=>(some ((0:Int),(⟨l17,i18,l19⟩:Ab),i20,l21,l22,l16))|(.inr r27)=>(some r27))))))
variable{v27:UQ}
theorem Po(h:Fa v0 v1 v2 v12=some v27):sP 94 [Yj] (Z3 v0.Params v0.Ret v0.Blocks v1 v2 v12 v12.length) (Z7 v27.1) [(Z1 v27.2.1.Params v27.2.1.Ret v27.2.1.Blocks v27.2.2.1 v27.2.2.2.1 9200005 v27.2.2.2.2.1),(Z8 v27.2.2.2.2.1.length),(9200005,.obj (.map false .i64 (mapE (λ(v_:Aj)=>((Py v_):AV)) v27.2.2.2.2.2)))]:=
 sG Tryz.func94 λΓ q=>tW q [0] Fq [0] Lm (J3 (S6 (λ(k_:List HP) u=>Fn u [] [(8,.obj (.map true .i64 k_))]) (show[]=(mapE VK ([]:List J1)) from rfl)) (Ao q XO Lm (tL q h XO Lm (λu (i1,l2)=>(Fn u [(17,(Z7 i1))] [(8,.obj (.map true .i64 (mapE VK l2)))])) (λu l3=>aG Γ (.exit 0) (Wj [0] Lm u [] [(8,.obj (.map true .i64 (mapE VK l3)))])) (λ⟨i1,l2⟩ y h=>Ao q [0,15,16,17,18] Lm (gC h (λh=>tV q [0,3,4,15,16,17] Lm h λh=>tB h λx5 y5 h=>tT q XO Lm [⟨[],[],(DA x5),[],[],[]⟩] (c1 (H8 y5)) (J3 (S6 (λ(k_:List HP) u=>Fn u [] [(8,.obj (.map true .i64 k_))]) (show(Ex (mapE VK l2) (Bh (i1+1)) (.agg [(Z7 x5.1),(Z7 x5.2),Ot,(.int .i64 (-1:Int))]))=(mapE VK (Ex l2 (Bh (i1+1)) (⟨x5,(⟨(0:Int),(-1:Int)⟩:Hg)⟩:Aj))) from(Xl (f:=VK) (l:=l2) (v:=(⟨x5,(⟨(0:Int),(-1:Int)⟩:Hg)⟩:Aj)) rfl rfl))) (Ao q XO Lm (tN h)))) λh=>tS h (gO (D7 (Dv [0] Lm q))))) λx6 h=>gA (Ao q VD Lm (tL q h VD Lm (λu (i8,l9,l10,i11,l12,i13,l14,l15)=>(Fn u [(39,(Z7 i8))] [(8,.obj (.map true .i64 (mapE VK l9))),(lc l10 i11 l12 i13 l14 l15),(Z8 l15.length)])) (λu x_=>match x_ with|(.inl (l16,l17,i18,l19,i20,l21,l22))=>aG Γ (.exit 2) (⟨[],(n4 l16 l17 i18 l19 i20 l21 l22),[]⟩:St)|(.inr r_)=>aR (Pw Γ v0 v1 v2 v12 r_)) (λ⟨i8,l9,l10,i11,l12,i13,l14,l15⟩ y h=>Ao q [0,37,38,39,40] Lm (gC h (λh=>tV q [0,5,6,37,38,39] [6,8,30000,37006] h λh=>tB h λx24 y24 h=>tT q [0,37,38,39,48] Lm [⟨[(30000,30000),(37006,37006),(8,9100005)],[],(.bool x24.1),[(Z1 x24.2.1.Params x24.2.1.Ret x24.2.1.Blocks x24.2.2.1 x24.2.2.2.1 9100005 x24.2.2.2.2.1),(Z8 x24.2.2.2.2.1.length),(9100005,.obj (.map true .i64 (mapE VK x24.2.2.2.2.2)))],[],[]⟩] (c1 (N6 y24)) (gC h (λh=>Ao q [2] Lm (Ul (⟨[(2,(.int .i64 (7:Int)))],[(8,.obj (.map true .i64 (mapE VK x24.2.2.2.2.2))),(lc x24.2.1.Params x24.2.1.Ret x24.2.1.Blocks x24.2.2.1 x24.2.2.2.1 x24.2.2.2.2.1),(Z8 x24.2.2.2.2.1.length)],[]⟩:St) (tS h (gO (Sh (Ks jV (Le.trans (LL (nm:=8) (.map false .i64 (mapE VK x24.2.2.2.2.2)) rfl (λ_ _ _ _ h_=>PE h_)) (Dv (st':=⟨[(2,(.int .i64 (7:Int)))],[(8,.obj (.map false .i64 (mapE VK x24.2.2.2.2.2))),(lc x24.2.1.Params x24.2.1.Ret x24.2.1.Blocks x24.2.2.1 x24.2.2.2.1 x24.2.2.2.2.1),(Z8 x24.2.2.2.2.1.length)],[]⟩) [2] Lm q)))))))) λh=>Ao q VD Lm (tN h))) λh=>tS h (gO (D7 (Dv [] Lm q))))) λx25 h=>(match x25,h with | .inl ⟨l16,l17,i18,l19,i20,l21,l22⟩,h=>gA (Ao q [2] Lm (Ul (⟨[(2,Ot)],(n4 l16 l17 i18 l19 i20 l21 l22),[]⟩:St) (tS h (gK (e:=.ret) (Ks jV (Le.trans (LL (nm:=8) (.map false .i64 (mapE VK l16)) rfl (λ_ _ _ _ h_=>PE h_)) (Dv (st':=⟨[(2,Ot)],[(8,.obj (.map false .i64 (mapE VK l16))),(lc l17 i18 l19 i20 l21 l22),(Z8 l22.length)],[]⟩) [2] Lm q))))))) | .inr r27,h=>Wa (λst' hk=>tS h (gK hk))))))))
abbrev mT:=(Hg×Ab×Int×A4×List A6)
def Em(aX:Int)(a0:Ab)(a5:Int)(a9:A4)(a7:List J1)(a6:List A6):Option mT:=
 (Cg (Bx aX a0.Blocks.length) (some ((⟨aX,(((a0.Blocks.getD aX.toNat default).Ops).length:Int)⟩:Hg),a0,a5,a9,a6)))
variable{v28:mT}
theorem I4(h:Em v1 v0 v11 v2 v25 v12=some v28):sP 171 [Yj,(Z7 v1)] [(Z1 v0.Params v0.Ret v0.Blocks v11 v2 9100005 v12),(Z8 v12.length),(9100005,.obj (.map false .i64 (mapE (λ(v_:Aj)=>((Py v_):AV)) v25)))] (.agg (CH v28.1)) [(Z1 v28.2.1.Params v28.2.1.Ret v28.2.1.Blocks v28.2.2.1 v28.2.2.2.1 9100005 v28.2.2.2.2),(Z8 v28.2.2.2.2.length),(9100005,.obj (.map false .i64 (mapE (λ(v_:Aj)=>((Py v_):AV)) v25)))]:=
 sG Tryz.func171 λΓ q=>Ao q [0,1,4] eX (tV q [4] eX h λh=>tS h (C1 Va))
abbrev iZ:=(Ab×Int×A4×List A6)
def Dr(a8:Int)(aZ:G2)(aM:Hg)(a0:Ab)(a5:Int)(a9:A4)(a7:List J1)(a6:List A6):Option iZ:=
 (Cg (a6.length+([(⟨a8,aZ,aM⟩:A6)]:List A6).length<=room) (some (a0,a5,a9,(a6++([(⟨a8,aZ,aM⟩:A6)]:List A6)))))
variable{v29:iZ}
theorem G0(h:Dr v1 v19 v24 v0 v11 v2 v25 v12=some v29):sP 170 [Yj,(Z7 v1),(DA v19),(.agg (CH v24))] [(Z1 v0.Params v0.Ret v0.Blocks v11 v2 9100005 v12),(Z8 v12.length),(9100005,.obj (.map false .i64 (mapE (λ(v_:Aj)=>((Py v_):AV)) v25)))] (.tuple []) [(Z1 v29.1.Params v29.1.Ret v29.1.Blocks v29.2.1 v29.2.2.1 9100005 v29.2.2.2),(Z8 v29.2.2.2.length),(9100005,.obj (.map false .i64 (mapE (λ(v_:Aj)=>((Py v_):AV)) v25)))]:=
 sG Tryz.func170 λΓ q=>Ao q [0,1,6,7] XI (tC h λc1_ h=>gR q [] Fm [(17,(AV.list 5 Jq default ([(⟨v1,v19,v24⟩:A6)]:List A6) .exact)),(18,(AV.list 5 Jq default (v12++([(⟨v1,v19,v24⟩:A6)]:List A6)) (.own 37006)))] [] (c5 (Cn 5 Jq (default:A6) ([(⟨v1,v19,v24⟩:A6)]:List A6)) (Eq.refl v12.length) c1_ (Uf 5 37006 Jq (default:A6) v12 ([(⟨v1,v19,v24⟩:A6)]:List A6)) (Il v12 ([(⟨v1,v19,v24⟩:A6)]:List A6))) (tS h (gK (e:=.normal) (Ks Va (Le.refl _ _)))))
def mi:List iX:=[(2,mo)]
def K7(a2:D1):Option iW:=
 ((L4 a2).bind λx1=>(bif (!x1) then(some ([]:List G2)) else((Lc a2).bind λx2=>(some x2))))
theorem HI(h:K7 v6=some v21):sP 172 [(Ws v6)] [] (Z6 v21) []:=
 sG Tryz.func172 λΓ q=>gR q [1] [1] mi [] (c1 (Jg 2 Bs ((0:Int),(0:Int)))) (tB h λx1 y1 h=>tT q [1,5] [1] [(Z2 x1)] (c1 (Tg y1)) (gC h (λh=>gR q [2] [] mi [] (c1 (Jg 2 Bs ((0:Int),(0:Int)))) (Ul (⟨mi,[],[]⟩:St) (tS h (gK (e:=.ret) (Ks [] (show Le Γ _ (⟨[(2,(AV.list 2 Bs ((0:Int),(0:Int)) ([]:List G2) .none))],[],[]⟩:St) from Le.trans (Dv (st':=⟨mi,[],[]⟩) [2] [] q) (K1 (.cons AVle.untag .nil) .nil))))))) λh=>tB h λx2 y2 h=>tT q [2] [] [(XX x2)] (c1 (Vl y2)) (tS h (C1 []))))
abbrev eS:=(LR (Int×A4×Int×List An×Int×A4×List A6) (A4×Int×List An×Int×A4×List A6))
def De(a0:Ab)(a7:List J1)(i1:Int)(i21:Int):M3->Option eS:=
 λ((i35,l36,i37,l38,i39,l40,l41):M3)=>(bif (decide (i35<(((((a0.Blocks.getD i1.toNat default).Phis).getD i21.toNat default).Args).length:Int))) then(Cg (Bx i35 ((((a0.Blocks.getD i1.toNat default).Phis).getD i21.toNat default).Args).length) ((Dk ((((a0.Blocks.getD i1.toNat default).Phis).getD i21.toNat default).Bits)).bind λx49=>(Cg (Bx i35 ((((a0.Blocks.getD i1.toNat default).Phis).getD i21.toNat default).From).length) ((Em (((((a0.Blocks.getD i1.toNat default).Phis).getD i21.toNat default).From).getD i35.toNat 0) (⟨l36,i37,l38⟩:Ab) i39 l40 a7 l41).bind λx51=>((Dr (((((a0.Blocks.getD i1.toNat default).Phis).getD i21.toNat default).Args).getD i35.toNat 0) x49 x51.1 x51.2.1 x51.2.2.1 x51.2.2.2.1 a7 x51.2.2.2.2).bind λx52=>(some (.next ((Bh (i35+1)),x52.1.Params,x52.1.Ret,x52.1.Blocks,x52.2.1,x52.2.2.1,x52.2.2.2)))))))) else(some (.done (l36,i37,l38,i39,l40,l41))))
def Df(a0:Ab)(a7:List J1)(i1:Int):M3->Option eS:=
 λ((i21,l22,i23,l24,i25,l26,l27):M3)=>(bif (decide (i21<(((a0.Blocks.getD i1.toNat default).Phis).length:Int))) then(Cg (Bx i21 ((a0.Blocks.getD i1.toNat default).Phis).length) ((Ai (De a0 a7 i1 i21) ((0:Int),l22,i23,l24,i25,l26,l27)).bind (λ(l42,i43,l44,i45,l46,l47)=>(some (.next ((Bh (i21+1)),l42,i43,l44,i45,l46,l47)))))) else(some (.done (l22,i23,l24,i25,l26,l27))))
def Dg(a0:Ab)(a7:List J1)(i1:Int)(i57:Int)(x71:List QW):M3->Option eS:=
 λ((i72,l73,i74,l75,i76,l77,l78):M3)=>(bif (decide (i72<(x71.length:Int))) then(Cg (Bx i72 x71.length) (Cg (Bx i72 ((((a0.Blocks.getD i1.toNat default).Ops).getD i57.toNat default).Args).length) ((Dr (((((a0.Blocks.getD i1.toNat default).Ops).getD i57.toNat default).Args).getD i72.toNat 0) (x71.getD i72.toNat ((0:Int),(0:Int))) (⟨i1,i57⟩:Hg) (⟨l73,i74,l75⟩:Ab) i76 l77 a7 l78).bind λx87=>(some (.next ((Bh (i72+1)),x87.1.Params,x87.1.Ret,x87.1.Blocks,x87.2.1,x87.2.2.1,x87.2.2.2)))))) else(some (.done (l73,i74,l75,i76,l77,l78))))
def Dh(a0:Ab)(a7:List J1)(i1:Int):M3->Option eS:=
 λ((i57,l58,i59,l60,i61,l62,l63):M3)=>(bif (decide (i57<(((a0.Blocks.getD i1.toNat default).Ops).length:Int))) then(Cg (Bx i57 ((a0.Blocks.getD i1.toNat default).Ops).length) ((K7 (((a0.Blocks.getD i1.toNat default).Ops).getD i57.toNat default)).bind λx71=>((Ai (Dg a0 a7 i1 i57 x71) ((0:Int),l58,i59,l60,i61,l62,l63)).bind (λ(l79,i80,l81,i82,l83,l84)=>(some (.next ((Bh (i57+1)),l79,i80,l81,i82,l83,l84))))))) else(some (.done (l58,i59,l60,i61,l62,l63))))
def Di(a0:Ab)(a7:List J1):M3->Option eS:=
 λ((i1,l2,i3,l4,i5,l6,l7):M3)=>(bif (decide (i1<(a0.Blocks.length:Int))) then(Option.bind (α:=(A4×Int×List An×Int×A4×List A6)) (Cg (Bx i1 a0.Blocks.length) ((Ai (Df a0 a7 i1) ((0:Int),l2,i3,l4,i5,l6,l7)).bind (λx55=>(match x55 with|(l28,i29,l30,i31,l32,l33)=>((Ai (Dh a0 a7 i1) ((0:Int),l28,i29,l30,i31,l32,l33)).bind (λx90=>(match x90 with|(l64,i65,l66,i67,l68,l69)=>(bif (((a0.Blocks.getD i1.toNat default).End.Kind:Int)==0) then((Dk i65).bind λx92=>((Em i1 (⟨l64,i65,l66⟩:Ab) i67 l68 a7 l69).bind λx93=>((Dr ((a0.Blocks.getD i1.toNat default).End.Arg) x92 x93.1 x93.2.1 x93.2.2.1 x93.2.2.2.1 a7 x93.2.2.2.2).bind λx94=>(some (x94.1.Params,x94.1.Ret,x94.1.Blocks,x94.2.1,x94.2.2.1,x94.2.2.2))))) else(bif (((a0.Blocks.getD i1.toNat default).End.Kind:Int)==2) then((Dk (1:Int)).bind λx95=>((Em i1 (⟨l64,i65,l66⟩:Ab) i67 l68 a7 l69).bind λx96=>((Dr ((a0.Blocks.getD i1.toNat default).End.Arg) x95 x96.1 x96.2.1 x96.2.2.1 x96.2.2.2.1 a7 x96.2.2.2.2).bind λx97=>(some (x97.1.Params,x97.1.Ret,x97.1.Blocks,x97.2.1,x97.2.2.1,x97.2.2.2))))) else(some (l64,i65,l66,i67,l68,l69))))))))))) (λx98=>(match x98 with|(l14,i15,l16,i17,l18,l19)=>(some (.next ((Bh (i1+1)),l14,i15,l16,i17,l18,l19)))))) else(some (.done (l2,i3,l4,i5,l6,l7))))
def oa(a0:Ab)(i1:Int):=(a0.Blocks.getD i1.toNat default)
def ik(a7:List J1):=(mapE (λ(v_:Aj)=>((Py v_):AV)) a7)
def E9(a0:Ab)(a5:Int)(a9:A4)(a7:List J1)(a6:List A6):Option iZ:=
 ((Ai (Di a0 a7) ((0:Int),a0.Params,a0.Ret,a0.Blocks,a5,a9,a6)).bind (λ(l8,i9,l10,i11,l12,l13)=>(some ((⟨l8,i9,l10⟩:Ab),i11,l12,l13))))
theorem Pn(h:E9 v0 v1 v2 v25 v12=some v29):sP 133 [Yj] [(Z1 v0.Params v0.Ret v0.Blocks v1 v2 9100005 v12),(Z8 v12.length),(9100005,.obj (.map false .i64 (mapE (λ(v_:Aj)=>((Py v_):AV)) v25)))] (.tuple []) [(Z1 v29.1.Params v29.1.Ret v29.1.Blocks v29.2.1 v29.2.2.1 9100005 v29.2.2.2),(Z8 v29.2.2.2.length),(9100005,.obj (.map false .i64 (mapE (λ(v_:Aj)=>((Py v_):AV)) v25)))]:=
 sG Tryz.func133 λΓ q=>Ao q KC Fm (tL q h KC Fm (λu (i1,l2,i3,l4,i5,l6,l7)=>(Fn u [(18,(Z7 i1))] (KS l2 i3 l4 i5 l6 l7 l7.length))) (λu (l8,i9,l10,i11,l12,l13)=>aG Γ (.exit 0) (Wj [] Fm u [] (KS l8 i9 l10 i11 l12 l13 l13.length))) (λ⟨i1,l2,i3,l4,i5,l6,l7⟩ y h=>Ao q [0,16,17,18,19] Fm (gC h (λh=>tB h λx98 y98 h=>gJ y98 (λ(l14,i15,l16,i17,l18,l19)=>aG Γ .normal (⟨[(0,Yj),(16,(ay v0.Blocks)),(17,(SA v0.Blocks.length)),(18,(Z7 i1))],(ld l14 i15 l16 i17 l18 9100005 l19 l19.length (ik v25)),[]⟩:St)) (λy h=>tV q RC M5 h λh=>Ao q QZ M5 (tL q h QZ M5 (λu (i21,l22,i23,l24,i25,l26,l27)=>(Fn u [(26,(Z7 i21))] (KS l22 i23 l24 i25 l26 l27 l27.length))) (λu (l28,i29,l30,i31,l32,l33)=>aG Γ (.exit 2) (Wj RC M5 u [] (KS l28 i29 l30 i31 l32 l33 l33.length))) (λ⟨i21,l22,i23,l24,i25,l26,l27⟩ y h=>Ao q [0,2,3,16,17,18,24,25,26,27] M5 (gC h (λh=>tV q [0,2,3,5,16,17,18,24,25,26] Yd h λh=>Ao q XE Yd (tL q h XE Yd (λu (i35,l36,i37,l38,i39,l40,l41)=>(Fn u [(33,(Z7 i35))] (KS l36 i37 l38 i39 l40 l41 l41.length))) (λu (l42,i43,l44,i45,l46,l47)=>aG Γ (.exit 4) (Wj QZ M5 u [] (KS l42 i43 l44 i45 l46 l47 l47.length))) (λ⟨i35,l36,i37,l38,i39,l40,l41⟩ y h=>Ao q [0,2,3,5,16,17,18,24,25,26,31,32,33,34] Yd (gC h (λh=>tV q [0,2,3,5,6,7,16,17,18,24,25,26,31,32,33] Yd h λh=>tB h λx49 y49 h=>tC h λc50_ h=>tB h λx51 y51 h=>tB h λx52 y52 h=>tT q XE Yd [⟨[],[],(DA x49),[],[],[]⟩,(nQ x51.1 x51.2.1.Params x51.2.1.Ret x51.2.1.Blocks x51.2.2.1 x51.2.2.2.1 x51.2.2.2.2 x51.2.2.2.2.length (ik v25)),(lZ x52.1.Params x52.1.Ret x52.1.Blocks x52.2.1 x52.2.2.1 x52.2.2.2 x52.2.2.2.length (ik v25))] (c4 (H8 y49) c50_ (I4 y51) (G0 y52)) (Ao q XE Yd (tN h))) λh=>tS h (gO (D7 (Dv QZ M5 q))))) λx53 h=>(match x53,h with|⟨l42,i43,l44,i45,l46,l47⟩,h=>gA (Ao q QZ M5 (tN h))))) λh=>tS h (gO (D7 (Dv RC M5 q))))) λx55 h=>(match x55,h with|⟨l28,i29,l30,i31,l32,l33⟩,h=>gA (Ao q RA M5 (tL q h RA M5 (λu (i57,l58,i59,l60,i61,l62,l63)=>(Fn u [(56,(Z7 i57))] (KS l58 i59 l60 i61 l62 l63 l63.length))) (λu (l64,i65,l66,i67,l68,l69)=>aG Γ (.exit 6) (Wj RC M5 u [] (KS l64 i65 l66 i67 l68 l69 l69.length))) (λ⟨i57,l58,i59,l60,i61,l62,l63⟩ y h=>Ao q [0,2,3,16,17,18,54,55,56,57] M5 (gC h (λh=>tV q [0,2,3,8,9,16,17,18,54,55,56] JX h λh=>tB h λx71 y71 h=>tT q XD JX [(XX x71)] (c1 (HI y71)) (tL q h XD JX (λu (i72,l73,i74,l75,i76,l77,l78)=>(Fn u [(64,(Z7 i72))] (KS l73 i74 l75 i76 l77 l78 l78.length))) (λu (l79,i80,l81,i82,l83,l84)=>aG Γ (.exit 8) (Wj RA M5 u [] (KS l79 i80 l81 i82 l83 l84 l84.length))) (λ⟨i72,l73,i74,l75,i76,l77,l78⟩ y h=>Ao q [0,2,3,8,9,16,17,18,54,55,56,62,63,64,65] JX (gC h (λh=>tV q [0,2,3,8,9,10,11,16,17,18,54,55,56,62,63,64] [3,9,11,30000,37006,9100005] h λh=>tC h λc86_ h=>tB h λx87 y87 h=>tT q XD JX [(lZ x87.1.Params x87.1.Ret x87.1.Blocks x87.2.1 x87.2.2.1 x87.2.2.2 x87.2.2.2.length (ik v25))] (c2 c86_ (G0 y87)) (Ao q XD JX (tN h))) λh=>tS h (gO (D7 (Dv RA M5 q))))) λx88 h=>(match x88,h with|⟨l79,i80,l81,i82,l83,l84⟩,h=>gA (Ao q RA M5 (tN h))))) λh=>tS h (gO (D7 (Dv RC M5 q))))) λx90 h=>(match x90,h with|⟨l64,i65,l66,i67,l68,l69⟩,h=>gA (tW q [0,2,3,16,17,18,84] M5 [0,2,3,16,17,18,84,85] M5 (gC h (λh=>tB h λx92 y92 h=>tB h λx93 y93 h=>tB h λx94 y94 h=>tT q KC Fm [⟨[],[],(DA x92),[],[],[]⟩,(nQ x93.1 x93.2.1.Params x93.2.1.Ret x93.2.1.Blocks x93.2.2.1 x93.2.2.2.1 x93.2.2.2.2 x93.2.2.2.2.length (ik v25)),(lZ x94.1.Params x94.1.Ret x94.1.Blocks x94.2.1 x94.2.2.1 x94.2.2.2 x94.2.2.2.length (ik v25))] (c3 (H8 y92) (I4 y93) (G0 y94)) (tS h (gK (D7 M7)))) λh=>Ao q [0,2,3,16,17,18,101] M5 (gC h (λh=>tB h λx95 y95 h=>tB h λx96 y96 h=>tB h λx97 y97 h=>tT q KC Fm [⟨[],[],(DA x95),[],[],[]⟩,(nQ x96.1 x96.2.1.Params x96.2.1.Ret x96.2.1.Blocks x96.2.2.1 x96.2.2.2.1 x96.2.2.2.2 x96.2.2.2.2.length (ik v25)),(lZ x97.1.Params x97.1.Ret x97.1.Blocks x97.2.1 x97.2.2.1 x97.2.2.2 x97.2.2.2.length (ik v25))] (c3 (H8 y95) (I4 y96) (G0 y97)) (tS h (gK (D7 M7)))) λh=>tS h (gK (D7 (Dv KC Fm q)))))))))))) (match x98,h with|⟨l14,i15,l16,i17,l18,l19⟩,h=>gA (Ao q KC Fm (tN h)))) λh=>tS h (gO (D7 (Dv [] Fm q))))) λx100 h=>(match x100,h with|⟨l8,i9,l10,i11,l12,l13⟩,h=>jA (λst' hl101=>tS h (gK (e:=.normal) (Ks Va hl101)))))
def Hl(aP:A6)(a0:Ab)(a5:Int)(a9:A4)(a7:List J1)(a6:List A6):Option T0:=
 (some ((B1 a7 aP.v),a0,a5,a9,a6))
variable{v30:A6}
theorem Pq(h:Hl v30 v0 v1 v2 v25 v12=some v23):sP 134 [Yj,(.agg (Jq v30))] [(Z1 v0.Params v0.Ret v0.Blocks v1 v2 9100005 v12),(Z8 v12.length),(9100005,.obj (.map false .i64 (mapE (λ(v_:Aj)=>((Py v_):AV)) v25)))] (.bool v23.1) [(Z1 v23.2.1.Params v23.2.1.Ret v23.2.1.Blocks v23.2.2.1 v23.2.2.2.1 9100005 v23.2.2.2.2),(Z8 v23.2.2.2.2.length),(9100005,.obj (.map false .i64 (mapE (λ(v_:Aj)=>((Py v_):AV)) v25)))]:=
 sG Tryz.func134 λΓ q=>Ao q V3 M5 (gR q [6] Fm [(14,(.tuple [(io v25 v30.v),(.bool (B1 v25 v30.v))]))] [] (c1 (show(AVle (.tuple [mget (.agg [Ot,Ot,Ot,Ot]) (mapE (λ(v_:Aj)=>((Py v_):AV)) v25) v30.v,.bool (B1 (mapE (λ(v_:Aj)=>((Py v_):AV)) v25) v30.v)]) (.tuple [(io v25 v30.v),(.bool (B1 v25 v30.v))])) from(Xk (f:=(λ(v_:Aj)=>((Py v_):AV))) (l:=v25) (AVle.refl _) rfl))) (Ao q [4] Fm (tS h (C1 Va))))
def Iu(aP:A6)(a0:Ab)(a5:Int)(a9:A4)(a7:List J1)(a6:List A6):Option T0:=
 (some (((((mget (default:Aj) a7 aP.v).shape.1:Int)==aP.shape.1)&&((((mget (default:Aj) a7 aP.v).shape.2:Int)==aP.shape.2)&&true)),a0,a5,a9,a6))
theorem Sl(h:Iu v30 v0 v1 v2 v25 v12=some v23):sP 135 [Yj,(.agg (Jq v30))] [(Z1 v0.Params v0.Ret v0.Blocks v1 v2 9100005 v12),(Z8 v12.length),(9100005,.obj (.map false .i64 (mapE (λ(v_:Aj)=>((Py v_):AV)) v25)))] (.bool v23.1) [(Z1 v23.2.1.Params v23.2.1.Ret v23.2.1.Blocks v23.2.2.1 v23.2.2.2.1 9100005 v23.2.2.2.2),(Z8 v23.2.2.2.2.length),(9100005,.obj (.map false .i64 (mapE (λ(v_:Aj)=>((Py v_):AV)) v25)))]:=
 sG Tryz.func135 λΓ q=>Ao q V3 M5 (gR q [4] Fm [(11,(io v25 v30.v))] [] (c1 (show(AVle (mget (.agg [Ot,Ot,Ot,Ot]) (mapE (λ(v_:Aj)=>((Py v_):AV)) v25) v30.v) (io v25 v30.v)) from(CM (f:=(λ(v_:Aj)=>((Py v_):AV))) (l:=v25) (AVle.refl _) rfl))) (tS h (C1 Va)))
def Bz(aa0:A4)(a8:Int):Int->Option (LR Int (Unit ⊕ Int)):=
 λ(i1:Int)=>(bif (decide (i1<(aa0.length:Int))) then(Cg (Bx i1 aa0.length) (bif (a8==(aa0.getD i1.toNat 0)) then(some (.done (.inr i1))) else(some (.next (Bh (i1+1)))))) else(some (.done (.inl ()))))
def Qm(Γ:G5)(aa0:A4)(a8:Int)(r:Int):Exit->St->Prop:=fK Tryz.prog Γ Tryz.f176.results.toList [] (.int .i64 r) []
def Ej(aa0:A4)(a8:Int):Option Int:=
 ((Ai (Bz aa0 a8) (0:Int)).bind (λx3=>(match x3 with|(.inl _)=>(some (-1:Int))|(.inr r5)=>(some r5))))
theorem P6(h:Ej v2 v1=some v11):sP 176 [(Qj v2),(Z7 v1)] [] (.int .i64 v11) []:=
 sG Tryz.func176 λΓ q=>tW q Hr [] [0,1,7,8] [] (tL q h [0,1,7,8] [] (λu i1=>(Fn u [(8,(Z7 i1))] [])) (λu x_=>match x_ with|(.inl _)=>aG Γ (.exit 0) (⟨[],[],[]⟩:St)|(.inr r_)=>aR (Qm Γ v2 v1 r_)) (λi1 y h=>Ao q [0,1,7,8,9] [] (gC h (λh=>Ao q [0,1,5,7,8] [] (tV q [0,1,5,7,8,16] [] h λh=>gC h (λh=>Ao q [4] [] (tS h (gO (Sh (Ks [] (Le.refl _ _)))))) λh=>Ao q [0,1,7,8] [] (tN h))) λh=>tS h (gO (D7 (Dv [] [] q))))) λx3 h=>(match x3,h with | .inl _,h=>gA (Ao q [4] [] (tS h (C1 []))) | .inr r5,h=>Wa (λst' hk=>tS h (gK hk))))
def Ig(aC:A4)(aM:Int):Option Bool:=
 (some (bif (decide ((0:Int)<=aM)) then(decide (aM<(aC.length:Int))) else false))
theorem Tc(h:Ig v2 v1=some v3):sP 229 [(Qj v2),(Z7 v1)] [] (.bool v3) []:=
 sG Tryz.func229 λΓ q=>Ao q Hr [] (tU q [4] [] (OH ((decide ((0:Int)<=v1))==true) (c1 (M6 (decide ((0:Int)<=v1))))) (tS h (C1 [])))
def Cw(aC:A4)(aa3:Int)(aV:Int):UP->Option (LR (Int×A4) (A4 ⊕ (Bool×A4))):=
 λ((i1,l2):UP)=>(bif (i1 !=aV) then(Cg (Bx i1 l2.length) (bif ((l2.getD i1.toNat 0)!=0) then(Cg (Bx i1 l2.length) (some (.done (.inr (((l2.getD i1.toNat 0)!=(Bh (aa3+1))),l2))))) else(Cg (Bx i1 aC.length) ((Ig aC (aC.getD i1.toNat 0)).bind λx7=>(bif (!x7) then(some (.done (.inr (false,l2)))) else(Cg (Bx i1 l2.length) (Cg (Bx i1 aC.length) (some (.next ((aC.getD i1.toNat 0),(l2.set i1.toNat (Bh (aa3+1))))))))))))) else(some (.done (.inl l2))))
def MZ(Γ:G5)(aC:A4)(aa8:A4)(aa3:Int)(aV:Int)(r:eQ):Exit->St->Prop:=fK Tryz.prog Γ Tryz.f228.results.toList [(Z4 34001 aa8)] (.bool r.1) [(Z4 34001 r.2)]
def O3(aC:A4)(aa8:A4)(aa3:Int)(aV:Int):Option eQ:=
 ((Ai (Cw aC aa3 aV) (aa3,aa8)).bind (λx10=>(match x10 with|(.inl l3)=>(some (true,l3))|(.inr r12)=>(some r12))))
variable{v31:eQ}
theorem LY(h:O3 v2 v17 v1 v11=some v31):sP 228 [(Qj v2),(.vsl 34001 v17.length),(Z7 v1),(Z7 v11)] [(Z4 34001 v17)] (.bool v31.1) [(Z4 34001 v31.2)]:=
 sG Tryz.func228 λΓ q=>tW q [0,1,2,3] [34001] [0,1,2,3,9] [34001] (Ao q XN [34001] (tL q h XN [34001] (λu (i1,l2)=>(Fn u [(1,(.vsl 34001 l2.length)),(10,(Z7 i1))] [(Z4 34001 l2)])) (λu x_=>match x_ with|(.inl l3)=>aG Γ (.exit 0) (⟨[],[(Z4 34001 l3)],[]⟩:St)|(.inr r_)=>aR (MZ Γ v2 v17 v1 v11 r_)) (λ⟨i1,l2⟩ y h=>Ao q [0,1,3,9,10,16] [34001] (gC h (λh=>tC h λc4_ h=>tU q [0,1,3,9,10,25] [34001] (c2 c4_ (Eq.refl l2.length)) (gC h (λh=>tC h λc5_ h=>tU q [8] [34001] (c2 c5_ (Eq.refl l2.length)) (tS h (gO (Sh (Ks UY (Le.refl _ _)))))) λh=>tC h λc6_ h=>tB h λx7 y7 h=>tT q [0,1,3,9,10,38] [34001] [(Z2 x7)] (c2 c6_ (Tc y7)) (gC h (λh=>Ao q [8] [34001] (tS h (gO (Sh (Ks UY (Le.refl _ _)))))) λh=>tC h λc8_ h=>tU q XN [34001] (c2 c8_ (Eq.refl l2.length)) (J3 (Le.trans (Ly 34001 (show ∀ k_,k_<l2.length->AVleL ((λi_=>AV.eraseAll (λn_=>Bl n_ [34001]) ((I8 (λi=>Az (l2.getD i 0)) i1.toNat 0 [(.int .i64 (Bh (v1+1)))]) i_)) k_) ((λi=>Az ((l2.set i1.toNat (Bh (v1+1))).getD i 0)) k_) from(Cl (Ib ..).symm (λk_ hk_=>(B8 (AV.eraseAll (λn_=>Bl n_ [34001])) ((Ml (λ_ _=>rfl) (Oz c8_) rfl) k_ hk_)).trans rfl)))) (S6 (λ(k_:Nat) u=>(Fn u [(1,(.vsl 34001 k_))] [(34001,.arr 1 3 k_ (λi=>Az ((l2.set i1.toNat (Bh (v1+1))).getD i 0)))])) (show l2.length=(l2.set i1.toNat (Bh (v1+1))).length from(Ib ..).symm))) (tV q XN [34001] h λh=>tN h))))) λh=>tS h (gO (D7 (Dv [] [34001] q))))) λx10 h=>(match x10,h with | .inl l3,h=>gA (Ao q [8] [34001] (tS h (C1 UY))) | .inr r12,h=>Wa (λst' hk=>tS h (gK hk)))))
def Eo(aC:A4)(x1:Int):UP->Option (LR (Int×A4) (Unit ⊕ Bool)):=
 λ((i3,l4):UP)=>(bif (decide (i3<(aC.length:Int))) then(Cg (Bx i3 aC.length) ((bif (((aC.getD i3.toNat 0)!=-2)==true) then O3 aC l4 i3 x1 else some (false,[])).bind λx6=>(Cg ((((aC.getD i3.toNat 0)!=-2)==true)=true->(l4.length=x6.2.length)) (bif (bif ((aC.getD i3.toNat 0)!=-2) then(!x6.1) else false) then(some (.done (.inr false))) else(some (.next ((Bh (i3+1)),(bif (((aC.getD i3.toNat 0)!=-2)==true) then x6.2 else l4)))))))) else(some (.done (.inl ()))))
def KJ(Γ:G5)(aC:A4)(r:Bool):Exit->St->Prop:=fK Tryz.prog Γ Tryz.f216.results.toList [] (.bool r) []
def fC(aC:A4)(i3:Int):=(((aC.getD i3.toNat 0)!=-2)==true)
def Ni(aC:A4):Option Bool:=
 ((Ej aC (-1:Int)).bind λx1=>(bif (decide (x1<0)) then(some false) else(Cg (0<=(aC.length:Int)/\(aC.length:Int)<=(aC.length:Int)/\(aC.length:Int)<=(room:Int)) ((Ai (Eo aC x1) ((0:Int),(List.replicate (aC.length:Int).toNat (0:Int)))).bind (λx8=>(match x8 with|(.inl _)=>(some true)|(.inr r10)=>(some r10)))))))
theorem HD(h:Ni v2=some v3):sP 216 [(Qj v2)] [] (.bool v3) []:=
 sG Tryz.func216 λΓ q=>Ao q [0] [] (tB h λx1 y1 h=>tT q V3 [] [(XZ x1)] (c1 (P6 y1)) (Ao q [0,3,9] [] (gC h (λh=>Ao q [2] [] (tS h (C1 []))) λh=>tV q [0,3,4] [12] h λh=>by exact J3 (Le.trans (Ly 12 (show ∀ k_,k_<((v2.length:Int).toNat)->AVleL ((λi_=>AV.eraseAll (λn_=>Bl n_ [12]) ((λ_=>[Ot]) i_)) k_) ((λi=>Az ((List.replicate (v2.length:Int).toNat (0:Int)).getD i 0)) k_) from(λk hk=>Xg (e:=Az) (d:=(0:Int)) (.cons (AVle.refl _) .nil) _ k (Xz hk)))) (S6 (λ(k_:Nat) u=>(Fn u [(4,(.vsl 12 k_))] [(12,.arr 1 3 k_ (λi=>Az ((List.replicate (v2.length:Int).toNat (0:Int)).getD i 0)))])) (show(v2.length:Int).toNat=(List.replicate (v2.length:Int).toNat (0:Int)).length from(X7 ..).symm))) (Ao q UW [12] (tL q h UW [12] (λu (i3,l4)=>(Fn u [(4,(.vsl 12 l4.length)),(15,(Z7 i3))] [(Z4 12 l4)])) (λu x_=>match x_ with|(.inl _)=>aG Γ (.exit 0) (⟨[],[],[]⟩:St)|(.inr r_)=>aR (KJ Γ v2 r_)) (λ⟨i3,l4⟩ y h=>Ao q [0,3,4,14,15,16] [12] (gC h (λh=>Ao q [0,3,4,5,14,15] [12] (tC h λc5_ h=>tB h λx6 y6 h=>tC h λc7_ h=>tT q [0,3,4,14,15,30] [12] [⟨[(12,34001)],[],(.bool x6.1),[(Z4 34001 x6.2)],[],[]⟩] (ci c5_ (kz (fC v2 i3) (c3 (λ(hg:(fC v2 i3)=true)=>(LY (Bk hg y6))) (gI (fC v2 i3)) (M6 ((v2.getD i3.toNat 0)!=-2))))) (J3 (Le.trans (Ly 12 (show ∀ k_,k_<(bif (fC v2 i3) then x6.2.length else l4.length)->AVleL ((λi_=>AV.eraseAll (λn_=>Bl n_ [12]) ((λi=>bif (fC v2 i3) then(λi=>Az (x6.2.getD i 0)) i else(λi=>Az (l4.getD i 0)) i) i_)) k_) ((λi=>Az ((bif (fC v2 i3) then x6.2 else l4).getD i 0)) k_) from(Cl VS (λk_ hk_=>(B8 (AV.eraseAll (λn_=>Bl n_ [12])) ((λ_ _=>fj) k_ hk_)).trans rfl)))) (Le.trans (S6 (λ(k_:Nat) u=>(Fn u [] [(12,.arr 1 3 k_ (λi=>Az ((bif (fC v2 i3) then x6.2 else l4).getD i 0)))])) (show(bif (fC v2 i3) then x6.2.length else l4.length)=(bif (fC v2 i3) then x6.2 else l4).length from VS)) (S6 (λ(k_:Nat) u=>(Fn u [(4,(.vsl 12 k_))] [])) (show l4.length=(bif (fC v2 i3) then x6.2 else l4).length from(fk c7_))))) (gC h (λh=>Ao q [2] [] (tS h (gO (Sh (Ks [] (Le.refl _ _)))))) λh=>Ao q UW [12] (tN h))))) λh=>tS h (gO (D7 (Dv [] [] q))))) λx8 h=>(match x8,h with | .inl _,h=>gA (Ao q [2] [] (tS h (C1 []))) | .inr r10,h=>Wa (λst' hk=>tS h (gK hk))))))))
def Iw(aC:A4)(aM:Int):Option Bool:=
 ((Ig aC aM).bind λx1=>(Cg ((x1==true)=true->(Bx aM aC.length)) (some (bif x1 then((aC.getD aM.toNat 0)!=-2) else false))))
theorem R6(h:Iw v2 v1=some v3):sP 217 [(Qj v2),(Z7 v1)] [] (.bool v3) []:=
 sG Tryz.func217 λΓ q=>Ao q Hr [] (tB h λx1 y1 h=>tC h λc2_ h=>tT q [4] [] [(Z2 x1)] (ci (Tc y1) (Pz (x1==true) (ci c2_ (Pz (x1==true) (c1 (M6 x1)))))) (tS h (C1 [])))
def O2(aC:A4)(aJ:Int)(aK:Int):Option Bool:=
 ((Ni aC).bind λx1=>((bif (x1==true) then Iw aC aJ else some false).bind λx2=>((bif ((bif x1 then x2 else false)==true) then Iw aC aK else some false).bind λx3=>(some (bif (bif x1 then x2 else false) then x3 else false)))))
theorem LX(h:O2 v2 v1 v11=some v3):sP 191 [(Qj v2),(Z7 v1),(Z7 v11)] [] (.bool v3) []:=
 sG Tryz.func191 λΓ q=>Ao q [0,1,2] [] (tB h λx1 y1 h=>tB h λx2 y2 h=>tB h λx3 y3 h=>tT q [6] [] [(Z2 x1),(Z2 x2),(Z2 x3)] (ci (HD y1) (Pz (x1==true) (YP (λ(hg:(x1==true)=true)=>(R6 (Bk hg y2))) (M6 x1) (Pz ((bif x1 then x2 else false)==true) (c2 (λ(hg:((bif x1 then x2 else false)==true)=true)=>(R6 (Bk hg y3))) (M6 (bif x1 then x2 else false))))))) (tS h (C1 [])))
def Re(aC:A4)(aJ:Int)(aK:Int):Option Bool:=
 ((O2 aC aJ aK).bind λx1=>((bif (x1==true) then L3 aC aJ aK else some (0:Int)).bind λx2=>(some (bif x1 then(x2==aJ) else false))))
theorem PK(h:Re v2 v1 v11=some v3):sP 173 [(Qj v2),(Z7 v1),(Z7 v11)] [] (.bool v3) []:=
 sG Tryz.func173 λΓ q=>Ao q [0,1,2] [] (tB h λx1 y1 h=>tB h λx2 y2 h=>tT q [6] [] [(Z2 x1),(XZ x2)] (ci (LX y1) (OH (x1==true) (ci (λ(hg:(x1==true)=true)=>(AR (Bk hg y2))) (Pz (x1==true) (c1 (M6 x1)))))) (tS h (C1 [])))
def Fb(aP:A6)(a0:Ab)(a5:Int)(a9:A4)(a7:List J1)(a6:List A6):Option T0:=
 (bif (((mget (default:Aj) a7 aP.v).place.block:Int)==aP.place.block) then(some ((decide (((mget (default:Aj) a7 aP.v).place.at_:Int)<aP.place.at_)),a0,a5,a9,a6)) else((Re a9 ((mget (default:Aj) a7 aP.v).place.block) aP.place.block).bind λx1=>(some (x1,a0,a5,a9,a6))))
theorem Pp(h:Fb v30 v0 v1 v2 v25 v12=some v23):sP 136 [Yj,(.agg (Jq v30))] [(Z1 v0.Params v0.Ret v0.Blocks v1 v2 9100005 v12),(Z8 v12.length),(9100005,.obj (.map false .i64 (mapE (λ(v_:Aj)=>((Py v_):AV)) v25)))] (.bool v23.1) [(Z1 v23.2.1.Params v23.2.1.Ret v23.2.1.Blocks v23.2.2.1 v23.2.2.2.1 9100005 v23.2.2.2.2),(Z8 v23.2.2.2.2.length),(9100005,.obj (.map false .i64 (mapE (λ(v_:Aj)=>((Py v_):AV)) v25)))]:=
 sG Tryz.func136 λΓ q=>Ao q V3 M5 (gR q [0,3,5] Yd [(12,(io v25 v30.v))] [] (c1 (show(AVle (mget (.agg [Ot,Ot,Ot,Ot]) (mapE (λ(v_:Aj)=>((Py v_):AV)) v25) v30.v) (io v25 v30.v)) from(CM (f:=(λ(v_:Aj)=>((Py v_):AV))) (l:=v25) (AVle.refl _) rfl))) (Ao q [0,3,5,19] Yd (gC h (λh=>Ao q [4] Fm (tS h (C1 Va))) λh=>tB h λx1 y1 h=>tT q [4] Fm [(Z2 x1)] (c1 (PK y1)) (tS h (C1 Va)))))
abbrev ka:=(LR (Int×A4×Int×List An×Int×A4×List A6) ((A4×Int×List An×Int×A4×List A6) ⊕ (A4×Int×List An×Int×A4×List A6)))
def C8(a7:List J1)(x8:iZ):M3->Option ka:=
 λ((i9,l10,i11,l12,i13,l14,l15):M3)=>(bif (decide (i9<(x8.2.2.2.length:Int))) then(Cg (Bx i9 x8.2.2.2.length) ((Hl (x8.2.2.2.getD i9.toNat default) (⟨l10,i11,l12⟩:Ab) i13 l14 a7 l15).bind λx29=>(bif (!x29.1) then(some (.done (.inr (x29.2.1.Params,x29.2.1.Ret,x29.2.1.Blocks,x29.2.2.1,x29.2.2.2.1,x29.2.2.2.2)))) else(some (.next ((Bh (i9+1)),x29.2.1.Params,x29.2.1.Ret,x29.2.1.Blocks,x29.2.2.1,x29.2.2.2.1,x29.2.2.2.2)))))) else(some (.done (.inl (l10,i11,l12,i13,l14,l15)))))
def C9(a7:List J1)(l21:List A6):M3->Option ka:=
 λ((i32,l33,i34,l35,i36,l37,l38):M3)=>(bif (decide (i32<(l21.length:Int))) then(Cg (Bx i32 l21.length) ((Iu (l21.getD i32.toNat default) (⟨l33,i34,l35⟩:Ab) i36 l37 a7 l38).bind λx52=>(bif (!x52.1) then(some (.done (.inr (x52.2.1.Params,x52.2.1.Ret,x52.2.1.Blocks,x52.2.2.1,x52.2.2.2.1,x52.2.2.2.2)))) else(some (.next ((Bh (i32+1)),x52.2.1.Params,x52.2.1.Ret,x52.2.1.Blocks,x52.2.2.1,x52.2.2.2.1,x52.2.2.2.2)))))) else(some (.done (.inl (l33,i34,l35,i36,l37,l38)))))
def Da(a7:List J1)(l44:List A6):M3->Option ka:=
 λ((i55,l56,i57,l58,i59,l60,l61):M3)=>(bif (decide (i55<(l44.length:Int))) then(Cg (Bx i55 l44.length) ((Fb (l44.getD i55.toNat default) (⟨l56,i57,l58⟩:Ab) i59 l60 a7 l61).bind λx75=>(bif (!x75.1) then(some (.done (.inr (x75.2.1.Params,x75.2.1.Ret,x75.2.1.Blocks,x75.2.2.1,x75.2.2.2.1,x75.2.2.2.2)))) else(some (.next ((Bh (i55+1)),x75.2.1.Params,x75.2.1.Ret,x75.2.1.Blocks,x75.2.2.1,x75.2.2.2.1,x75.2.2.2.2)))))) else(some (.done (.inl (l56,i57,l58,i59,l60,l61)))))
def Kk :M3->Option (LR (Int×A4×Int×List An×Int×A4×List A6) (Int×Ab×Int×A4×List A6)):=
 λ(s_:M3)=>match s_ with|(i1,l2,i3,l4,i5,l6,l7)=>(some (.done (i1,(⟨l2,i3,l4⟩:Ab),i5,l6,l7)))
def Su(Γ:G5)(a0:Ab)(a5:Int)(a9:A4)(a7:List J1)(a6:List A6)(r:ao):Exit->St->Prop:=fK Tryz.prog Γ Tryz.f95.results.toList [(Z1 a0.Params a0.Ret a0.Blocks a5 a9 9100005 a6),(Z8 a6.length),(9100005,.obj (.map false .i64 (mapE (λ(v_:Aj)=>((Py v_):AV)) a7)))] (Z7 r.1) [(Z1 r.2.1.Params r.2.1.Ret r.2.1.Blocks r.2.2.1 r.2.2.2.1 9100005 r.2.2.2.2),(Z8 r.2.2.2.2.length),(9100005,.obj (.map false .i64 (mapE (λ(v_:Aj)=>((Py v_):AV)) a7)))]
def lW(a7:List J1):=(mapE (λ(v_:Aj)=>((Py v_):AV)) a7)
def Gw(a0:Ab)(a5:Int)(a9:A4)(a7:List J1)(a6:List A6):Option ao:=
 ((Pu (S:=M3) (X:=ao) ((E9 a0 a5 a9 a7 a6).bind λx8=>((Ai (C8 a7 x8) ((0:Int),x8.1.Params,x8.1.Ret,x8.1.Blocks,x8.2.1,x8.2.2.1,x8.2.2.2)).bind (λx30=>(match x30 with|(.inl (l16,i17,l18,i19,l20,l21))=>((Ai (C9 a7 l21) ((0:Int),l16,i17,l18,i19,l20,l21)).bind (λx53=>(match x53 with|(.inl (l39,i40,l41,i42,l43,l44))=>((Ai (Da a7 l44) ((0:Int),l39,i40,l41,i42,l43,l44)).bind (λx76=>(match x76 with|(.inl (l62,i63,l64,i65,l66,l67))=>(some (.done ((0:Int),(⟨l62,i63,l64⟩:Ab),i65,l66,l67)))|(.inr (l68,i69,l70,i71,l72,l73))=>(some (.next ((7:Int),l68,i69,l70,i71,l72,l73))))))|(.inr (l45,i46,l47,i48,l49,l50))=>(some (.next ((6:Int),l45,i46,l47,i48,l49,l50))))))|(.inr (l22,i23,l24,i25,l26,l27))=>(some (.next ((7:Int),l22,i23,l24,i25,l26,l27))))))) Kk).bind (λx81=>(some x81)))
theorem So(h:Gw v0 v1 v2 v25 v12=some v13):sP 95 [Yj] [(Z1 v0.Params v0.Ret v0.Blocks v1 v2 9100005 v12),(Z8 v12.length),(9100005,.obj (.map false .i64 (mapE (λ(v_:Aj)=>((Py v_):AV)) v25)))] (Z7 v13.1) [(Z1 v13.2.1.Params v13.2.1.Ret v13.2.1.Blocks v13.2.2.1 v13.2.2.2.1 9100005 v13.2.2.2.2),(Z8 v13.2.2.2.2.length),(9100005,.obj (.map false .i64 (mapE (λ(v_:Aj)=>((Py v_):AV)) v25)))]:=
 sG Tryz.func95 λΓ q=>Ao q [0] Fm (tB h λx81 y81 h=>gS y81 (λ(s_:M3)=>match s_ with|(i1,l2,i3,l4,i5,l6,l7)=>0) (λ(s_:M3)=>match s_ with|(i1,l2,i3,l4,i5,l6,l7)=>(⟨[(4,(Z7 i1))],(ld l2 i3 l4 i5 l6 9100005 l7 l7.length (lW v25)),[]⟩:St)) (λr_=>aR (Su Γ v0 v1 v2 v25 v12 r_)) (λy h=>tB h λx8 y8 h=>tT q [0] Fm [(lZ x8.1.Params x8.1.Ret x8.1.Blocks x8.2.1 x8.2.2.1 x8.2.2.2 x8.2.2.2.length (lW v25))] (c1 (Pn y8)) (tW q V3 M5 V3 M5 (Ao q V0 Fm (gU 3 (Ao q XP Fm (ZB true (tU q VF Pv (c1 (show(Bx (0:Int) 3) from(by decide))) (tW q UX Pv Ye Pv (tL q h Ye Pv (λu (i9,l10,i11,l12,i13,l14,l15)=>(Fn u [(32,(Z7 i9))] (KS l10 i11 l12 i13 l14 l15 l15.length))) (λu x_=>match x_ with|(.inl (l16,i17,l18,i19,l20,l21))=>aG Γ (.exit 2) (Wj V0 Fm u [] (KS l16 i17 l18 i19 l20 l21 l21.length))|(.inr (l22,i23,l24,i25,l26,l27))=>aG Γ (.goto 0) (Wj [4] Fm u [] (KS l22 i23 l24 i25 l26 l27 l27.length))) (λ⟨i9,l10,i11,l12,i13,l14,l15⟩ y h=>Ao q ea Pv (gC h (λh=>tV q ed eg h λh=>tB h λx29 y29 h=>tT q eb Pv [(nR x29.1 x29.2.1.Params x29.2.1.Ret x29.2.1.Blocks x29.2.2.1 x29.2.2.2.1 x29.2.2.2.2 x29.2.2.2.2.length (lW v25))] (c1 (Pq y29)) (gC h (λh=>tS h (gO (D7 (Dv [4] Fm q)))) λh=>Ao q Ye Pv (tN h))) λh=>tS h (gO (D7 (Dv V0 Fm q))))) λx30 h=>(match x30,h with | .inl ⟨l16,i17,l18,i19,l20,l21⟩,h=>gA (tW q V0 Fm XP Fm (ZB true (tU q VF Pv (c1 (show(Bx (1:Int) 3) from(by decide))) (tW q UX Pv Ye Pv (tL q h Ye Pv (λu (i32,l33,i34,l35,i36,l37,l38)=>(Fn u [(32,(Z7 i32))] (KS l33 i34 l35 i36 l37 l38 l38.length))) (λu x_=>match x_ with|(.inl (l39,i40,l41,i42,l43,l44))=>aG Γ (.exit 2) (Wj V0 Fm u [] (KS l39 i40 l41 i42 l43 l44 l44.length))|(.inr (l45,i46,l47,i48,l49,l50))=>aG Γ (.goto 0) (Wj [4] Fm u [] (KS l45 i46 l47 i48 l49 l50 l50.length))) (λ⟨i32,l33,i34,l35,i36,l37,l38⟩ y h=>Ao q ea Pv (gC h (λh=>tV q ed eg h λh=>tB h λx52 y52 h=>tT q eb Pv [(nR x52.1 x52.2.1.Params x52.2.1.Ret x52.2.1.Blocks x52.2.2.1 x52.2.2.2.1 x52.2.2.2.2 x52.2.2.2.2.length (lW v25))] (c1 (Sl y52)) (gC h (λh=>tS h (gO (D7 (Dv [4] Fm q)))) λh=>Ao q Ye Pv (tN h))) λh=>tS h (gO (D7 (Dv V0 Fm q))))) λx53 h=>(match x53,h with | .inl ⟨l39,i40,l41,i42,l43,l44⟩,h=>gA (tW q V0 Fm XP Fm (ZB true (tU q VF Pv (c1 (show(Bx (2:Int) 3) from(by decide))) (tW q UX Pv Ye Pv (tL q h Ye Pv (λu (i55,l56,i57,l58,i59,l60,l61)=>(Fn u [(32,(Z7 i55))] (KS l56 i57 l58 i59 l60 l61 l61.length))) (λu x_=>match x_ with|(.inl (l62,i63,l64,i65,l66,l67))=>aG Γ (.exit 2) (Wj V0 Fm u [] (KS l62 i63 l64 i65 l66 l67 l67.length))|(.inr (l68,i69,l70,i71,l72,l73))=>aG Γ (.goto 0) (Wj [4] Fm u [] (KS l68 i69 l70 i71 l72 l73 l73.length))) (λ⟨i55,l56,i57,l58,i59,l60,l61⟩ y h=>Ao q ea Pv (gC h (λh=>tV q ed eg h λh=>tB h λx75 y75 h=>tT q eb Pv [(nR x75.1 x75.2.1.Params x75.2.1.Ret x75.2.1.Blocks x75.2.2.1 x75.2.2.2.1 x75.2.2.2.2 x75.2.2.2.2.length (lW v25))] (c1 (Pp y75)) (gC h (λh=>tS h (gO (D7 (Dv [4] Fm q)))) λh=>Ao q Ye Pv (tN h))) λh=>tS h (gO (D7 (Dv V0 Fm q))))) λx76 h=>(match x76,h with | .inl ⟨l62,i63,l64,i65,l66,l67⟩,h=>gA (tW q V0 Fm XP Fm (ZB false (Ao q [2] Fm (tS h (jB (Sh (Ks Va (Le.refl _ _)))))))) | .inr ⟨l68,i69,l70,i71,l72,l73⟩,h=>jA (λst' hl78=>tS h (gD (Le.trans hl78 M7))))))))) | .inr ⟨l45,i46,l47,i48,l49,l50⟩,h=>jA (λst' hl79=>tS h (gD (Le.trans hl79 M7))))))))) | .inr ⟨l22,i23,l24,i25,l26,l27⟩,h=>jA (λst' hl80=>tS h (gD (Le.trans hl80 M7))))))))))))) (λ⟨i1,l2,i3,l4,i5,l6,l7⟩ y h=>Ao q [2] Fm (tS h (jB (Sh (Ks Va (Le.refl _ _)))))) (Wa (λst' hk=>tS h (gK hk))))
def lX:=(λ(v_:Aj)=>((Py v_):AV))
def n5(x1:ao):List UO:=(Z3 x1.2.1.Params x1.2.1.Ret x1.2.1.Blocks x1.2.2.1 x1.2.2.2.1 x1.2.2.2.2 x1.2.2.2.2.length)
def n6(x2:ao):List UO:=(Z3 x2.2.1.Params x2.2.1.Ret x2.2.1.Blocks x2.2.2.1 x2.2.2.2.1 x2.2.2.2.2 x2.2.2.2.2.length)
def n7(x3:ao):List UO:=(Z3 x3.2.1.Params x3.2.1.Ret x3.2.1.Blocks x3.2.2.1 x3.2.2.2.1 x3.2.2.2.2 x3.2.2.2.2.length)
def Ge(a0:Ab)(a5:Int)(a9:A4)(a6:List A6):Option UQ:=
 ((Gv a0 a5 a9 a6).bind λx1=>(bif (x1.1 !=0) then(some (x1.1,x1.2.1,x1.2.2.1,x1.2.2.2.1,x1.2.2.2.2,([]:List J1))) else((Fv x1.2.1 x1.2.2.1 x1.2.2.2.1 x1.2.2.2.2).bind λx2=>(bif (x2.1 !=0) then(some (x2.1,x2.2.1,x2.2.2.1,x2.2.2.2.1,x2.2.2.2.2,([]:List J1))) else((Gc x2.2.1 x2.2.2.1 x2.2.2.2.1 x2.2.2.2.2).bind λx3=>(bif (x3.1 !=0) then(some (x3.1,x3.2.1,x3.2.2.1,x3.2.2.2.1,x3.2.2.2.2,([]:List J1))) else((Fa x3.2.1 x3.2.2.1 x3.2.2.2.1 x3.2.2.2.2).bind λx4=>(bif (x4.1 !=0) then(some (x4.1,x4.2.1,x4.2.2.1,x4.2.2.2.1,x4.2.2.2.2.1,x4.2.2.2.2.2)) else((Gw x4.2.1 x4.2.2.1 x4.2.2.2.1 x4.2.2.2.2.2 x4.2.2.2.2.1).bind λx5=>(bif (x5.1 !=0) then(some (x5.1,x5.2.1,x5.2.2.1,x5.2.2.2.1,x5.2.2.2.2,x4.2.2.2.2.2)) else(some ((0:Int),x5.2.1,x5.2.2.1,x5.2.2.2.1,x5.2.2.2.2,x4.2.2.2.2.2))))))))))))
theorem Rm(h:Ge v0 v1 v2 v12=some v27):sP 56 [Yj] (Z3 v0.Params v0.Ret v0.Blocks v1 v2 v12 v12.length) (Z7 v27.1) [(Z1 v27.2.1.Params v27.2.1.Ret v27.2.1.Blocks v27.2.2.1 v27.2.2.2.1 9200005 v27.2.2.2.2.1),(Z8 v27.2.2.2.2.1.length),(9200005,.obj (.map false .i64 (mapE (λ(v_:Aj)=>((Py v_):AV)) v27.2.2.2.2.2)))]:=
 sG Tryz.func56 λΓ q=>tW q [0] Fq [3] RE (Ao q AA Fq (gU 5 (Ao q KF Fq (ZB true (tU q RK Fq (c1 (show(Bx (0:Int) 5) from(by decide))) (tB h λx1 y1 h=>tT q RL Fq [(nU x1.1 (n5 x1))] (c1 (Sn y1)) (Ao q RI Fq (gC h (λh=>Ao q [2] Fq (Ul (⟨[(2,(Z7 x1.1))],(n5 x1),[]⟩:St) (tS h (gK (e:=.ret) (Ks eZ (Le.trans (Ra (r:=30000) (j:=5) (nm:=9300005) .i64 rfl rfl (nl rfl) rfl) (Dv (st':=⟨[(2,(Z7 x1.1))],[(Z1 x1.2.1.Params x1.2.1.Ret x1.2.1.Blocks x1.2.2.1 x1.2.2.2.1 9300005 x1.2.2.2.2),(Z8 x1.2.2.2.2.length),(9300005,.obj (.map false .i64 (mapE lX ([]:List J1))))],[]⟩) [2] ek q))))))) λh=>tW q AA Fq KF Fq (ZB true (tU q RK Fq (c1 (show(Bx (1:Int) 5) from(by decide))) (tB h λx2 y2 h=>tT q RL Fq [(nU x2.1 (n6 x2))] (c1 (P4 y2)) (Ao q RI Fq (gC h (λh=>Ao q [2] Fq (Ul (⟨[(2,(Z7 x2.1))],(n6 x2),[]⟩:St) (tS h (gK (e:=.ret) (Ks eZ (Le.trans (Ra (r:=30000) (j:=5) (nm:=9300005) .i64 rfl rfl (nl rfl) rfl) (Dv (st':=⟨[(2,(Z7 x2.1))],[(Z1 x2.2.1.Params x2.2.1.Ret x2.2.1.Blocks x2.2.2.1 x2.2.2.2.1 9300005 x2.2.2.2.2),(Z8 x2.2.2.2.2.length),(9300005,.obj (.map false .i64 (mapE lX ([]:List J1))))],[]⟩) [2] ek q))))))) λh=>tW q AA Fq KF Fq (ZB true (tU q RK Fq (c1 (show(Bx (2:Int) 5) from(by decide))) (tB h λx3 y3 h=>tT q RL Fq [(nU x3.1 (n7 x3))] (c1 (Rl y3)) (Ao q RI Fq (gC h (λh=>Ao q [2] Fq (Ul (⟨[(2,(Z7 x3.1))],(n7 x3),[]⟩:St) (tS h (gK (e:=.ret) (Ks eZ (Le.trans (Ra (r:=30000) (j:=5) (nm:=9300005) .i64 rfl rfl (nl rfl) rfl) (Dv (st':=⟨[(2,(Z7 x3.1))],[(Z1 x3.2.1.Params x3.2.1.Ret x3.2.1.Blocks x3.2.2.1 x3.2.2.2.1 9300005 x3.2.2.2.2),(Z8 x3.2.2.2.2.length),(9300005,.obj (.map false .i64 (mapE lX ([]:List J1))))],[]⟩) [2] ek q))))))) λh=>tW q AA Fq KF Fq (ZB true (tU q RK Fq (c1 (show(Bx (3:Int) 5) from(by decide))) (tB h λx4 y4 h=>tT q RL Sc [⟨BX,[(9200005,13000005)],(Z7 x4.1),[(Z1 x4.2.1.Params x4.2.1.Ret x4.2.1.Blocks x4.2.2.1 x4.2.2.2.1 9200005 x4.2.2.2.2.1),(Z8 x4.2.2.2.2.1.length),(9200005,.obj (.map false .i64 (mapE lX x4.2.2.2.2.2)))],[],[]⟩] (c1 (Po y4)) (Ao q RI Sc (gC h (λh=>Ao q [2] Sc (tS h (C1 eY))) λh=>tW q AA Sc KF Sc (ZB true (tU q RK Sc (c1 (show(Bx (4:Int) 5) from(by decide))) (tB h λx5 y5 h=>tT q RL Sc [⟨[(30000,30000),(37006,37006),(13000005,9100005)],[],(Z7 x5.1),[(Z1 x5.2.1.Params x5.2.1.Ret x5.2.1.Blocks x5.2.2.1 x5.2.2.2.1 9100005 x5.2.2.2.2),(Z8 x5.2.2.2.2.length),(9100005,.obj (.map false .i64 (mapE lX x4.2.2.2.2.2)))],[],[]⟩] (c1 (So y5)) (Ao q RI Sc (gC h (λh=>Ao q [2] Sc (tS h (C1 eY))) λh=>tW q AA Sc KF Sc (ZB false (Ao q [2] Sc (tS h (C1 eY))))))))))))))))))))))))))))))))
end
end Go.Proofs.YtiendmljhgbjoaaGreat
