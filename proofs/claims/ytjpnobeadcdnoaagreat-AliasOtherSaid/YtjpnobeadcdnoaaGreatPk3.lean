/-
  The machine, the program's functions and the laws' arithmetic: part 3 of 5.
-/
import Derived.Test.YtjpnobeadcdnoaaGreatPk2
import Derived.BigCall
import Derived.Lib.RowBridge
import Derived.Shelf.Slices.Clone
import Derived.Shelf.Slices.CompactI
import Derived.Shelf.Slices.In.SortNone
import Derived.Shelf.Sort.Plain
import Derived.Sort.OwnSortedInts
import Derived.Test.YtjpnobeadcdnoaaGreatProg
set_option linter.unusedSectionVars false
set_option linter.unusedVariables false
set_option linter.unusedSimpArgs false
namespace Go.Proofs.YtjpnobeadcdnoaaGreat
noncomputable section
open Go Go.RowKit
section
variable {P:Program} {Γ:G1} {σ:Sto} {I:Nat->Nat->Prop} {θ:Nat->Option (Nat×Nat)} {a:Act} {w:World} {o:Oper}
theorem QO{g bm since:Nat}{seen:Array Nat}{es:Array MapEntry}(hg:w.heap[g]?=some (.mapIter (some bm) since seen since))(hb:w.heap[bm]?=some (.map es since))(hold:∀ x∈es.toList,x.born<since)(ty:TypeId) :
  ((∀ e∈es.toList,e.born∈seen.toList)/\(Instr.next (.pointer (some ⟨g,0,none⟩)) false ty).run P w = .ok (.tuple #[.bool false]) w) \/
  ∃ e∈es.toList,e.born∉seen.toList/\((Instr.next (.pointer (some ⟨g,0,none⟩)) false ty).run P w = .ok (.tuple #[.bool true,e.key,e.val]) (Of w g (.mapIter (some bm) since (seen.push e.born) since)) \/
   (Instr.next (.pointer (some ⟨g,0,none⟩)) false ty).run P w = .ok (.tuple #[.bool true,e.key,e.val]) (Of w.drew g (.mapIter (some bm) since (seen.push e.born) since))):=by
 simp only[Instr.next,getObj,Cy,Sem.run,hg,hb,Result.andThen,next_test_false seen es since since hold (zzL8 _),X8,Ex]
 have hmem:∀ x∈(Array.filter (λe=>!seen.contains e.born) es).toList,x∈es.toList/\x.born∉seen.toList:=λx hx=>by
  simp only[Array.toList_filter,zzL64,O9,Array.contains_eq_mem,JY]at hx;exact⟨hx.1,by simpa using hx.2⟩
 have hall:(Array.filter (λe=>!seen.contains e.born) es).size=0->∀ e∈es.toList,e.born∈seen.toList:=λh0 e he=>by
  by_cases hc:e.born∈seen.toList
  ·exact hc
  ·have:e∈(Array.filter (λe=>!seen.contains e.born) es).toList:=by
    simp only[Array.toList_filter,zzL64,O9,Array.contains_eq_mem,JY];exact⟨he,by simpa using hc⟩
   have h1:0<(Array.filter (λe=>!seen.contains e.born) es).toList.length:=List.length_pos_of_mem this;rw[Zs]at h1;omega
 generalize Array.filter (λe=>!seen.contains e.born) es=L at hmem hall ⊢
 have e1:L.filter (λx=>decide (x.born<since))=L:=Array.filter_eq_self.2 (λx hx=>by simpa using hold x (hmem x (by simpa using hx)).1)
 have e2:L.filter (λx=>decide (x.born>=since)) = #[]:=by
  rw[Array.filter_eq_empty_iff];intro x hx;have:=hold x (hmem x (by simpa using hx)).1
  simp
  omega
 simp only[e1,e2,Array.append_empty]
 by_cases h0:L.size=0
 ·left
  have:L = #[]:=Array.eq_empty_of_size_eq_zero h0;subst this;refine⟨hall rfl,?_⟩;simp[choose,Sem.run,Question.forced]
 ·right
  have hne:L.isEmpty=false:=by simp[Array.isEmpty,h0]
  simp only[hne,X8,Ex,Array.empty_append,Array.size_map];have hgl:g<w.heap.size:=(Array.getElem?_eq_some_iff.1 hg).1
  have hch:∃(j:Nat) (w1:World),j<L.size/\(w1=w\/w1=w.drew)/\(choose (Question.mapNext L.size)).run P w = .ok j w1:=by
   by_cases hf:L.size<=1
   ·exact⟨0,w,by omega,.inl rfl,by simp[choose,Sem.run,Question.forced,hf]⟩
   ·exact⟨_,w.drew,Nat.mod_lt _ (by omega),.inr rfl,by
     simp only[choose,Sem.run,Question.forced,D0,hf,Ex,Question.cut]
     rfl⟩
  obtain⟨j,w1,hj,hw,hrun⟩:=hch
  have hLj:L[j]∈L.toList:=by simp
  refine⟨L[j],(hmem _ hLj).1,(hmem _ hLj).2,?_⟩
  have hset:∀ o',(setObj g o').run P w1 = .ok () (Of w1 g o'):=λo'=>by
   have hh:w1.heap[g]?=some (.mapIter (some bm) since seen since):=by rcases hw with rfl|rfl<;>exact hg
   simp[setObj,Sem.run,hh,Of]
  simp only[hrun,Array.getElem?_map,Array.getElem?_eq_getElem hj,Wo,Cy,hset,Result.andThen];rcases hw with rfl|rfl
  ·exact .inl rfl
  ·exact .inr rfl
theorem dc(h:Rel Γ σ I θ a w)(hd:∀ d,o.dst=some d->d<Γ.n){x:Operand}(ho:o.op = .next x false){nm mm n:Nat}{s:List Nat}{nn:Bool}{k:IntKind}{l:List (Int×AV)}(hx:Rep I σ.own θ w (a.eval x) (.optr nm mm))
  (hit:σ.own nm=some (.obj (.miter (.omap mm) n s))) (hown:σ.own mm=some (.obj (.map nn k l))) (hn:n=l.length) (K:Act->World->Prop) (Q:Exit->Act->World->Prop)
  (hdone:(∀ i,i<n->i∈s)->∀ I' θ' a' w',Rel Γ (σ.upd o.dst (.tuple [.bool false]) []) I' θ' a' w'->K a' w')
  (hmore:∀ i,i<n->i∉s->∀ I' θ' a' w',Rel Γ (σ.upd o.dst (.tuple [.bool true,.int k (l.getD i (0,.any)).1,(l.getD i (0,.any)).2]) [(nm,.obj (.miter (.omap mm) n (i::s)))]) I' θ' a' w'->K a' w'):o.wp P a w K Q:=by
 obtain⟨_,g,c,ho',hg,hv⟩:=hx.optr_inv
 obtain⟨ob,h2,h3⟩:∃ ob,w.heap[g]?=some ob/\ObjR I σ.own θ w ob (.miter (.omap mm) n s):=by
  rcases h.chg.rel.obj nm _ hit with⟨g',c',ob,h1,h2,h3,h4⟩|⟨h1,_⟩
  ·rw[hg]at h1;simp only[Af,Ia]at h1;obtain⟨rfl,rfl⟩:=h1;exact⟨ob,h2,h3⟩
  ·rw[hg]at h1;cases h1
 obtain⟨r,cc,seen,rfl,hseen,rfl,hr⟩:=IZ h3;obtain⟨_,_,hxm⟩:=hr.omap_inv;simp only[Value.map.injEq]at hxm
 have hfalse:∀(hrun:(execOp a.eval o).run P w = .ok (.value (.tuple #[.bool false])) w),(∀ i,i<cc->i∈s)->o.wp P a w K Q:=λhrun hall=>
  Ak (x:=.tuple [.bool false]) h hd hrun (.tuple _ _ rfl (λj hj=>by
   obtain rfl:j=0:=by simp at hj;omega
   exact .val _ _ (.bool _))) K Q (hdone hall)
 rcases map_at h hown with⟨gm,c',es',h4,h5,h6⟩|⟨h4,_,h7⟩
 ·rw[h4]at hxm;obtain rfl:r=some gm:=hxm;obtain⟨hlen,hent⟩:=Un l es'.toList 0 h6
  have hmem:∀ e∈es'.toList,∃ i,i<l.length/\es'.toList[i]?=some e/\e.born=i/\e.key = .int k (l.getD i (0,.any)).1/\KR I w e.val (l.getD i (0,.any)).2:=λe he=>by
   obtain⟨i,hi,rfl⟩:=List.mem_iff_getElem.1 he;obtain⟨v,e1,e2⟩:=hent i (by omega);rw[R7 hi]at e1;have e3:=OI e1;exact⟨i,by omega,R7 hi,by rw[e3];simp,by rw[e3],by rw[e3];exact e2⟩
  rw[<- hn]at h5;have hnx:=QO (P:=P) h2 h5 (λe he=>by obtain⟨i,hi,_,hb,_⟩:=hmem e he;omega) (ty:=0);have hty:∀ ty,Instr.next (.pointer (some ⟨g,0,none⟩)) false ty=Instr.next (.pointer (some ⟨g,0,none⟩)) false 0:=λ_=>rfl;rcases hnx with⟨hall,hrun⟩|⟨e,he,hns,hrun⟩
  ·refine hfalse ?_ (λi hi=>?_)
   ·simp only[execOp,ho,hv,hty];simp[hrun]
   ·obtain⟨v,e1,e2⟩:=hent i (by omega);have:=hall _ (List.mem_of_getElem? e1);rw[<- hseen,zzL95]
    simpa using this
  ·obtain⟨i,hi,_,hb,hkey,hval⟩:=hmem e he
   have his:i∉s:=by rw[<- hseen,zzL95,<- hb];exact hns
   have hrev:(seen.push e.born).toList.reverse=i::s:=by rw[Array.toList_push,List.reverse_append,hseen,hb];rfl
   have step:∀ w1:World,Rel Γ σ I θ a w1->w1.heap=w.heap->(execOp a.eval o).run P w = .ok (.value (.tuple #[.bool true,e.key,e.val])) (Of w1 g (.mapIter (some gm) cc (seen.push e.born) cc))->o.wp P a w K Q:=λw1 hr1 hh hrun=>by
    have hcell:∀ b j,I b j->w1.cell? ⟨b,j,none⟩=w.cell? ⟨b,j,none⟩:=λb j _=>by simp only[World.cell?,hh]
    have hr':Rep I σ.own θ w1 (.map (some gm)) (.omap mm):=hr.mono (λ_ _ h=>h) hcell (λ_ o ho=>⟨o,ho,.refl _ _⟩)
    have hc:ObjR I σ.own θ w1 (.mapIter (some gm) cc (seen.push e.born) cc) (.miter (.omap mm) cc (i::s)):=by
     have:=ObjR.miter (I:=I) (own:=σ.own) (θ:=θ) (w:=w1) (some gm) (.omap mm) cc cc (seen.push e.born) rfl hr';rwa[hrev]at this
    have kc:=Nq hr1.chg.rel hr1.chg.valid hit hg hc;have hval':RepV I (Of w1 g (.mapIter (some gm) cc (seen.push e.born) cc)) e.val (l.getD i (0,.any)).2:=hval.1.mono (λ_ _ h=>h) (λb j hj=>by rw[kc.cell b j hj,hcell b j hj])
    have k2:Chg σ.own θ I w1 (σ.upd o.dst (.tuple [.bool true,.int k (l.getD i (0,.any)).1,(l.getD i (0,.any)).2]) [(nm,.obj (.miter (.omap mm) cc (i::s)))]).own θ I (Of w1 g (.mapIter (some gm) cc (seen.push e.born) cc)):=by rw[Bl];exact kc
    have hput:=Uq (v:=.tuple #[.bool true,e.key,e.val]) (x:=.tuple [.bool true,.int k (l.getD i (0,.any)).1,(l.getD i (0,.any)).2]) hr1 k2 (.tuple _ _ rfl (λj hj=>by
     have hj:j=0\/j=1\/j=2:=by simp at hj;omega
     rcases hj with rfl|rfl|rfl
     ·exact .val _ _ (.bool _)
     ·rw[show(#[Value.bool true,e.key,e.val].getD 1 Go.undef)=e.key from rfl,hkey];exact .val _ _ (.int _ _)
     ·exact .val _ _ hval')) hd
    unfold Oper.wp;rw[hrun];exact hmore i (by omega) his _ _ _ _ hput
   rcases hrun with hrun|hrun
   ·refine step w h rfl ?_;simp only[execOp,ho,hv,hty];simp[hrun]
   ·refine step w.drew (QH h) rfl ?_;simp only[execOp,ho,hv,hty];simp[hrun]
 ·rw[h4]at hxm;obtain rfl:r=none:=hxm;subst h7;refine hfalse ?_ (λi hi=>by simp at hn;omega);simp only[execOp,ho,hv];simp[Instr.next,getObj,Sem.run,h2]
theorem YM{id:Nat}{o1 o2:Oper}{K:Exit->St->Prop}{st:St}{n:Nat}{H:List (Nat×Own)}{x t b nm mm len:Nat}{s:List Nat}{nn:Bool}{k:IntKind}{l:List (Int×AV)}(q:RgQ P Γ n H)(live names:List Nat)
  (h1:o1.op = .next (.tmp x) false) (d1:o1.dst=some t) (g1:o1.guard=none) (h2:o2.op = .extract (.tmp t) 0) (d2:o2.dst=some b) (g2:o2.guard=none) (hb:(Nat.blt t n&&(Nat.blt b n&&(Nat.blt nm A8&&Nat.blt mm A8)))=true)
  (hx:st.get x = .optr nm mm) (hit:Ac st.own nm=some (.obj (.miter (.omap mm) len s))) (hm:Ac st.own mm=some (.obj (.map nn k l))) (hlen:len=l.length) (hh:(H.all λx=>Cd x.1 names)=true)
  (hdone:(∀ i,i<len->i∈s)->K .normal (A2 live names ((st.upd (some t) (.tuple [.bool false]) []).upd (some b) (.bool false) [])))
  (hmore:∀ i,i<len->i∉s->K .normal (A2 live names ((st.upd (some t) (.tuple [.bool true,.int k (l.getD i (0,.any)).1,(l.getD i (0,.any)).2]) [(nm,.obj (.miter (.omap mm) len (i::s)))]).upd (some b) (.bool true) []))):Se P Γ (.region id #[o1,o2] false) K st:=by
 simp only[A4,Gu]at hb;obtain⟨b1,b2,b3,b4⟩:=hb;intro I θ a w hrel;refine wp_region ?_;have hget:∀ t,Rep I st.sto.own θ w (a.tmps.getD t undef) (st.get t):=hrel.slots
 have w1:∀ tm,Region.wanted o1 tm=true:=λtm=>by simp[Region.wanted,g1]
 have w2:∀ tm,Region.wanted o2 tm=true:=λtm=>by simp[Region.wanted,g2]
 have hl:(List.range (#[o1,o2]:Array Oper).size)=[0,1]:=rfl;have hsec:∀(st2:St) (vb:Bool) (r:List AV) (I':Nat->Nat->Prop) (θ':Nat->Option (Nat×Nat)) (a':Act) (w':World),st2.get t = .tuple (.bool vb::r)->Rel Γ st2.sto I' θ' a' w'->K .normal (A2 live names (st2.upd (some b) (.bool vb) []))->
   wpOps P #[o1,o2] (λe a' w'=>∃ st' I' θ',K e st'/\Rel Γ st'.sto I' θ' a' w') [1] a' w':=λst2 vb r I' θ' a' w' hgt hr hK=>by
  rw[wpOps_cons]
  show wpOp P #[o1,o2] _ 1 _ a' w'
  unfold wpOp;simp only[show(#[o1,o2]:Array Oper)[1]?=some o2 from rfl,w2,He];refine .inl ?_;have ht:=hr.slots t;rw[show st2.sto.tmp t=st2.get t from rfl,hgt]at ht;obtain⟨vs,hv,hsz,hvr⟩:=ht.tuple_inv;have h0:=hvr 0 (by simp);have h0':vs.getD 0 Go.undef = .bool vb:=Rep.bool_inv h0
  have hpos:0<vs.size:=by rw[hsz];simp
  refine Ak hr (λd hd=>?_) (v:=.bool vb) (x:=.bool vb) ?_ (.val _ _ (.bool _)) _ _ (λI2 θ2 a2 w2 h2=>?_)
  ·rw[d2]at hd;obtain rfl:=OI hd;rw[q.hn];exact b2
  ·simp only[execOp,h2,Act.eval];rw[hv]
   have:vs[0]?=some (.bool vb):=by
    rw[M4,Array.getElem?_eq_getElem hpos,Zu]at h0';rw[Array.getElem?_eq_getElem hpos,h0']
   simp[Instr.extract,this]
  ·refine⟨_,I2,θ2,hK,Rl ?_ (q.hand hh)⟩;rw[CV (ns:=[]) st2 (some b) (.bool vb) [] rfl];rw[d2]at h2;exact h2
 rw[hl,wpOps_cons];unfold wpOp;simp only[show(#[o1,o2]:Array Oper)[0]?=some o1 from rfl,w1,He];refine .inl ?_;have hxr:=hget x;rw[hx]at hxr;refine dc hrel (λd hd=>?_) h1 (nm:=nm) (mm:=mm) (n:=len) (s:=s) (nn:=nn) (k:=k) (l:=l) hxr ((A1 b3).trans hit) ((A1 b4).trans hm) hlen _ _ (λhall I' θ' a' w' hr=>?_) (λi hi hni I' θ' a' w' hr=>?_)
 ·rw[d1]at hd;obtain rfl:=OI hd;rw[q.hn];exact b1
 ·rw[d1,<- CV (ns:=[]) st (some t) (.tuple [.bool false]) [] rfl]at hr;refine hsec _ false [] I' θ' a' w' ?_ hr (hdone hall);simp[St.get,St.upd,Eh]
 ·rw[d1,<- CV (ns:=[nm]) st (some t) _ [(nm,.obj (.miter (.omap mm) len (i::s)))] (by simp[Rb,b3])]at hr;refine hsec _ true [.int k (l.getD i (0,.any)).1,(l.getD i (0,.any)).2] I' θ' a' w' ?_ hr (hmore i hi hni);simp[St.get,St.upd,Eh]
end
def Tk{S X:Type}(f:Nat->S->Option (LR S X))(g:S->Option (LR S X)):List Nat->S->Option X
 | [],s=>match g s with|some (.done x)=>some x|_=>none
 | i::l,s=>match f i s with|some (.next s')=>Tk f g l s'|some (.done x)=>some x|none=>none
open Classical in
open Classical in
def We{S X:Type}(eqv:X->X->Prop)(n:Nat)(f:Nat->S->Option (LR S X))(g:S->Option (LR S X))(s:S):Option X:=
 if h:∃ x,∀ τ:List Nat,τ.Perm (List.range n)->∃ x',Tk f g τ s=some x'/\eqv x' x then some (Classical.choose h) else none
theorem AZ{S X:Type}{eqv:X->X->Prop}{n:Nat}{f:Nat->S->Option (LR S X)}{g:S->Option (LR S X)}{s:S}{x:X}(h:We eqv n f g s=some x):∀ τ:List Nat,τ.Perm (List.range n)->∃ x',Tk f g τ s=some x'/\eqv x' x:=by
 unfold We at h
 split at h
 ·rename_i h0
  obtain rfl:=OI h;exact Classical.choose_spec h0
 ·cases h
theorem ae{S X:Type}{eqv:X->X->Prop}{n:Nat}{f:Nat->S->Option (LR S X)}{g:S->Option (LR S X)}{s:S}(h:∃ x,∀ τ:List Nat,τ.Perm (List.range n)->∃ x',Tk f g τ s=some x'/\eqv x' x):∃ x,We eqv n f g s=some x:=by
 unfold We;rw[dif_pos h];exact⟨_,rfl⟩
theorem FA{α:Type}[DecidableEq α]{a b:List α}(ha:a.Nodup)(hb:b.Nodup)(h:∀ x,x∈a↔x∈b):a.Perm b:=by
 refine List.perm_iff_count.2 λx=>?_;rw[ha.count,hb.count];simp only[h x]
section
variable {P:Program} {Γ:G1}
theorem NX{S X:Type}{body:Code}(Q:X->Prop)(n:Nat)(H:List Nat->S->St)(f:Nat->S->Option (LR S X))(g:S->Option (LR S X))(KX:X->Exit->St->Prop){K:Exit->St->Prop}
  (hb:∀(z:List Nat) (s:S),((∀ i,i<n->i∈z)->∃ y,g s=some y)->(∀ i,i<n->i∉z->∃ y,f i s=some y)->
   Se P Γ body (λe st=>(∃ y,g s=some y/\My Γ (H z) KX y e st/\∀ i,i<n->i∈z)\/∃ i y,f i s=some y/\My Γ (H (i::z)) KX y e st/\i<n/\i∉z) (H z s))
  {s:S} (hr:∀ τ:List Nat,τ.Perm (List.range n)->∃ x,Tk f g τ s=some x/\Q x) (hK:∀ x,Q x->∀ e st',KX x e st'->K e st'):Se P Γ (.loop body) K (H [] s):=by
 intro I θ a w hrel;refine Zo (λm a w=>∃ z s I θ,m=n-z.length/\z.Nodup/\(∀ i∈z,i<n)/\(∀ τ:List Nat,(z++τ).Perm (List.range n)->∃ x,Tk f g τ s=some x/\Q x)/\Rel Γ (H z s).sto I θ a w) (λm a w ⟨z,s,I,θ,hm,hz,hzn,hruns,hrel⟩=>?_) (n:=n-0) ⟨[],s,I,θ,rfl,List.nodup_nil,(λi hi=>by cases hi),(λτ hτ=>hr τ hτ),hrel⟩
 have hall:(∀ i,i<n->i∈z)->(z++[]).Perm (List.range n):=λh=>by
  rw[List.append_nil]
  exact FA hz List.nodup_range λi=>by rw[zzL36];exact⟨hzn i,h i⟩
 have hone:∀ i,i<n->i∉z->∃ τ,(z++i::τ).Perm (List.range n):=λi hi hni=>by
  refine⟨(List.range n).filter λj=>decide (j∉i::z),FA ?_ List.nodup_range λj=>?_⟩
  ·refine List.nodup_append.2 ⟨hz,zzL76.2 ⟨by simp,List.nodup_range.filter _⟩,λp hp q hq hpq=>?_⟩;subst hpq;rcases zzL24.1 hq with rfl|hq
   ·exact hni hp
   ·have:=(zzL64.1 hq).2;simp at this;exact this.2 hp
  ·rw[zzL11,zzL24,zzL64,zzL36]
   constructor
   ·rintro(h|rfl|h)
    ·exact hzn j h
    ·exact hi
    ·exact h.1
   ·intro h
    by_cases h1:j∈z
    ·exact .inl h1
    ·by_cases h2:j=i
     ·exact .inr (.inl h2)
     ·exact .inr (.inr ⟨h,by simp[h1,h2]⟩)
 have hg:(∀ i,i<n->i∈z)->∃ y,g s=some y:=λh=>by
  obtain⟨x,this,_⟩:=hruns [] (hall h);unfold Tk at this
  cases hgs:g s with
  | none=>rw[hgs]at this;cases this
  | some y=>exact⟨y,rfl⟩
 have hf:∀ i,i<n->i∉z->∃ y,f i s=some y:=λi hi hni=>by
  obtain⟨τ,hτ⟩:=hone i hi hni;obtain⟨x,this,_⟩:=hruns _ hτ;unfold Tk at this
  cases hfs:f i s with
  | none=>rw[hfs]at this;cases this
  | some y=>exact⟨y,rfl⟩
 refine M2 (hb z s hg hf I θ a w hrel) λe a' w' ⟨st',I',θ',h1,h2⟩=>?_;rcases h1 with⟨y,hgs,hk,hal⟩|⟨i,y,hfs,hk,hi,hni⟩
 ·obtain⟨x,hx,hQ⟩:=hruns [] (hall hal);unfold Tk at hx;rw[hgs]at hx
  cases y with
  | next s'=>cases hx
  | done x'=>
   obtain rfl:=OI hx;obtain⟨hne,hkx⟩:=hk
   cases e with
   | normal=>exact(hne rfl).elim
   | _=>exact⟨st',I',θ',hK _ hQ _ _ hkx,h2⟩
 ·obtain⟨τ,hτ⟩:=hone i hi hni
  have hlen:z.length<n:=by
   have:=hτ.length_eq;rw[Es,M5,Vo]at this;omega
  cases y with
  | next s'=>
   obtain⟨rfl,hle⟩:=hk;obtain⟨I'',θ'',h3⟩:=hle I' θ' a' w' h2;refine⟨n-(i::z).length,by simp only[M5];omega,i::z,s',I'',θ'',rfl,zzL76.2 ⟨hni,hz⟩,?_,λρ hρ=>?_,h3⟩
   ·intro j hj;rcases zzL24.1 hj with rfl|hj
    ·exact hi
    ·exact hzn j hj
   ·obtain⟨x,this,hQ⟩:=hruns (i::ρ) (List.Perm.trans List.perm_middle hρ);unfold Tk at this;rw[hfs]at this;exact⟨x,this,hQ⟩
  | done x'=>
   obtain⟨x,hx,hQ⟩:=hruns _ hτ;unfold Tk at hx;rw[hfs]at hx;obtain rfl:=OI hx;obtain⟨hne,hkx⟩:=hk
   cases e with
   | normal=>exact(hne rfl).elim
   | _=>exact⟨st',I',θ',hK _ hQ _ _ hkx,h2⟩
end
theorem iH{V:Type}{f:V->AV}{l:List (Int×V)}{d:Int×V}{i:Nat}{k:IntKind}(h:i<(mapE f l).length):AVle (.tuple [.int k ((mapE f l).getD i (0,.any)).1,((mapE f l).getD i (0,.any)).2]) (.tuple [.int k (l.getD i d).1,f (l.getD i d).2]):=by
 have hl:i<l.length:=by simpa [mapE] using h
 have e:(mapE f l).getD i (0,.any)=((l.getD i d).1,f (l.getD i d).2):=by simp[mapE,List.getD,hl]
 rw[e];exact AVle.refl _
section
variable {P:Program} {Γ:G1}
def CB(P:Program)(Γ:G1)(body:Code)(K:Exit->St->Prop):Nat->St->Prop
 | 0,_=>False
 | n+1,st=>Se P Γ body (λe st'=>(e = .normal/\CB P Γ body K n st')\/(e≠.normal/\K e st')) st
theorem ST{body:Code}{K:Exit->St->Prop}{st:St}(n:Nat)(h:CB P Γ body K n st):Se P Γ (.loop body) K st:=by
 intro I θ a w hrel;refine Zo (λm a w=>∃ st I θ,CB P Γ body K m st/\Rel Γ st.sto I θ a w) (λm a w ⟨st,I,θ,hu,hrel⟩=>?_) (n:=n) ⟨st,I,θ,h,hrel⟩
 cases m with
 | zero=>exact hu.elim
 | succ m=>
  refine M2 (hu I θ a w hrel) λe a' w' ⟨st',I',θ',h1,h2⟩=>?_;rcases h1 with⟨rfl,h1⟩|⟨hne,h1⟩
  ·exact⟨m,Nat.lt_succ_self m,st',I',θ',h1,h2⟩
  ·cases e with
   | normal=>exact(hne rfl).elim
   | _=>exact⟨st',I',θ',h1,h2⟩
end
inductive fY where
 | nx (y:Code)
 | bl (id:Nat)
 | ag (c:Code) (n:Nat)
inductive J7 where
 | run (c:Code) (fs:List fY)
 | out (e:Exit) (fs:List fY)
def fS(P:Program)(Γ:G1)(K:Exit->St->Prop):List fY->Exit->St->Prop
 | []=>K
 | .nx y::fs=>jm P Γ y (fS P Γ K fs)
 | .bl id::fs=>Yn id (fS P Γ K fs)
 | .ag c n::fs=>λe st=>(e = .normal/\CB P Γ c (fS P Γ K fs) n st)\/(e≠.normal/\fS P Γ K fs e st)
def GG(P:Program)(Γ:G1)(K:Exit->St->Prop):J7->St->Prop
 | .run c fs,st=>Se P Γ c (fS P Γ K fs) st
 | .out e fs,st=>fS P Γ K fs e st
def Sy:Code->Nat->Nat
 | .exit i,k=>bif Nat.beq i k then 1 else 0
 | .seq a b,k=>Nat.min 2 (Sy a k+Sy b k)
 | .cond _ a b,k=>Nat.min 2 (Sy a k+Sy b k)
 | .loop c,k=>Nat.min 1 (Sy c k)
 | .scope c,k=>Nat.min 1 (Sy c k)
 | .block _ c,k=>Sy c k
 | _,_=>0
def Ny:Code->Nat
 | .region _ _ _=>1
 | .skip=>1
 | .label _=>1
 | .seq a b=>bif Nat.beq (Ny a) 0 then 0 else Ny b
 | .cond _ a b=>Nat.min 2 (Ny a+Ny b)
 | .block i c=>Nat.min 2 (Ny c+Sy c i)
 | .scope c=>Nat.min 2 (Ny c)
 | _=>0
def dE(a:Code):Bool:=match a with | .region _ _ _=>false|a=>Nat.ble 2 (Ny a)
def EJ:Nat->Code ⊕ Exit->List fY->J7
 | 0,.inl c,fs=>.run c fs
 | 0,.inr e,fs=>.out e fs
 | n+1,.inl c,fs=>
  match c with
  | .skip=>EJ n (.inr .normal) fs
  | .label _=>EJ n (.inr .normal) fs
  | .seq a b=>bif dE a then .run (.seq a b) fs else EJ n (.inl a) (.nx b::fs)
  | .block id a=>EJ n (.inl a) (.bl id::fs)
  | .exit id=>EJ n (.inr (.exit id)) fs
  | .goto l=>EJ n (.inr (.goto l)) fs
  | .ret=>EJ n (.inr .ret) fs
  | c=>.run c fs
 | n+1,.inr e,fs=>
  match fs with
  | []=>.out e []
  | .nx y::fs=>(match e with | .normal=>EJ n (.inl y) fs|e=>EJ n (.inr e) fs)
  | .bl id::fs=>(match e with | .exit i=>bif Nat.beq i id then EJ n (.inr .normal) fs else EJ n (.inr (.exit i)) fs|e=>EJ n (.inr e) fs)
  | .ag c m::fs=>(match e with | .normal=>(match m with|0=>.out .normal (.ag c 0::fs)|m+1=>EJ n (.inl c) (.ag c m::fs))|e=>EJ n (.inr e) fs)
section
variable {P:Program} {Γ:G1} {K:Exit->St->Prop}
theorem Bp:∀(n:Nat) (x:Code ⊕ Exit) (fs:List fY) (st:St),GG P Γ K (EJ n x fs) st->(match x with | .inl c=>Se P Γ c (fS P Γ K fs) st | .inr e=>fS P Γ K fs e st)
 | 0,.inl c,fs,st,h=>h
 | 0,.inr e,fs,st,h=>h
 | n+1,.inl c,fs,st,h=>by
  cases c with
  | skip=>exact cE (Bp n _ fs st h)
  | label l=>exact YL (Bp n _ fs st h)
  | seq a b=>
   cases hj:dE a with
   | true=>simp only[EJ,hj]at h;exact h
   | false=>simp only[EJ,hj]at h;exact LA (Bp n (.inl a) _ st h)
  | block id a=>exact YK (Bp n (.inl a) _ st h)
  | exit id=>exact cA (Bp n _ fs st h)
  | goto l=>exact cB (Bp n _ fs st h)
  | ret=>exact gH (Bp n (.inr .ret) fs st h)
  | _=>exact h
 | n+1,.inr e,[],st,h=>h
 | n+1,.inr e,.nx y::fs,st,h=>by
  cases e with
  | normal=>exact Bp n (.inl y) fs st h
  | exit i=>exact Bp n _ fs st h
  | goto l=>exact Bp n _ fs st h
  | ret=>exact Bp n (.inr .ret) fs st h
  | panic c=>exact Bp n _ fs st h
  | outgrown=>exact Bp n _ fs st h
 | n+1,.inr e,.bl id::fs,st,h=>by
  cases e with
  | normal=>exact Bp n _ fs st h
  | exit i=>
   cases hb:Nat.beq i id with
   | true=>
    obtain rfl:=Bx hb;simp only[EJ,hb]at h;exact SV (Bp n _ fs st h)
   | false=>
    simp only[EJ,hb]at h;exact SU hb (Bp n _ fs st h)
  | goto l=>exact Bp n _ fs st h
  | ret=>exact Bp n (.inr .ret) fs st h
  | panic c=>exact Bp n _ fs st h
  | outgrown=>exact Bp n _ fs st h
 | n+1,.inr e,.ag c m::fs,st,h=>by
  cases e with
  | normal=>
   cases m with
   | zero=>exact h
   | succ m=>exact .inl ⟨rfl,Bp n (.inl c) _ st h⟩
  | exit i=>exact .inr ⟨(by intro hh;cases hh),Bp n _ fs st h⟩
  | goto l=>exact .inr ⟨(by intro hh;cases hh),Bp n _ fs st h⟩
  | ret=>exact .inr ⟨(by intro hh;cases hh),Bp n (.inr .ret) fs st h⟩
  | panic ch=>exact .inr ⟨(by intro hh;cases hh),Bp n _ fs st h⟩
  | outgrown=>exact .inr ⟨(by intro hh;cases hh),Bp n _ fs st h⟩
theorem Hy{n:Nat}{c:Code}{fs:List fY}{st:St}(h:GG P Γ K (EJ n (.inl c) fs) st):Se P Γ c (fS P Γ K fs) st:=Bp n _ fs st h
theorem S9{n:Nat}{e:Exit}{fs:List fY}{st:St}(h:GG P Γ K (EJ n (.inr e) fs) st):fS P Γ K fs e st:=Bp n _ fs st h
def gz(c:Code)(fs:List fY):J7:=EJ 400 (.inl c) fs
def oD(e:Exit)(fs:List fY):J7:=EJ 400 (.inr e) fs
def iM:J7->J7
 | .run _ fs=>oD .normal fs
 | x=>x
def iS:J7->Option (List Oper×Bool)
 | .run (.region _ ops draw) _=>some (ops.toList,draw)
 | _=>none
def fR(P:Program)(S:Wu)(n:Nat)(cs:List (Nat×AV))(live names:List Nat)(x:J7)(st:St)(rs:List Sd):Option (St×List Prop×Bool):=
 match iS x with
 | some (ops,draw)=>CE P S n cs live names ops draw st rs
 | none=>none
def iN(P:Program)(S:Wu)(n:Nat)(cs:List (Nat×AV))(live names:List Nat)(x:J7)(st:St)(rs:List Sd):St:=
 match fR P S n cs live names x st rs with
 | some r=>r.1
 | none=>st
def fT(r:Option (St×List Prop×Bool)):Option (Prop×Bool):=
 match r with
 | some r=>some (OG r.2.1,r.2.2)
 | none=>none
theorem gR{x:J7}{st:St}{n:Nat}{H:List (Nat×Own)}(q:RgQ P Γ n H)(live names:List Nat)(cs:List (Nat×AV))(rs:List Sd){O:Prop}(hO:O)
  (k:GG P Γ K (iM x) (iN P (Spec P) n cs live names x st rs))
  (h:fT (fR P (Spec P) n cs live names x st rs)=some (O,true):=by kernel_rfl) (hh:(H.all λx=>Cd x.1 names)=true:=by kernel_rfl):GG P Γ K x st:=by
 unfold fR at h;unfold iN fR at k
 cases x with
 | out e fs=>simp[iS,fT]at h
 | run c fs=>
  cases c with
  | region id ops draw=>
   simp only[iS]at h k
   cases hr:CE P _ n cs _ _ _ _ st rs with
   | none=>rw[hr]at h;simp[fT]at h
   | some r=>
    obtain⟨st',obs,d⟩:=r;rw[hr]at h k;obtain⟨rfl,rfl⟩:=h;have:=SS (id:=id)  q.hn q.mix (q.hand hh) hr hO (S9 k);exact(by simpa using this:Se P Γ _ _ st)
  | _=>simp[iS,fT]at h
theorem An{x:J7}{st:St}{n:Nat}{H:List (Nat×Own)}(q:RgQ P Γ n H)(live names:List Nat)
  (k:GG P Γ K (iM x) (iN P (Spec P) n [] live names x st []))
  (h:fT (fR P (Spec P) n [] live names x st [])=some (True,true):=by kernel_rfl) (hh:(H.all λx=>Cd x.1 names)=true:=by kernel_rfl):GG P Γ K x st:=gR q _ _ [] [] trivial k h hh
def ja:J7->Bool | .run _ _=>true|_=>false
theorem Mr{x:J7}{st st':St}(h:Le Γ st st')
  (k:GG P Γ K x st')
  (hx:ja x=true:=by kernel_rfl):GG P Γ K x st:=by
 cases x with
 | run c fs=>exact SR h k
 | out e fs=>cases hx
theorem Rx{x:J7}{st:St}(st':St)
  (k:GG P Γ K x st')
  (h:st=st':=by kernel_rfl):GG P Γ K x st:=h▸k
def jQ(x:J7)(st:St):AV:=match x with | .run (.cond c _ _) _=>TD st.get c|_=>.any
def oB(b:Bool):J7->J7
 | .run (.cond _ c d) fs=>gz (bif b then c else d) fs
 | x=>x
theorem gC{x:J7}{st:St}{R:Type}{b:Bool}{m1 m2:Option R}{r:R}(h:(bif b then m1 else m2)=some r)
  (kt:m1=some r->GG P Γ K (oB true x) st) (kf:m2=some r->GG P Γ K (oB false x) st)
  (hv:jQ x st = .bool b:=by kernel_rfl):GG P Γ K x st:=by
 cases x with
 | out e fs=>cases hv
 | run c fs=>
  cases c with
  | cond c y z=>
   refine NW b hv (λhb=>Hy  (kt ?_)) (λhb=>Hy  (kf ?_))
   ·subst hb;exact h
   ·subst hb;exact h
  | _=>cases hv
theorem ZG{x:J7}{st:St}(b:Bool)
  (k:GG P Γ K (oB b x) st)
  (hv:jQ x st = .bool b:=by kernel_rfl):GG P Γ K x st:=by
 cases x with
 | out e fs=>cases hv
 | run c fs=>
  cases c with
  | cond c y z=>
   refine NW b hv (λhb=>Hy (n:=400) ?_) (λhb=>Hy (n:=400) ?_)
   ·subst hb;exact k
   ·subst hb;exact k
  | _=>cases hv
theorem lt1{P:Nat->Prop}(h0:P 0)(i:Nat)(h:i<1):P i:=by
 grind
theorem rk(o:Own):some o=some o:=rfl
theorem gK{x:J7}{st:St}{e:Exit}(h:K e st)(hx:x = .out e []:=by kernel_rfl):GG P Γ K x st:=by subst hx;exact h
def aG(Γ:G1)(e0:Exit)(og:St):Exit->St->Prop:=λe st=>e=e0/\Le Γ st og
def aR(K:Exit->St->Prop):Exit->St->Prop:=λe st=>e = .ret/\K e st
theorem D1{e0:Exit}{og st:St}(h:Le Γ st og):aG Γ e0 og e0 st:=⟨rfl,h⟩
theorem Su{st:St}(h:K .ret st):aR K .ret st:=⟨rfl,h⟩
def pJ:Exit->Bool | .normal=>true|_=>false
theorem gN{S X:Type}{x:J7}{st:St}{H:S->St}{KX:X->Exit->St->Prop}{s':S}(h:Le Γ st (H s'))(hx:x = .out .normal []:=by kernel_rfl):GG P Γ (My Γ H KX (.next s')) x st:=by
 subst hx;exact⟨rfl,h⟩
theorem gO{S X:Type}{x:J7}{st:St}{H:S->St}{KX:X->Exit->St->Prop}{y:X}{e:Exit}(h:KX y e st)(hx:x = .out e []:=by kernel_rfl)(hn:pJ e=false:=by kernel_rfl):GG P Γ (My Γ H KX (.done y)) x st:=by
 subst hx;exact⟨(by rintro rfl;cases hn),h⟩
def fK(P:Program)(Γ:G1)(rs:List ResultVar)(H:List (Nat×Own))(res:AV)(H':List (Nat×Own)):Exit->St->Prop:=ou Γ (ma P rs H res H')
theorem Kl{rs:List ResultVar}{H H':List (Nat×Own)}{res:AV}{st st':St}{e:Exit}(ρ:List (Nat×Nat))(hl:Le Γ st st')(hr:XD P rs ρ H st'=some (res,H'):=by kernel_rfl)
  (he:(match e with | .ret=>true | .normal=>true|_=>false)=true:=by kernel_rfl):fK P Γ rs H res H' e st:=by
 refine⟨st',hl,?_,ρ,hr⟩
 cases e with
 | ret=>exact .inl rfl
 | normal=>exact .inr rfl
 | _=>cases he
theorem Cf{rs:List ResultVar}{H H':List (Nat×Own)}{res:AV}{x:J7}{st:St}(ρ:List (Nat×Nat))(hr:XD P rs ρ H st=some (res,H'):=by kernel_rfl)
  (hx:x = .out .ret []:=by kernel_rfl):GG P Γ (fK P Γ rs H res H') x st:=gK  (Kl ρ (Le.refl _ _) hr) hx
def LB(fn:Func):Code:=match fn.body with|some c=>c|none=>.skip
theorem Zl {f : FuncId} {fn : Func} {args : List AV} {H H' : List (Nat × Own)} {res : AV} (hm : P.follows .mixedOrders = true) (hf : P.funcs[f]? = some fn)
    (k : ∀ Γ : G1, RgQ P Γ fn.ntmps H → GG P Γ (fK P Γ fn.results.toList H res H') (gz (LB fn) []) (Yv args H))
    (hb : fn.body.isSome = true := by kernel_rfl) (hname : (fn.name == "runtime.NumGoroutine") = false := by kernel_rfl) (hlen : Nat.ble args.length fn.ntmps = true := by kernel_rfl) (hpl : FB H = true := by kernel_rfl) : Spec P f args H res H' := by
  obtain ⟨c, hc⟩ := zzL75.1 hb
  have e : LB fn = c := by unfold LB; rw [hc]
  refine QS hf hc hname hlen (fun Γ hn hΓ => ?_) hpl; have := k Γ ⟨hn, hm, hΓ⟩; rw [e] at this; exact kI (Hy this)
theorem dJ{st st':St}(h:st=st'):Le Γ st st':=h▸Le.refl Γ st
def TJ:J7->Bool | .run (.loop _) _=>true|_=>false
def jP:J7->J7
 | .run (.loop c) _=>gz c []
 | x=>x
def dm(e:Exit):J7->J7
 | .run _ fs=>oD e fs
 | x=>x
def mV{α:Type}(k:Nat)(x:α):List (Nat×α)->List (Nat×α)
 | []=>[(k,x)]
 | (k',y)::l=>bif Nat.beq k k' then(k,x)::l else bif Nat.blt k k' then(k,x)::(k',y)::l else(k',y)::mV k x l
def iY{α:Type}:List (Nat×α)->List (Nat×α)->List (Nat×α)
 | [],l=>l
 | (k,x)::r,l=>iY r (mV k x l)
def Fx(st:St)(ts:List (Nat×AV))(os:List (Nat×Own))(fs:List (Nat×bH):=[]):St:=⟨iY ts st.tmps,iY os st.own,iY fs st.fam⟩
def Yj(live names:List Nat)(st:St)(ts:List (Nat×AV))(os:List (Nat×Own))(fs:List (Nat×bH):=[]):St:=A2 live names (Fx st ts os fs)
theorem gL{S X:Type}{x:J7}{st:St}{n:Nat}{Hf:List (Nat×Own)}(q:RgQ P Γ n Hf){f:S->Option (LR S X)}{s0:S}{y:X}(hx:Ah f s0=some y)(live names:List Nat)(H:St->S->St)(KX:St->X->Exit->St->Prop)
  (kb:∀ s y,f s=some y->GG P Γ (My Γ (H (A2 live names st)) (KX (A2 live names st)) y) (jP x) (H (A2 live names st) s)) (ko:∀ e st',KX (A2 live names st) y e st'->GG P Γ K (dm e x) st')
  (h0:A2 live names st=H (A2 live names st) s0:=by kernel_rfl) (hl:TJ x=true:=by kernel_rfl) (hh:(Hf.all λx=>Cd x.1 names)=true:=by kernel_rfl):GG P Γ K x st:=by
 cases x with
 | out e fs=>cases hl
 | run c fs=>
  cases c with
  | loop c=>
   refine SR  ?_ (cD _ f _ (λs y hy=>Hy (kb s y hy)) hx λe st' hk=>S9 (ko e st' hk));rw[<- h0];exact Dj _ _ q rfl hh
  | _=>cases hl
theorem gA{x:J7}{f:Exit->J7->J7}{e0:Exit}{og:St}
  (k:GG P Γ K (f e0 x) og)
  (hr:ja (f e0 x)=true:=by kernel_rfl):∀ e st',aG Γ e0 og e st'->GG P Γ K (f e x) st':=by
 rintro e st' ⟨rfl,hl⟩;exact Mr hl k hr
theorem jW{x:J7}{f:Exit->J7->J7}{e0:Exit}{og:St}(k:∀ st',Le Γ st' og->GG P Γ K (f e0 x) st'):∀ e st',aG Γ e0 og e st'->GG P Γ K (f e x) st':=by
 rintro e st' ⟨rfl,hl⟩;exact k st' hl
theorem Xa{x:J7}{f:Exit->J7->J7}{K':Exit->St->Prop}(k:∀ st',K' .ret st'->GG P Γ K (f .ret x) st'):∀ e st',aR K' e st'->GG P Γ K (f e x) st':=by
 rintro e st' ⟨rfl,hl⟩;exact k st' hl
theorem gU{x:J7}{st:St}(n:Nat)
  (k:GG P Γ K (match x with | .run (.loop c) fs=>gz c (.ag c n::fs)|x=>x) st)
  (hl:TJ x=true:=by kernel_rfl):GG P Γ K x st:=by
 cases x with
 | out e fs=>cases hl
 | run c fs=>
  cases c with
  | loop c=>exact ST (n+1) (Hy k)
  | _=>cases hl
def mQ:J7->Bool | .run (.seq _ _) _=>true|_=>false
def mO:J7->J7
 | .run (.seq a _) _=>gz a []
 | x=>x
def mZ(e:Exit):J7->J7
 | .run (.seq _ b) fs=>oD e (.nx b::fs)
 | x=>x
theorem gJ{X:Type}{x:J7}{st:St}{m:Option X}{y:X}(hx:m=some y)(KX:X->Exit->St->Prop)
  (kb:∀ y,m=some y->GG P Γ (KX y) (mO x) st) (ko:∀ e st',KX y e st'->GG P Γ K (mZ e x) st')
  (hs:mQ x=true:=by kernel_rfl):GG P Γ K x st:=by
 cases x with
 | out e fs=>cases hs
 | run c fs=>
  cases c with
  | seq a b=>exact LA (cC KX hx (λy hy=>Hy (kb y hy)) λe st' hk=>S9 (ko e st' hk))
  | _=>cases hs
def g9:J7->Bool | .run (.scope _) _=>true|_=>false
def mc:J7->Code | .run (.scope c) _=>c|_=>.skip
def mR(c:Code)(l:Nat):J7:=gz ((findLabel c l).getD .skip) []
theorem gS{S X:Type}{x:J7}{st:St}{f0:Option (LR S X)}{f:S->Option (LR S X)}{y:X}(hx:Pp f0 f=some y)(lab:S->Nat)(H:S->St)(KX:X->Exit->St->Prop)
  (k0:∀ y,f0=some y->GG P Γ (DX Γ (mc x) lab H KX y) (gz (mc x) []) st) (kb:∀ s y,f s=some y->GG P Γ (DX Γ (mc x) lab H KX y) (mR (mc x) (lab s)) (H s)) (ko:∀ e st',KX y e st'->GG P Γ K (dm e x) st')
  (hs:g9 x=true:=by kernel_rfl):GG P Γ K x st:=by
 cases x with
 | out e fs=>cases hs
 | run c fs=>
  cases c with
  | scope c=>
   refine YN lab H f0 f KX (λy hy=>Hy (k0 y hy)) (λs y rest hf hy=>?_) hx λe st' hk=>S9 (ko e st' hk);have:=kb s y hy;unfold mR mc at this;rw[hf]at this;exact Hy this
  | _=>cases hs
theorem gu{S X:Type}{x:J7}{st:St}{c:Code}{lab:S->Nat}{H:S->St}{KX:X->Exit->St->Prop}{s':S}(h:Le Γ st (H s'))(hx:x = .out (.goto (lab s')) []:=by kernel_rfl)(hf:(findLabel c (lab s')).isSome=true:=by kernel_rfl) :
  GG P Γ (DX Γ c lab H KX (.next s')) x st:=by
 subst hx;exact⟨rfl,hf,h⟩
theorem jX{S X:Type}{x:J7}{st:St}{c:Code}{lab:S->Nat}{H:S->St}{KX:X->Exit->St->Prop}{y:X}{e:Exit}(h:KX y e st)(hx:x = .out e []:=by kernel_rfl)
  (hf:(match e with | .goto l=>(findLabel c l).isNone|_=>true)=true:=by kernel_rfl):GG P Γ (DX Γ c lab H KX (.done y)) x st:=by
 subst hx;refine⟨?_,h⟩;rintro l rfl
 simpa using hf
theorem S4{α:Type}{st:St}(U:α->St->St){a b:α}(h:a=b)(h1:st=U a st:=by kernel_rfl):Le Γ st (U b st):=by subst h;exact dJ h1
theorem oF{st:St}(F F':Bool->St->St)(g:Bool)(h1:st=F g st:=by kernel_rfl)(ht:F true st=F' true st:=by kernel_rfl)(hf:F false st=F' false st:=by kernel_rfl):Le Γ st (F' g st):=by
 refine dJ (h1.trans ?_)
 cases g<;>assumption
def Own.withF(g:Nat->List AV):Own->Own
 | .arr sz e n _=>.arr sz e n g
 | o=>o
def jO(st:St)(nm:Nat):Option (Nat×(Nat->List AV)):=match Ac st.own nm with|some (.arr _ _ n f)=>some (n,f)|_=>none
def me(nm:Nat)(g:Nat->List AV)(st:St):St:=⟨st.tmps,(match Ac st.own nm with|some o=>Cs st.own nm (o.withF g)|none=>st.own),st.fam⟩
theorem EX{nm sz n:Nat}{e:TypeId}{f g:Nat->List AV}(hp:∀ k,k<n->AVleL (f k) (g k)):∀{l:List (Nat×Own)},Ac l nm=some (.arr sz e n f)->OwnsLe l (Cs l nm (.arr sz e n g))
 | [],h=>by cases h
 | (k,o)::l,h=>by
  simp only[Ac]at h;simp only[Cs]
  cases hb:Nat.beq k nm with
  | true=>
   obtain rfl:=Bx hb;rw[hb]at h;simp only[Ae,Af]at h;subst h;exact .arr hp (.refl _)
  | false=>
   rw[hb]at h;exact .same (EX hp h)
theorem Xd{st:St}(nm:Nat){n:Nat}{f g:Nat->List AV}(hp:∀ k,k<n->AVleL (f k) (g k))(h:jO st nm=some (n,f):=by kernel_rfl):Le Γ st (me nm g st):=by
 unfold jO at h;unfold me
 cases ho:Ac _ nm with
 | none=>rw[ho]at h;cases h
 | some o=>
  rw[ho]at h
  cases o with
  | arr sz e n' f'=>
   obtain⟨rfl,rfl⟩:=h;exact Jf (TmpsLe.refl _) (EX hp ho)
  | _=>cases h
def cQ(st:St)(nm j:Nat):Option AV:=match Ac st.own nm with|some (.row _ cells)=>cells[j]? | _=>none
def Own.withC(j:Nat)(x:AV):Own->Own
 | .row e cells=>.row e (cells.set j x)
 | o=>o
def md(nm j:Nat)(x:AV)(st:St):St:=⟨st.tmps,(match Ac st.own nm with|some o=>Cs st.own nm (o.withC j x)|none=>st.own),st.fam⟩
theorem WT{a b:AV}(h:AVle a b):∀{l:List AV} {j:Nat},l[j]?=some a->AVleL l (l.set j b)
 | [],j,h=>by simp at h
 | x::l,0,h'=>by
  simp only[List.getElem?_cons_zero,Af]at h';subst h';exact .cons h (.refl _)
 | x::l,j+1,h'=>by
  exact .cons (.refl _) (WT h h')
theorem EY{nm:Nat}{e:TypeId}{x y:List AV}(hp:AVleL x y):∀{l:List (Nat×Own)},Ac l nm=some (.row e x)->OwnsLe l (Cs l nm (.row e y))
 | [],h=>by cases h
 | (k,o)::l,h=>by
  simp only[Ac]at h;simp only[Cs]
  cases hb:Nat.beq k nm with
  | true=>
   obtain rfl:=Bx hb;rw[hb]at h;simp only[Ae,Af]at h;subst h;exact .row hp (.refl _)
  | false=>
   rw[hb]at h;exact .same (EY hp h)
theorem hZ{st:St}(nm j:Nat){a b:AV}(hp:AVle a b)(h:cQ st nm j=some a:=by kernel_rfl):Le Γ st (md nm j b st):=by
 unfold cQ at h;unfold md
 cases ho:Ac _ nm with
 | none=>rw[ho]at h;cases h
 | some o=>
  rw[ho]at h
  cases o with
  | row e cells=>exact Jf (TmpsLe.refl _) (EY (WT hp h) ho)
  | _=>cases h
theorem ZZ{V:Type}:JG ([]:List (Int×V)) []:=⟨.nil,List.nodup_nil⟩
def ji(nm:Nat)(x:AObj)(st:St):St:=⟨st.tmps,Cs st.own nm (.obj x),st.fam⟩
theorem ov{V:Type}{st:St}(nm:Nat)(nn:Bool)(k:IntKind){f:V->AV}{a b:List (Int×V)}(hp:JG a b)(h:Ac st.own nm=some (.obj (.map nn k (mapE f a))):=by kernel_rfl)(hlt:Nat.blt nm A8=true:=by kernel_rfl):Le Γ st (ji nm (.pmap nn k (mapE f b)) st):=
 LQ _ h (λ_ _ _ _ h=>TT hp h) hlt
theorem pK{st:St}(nm:Nat)(k:IntKind)(l:List (Int×AV))(h:Ac st.own nm=some (.obj (.pmap true k l)):=by kernel_rfl)(hlt:Nat.blt nm A8=true:=by kernel_rfl):Le Γ st (ji nm (.pmap false k l) st):=
 LQ _ h (λ_ _ _ _ h=>ZV h) hlt
theorem gI(g:Bool):g=true->g=true:=id
theorem Lq(c:Bool):c=true->(c==true)=true:=gT
theorem Ux(c:Bool):c=false->(c==false)=true:=gF
theorem Bm{α:Type}(sz:Nat)(e:α->List AV)(d:α)(l:List α):AVle (.slice sz l.length (λi=>(l.map e).getD i []) .exact) (AV.list sz e d l .exact):=kH rfl λi h=>iD l i h
theorem G3{α:Type}(sz:Nat)(e:α->List AV)(d:α):AVle (.slice 0 0 (λ_=>[]) .exact) (AV.list sz e d [] .exact):=D2
theorem Ub{α:Type}(sz nm:Nat)(e:α->List AV)(d:α)(l m:List α):AVle (.slice sz (l.length+m.length) (Jk l.length (λi=>e (l.getD i d)) (λi=>e (m.getD i d))) (.own nm)) (AV.list sz e d (l++m) (.own nm)):=kG
def dN(x:J7)(ix tx bx:Nat):Bool:=
 match x with
 | .run (.loop (.seq (.region _ ops false) _)) _=>
  match ops.toList with
  | [o1,o2]=>
   (match o1.op,o2.op with | .next (.tmp a) false,.extract (.tmp b) 0=>Nat.beq a ix&&Nat.beq b tx|_,_=>false) &&
   (match o1.dst,o2.dst,o1.guard,o2.guard with|some a,some b,none,none=>Nat.beq a tx&&Nat.beq b bx|_,_,_,_=>false)
  | _=>false
 | _=>false
def CN:J7->J7
 | .run (.loop (.seq _ c)) _=>gz c []
 | x=>x
theorem pI{S X:Type}{x:J7}{st:St}{n:Nat}{Hf:List (Nat×Own)}(q:RgQ P Γ n Hf){len:Nat}{f:Nat->S->Option (LR S X)}{g:S->Option (LR S X)}{s0:S}(Q:X->Prop)(hx:∀ τ:List Nat,τ.Perm (List.range len)->∃ x,Tk f g τ s0=some x/\Q x)(live names:List Nat)(H:St->List Nat->S->St)(KX:St->X->Exit->St->Prop)
  (ix tx bx nm mm:Nat) (nn:Bool) (km:IntKind) (l:List (Int×AV)) (lv2 nm2:List Nat)
  (h0:A2 live names st=H (A2 live names st) [] s0:=by kernel_rfl) (hc:dN x ix tx bx=true:=by kernel_rfl) (hb:(Nat.blt tx n&&(Nat.blt bx n&&(Nat.blt nm A8&&Nat.blt mm A8)))=true:=by kernel_rfl)
  (hit:(λz s=>(H (A2 live names st) z s).get ix)=(λ_ _=>AV.optr nm mm):=by kernel_rfl) (hmi:(λz s=>Ac (H (A2 live names st) z s).own nm)=(λz _=>some (.obj (.miter (.omap mm) len z))):=by kernel_rfl)
  (hma:(λz s=>Ac (H (A2 live names st) z s).own mm)=(λ_ _=>some (.obj (.map nn km l))):=by kernel_rfl) (hlen:len=l.length:=by kernel_rfl) (hh:(Hf.all λx=>Cd x.1 names)=true:=by kernel_rfl) (hh2:(Hf.all λx=>Cd x.1 nm2)=true:=by kernel_rfl)
  (kd:∀ z s y,g s=some y->(∀ i,i<len->i∈z)->GG P Γ (My Γ (H (A2 live names st) z) (KX (A2 live names st)) y) (CN x) (A2 lv2 nm2 (((H (A2 live names st) z s).upd (some tx) (.tuple [.bool false]) []).upd (some bx) (.bool false) [])))
  (kn:∀ z s i y,f i s=some y->i<len->i∉z->GG P Γ (My Γ (H (A2 live names st) (i::z)) (KX (A2 live names st)) y) (CN x)
   (A2 lv2 nm2 (((H (A2 live names st) z s).upd (some tx) (.tuple [.bool true,.int km (l.getD i (0,.any)).1,(l.getD i (0,.any)).2]) [(nm,.obj (.miter (.omap mm) len (i::z)))]).upd (some bx) (.bool true) [])))
  (ko:∀ y,Q y->∀ e st',KX (A2 live names st) y e st'->GG P Γ K (dm e x) st'):GG P Γ K x st:=by
 unfold dN at hc
 split at hc
 ·rename_i id ops rest fs
  split at hc
  ·rename_i o1 o2 hops
   obtain rfl:ops = #[o1,o2]:=by grind
   simp only[A4]at hc;obtain⟨c1,c2⟩:=hc
   split at c1
   ·rename_i a b e1 e2
    split at c2
    ·rename_i a' b' e3 e4 e5 e6
     simp only[A4]at c1 c2;obtain rfl:=Bx c1.1;obtain rfl:=Bx c1.2;obtain rfl:=Bx c2.1;obtain rfl:=Bx c2.2;refine SR  ?_ (NX Q len (H (A2 live names st)) f g _ (λz s hg hf=>?_) hx λy hy e st' hk=>S9 (ko y hy e st' hk))
     ·rw[<- h0];exact Dj _ _ q rfl hh
     refine LA (YM q lv2 nm2 e1 e3 e5 e2 e4 e6 hb (congrFun (congrFun hit z) s) (congrFun (congrFun hmi z) s) (congrFun (congrFun hma z) s) hlen hh2 (λhall=>?_) (λi hi hn=>?_))
     ·obtain⟨y,h⟩:=hg hall;exact DH (Hy (kd z s y h hall)) (λe st' hk=>.inl ⟨y,h,hk,hall⟩)
     ·obtain⟨y,h⟩:=hf i hi hn;exact DH (Hy (kn z s i y h hi hn)) (λe st' hk=>.inr ⟨i,y,h,hk,hi,hn⟩)
    ·cases c2
   ·cases c1
  ·cases hc
 ·cases hc
theorem pH{S X:Type}{x:J7}{st:St}{n:Nat}{Hf:List (Nat×Own)}(q:RgQ P Γ n Hf){len:Nat}{f:Nat->S->Option (LR S X)}{g:S->Option (LR S X)}{s0:S}{eqv:X->X->Prop}{y:X}(hx:We eqv len f g s0=some y)(live names:List Nat)(H:St->List Nat->S->St)(KX:St->X->Exit->St->Prop)
  (ix tx bx nm mm:Nat) (nn:Bool) (km:IntKind) (l:List (Int×AV)) (lv2 nm2:List Nat)
  (h0:A2 live names st=H (A2 live names st) [] s0:=by kernel_rfl) (hc:dN x ix tx bx=true:=by kernel_rfl) (hb:(Nat.blt tx n&&(Nat.blt bx n&&(Nat.blt nm A8&&Nat.blt mm A8)))=true:=by kernel_rfl)
  (hit:(λz s=>(H (A2 live names st) z s).get ix)=(λ_ _=>AV.optr nm mm):=by kernel_rfl) (hmi:(λz s=>Ac (H (A2 live names st) z s).own nm)=(λz _=>some (.obj (.miter (.omap mm) len z))):=by kernel_rfl)
  (hma:(λz s=>Ac (H (A2 live names st) z s).own mm)=(λ_ _=>some (.obj (.map nn km l))):=by kernel_rfl) (hlen:len=l.length:=by kernel_rfl) (hh:(Hf.all λx=>Cd x.1 names)=true:=by kernel_rfl) (hh2:(Hf.all λx=>Cd x.1 nm2)=true:=by kernel_rfl)
  (kd:∀ z s y,g s=some y->(∀ i,i<len->i∈z)->GG P Γ (My Γ (H (A2 live names st) z) (KX (A2 live names st)) y) (CN x) (A2 lv2 nm2 (((H (A2 live names st) z s).upd (some tx) (.tuple [.bool false]) []).upd (some bx) (.bool false) [])))
  (kn:∀ z s i y,f i s=some y->i<len->i∉z->GG P Γ (My Γ (H (A2 live names st) (i::z)) (KX (A2 live names st)) y) (CN x)
   (A2 lv2 nm2 (((H (A2 live names st) z s).upd (some tx) (.tuple [.bool true,.int km (l.getD i (0,.any)).1,(l.getD i (0,.any)).2]) [(nm,.obj (.miter (.omap mm) len (i::z)))]).upd (some bx) (.bool true) [])))
  (ko:∀ y',eqv y' y->∀ e st',KX (A2 live names st) y' e st'->GG P Γ K (dm e x) st'):GG P Γ K x st:=
 pI q _ (AZ hx) _ _ H KX ix tx bx nm mm nn km l lv2 nm2 h0 hc hb hit hmi hma hlen hh hh2 kd kn ko
theorem Mo{st st':St}(h:st=st':=by kernel_rfl):Le Γ st st':=h▸Le.refl Γ st
theorem ci{p q:Prop}(a:p)(b:q):p/\q:=⟨a,b⟩
theorem c1{p:Prop}(a:p):p/\True:=⟨a,trivial⟩
end
section
variable {P:Program} {Γ:G1} {K:Exit->St->Prop}
theorem tB{α β:Type}{m:Option α}{f:α->Option β}{r:β}{G:Prop}(h:m.bind f=some r)(k:∀ x,m=some x->f x=some r->G):G:=have⟨x,hx,h⟩:=bind_some h;k x hx h
theorem tC{β:Type}{c:Prop}[Decidable c]{m:Option β}{r:β}{G:Prop}(h:Ci c m=some r)(k:c->m=some r->G):G:=k (Nr h).1 (Nr h).2
@[elab_as_elim] theorem tS{α:Type}{a:α}{M:α->Prop}{b:α}(h:some a=some b)(k:M a):M b:=OI h▸k
theorem tV{x:J7}{st:St}{n:Nat}{H:List (Nat×Own)}(q:RgQ P Γ n H)(live names:List Nat){β:Type}{c:Prop}[Decidable c]{m:Option β}{r:β}(h:Ci c m=some r)
  (k:m=some r->GG P Γ K (iM x) (iN P (Spec P) n [] live names x st []))
  (h1:fT (fR P (Spec P) n [] live names x st [])=some (c/\True,true):=by kernel_rfl) (hh:(H.all λx=>Cd x.1 names)=true:=by kernel_rfl):GG P Γ K x st:=gR q live names [] [] (c1 (Nr h).1) (k (Nr h).2) h1 hh
theorem tN{S X:Type}{x:J7}{st:St}{H:S->St}{KX:X->Exit->St->Prop}{s':S}{y:LR S X}(h:some (.next s')=some y)(h1:st=H s':=by kernel_rfl)(hx:x = .out .normal []:=by kernel_rfl):GG P Γ (My Γ H KX y) x st:=OI h▸gN (Mo h1) hx
theorem tL{S X α:Type}{x:J7}{st:St}{n:Nat}{Hf:List (Nat×Own)}(q:RgQ P Γ n Hf){f:S->Option (LR S X)}{s0:S}{g:X->Option α}{r:α}(h:(Ah f s0).bind g=some r)(live names:List Nat)(H:St->S->St)(KX:St->X->Exit->St->Prop)
  (kb:∀ s y,f s=some y->GG P Γ (My Γ (H (A2 live names st)) (KX (A2 live names st)) y) (jP x) (H (A2 live names st) s)) (ko:∀ y,g y=some r->∀ e st',KX (A2 live names st) y e st'->GG P Γ K (dm e x) st')
  (h0:A2 live names st=H (A2 live names st) s0:=by kernel_rfl) (hl:TJ x=true:=by kernel_rfl) (hh:(Hf.all λx=>Cd x.1 names)=true:=by kernel_rfl):GG P Γ K x st:=tB h λy hy h=>gL q hy live names H KX kb (ko y h) h0 hl hh
theorem tU{x:J7}{st:St}{n:Nat}{H:List (Nat×Own)}(q:RgQ P Γ n H)(live names:List Nat){O:Prop}(hO:O)
  (k:GG P Γ K (iM x) (iN P (Spec P) n [] live names x st []))
  (h:fT (fR P (Spec P) n [] live names x st [])=some (O,true):=by kernel_rfl) (hh:(H.all λx=>Cd x.1 names)=true:=by kernel_rfl):GG P Γ K x st:=gR q live names [] [] hO k h hh
theorem tT{x:J7}{st:St}{n:Nat}{H:List (Nat×Own)}(q:RgQ P Γ n H)(live names:List Nat)(rs:List Sd){O:Prop}(hO:O)
  (k:GG P Γ K (iM x) (iN P (Spec P) n [] live names x st rs))
  (h:fT (fR P (Spec P) n [] live names x st rs)=some (O,true):=by kernel_rfl) (hh:(H.all λx=>Cd x.1 names)=true:=by kernel_rfl):GG P Γ K x st:=gR q live names [] rs hO k h hh
theorem tW{x:J7}{st:St}{n:Nat}{H:List (Nat×Own)}(q:RgQ P Γ n H)(live names live2 names2:List Nat)
  (k:GG P Γ K (iM (iM x)) (iN P (Spec P) n [] live2 names2 (iM x) (iN P (Spec P) n [] live names x st []) []))
  (h:fT (fR P (Spec P) n [] live names x st [])=some (True,true):=by kernel_rfl) (hh:(H.all λx=>Cd x.1 names)=true:=by kernel_rfl)
  (h2:fT (fR P (Spec P) n [] live2 names2 (iM x) (iN P (Spec P) n [] live names x st []) [])=some (True,true):=by kernel_rfl) (hh2:(H.all λx=>Cd x.1 names2)=true:=by kernel_rfl):GG P Γ K x st:=An q live names (An q live2 names2 k h2 hh2) h hh
end
theorem Yu{R:Prop}(g:Bool)(r:R):(g=true->g=true)/\((g=true->g=true)/\(R)):=⟨id,⟨id,r⟩⟩
theorem WN{R:Prop}(g:Bool)(r:R):(g=true->g=true)/\((g=true->g=true)/\((g=true->g=true)/\(R))):=⟨id,⟨id,⟨id,r⟩⟩⟩
theorem lV{R:Prop}(g:Bool)(r:R):(g=true->g=true)/\((g=true->g=true)/\((g=true->g=true)/\((g=true->g=true)/\(R)))):=⟨id,⟨id,⟨id,⟨id,r⟩⟩⟩⟩
theorem mN{R:Prop}(g:Bool)(r:R):(g=true->g=true)/\((g=true->g=true)/\((g=true->g=true)/\((g=true->g=true)/\((g=true->g=true)/\(R))))):=⟨id,⟨id,⟨id,⟨id,⟨id,r⟩⟩⟩⟩⟩
theorem pE{R:Prop}(g:Bool)(r:R):(g=true->g=true)/\((g=true->g=true)/\((g=true->g=true)/\((g=true->g=true)/\((g=true->g=true)/\((g=true->g=true)/\((g=true->g=true)/\(R))))))):=⟨id,⟨id,⟨id,⟨id,⟨id,⟨id,⟨id,r⟩⟩⟩⟩⟩⟩⟩
theorem pF{R:Prop}(g:Bool)(r:R):(g=true->g=true)/\((g=true->g=true)/\((g=true->g=true)/\((g=true->g=true)/\((g=true->g=true)/\((g=true->g=true)/\((g=true->g=true)/\((g=true->g=true)/\(R)))))))):=⟨id,⟨id,⟨id,⟨id,⟨id,⟨id,⟨id,⟨id,r⟩⟩⟩⟩⟩⟩⟩⟩
theorem pG{R:Prop}(g:Bool)(r:R):(g=true->g=true)/\((g=true->g=true)/\((g=true->g=true)/\((g=true->g=true)/\((g=true->g=true)/\((g=true->g=true)/\((g=true->g=true)/\((g=true->g=true)/\((g=true->g=true)/\(R))))))))):=⟨id,⟨id,⟨id,⟨id,⟨id,⟨id,⟨id,⟨id,⟨id,r⟩⟩⟩⟩⟩⟩⟩⟩⟩
theorem gj{p0 p1 R:Prop}(a0:p0)(a1:p1)(r:R):p0/\p1/\R:=⟨a0,a1,r⟩
theorem c2{p0 p1:Prop}(a0:p0)(a1:p1):p0/\p1/\True:=⟨a0,a1,trivial⟩
theorem nQ{p0 p1 p2 R:Prop}(a0:p0)(a1:p1)(a2:p2)(r:R):p0/\p1/\p2/\R:=⟨a0,a1,a2,r⟩
theorem c3{p0 p1 p2:Prop}(a0:p0)(a1:p1)(a2:p2):p0/\p1/\p2/\True:=⟨a0,a1,a2,trivial⟩
theorem pA{p0 p1 p2 p3 R:Prop}(a0:p0)(a1:p1)(a2:p2)(a3:p3)(r:R):p0/\p1/\p2/\p3/\R:=⟨a0,a1,a2,a3,r⟩
theorem c4{p0 p1 p2 p3:Prop}(a0:p0)(a1:p1)(a2:p2)(a3:p3):p0/\p1/\p2/\p3/\True:=⟨a0,a1,a2,a3,trivial⟩
theorem pB{p0 p1 p2 p3 p4 R:Prop}(a0:p0)(a1:p1)(a2:p2)(a3:p3)(a4:p4)(r:R):p0/\p1/\p2/\p3/\p4/\R:=⟨a0,a1,a2,a3,a4,r⟩
theorem c5{p0 p1 p2 p3 p4:Prop}(a0:p0)(a1:p1)(a2:p2)(a3:p3)(a4:p4):p0/\p1/\p2/\p3/\p4/\True:=⟨a0,a1,a2,a3,a4,trivial⟩
theorem pC{p0 p1 p2 p3 p4 p5 R:Prop}(a0:p0)(a1:p1)(a2:p2)(a3:p3)(a4:p4)(a5:p5)(r:R):p0/\p1/\p2/\p3/\p4/\p5/\R:=⟨a0,a1,a2,a3,a4,a5,r⟩
theorem c6{p0 p1 p2 p3 p4 p5:Prop}(a0:p0)(a1:p1)(a2:p2)(a3:p3)(a4:p4)(a5:p5):p0/\p1/\p2/\p3/\p4/\p5/\True:=⟨a0,a1,a2,a3,a4,a5,trivial⟩
theorem c7{p0 p1 p2 p3 p4 p5 p6:Prop}(a0:p0)(a1:p1)(a2:p2)(a3:p3)(a4:p4)(a5:p5)(a6:p6):p0/\p1/\p2/\p3/\p4/\p5/\p6/\True:=⟨a0,a1,a2,a3,a4,a5,a6,trivial⟩
theorem c8{p0 p1 p2 p3 p4 p5 p6 p7:Prop}(a0:p0)(a1:p1)(a2:p2)(a3:p3)(a4:p4)(a5:p5)(a6:p6)(a7:p7):p0/\p1/\p2/\p3/\p4/\p5/\p6/\p7/\True:=⟨a0,a1,a2,a3,a4,a5,a6,a7,trivial⟩
theorem mK{p0 p1 p2 p3 p4 p5 p6 p7 p8 R:Prop}(a0:p0)(a1:p1)(a2:p2)(a3:p3)(a4:p4)(a5:p5)(a6:p6)(a7:p7)(a8:p8)(r:R):p0/\p1/\p2/\p3/\p4/\p5/\p6/\p7/\p8/\R:=⟨a0,a1,a2,a3,a4,a5,a6,a7,a8,r⟩
theorem c9{p0 p1 p2 p3 p4 p5 p6 p7 p8:Prop}(a0:p0)(a1:p1)(a2:p2)(a3:p3)(a4:p4)(a5:p5)(a6:p6)(a7:p7)(a8:p8):p0/\p1/\p2/\p3/\p4/\p5/\p6/\p7/\p8/\True:=⟨a0,a1,a2,a3,a4,a5,a6,a7,a8,trivial⟩
structure oh(c:List AV)(o N sz:Nat)(f:Nat->List AV):Prop where
 get:∀ i,i<N->(c.drop (o+i*sz)).take sz=f i
open Go.Shelf
def OW:Go.Shelf.Ren:=⟨fun|189=>134|125=>147|257=>146|128=>169|129=>170|294=>160|295=>161|296=>162|297=>163|298=>164|299=>165|216=>166|300=>167|301=>168|328=>177|329=>178|330=>179|331=>180|332=>181|215=>182|343=>183|n=>n,fun|28=>22|3=>3|46=>177|0=>0|51=>185|53=>32|4=>4|183=>194|182=>193|131=>197|5=>5|9=>9|218=>204|222=>208|228=>210|229=>117|n=>n,fun|n=>n⟩
theorem WS:Go.Proofs.Lays.n189 Tryz.prog OW:={
 mixed:=by kernel_rfl
 f125:=Tryz.func147.trans (Ca some (by kernel_rfl))
 f128:=Tryz.func169.trans (Ca some (by kernel_rfl))
 f129:=Tryz.func170.trans (Ca some (by kernel_rfl))
 f189:=Tryz.func134.trans (Ca some (by kernel_rfl))
 f215:=Tryz.func182.trans (Ca some (by kernel_rfl))
 f216:=Tryz.func166.trans (Ca some (by kernel_rfl))
 f257:=Tryz.func146.trans (Ca some (by kernel_rfl))
 f294:=Tryz.func160.trans (Ca some (by kernel_rfl))
 f295:=Tryz.func161.trans (Ca some (by kernel_rfl))
 f296:=Tryz.func162.trans (Ca some (by kernel_rfl))
 f297:=Tryz.func163.trans (Ca some (by kernel_rfl))
 f298:=Tryz.func164.trans (Ca some (by kernel_rfl))
 f299:=Tryz.func165.trans (Ca some (by kernel_rfl))
 f300:=Tryz.func167.trans (Ca some (by kernel_rfl))
 f301:=Tryz.func168.trans (Ca some (by kernel_rfl))
 f328:=Tryz.func177.trans (Ca some (by kernel_rfl))
 f329:=Tryz.func178.trans (Ca some (by kernel_rfl))
 f330:=Tryz.func179.trans (Ca some (by kernel_rfl))
 f331:=Tryz.func180.trans (Ca some (by kernel_rfl))
 f332:=Tryz.func181.trans (Ca some (by kernel_rfl))
 f343:=Tryz.func183.trans (Ca some (by kernel_rfl))
 t0:=Tryz.underlying0
 a0:=Tryz.isAgg0
 z0:=Tryz.sizeOf0
 v0:=Tryz.zeroValue0
 t3:=Tryz.underlying3
 a3:=Tryz.isAgg3
 z3:=Tryz.sizeOf3
 v3:=Tryz.zeroValue3
 t4:=Tryz.underlying4
 a4:=Tryz.isAgg4
 z4:=Tryz.sizeOf4
 v4:=Tryz.zeroValue4
 t5:=Tryz.underlying5
 a5:=Tryz.isAgg5
 z5:=Tryz.sizeOf5
 v5:=Tryz.zeroValue5
 t9:=Tryz.underlying9
 a9:=Tryz.isAgg9
 z9:=Tryz.sizeOf9
 v9:=Tryz.zeroValue9
 t28:=Tryz.underlying22
 a28:=Tryz.isAgg22
 z28:=Tryz.sizeOf22
 v28:=Tryz.zeroValue22
 t46:=Tryz.underlying177
 a46:=Tryz.isAgg177
 z46:=Tryz.sizeOf177
 v46:=Tryz.zeroValue177
 t51:=Tryz.underlying185
 a51:=Tryz.isAgg185
 z51:=Tryz.sizeOf185
 v51:=Tryz.zeroValue185
 t53:=Tryz.underlying32
 a53:=Tryz.isAgg32
 z53:=Tryz.sizeOf32
 v53:=Tryz.zeroValue32
 t131:=Tryz.underlying197
 a131:=Tryz.isAgg197
 z131:=Tryz.sizeOf197
 v131:=Tryz.zeroValue197
 t182:=Tryz.underlying193
 a182:=Tryz.isAgg193
 z182:=Tryz.sizeOf193
 v182:=Tryz.zeroValue193
 t183:=Tryz.underlying194
 a183:=Tryz.isAgg194
 z183:=Tryz.sizeOf194
 v183:=Tryz.zeroValue194
 t218:=Tryz.underlying204
 a218:=Tryz.isAgg204
 z218:=Tryz.sizeOf204
 v218:=Tryz.zeroValue204
 t222:=Tryz.underlying208
 a222:=Tryz.isAgg208
 z222:=Tryz.sizeOf208
 v222:=Tryz.zeroValue208
 t228:=Tryz.underlying210
 a228:=Tryz.isAgg210
 z228:=Tryz.sizeOf210
 v228:=Tryz.zeroValue210
 t229:=Tryz.underlying117
 a229:=Tryz.isAgg117
 z229:=Tryz.sizeOf117
 v229:=Tryz.zeroValue117 }
def GU:Go.Shelf.Ren:=⟨fun|15=>133|n=>n,fun|22=>22|3=>3|4=>4|n=>n,fun|n=>n⟩
theorem Yw:Go.Proofs.Lays2.n15 Tryz.prog GU:={
 mixed:=by kernel_rfl
 f15:=Tryz.func133.trans (Ca some (by kernel_rfl))
 t3:=Tryz.underlying3
 a3:=Tryz.isAgg3
 z3:=Tryz.sizeOf3
 v3:=Tryz.zeroValue3
 t4:=Tryz.underlying4
 a4:=Tryz.isAgg4
 z4:=Tryz.sizeOf4
 v4:=Tryz.zeroValue4
 t22:=Tryz.underlying22
 a22:=Tryz.isAgg22
 z22:=Tryz.sizeOf22
 v22:=Tryz.zeroValue22
 i3:=by kernel_rfl }
def GV:Go.Shelf.Ren:=⟨fun|20=>135|n=>n,fun|22=>22|3=>3|4=>4|0=>0|n=>n,fun|n=>n⟩
theorem IL:Go.Proofs.Lays2.n20 Tryz.prog GV:={
 mixed:=by kernel_rfl
 f20:=Tryz.func135.trans (Ca some (by kernel_rfl))
 t0:=Tryz.underlying0
 a0:=Tryz.isAgg0
 z0:=Tryz.sizeOf0
 v0:=Tryz.zeroValue0
 t3:=Tryz.underlying3
 a3:=Tryz.isAgg3
 z3:=Tryz.sizeOf3
 v3:=Tryz.zeroValue3
 t4:=Tryz.underlying4
 a4:=Tryz.isAgg4
 z4:=Tryz.sizeOf4
 v4:=Tryz.zeroValue4
 t22:=Tryz.underlying22
 a22:=Tryz.isAgg22
 z22:=Tryz.sizeOf22
 v22:=Tryz.zeroValue22
 i3:=by kernel_rfl }
open Go.Sort
section
variable {I:Nat->Nat->Prop} {θ:Nat->Option (Nat×Nat)} {w w':World}
theorem UC(I:Nat->Nat->Prop)(θ:Nat->Option (Nat×Nat))(w:World):Gw I (Ac []) θ w:=
 ⟨(λ_ _ _ h=>by cases h),(λ_ _ _ _ h=>by cases h),(λ_ _ _ _ _ h=>(h rfl).elim),(λ_ _ _ _ _ h=>by cases h),(λ_ _ h=>by cases h),(λ_ _ _ h=>by cases h)⟩
theorem dw{own:Nat->Option Own}{zs:Array Value}{x:AV}(h:RepL I own θ w zs.toList [x]):∃ v,zs = #[v]/\Rep I own θ w v x:=by
 obtain⟨l⟩:=zs
 cases h with
 | cons h1 h2=>cases h2;exact⟨_,rfl,h1⟩
theorem U6(hb:Below w.heap.size w w')(hval:∀ b o,I b o->∃ u,w.cell? ⟨b,o,none⟩=some u){N:Nat->Nat->Prop}(hN:∀ b o,N b o->w.heap.size<=b/\∃ u,w'.cell? ⟨b,o,none⟩=some u) :
  Chg (Ac []) θ I w (Ac []) θ (λb o=>I b o\/N b o) w':=
 have hcell:∀ b o,I b o->w'.cell? ⟨b,o,none⟩=w.cell? ⟨b,o,none⟩:=λb o hi=>by
  obtain⟨u,hu⟩:=hval b o hi;exact BG (a:=⟨b,o,none⟩) (hb.block b (L4 hu))
 {imm:=λ_ _ h=>.inl h,cell:=hcell,le:=λ_ _ h=>(by cases h),rel:=UC _ _ _,
  valid:=λb o hi=>by
   rcases hi with hi|hi
   ·obtain⟨u,hu⟩:=hval b o hi;exact⟨u,(hcell b o hi).trans hu⟩
   ·exact(hN b o hi).2,
  os:=hb.os,tape:=hb.tape,output:=hb.output,drawn:=λh=>h.elim,grow:=hb.size,frame:=λb hlt _=>hb.block b hlt,new:=λ_ _ _ h=>(h rfl).elim,
  immNew:=λb o hi=>by
   rcases hi with hi|hi
   ·exact .inl hi
   ·exact .inr (.inl (hN b o hi).1) }
end
theorem Wx{w W:World}{g n:Nat}{os:Array Obj}{d:Array Int}(hb:Below w.heap.size w W)(hg:w.heap.size<=g):Below w.heap.size w (grow (putRow (Value.int .i64) (Sort.ahead W n) g 0 d) os):=by
 have k:=grownBy_sortedI (w:=W) (g:=g) (n:=n) (os:=os) d;refine hb.trans ⟨k.os,k.tape,k.output,k.size,λb hlt=>k.block b (Nat.lt_of_lt_of_le hlt hb.size) (λe=>?_)⟩;have:=OI e;omega
def KO(w W:World)(g cap n:Nat)(zs:List Int):Prop:=
 Below w.heap.size w W/\w.heap.size<=g/\∃ cur,W.heap[g]?=some (.cells cur 3 (0,0))/\n<=cap/\cap<=maxLen/\cur.size=cap/\cur.toList.take zs.length=zs.map (Value.int .i64)/\zs.length=n
theorem XA{w W:World}{v:Value}{n:Nat}{zs:List Int}(h:W.ownsRow w.heap.size 3 1 v n (zs.map (Value.int .i64)))(hne:v≠.slice none 0 0)(hb:Below w.heap.size w W):∃ g cap,v = .slice (some ⟨g,0,none⟩) n cap/\KO w W g cap n zs:=by
 have hl:zs.length=n:=by have:=h.1;simpa using this
 rcases h.2 with⟨rfl,_⟩|⟨g,cap,cur,rfl,hg,hcur,hcap,hmax,hsz,ht⟩
 ·exact(hne rfl).elim
 ·rw[Rp]at hsz ht;exact⟨g,cap,rfl,hb,hg,cur,hcur,hcap,hmax,hsz,by rw[hl];exact ht,hl⟩
theorem cK(ad:Addr)(c:Nat)(w:World):Calls Tryz.prog 133 #[.slice (some ad) 0 c] w λe W=>∃ g cap,e = .returned (.slice (some ⟨g,0,none⟩) 0 cap)/\KO w W g cap 0 []:=
 (Any.slices_Clone_int_zero Yw ad c w).mono λe W ⟨v,he,hown,hne,hb⟩=>by
  obtain⟨g,cap,rfl,h⟩:=XA (zs:=[]) hown hne hb;exact⟨g,cap,he,h⟩
theorem gW(b off n c:Nat)(zs:List Int)(w:World)(hz:zs.length=n)(hbig:n<=17592186044416)(hc:∀ j,j<n->w.cell? ⟨b,off+j,none⟩=some (.int .i64 (zs.getD j 0))) :
  Calls Tryz.prog 133 #[.slice (some ⟨b,off,none⟩) n c] w λe W=>∃ g cap,e = .returned (.slice (some ⟨g,0,none⟩) n cap)/\KO w W g cap n zs:=
 (Any.slices_Clone_int Yw b off n c zs w (by omega) (by omega) (λj hj=>hc j (by omega))).mono λe W ⟨v,he,hown,hne,hb⟩=>by
  rw[show zs.take n=zs by rw[<- hz];exact Wn ..]at hown;obtain⟨g,cap,rfl,h⟩:=XA hown hne hb;exact⟨g,cap,he,h⟩
theorem kR{w W:World}{g cap n:Nat}{zs:List Int}(h:KO w W g cap n zs)(hbig:n<=17592186044416):Calls Tryz.prog 134 #[.slice (some ⟨g,0,none⟩) n cap] W λe W2=>e = .returned (.tuple #[])/\KO w W2 g cap n (zs.mergeSort λx y=>decide (x<=y)):=by
 obtain⟨hb,hg,cur,hcur,hcap,hmax,hsz,ht,rfl⟩:=h;refine(Any.slices_Sort_int WS g 0 cap zs W (holds_of_blockI hcur ht) (Xb hcur) (by omega)).mono λe W2 ⟨he,q,os,hW⟩=>⟨he,?_⟩;subst hW;have hl:(zs.mergeSort λx y=>decide (x<=y)).length=zs.length:=List.length_mergeSort ..;have b2:=Wx (n:=q) (os:=os) (d:=(zs.mergeSort λx y=>decide (x<=y)).toArray) hb hg;exact⟨b2,hg,_,heap_sortedI _ hcur,hcap,hmax,by simp[putCells,hsz],take_putCellsI cur _ (by omega),hl⟩
theorem YR{w W:World}{g cap n:Nat}{zs:List Int}(h:KO w W g cap n zs)(hbig:n<=17592186044416):Calls Tryz.prog 135 #[.slice (some ⟨g,0,none⟩) n cap] W λe W2=>e = .returned (.slice (some ⟨g,0,none⟩) (Lib.compact zs).length cap)/\KO w W2 g cap (Lib.compact zs).length (Lib.compact zs):=by
 obtain⟨hb,hg,cur,hcur,hcap,hmax,hsz,ht,rfl⟩:=h;refine(Any.slices_Compact_int IL g 0 cap zs W (holds_of_blockI hcur ht) (by omega) hcap).mono λe W2 ⟨he,q,hW⟩=>⟨he,?_⟩;subst hW;have hcl:=Lib.compact_length_le zs
 generalize Lib.compact zs=cs at hcl ⊢
 generalize hts:cs++List.replicate (zs.length-cs.length) (0:Int)=ts
 have htl:ts.length=zs.length:=by rw[<- hts,Es,X7];omega
 have b2:=Wx (n:=q) (os:=#[]) (d:=ts.toArray) hb hg;have h2:=heap_sortedI (n:=q) (os:=#[]) ts.toArray hcur;rw[grow_empty]at b2 h2;have h3:=take_putCellsI cur ts (by omega);refine⟨b2,hg,_,h2,by omega,hmax,by simp[putCells,hsz],?_,rfl⟩;have:=Ca (List.take cs.length) h3;rw[List.take_take,Nat.min_eq_left (by omega),<- List.map_take,<- hts,List.take_left' rfl]at this;rw[<- hts];exact this
def fZ(w w':World)(v:Value)(r:List Int):Prop:=
 (v = .slice none 0 0/\r=[])\/∃ g cap,v = .slice (some ⟨g,0,none⟩) r.length cap/\KO w w' g cap r.length r
set_option maxHeartbeats 4000000 in
set_option maxRecDepth 100000 in
theorem eU(a:Option Addr)(n c:Nat)(zs:List Int)(w:World)(hz:zs.length=n)(hn:a=none->n=0)(hbig:n<=17592186044416)
  (hc:0<n->∃ b off,a=some ⟨b,off,none⟩/\∀ j,j<n->w.cell? ⟨b,off+j,none⟩=some (.int .i64 (zs.getD j 0))) :
  Calls Tryz.prog 108 #[.slice a n c] w λe w'=>∃ v,e = .returned v/\Below w.heap.size w w'/\fZ w w' v (Lib.compact (zs.mergeSort λx y=>decide (x<=y))):=by
 cases a with
 | none=>
  obtain rfl:=hn rfl;obtain rfl:zs=[]:=zzL104.1 hz
  have hr:Lib.compact (([]:List Int).mergeSort λx y=>decide (x<=y))=[]:=by simp[Lib.compact,Lib.compactUpTo]
  rw[hr];have h1:Calls Tryz.prog 133 #[.slice none 0 c] w λe w'=>e = .returned (.slice none 0 0)/\w'=w:=Any.slices_Clone_int_nil Yw 0 c w;have h2:Calls Tryz.prog 134 #[.slice none 0 0] w λe w'=>e = .returned (.tuple #[])/\w'=w:=Any.slices_Sort_int_none WS none 0 w;have h3:Calls Tryz.prog 135 #[.slice none 0 0] w λe w'=>e = .returned (.slice none 0 0)/\w'=w:=Any.slices_Compact_int_empty IL none 0 w
  go_enter Tryz.func108,Tryz.ntmps108
  go_wp2_with (first
   | (go_at_call 133;refine h1.mono ?_;rintro e W ⟨rfl,rfl⟩)
   | (go_at_call 134;refine h2.mono ?_;rintro e W ⟨rfl,rfl⟩)
   | (go_at_call 135;refine h3.mono ?_;rintro e W ⟨rfl,rfl⟩))
  go_ret
  exact⟨_,rfl,Below.refl _ _,.inl ⟨rfl,rfl⟩⟩
 | some ad=>
  have h1:Calls Tryz.prog 133 #[.slice (some ad) n c] w λe W=>∃ g cap,e = .returned (.slice (some ⟨g,0,none⟩) n cap)/\KO w W g cap n zs:=by
   by_cases h0:n=0
   ·subst h0;obtain rfl:zs=[]:=zzL104.1 hz;exact cK ad c w
   ·obtain⟨b,off,hab,hcell⟩:=hc (by omega);obtain rfl:=OI hab;exact gW b off n c zs w hz hbig hcell
  go_enter Tryz.func108,Tryz.ntmps108
  go_wp2_with (first
   | (go_at_call 133;refine h1.mono ?_;rintro e W ⟨g,cap,rfl,hO⟩)
   | (go_at_call 134;refine(kR hO hbig).mono ?_;rintro e W2 ⟨rfl,hO2⟩)
   | (go_at_call 135;refine(YR hO2 hbig).mono ?_;rintro e W3 ⟨rfl,hO3⟩))
  go_ret
  exact⟨_,rfl,hO3.1,.inr ⟨_,_,rfl,hO3⟩⟩
def TH(x:Int):List Int->List Int
 | []=>[x]
 | y::l=>if x<=y then x::y::l else y::TH x l
def dD:List Int->List Int
 | []=>[]
 | x::l=>TH x (dD l)
theorem insI_perm(x:Int):∀ l,(TH x l).Perm (x::l)
 | []=>.refl _
 | y::l=>by
  unfold TH
  split
  ·exact .refl _
  ·exact((insI_perm x l).cons y).trans (.swap x y l)
theorem WP{x:Int}:∀{l:List Int},l.Pairwise (·<=·)->(TH x l).Pairwise (·<=·)
 | [],_=>by simp[TH]
 | y::l,h=>by
  have h':=zzL122.1 h;unfold TH
  split
  ·rename_i hxy
   exact zzL122.2 ⟨λz hz=>by
    rcases zzL24.1 hz with rfl|hz
    ·exact hxy
    ·exact Int.le_trans hxy (h'.1 z hz),h⟩
  ·rename_i hxy
   refine zzL122.2 ⟨λz hz=>?_,WP h'.2⟩;rcases zzL24.1 ((insI_perm x l).mem_iff.1 hz) with rfl|hz
   ·omega
   ·exact h'.1 z hz
theorem IK:∀ l,(dD l).Perm l
 | []=>.refl _
 | x::l=>(insI_perm x _).trans ((IK l).cons x)
theorem WR:∀ l,(dD l).Pairwise (·<=·)
 | []=>.nil
 | x::l=>WP (WR l)
theorem WQ(l:List Int):dD l=l.mergeSort λx y=>decide (x<=y):=by
 refine List.Perm.eq_of_pairwise (le:=(·<=·)) (λa b _ _ h1 h2=>Int.le_antisymm h1 h2) (WR l) ?_ ((IK l).trans (List.mergeSort_perm l _).symm);have:=List.pairwise_mergeSort (le:=λ(x y:Int)=>decide (x<=y)) (λa b c h1 h2=>by simp at *;omega) (λa b=>by simp;omega) l
 exact this.imp λh=>by simpa using h
def X6(l:List Int):Option (List Int):=Ci (l.length<=17592186044416) (some (Lib.compact (dD l)))
theorem UX(l r:List Int)(h:X6 l=some r):Spec Tryz.prog 108 [AV.list 1 (λx=>[.int .i64 x]) (0:Int) l .none] [] (AV.list 1 (λx=>[.int .i64 x]) (0:Int) r .none) []:=by
 obtain⟨hlen,h⟩:=Nr h;rw[WQ]at h;obtain rfl:=OI h;refine⟨enters_of Tryz.func108 (by kernel_rfl) rfl,λw I θ zs hargs _ hval _=>?_⟩;obtain⟨v,rfl,hv⟩:=dw hargs;obtain⟨_,a,cap,us,rfl,hcap,hmax,hz,hnn,h1,hl,hr⟩:=hv.slice_val.slice_inv
 have hint:∀ i,i<l.length->us i = .int .i64 (l.getD i 0):=λi hi=>by
  have:=hr i 0 hi (by omega);rw[Rp,Ln]at this;have h2:RepV I w (us i) (.int .i64 (l.getD i 0)):=this;exact Rep.int_inv (own:=Ac []) (θ:=θ) (.val _ _ h2)
 refine(eU a l.length cap l w rfl (λha=>by have:=hnn ha;omega) hlen (λhp=>?_)).mono λe w' ⟨v,he,hb,hout⟩=>?_
 ·obtain⟨b,rfl,hs,_,hcell⟩:=hz hp;obtain⟨blk,off,spot⟩:=b;simp only at hs hcell;subst hs;exact⟨blk,off,rfl,λj hj=>by rw[hcell j (by omega),hint j hj]⟩
 ·generalize Lib.compact (l.mergeSort λx y=>decide (x<=y))=r at hout ⊢
  rcases hout with⟨rfl,rfl⟩|⟨g,cap',rfl,_,hg,cur,hcur,hc1,hc2,hc3,htake,_⟩
  ·exact⟨_,_,θ,he,U6 hb hval (N:=λ_ _=>False) (λ_ _ h=>h.elim),.val _ _ (.slice none 0 0 1 _ (λ_=>undef) (zzL8 _) (Lb _) (λh=>by cases h) (λ_=>rfl) (λj hj=>by simp at hj) (λi hi=>by cases hi) (λi c hi=>by cases hi))⟩
  ·have hcell:∀ j,j<r.length->w'.cell? ⟨g,j,none⟩=some (.int .i64 (r.getD j 0)):=λj hj=>by
    rw[Kh _ _ _ cur 3 (0,0) hcur]
    have h2:(cur.toList.take r.length)[j]?=(r.map (Value.int .i64))[j]?:=by rw[htake]
    rw[List.getElem?_take_of_lt hj,Array.getElem?_toList]at h2;rw[h2];simp[List.getD,hj]
   refine⟨_,_,θ,he,U6 hb hval (N:=λb o=>b=g/\o<r.length) (λb o ⟨hbg,ho⟩=>⟨by omega,by subst hbg;exact⟨_,hcell o ho⟩⟩),.val _ _ (.slice (some ⟨g,0,none⟩) r.length cap' 1 _ (λj=>.int .i64 (r.getD j 0)) hc1 hc2 (λ_=>⟨⟨g,0,none⟩,rfl,rfl,λj hj=>.inr ⟨rfl,by simpa using hj⟩,λj hj=>by rw[Fj];exact hcell j (by omega)⟩) (λh=>by cases h) (λ_ _=>rfl) (λ_ _=>rfl) (λi c hi hc=>?_))⟩
   obtain rfl:c=0:=by omega
   rw[Rp,Ln];exact .int _ _
abbrev Am:=List Int
abbrev Ob:=List (List Int)
def Fh:=[30000,37006,9100005]
def U3:=[(30000,30000),(37006,37006),(9100005,9100005)]
def Fk:=[30000,37006]
def M3:=[3,30000,37006,9100005]
def Kj:=[2,5,6,25,36007]
def Ps:=[6,30000,37006,9100005]
def RL:=[(30000,30000),(9100000,9100000),(9100001,9100001)]
def Oh:=[3,4,6,7,5700]
def CA:=[(30000,30000),(37006,37006)]
def Kk:=[2,13,21]
def Lc:=[8,30000,37006]
def Ib:=[1,7,8,9]
def R9:=[30000,37006,13000005]
def T5:=[3,4,6,7,5700,30000]
def Lo:=[2,3,4,6,7]
def Yc:=[3,5,30000,37006,9100005]
def Yd:=[0,4,6,21,22,30,31,32]
def Ye:=[4,30000,9100000,9100001]
def Vu:=[2,5,6,7,26,27,28]
def BJ:=[5,30000,37006,9100005]
def XL:=[0,2,3,8,9,16,17,18,54,55,56,62,63,64]
def XM:=[0,2,3,5,16,17,18,24,25,26,31,32,33]
def KA:=[4,7,30000,9100000,9100001]
def Vv:=[2,5,6,7,8,9]
def Gv:=[0,1]
def KB:=[3,9,30000,37006,9100005]
def RG:=[3,7,10,11,12,17,18,19,25]
def T6:=[2,5,6,7,8]
def T7:=[1,3,4,5,6]
def RH:=[0,2,3,16,17,18,24,25,26]
def RI:=[0,2,3,16,17,18,54,55,56]
def en:=[(30000,30000),(37006,37006),(13000005,9200005)]
def ep:=[(30000,30000),(37006,37006),(9300005,9200005)]
def Pb:=[10,70010]
def XN:=[3,7,10,11,12,17,18,19,24,25]
def Yf:=[3,10,11,12]
def RJ:=[3,10,11,12,17,18,19]
def BK:=[1,7,8,9,10]
def KC:=[3,31,30000,37006]
def BL:=[1,6,7,8,9]
def XO:=[3,4,11,12,13,18,19,20]
def XP:=[0,5,12,13,14,18,19,20]
def XQ:=[6,7,30000,37006,9100005]
def GJ:=[1,7,8,9,16]
def Vw:=[0,21,22]
def KD:=[31,30000,37006]
def KE:=[2,3,4,6,7,8]
def RK:=[0,2,3,16,17,18]
def GK:=[5,27,28,29]
def Mn:=[7,8]
def er:=[0,4,6,21,22,30,31,32,33]
def et:=[0,4,6,21,22,30,31,32,40]
def KF:=[0,5,8,9,10]
def ez:=[0,4,6,8,21,22,30,31,32]
def e8:=[4,6,30000,9100000,9100001]
def jr:=[(30000,30000),(37006,37006),(8,9200005)]
def Vx:=[2,5,6]
def KG:=[0,16,17,18]
def XR:=[2,5,6,7,8,9,10]
def e9:=[6,8,30000,37006,9100005]
def RM:=[3,30000,37006]
def XS:=[2,4,5,18,19,20]
def Yg:=[0,1,5]
def BM:=[0,1,10]
def RN:=[(30000,30000)]
def Qd:=[6,7]
def fA:=[2,3,4,6,7,8,11,66]
def RO:=[3,11,12,13]
def RP:=[0,12,13,14]
def RQ:=[6,18,19,25]
def fB:=[2,3,4,6,7,8,9,10]
def Sa:=[4,5]
def KH:=[2,5,6,7]
def KI:=[18,19,20]
def XT:=[14,17,10000305]
def Vy:=[2,16]
def js:=[2,5,6,7,9,10,26,27,28,44]
def GL:=[1,4,22]
def fC:=[30000,37006,9300005]
def T8:=[2,3]
def fD:=[2,3,4,6,7,8,11]
def XU:=[0,1,3,9,10]
def GM:=[1,2,5]
def fE:=[0,1,5,14,15,16]
def fF:=[2,3,4,6,7,8,9]
def jt:=[2,5,6,7,9,10,26,27,28]
def ju:=[4,5,30000,9100000,9100001]
def Vz:=[1,2]
def V0:=[0,3]
def XV:=[0,15,16,17]
def XW:=[0,21,22,23]
def fG:=[2,3,4,6,7,37]
def jv:=[2,5,6,7,26,27,28,29]
def RR:=[5,18,19]
def RS:=[6,18,19]
def fH:=[1,2,15,16,17]
def jx:=[2,5,6,7,9,26,27,28]
def fI:=[0,1,32,33,34]
def jy:=[10,30000,37006,9100005]
def KJ:=[2,3,4]
def Z0:=[4,5,6]
def MU:=[2,5,6,25]
def ei:=[2,5,6,7,8,9,10,60]
def ek:=[4,30000,37006,9100005]
def VD:=[0,3,4,14,15]
def VE:=[0,4,6,21,22]
def MV:=[0,2,7,8]
def VF:=[(34001,34001)]
def AA:=[18,19]
def MW:=[3,7,8,9]
def VG:=[2,3,4,6,19]
def MX:=[3,4,6,7]
def MY:=[6,7,5700]
def MZ:=[1,2,3,4]
def VH:=[1,23,24,25]
def GI:=[0,1,2]
def VI:=[(6004,20000)]
def VJ:=[3,38,39,40]
def VK:=[0,37,38,39]
def VM:=[0,1,12,13]
def VN:=[0,6,21,22]
set_option maxRecDepth 100000
set_option maxHeartbeats 2000000
def Aq(x:Int):List AV:=[(.int .i64 x)]
def H7(x:Am):List AV:=[(AV.list 1 Aq 0 x .none)]
structure Em where
 Bits:Int
 Dst:Int
 From:Am
 Args:Am
 deriving Inhabited,DecidableEq
def W1(x:Em):List AV:=[(.int .i64 x.Bits),(.int .i64 x.Dst),(AV.list 1 Aq 0 x.From .none),(AV.list 1 Aq 0 x.Args .none)]
structure Bh where
 Kind:Int
 Bits:Int
 Lanes:Int
 Dst:Int
 Args:Am
 Imm:Int
 deriving Inhabited,DecidableEq
def V6(x:Bh):List AV:=[(.int .i64 x.Kind),(.int .i64 x.Bits),(.int .i64 x.Lanes),(.int .i64 x.Dst),(AV.list 1 Aq 0 x.Args .none),(.int .u64 x.Imm)]
structure Ge where
 Kind:Int
 Arg:Int
 To:Am
 deriving Inhabited,DecidableEq
def cX(x:Ge):List AV:=[(.int .i64 x.Kind),(.int .i64 x.Arg),(AV.list 1 Aq 0 x.To .none)]
structure Ag where
 Phis:List Em
 Ops:List Bh
 End:Ge
 deriving Inhabited,DecidableEq
def F2(x:Ag):List AV:=[(AV.list 4 W1 default x.Phis .none),(AV.list 6 V6 default x.Ops .none),(.int .i64 x.End.Kind),(.int .i64 x.End.Arg),(AV.list 1 Aq 0 x.End.To .none)]
structure Aa where
 Params:Am
 Ret:Int
 Blocks:List Ag
 deriving Inhabited,DecidableEq
def kX(x:Aa):List AV:=[(AV.list 1 Aq 0 x.Params .none),(.int .i64 x.Ret),(AV.list 5 F2 default x.Blocks .none)]
structure ny where
 Block:Int
 A:Int
 B:Int
 deriving Inhabited,DecidableEq
abbrev Gt:=(Int×Int)
def Bu(x:Gt):List AV:=[(.int .i64 x.1),(.int .i64 x.2)]
structure G6 where
 block:Int
 at_:Int
 deriving Inhabited,DecidableEq
def CJ(x:G6):List AV:=[(.int .i64 x.block),(.int .i64 x.at_)]
structure A7 where
 v:Int
 shape:Gt
 place:G6
 deriving Inhabited,DecidableEq
def Jm(x:A7):List AV:=[(.int .i64 x.v),(.int .i64 x.shape.1),(.int .i64 x.shape.2),(.int .i64 x.place.block),(.int .i64 x.place.at_)]
structure C2 where
 Succ:Ob
 Pred:Ob
 deriving Inhabited,DecidableEq
def Qk(x:C2):List AV:=[(AV.list 1 H7 [] x.Succ .none),(AV.list 1 H7 [] x.Pred .none)]
def eB(x:Bool):List AV:=[(.bool x)]
structure Aj where
 shape:Gt
 place:G6
 deriving Inhabited,DecidableEq
def Ql(x:Aj):List AV:=[(.int .i64 x.shape.1),(.int .i64 x.shape.2),(.int .i64 x.place.block),(.int .i64 x.place.at_)]
structure Aw where
 V:Int
 Scale:Int
 deriving Inhabited,DecidableEq
def D7(x:Aw):List AV:=[(.int .i64 x.V),(.int .u64 x.Scale)]
structure Ay where
 Terms:List Aw
 Off:Int
 deriving Inhabited,DecidableEq
def TC(x:Ay):List AV:=[(AV.list 2 D7 default x.Terms .none),(.int .u64 x.Off)]
structure TDef where
 V:Int
 Block:Int
 At:Int
 Shape:Gt
 deriving Inhabited,DecidableEq
structure Mp where
 V:Int
 Block:Int
 At:Int
 Shape:Gt
 deriving Inhabited,DecidableEq
structure nI where
 Op:List Bh
 Found:List Bool
 Form:List Ay
 deriving Inhabited,DecidableEq
structure oi where
 Scale:Am
 Off:Int
 deriving Inhabited,DecidableEq
theorem mix:Tryz.prog.follows .mixedOrders=true:=by kernel_rfl
abbrev sP:=Spec Tryz.prog
abbrev RY:=(Nat×Own)
theorem sG {f : FuncId} {fn : Func} {args : List AV} {H H' : List RY} {res : AV} (hf : Tryz.prog.funcs[f]? = some fn) (k : ∀ Γ : G1, RgQ Tryz.prog Γ fn.ntmps H → GG Tryz.prog Γ (fK Tryz.prog Γ fn.results.toList H res H') (gz (LB fn) []) (Yv args H)) (hb : fn.body.isSome = true := by kernel_rfl) (hname : (fn.name == "runtime.NumGoroutine") = false := by kernel_rfl) (hlen : Nat.ble args.length fn.ntmps = true := by kernel_rfl) (hpl : FB H = true := by kernel_rfl) : sP f args H res H' := Zl mix hf k hb hname hlen hpl
def Z1:=λza zb zc zd zf zg zm=>((30000,.row 110 [(AV.list 1 Aq 0 za .none),(.int .i64 zb),(AV.list 5 F2 default zc .none),(.int .i64 zd),(AV.list 1 Aq 0 zf .none),(.omap zg),(AV.list 5 Jm default zm (.own 37006))]):Nat×Own)
def Z2:=λza=>(⟨[],[],(.bool za),[],[],[]⟩:Sd)
def Z3:=λza zb zc zd zf zg zm=>([(30000,.row 110 [(AV.list 1 Aq 0 za .none),(.int .i64 zb),(AV.list 5 F2 default zc .none),(.int .i64 zd),(AV.list 1 Aq 0 zf .none),.nilm,(AV.list 5 Jm default zg (.own 37006))]),(37006,.tok 5 158 zm)]:List RY)
def Z4:=λza (zb:Am)=>((za,.arr 1 3 zb.length (λi=>Aq (zb.getD i 0))):Nat×Own)
def Z5:=((.slice 0 0 (λ_=>[]) .exact):AV)
def Z6:=λza=>((.int .i64 za):AV)
def Z7:=λza=>((AV.list 1 Aq 0 za .none):AV)
def Z8:=λza=>((AV.list 2 Bu ((0:Int),(0:Int)) za .none):AV)
def Z9:=λza zb=>([(AV.list 2 D7 default za .none),(.int .u64 zb)]:List AV)
def Nk:=λza=>((37006,.tok 5 158 za):Nat×Own)
def RV:=((30000,.row 93 [(.omap 9100000),(.omap 9100001)]):Nat×Own)
def Km:=λza=>((.int .u64 za):AV)
def Ld:=((.int .i64 (0:Int)):AV)
def mD:=λza zb zc zd zf zg zm zn=>(⟨[(30000,30000),(37006,37006),(9100005,9100005)],[],(.tuple []),[(Z1 za zb zc zd zf 9100005 zg),(Nk zm),(9100005,.obj (.map false .i64 zn))],[],[]⟩:Sd)
def fu:=λza zb=>([(10,.arr 1 22 za (Mz 1 Aq (0:Int) zb (Tag.fam 70010)))]:List RY)
def Oj:=((.int .u64 (0:Int)):AV)
def KT:=λza=>((AV.list 5 F2 default za .none):AV)
def nJ:=λza (zb:Am) (zc:Am)=>((.slice 1 (bif za then zb.length else zc.length) (λi=>bif za then Aq (zb.getD i 0) else Aq (zc.getD i 0)) .none):AV)
def Oc:=λza=>((.agg (TC za)):AV)
def YE:=((AV.list 1 Aq 0 ([]:Am) .exact):AV)
def Pt:=λza=>((.agg (Ql za)):AV)
def mE:=λza zb zc zd zf zg=>((30000,.row 110 [(Z7 za),(Z6 zb),(KT zc),(Z6 zd),(Z7 zf),(.omap 8),(AV.list 5 Jm default zg (.own 37006))]):Nat×Own)
def HR:=λza zb=>((AV.list 1 Aq 0 za (.own zb)):AV)
def lR:=λza zb=>(⟨[],[],(.tuple [(Km za),(AV.list 2 D7 default zb .none)]),[],[],[]⟩:Sd)
def DB:=λza=>(⟨[],[],(Z6 za),[],[],[]⟩:Sd)
def mF:=λza zb zc zd zf zg zm zn zp=>([(Z1 za zb zc zd zf zg zm),(Nk zn),(zg,.obj (.map false .i64 zp))]:List RY)
def RW:=λza=>((AV.list 1 H7 [] za .none):AV)
def ol:=λza zb zc zd zf zg=>(⟨[(2,(.clo za [] [])),(3,(.ptr 3 0)),(4,(.ptr 4 0)),(6,(.ptr 6 0)),(7,(.ptr 7 0))],[(3,.row 57 (Z9 zb zc)),(4,.row 57 (Z9 zd zf)),(6,.row 57 [Z5,Oj]),(7,.row 57 [(AV.list 2 D7 default ([]:List Aw) (.own 5700)),(Km zg)]),(5700,.tok 2 134 (([]:List Aw).length))],[]⟩:St)
def fw:=((AV.list 2 D7 default ([]:List Aw) .exact):AV)
def AB:=λza=>((.int .i64 (za:Int)):AV)
def nz:=λza (zb:List A7) (zc:List A7)=>((.slice 5 (bif za then zb.length else zc.length) (λi=>bif za then Jm (zb.getD i default) else Jm (zc.getD i default)) (.own 37006)):AV)
def lS:=λza zb=>((7,.row 57 [(AV.list 2 D7 default za (.own 5700)),(Km zb)]):Nat×Own)
def jJ:=λza zb=>((.agg (Ql (mget (default:Aj) za zb))):AV)
def kA:=((AV.list 2 D7 default ([]:List Aw) .none):AV)
def KU:=λza zb zc zd zf zg zm=>([(Z1 za zb zc zd zf 9100005 zg),(Nk zm)]:List RY)
def kB:=λza=>((AV.list 1 Aq 0 ([za]:Am) .exact):AV)
def Z37:=(⟨[(4,(AV.list 1 Aq 0 ([]:Am) (.own 6004)))],[(6004,.tok 1 3 (([]:Am).length))],[]⟩:St)
def nK:=((AV.list 2 Bu ((0:Int),(0:Int)) ([]:List Gt) .exact):AV)
def lT:=λza zb=>(⟨[],[],(.tuple [(Km za),(.bool zb)]),[],[],[]⟩:Sd)
def So:=λza=>((.agg (V6 za)):AV)
def YF:=λza=>(⟨[],[],(Z8 za),[],[],[]⟩:Sd)
def VT:=λza=>((30000,.row 32 [(Km za)]):Nat×Own)
def om:=λza (zb:List Ag) (zc:List Ag)=>((.slice 5 (bif za then zb.length else zc.length) (λi=>bif za then F2 (zb.getD i default) else F2 (zc.getD i default)) .none):AV)
def NA:=((2,(.ptr 2 0)):Nat×AV)
def Yh:=((.ptr 30000 0):AV)
def bK:=λza zb=>((za,.obj (.map true .i64 zb)):Nat×Own)
def mG:=λ(za:Am)=>((6,.arr 1 166 64 (λi=>Aq (za.getD i 0))):Nat×Own)
def n4:=λza zb zc zd zf zg zm zn zp=>(⟨[(30000,30000),(37006,37006),(9100005,9100005)],[],(.bool za),(mF zb zc zd zf zg 9100005 zm zn zp),[],[]⟩:Sd)
def oq:=λza (zb:Am) (zc:Am)=>((.slice 1 (bif (za==true) then zb.length else zc.length) (λi=>bif (za==true) then Aq (zb.getD i 0) else Aq (zc.getD i 0)) .none):AV)
def jK:=λza=>(⟨[],[],(Oc za),[],[],[]⟩:Sd)
def ot:=λza zb zc zd zf zg zm=>(⟨[(2,(.clo za [] [])),(3,(.ptr 3 0)),(4,(.ptr 4 0)),(6,(.ptr 6 0)),(7,(.ptr 7 0))],[(3,.row 57 (Z9 zb zc)),(4,.row 57 (Z9 zd zf)),(6,.row 57 [Z5,Oj]),(7,.row 57 [zg,(Km zm)])],[]⟩:St)
def nL:=λza zb zc zd zf zg zm zn=>(⟨[(30000,30000),(37006,37006)],[],(.bool za),(Z3 zb zc zd zf zg zm zn),[],[]⟩:Sd)
abbrev jq:=(Nat×AV)
def n5:=λza zb=>([(72,(AV.list 2 D7 default za .exact)),(73,(AV.list 2 D7 default (zb++za) (.own 5700)))]:List jq)
def DC:=λza=>((.agg (Bu za)):AV)
def bb:=((6,(.vpt 6 64 0 0)):Nat×AV)
def n6:=λ(za:List Gt)=>([(30,.arr 2 73 za.length (λi=>Bu (za.getD i ((0:Int),(0:Int)))))]:List RY)
def fQ:=((.int .i64 (5:Int)):AV)
def nM:=((AV.list 5 Jm default ([]:List A7) .exact):AV)
def n7:=λza zb zc zd zf zg zm zn zp=>(⟨[(30000,30000),(37006,37006),(9100005,9100005)],[],(.agg (CJ za)),(mF zb zc zd zf zg 9100005 zm zn zp),[],[]⟩:Sd)
def NB:=((6,(.ptr 6 0)):Nat×AV)
def bc:=((5,(.vpt 5 64 0 0)):Nat×AV)
def jL:=λza zb zc=>((.int .i64 (bif za then zb else zc)):AV)
def RX:=λza=>((.agg (kX za)):AV)
def nN:=λza=>((AV.list 5 Jm default ([]:List A7) (.own za)):AV)
def fx:=((.int .i64 (1:Int)):AV)
def bL:=λza=>((6,.arr 1 166 64 za):Nat×Own)
def fy:=((.int .i64 (2:Int)):AV)
def YG:=((4,(.ptr 4 0)):Nat×AV)
def nO:=λza zb zc zd zf zg=>((1,.row 46 [(Z6 za),(Z6 zb),(Z6 zc),(Z6 zd),(Z7 zf),(Km zg)]):Nat×Own)
def n8:=λza zb=>(⟨[(30000,30000),(37006,37006)],[],(Z6 za),zb,[],[]⟩:Sd)
def be:=λza=>((5,.arr 1 165 64 za):Nat×Own)
def nP:=λza=>((za,.tok 5 158 (([]:List A7).length)):Nat×Own)
def NC:=λza=>((2,.row 82 za):Nat×Own)

def Q4(aA:Int):=((decide (aA<0))==false)
def Q1:List AV:=[Ld,Ld,Ld,Ld,YE,Oj]
def Q5:=(⟨[NB],[(6,.row 46 Q1)],[]⟩:St)
def Q3:AV:=(.agg [Ld,Ld,Ld,Ld,Z5,Oj])
def Q2:=(⟨[NB],[(6,.row 46 [Ld,Ld,Ld,Ld,(AV.list 1 Aq 0 ([]:Am) .none),Oj])],[]⟩:St)
def C0(a2:Aa)(aA:Int)(aK:Int):Option Bh:=
 (bif (bif (decide (aA<0)) then true else(decide ((a2.Blocks.length:Int)<=aA))) then(some (⟨(0:Int),(0:Int),(0:Int),(0:Int),([]:Am),(0:Int)⟩:Bh)) else(Ci (Bw aA a2.Blocks.length) (bif (bif (decide (aK<0)) then true else(decide ((((a2.Blocks.getD aA.toNat default).Ops).length:Int)<=aK))) then(some (⟨(0:Int),(0:Int),(0:Int),(0:Int),([]:Am),(0:Int)⟩:Bh)) else(Ci (Bw aK ((a2.Blocks.getD aA.toNat default).Ops).length) (some (((a2.Blocks.getD aA.toNat default).Ops).getD aK.toNat default))))))
variable{v0:Aa}{v1:Int}{v2:Int}{v3:Bh}
theorem J4(h:C0 v0 v1 v2=some v3):sP 19 [(RX v0),(Z6 v1),(Z6 v2)] [] (So v3) []:=
 sG Tryz.func19 λΓ q=>An q [1,2,3,6] [3,6] (tU q [1,2,3,6,16] [3,6] (lV (Q4 v1) (c1 (Ux (decide (v1<0))))) (gC h (λh=>gR q [6] [6] [(17,(.agg Q1))] [] (c1 (show(AVle Q3 (.agg Q1)) from(AVle.agg (.cons (AVle.refl _) (.cons (AVle.refl _) (.cons (AVle.refl _) (.cons (AVle.refl _) (.cons D2 (.cons (AVle.refl _) .nil))))))))) (Rx Q5 (tS h (gK (e:=.ret) (Kl [] (show Le Γ _ Q2 from Le.trans (Dj (st':=Q5) [6] [6] q) (Jf (.cons (AVle.refl _) .nil) (.row (.cons (AVle.refl _) (.cons (AVle.refl _) (.cons (AVle.refl _) (.cons (AVle.refl _) (.cons AVle.untag (.cons (AVle.refl _) .nil)))))) .nil)))))))) λh=>tV q [2,6,7] [6] h λh=>tU q [2,6,7,31] [6] (WN ((decide (v2<0))==false) (c1 (Ux (decide (v2<0))))) (gC h (λh=>gR q [6] [6] [(32,(.agg Q1))] [] (c1 (show(AVle Q3 (.agg Q1)) from(AVle.agg (.cons (AVle.refl _) (.cons (AVle.refl _) (.cons (AVle.refl _) (.cons (AVle.refl _) (.cons D2 (.cons (AVle.refl _) .nil))))))))) (Rx Q5 (tS h (gK (e:=.ret) (Kl [] (show Le Γ _ Q2 from Le.trans (Dj (st':=Q5) [6] [6] q) (Jf (.cons (AVle.refl _) .nil) (.row (.cons (AVle.refl _) (.cons (AVle.refl _) (.cons (AVle.refl _) (.cons (AVle.refl _) (.cons AVle.untag (.cons (AVle.refl _) .nil)))))) .nil)))))))) λh=>tV q [6] [6] h λh=>tS h (Cf []))))
def Q6(a1:Bh):List RY:=[(nO a1.Kind a1.Bits a1.Lanes a1.Dst a1.Args a1.Imm)]
def Dw(a1:Bh):Option Int:=
 (Option.bind (α:=Int) (Option.bind (α:=Bool) (bif (a1.Kind==16) then(some (a1.Kind==16)) else(some (a1.Kind==17))) (λx3=>(bif x3 then(some (0:Int)) else(Option.bind (α:=Bool) (bif (a1.Kind==18) then(some (a1.Kind==18)) else(some (a1.Kind==19))) (λx6=>(bif x6 then(some (1:Int)) else(some (a1.Args.length:Int)))))))) (λx8=>(bif (decide ((a1.Args.length:Int)<=x8)) then(some (0:Int)) else(Ci (Bw x8 a1.Args.length) (some (a1.Args.getD x8.toNat 0))))))
theorem Ja(h:Dw v3=some v1):sP 20 [(So v3)] [] (.int .i64 v1) []:=
 sG Tryz.func20 λΓ q=>tW q [1] [1] [1,3] [1] (tB h λx8 y8 h=>gJ y8 (λi1=>aG Γ .normal (⟨[(1,(.ptr 1 0)),(3,(Z6 i1))],(Q6 v3),[]⟩:St)) (λy h=>An q [1,3,8] [1] (tB h λx3 y3 h=>gJ y3 (λb2=>aG Γ .normal (⟨[(1,(.ptr 1 0)),(3,(AB v3.Args.length)),(8,(Z6 v3.Kind)),(9,(.bool b2))],(Q6 v3),[]⟩:St)) (λy h=>An q [1,3,8,9] [1] (gC h (λh=>tS h (gK (D1 Mo))) λh=>An q [1,3,8,9] [1] (tS h (gK (D1 Mo))))) (gA (gC h (λh=>An q [1,3] [1] (tS h (gK (D1 Mo)))) λh=>tB h λx6 y6 h=>gJ y6 (λb5=>aG Γ .normal (⟨[(1,(.ptr 1 0)),(3,(AB v3.Args.length)),(12,(.bool b5))],(Q6 v3),[]⟩:St)) (λy h=>An q [1,3,8,12] [1] (gC h (λh=>tS h (gK (D1 (Dj [1,3,12] [1] q)))) λh=>An q [1,3,12] [1] (tS h (gK (D1 Mo))))) (gA (gC h (λh=>An q [1,3] [1] (tS h (gK (D1 Mo)))) λh=>tS h (gK (D1 (Dj [1,3] [1] q))))))))) (gA (An q [1,3,19] [1] (gC h (λh=>An q [2] [] (tS h (Cf []))) λh=>tV q [2] [] h λh=>tS h (Cf [])))))
abbrev mt:=(LR (Int×Int) Int)
def Kt(a2:Aa):Gt->Option mt:=
 λ((i1,i2):Gt)=>(bif (decide (i2<(a2.Blocks.length:Int))) then(Ci (Bw i2 a2.Blocks.length) (some (.next ((Bj (i1+(Bj ((((a2.Blocks.getD i2.toNat default).Phis).length:Int)+(((a2.Blocks.getD i2.toNat default).Ops).length:Int))))),(Bj (i2+1)))))) else(some (.done i1)))
def Ow(a2:Aa):Option Int:=
 ((Ah (Kt a2) ((a2.Blocks.length:Int),(0:Int))).bind (λx5=>(some x5)))
theorem LZ(h:Ow v0=some v1):sP 102 [(RX v0)] [] (.int .i64 v1) []:=
 sG Tryz.func102 λΓ q=>tW q [1] [1] [1,3] [1] (An q Yf [] (tL q h Yf [] (λu (i1,i2)=>(Fx u [(3,(Z6 i1)),(12,(Z6 i2))] [])) (λu i3=>aG Γ (.exit 0) (⟨[(3,(Z6 i3))],[],[]⟩:St)) (λ⟨i1,i2⟩ y h=>An q [3,10,11,12,13] [] (gC h (λh=>tV q [3,5,10,11,12] [5] h λh=>tW q Yf [] Yf [] (tN h)) λh=>tS h (gO (D1 (Dj [3] [] q))))) λx5 h=>gA (An q [2] [] (tS h (Cf [])))))
def Gn(aB:Am):Int->Option (LR Int (Unit ⊕ Bool)):=
 λ(i1:Int)=>(bif (decide (i1<(aB.length:Int))) then(Ci (Bw i1 aB.length) (bif (bif (decide ((aB.getD i1.toNat 0)<0)) then true else(decide ((2147483647:Int)<(aB.getD i1.toNat 0)))) then(some (.done (.inr false))) else(some (.next (Bj (i1+1)))))) else(some (.done (.inl ()))))
def Wt(Γ:G1)(aB:Am)(r:Bool):Exit->St->Prop:=fK Tryz.prog Γ Tryz.f103.results.toList [] (.bool r) []
def C1(aB:Am):Option Bool:=
 ((Ah (Gn aB) (0:Int)).bind (λx3=>(match x3 with|(.inl _)=>(some true)|(.inr r5)=>(some r5))))
variable{v4:Am}{v5:Bool}
theorem Et(h:C1 v4=some v5):sP 103 [(Z7 v4)] [] (.bool v5) []:=
 sG Tryz.func103 λΓ q=>tW q [0] [] [5,6,7] [] (tL q h [5,6,7] [] (λu i1=>(Fx u [(7,(Z6 i1))] [])) (λu x_=>match x_ with|(.inl _)=>aG Γ (.exit 0) (⟨[],[],[]⟩:St)|(.inr r_)=>aR (Wt Γ v4 r_)) (λi1 y h=>An q [5,6,7,8] [] (gC h (λh=>tV q [4,5,6,7] [] h λh=>tU q [5,6,7,16] [] (c2 (gI ((decide ((v4.getD i1.toNat 0)<0))==false)) (Ux (decide ((v4.getD i1.toNat 0)<0)))) (gC h (λh=>An q [2] [] (tS h (gO (Su (Kl [] (Le.refl _ _)))))) λh=>An q [5,6,7] [] (tN h))) λh=>tS h (gO (D1 (Dj [] [] q))))) λx3 h=>(match x3,h with | .inl _,h=>gA (An q [2] [] (tS h (Cf []))) | .inr r5,h=>Xa (λst' hk=>tS h (gK hk))))
def Fd(aB:Am):Option Bool:=
 ((bif ((decide ((aB.length:Int)<=64))==true) then C1 aB else some false).bind λx1=>(some (bif (decide ((aB.length:Int)<=64)) then x1 else false)))
theorem Jb(h:Fd v4=some v5):sP 145 [(Z7 v4)] [] (.bool v5) []:=
 sG Tryz.func145 λΓ q=>An q [0] [] (tB h λx1 y1 h=>tT q [2] [] [(Z2 x1)] (c3 (gI ((decide ((v4.length:Int)<=64))==true)) (λ(hg:((decide ((v4.length:Int)<=64))==true)=true)=>(Et (Bt hg y1))) (Lq (decide ((v4.length:Int)<=64)))) (tS h (Cf [])))
def Kv(aV:Em):Option Bool:=
 ((C1 ([aV.Bits,aV.Dst]:Am)).bind λx1=>((bif (x1==true) then Fd aV.From else some false).bind λx2=>((bif ((bif x1 then x2 else false)==true) then Fd aV.Args else some false).bind λx3=>(some (bif (bif x1 then x2 else false) then x3 else false)))))
variable{v6:Em}
theorem BU(h:Kv v6=some v5):sP 129 [(.agg (W1 v6))] [] (.bool v5) []:=
 sG Tryz.func129 λΓ q=>An q [1] [1] (tB h λx1 y1 h=>tB h λx2 y2 h=>tB h λx3 y3 h=>gR q [2] [] [(7,(AV.list 1 Aq 0 ([v6.Bits,v6.Dst]:Am) .exact))] [(Z2 x1),(Z2 x2),(Z2 x3)] (gj (Bm 1 Aq (0:Int) ([v6.Bits,v6.Dst]:Am)) (Et y1) (Yu (x1==true) (gj (λ(hg:(x1==true)=true)=>(Jb (Bt hg y2))) (Lq x1) (Yu ((bif x1 then x2 else false)==true) (c2 (λ(hg:((bif x1 then x2 else false)==true)=true)=>(Jb (Bt hg y3))) (Lq (bif x1 then x2 else false))))))) (tS h (Cf [])))
def Ez(aB:List Em):Int->Option (LR Int (Unit ⊕ Bool)):=
 λ(i1:Int)=>(bif (decide (i1<(aB.length:Int))) then(Ci (Bw i1 aB.length) ((Kv (aB.getD i1.toNat default)).bind λx3=>(bif (!x3) then(some (.done (.inr false))) else(some (.next (Bj (i1+1))))))) else(some (.done (.inl ()))))
def Sc(Γ:G1)(aB:List Em)(r:Bool):Exit->St->Prop:=fK Tryz.prog Γ Tryz.f128.results.toList [] (.bool r) []
def F5(aB:List Em):Option Bool:=
 ((Ah (Ez aB) (0:Int)).bind (λx4=>(match x4 with|(.inl _)=>(some true)|(.inr r6)=>(some r6))))
variable{v7:List Em}
theorem Rh(h:F5 v7=some v5):sP 128 [(AV.list 4 W1 default v7 .none),(.clo 129 [] [])] [] (.bool v5) []:=
 sG Tryz.func128 λΓ q=>tW q Gv [] Ib [] (tL q h Ib [] (λu i1=>(Fx u [(9,(Z6 i1))] [])) (λu x_=>match x_ with|(.inl _)=>aG Γ (.exit 0) (⟨[],[],[]⟩:St)|(.inr r_)=>aR (Sc Γ v7 r_)) (λi1 y h=>An q BK [] (gC h (λh=>tV q BL [6] h λh=>tB h λx3 y3 h=>tT q GJ [] [(Z2 x3)] (c1 (BU y3)) (gC h (λh=>An q [4] [] (tS h (gO (Su (Kl [] (Le.refl _ _)))))) λh=>An q Ib [] (tN h))) λh=>tS h (gO (D1 (Dj [] [] q))))) λx4 h=>(match x4,h with | .inl _,h=>gA (An q [4] [] (tS h (Cf []))) | .inr r6,h=>Xa (λst' hk=>tS h (gK hk))))
def L9(a1:Bh):Option Bool:=
 ((C1 ([a1.Kind,a1.Bits,a1.Lanes,a1.Dst]:Am)).bind λx1=>((bif (x1==true) then Fd a1.Args else some false).bind λx2=>(some (bif x1 then x2 else false))))
theorem EP(h:L9 v3=some v5):sP 131 [(So v3)] [] (.bool v5) []:=
 sG Tryz.func131 λΓ q=>An q [1] [1] (tB h λx1 y1 h=>tB h λx2 y2 h=>gR q [2] [] [(11,(AV.list 1 Aq 0 ([v3.Kind,v3.Bits,v3.Lanes,v3.Dst]:Am) .exact))] [(Z2 x1),(Z2 x2)] (gj (Bm 1 Aq (0:Int) ([v3.Kind,v3.Bits,v3.Lanes,v3.Dst]:Am)) (Et y1) (Yu (x1==true) (c2 (λ(hg:(x1==true)=true)=>(Jb (Bt hg y2))) (Lq x1)))) (tS h (Cf [])))
def E9(aB:List Bh):Int->Option (LR Int (Unit ⊕ Bool)):=
 λ(i1:Int)=>(bif (decide (i1<(aB.length:Int))) then(Ci (Bw i1 aB.length) ((L9 (aB.getD i1.toNat default)).bind λx3=>(bif (!x3) then(some (.done (.inr false))) else(some (.next (Bj (i1+1))))))) else(some (.done (.inl ()))))
def Sq(Γ:G1)(aB:List Bh)(r:Bool):Exit->St->Prop:=fK Tryz.prog Γ Tryz.f130.results.toList [] (.bool r) []
def Gm(aB:List Bh):Option Bool:=
 ((Ah (E9 aB) (0:Int)).bind (λx4=>(match x4 with|(.inl _)=>(some true)|(.inr r6)=>(some r6))))
variable{v8:List Bh}
theorem Sj(h:Gm v8=some v5):sP 130 [(AV.list 6 V6 default v8 .none),(.clo 131 [] [])] [] (.bool v5) []:=
 sG Tryz.func130 λΓ q=>tW q Gv [] Ib [] (tL q h Ib [] (λu i1=>(Fx u [(9,(Z6 i1))] [])) (λu x_=>match x_ with|(.inl _)=>aG Γ (.exit 0) (⟨[],[],[]⟩:St)|(.inr r_)=>aR (Sq Γ v8 r_)) (λi1 y h=>An q BK [] (gC h (λh=>tV q BL [6] h λh=>tB h λx3 y3 h=>tT q GJ [] [(Z2 x3)] (c1 (EP y3)) (gC h (λh=>An q [4] [] (tS h (gO (Su (Kl [] (Le.refl _ _)))))) λh=>An q Ib [] (tN h))) λh=>tS h (gO (D1 (Dj [] [] q))))) λx4 h=>(match x4,h with | .inl _,h=>gA (An q [4] [] (tS h (Cf []))) | .inr r6,h=>Xa (λst' hk=>tS h (gK hk))))
def Ku(aJ:Ge):Option Bool:=
 ((C1 ([aJ.Kind,aJ.Arg]:Am)).bind λx1=>((bif (x1==true) then Fd aJ.To else some false).bind λx2=>(some (bif x1 then x2 else false))))
variable{v9:Ge}
theorem BT(h:Ku v9=some v5):sP 132 [(.agg (cX v9))] [] (.bool v5) []:=
 sG Tryz.func132 λΓ q=>An q [1] [1] (tB h λx1 y1 h=>tB h λx2 y2 h=>gR q [2] [] [(7,(AV.list 1 Aq 0 ([v9.Kind,v9.Arg]:Am) .exact))] [(Z2 x1),(Z2 x2)] (gj (Bm 1 Aq (0:Int) ([v9.Kind,v9.Arg]:Am)) (Et y1) (Yu (x1==true) (c2 (λ(hg:(x1==true)=true)=>(Jb (Bt hg y2))) (Lq x1)))) (tS h (Cf [])))
def I6(aF:Ag):Option Bool:=
 ((F5 aF.Phis).bind λx1=>((bif (x1==true) then Gm aF.Ops else some false).bind λx2=>((bif ((bif x1 then x2 else false)==true) then Ku (⟨aF.End.Kind,aF.End.Arg,aF.End.To⟩:Ge) else some false).bind λx3=>(some (bif (bif x1 then x2 else false) then x3 else false)))))
variable{v10:Ag}
theorem Xs(h:I6 v10=some v5):sP 105 [(.agg (F2 v10))] [] (.bool v5) []:=
 sG Tryz.func105 λΓ q=>An q [1] [1] (tB h λx1 y1 h=>tB h λx2 y2 h=>tB h λx3 y3 h=>tT q [2] [] [(Z2 x1),(Z2 x2),(Z2 x3)] (ci (Rh y1) (Yu (x1==true) (gj (λ(hg:(x1==true)=true)=>(Sj (Bt hg y2))) (Lq x1) (Yu ((bif x1 then x2 else false)==true) (c2 (λ(hg:((bif x1 then x2 else false)==true)=true)=>(BT (Bt hg y3))) (Lq (bif x1 then x2 else false))))))) (tS h (Cf [])))
def Eb(aB:List Ag):Int->Option (LR Int (Unit ⊕ Bool)):=
 λ(i1:Int)=>(bif (decide (i1<(aB.length:Int))) then(Ci (Bw i1 aB.length) ((I6 (aB.getD i1.toNat default)).bind λx3=>(bif (!x3) then(some (.done (.inr false))) else(some (.next (Bj (i1+1))))))) else(some (.done (.inl ()))))
def Pv(Γ:G1)(aB:List Ag)(r:Bool):Exit->St->Prop:=fK Tryz.prog Γ Tryz.f104.results.toList [] (.bool r) []
def E8(aB:List Ag):Option Bool:=
 ((Ah (Eb aB) (0:Int)).bind (λx4=>(match x4 with|(.inl _)=>(some true)|(.inr r6)=>(some r6))))
variable{v11:List Ag}
theorem Pm(h:E8 v11=some v5):sP 104 [(KT v11),(.clo 105 [] [])] [] (.bool v5) []:=
 sG Tryz.func104 λΓ q=>tW q Gv [] Ib [] (tL q h Ib [] (λu i1=>(Fx u [(9,(Z6 i1))] [])) (λu x_=>match x_ with|(.inl _)=>aG Γ (.exit 0) (⟨[],[],[]⟩:St)|(.inr r_)=>aR (Pv Γ v11 r_)) (λi1 y h=>An q BK [] (gC h (λh=>tV q BL [6] h λh=>tB h λx3 y3 h=>tT q GJ [] [(Z2 x3)] (c1 (Xs y3)) (gC h (λh=>An q [4] [] (tS h (gO (Su (Kl [] (Le.refl _ _)))))) λh=>An q Ib [] (tN h))) λh=>tS h (gO (D1 (Dj [] [] q))))) λx4 h=>(match x4,h with | .inl _,h=>gA (An q [4] [] (tS h (Cf []))) | .inr r6,h=>Xa (λst' hk=>tS h (gK hk))))
def Q8(a2:Aa):=(decide ((a2.Blocks.length:Int)<1))
def Q7(a2:Aa):=(decide ((16:Int)<(a2.Params.length:Int)))
def Qx(a2:Aa):Option Bool:=
 (bif (bif (decide ((a2.Blocks.length:Int)<1)) then true else(decide ((64:Int)<(a2.Blocks.length:Int)))) then(some false) else((bif ((decide ((16:Int)<(a2.Params.length:Int)))==false) then Ow a2 else some (0:Int)).bind λx1=>(bif (bif (decide ((16:Int)<(a2.Params.length:Int))) then true else(decide ((512:Int)<x1))) then(some false) else((C1 a2.Params).bind λx2=>((bif (x2==true) then C1 ([a2.Ret]:Am) else some false).bind λx3=>((bif ((bif x2 then x3 else false)==true) then E8 a2.Blocks else some false).bind λx4=>(some (bif (bif x2 then x3 else false) then x4 else false))))))))
theorem PR(h:Qx v0=some v5):sP 82 [(RX v0)] [] (.bool v5) []:=
 sG Tryz.func82 λΓ q=>An q [1] [1] (tU q [1,12] [1] (WN ((Q8 v0)==false) (c1 (Ux (Q8 v0)))) (gC h (λh=>An q [2] [] (tS h (Cf []))) λh=>tB h λx1 y1 h=>tT q [1,21] [1] [(DB x1)] (c4 (gI ((Q7 v0)==false)) (λ(hg:((Q7 v0)==false)=true)=>(LZ (Bt hg y1))) (gI ((Q7 v0)==false)) (Ux (Q7 v0))) (gC h (λh=>An q [2] [] (tS h (Cf []))) λh=>tB h λx2 y2 h=>tB h λx3 y3 h=>tB h λx4 y4 h=>gR q [2] [] [(28,(kB v0.Ret))] [(Z2 x2),(Z2 x3),(Z2 x4)] (ci (Et y2) (Yu (x2==true) (pA (show((x2==true)=true->(AVle (.slice 1 1 (λi=>([[(Z6 v0.Ret)]]:List (List AV)).getD i []) .exact) (kB v0.Ret))) from(λhg=>@(Bm 1 Aq (0:Int) ([v0.Ret]:Am)))) (gI (x2==true)) (λ(hg:(x2==true)=true)=>(Et (Bt hg y3))) (Lq x2) (Yu ((bif x2 then x3 else false)==true) (c2 (λ(hg:((bif x2 then x3 else false)==true)=true)=>(Pm (Bt hg y4))) (Lq (bif x2 then x3 else false))))))) (tS h (Cf [])))))
def Il(aaA:Bool)(aJ:Int):Option Int:=
 (bif aaA then(some (0:Int)) else(some aJ))
theorem Rz(h:Il v5 v1=some v2):sP 81 [(.bool v5),(Z6 v1)] [] (.int .i64 v2) []:=
 sG Tryz.func81 λΓ q=>tW q Gv [] [1,5] [] (gC h (λh=>An q [4] [] (tS h (Cf []))) λh=>An q [4] [] (tS h (Cf [])))
abbrev bD:=(Int×Aa×Int×Am×List A7)
def Gk(a0:Aa)(a4:Int)(a9:Am)(a5:List A7):Option bD:=
 ((Qx a0).bind λx1=>((Il x1 (4:Int)).bind λx2=>(some (x2,a0,a4,a9,a5))))
variable{v12:List A7}{v13:bD}
theorem Sh(h:Gk v0 v1 v4 v12=some v13):sP 71 [Yh] (Z3 v0.Params v0.Ret v0.Blocks v1 v4 v12 v12.length) (Z6 v13.1) (Z3 v13.2.1.Params v13.2.1.Ret v13.2.1.Blocks v13.2.2.1 v13.2.2.2.1 v13.2.2.2.2 v13.2.2.2.2.length):=
 sG Tryz.func71 λΓ q=>An q [0] Fk (tB h λx1 y1 h=>tB h λx2 y2 h=>tT q [2] Fk [(Z2 x1),(DB x2)] (c2 (PR y1) (Rz y2)) (tS h (Cf CA)))
def Hx(aN:Int):Option Bool:=
 (some (bif (decide ((1:Int)<=aN)) then(decide (aN<=64)) else false))
theorem P2(h:Hx v1=some v5):sP 106 [(Z6 v1)] [] (.bool v5) []:=
 sG Tryz.func106 λΓ q=>An q [0] [] (tU q [2] [] (c2 (gI ((decide ((1:Int)<=v1))==true)) (Lq (decide ((1:Int)<=v1)))) (tS h (Cf [])))
def Gb(aK:Int)(aN:Int):Option Bool:=
 (some (bif (decide ((0:Int)<=aK)) then(decide (aK<aN)) else false))
theorem L1(h:Gb v1 v2=some v5):sP 111 [(Z6 v1),(Z6 v2)] [] (.bool v5) []:=
 sG Tryz.func111 λΓ q=>An q Gv [] (tU q [4] [] (Yu ((decide ((0:Int)<=v1))==true) (c1 (Lq (decide ((0:Int)<=v1))))) (tS h (Cf [])))
def B5(aJ:Ge)(aN:Int):Int->Option (LR Int (Unit ⊕ Bool)):=
 λ(i7:Int)=>(bif (decide (i7<(aJ.To.length:Int))) then(Ci (Bw i7 aJ.To.length) ((bif (((aJ.To.getD i7.toNat 0)==0)==false) then Gb (aJ.To.getD i7.toNat 0) aN else some false).bind λx9=>(bif (bif ((aJ.To.getD i7.toNat 0)==0) then true else(!x9)) then(some (.done (.inr false))) else(some (.next (Bj (i7+1))))))) else(some (.done (.inl ()))))
def Rq(Γ:G1)(aJ:Ge)(aN:Int)(r:Bool):Exit->St->Prop:=fK Tryz.prog Γ Tryz.f107.results.toList [] (.bool r) []
def Q9(aJ:Ge)(i7:Int):=((aJ.To.getD i7.toNat 0)==0)
def Jw(aJ:Ge)(aN:Int):Option Bool:=
 (Option.bind (α:=(Int ⊕ Bool)) (Option.bind (α:=Bool) (bif (aJ.Kind==0) then(some (aJ.Kind==0)) else(some (aJ.Kind==3))) (λx3=>(bif x3 then(some (.inl (0:Int))) else(bif (aJ.Kind==1) then(some (.inl (1:Int))) else(bif (aJ.Kind==2) then(some (.inl (2:Int))) else(some (.inr false))))))) (λx5=>(match x5 with|(.inl i1)=>(bif ((aJ.To.length:Int)!=i1) then(some false) else((Ah (B5 aJ aN) (0:Int)).bind (λx10=>(match x10 with|(.inl _)=>(some true)|(.inr r12)=>(some r12)))))|(.inr r13)=>(some r13))))
theorem Zg(h:Jw v9 v1=some v5):sP 107 [(.agg (cX v9)),(Z6 v1)] [] (.bool v5) []:=
 sG Tryz.func107 λΓ q=>tW q Vz [2] GM [2] (tB h λx5 y5 h=>gJ y5 (λx_=>match x_ with|(.inl i1)=>aG Γ .normal (⟨[(1,(Z6 v1)),NA,(5,(Z6 i1))],[(2,.row 39 [(Z6 v9.Kind),(Z6 v9.Arg),(Z7 v9.To)])],[]⟩:St)|(.inr r_)=>aR (Rq Γ v9 v1 r_)) (λy h=>An q [1,2,5,9] [2] (tB h λx3 y3 h=>gJ y3 (λb2=>aG Γ .normal (⟨[(1,(Z6 v1)),NA,(5,Ld),(9,(Z6 v9.Kind)),(10,(.bool b2))],[(2,.row 39 [(Z6 v9.Kind),(Z6 v9.Arg),(Z7 v9.To)])],[]⟩:St)) (λy h=>An q [1,2,5,9,10] [2] (gC h (λh=>tS h (gK (D1 Mo))) λh=>An q [1,2,5,9,10] [2] (tS h (gK (D1 Mo))))) (gA (gC h (λh=>tS h (gK (D1 (Dj GM [2] q)))) λh=>An q [1,2,9,13] [2] (gC h (λh=>An q GM [2] (tS h (gK (D1 Mo)))) λh=>An q [1,2,15] [2] (gC h (λh=>An q GM [2] (tS h (gK (D1 Mo)))) λh=>An q [4] [] (tS h (gK (Su (Kl [] (Le.refl _ _))))))))))) (match x5,h with | .inl i1,h=>gA (An q [1,2,21] [2] (gC h (λh=>An q [4] [] (tS h (Cf []))) λh=>An q VH [] (tL q h VH [] (λu i7=>(Fx u [(25,(Z6 i7))] [])) (λu x_=>match x_ with|(.inl _)=>aG Γ (.exit 1) (⟨[],[],[]⟩:St)|(.inr r_)=>aR (Rq Γ v9 v1 r_)) (λi7 y h=>An q [1,23,24,25,26] [] (gC h (λh=>tV q [1,7,23,24,25] [] h λh=>tB h λx9 y9 h=>tT q [1,23,24,25,36] [] [(Z2 x9)] (Yu ((Q9 v9 i7)==false) (c3 (λ(hg:((Q9 v9 i7)==false)=true)=>(L1 (Bt hg y9))) (gI ((Q9 v9 i7)==false)) (Ux (Q9 v9 i7)))) (gC h (λh=>An q [4] [] (tS h (gO (Su (Kl [] (Le.refl _ _)))))) λh=>An q VH [] (tN h))) λh=>tS h (gO (D1 (Dj [] [] q))))) λx10 h=>(match x10,h with | .inl _,h=>gA (An q [4] [] (tS h (Cf []))) | .inr r12,h=>Xa (λst' hk=>tS h (gK hk)))))) | .inr r13,h=>Xa (λst' hk=>tS h (gK hk))))
abbrev lY:=(Int×Ob)
def Ec(aC:Ob)(i2:Int):lY->Option (LR (Int×Ob) Ob):=
 λ((i6,l7):lY)=>(bif (decide (i6<((aC.getD i2.toNat []).length:Int))) then(Ci (Bw i6 (aC.getD i2.toNat []).length) (Ci (Bw ((aC.getD i2.toNat []).getD i6.toNat 0) l7.length) (Ci (Bw ((aC.getD i2.toNat []).getD i6.toNat 0) l7.length) (Ci ((l7.getD ((aC.getD i2.toNat []).getD i6.toNat 0).toNat []).length+([i2]:Am).length<=room) (Ci (Bw ((aC.getD i2.toNat []).getD i6.toNat 0) l7.length) (some (.next ((Bj (i6+1)),(l7.set ((aC.getD i2.toNat []).getD i6.toNat 0).toNat ((l7.getD ((aC.getD i2.toNat []).getD i6.toNat 0).toNat [])++([i2]:Am))))))))))) else(some (.done l7)))
def Ed(aC:Ob):lY->Option (LR (Int×Ob) Ob):=
 λ((i2,l3):lY)=>(bif (decide (i2<(aC.length:Int))) then(Ci (Bw i2 aC.length) ((Ah (Ec aC i2) ((0:Int),l3)).bind (λx14=>(some (.next ((Bj (i2+1)),x14)))))) else(some (.done l3)))
def fi(i2:Int):=([i2]:Am)
def bI(aC:Ob)(i2:Int)(i6:Int):=((aC.getD i2.toNat []).getD i6.toNat 0)
def bS(l7:Ob)(aC:Ob)(i2:Int)(i6:Int):=(l7.getD (bI aC i2 i6).toNat [])
def j5(aC:Ob):=(List.replicate (aC.length:Int).toNat ([]:Am))
def lu(l7:Ob)(aC:Ob)(i2:Int)(i6:Int):=(l7.set (bI aC i2 i6).toNat ((bS l7 aC i2 i6)++(fi i2)))
def nT(aC:Ob):List jq:=[(0,(RW aC)),(3,(.vsl 10 (aC.length:Int).toNat))]
def oP(l7:Ob)(i2:Int)(aC:Ob)(i6:Int):List jq:=[(3,(.vsl 10 l7.length)),(4,(Z6 i2)),(11,(RW aC)),(12,(AB aC.length)),(13,(Z6 i2)),(18,(AV.list 1 Aq 0 (aC.getD i2.toNat []) .none)),(19,(.int .i64 ((aC.getD i2.toNat []).length:Int))),(20,(Z6 i6))]
def oQ(l7:Ob)(i2:Int)(aC:Ob)(i6:Int):List jq:=[(3,(.vsl 10 l7.length)),(4,(Z6 i2)),(7,(Z6 (bI aC i2 i6))),(11,(RW aC)),(12,(AB aC.length)),(13,(Z6 i2)),(18,(AV.list 1 Aq 0 (aC.getD i2.toNat []) .none)),(19,(.int .i64 ((aC.getD i2.toNat []).length:Int))),(20,(Z6 i6))]
def In(aC:Ob):Option Ob:=
 (Ci (0<=(aC.length:Int)/\(aC.length:Int)<=(aC.length:Int)/\(aC.length:Int)<=(room:Int)) ((Ah (Ed aC) ((0:Int),(List.replicate (aC.length:Int).toNat ([]:Am)))).bind (λx16=>(some x16))))
variable{v14:Ob}{v15:Ob}
theorem R3(h:In v14=some v15):sP 109 [(RW v14)] [] (AV.list 1 H7 [] v15 (.own 20000)) [(20000,.tok 1 22 v15.length)]:=
 sG Tryz.func109 λΓ q=>have hΓ:=q.own;gR q [0] [] [(2,(AV.list 1 H7 [] ([]:Ob) .exact))] [] (c1 (G3 1 H7 [])) (tV q V0 [10] h λh=>Rx (⟨(nT v14),[(10,.arr 1 22 ((v14.length:Int).toNat) (λi_=>AV.eraseAll (λn_=>Cd n_ [10]) ((λ_=>[Z5]) i_)))],[]⟩:St) (Mr (Le.trans (Jf (st':=⟨(nT v14),[(10,.arr 1 22 ((v14.length:Int).toNat) (Mz 1 Aq (0:Int) (j5 v14) (λ_=>.exact)))],[]⟩) (TmpsLe.refl _) (.arr ca .nil)) (Le.trans (Le.trans (dI (r:=10) (b:=70010) Aq (0:Int) (j5 v14) 3 rfl rfl (X7 ..).symm (λh_=>absurd h_ (by decide))) (Nu (st':=⟨(nT v14),[(10,.arr 1 22 ((v14.length:Int).toNat) (Mz 1 Aq (0:Int) (j5 v14) (Tag.fam 70010)))],[(70010,⟨1,3,M9 (j5 v14)⟩)]⟩) (by kernel_rfl))) (Nu (Ca (λk_:Nat=>(⟨[(0,(RW v14)),(3,(.vsl 10 k_))],(fu k_ (j5 v14)),[(70010,⟨1,3,M9 (j5 v14)⟩)]⟩:St)) (show(v14.length:Int).toNat=(j5 v14).length from(X7 ..).symm))))) (An q RO Pb (tL q h RO Pb (λu (i2,l3)=>(Fx u [(3,(.vsl 10 l3.length)),(13,(Z6 i2))] (fu l3.length l3) [(70010,⟨1,3,M9 l3⟩)])) (λu l4=>aG Γ (.exit 0) (⟨[(3,(.vsl 10 l4.length))],(fu l4.length l4),[(70010,⟨1,3,M9 l4⟩)]⟩:St)) (λ⟨i2,l3⟩ y h=>An q [3,11,12,13,14] Pb (gC h (λh=>tV q [3,4,5,11,12,13] Pb h λh=>An q XO Pb (tL q h XO Pb (λu (i6,l7)=>(Fx u [(3,(.vsl 10 l7.length)),(20,(Z6 i6))] (fu l7.length l7) [(70010,⟨1,3,M9 l7⟩)])) (λu l8=>aG Γ (.exit 2) (Yj RO Pb u [(3,(.vsl 10 l8.length))] (fu l8.length l8) [(70010,⟨1,3,M9 l8⟩)])) (λ⟨i6,l7⟩ y h=>An q [3,4,11,12,13,18,19,20,21] Pb (gC h (λh=>tV q [3,4,7,11,12,13,18,19,20] Pb h λh=>Rx (⟨(oQ l7 i2 v14 i6),(fu l7.length l7),[(70010,⟨1,3,M9 l7⟩)]⟩:St) (tC h λc10_ h=>tC h λc11_ h=>tC h λc12_ h=>tC h λc13_ h=>Mr (Le.trans (iA (r:=10) (b:=70010) (k:=60010) Aq (0:Int) l7 (bI v14 i2 i6).toNat 3 rfl rfl rfl rfl (Oq c10_) (by kernel_rfl) (.here .nil)) (Nu (st':=⟨(oQ l7 i2 v14 i6),[(10,.arr 1 22 l7.length (Mz 1 Aq (0:Int) l7 (Fm 70010 (bI v14 i2 i6).toNat 60010))),(60010,.tok 1 3 ((bS l7 v14 i2 i6).length))],[(70010,⟨1,3,Xc l7 (bI v14 i2 i6).toNat⟩)]⟩) (by kernel_rfl))) (gR q XO [10,60010,70010] [(29,(HR (bS l7 v14 i2 i6) 60010)),(31,(AV.list 1 Aq 0 (fi i2) .exact)),(32,(AV.list 1 Aq 0 ((bS l7 v14 i2 i6)++(fi i2)) (.own 60010)))] [] (mK c11_ (Eq.refl l7.length) (show(AVle (((Mz 1 Aq (0:Int) l7 (Fm 70010 (bI v14 i2 i6).toNat 60010)) (bI v14 i2 i6).toNat).getD 0 .any) (HR (bS l7 v14 i2 i6) 60010)) from YI) (Bm 1 Aq (0:Int) (fi i2)) (Eq.refl ((bS l7 v14 i2 i6).length)) c12_ (Ub 1 60010 Aq (0:Int) (bS l7 v14 i2 i6) (fi i2)) (H8 (bS l7 v14 i2 i6) (fi i2)) c13_ (c1 (Eq.refl l7.length))) (Rx (⟨(oP l7 i2 v14 i6),[(10,.arr 1 22 l7.length (λi_=>AV.eraseAll (λn_=>Cd n_ [10,60010,70010]) ((Lg (Mz 1 Aq (0:Int) l7 (Fm 70010 (bI v14 i2 i6).toNat 60010)) (bI v14 i2 i6).toNat 0 [(AV.list 1 Aq 0 ((bS l7 v14 i2 i6)++(fi i2)) (.own 60010))]) i_))),(60010,.tok 1 3 (((bS l7 v14 i2 i6)++(fi i2)).length))],[(70010,⟨1,3,Xc l7 (bI v14 i2 i6).toNat⟩)]⟩:St) (Mr (Le.trans (Le.trans (kh (r:=10) (b:=70010) (k:=60010) Aq (0:Int) l7 (bI v14 i2 i6).toNat ((bS l7 v14 i2 i6)++(fi i2)) 3 rfl (dp (Oq c10_) rfl rfl) rfl rfl rfl rfl (Oq c10_) (by kernel_rfl) (.here (.tok .nil)) (by rw[hΓ];rfl)) (Nu (st':=⟨(oP l7 i2 v14 i6),(fu l7.length (lu l7 v14 i2 i6)),[(70010,⟨1,3,M9 (lu l7 v14 i2 i6)⟩)]⟩) (by kernel_rfl))) (Nu (Ca (λk_:Nat=>(⟨[(3,(.vsl 10 k_)),(4,(Z6 i2)),(11,(RW v14)),(12,(AB v14.length)),(13,(Z6 i2)),(18,(AV.list 1 Aq 0 (v14.getD i2.toNat []) .none)),(19,(.int .i64 ((v14.getD i2.toNat []).length:Int))),(20,(Z6 i6))],(fu k_ (lu l7 v14 i2 i6)),[(70010,⟨1,3,M9 (lu l7 v14 i2 i6)⟩)]⟩:St)) (show l7.length=(lu l7 v14 i2 i6).length from(H3 ..).symm)))) (An q XO Pb (tN h))))))) λh=>tS h (gO (D1 (Dj RO Pb q))))) λx14 h=>gA (An q RO Pb (tN h)))) λh=>tS h (gO (D1 (Dj [3] Pb q))))) λx16 h=>gA (An q [2] Pb (Rx (⟨[(2,(.vsl 10 x16.length))],(fu x16.length x16),[(70010,⟨1,3,M9 x16⟩)]⟩:St) (tS h (gK (e:=.ret) (Kl [(10,20000)] (Le.trans (Lr (nm:=10) (sz:=1) (n:=x16.length) (e:=22) (f:=(Mz 1 Aq (0:Int) x16 (Tag.fam 70010))) (g:=(λi=>H7 (x16.getD i []))) rfl ⟨rfl,trivial⟩ (λ_ _=>rfl) (by rw[hΓ];rfl)) (Dj (st':=⟨[(2,(AV.list 1 H7 [] x16 (.own 10)))],[(10,.tok 1 22 x16.length)],[]⟩) [2] [10] q)))))))))))
def E1(a2:Aa):lY->Option (LR (Int×Ob) (Ob ⊕ (C2×Int))):=
 λ((i3,l4):lY)=>(bif (decide (i3<(a2.Blocks.length:Int))) then(Ci (Bw i3 a2.Blocks.length) ((Jw (⟨(a2.Blocks.getD i3.toNat default).End.Kind,(a2.Blocks.getD i3.toNat default).End.Arg,(a2.Blocks.getD i3.toNat default).End.To⟩:Ge) (a2.Blocks.length:Int)).bind λx7=>(bif (!x7) then(some (.done (.inr ((⟨([]:Ob),([]:Ob)⟩:C2),(5:Int))))) else((X6 ((a2.Blocks.getD i3.toNat default).End.To)).bind λx8=>(Ci (Bw i3 l4.length) (some (.next ((Bj (i3+1)),(l4.set i3.toNat x8))))))))) else(some (.done (.inl l4))))
abbrev mz:=(C2×Int)
def SC(Γ:G1)(a2:Aa)(r:mz):Exit->St->Prop:=fK Tryz.prog Γ Tryz.f83.results.toList [] (.tuple [(.agg (Qk r.1)),(Z6 r.2)]) []
def fp:AV:=Z5
def lJ:List jq:=[NA,(3,fQ)]
def o7(a2:Aa)(i3:Int):=(a2.Blocks.getD i3.toNat default)
def m9:AV:=(AV.list 1 H7 [] ([]:Ob) .none)
def nV(a2:Aa):=(List.replicate (a2.Blocks.length:Int).toNat ([]:Am))
def jE:List AV:=[(AV.list 1 H7 [] ([]:Ob) .exact),(AV.list 1 H7 [] ([]:Ob) .exact)]
def Qz(a2:Aa):Option mz:=
 ((Hx (a2.Blocks.length:Int)).bind λx1=>(bif (!x1) then(some ((⟨([]:Ob),([]:Ob)⟩:C2),(5:Int))) else(Ci (0<=(a2.Blocks.length:Int)/\(a2.Blocks.length:Int)<=(a2.Blocks.length:Int)/\(a2.Blocks.length:Int)<=(room:Int)) ((Ah (E1 a2) ((0:Int),(List.replicate (a2.Blocks.length:Int).toNat ([]:Am)))).bind (λx10=>(match x10 with|(.inl l5)=>((In l5).bind λx12=>(some ((⟨l5,x12⟩:C2),(0:Int))))|(.inr r13)=>(some r13)))))))
variable{v16:mz}
theorem PU(h:Qz v0=some v16):sP 83 [(RX v0)] [] (.tuple [(.agg (Qk v16.1)),(Z6 v16.2)]) []:=
 sG Tryz.func83 λΓ q=>have hΓ:=q.own;tW q Vz Vz [1,2,4] Vz (tB h λx1 y1 h=>tT q [1,2,4,13] Vz [(Z2 x1)] (c1 (P2 y1)) (gC h (λh=>gR q T8 [2] [(14,(.agg jE))] [] (c1 (show(AVle (.agg [fp,fp]) (.agg jE)) from(AVle.agg (.cons D2 (.cons D2 .nil))))) (Rx (⟨lJ,[(NC jE)],[]⟩:St) (tS h (gK (e:=.ret) (Kl [] (show Le Γ _ (⟨lJ,[(2,.row 82 [m9,m9])],[]⟩:St) from Le.trans (Dj (st':=⟨lJ,[(NC jE)],[]⟩) T8 [2] q) (Jf (.cons (AVle.refl _) (.cons (AVle.refl _) .nil)) (.row (.cons AVle.untag (.cons AVle.untag .nil)) .nil)))))))) λh=>tV q [1,2,4,5] [1,2,16] h λh=>by exact Mr (Le.trans (Xd 16 (show ∀ k_,k_<((v0.Blocks.length:Int).toNat)->AVleL ((λi_=>AV.eraseAll (λn_=>Cd n_ [1,2,16]) ((λ_=>[fp]) i_)) k_) ((λi=>H7 ((nV v0).getD i [])) k_) from(λk hk=>Xh (e:=H7) (d:=[]) (.cons (λ_ _ _ _ _ hh=>AVle.untag _ _ _ _ _ (D2 _ _ _ _ _ hh)) .nil) _ k (X0 hk)))) (S4 (λ(k_:Nat) u=>(Fx u [(5,(.vsl 16 k_))] [(16,.arr 1 22 k_ (λi=>H7 ((nV v0).getD i [])))])) (show(v0.Blocks.length:Int).toNat=(nV v0).length from(X7 ..).symm))) (An q XS Vy (tL q h XS Vy (λu (i3,l4)=>(Fx u [(5,(.vsl 16 l4.length)),(20,(Z6 i3))] [(16,.arr 1 22 l4.length (λi=>H7 (l4.getD i [])))])) (λu x_=>match x_ with|(.inl l5)=>aG Γ (.exit 0) (Yj [2,5] Vy u [(5,(.vsl 16 l5.length))] [(16,.arr 1 22 l5.length (λi=>H7 (l5.getD i [])))])|(.inr r_)=>aR (SC Γ v0 r_)) (λ⟨i3,l4⟩ y h=>An q [2,4,5,18,19,20,21] Vy (gC h (λh=>tV q [2,4,5,6,7,18,19,20] [2,7,16] h λh=>tB h λx7 y7 h=>tT q [2,4,5,6,7,18,19,20,29] [2,7,16] [(Z2 x7)] (c1 (Zg y7)) (gC h (λh=>gR q T8 [2] [(30,(.agg jE))] [] (c1 (show(AVle (.agg [fp,fp]) (.agg jE)) from(AVle.agg (.cons D2 (.cons D2 .nil))))) (Rx (⟨lJ,[(NC jE)],[]⟩:St) (tS h (gO (Su (Kl [] (show Le Γ _ (⟨lJ,[(2,.row 82 [m9,m9])],[]⟩:St) from Le.trans (Dj (st':=⟨lJ,[(NC jE)],[]⟩) T8 [2] q) (Jf (.cons (AVle.refl _) (.cons (AVle.refl _) .nil)) (.row (.cons AVle.untag (.cons AVle.untag .nil)) .nil))))))))) λh=>tB h λx8 y8 h=>tC h λc9_ h=>tT q XS Vy [⟨[],[],(Z7 x8),[],[],[]⟩] (c3 (UX ((o7 v0 i3).End.To) x8 y8) c9_ (Eq.refl l4.length)) (Mr (Le.trans (Xd 16 (show ∀ k_,k_<l4.length->AVleL ((λi_=>AV.eraseAll (λn_=>Cd n_ Vy) ((Lg (λi=>H7 (l4.getD i [])) i3.toNat 0 [(Z7 x8)]) i_)) k_) ((λi=>H7 ((l4.set i3.toNat x8).getD i [])) k_) from(Ck (H3 ..).symm (λk_ hk_=>(Ca (AV.eraseAll (λn_=>Cd n_ Vy)) ((Mi (λ_ _=>rfl) (Ot c9_) rfl) k_ hk_)).trans rfl)))) (S4 (λ(k_:Nat) u=>(Fx u [(5,(.vsl 16 k_))] [(16,.arr 1 22 k_ (λi=>H7 ((l4.set i3.toNat x8).getD i [])))])) (show l4.length=(l4.set i3.toNat x8).length from(H3 ..).symm))) (An q XS Vy (tN h))))) λh=>tS h (gO (D1 (Dj [2,5] Vy q))))) λx10 h=>(match x10,h with | .inl l5,h=>gA (Rx (⟨[NA,(5,(.vsl 16 l5.length))],[(2,.row 82 [fp,fp]),(16,.arr 1 22 l5.length (λi=>H7 (l5.getD i [])))],[]⟩:St) (Mr (Le.trans (Lr (nm:=16) (sz:=1) (n:=l5.length) (e:=22) (f:=(λi=>H7 (l5.getD i []))) (g:=(λi=>H7 (l5.getD i []))) rfl ⟨rfl,trivial⟩ (λ_ _=>rfl) (by rw[hΓ];rfl)) (Nu (st':=⟨[NA,(5,(AV.list 1 H7 [] l5 (.own 16)))],[(2,.row 82 [fp,fp]),(16,.tok 1 22 l5.length)],[]⟩) (by kernel_rfl))) (tB h λx12 y12 h=>tT q T8 [2,16,41] [⟨[],[(20000,41)],(AV.list 1 H7 [] x12 (.own 20000)),[(20000,.tok 1 22 x12.length)],[],[]⟩] (c1 (R3 y12)) (tS h (Cf []))))) | .inr r13,h=>Xa (λst' hk=>tS h (gK hk)))))))
abbrev oz:=(LR (Int×Int) (Unit ⊕ Bool))
def Cp(aC:Ob)(i2:Int):Gt->Option oz:=
 λ((i4,i5):Gt)=>(bif (decide (i5<((aC.getD i2.toNat []).length:Int))) then(Ci (Bw i5 (aC.getD i2.toNat []).length) ((bif ((decide (((aC.getD i2.toNat []).getD i5.toNat 0)<=i4))==false) then Gb ((aC.getD i2.toNat []).getD i5.toNat 0) (aC.length:Int) else some false).bind λx7=>(bif (bif (decide (((aC.getD i2.toNat []).getD i5.toNat 0)<=i4)) then true else(!x7)) then(some (.done (.inr false))) else(some (.next (((aC.getD i2.toNat []).getD i5.toNat 0),(Bj (i5+1)))))))) else(some (.done (.inl ()))))
def Cq(aC:Ob):Int->Option (LR Int (Unit ⊕ Bool)):=
 λ(i2:Int)=>(bif (decide (i2<(aC.length:Int))) then(Ci (Bw i2 aC.length) ((Ah (Cp aC i2) ((-1:Int),(0:Int))).bind (λx8=>(match x8 with|(.inl _)=>(some (.next (Bj (i2+1))))|(.inr r10)=>(some (.done (.inr r10))))))) else(some (.done (.inl ()))))
def Rr(Γ:G1)(aC:Ob)(r:Bool):Exit->St->Prop:=fK Tryz.prog Γ Tryz.f136.results.toList [] (.bool r) []
def nA(aC:Ob)(i2:Int)(i5:Int)(i4:Int):=(decide (((aC.getD i2.toNat []).getD i5.toNat 0)<=i4))
def Jx(aC:Ob):Option Bool:=
 ((Hx (aC.length:Int)).bind λx1=>(bif (!x1) then(some false) else((Ah (Cq aC) (0:Int)).bind (λx11=>(match x11 with|(.inl _)=>(some true)|(.inr r13)=>(some r13))))))
theorem Zh(h:Jx v14=some v5):sP 136 [(RW v14)] [] (.bool v5) []:=
 sG Tryz.func136 λΓ q=>An q [0] [] (tB h λx1 y1 h=>tT q [0,11] [] [(Z2 x1)] (c1 (P2 y1)) (gC h (λh=>An q [2] [] (tS h (Cf []))) λh=>An q RP [] (tL q h RP [] (λu i2=>(Fx u [(14,(Z6 i2))] [])) (λu x_=>match x_ with|(.inl _)=>aG Γ (.exit 0) (⟨[],[],[]⟩:St)|(.inr r_)=>aR (Rr Γ v14 r_)) (λi2 y h=>An q [0,12,13,14,15] [] (gC h (λh=>tV q [0,4,12,13,14] [] h λh=>tW q [0,4,5,12,13,14] [] XP [] (tL q h XP [] (λu (i4,i5)=>(Fx u [(5,(Z6 i4)),(20,(Z6 i5))] [])) (λu x_=>match x_ with|(.inl _)=>aG Γ (.exit 2) (Yj RP [] u [] [])|(.inr r_)=>aR (Rr Γ v14 r_)) (λ⟨i4,i5⟩ y h=>An q [0,5,12,13,14,18,19,20,21] [] (gC h (λh=>tV q [0,5,7,12,13,14,18,19,20] [] h λh=>tB h λx7 y7 h=>tT q [0,7,12,13,14,18,19,20,33] [] [(Z2 x7)] (WN ((nA v14 i2 i5 i4)==false) (c3 (λ(hg:((nA v14 i2 i5 i4)==false)=true)=>(L1 (Bt hg y7))) (gI ((nA v14 i2 i5 i4)==false)) (Ux (nA v14 i2 i5 i4)))) (gC h (λh=>An q [2] [] (tS h (gO (Su (Kl [] (Le.refl _ _)))))) λh=>tW q XP [] XP [] (tN h))) λh=>tS h (gO (D1 (Dj RP [] q))))) λx8 h=>(match x8,h with | .inl _,h=>gA (An q RP [] (tN h)) | .inr r10,h=>Xa (λst' hk=>tS h (gO (Su hk)))))) λh=>tS h (gO (D1 (Dj [] [] q))))) λx11 h=>(match x11,h with | .inl _,h=>gA (An q [2] [] (tS h (Cf []))) | .inr r13,h=>Xa (λst' hk=>tS h (gK hk))))))
def Bg(aS:Am)(aT:Am):Int->Option (LR Int (Unit ⊕ Bool)):=
 λ(i1:Int)=>(bif (decide (i1<(aS.length:Int))) then(Ci (Bw i1 aS.length) (Ci (Bw i1 aT.length) (bif ((aS.getD i1.toNat 0)!=(aT.getD i1.toNat 0)) then(some (.done (.inr false))) else(some (.next (Bj (i1+1))))))) else(some (.done (.inl ()))))
def Qf(Γ:G1)(aS:Am)(aT:Am)(r:Bool):Exit->St->Prop:=fK Tryz.prog Γ Tryz.f115.results.toList [] (.bool r) []
def Ef(aS:Am)(aT:Am):Option Bool:=
 (bif ((aS.length:Int)!=(aT.length:Int)) then(some false) else((Ah (Bg aS aT) (0:Int)).bind (λx4=>(match x4 with|(.inl _)=>(some true)|(.inr r6)=>(some r6)))))
variable{v17:Am}
theorem Kc(h:Ef v4 v17=some v5):sP 115 [(Z7 v4),(Z7 v17)] [] (.bool v5) []:=
 sG Tryz.func115 λΓ q=>tW q Gv [] BM [] (gC h (λh=>An q [4] [] (tS h (Cf []))) λh=>An q VM [] (tL q h VM [] (λu i1=>(Fx u [(13,(Z6 i1))] [])) (λu x_=>match x_ with|(.inl _)=>aG Γ (.exit 0) (⟨[],[],[]⟩:St)|(.inr r_)=>aR (Qf Γ v4 v17 r_)) (λi1 y h=>An q [0,1,12,13,14] [] (gC h (λh=>An q [0,1,5,12,13] [] (tC h λc2_ h=>tC h λc3_ h=>tU q [0,1,12,13,24] [] (c2 c2_ c3_) (gC h (λh=>An q [4] [] (tS h (gO (Su (Kl [] (Le.refl _ _)))))) λh=>An q VM [] (tN h)))) λh=>tS h (gO (D1 (Dj [] [] q))))) λx4 h=>(match x4,h with | .inl _,h=>gA (An q [4] [] (tS h (Cf []))) | .inr r6,h=>Xa (λst' hk=>tS h (gK hk)))))
def Au(aS:Ob)(aT:Ob):Int->Option (LR Int (Unit ⊕ Bool)):=
 λ(i1:Int)=>(bif (decide (i1<(aS.length:Int))) then(Ci (Bw i1 aS.length) (Ci (Bw i1 aT.length) ((Ef (aS.getD i1.toNat []) (aT.getD i1.toNat [])).bind λx4=>(bif (!x4) then(some (.done (.inr false))) else(some (.next (Bj (i1+1)))))))) else(some (.done (.inl ()))))
def Jy(Γ:G1)(aS:Ob)(aT:Ob)(r:Bool):Exit->St->Prop:=fK Tryz.prog Γ Tryz.f137.results.toList [] (.bool r) []
def Cr(aS:Ob)(aT:Ob):Option Bool:=
 (bif ((aS.length:Int)!=(aT.length:Int)) then(some false) else((Ah (Au aS aT) (0:Int)).bind (λx5=>(match x5 with|(.inl _)=>(some true)|(.inr r7)=>(some r7)))))
theorem Jo(h:Cr v14 v15=some v5):sP 137 [(RW v14),(RW v15),(.clo 115 [] [])] [] (.bool v5) []:=
 sG Tryz.func137 λΓ q=>tW q GI [] [0,1,2,14] [] (gC h (λh=>An q [6] [] (tS h (Cf []))) λh=>An q fH [] (tL q h fH [] (λu i1=>(Fx u [(17,(Z6 i1))] [])) (λu x_=>match x_ with|(.inl _)=>aG Γ (.exit 0) (⟨[],[],[]⟩:St)|(.inr r_)=>aR (Jy Γ v14 v15 r_)) (λi1 y h=>An q [1,2,15,16,17,18] [] (gC h (λh=>tV q [1,2,7,8,15,16,17] [] h λh=>tV q [1,2,8,9,15,16,17] [] h λh=>tB h λx4 y4 h=>tT q [1,2,15,16,17,30] [] [(Z2 x4)] (c1 (Kc y4)) (gC h (λh=>An q [6] [] (tS h (gO (Su (Kl [] (Le.refl _ _)))))) λh=>An q fH [] (tN h))) λh=>tS h (gO (D1 (Dj [] [] q))))) λx5 h=>(match x5,h with | .inl _,h=>gA (An q [6] [] (tS h (Cf []))) | .inr r7,h=>Xa (λst' hk=>tS h (gK hk)))))
def Oz(aE:C2):Option Bool:=
 ((Jx aE.Succ).bind λx1=>((bif (x1==true) then In aE.Succ else some []).bind λx2=>((bif (x1==true) then Cr aE.Pred x2 else some false).bind λx3=>(some (bif x1 then x3 else false)))))
variable{v18:C2}
theorem MD(h:Oz v18=some v5):sP 110 [(.agg (Qk v18))] [] (.bool v5) []:=
 sG Tryz.func110 λΓ q=>An q [1] [1] (tB h λx1 y1 h=>tB h λx2 y2 h=>tB h λx3 y3 h=>tT q [2] [] [(Z2 x1),⟨[],[],(RW x2),[],[],[]⟩,(Z2 x3)] (ci (Zh y1) (WN (x1==true) (ci (show((x1==true)=true->(sP 109 [(RW v18.Succ)] [] (RW x2) [])) from(λhg=>(Spec.drop (R3 (Bt hg y2))))) (Yu (x1==true) (c2 (λ(hg:(x1==true)=true)=>(Jo (Bt hg y3))) (Lq x1)))))) (tS h (Cf [])))
abbrev oO:=(Int×Int×Am)
def Ba :oO->Option (LR (Int×Int×Am) Am):=
 λ((i1,i2,l3):oO)=>(bif (decide (i1<i2)) then(Ci (Bw i2 l3.length) (Ci (Bw i1 l3.length) (Ci (Bw i1 l3.length) (Ci (Bw i2 l3.length) (some (.next ((Bj (i1+1)),(Bj (i2-1)),((l3.set i1.toNat (l3.getD i2.toNat 0)).set i2.toNat (l3.getD i1.toNat 0))))))))) else(some (.done l3)))
def nW(l3:Am)(i1:Int)(i2:Int):=((l3.set i1.toNat (l3.getD i2.toNat 0)).set i2.toNat (l3.getD i1.toNat 0))
def Du(aY:Am):Option Am:=
 ((Ah (S:=oO) (X:=Am) Ba ((0:Int),(Bj ((aY.length:Int)-1)),aY)).bind (λx9=>(some x9)))
theorem Jg(h:Du v4=some v17):sP 112 [(.vsl 34000 v4.length)] [(Z4 34000 v4)] (.tuple []) [(Z4 34000 v17)]:=
 sG Tryz.func112 λΓ q=>An q [0,2,3] [34000] (tL q h [0,2,3] [34000] (λu (i1,i2,l3)=>(Fx u [(0,(.vsl 34000 l3.length)),(2,(Z6 i1)),(3,(Z6 i2))] [(Z4 34000 l3)])) (λu l4=>aG Γ (.exit 0) (⟨[],[(Z4 34000 l4)],[]⟩:St)) (λ⟨i1,i2,l3⟩ y h=>An q [0,2,3,9] [34000] (gC h (λh=>tC h λc5_ h=>tC h λc6_ h=>tC h λc7_ h=>tC h λc8_ h=>tU q [0,2,3] [34000] (c8 c5_ (Eq.refl l3.length) c6_ (Eq.refl l3.length) c7_ (Eq.refl l3.length) c8_ (Eq.refl l3.length)) (Mr (Le.trans (Xd 34000 (show ∀ k_,k_<l3.length->AVleL ((λi_=>AV.eraseAll (λn_=>Cd n_ [34000]) ((Lg (Lg (λi=>Aq (l3.getD i 0)) i1.toNat 0 [(.int .i64 (l3.getD i2.toNat 0))]) i2.toNat 0 [(.int .i64 (l3.getD i1.toNat 0))]) i_)) k_) ((λi=>Aq ((nW l3 i1 i2).getD i 0)) k_) from(Ck (Eq.trans (H3 ..).symm (H3 ..).symm) (λk_ hk_=>(Ca (AV.eraseAll (λn_=>Cd n_ [34000])) ((Mi (Mi (λ_ _=>rfl) (Ot c7_) rfl) (gy c8_) rfl) k_ hk_)).trans rfl)))) (S4 (λ(k_:Nat) u=>(Fx u [(0,(.vsl 34000 k_))] [(34000,.arr 1 3 k_ (λi=>Aq ((nW l3 i1 i2).getD i 0)))])) (show l3.length=(nW l3 i1 i2).length from(Eq.trans (H3 ..).symm (H3 ..).symm)))) (An q [0,2,3] [34000] (tN h)))) λh=>tS h (gO (D1 (Dj [] [34000] q))))) λx9 h=>jW (λst' hl10=>tS h (gK (e:=.normal) (Kl [(34000,34000)] hl10))))
abbrev o4:=(LR Am (Am ⊕ (List Bool×Am×Am)))
def Yy(aE:C2)(a3:Int):Am->Option o4:=
 λ(l9:Am)=>(Ci (Bw ([a3].getD (Bj (([a3].length:Int)-1)).toNat (0:Int)) 64) (Ci (Bw ([a3].getD (Bj (([a3].length:Int)-1)).toNat (0:Int)) aE.Succ.length) (bif (decide ((l9.getD ([a3].getD (Bj (([a3].length:Int)-1)).toNat (0:Int)).toNat (0:Int))<((aE.Succ.getD ([a3].getD (Bj (([a3].length:Int)-1)).toNat (0:Int)).toNat []).length:Int))) then(Ci (Bw ([a3].getD (Bj (([a3].length:Int)-1)).toNat (0:Int)) aE.Succ.length) (Ci (Bw ([a3].getD (Bj (([a3].length:Int)-1)).toNat (0:Int)) 64) (Ci (Bw (l9.getD ([a3].getD (Bj (([a3].length:Int)-1)).toNat (0:Int)).toNat (0:Int)) (aE.Succ.getD ([a3].getD (Bj (([a3].length:Int)-1)).toNat (0:Int)).toNat []).length) (Ci (Bw ([a3].getD (Bj (([a3].length:Int)-1)).toNat (0:Int)) 64) (Ci (Bw ([a3].getD (Bj (([a3].length:Int)-1)).toNat (0:Int)) 64) (Ci (Bw ((aE.Succ.getD ([a3].getD (Bj (([a3].length:Int)-1)).toNat (0:Int)).toNat []).getD (l9.getD ([a3].getD (Bj (([a3].length:Int)-1)).toNat (0:Int)).toNat (0:Int)).toNat (0:Int)) 64) (bif (!((J6 64 false (List.replicate 64 false) a3.toNat true).getD ((aE.Succ.getD ([a3].getD (Bj (([a3].length:Int)-1)).toNat (0:Int)).toNat []).getD (l9.getD ([a3].getD (Bj (([a3].length:Int)-1)).toNat (0:Int)).toNat (0:Int)).toNat (0:Int)).toNat false)) then(Ci (Bw ((aE.Succ.getD ([a3].getD (Bj (([a3].length:Int)-1)).toNat (0:Int)).toNat []).getD (l9.getD ([a3].getD (Bj (([a3].length:Int)-1)).toNat (0:Int)).toNat (0:Int)).toNat (0:Int)) 64) (Ci ([a3].length+([((aE.Succ.getD ([a3].getD (Bj (([a3].length:Int)-1)).toNat (0:Int)).toNat []).getD (l9.getD ([a3].getD (Bj (([a3].length:Int)-1)).toNat (0:Int)).toNat (0:Int)).toNat (0:Int))]:Am).length<=room) (some (.done (.inr ((J6 64 false (J6 64 false (List.replicate 64 false) a3.toNat true) ((aE.Succ.getD ([a3].getD (Bj (([a3].length:Int)-1)).toNat (0:Int)).toNat []).getD (l9.getD ([a3].getD (Bj (([a3].length:Int)-1)).toNat (0:Int)).toNat (0:Int)).toNat (0:Int)).toNat true),(J6 64 (0:Int) l9 ([a3].getD (Bj (([a3].length:Int)-1)).toNat (0:Int)).toNat (Bj ((l9.getD ([a3].getD (Bj (([a3].length:Int)-1)).toNat (0:Int)).toNat (0:Int))+1))),([a3]++([((aE.Succ.getD ([a3].getD (Bj (([a3].length:Int)-1)).toNat (0:Int)).toNat []).getD (l9.getD ([a3].getD (Bj (([a3].length:Int)-1)).toNat (0:Int)).toNat (0:Int)).toNat (0:Int))]:Am)))))))) else(some (.next (J6 64 (0:Int) l9 ([a3].getD (Bj (([a3].length:Int)-1)).toNat (0:Int)).toNat (Bj ((l9.getD ([a3].getD (Bj (([a3].length:Int)-1)).toNat (0:Int)).toNat (0:Int))+1)))))))))))) else(some (.done (.inl l9))))))
def Fy(aE:C2)(l1:List Bool)(l3:Am):Am->Option o4:=
 λ(l32:Am)=>(Ci (Bw (l3.getD (Bj ((l3.length:Int)-1)).toNat (0:Int)) 64) (Ci (Bw (l3.getD (Bj ((l3.length:Int)-1)).toNat (0:Int)) aE.Succ.length) (bif (decide ((l32.getD (l3.getD (Bj ((l3.length:Int)-1)).toNat (0:Int)).toNat (0:Int))<((aE.Succ.getD (l3.getD (Bj ((l3.length:Int)-1)).toNat (0:Int)).toNat []).length:Int))) then(Ci (Bw (l3.getD (Bj ((l3.length:Int)-1)).toNat (0:Int)) aE.Succ.length) (Ci (Bw (l3.getD (Bj ((l3.length:Int)-1)).toNat (0:Int)) 64) (Ci (Bw (l32.getD (l3.getD (Bj ((l3.length:Int)-1)).toNat (0:Int)).toNat (0:Int)) (aE.Succ.getD (l3.getD (Bj ((l3.length:Int)-1)).toNat (0:Int)).toNat []).length) (Ci (Bw (l3.getD (Bj ((l3.length:Int)-1)).toNat (0:Int)) 64) (Ci (Bw (l3.getD (Bj ((l3.length:Int)-1)).toNat (0:Int)) 64) (Ci (Bw ((aE.Succ.getD (l3.getD (Bj ((l3.length:Int)-1)).toNat (0:Int)).toNat []).getD (l32.getD (l3.getD (Bj ((l3.length:Int)-1)).toNat (0:Int)).toNat (0:Int)).toNat (0:Int)) 64) (bif (!(l1.getD ((aE.Succ.getD (l3.getD (Bj ((l3.length:Int)-1)).toNat (0:Int)).toNat []).getD (l32.getD (l3.getD (Bj ((l3.length:Int)-1)).toNat (0:Int)).toNat (0:Int)).toNat (0:Int)).toNat false)) then(Ci (Bw ((aE.Succ.getD (l3.getD (Bj ((l3.length:Int)-1)).toNat (0:Int)).toNat []).getD (l32.getD (l3.getD (Bj ((l3.length:Int)-1)).toNat (0:Int)).toNat (0:Int)).toNat (0:Int)) 64) (Ci (l3.length+([((aE.Succ.getD (l3.getD (Bj ((l3.length:Int)-1)).toNat (0:Int)).toNat []).getD (l32.getD (l3.getD (Bj ((l3.length:Int)-1)).toNat (0:Int)).toNat (0:Int)).toNat (0:Int))]:Am).length<=room) (some (.done (.inr ((J6 64 false l1 ((aE.Succ.getD (l3.getD (Bj ((l3.length:Int)-1)).toNat (0:Int)).toNat []).getD (l32.getD (l3.getD (Bj ((l3.length:Int)-1)).toNat (0:Int)).toNat (0:Int)).toNat (0:Int)).toNat true),(J6 64 (0:Int) l32 (l3.getD (Bj ((l3.length:Int)-1)).toNat (0:Int)).toNat (Bj ((l32.getD (l3.getD (Bj ((l3.length:Int)-1)).toNat (0:Int)).toNat (0:Int))+1))),(l3++([((aE.Succ.getD (l3.getD (Bj ((l3.length:Int)-1)).toNat (0:Int)).toNat []).getD (l32.getD (l3.getD (Bj ((l3.length:Int)-1)).toNat (0:Int)).toNat (0:Int)).toNat (0:Int))]:Am)))))))) else(some (.next (J6 64 (0:Int) l32 (l3.getD (Bj ((l3.length:Int)-1)).toNat (0:Int)).toNat (Bj ((l32.getD (l3.getD (Bj ((l3.length:Int)-1)).toNat (0:Int)).toNat (0:Int))+1)))))))))))) else(some (.done (.inl l32))))))
abbrev ea:=(List Bool×Am×Am×Am)
def Cx(aE:C2):ea->Option (LR (List Bool×Am×Am×Am) Am):=
 λ(s_:ea)=>match s_ with|(l1,l2,l3,l4)=>(Ci (Bw (Bj ((l3.length:Int)-1)) l3.length) ((Ah (Fy aE l1 l3) l2).bind (λx47=>(match x47 with|(.inl l33)=>(Ci (l4.length+([(l3.getD (Bj ((l3.length:Int)-1)).toNat (0:Int))]:Am).length<=room) (Ci (0<=(Bj ((l3.length:Int)-1))/\0+(Bj ((l3.length:Int)-1)).toNat<=l3.length) (bif (decide ((0:Int)<((l3.take (Bj ((l3.length:Int)-1)).toNat).length:Int))) then(some (.next (l1,l33,(l3.take (Bj ((l3.length:Int)-1)).toNat),(l4++([(l3.getD (Bj ((l3.length:Int)-1)).toNat (0:Int))]:Am))))) else((Du (l4++([(l3.getD (Bj ((l3.length:Int)-1)).toNat (0:Int))]:Am))).bind λx51=>(Ci ((l4++([(l3.getD (Bj ((l3.length:Int)-1)).toNat (0:Int))]:Am)).length=x51.length) (some (.done x51)))))))|(.inr (l34,l35,l36))=>(some (.next (l34,l35,l36,l4)))))))
def GN(Γ:G1)(aE:C2)(a3:Int)(r:Am):Exit->St->Prop:=fK Tryz.prog Γ Tryz.f84.results.toList [] (HR r 20000) [(20000,.tok 1 3 r.length)]
def lM(l1:List Bool):=(λi=>eB (l1.getD i false))
def bJ(l3:Am):=(l3.getD (Bj ((l3.length:Int)-1)).toNat (0:Int))
def bV(l4:Am)(l3:Am):=(l4++([(bJ l3)]:Am))
def lx(l10:Am):=(λi=>Aq (l10.getD i 0))
def ly(l33:Am):=(λi=>Aq (l33.getD i 0))
def RT:=(λn_=>Cd n_ [2,5,6,25,36007])
def j7(a3:Int):=(λi=>Aq ([a3].getD i 0))
def VR(a3:Int):=([a3].getD (Bj (([a3].length:Int)-1)).toNat (0:Int))
def fN(a3:Int):=(([]:Am)++([(VR a3)]:Am))
def lO(a3:Int):=(λi=>Aq ((fN a3).getD i 0))
def lN(l4:Am)(l3:Am):=(λi=>Aq ((bV l4 l3).getD i 0))
def lL:AV:=YE
def nB:=(λi=>Aq (([]:Am).getD i 0))
def j6(l3:Am):=(0+(Bj ((l3.length:Int)-1)).toNat)
def lK(a3:Int):=(0+(Bj (([a3].length:Int)-1)).toNat)
def nZ(a3:Int):=([a3].take (Bj (([a3].length:Int)-1)).toNat)
def nX:=(λi=>Aq ((List.replicate 64 (0:Int)).getD i 0))
def bT(aE:C2):List AV:=[(RW aE.Succ),(RW aE.Pred)]
def jF(a3:Int):=(λi=>eB ((J6 64 false (List.replicate 64 false) a3.toNat true).getD i false))
def fM(aE:C2)(l3:Am)(l32:Am):=((aE.Succ.getD (bJ l3).toNat []).getD (l32.getD (bJ l3).toNat (0:Int)).toNat (0:Int))
def fL(aE:C2)(a3:Int)(l9:Am):=((aE.Succ.getD (VR a3).toNat []).getD (l9.getD (VR a3).toNat (0:Int)).toNat (0:Int))
def oS:=(Z37:St)
def oT(a3:Int):List jq:=[NA,bc,bb,(7,(.vsl 36007 (fN a3).length)),(8,(.vsl 25 (lK a3)))]
def oR(a3:Int)(aE:C2):=(⟨[NA,bc,bb,(7,(.vsl 36007 ([]:Am).length)),(8,(.vsl 25 [a3].length)),(9,(Z6 (VR a3)))],[(NC (bT aE)),(be (jF a3)),(bL nX),(25,.arr 1 3 ([a3].length) (j7 a3)),(36007,.arr 1 3 (([]:Am).length) nB)],[]⟩:St)
def Gz(aE:C2)(a3:Int):Option Am:=
 ((Pp (S:=ea) (X:=Am) ((Oz aE).bind λx5=>((bif ((!x5)==false) then Gb a3 (aE.Succ.length:Int) else some false).bind λx6=>(bif (bif (!x5) then true else(!x6)) then(some (.done ([]:Am))) else(Ci (Bw a3 64) (Ci (Bw (Bj (([a3].length:Int)-1)) [a3].length) ((Ah (Yy aE a3) (List.replicate 64 (0:Int))).bind (λx24=>(match x24 with|(.inl l10)=>(Ci (([]:Am).length+([([a3].getD (Bj (([a3].length:Int)-1)).toNat (0:Int))]:Am).length<=room) (Ci (0<=(Bj (([a3].length:Int)-1))/\0+(Bj (([a3].length:Int)-1)).toNat<=[a3].length) (bif (decide ((0:Int)<(([a3].take (Bj (([a3].length:Int)-1)).toNat).length:Int))) then(some (.next ((J6 64 false (List.replicate 64 false) a3.toNat true),l10,([a3].take (Bj (([a3].length:Int)-1)).toNat),(([]:Am)++([([a3].getD (Bj (([a3].length:Int)-1)).toNat (0:Int))]:Am))))) else((Du (([]:Am)++([([a3].getD (Bj (([a3].length:Int)-1)).toNat (0:Int))]:Am))).bind λx28=>(Ci ((([]:Am)++([([a3].getD (Bj (([a3].length:Int)-1)).toNat (0:Int))]:Am)).length=x28.length) (some (.done x28)))))))|(.inr (l11,l12,l13))=>(some (.next (l11,l12,l13,([]:Am)))))))))))) (Cx aE)).bind (λx54=>(some x54)))
theorem Td(h:Gz v18 v1=some v4):sP 84 [(.agg (Qk v18)),(Z6 v1)] [] (HR v4 20000) [(20000,.tok 1 3 v4.length)]:=
 sG Tryz.func84 λΓ q=>have hΓ:=q.own;gR q Vz [2] [(4,lL)] [] (c1 (G3 1 Aq (0:Int))) (tB h λx54 y54 h=>gS y54 (λ(s_:ea)=>match s_ with|(l1,l2,l3,l4)=>0) (λ(s_:ea)=>match s_ with|(l1,l2,l3,l4)=>(⟨[NA,bc,bb,(7,(.vsl 36007 l4.length)),(8,(.vsl 25 l3.length))],[(NC (bT v18)),(be (lM l1)),(mG l2),(Z4 25 l3),(Z4 36007 l4)],[]⟩:St)) (λr_=>aR (GN Γ v18 v1 r_)) (λy h=>tB h λx5 y5 h=>tB h λx6 y6 h=>tT q [1,2,21] [2] [(Z2 x5),(Z2 x6)] (ci (MD y5) (lV ((!x5)==false) (c3 (λ(hg:((!x5)==false)=true)=>(L1 (Bt hg y6))) (gI ((!x5)==false)) (Ux (!x5))))) (gC h (λh=>gR q [4] [] [(4,lL)] [] (c1 (G3 1 Aq (0:Int))) (Rx (⟨[(4,lL)],[],[]⟩:St) (tS h (jX (Su (Kl VI (show Le Γ _ oS from Le.trans (Dj (st':=⟨[(4,lL)],[],[]⟩) [4] [] q) (Le.trans (LS (t:=4) (nm:=6004) (sz':=1) nB 3 rfl rfl (.inl ⟨rfl,rfl⟩) (λh_=>absurd h_ (by decide))) (Dj (st':=oS) [4] [6004] q))))))))) λh=>gR q GM [2,5] [bc] [] trivial (Mr (Xd 5 (show ∀ k_,k_<64->AVleL ((λi_=>AV.eraseAll (λn_=>Cd n_ [2,5]) ((λi=>(((List.replicate 64 [(.bool false)]).flatten).drop (i*1)).take 1) i_)) k_) ((λi=>eB ((List.replicate 64 false).getD i false)) k_) from(HW (e:=eB) (d:=false) (z:=[(.bool false)]) rfl rfl rfl))) (gR q [1,2,5,6] Vx [bb] [] trivial (Mr (Xd 6 (show ∀ k_,k_<64->AVleL ((λi_=>AV.eraseAll (λn_=>Cd n_ Vx) ((λi=>(((List.replicate 64 [Ld]).flatten).drop (i*1)).take 1) i_)) k_) (nX k_) from(HW (e:=Aq) (d:=(0:Int)) (z:=[Ld]) rfl rfl rfl))) (gR q [1,2,5,6,7] Vx [(7,lL)] [] (c1 (G3 1 Aq (0:Int))) (tC h λc7_ h=>tU q [1,2,5,6,7] Vx (c2 c7_ (Eq.refl 64)) (Mr (Xd 5 (show ∀ k_,k_<64->AVleL ((λi_=>AV.eraseAll (λn_=>Cd n_ Vx) ((Lg (λi=>eB ((List.replicate 64 false).getD i false)) v1.toNat 0 [(.bool true)]) i_)) k_) ((jF v1) k_) from(Ck rfl (λk_ hk_=>(Ca (AV.eraseAll (λn_=>Cd n_ Vx)) ((P4 (λ_ _=>rfl) (Oq c7_) rfl) k_ hk_)).trans rfl)))) (gR q T6 MU [(25,(.vsl 25 1))] [] trivial (Mr (Le.trans (Xd 25 (show ∀ k_,k_<1->AVleL ((λi_=>AV.eraseAll (λn_=>Cd n_ MU) ((λi_=>([(Z6 v1)].drop (i_*1)).take 1) i_)) k_) ((j7 v1) k_) from(Ck rfl (iZ (n:=0) k6 rfl)))) (S4 (λ(k_:Nat) u=>(Fx u [(8,(.vsl 25 k_))] [(25,.arr 1 3 k_ (j7 v1))])) (show 1=[v1].length from rfl))) (tC h λc8_ h=>tU q Vv MU (c2 c8_ (Eq.refl ([v1].length))) (Mr (st':=(oR v1 v18)) (Le.trans (Dj (st':=⟨[NA,bc,bb,(7,lL),(8,(.vsl 25 [v1].length)),(9,(Z6 (VR v1)))],[(NC (bT v18)),(be (jF v1)),(bL nX),(25,.arr 1 3 ([v1].length) (j7 v1))],[]⟩) Vv MU q) (Le.trans (kg (t:=7) (nm:=36007) (sz':=1) nB 3 rfl rfl) (Dj (st':=(oR v1 v18)) Vv Kj q))) (tL q h Vv Kj (λu l9=>(Fx u [] [(mG l9)])) (λu x_=>match x_ with|(.inl l10)=>aG Γ (.exit 0) (Fx u [] [(bL (lx l10))])|(.inr (l11,l12,l13))=>aG Γ (.goto 0) (Yj T6 Kj u [(8,(.vsl 25 l13.length))] [(5,.arr 1 165 64 (λi=>eB (l11.getD i false))),(mG l12),(Z4 25 l13)])) (λl9 y h=>tC h λc14_ h=>tC h λc15_ h=>tU q [2,5,6,7,8,9,41] Kj (c3 c14_ (Eq.refl 64) c15_) (gC h (λh=>tC h λc16_ h=>tC h λc17_ h=>tC h λc18_ h=>tU q XR Kj (c4 c16_ c17_ (Eq.refl 64) c18_) (tC h λc19_ h=>tC h λc20_ h=>tU q XR Kj (c4 c19_ (Eq.refl 64) c20_ (Eq.refl 64)) (Mr (Xd 6 (show ∀ k_,k_<64->AVleL ((λi_=>AV.eraseAll RT ((Lg (λi=>Aq (l9.getD i 0)) (VR v1).toNat 0 [(.int .i64 (Bj ((l9.getD (VR v1).toNat (0:Int))+1)))]) i_)) k_) ((λi=>Aq ((J6 64 (0:Int) l9 (VR v1).toNat (Bj ((l9.getD (VR v1).toNat (0:Int))+1))).getD i 0)) k_) from(Ck rfl (λk_ hk_=>(Ca (AV.eraseAll RT) ((P4 (λ_ _=>rfl) (Oq c20_) rfl) k_ hk_)).trans rfl)))) (tC h λc21_ h=>tU q ei Kj (c2 c21_ (Eq.refl 64)) (gC h (λh=>tC h λc22_ h=>tU q [2,5,6,7,8,10] Kj (c2 c22_ (Eq.refl 64)) (Mr (Xd 5 (show ∀ k_,k_<64->AVleL ((λi_=>AV.eraseAll RT ((Lg (jF v1) (fL v18 v1 l9).toNat 0 [(.bool true)]) i_)) k_) ((λi=>eB ((J6 64 false (J6 64 false (List.replicate 64 false) v1.toNat true) (fL v18 v1 l9).toNat true).getD i false)) k_) from(Ck rfl (λk_ hk_=>(Ca (AV.eraseAll RT) ((P4 (λ_ _=>rfl) (Oq c22_) rfl) k_ hk_)).trans rfl)))) (tC h λc23_ h=>gR q T6 Kj [(65,(kB (fL v18 v1 l9)))] [] (c3 (Bm 1 Aq (0:Int) ([(fL v18 v1 l9)]:Am)) (Eq.refl ([v1].length)) c23_) (tS h (gO (D1 (Le.trans (Le.trans (Xd 25 (show ∀ k_,k_<([v1].length+([(fL v18 v1 l9)]:Am).length)->AVleL ((λi_=>AV.eraseAll RT ((Jk ([v1].length) (j7 v1) (λi=>Aq (([(fL v18 v1 l9)]:Am).getD i 0))) i_)) k_) ((λi=>Aq (([v1]++([(fL v18 v1 l9)]:Am)).getD i 0)) k_) from(Ck (H8 _ _) (λk_ hk_=>(Ca (AV.eraseAll RT) ((Ww (λ_ _=>rfl) (λ_ _=>rfl)) k_ hk_)).trans rfl)))) (S4 (λ(k_:Nat) u=>(Fx u [(8,(.vsl 25 k_))] [(25,.arr 1 3 k_ (λi=>Aq (([v1]++([(fL v18 v1 l9)]:Am)).getD i 0)))])) (show([v1].length+([(fL v18 v1 l9)]:Am).length)=([v1]++([(fL v18 v1 l9)]:Am)).length from(H8 _ _)))) Mo))))))) λh=>tS h (gN (Dj Vv Kj q))))))) λh=>tS h (gO (D1 (Dj Vv Kj q))))) λx24 h=>(match x24,h with | .inl l10,h=>gA (tC h λc26_ h=>gR q T6 Kj [(69,(kB (VR v1)))] [] (c3 (Bm 1 Aq (0:Int) ([(VR v1)]:Am)) (Eq.refl (([]:Am).length)) c26_) (Mr (Le.trans (Xd 36007 (show ∀ k_,k_<(([]:Am).length+([(VR v1)]:Am).length)->AVleL ((λi_=>AV.eraseAll RT ((Jk (([]:Am).length) nB (λi=>Aq (([(VR v1)]:Am).getD i 0))) i_)) k_) ((lO v1) k_) from(Ck (H8 _ _) (λk_ hk_=>(Ca (AV.eraseAll RT) ((Ww (λ_ _=>rfl) (λ_ _=>rfl)) k_ hk_)).trans rfl)))) (S4 (λ(k_:Nat) u=>(Fx u [(7,(.vsl 36007 k_))] [(36007,.arr 1 3 k_ (lO v1))])) (show(([]:Am).length+([(VR v1)]:Am).length)=(fN v1).length from(H8 _ _)))) (tC h λc27_ h=>tU q T6 Kj (c1 c27_) (Rx (⟨[NA,bc,bb,(7,(.vsl 36007 (fN v1).length)),(8,(.vsub 25 [v1].length 0 (lK v1)))],[(NC (bT v18)),(be (jF v1)),(bL (lx l10)),(25,.arr 1 3 ([v1].length) (j7 v1)),(36007,.arr 1 3 ((fN v1).length) (lO v1))],[]⟩:St) (Mr (Le.trans (Le.trans (OY (t:=8) (r:=25) (k:=(lK v1)) rfl rfl c27_.2 (by kernel_rfl) (.row (by kernel_rfl) (.arr (λ_=>by kernel_rfl) (.arr (λ_=>by kernel_rfl) (.arr (λ_=>by kernel_rfl) (.arr (λ_=>by kernel_rfl) .nil))))) (by rw[hΓ];rfl)) (Nu (st':=⟨(oT v1),[(NC (bT v18)),(be (jF v1)),(bL (lx l10)),(25,.arr 1 3 (lK v1) (j7 v1)),(36007,.arr 1 3 ((fN v1).length) (lO v1))],[]⟩) (by kernel_rfl))) (Le.trans (Jf (st':=⟨(oT v1),[(NC (bT v18)),(be (jF v1)),(bL (lx l10)),(25,.arr 1 3 (lK v1) (λi=>Aq ((nZ v1).getD i 0))),(36007,.arr 1 3 ((fN v1).length) (lO v1))],[]⟩) (TmpsLe.refl _) (.same (.same (.same (.arr (XG (e:=Aq) (d:=(0:Int))) (.same .nil)))))) (Nu (Ca (λk_:Nat=>(⟨[NA,bc,bb,(7,(.vsl 36007 (fN v1).length)),(8,(.vsl 25 k_))],[(NC (bT v18)),(be (jF v1)),(bL (lx l10)),(25,.arr 1 3 k_ (λi=>Aq ((nZ v1).getD i 0))),(36007,.arr 1 3 ((fN v1).length) (lO v1))],[]⟩:St)) (show(lK v1)=(nZ v1).length from QV c27_.2))))) (An q [2,5,6,7,8,78] Kj (gC h (λh=>tS h (gu (Dj T6 Kj q))) λh=>tB h λx28 y28 h=>tC h λc29_ h=>tT q [7] [36007] [⟨[(36007,34000)],[],(.tuple []),[(Z4 34000 x28)],[],[]⟩] (c1 (Jg y28)) (Mr (S4 (λ(k_:Nat) u=>(Fx u [(7,(.vsl 36007 k_))] [])) (show(fN v1).length=x28.length from c29_)) (An q [4] [36007] (Rx (⟨[(4,(.vsl 36007 x28.length))],[(Z4 36007 x28)],[]⟩:St) (tS h (jX (Su (Kl [(36007,20000)] (Le.trans (Lr (nm:=36007) (sz:=1) (n:=x28.length) (e:=3) (f:=(λi=>Aq (x28.getD i 0))) (g:=(λi=>Aq (x28.getD i 0))) rfl ⟨rfl,trivial⟩ (λ_ _=>rfl) (by rw[hΓ];rfl)) (Nu (st':=⟨[(4,(HR x28 36007))],[(36007,.tok 1 3 x28.length)],[]⟩) (by kernel_rfl))))))))))))))))) | .inr ⟨l11,l12,l13⟩,h=>jW (λst' hl30=>tS h (gu (Le.trans hl30 Mo))))))))))))))))) (λ⟨l1,l2,l3,l4⟩ y h=>tC h λc31_ h=>tU q Vv Kj (c2 c31_ (Eq.refl l3.length)) (tL q h Vv Kj (λu l32=>(Fx u [] [(mG l32)])) (λu x_=>match x_ with|(.inl l33)=>aG Γ (.exit 0) (Fx u [] [(bL (ly l33))])|(.inr (l34,l35,l36))=>aG Γ (.goto 0) (Yj T6 Kj u [(8,(.vsl 25 l36.length))] [(5,.arr 1 165 64 (λi=>eB (l34.getD i false))),(mG l35),(Z4 25 l36)])) (λl32 y h=>tC h λc37_ h=>tC h λc38_ h=>tU q [2,5,6,7,8,9,41] Kj (c3 c37_ (Eq.refl 64) c38_) (gC h (λh=>tC h λc39_ h=>tC h λc40_ h=>tC h λc41_ h=>tU q XR Kj (c4 c39_ c40_ (Eq.refl 64) c41_) (tC h λc42_ h=>tC h λc43_ h=>tU q XR Kj (c4 c42_ (Eq.refl 64) c43_ (Eq.refl 64)) (Mr (Xd 6 (show ∀ k_,k_<64->AVleL ((λi_=>AV.eraseAll RT ((Lg (λi=>Aq (l32.getD i 0)) (bJ l3).toNat 0 [(.int .i64 (Bj ((l32.getD (bJ l3).toNat (0:Int))+1)))]) i_)) k_) ((λi=>Aq ((J6 64 (0:Int) l32 (bJ l3).toNat (Bj ((l32.getD (bJ l3).toNat (0:Int))+1))).getD i 0)) k_) from(Ck rfl (λk_ hk_=>(Ca (AV.eraseAll RT) ((P4 (λ_ _=>rfl) (Oq c43_) rfl) k_ hk_)).trans rfl)))) (tC h λc44_ h=>tU q ei Kj (c2 c44_ (Eq.refl 64)) (gC h (λh=>tC h λc45_ h=>tU q [2,5,6,7,8,10] Kj (c2 c45_ (Eq.refl 64)) (Mr (Xd 5 (show ∀ k_,k_<64->AVleL ((λi_=>AV.eraseAll RT ((Lg (lM l1) (fM v18 l3 l32).toNat 0 [(.bool true)]) i_)) k_) ((λi=>eB ((J6 64 false l1 (fM v18 l3 l32).toNat true).getD i false)) k_) from(Ck rfl (λk_ hk_=>(Ca (AV.eraseAll RT) ((P4 (λ_ _=>rfl) (Oq c45_) rfl) k_ hk_)).trans rfl)))) (tC h λc46_ h=>gR q T6 Kj [(65,(kB (fM v18 l3 l32)))] [] (c3 (Bm 1 Aq (0:Int) ([(fM v18 l3 l32)]:Am)) (Eq.refl l3.length) c46_) (tS h (gO (D1 (Le.trans (Le.trans (Xd 25 (show ∀ k_,k_<(l3.length+([(fM v18 l3 l32)]:Am).length)->AVleL ((λi_=>AV.eraseAll RT ((Jk l3.length (λi=>Aq (l3.getD i 0)) (λi=>Aq (([(fM v18 l3 l32)]:Am).getD i 0))) i_)) k_) ((λi=>Aq ((l3++([(fM v18 l3 l32)]:Am)).getD i 0)) k_) from(Ck (H8 _ _) (λk_ hk_=>(Ca (AV.eraseAll RT) ((Ww (λ_ _=>rfl) (λ_ _=>rfl)) k_ hk_)).trans rfl)))) (S4 (λ(k_:Nat) u=>(Fx u [(8,(.vsl 25 k_))] [(25,.arr 1 3 k_ (λi=>Aq ((l3++([(fM v18 l3 l32)]:Am)).getD i 0)))])) (show(l3.length+([(fM v18 l3 l32)]:Am).length)=(l3++([(fM v18 l3 l32)]:Am)).length from(H8 _ _)))) Mo))))))) λh=>tS h (gN (Dj Vv Kj q))))))) λh=>tS h (gO (D1 (Dj Vv Kj q))))) λx47 h=>(match x47,h with | .inl l33,h=>gA (tC h λc49_ h=>gR q T6 Kj [(69,(kB (bJ l3)))] [] (c3 (Bm 1 Aq (0:Int) ([(bJ l3)]:Am)) (Eq.refl l4.length) c49_) (Mr (Le.trans (Xd 36007 (show ∀ k_,k_<(l4.length+([(bJ l3)]:Am).length)->AVleL ((λi_=>AV.eraseAll RT ((Jk l4.length (λi=>Aq (l4.getD i 0)) (λi=>Aq (([(bJ l3)]:Am).getD i 0))) i_)) k_) ((lN l4 l3) k_) from(Ck (H8 _ _) (λk_ hk_=>(Ca (AV.eraseAll RT) ((Ww (λ_ _=>rfl) (λ_ _=>rfl)) k_ hk_)).trans rfl)))) (S4 (λ(k_:Nat) u=>(Fx u [(7,(.vsl 36007 k_))] [(36007,.arr 1 3 k_ (lN l4 l3))])) (show(l4.length+([(bJ l3)]:Am).length)=(bV l4 l3).length from(H8 _ _)))) (tC h λc50_ h=>tU q T6 Kj (c1 c50_) (Rx (⟨[NA,bc,bb,(7,(.vsl 36007 (bV l4 l3).length)),(8,(.vsub 25 l3.length 0 (j6 l3)))],[(NC (bT v18)),(be (lM l1)),(bL (ly l33)),(Z4 25 l3),(36007,.arr 1 3 ((bV l4 l3).length) (lN l4 l3))],[]⟩:St) (Mr (Le.trans (Le.trans (OY (t:=8) (r:=25) (k:=(j6 l3)) rfl rfl c50_.2 (by kernel_rfl) (.row (by kernel_rfl) (.arr (λ_=>by kernel_rfl) (.arr (λ_=>by kernel_rfl) (.arr (λ_=>by kernel_rfl) (.arr (λ_=>by kernel_rfl) .nil))))) (by rw[hΓ];rfl)) (Nu (st':=⟨[NA,bc,bb,(7,(.vsl 36007 (bV l4 l3).length)),(8,(.vsl 25 (j6 l3)))],[(NC (bT v18)),(be (lM l1)),(bL (ly l33)),(25,.arr 1 3 (j6 l3) (λi=>Aq (l3.getD i 0))),(36007,.arr 1 3 ((bV l4 l3).length) (lN l4 l3))],[]⟩) (by kernel_rfl))) (Le.trans (Jf (st':=⟨[NA,bc,bb,(7,(.vsl 36007 (bV l4 l3).length)),(8,(.vsl 25 (j6 l3)))],[(NC (bT v18)),(be (lM l1)),(bL (ly l33)),(25,.arr 1 3 (j6 l3) (λi=>Aq ((l3.take (Bj ((l3.length:Int)-1)).toNat).getD i 0))),(36007,.arr 1 3 ((bV l4 l3).length) (lN l4 l3))],[]⟩) (TmpsLe.refl _) (.same (.same (.same (.arr (XG (e:=Aq) (d:=(0:Int))) (.same .nil)))))) (Nu (Ca (λk_:Nat=>(⟨[NA,bc,bb,(7,(.vsl 36007 (bV l4 l3).length)),(8,(.vsl 25 k_))],[(NC (bT v18)),(be (lM l1)),(bL (ly l33)),(25,.arr 1 3 k_ (λi=>Aq ((l3.take (Bj ((l3.length:Int)-1)).toNat).getD i 0))),(36007,.arr 1 3 ((bV l4 l3).length) (lN l4 l3))],[]⟩:St)) (show(j6 l3)=(l3.take (Bj ((l3.length:Int)-1)).toNat).length from QV c50_.2))))) (An q [2,5,6,7,8,78] Kj (gC h (λh=>tS h (gu (Dj T6 Kj q))) λh=>tB h λx51 y51 h=>tC h λc52_ h=>tT q [7] [36007] [⟨[(36007,34000)],[],(.tuple []),[(Z4 34000 x51)],[],[]⟩] (c1 (Jg y51)) (Mr (S4 (λ(k_:Nat) u=>(Fx u [(7,(.vsl 36007 k_))] [])) (show(bV l4 l3).length=x51.length from c52_)) (An q [4] [36007] (Rx (⟨[(4,(.vsl 36007 x51.length))],[(Z4 36007 x51)],[]⟩:St) (tS h (jX (Su (Kl [(36007,20000)] (Le.trans (Lr (nm:=36007) (sz:=1) (n:=x51.length) (e:=3) (f:=(λi=>Aq (x51.getD i 0))) (g:=(λi=>Aq (x51.getD i 0))) rfl ⟨rfl,trivial⟩ (λ_ _=>rfl) (by rw[hΓ];rfl)) (Nu (st':=⟨[(4,(HR x51 36007))],[(36007,.tok 1 3 x51.length)],[]⟩) (by kernel_rfl))))))))))))))))) | .inr ⟨l34,l35,l36⟩,h=>jW (λst' hl53=>tS h (gu (Le.trans hl53 Mo)))))) (Xa (λst' hk=>tS h (gK hk))))
def Xg(a6:Int)(aQ:Int):Option Gt:=
 (some ((Dx ((Dx ((Dx ((X3 .u64 a6 (32:Int))*(X3 .u64 aQ (32:Int))))+(X3 .u64 (Dx ((Dx ((X3 .u64 a6 (32:Int))*(On .and .u64 aQ (4294967295:Int))))+(X3 .u64 (Dx ((On .and .u64 a6 (4294967295:Int))*(On .and .u64 aQ (4294967295:Int)))) (32:Int)))) (32:Int))))+(X3 .u64 (Dx ((On .and .u64 (Dx ((Dx ((X3 .u64 a6 (32:Int))*(On .and .u64 aQ (4294967295:Int))))+(X3 .u64 (Dx ((On .and .u64 a6 (4294967295:Int))*(On .and .u64 aQ (4294967295:Int)))) (32:Int)))) (4294967295:Int))+(Dx ((On .and .u64 a6 (4294967295:Int))*(X3 .u64 aQ (32:Int)))))) (32:Int)))),(Dx (a6*aQ))))
variable{v19:Gt}
theorem GZ(h:Xg v1 v2=some v19):sP 149 [(Km v1),(Km v2)] [] (.tuple [(Km v19.1),(Km v19.2)]) []:=
 sG Tryz.func149 λΓ q=>tW q Gv [] [0,1,6] [] (tU q [0,1,6,7] [] (c1 (show(0<=(32:Int)) from(by decide))) (An q [0,1,6,7,8] [] (tU q [0,1,6,7,8,9] [] (c1 (show(0<=(32:Int)) from(by decide))) (An q [0,1,6,7,8,9,10] [] (tU q [0,1,6,7,9,11] [] (c1 (show(0<=(32:Int)) from(by decide))) (An q [0,1,6,7,9,11,12] [] (tU q [0,1,6,7,9,12,13] [] (c1 (show(0<=(32:Int)) from(by decide))) (An q [0,1,7,9,12,13] [] (tU q [0,1,4] [] (c1 (show(0<=(32:Int)) from(by decide))) (An q Sa [] (tS h (Cf []))))))))))))
def Lu(a6:Int)(aQ:Int):Option Gt:=
 ((Xg a6 aQ).bind λx1=>(some (x1.1,x1.2)))
theorem AS(h:Lu v1 v2=some v19):sP 138 [(Km v1),(Km v2)] [] (.tuple [(Km v19.1),(Km v19.2)]) []:=
 sG Tryz.func138 λΓ q=>An q Gv [] (ZG false (tB h λx1 y1 h=>tT q [8,9] [] [⟨[],[],(.tuple [(Km x1.1),(Km x1.2)]),[],[],[]⟩] (c1 (GZ y1)) (An q Sa [] (tS h (Cf [])))))
abbrev UY:=(Int×Am)
def Cc :UY->Option (LR (Int×Am) Am):=
 λ((i7,l8):UY)=>(bif (decide (i7<(l8.length:Int))) then(Ci (0<=i7/\0+i7.toNat<=l8.length) (Ci (0<=i7/\0+i7.toNat<=l8.length) (some (.next ((Bj (i7+((Nat.min ((0+i7.toNat)-0) (l8.length-(0+i7.toNat))):Int))),(SZ l8 (0+i7.toNat) (Nat.min ((0+i7.toNat)-0) (l8.length-(0+i7.toNat))) (λi=>l8.getD (0+i) 0))))))) else(some (.done l8)))
def bW(x3:Gt):=(List.replicate (Bj x3.2).toNat (0:Int))
def nb(x3:Gt)(a6:Am):=(SZ (bW x3) 0 (Nat.min a6.length ((bW x3).length-0)) (λi=>a6.getD i 0))
def na(l8:Am)(i7:Int):=(SZ l8 (0+i7.toNat) (Nat.min ((0+i7.toNat)-0) (l8.length-(0+i7.toNat))) (λi=>l8.getD (0+i) 0))
def Fa(a6:Am)(aZ:Int):Option Am:=
 (Option.bind (α:=Unit) (bif (decide (aZ<0)) then none else(some ())) (λx1=>(match x1 with|_=>((Lu (Dx (a6.length:Int)) (Dx aZ)).bind λx3=>(Option.bind (α:=Unit) (bif (bif (decide ((0:Int)<x3.1)) then true else(decide ((9223372036854775807:Int)<x3.2))) then none else(some ())) (λx4=>(match x4 with|_=>(Ci (0<=(Bj x3.2)/\(Bj x3.2)<=(Bj x3.2)/\(Bj x3.2)<=(room:Int)) ((Ah (S:=UY) (X:=Am) Cc (((Nat.min a6.length ((List.replicate (Bj x3.2).toNat (0:Int)).length-0)):Int),(SZ (List.replicate (Bj x3.2).toNat (0:Int)) 0 (Nat.min a6.length ((List.replicate (Bj x3.2).toNat (0:Int)).length-0)) (λi=>a6.getD i 0)))).bind (λx12=>(some x12)))))))))))
theorem Pn(h:Fa v4 v1=some v17):sP 113 [(Z7 v4),(Z6 v1)] [] (.vsl 20000 v17.length) [(Z4 20000 v17)]:=
 sG Tryz.func113 λΓ q=>gR q Gv [] [(4,YE)] [] (c1 (G3 1 Aq (0:Int))) (tB h λx1 y1 h=>gJ y1 (λ_=>aG Γ .normal (⟨[(0,(Z7 v4)),(1,(Z6 v1))],[],[]⟩:St)) (λy h=>An q BM [] (gC h (λh=>nomatch h) λh=>tS h (gK (D1 (Dj Gv [] q))))) (gA (tB h λx3 y3 h=>tT q [0,5,6] [] [⟨[],[],(.tuple [(Km x3.1),(Km x3.2)]),[],[],[]⟩] (c1 (AS y3)) (tB h λx4 y4 h=>gJ y4 (λ_=>aG Γ .normal (⟨[(0,(Z7 v4)),(6,(Km x3.2))],[],[]⟩:St)) (λy h=>tU q [0,6,26] [] (c2 (gI ((decide ((0:Int)<x3.1))==false)) (Ux (decide ((0:Int)<x3.1)))) (gC h (λh=>nomatch h) λh=>tS h (gK (D1 (Dj [0,6] [] q))))) (gA (tV q [0,7] [30] h λh=>by exact Mr (Le.trans (Xd 30 (show ∀ k_,k_<((Bj x3.2).toNat)->AVleL ((λi_=>AV.eraseAll (λn_=>Cd n_ [30]) ((λ_=>[Ld]) i_)) k_) ((λi=>Aq ((bW x3).getD i 0)) k_) from(λk hk=>Xh (e:=Aq) (d:=(0:Int)) (.cons (AVle.refl _) .nil) _ k (X0 hk)))) (S4 (λ(k_:Nat) u=>(Fx u [(7,(.vsl 30 k_))] [(30,.arr 1 3 k_ (λi=>Aq ((bW x3).getD i 0)))])) (show(Bj x3.2).toNat=(bW x3).length from(X7 ..).symm))) (tU q Mn [30] (c1 (Eq.refl ((bW x3).length))) (Mr (Le.trans (Xd 30 (show ∀ k_,k_<((bW x3).length)->AVleL ((λi_=>AV.eraseAll (λn_=>Cd n_ [30]) ((OH (λi=>Aq ((bW x3).getD i 0)) 0 (Nat.min v4.length ((bW x3).length-0)) (λi=>Aq (v4.getD i 0))) i_)) k_) ((λi=>Aq ((nb x3 v4).getD i 0)) k_) from(Ck (Fz ..) (λk_ hk_=>(Ca (AV.eraseAll (λn_=>Cd n_ [30])) ((CH (e:=Aq) (d:=(0:Int)) (l:=(bW x3)) (s:=(λi=>v4.getD i 0)) (λ_ _=>rfl) (λ_ _=>rfl)) k_ hk_)).trans rfl)))) (S4 (λ(k_:Nat) u=>(Fx u [(7,(.vsl 30 k_))] [(30,.arr 1 3 k_ (λi=>Aq ((nb x3 v4).getD i 0)))])) (show(bW x3).length=(nb x3 v4).length from(Fz ..)))) (tL q h Mn [30] (λu (i7,l8)=>(Fx u [(7,(.vsl 30 l8.length)),(8,(Z6 i7))] [(Z4 30 l8)])) (λu l9=>aG Γ (.exit 0) (⟨[(7,(.vsl 30 l9.length))],[(Z4 30 l9)],[]⟩:St)) (λ⟨i7,l8⟩ y h=>An q [7,8,37] [30] (gC h (λh=>tC h λc10_ h=>tC h λc11_ h=>tU q Mn [30] (c4 c10_ c11_ (Eq.refl l8.length) (Eq.refl l8.length)) (tS h (gN (Le.trans (Le.trans (Xd 30 (show ∀ k_,k_<l8.length->AVleL ((λi_=>AV.eraseAll (λn_=>Cd n_ [30]) ((OH (λi=>Aq (l8.getD i 0)) (0+i7.toNat) (Nat.min ((0+i7.toNat)-0) (l8.length-(0+i7.toNat))) (λi=>(λi=>Aq (l8.getD i 0)) (0+i))) i_)) k_) ((λi=>Aq ((na l8 i7).getD i 0)) k_) from(Ck (Fz ..) (λk_ hk_=>(Ca (AV.eraseAll (λn_=>Cd n_ [30])) ((CH (e:=Aq) (d:=(0:Int)) (l:=l8) (s:=(λi=>l8.getD (0+i) 0)) (λ_ _=>rfl) (λ_ _=>rfl)) k_ hk_)).trans rfl)))) (S4 (λ(k_:Nat) u=>(Fx u [(7,(.vsl 30 k_))] [(30,.arr 1 3 k_ (λi=>Aq ((na l8 i7).getD i 0)))])) (show l8.length=(na l8 i7).length from(Fz ..)))) Mo)))) λh=>tS h (gO (D1 (Dj [7] [30] q))))) λx12 h=>gA (An q [4] [30] (tS h (Cf [(30,20000)]))))))))))))
set_option maxRecDepth 100000
set_option maxHeartbeats 2000000
def Fs(aD:Am):(Int×List Bool)->Option (LR (Int×List Bool) (List Bool)):=
 λ((i2,l3):(Int×List Bool))=>(bif (i2 !=-1) then(Ci (Bw i2 l3.length) (Ci (Bw i2 aD.length) (some (.next ((aD.getD i2.toNat 0),(l3.set i2.toNat true)))))) else(some (.done l3)))
def Ft(aD:Am)(l4:List Bool):Int->Option (LR Int Int):=
 λ(i9:Int)=>(Ci (Bw i9 l4.length) (bif (!(l4.getD i9.toNat false)) then(Ci (Bw i9 aD.length) (some (.next (aD.getD i9.toNat 0)))) else(some (.done i9))))
def Lw(aD:Am)(aH:Int)(aI:Int):Option Int:=
 (Ci (0<=(aD.length:Int)/\(aD.length:Int)<=(aD.length:Int)/\(aD.length:Int)<=(room:Int)) ((Ah (Fs aD) (aH,(List.replicate (aD.length:Int).toNat false))).bind (λx7=>((Ah (Ft aD x7) aI).bind (λx13=>(some x13))))))
variable{v20:Int}
theorem AU(h:Lw v4 v1 v2=some v20):sP 139 [(Z7 v4),(Z6 v1),(Z6 v2)] [] (.int .i64 v20) []:=
 sG Tryz.func139 λΓ q=>An q GI [] (tV q [0,1,2,7] [11] h λh=>by exact Mr (Le.trans (Xd 11 (show ∀ k_,k_<((v4.length:Int).toNat)->AVleL ((λi_=>AV.eraseAll (λn_=>Cd n_ [11]) ((λ_=>[(.bool false)]) i_)) k_) ((λi=>eB ((List.replicate (v4.length:Int).toNat false).getD i false)) k_) from(λk hk=>Xh (e:=eB) (d:=false) (.cons (AVle.refl _) .nil) _ k (X0 hk)))) (S4 (λ(k_:Nat) u=>(Fx u [(7,(.vsl 11 k_))] [(11,.arr 1 4 k_ (λi=>eB ((List.replicate (v4.length:Int).toNat false).getD i false)))])) (show(v4.length:Int).toNat=(List.replicate (v4.length:Int).toNat false).length from(X7 ..).symm))) (An q MV [11] (tL q h MV [11] (λu (i2,l3)=>(Fx u [(7,(.vsl 11 l3.length)),(8,(Z6 i2))] [(11,.arr 1 4 l3.length (λi=>eB (l3.getD i false)))])) (λu l4=>aG Γ (.exit 0) (Yj [0,2,7] [11] u [(7,(.vsl 11 l4.length))] [(11,.arr 1 4 l4.length (λi=>eB (l4.getD i false)))])) (λ⟨i2,l3⟩ y h=>An q [0,2,7,8,14] [11] (gC h (λh=>tC h λc5_ h=>tU q MV [11] (c2 c5_ (Eq.refl l3.length)) (Mr (Le.trans (Xd 11 (show ∀ k_,k_<l3.length->AVleL ((λi_=>AV.eraseAll (λn_=>Cd n_ [11]) ((Lg (λi=>eB (l3.getD i false)) i2.toNat 0 [(.bool true)]) i_)) k_) ((λi=>eB ((l3.set i2.toNat true).getD i false)) k_) from(Ck (H3 ..).symm (λk_ hk_=>(Ca (AV.eraseAll (λn_=>Cd n_ [11])) ((Mi (λ_ _=>rfl) (Ot c5_) rfl) k_ hk_)).trans rfl)))) (S4 (λ(k_:Nat) u=>(Fx u [(7,(.vsl 11 k_))] [(11,.arr 1 4 k_ (λi=>eB ((l3.set i2.toNat true).getD i false)))])) (show l3.length=(l3.set i2.toNat true).length from(H3 ..).symm))) (tV q MV [11] h λh=>tN h))) λh=>tS h (gO (D1 (Dj [0,2,7] [11] q))))) λx7 h=>gA (tL q h [0,2,7] [11] (λu i9=>(Fx u [(2,(Z6 i9))] [])) (λu i10=>aG Γ (.exit 2) (⟨[(2,(Z6 i10))],[],[]⟩:St)) (λi9 y h=>tC h λc11_ h=>tU q [0,2,7,26] [11] (c2 c11_ (Eq.refl x7.length)) (gC h (λh=>tV q [0,2,7] [11] h λh=>tN h) λh=>tS h (gO (D1 (Dj [2] [] q))))) λx13 h=>gA (An q [6] [] (tS h (Cf [])))))))
def D4(aD:Am)(aB:Am):Gt->Option mt:=
 λ((i1,i2):Gt)=>(bif (decide (i2<(aB.length:Int))) then(Option.bind (α:=Int) (Ci (Bw i2 aB.length) (Ci (Bw (aB.getD i2.toNat 0) aD.length) (bif ((aD.getD (aB.getD i2.toNat 0).toNat (0:Int))==-2) then(some i1) else(bif (i1==-2) then(some (aB.getD i2.toNat 0)) else((Lw aD i1 (aB.getD i2.toNat 0)).bind λx7=>(some x7)))))) (λx8=>(some (.next (x8,(Bj (i2+1))))))) else(some (.done i1)))
def H5(aD:Am)(aB:Am):Option Int:=
 ((Ah (D4 aD aB) ((-2:Int),(0:Int))).bind (λx10=>(some x10)))
theorem Tc(h:H5 v4 v17=some v1):sP 114 [(Z7 v4),(Z7 v17)] [] (.int .i64 v1) []:=
 sG Tryz.func114 λΓ q=>tW q Gv [] Yg [] (An q KF [] (tL q h KF [] (λu (i1,i2)=>(Fx u [(5,(Z6 i1)),(10,(Z6 i2))] [])) (λu i3=>aG Γ (.exit 0) (⟨[(5,(Z6 i3))],[],[]⟩:St)) (λ⟨i1,i2⟩ y h=>An q [0,5,8,9,10,11] [] (gC h (λh=>tB h λx8 y8 h=>gJ y8 (λi4=>aG Γ .normal (⟨[(0,(Z7 v4)),(5,(Z6 i4)),(8,(Z7 v17)),(9,(AB v17.length)),(10,(Z6 i2))],[],[]⟩:St)) (λy h=>tV q [0,5,7,8,9,10] [] h λh=>tV q [0,5,7,8,9,10,18] [] h λh=>gC h (λh=>tS h (gK (D1 (Dj KF [] q)))) λh=>An q [0,5,7,8,9,10,24] [] (gC h (λh=>An q KF [] (tS h (gK (D1 Mo)))) λh=>tB h λx7 y7 h=>tT q KF [] [(DB x7)] (c1 (AU y7)) (tS h (gK (D1 Mo))))) (gA (An q KF [] (tN h)))) λh=>tS h (gO (D1 (Dj [5] [] q))))) λx10 h=>gA (An q [4] [] (tS h (Cf [])))))
abbrev iz:=(Bool×Int×Am)
abbrev ml:=(LR (Bool×Int×Am) (Bool×Am))
abbrev eb:=(Bool×Am)
def Dt(aE:C2)(x3:Am):iz->Option ml:=
 λ((b7,i8,l9):iz)=>(bif (decide (i8<((x3.drop (1:Int).toNat).length:Int))) then(Option.bind (α:=eb) (Ci (Bw i8 (x3.drop (1:Int).toNat).length) (Ci (Bw ((x3.drop (1:Int).toNat).getD i8.toNat 0) aE.Pred.length) ((H5 l9 (aE.Pred.getD ((x3.drop (1:Int).toNat).getD i8.toNat 0).toNat [])).bind λx16=>(Ci (Bw ((x3.drop (1:Int).toNat).getD i8.toNat 0) l9.length) (bif (x16 !=(l9.getD ((x3.drop (1:Int).toNat).getD i8.toNat 0).toNat (0:Int))) then(Ci (Bw ((x3.drop (1:Int).toNat).getD i8.toNat 0) l9.length) (some (true,(l9.set ((x3.drop (1:Int).toNat).getD i8.toNat 0).toNat x16)))) else(some (b7,l9))))))) (λ(b12,l13)=>(some (.next (b12,(Bj (i8+1)),l13))))) else(some (.done (b7,l9))))
def Pe(aE:C2)(l1:Am):iz->Option ml:=
 λ((b24,i25,l26):iz)=>(bif (decide (i25<((l1.drop (1:Int).toNat).length:Int))) then(Option.bind (α:=eb) (Ci (Bw i25 (l1.drop (1:Int).toNat).length) (Ci (Bw ((l1.drop (1:Int).toNat).getD i25.toNat 0) aE.Pred.length) ((H5 l26 (aE.Pred.getD ((l1.drop (1:Int).toNat).getD i25.toNat 0).toNat [])).bind λx33=>(Ci (Bw ((l1.drop (1:Int).toNat).getD i25.toNat 0) l26.length) (bif (x33 !=(l26.getD ((l1.drop (1:Int).toNat).getD i25.toNat 0).toNat (0:Int))) then(Ci (Bw ((l1.drop (1:Int).toNat).getD i25.toNat 0) l26.length) (some (true,(l26.set ((l1.drop (1:Int).toNat).getD i25.toNat 0).toNat x33)))) else(some (b24,l26))))))) (λ(b29,l30)=>(some (.next (b29,(Bj (i25+1)),l30))))) else(some (.done (b24,l26))))
abbrev ed:=(Am×Am)
def E0(aE:C2):ed->Option (LR (Am×Am) Am):=
 λ(s_:ed)=>match s_ with|(l1,l2)=>(Ci (0<=(1:Int)/\(1:Int)<=(l1.length:Int)) ((Ah (Pe aE l1) (false,(0:Int),l2)).bind (λx38=>(match x38 with|(b27,l28)=>(bif b27 then(some (.next (l1,l28))) else(some (.done l28)))))))
def SB(Γ:G1)(aE:C2)(aU:Int)(r:Am):Exit->St->Prop:=fK Tryz.prog Γ Tryz.f85.results.toList [] (HR r 20000) [(20000,.tok 1 3 r.length)]
def lP:=(λn_=>Cd n_ [2,13,21])
def nE:List jq:=[(4,YE)]
def nD(x3:Am)(i8:Int):=((x3.drop (1:Int).toNat).getD i8.toNat 0)
def nC(l1:Am)(i25:Int):=((l1.drop (1:Int).toNat).getD i25.toNat 0)
def nd(aE:C2):List AV:=[(RW aE.Succ),(RW aE.Pred)]
def oU:=(Z37:St)
def Nw(aE:C2)(aU:Int):Option Am:=
 ((Pp (S:=ed) (X:=Am) ((Gz aE aU).bind λx3=>(bif ((x3.length:Int)==0) then(some (.done ([]:Am))) else((Fa ([(-2:Int)]:Am) (aE.Succ.length:Int)).bind λx4=>(Ci (Bw aU x4.length) (Ci (0<=(1:Int)/\(1:Int)<=(x3.length:Int)) ((Ah (Dt aE x3) (false,(0:Int),(x4.set aU.toNat (-1:Int)))).bind (λ(b10,l11)=>(bif b10 then(some (.next (x3,l11))) else(some (.done l11)))))))))) (E0 aE)).bind (λx40=>(some x40)))
theorem PT(h:Nw v18 v1=some v4):sP 85 [(.agg (Qk v18)),(Z6 v1)] [] (HR v4 20000) [(20000,.tok 1 3 v4.length)]:=
 sG Tryz.func85 λΓ q=>have hΓ:=q.own;gR q Vz [2] nE [] (c1 (G3 1 Aq (0:Int))) (tB h λx40 y40 h=>gS y40 (λ(s_:ed)=>match s_ with|(l1,l2)=>0) (λ(s_:ed)=>match s_ with|(l1,l2)=>(⟨[NA,(5,(HR l1 13)),(6,(.vsl 21 l2.length))],[(NC (nd v18)),(13,.tok 1 3 l1.length),(Z4 21 l2)],[]⟩:St)) (λr_=>aR (SB Γ v18 v1 r_)) (λy h=>tB h λx3 y3 h=>tT q GM [2,13] [⟨[],[(20000,13)],(HR x3 20000),[(20000,.tok 1 3 x3.length)],[],[]⟩] (c1 (Td y3)) (An q [1,2,5,16] [2,13] (gC h (λh=>gR q [4] [] nE [] (c1 (G3 1 Aq (0:Int))) (Rx (⟨nE,[],[]⟩:St) (tS h (jX (Su (Kl VI (show Le Γ _ oU from Le.trans (Dj (st':=⟨nE,[],[]⟩) [4] [] q) (Le.trans (LS (t:=4) (nm:=6004) (sz':=1) (λi=>Aq (([]:Am).getD i 0)) 3 rfl rfl (.inl ⟨rfl,rfl⟩) (λh_=>absurd h_ (by decide))) (Dj (st':=oU) [4] [6004] q))))))))) λh=>tB h λx4 y4 h=>gR q [1,2,5,6] Kk [(17,(AV.list 1 Aq 0 ([(-2:Int)]:Am) .exact))] [⟨[],[(20000,21)],(.vsl 20000 x4.length),[(Z4 20000 x4)],[],[]⟩] (c2 (Bm 1 Aq (0:Int) ([(-2:Int)]:Am)) (Pn y4)) (tC h λc5_ h=>tU q Vx Kk (c2 c5_ (Eq.refl x4.length)) (Mr (Le.trans (Xd 21 (show ∀ k_,k_<x4.length->AVleL ((λi_=>AV.eraseAll lP ((Lg (λi=>Aq (x4.getD i 0)) v1.toNat 0 [(.int .i64 (-1:Int))]) i_)) k_) ((λi=>Aq ((x4.set v1.toNat (-1:Int)).getD i 0)) k_) from(Ck (H3 ..).symm (λk_ hk_=>(Ca (AV.eraseAll lP) ((Mi (λ_ _=>rfl) (Ot c5_) rfl) k_ hk_)).trans rfl)))) (S4 (λ(k_:Nat) u=>(Fx u [(6,(.vsl 21 k_))] [(21,.arr 1 3 k_ (λi=>Aq ((x4.set v1.toNat (-1:Int)).getD i 0)))])) (show x4.length=(x4.set v1.toNat (-1:Int)).length from(H3 ..).symm))) (An q KH Kk (tC h λc6_ h=>gR q Vu Kk [(26,(AV.list 1 Aq 0 (x3.drop (1:Int).toNat) .none))] [] (c2 c6_ (show(AVle (.slice 1 (x3.length-(1:Int).toNat) (λi=>Aq (x3.getD ((1:Int).toNat+i) 0)) .none) (AV.list 1 Aq 0 (x3.drop (1:Int).toNat) .none)) from KZ)) (tL q h Vu Kk (λu (b7,i8,l9)=>(Fx u [(6,(.vsl 21 l9.length)),(7,(.bool b7)),(28,(Z6 i8))] [(Z4 21 l9)])) (λu (b10,l11)=>aG Γ (.exit 0) (Yj KH Kk u [(6,(.vsl 21 l11.length)),(7,(.bool b10))] [(Z4 21 l11)])) (λ⟨b7,i8,l9⟩ y h=>An q jv Kk (gC h (λh=>tB h λx19 y19 h=>gJ y19 (λ(b12,l13)=>aG Γ .normal (⟨[NA,(5,(HR x3 13)),(6,(.vsl 21 l13.length)),(7,(.bool b12)),(26,(AV.list 1 Aq 0 (x3.drop (1:Int).toNat) .none)),(27,(.int .i64 ((x3.drop (1:Int).toNat).length:Int))),(28,(Z6 i8))],[(NC (nd v18)),(13,.tok 1 3 x3.length),(Z4 21 l13)],[]⟩:St)) (λy h=>tV q jx Kk h λh=>tC h λc15_ h=>tB h λx16 y16 h=>tT q jt Kk [⟨[],[],(Z6 x16),[],[21],[]⟩] (c4 c15_ (Tc y16) (show(DR []) from trivial) (Eq.refl l9.length)) (tC h λc17_ h=>tU q js Kk (c2 c17_ (Eq.refl l9.length)) (gC h (λh=>tC h λc18_ h=>tU q Vu Kk (c2 c18_ (Eq.refl l9.length)) (tS h (gK (D1 (Le.trans (Le.trans (Xd 21 (show ∀ k_,k_<l9.length->AVleL ((λi_=>AV.eraseAll lP ((Lg (λi=>Aq (l9.getD i 0)) (nD x3 i8).toNat 0 [(Z6 x16)]) i_)) k_) ((λi=>Aq ((l9.set (nD x3 i8).toNat x16).getD i 0)) k_) from(Ck (H3 ..).symm (λk_ hk_=>(Ca (AV.eraseAll lP) ((Mi (λ_ _=>rfl) (Ot c18_) rfl) k_ hk_)).trans rfl)))) (S4 (λ(k_:Nat) u=>(Fx u [(6,(.vsl 21 k_))] [(21,.arr 1 3 k_ (λi=>Aq ((l9.set (nD x3 i8).toNat x16).getD i 0)))])) (show l9.length=(l9.set (nD x3 i8).toNat x16).length from(H3 ..).symm))) Mo))))) λh=>tS h (gK (D1 (Dj Vu Kk q)))))) (match x19,h with|⟨b12,l13⟩,h=>gA (An q Vu Kk (tN h)))) λh=>tS h (gO (D1 (Dj KH Kk q))))) λx21 h=>(match x21,h with|⟨b10,l11⟩,h=>gA (An q [2,5,6,50] Kk (gC h (λh=>tS h (gu (Dj Vx Kk q))) λh=>An q [4] [21] (Rx (⟨[(4,(.vsl 21 l11.length))],[(Z4 21 l11)],[]⟩:St) (tS h (jX (Su (Kl [(21,20000)] (Le.trans (Lr (nm:=21) (sz:=1) (n:=l11.length) (e:=3) (f:=(λi=>Aq (l11.getD i 0))) (g:=(λi=>Aq (l11.getD i 0))) rfl ⟨rfl,trivial⟩ (λ_ _=>rfl) (by rw[hΓ];rfl)) (Nu (st':=⟨[(4,(HR l11 21))],[(21,.tok 1 3 l11.length)],[]⟩) (by kernel_rfl))))))))))))))))))) (λ⟨l1,l2⟩ y h=>An q KH Kk (tC h λc23_ h=>gR q Vu Kk [(26,(AV.list 1 Aq 0 (l1.drop (1:Int).toNat) .none))] [] (c2 c23_ (show(AVle (.slice 1 (l1.length-(1:Int).toNat) (λi=>Aq (l1.getD ((1:Int).toNat+i) 0)) .none) (AV.list 1 Aq 0 (l1.drop (1:Int).toNat) .none)) from KZ)) (tL q h Vu Kk (λu (b24,i25,l26)=>(Fx u [(6,(.vsl 21 l26.length)),(7,(.bool b24)),(28,(Z6 i25))] [(Z4 21 l26)])) (λu (b27,l28)=>aG Γ (.exit 0) (Yj KH Kk u [(6,(.vsl 21 l28.length)),(7,(.bool b27))] [(Z4 21 l28)])) (λ⟨b24,i25,l26⟩ y h=>An q jv Kk (gC h (λh=>tB h λx36 y36 h=>gJ y36 (λ(b29,l30)=>aG Γ .normal (⟨[NA,(5,(HR l1 13)),(6,(.vsl 21 l30.length)),(7,(.bool b29)),(26,(AV.list 1 Aq 0 (l1.drop (1:Int).toNat) .none)),(27,(.int .i64 ((l1.drop (1:Int).toNat).length:Int))),(28,(Z6 i25))],[(NC (nd v18)),(13,.tok 1 3 l1.length),(Z4 21 l30)],[]⟩:St)) (λy h=>tV q jx Kk h λh=>tC h λc32_ h=>tB h λx33 y33 h=>tT q jt Kk [⟨[],[],(Z6 x33),[],[21],[]⟩] (c4 c32_ (Tc y33) (show(DR []) from trivial) (Eq.refl l26.length)) (tC h λc34_ h=>tU q js Kk (c2 c34_ (Eq.refl l26.length)) (gC h (λh=>tC h λc35_ h=>tU q Vu Kk (c2 c35_ (Eq.refl l26.length)) (tS h (gK (D1 (Le.trans (Le.trans (Xd 21 (show ∀ k_,k_<l26.length->AVleL ((λi_=>AV.eraseAll lP ((Lg (λi=>Aq (l26.getD i 0)) (nC l1 i25).toNat 0 [(Z6 x33)]) i_)) k_) ((λi=>Aq ((l26.set (nC l1 i25).toNat x33).getD i 0)) k_) from(Ck (H3 ..).symm (λk_ hk_=>(Ca (AV.eraseAll lP) ((Mi (λ_ _=>rfl) (Ot c35_) rfl) k_ hk_)).trans rfl)))) (S4 (λ(k_:Nat) u=>(Fx u [(6,(.vsl 21 k_))] [(21,.arr 1 3 k_ (λi=>Aq ((l26.set (nC l1 i25).toNat x33).getD i 0)))])) (show l26.length=(l26.set (nC l1 i25).toNat x33).length from(H3 ..).symm))) Mo))))) λh=>tS h (gK (D1 (Dj Vu Kk q)))))) (match x36,h with|⟨b29,l30⟩,h=>gA (An q Vu Kk (tN h)))) λh=>tS h (gO (D1 (Dj KH Kk q))))) λx38 h=>(match x38,h with|⟨b27,l28⟩,h=>gA (An q [2,5,6,50] Kk (gC h (λh=>tS h (gu (Dj Vx Kk q))) λh=>An q [4] [21] (Rx (⟨[(4,(.vsl 21 l28.length))],[(Z4 21 l28)],[]⟩:St) (tS h (jX (Su (Kl [(21,20000)] (Le.trans (Lr (nm:=21) (sz:=1) (n:=l28.length) (e:=3) (f:=(λi=>Aq (l28.getD i 0))) (g:=(λi=>Aq (l28.getD i 0))) rfl ⟨rfl,trivial⟩ (λ_ _=>rfl) (by rw[hΓ];rfl)) (Nu (st':=⟨[(4,(HR l28 21))],[(21,.tok 1 3 l28.length)],[]⟩) (by kernel_rfl)))))))))))))) (Xa (λst' hk=>tS h (gK hk))))
def Hq(aa3:List Em)(aa6:Am):Int->Option (LR Int (Unit ⊕ Bool)):=
 λ(i1:Int)=>(bif (decide (i1<(aa3.length:Int))) then(Ci (Bw i1 aa3.length) ((Ef ((aa3.getD i1.toNat default).From) aa6).bind λx3=>(bif (bif (!x3) then true else((((aa3.getD i1.toNat default).Args).length:Int)!=(aa6.length:Int))) then(some (.done (.inr false))) else(some (.next (Bj (i1+1))))))) else(some (.done (.inl ()))))
def BO(Γ:G1)(aa3:List Em)(aa6:Am)(r:Bool):Exit->St->Prop:=fK Tryz.prog Γ Tryz.f86.results.toList [] (.bool r) []
def Jv(aa3:List Em)(aa6:Am):Option Bool:=
 ((Ah (Hq aa3 aa6) (0:Int)).bind (λx4=>(match x4 with|(.inl _)=>(some true)|(.inr r6)=>(some r6))))
theorem Zd(h:Jv v7 v4=some v5):sP 86 [(AV.list 4 W1 default v7 .none),(Z7 v4)] [] (.bool v5) []:=
 sG Tryz.func86 λΓ q=>tW q Gv [] Ib [] (tL q h Ib [] (λu i1=>(Fx u [(9,(Z6 i1))] [])) (λu x_=>match x_ with|(.inl _)=>aG Γ (.exit 0) (⟨[],[],[]⟩:St)|(.inr r_)=>aR (BO Γ v7 v4 r_)) (λi1 y h=>An q BK [] (gC h (λh=>tV q BL [6] h λh=>tB h λx3 y3 h=>tT q [1,7,8,9,25] [] [(Z2 x3)] (ci (Kc y3) (mN ((!x3)==false) (c1 (Ux (!x3))))) (gC h (λh=>An q [4] [] (tS h (gO (Su (Kl [] (Le.refl _ _)))))) λh=>An q Ib [] (tN h))) λh=>tS h (gO (D1 (Dj [] [] q))))) λx4 h=>(match x4,h with | .inl _,h=>gA (An q [4] [] (tS h (Cf []))) | .inr r6,h=>Xa (λst' hk=>tS h (gK hk))))
def oV(aJ:Ge):=(bif (aJ.Kind==0) then true else(aJ.Kind==2))
def Hw(aJ:Ge):Option Bool:=
 (some (bif (bif (aJ.Kind==0) then true else(aJ.Kind==2)) then true else(aJ.Arg==0)))
theorem Zc(h:Hw v9=some v5):sP 87 [(.agg (cX v9))] [] (.bool v5) []:=
 sG Tryz.func87 λΓ q=>An q [1] [1] (tU q [2] [] (Yu ((v9.Kind==0)==false) (ci (Ux (v9.Kind==0)) (Yu ((oV v9)==false) (c1 (Ux (oV v9)))))) (tS h (Cf [])))
def Cl(a0:Aa)(a4:Int)(a5:List A7)(x1:mz)(x3:Am):Int->Option (LR Int (Unit ⊕ (Int×Aa×Int×Am×List A7))):=
 λ(i4:Int)=>(bif (decide (i4<(a0.Blocks.length:Int))) then(Ci (Bw i4 a0.Blocks.length) (Ci (Bw i4 x1.1.Pred.length) ((Jv ((a0.Blocks.getD i4.toNat default).Phis) (x1.1.Pred.getD i4.toNat [])).bind λx7=>((bif ((!x7)==false) then Hw (⟨(a0.Blocks.getD i4.toNat default).End.Kind,(a0.Blocks.getD i4.toNat default).End.Arg,(a0.Blocks.getD i4.toNat default).End.To⟩:Ge) else some false).bind λx8=>(bif (bif (!x7) then true else(!x8)) then(some (.done (.inr ((5:Int),a0,a4,x3,a5)))) else(some (.next (Bj (i4+1))))))))) else(some (.done (.inl ()))))
def Qe(Γ:G1)(a0:Aa)(a4:Int)(a9:Am)(a5:List A7)(r:bD):Exit->St->Prop:=fK Tryz.prog Γ Tryz.f72.results.toList (Z3 a0.Params a0.Ret a0.Blocks a4 a9 a5 a5.length) (Z6 r.1) (Z3 r.2.1.Params r.2.1.Ret r.2.1.Blocks r.2.2.1 r.2.2.2.1 r.2.2.2.2 r.2.2.2.2.length)
def nf(x1:mz):=((x1.2 !=0)==false)
def oW(x3:Am)(a0:Aa)(a4:Int)(a5:List A7):List RY:=[(31,.tok 1 3 x3.length),(30000,.row 110 [(Z7 a0.Params),(Z6 a0.Ret),(KT a0.Blocks),(Z6 a4),(Z7 x3),.nilm,(AV.list 5 Jm default a5 (.own 37006))]),(Nk a5.length)]
def nF(x3:Am)(a0:Aa)(a4:Int)(a5:List A7):List RY:=[(31,.tok 1 3 x3.length),(30000,.row 110 [(Z7 a0.Params),(Z6 a0.Ret),(KT a0.Blocks),(Z6 a4),(HR x3 31),.nilm,(AV.list 5 Jm default a5 (.own 37006))]),(Nk a5.length)]
def Fp(a0:Aa)(a4:Int)(a9:Am)(a5:List A7):Option bD:=
 ((Qz a0).bind λx1=>((bif ((x1.2 !=0)==false) then Gz x1.1 (0:Int) else some []).bind λx2=>(bif (bif (x1.2 !=0) then true else(decide ((x2.length:Int)<(a0.Blocks.length:Int)))) then(some ((5:Int),a0,a4,a9,a5)) else((Nw x1.1 (0:Int)).bind λx3=>((Ah (Cl a0 a4 a5 x1 x3) (0:Int)).bind (λx9=>(match x9 with|(.inl _)=>(some ((0:Int),a0,a4,x3,a5))|(.inr r11)=>(some r11))))))))
theorem P1(h:Fp v0 v1 v4 v12=some v13):sP 72 [Yh] (Z3 v0.Params v0.Ret v0.Blocks v1 v4 v12 v12.length) (Z6 v13.1) (Z3 v13.2.1.Params v13.2.1.Ret v13.2.1.Blocks v13.2.2.1 v13.2.2.2.1 v13.2.2.2.2 v13.2.2.2.2.length):=
 sG Tryz.func72 λΓ q=>An q [0] Fk (tB h λx1 y1 h=>tT q [0,3,4] RM [⟨[],[],(.tuple [(.agg (Qk x1.1)),(Z6 x1.2)]),[],[],[]⟩] (c1 (PU y1)) (tB h λx2 y2 h=>tT q [0,3,28] RM [⟨[],[],(Z7 x2),[],[],[]⟩] (gj (gI (nf x1)) (show((nf x1)=true->(sP 84 [(.agg (Qk x1.1)),Ld] [] (Z7 x2) [])) from(λhg=>(Spec.drop (Td (Bt hg y2))))) (pF (nf x1) (c1 (Ux (x1.2 !=0))))) (gC h (λh=>An q [2] Fk (tS h (Cf CA))) λh=>tB h λx3 y3 h=>tT q V0 KC [⟨[],[(20000,31)],(HR x3 20000),[(20000,.tok 1 3 x3.length)],[],[]⟩] (c1 (PT y3)) (An q VJ KC (tL q h VJ KC (λu i4=>(Fx u [(40,(Z6 i4))] [])) (λu x_=>match x_ with|(.inl _)=>aG Γ (.exit 0) (Yj [] KD u [] [])|(.inr r_)=>aR (Qe Γ v0 v1 v4 v12 r_)) (λi4 y h=>An q [3,38,39,40,41] KC (gC h (λh=>tV q [3,5,6,38,39,40] [3,6,31,30000,37006] h λh=>tC h λc6_ h=>tB h λx7 y7 h=>tB h λx8 y8 h=>tT q [3,38,39,40,59] KC [(Z2 x7),(Z2 x8)] (gj c6_ (Zd y7) (Yu ((!x7)==false) (c3 (λ(hg:((!x7)==false)=true)=>(Zc (Bt hg y8))) (gI ((!x7)==false)) (Ux (!x7))))) (gC h (λh=>An q [2] KD (Rx (⟨[(2,fQ)],(nF x3 v0 v1 v12),[]⟩:St) (tS h (gO (Su (Kl CA (show Le Γ _ (⟨[(2,fQ)],(oW x3 v0 v1 v12),[]⟩:St) from Le.trans (Dj (st':=⟨[(2,fQ)],(nF x3 v0 v1 v12),[]⟩) [2] KD q) (Jf (.cons (AVle.refl _) .nil) (.same (.row (.cons (AVle.refl _) (.cons (AVle.refl _) (.cons (AVle.refl _) (.cons (AVle.refl _) (.cons AVle.untag (.cons (AVle.refl _) (.cons (AVle.refl _) .nil))))))) (.same .nil))))))))))) λh=>An q VJ KC (tN h))) λh=>tS h (gO (D1 (Dj [] KD q))))) λx9 h=>(match x9,h with | .inl _,h=>gA (An q [2] KD (Rx (⟨[(2,Ld)],(nF x3 v0 v1 v12),[]⟩:St) (tS h (gK (e:=.ret) (Kl CA (show Le Γ _ (⟨[(2,Ld)],(oW x3 v0 v1 v12),[]⟩:St) from Le.trans (Dj (st':=⟨[(2,Ld)],(nF x3 v0 v1 v12),[]⟩) [2] KD q) (Jf (.cons (AVle.refl _) .nil) (.same (.row (.cons (AVle.refl _) (.cons (AVle.refl _) (.cons (AVle.refl _) (.cons (AVle.refl _) (.cons AVle.untag (.cons (AVle.refl _) (.cons (AVle.refl _) .nil))))))) (.same .nil)))))))))) | .inr r11,h=>Xa (λst' hk=>tS h (gK hk))))))))
def G0(aL:Int):Option Bool:=
 (Option.bind (α:=Bool) (bif (aL==1) then(some (aL==1)) else(bif (aL==8) then(some (aL==8)) else(bif (aL==16) then(some (aL==16)) else(bif (aL==32) then(some (aL==32)) else(some (aL==64)))))) (λx2=>(bif x2 then(some true) else(some false))))
theorem Ir(h:G0 v1=some v5):sP 89 [(Z6 v1)] [] (.bool v5) []:=
 sG Tryz.func89 λΓ q=>tW q [0] [] [3] [] (tB h λx2 y2 h=>gJ y2 (λb1=>aG Γ .normal (⟨[(4,(.bool b1))],[],[]⟩:St)) (λy h=>An q [3,4] [] (gC h (λh=>tS h (gK (D1 (Dj [4] [] q)))) λh=>An q [3,4] [] (gC h (λh=>tS h (gK (D1 (Dj [4] [] q)))) λh=>An q [3,4] [] (gC h (λh=>tS h (gK (D1 (Dj [4] [] q)))) λh=>An q [3,4] [] (gC h (λh=>tS h (gK (D1 (Dj [4] [] q)))) λh=>An q [4] [] (tS h (gK (D1 Mo)))))))) (gA (gC h (λh=>An q [2] [] (tS h (Cf []))) λh=>An q [2] [] (tS h (Cf [])))))
def Hp(aB:Am):Int->Option (LR Int (Unit ⊕ Bool)):=
 λ(i1:Int)=>(bif (decide (i1<(aB.length:Int))) then(Ci (Bw i1 aB.length) ((G0 (aB.getD i1.toNat 0)).bind λx3=>(bif (!x3) then(some (.done (.inr false))) else(some (.next (Bj (i1+1))))))) else(some (.done (.inl ()))))
def BN(Γ:G1)(aB:Am)(r:Bool):Exit->St->Prop:=fK Tryz.prog Γ Tryz.f88.results.toList [] (.bool r) []
def Ju(aB:Am):Option Bool:=
 ((Ah (Hp aB) (0:Int)).bind (λx4=>(match x4 with|(.inl _)=>(some true)|(.inr r6)=>(some r6))))
theorem Zb(h:Ju v4=some v5):sP 88 [(Z7 v4),(.clo 89 [] [])] [] (.bool v5) []:=
 sG Tryz.func88 λΓ q=>tW q Gv [] Ib [] (tL q h Ib [] (λu i1=>(Fx u [(9,(Z6 i1))] [])) (λu x_=>match x_ with|(.inl _)=>aG Γ (.exit 0) (⟨[],[],[]⟩:St)|(.inr r_)=>aR (BN Γ v4 r_)) (λi1 y h=>An q BK [] (gC h (λh=>tV q BL [] h λh=>tB h λx3 y3 h=>tT q GJ [] [(Z2 x3)] (c1 (Ir y3)) (gC h (λh=>An q [4] [] (tS h (gO (Su (Kl [] (Le.refl _ _)))))) λh=>An q Ib [] (tN h))) λh=>tS h (gO (D1 (Dj [] [] q))))) λx4 h=>(match x4,h with | .inl _,h=>gA (An q [4] [] (tS h (Cf []))) | .inr r6,h=>Xa (λst' hk=>tS h (gK hk))))
def Lv(aV:Em):Option Bool:=
 ((G0 aV.Bits).bind λx1=>(some x1))
theorem Xr(h:Lv v6=some v5):sP 117 [(.agg (W1 v6))] [] (.bool v5) []:=
 sG Tryz.func117 λΓ q=>An q [1] [1] (tB h λx1 y1 h=>tT q [2] [] [(Z2 x1)] (c1 (Ir y1)) (tS h (Cf [])))
def Fo(aB:List Em):Int->Option (LR Int (Unit ⊕ Bool)):=
 λ(i1:Int)=>(bif (decide (i1<(aB.length:Int))) then(Ci (Bw i1 aB.length) ((Lv (aB.getD i1.toNat default)).bind λx3=>(bif (!x3) then(some (.done (.inr false))) else(some (.next (Bj (i1+1))))))) else(some (.done (.inl ()))))
def Uw(Γ:G1)(aB:List Em)(r:Bool):Exit->St->Prop:=fK Tryz.prog Γ Tryz.f116.results.toList [] (.bool r) []
def G4(aB:List Em):Option Bool:=
 ((Ah (Fo aB) (0:Int)).bind (λx4=>(match x4 with|(.inl _)=>(some true)|(.inr r6)=>(some r6))))
theorem Ta(h:G4 v7=some v5):sP 116 [(AV.list 4 W1 default v7 .none),(.clo 117 [] [])] [] (.bool v5) []:=
 sG Tryz.func116 λΓ q=>tW q Gv [] Ib [] (tL q h Ib [] (λu i1=>(Fx u [(9,(Z6 i1))] [])) (λu x_=>match x_ with|(.inl _)=>aG Γ (.exit 0) (⟨[],[],[]⟩:St)|(.inr r_)=>aR (Uw Γ v7 r_)) (λi1 y h=>An q BK [] (gC h (λh=>tV q BL [6] h λh=>tB h λx3 y3 h=>tT q GJ [] [(Z2 x3)] (c1 (Xr y3)) (gC h (λh=>An q [4] [] (tS h (gO (Su (Kl [] (Le.refl _ _)))))) λh=>An q Ib [] (tN h))) λh=>tS h (gO (D1 (Dj [] [] q))))) λx4 h=>(match x4,h with | .inl _,h=>gA (An q [4] [] (tS h (Cf []))) | .inr r6,h=>Xa (λst' hk=>tS h (gK hk))))
def Ma(aO:Int):Option Bool:=
 (some (bif (decide ((0:Int)<=aO)) then(decide (aO<=22)) else false))
theorem EU(h:Ma v1=some v5):sP 150 [(Z6 v1)] [] (.bool v5) []:=
 sG Tryz.func150 λΓ q=>An q [0] [] (tU q [2] [] (c2 (gI ((decide ((0:Int)<=v1))==true)) (Lq (decide ((0:Int)<=v1)))) (tS h (Cf [])))
def oX(x5:Bool)(aL:Int):=(bif x5 then(decide ((8:Int)<=aL)) else false)
def Nc(aL:Int)(aa2:Int):Option Bool:=
 (bif (aa2==1) then((G0 aL).bind λx1=>(some x1)) else(Option.bind (α:=Bool) (bif (aa2==2) then(some (aa2==2)) else(bif (aa2==4) then(some (aa2==4)) else(bif (aa2==8) then(some (aa2==8)) else(some (aa2==16))))) (λx3=>(bif x3 then((G0 aL).bind λx5=>(some (bif (bif x5 then(decide ((8:Int)<=aL)) else false) then(decide (((Bj (aL*aa2)):Int)<=128)) else false))) else(some false)))))
theorem HG(h:Nc v1 v2=some v5):sP 151 [(Z6 v1),(Z6 v2)] [] (.bool v5) []:=
 sG Tryz.func151 λΓ q=>tW q Gv [] Yg [] (An q [0,1,5,6] [] (gC h (λh=>tB h λx1 y1 h=>tT q [4] [] [(Z2 x1)] (c1 (Ir y1)) (tS h (Cf []))) λh=>tB h λx3 y3 h=>gJ y3 (λb2=>aG Γ .normal (⟨[(0,(Z6 v1)),(1,(Z6 v2)),(10,(.bool b2))],[],[]⟩:St)) (λy h=>An q [0,1,5,10] [] (gC h (λh=>tS h (gK (D1 (Dj BM [] q)))) λh=>An q [0,1,5,10] [] (gC h (λh=>tS h (gK (D1 (Dj BM [] q)))) λh=>An q [0,1,5,10] [] (gC h (λh=>tS h (gK (D1 (Dj BM [] q)))) λh=>An q BM [] (tS h (gK (D1 Mo))))))) (gA (gC h (λh=>tB h λx5 y5 h=>tT q [4] [] [(Z2 x5)] (nQ (Ir y5) (gI (x5==true)) (Lq x5) (WN ((oX x5 v1)==true) (c1 (Lq (oX x5 v1))))) (tS h (Cf []))) λh=>An q [4] [] (tS h (Cf []))))))
def nG(a1:Bh):List RY:=[(nO a1.Kind a1.Bits a1.Lanes a1.Dst a1.Args a1.Imm)]
def I7(a1:Bh):Option Bool:=
 (Option.bind (α:=Bool) (bif (a1.Kind==16) then(some (a1.Kind==16)) else(some (a1.Kind==17))) (λx2=>(bif x2 then(some (decide ((8:Int)<=a1.Bits))) else(Option.bind (α:=Bool) (bif (a1.Kind==18) then(some (a1.Kind==18)) else(some (a1.Kind==19))) (λx5=>(bif x5 then(some (bif (decide ((8:Int)<=a1.Bits)) then(a1.Lanes==1) else false)) else(Option.bind (α:=Bool) (bif (a1.Kind==4) then(some (a1.Kind==4)) else(bif (a1.Kind==10) then(some (a1.Kind==10)) else(bif (a1.Kind==11) then(some (a1.Kind==11)) else(bif (a1.Kind==12) then(some (a1.Kind==12)) else(bif (a1.Kind==14) then(some (a1.Kind==14)) else(bif (a1.Kind==15) then(some (a1.Kind==15)) else(some (a1.Kind==20)))))))) (λx8=>(bif x8 then(some (a1.Lanes==1)) else(Option.bind (α:=Bool) (bif (a1.Kind==21) then(some (a1.Kind==21)) else(some (a1.Kind==22))) (λx11=>(bif x11 then(some (decide ((1:Int)<a1.Lanes))) else(some true)))))))))))))
theorem Xu(h:I7 v3=some v5):sP 152 [(So v3)] [] (.bool v5) []:=
 sG Tryz.func152 λΓ q=>tW q [1] [1] [1,4] [1] (tB h λx2 y2 h=>gJ y2 (λb1=>aG Γ .normal (⟨[(1,(.ptr 1 0)),(4,(Z6 v3.Kind)),(5,(.bool b1))],(nG v3),[]⟩:St)) (λy h=>An q [1,4,5] [1] (gC h (λh=>tS h (gK (D1 Mo))) λh=>An q [1,4,5] [1] (tS h (gK (D1 Mo))))) (gA (gC h (λh=>An q [2] [] (tS h (Cf []))) λh=>tB h λx5 y5 h=>gJ y5 (λb4=>aG Γ .normal (⟨[(1,(.ptr 1 0)),(4,(Z6 v3.Kind)),(11,(.bool b4))],(nG v3),[]⟩:St)) (λy h=>An q [1,4,11] [1] (gC h (λh=>tS h (gK (D1 Mo))) λh=>An q [1,4,11] [1] (tS h (gK (D1 Mo))))) (gA (gC h (λh=>tU q [2] [] (Yu ((decide ((8:Int)<=v3.Bits))==true) (c1 (Lq (decide ((8:Int)<=v3.Bits))))) (tS h (Cf []))) λh=>tB h λx8 y8 h=>gJ y8 (λb7=>aG Γ .normal (⟨[(1,(.ptr 1 0)),(4,(Z6 v3.Kind)),(22,(.bool b7))],(nG v3),[]⟩:St)) (λy h=>An q GL [1] (gC h (λh=>tS h (gK (D1 Mo))) λh=>An q GL [1] (gC h (λh=>tS h (gK (D1 Mo))) λh=>An q GL [1] (gC h (λh=>tS h (gK (D1 Mo))) λh=>An q GL [1] (gC h (λh=>tS h (gK (D1 Mo))) λh=>An q GL [1] (gC h (λh=>tS h (gK (D1 Mo))) λh=>An q GL [1] (gC h (λh=>tS h (gK (D1 Mo))) λh=>An q GL [1] (tS h (gK (D1 Mo)))))))))) (gA (gC h (λh=>An q [2] [] (tS h (Cf []))) λh=>tB h λx11 y11 h=>gJ y11 (λb10=>aG Γ .normal (⟨[(1,(.ptr 1 0)),(33,(.bool b10))],(nG v3),[]⟩:St)) (λy h=>An q [1,4,33] [1] (gC h (λh=>tS h (gK (D1 (Dj [1,33] [1] q)))) λh=>An q [1,33] [1] (tS h (gK (D1 Mo))))) (gA (gC h (λh=>An q [2] [] (tS h (Cf []))) λh=>An q [2] [] (tS h (Cf [])))))))))))
def Q0(a8:Int)(aL:Int):Option Int:=
 ((G0 aL).bind λx1=>(bif (!x1) then(some (0:Int)) else(Ci (0<=(Bj ((64:Int)-aL))) (Ci (0<=(Bj ((64:Int)-aL))) (some (X3 .u64 (UN .u64 a8 (Bj ((64:Int)-aL))) (Bj ((64:Int)-aL))))))))
theorem PW(h:Q0 v1 v2=some v20):sP 171 [(Km v1),(Z6 v2)] [] (.int .u64 v20) []:=
 sG Tryz.func171 λΓ q=>An q Gv [] (tB h λx1 y1 h=>tT q [0,1,7] [] [(Z2 x1)] (c1 (Ir y1)) (gC h (λh=>An q [4] [] (tS h (Cf []))) λh=>tC h λc2_ h=>tC h λc3_ h=>tU q [4] [] (c2 c2_ c3_) (tS h (Cf []))))
def Ip(aa7:Int):Option Bool:=
 ((bif ((decide (aa7<=64))==true) then G0 (Bj aa7) else some false).bind λx1=>(some (bif (decide (aa7<=64)) then x1 else false)))
theorem R5(h:Ip v1=some v5):sP 172 [(Km v1)] [] (.bool v5) []:=
 sG Tryz.func172 λΓ q=>An q [0] [] (tB h λx1 y1 h=>tT q [2] [] [(Z2 x1)] (Yu ((decide (v1<=64))==true) (c2 (λ(hg:((decide (v1<=64))==true)=true)=>(Ir (Bt hg y1))) (Lq (decide (v1<=64))))) (tS h (Cf [])))
def K1(a1:Bh):Option Bool:=
 (bif (a1.Kind==0) then((Q0 a1.Imm a1.Bits).bind λx1=>(some (x1==a1.Imm))) else(bif (a1.Kind==14) then((Ip a1.Imm).bind λx2=>(some (bif x2 then(decide (a1.Imm<(Dx a1.Bits))) else false))) else(bif (a1.Kind==15) then((Ip a1.Imm).bind λx3=>(some (bif x3 then(decide (((Dx a1.Bits):Int)<a1.Imm)) else false))) else(bif (a1.Kind==22) then(some (decide (a1.Imm<(Dx a1.Lanes)))) else(some (a1.Imm==0))))))
theorem BX(h:K1 v3=some v5):sP 153 [(So v3)] [] (.bool v5) []:=
 sG Tryz.func153 λΓ q=>tW q [1] [1] [1,4] [1] (An q [1,4,5] [1] (gC h (λh=>tB h λx1 y1 h=>tT q [2] [] [⟨[],[],(Km x1),[],[],[]⟩] (c1 (PW y1)) (tS h (Cf []))) λh=>An q [1,4,15] [1] (gC h (λh=>tB h λx2 y2 h=>tT q [2] [] [(Z2 x2)] (ci (R5 y2) (mN (x2==true) (c1 (Lq x2)))) (tS h (Cf []))) λh=>An q [1,4,28] [1] (gC h (λh=>tB h λx3 y3 h=>tT q [2] [] [(Z2 x3)] (ci (R5 y3) (mN (x3==true) (c1 (Lq x3)))) (tS h (Cf []))) λh=>An q [1,41] [1] (gC h (λh=>An q [2] [] (tS h (Cf []))) λh=>An q [2] [] (tS h (Cf [])))))))
abbrev RD:=((Int×Int))
abbrev i0:=(List (Int×Int))
def Fe(aaB:List RD):Option i0:=
 (some aaB)
variable{v21:List RD}{v22:List RD}
theorem Fu(h:Fe v21=some v22):sP 156 [(Z8 v21)] [] (Z8 v22) []:=
 sG Tryz.func156 λΓ q=>gR q [0] [] [(2,nK)] [] (c1 (G3 2 Bu ((0:Int),(0:Int)))) (An q [2] [] (tS h (Cf [])))
abbrev lE:=(Int×List (Int×Int))
def Cb :lE->Option (LR (Int×List (Int×Int)) (List (Int×Int))):=
 λ((i7,l8):lE)=>(bif (decide (i7<(l8.length:Int))) then(Ci (0<=i7/\0+i7.toNat<=l8.length) (Ci (0<=i7/\0+i7.toNat<=l8.length) (some (.next ((Bj (i7+((Nat.min ((0+i7.toNat)-0) (l8.length-(0+i7.toNat))):Int))),(SZ l8 (0+i7.toNat) (Nat.min ((0+i7.toNat)-0) (l8.length-(0+i7.toNat))) (λi=>l8.getD (0+i) ((0:Int),(0:Int))))))))) else(some (.done l8)))
def bX(x3:Gt):=(List.replicate (Bj x3.2).toNat ((0:Int),(0:Int)))
def nh(x3:Gt)(a6:List RD):=(SZ (bX x3) 0 (Nat.min a6.length ((bX x3).length-0)) (λi=>a6.getD i ((0:Int),(0:Int))))
def ng(l8:List RD)(i7:Int):=(SZ l8 (0+i7.toNat) (Nat.min ((0+i7.toNat)-0) (l8.length-(0+i7.toNat))) (λi=>l8.getD (0+i) ((0:Int),(0:Int))))
def Bq(a6:List RD)(aZ:Int):Option i0:=
 (Option.bind (α:=Unit) (bif (decide (aZ<0)) then none else(some ())) (λx1=>(match x1 with|_=>((Lu (Dx (a6.length:Int)) (Dx aZ)).bind λx3=>(Option.bind (α:=Unit) (bif (bif (decide ((0:Int)<x3.1)) then true else(decide ((9223372036854775807:Int)<x3.2))) then none else(some ())) (λx4=>(match x4 with|_=>(Ci (0<=(Bj x3.2)/\(Bj x3.2)<=(Bj x3.2)/\(Bj x3.2)<=(room:Int)) ((Ah (S:=lE) (X:=List Gt) Cb (((Nat.min a6.length ((List.replicate (Bj x3.2).toNat ((0:Int),(0:Int))).length-0)):Int),(SZ (List.replicate (Bj x3.2).toNat ((0:Int),(0:Int))) 0 (Nat.min a6.length ((List.replicate (Bj x3.2).toNat ((0:Int),(0:Int))).length-0)) (λi=>a6.getD i ((0:Int),(0:Int)))))).bind (λx12=>(some x12)))))))))))
theorem Mx(h:Bq v21 v1=some v22):sP 157 [(Z8 v21),(Z6 v1)] [] (AV.list 2 Bu ((0:Int),(0:Int)) v22 (.own 20000)) [(20000,.tok 2 73 v22.length)]:=
 sG Tryz.func157 λΓ q=>have hΓ:=q.own;gR q Gv [] [(4,nK)] [] (c1 (G3 2 Bu ((0:Int),(0:Int)))) (tB h λx1 y1 h=>gJ y1 (λ_=>aG Γ .normal (⟨[(0,(Z8 v21)),(1,(Z6 v1))],[],[]⟩:St)) (λy h=>An q BM [] (gC h (λh=>nomatch h) λh=>tS h (gK (D1 (Dj Gv [] q))))) (gA (tB h λx3 y3 h=>tT q [0,5,6] [] [⟨[],[],(.tuple [(Km x3.1),(Km x3.2)]),[],[],[]⟩] (c1 (AS y3)) (tB h λx4 y4 h=>gJ y4 (λ_=>aG Γ .normal (⟨[(0,(Z8 v21)),(6,(Km x3.2))],[],[]⟩:St)) (λy h=>tU q [0,6,26] [] (c2 (gI ((decide ((0:Int)<x3.1))==false)) (Ux (decide ((0:Int)<x3.1)))) (gC h (λh=>nomatch h) λh=>tS h (gK (D1 (Dj [0,6] [] q))))) (gA (tV q [0,7] [30] h λh=>by exact Mr (Le.trans (Xd 30 (show ∀ k_,k_<((Bj x3.2).toNat)->AVleL ((λi_=>AV.eraseAll (λn_=>Cd n_ [30]) ((λ_=>[Ld,Ld]) i_)) k_) ((λi=>Bu ((bX x3).getD i ((0:Int),(0:Int)))) k_) from(λk hk=>Xh (e:=Bu) (d:=((0:Int),(0:Int))) (.cons (AVle.refl _) (.cons (AVle.refl _) .nil)) _ k (X0 hk)))) (S4 (λ(k_:Nat) u=>(Fx u [(7,(.vsl 30 k_))] [(30,.arr 2 73 k_ (λi=>Bu ((bX x3).getD i ((0:Int),(0:Int)))))])) (show(Bj x3.2).toNat=(bX x3).length from(X7 ..).symm))) (tU q Mn [30] (c1 (Eq.refl ((bX x3).length))) (Mr (Le.trans (Xd 30 (show ∀ k_,k_<((bX x3).length)->AVleL ((λi_=>AV.eraseAll (λn_=>Cd n_ [30]) ((OH (λi=>Bu ((bX x3).getD i ((0:Int),(0:Int)))) 0 (Nat.min v21.length ((bX x3).length-0)) (λi=>Bu (v21.getD i ((0:Int),(0:Int))))) i_)) k_) ((λi=>Bu ((nh x3 v21).getD i ((0:Int),(0:Int)))) k_) from(Ck (Fz ..) (λk_ hk_=>(Ca (AV.eraseAll (λn_=>Cd n_ [30])) ((CH (e:=Bu) (d:=((0:Int),(0:Int))) (l:=(bX x3)) (s:=(λi=>v21.getD i ((0:Int),(0:Int)))) (λ_ _=>rfl) (λ_ _=>rfl)) k_ hk_)).trans rfl)))) (S4 (λ(k_:Nat) u=>(Fx u [(7,(.vsl 30 k_))] [(30,.arr 2 73 k_ (λi=>Bu ((nh x3 v21).getD i ((0:Int),(0:Int)))))])) (show(bX x3).length=(nh x3 v21).length from(Fz ..)))) (tL q h Mn [30] (λu (i7,l8)=>(Fx u [(7,(.vsl 30 l8.length)),(8,(Z6 i7))] (n6 l8))) (λu l9=>aG Γ (.exit 0) (⟨[(7,(.vsl 30 l9.length))],(n6 l9),[]⟩:St)) (λ⟨i7,l8⟩ y h=>An q [7,8,37] [30] (gC h (λh=>tC h λc10_ h=>tC h λc11_ h=>tU q Mn [30] (c4 c10_ c11_ (Eq.refl l8.length) (Eq.refl l8.length)) (tS h (gN (Le.trans (Le.trans (Xd 30 (show ∀ k_,k_<l8.length->AVleL ((λi_=>AV.eraseAll (λn_=>Cd n_ [30]) ((OH (λi=>Bu (l8.getD i ((0:Int),(0:Int)))) (0+i7.toNat) (Nat.min ((0+i7.toNat)-0) (l8.length-(0+i7.toNat))) (λi=>(λi=>Bu (l8.getD i ((0:Int),(0:Int)))) (0+i))) i_)) k_) ((λi=>Bu ((ng l8 i7).getD i ((0:Int),(0:Int)))) k_) from(Ck (Fz ..) (λk_ hk_=>(Ca (AV.eraseAll (λn_=>Cd n_ [30])) ((CH (e:=Bu) (d:=((0:Int),(0:Int))) (l:=l8) (s:=(λi=>l8.getD (0+i) ((0:Int),(0:Int)))) (λ_ _=>rfl) (λ_ _=>rfl)) k_ hk_)).trans rfl)))) (S4 (λ(k_:Nat) u=>(Fx u [(7,(.vsl 30 k_))] [(30,.arr 2 73 k_ (λi=>Bu ((ng l8 i7).getD i ((0:Int),(0:Int)))))])) (show l8.length=(ng l8 i7).length from(Fz ..)))) Mo)))) λh=>tS h (gO (D1 (Dj [7] [30] q))))) λx12 h=>gA (An q [4] [30] (Rx (⟨[(4,(.vsl 30 x12.length))],(n6 x12),[]⟩:St) (tS h (gK (e:=.ret) (Kl [(30,20000)] (Le.trans (Lr (nm:=30) (sz:=2) (n:=x12.length) (e:=73) (f:=(λi=>Bu (x12.getD i ((0:Int),(0:Int))))) (g:=(λi=>Bu (x12.getD i ((0:Int),(0:Int))))) rfl ⟨rfl,trivial⟩ (λ_ _=>rfl) (by rw[hΓ];rfl)) (Nu (st':=⟨[(4,(AV.list 2 Bu ((0:Int),(0:Int)) x12 (.own 30)))],[(30,.tok 2 73 x12.length)],[]⟩) (by kernel_rfl)))))))))))))))))
def oY(a1:Bh):List RY:=[(nO a1.Kind a1.Bits a1.Lanes a1.Dst a1.Args a1.Imm),(3,.row 73 [fx,fx]),(4,.row 73 [(AB 64),fx]),(5,.row 73 [(Z6 a1.Bits),(Z6 a1.Lanes)]),(6,.row 73 [(Z6 a1.Bits),fx])]
def K2(a1:Bh):Option i0:=
 (bif (a1.Kind==0) then((Fe ([]:List Gt)).bind λx1=>(some x1)) else(bif (a1.Kind==13) then((Fe ([((1:Int),(1:Int)),(a1.Bits,a1.Lanes),(a1.Bits,a1.Lanes)]:List Gt)).bind λx2=>(some x2)) else(Option.bind (α:=Bool) (bif (a1.Kind==14) then(some (a1.Kind==14)) else(some (a1.Kind==15))) (λx4=>(bif x4 then((Fe ([((Bj a1.Imm),(1:Int))]:List Gt)).bind λx6=>(some x6)) else(bif (a1.Kind==16) then((Fe ([((64:Int),(1:Int))]:List Gt)).bind λx7=>(some x7)) else(bif (a1.Kind==17) then((Fe ([((64:Int),(1:Int)),(a1.Bits,a1.Lanes)]:List Gt)).bind λx8=>(some x8)) else(Option.bind (α:=Bool) (bif (a1.Kind==18) then(some (a1.Kind==18)) else(some (a1.Kind==19))) (λx10=>(bif x10 then((Fe ([((1:Int),(1:Int)),((64:Int),(1:Int)),(a1.Bits,(1:Int))]:List Gt)).bind λx12=>(some x12)) else(bif (a1.Kind==20) then((Fe ([((1:Int),(1:Int)),(a1.Bits,(1:Int)),(a1.Bits,(1:Int)),(a1.Bits,(1:Int))]:List Gt)).bind λx13=>(some x13)) else(bif (a1.Kind==21) then((Bq ([(a1.Bits,(1:Int))]:List Gt) a1.Lanes).bind λx14=>((Fe x14).bind λx15=>(some x15))) else(bif (a1.Kind==22) then((Fe ([(a1.Bits,a1.Lanes)]:List Gt)).bind λx16=>(some x16)) else((Fe ([(a1.Bits,a1.Lanes),(a1.Bits,a1.Lanes)]:List Gt)).bind λx17=>(some x17)))))))))))))))
theorem Ve(h:K2 v3=some v21):sP 143 [(So v3)] [] (Z8 v21) []:=
 sG Tryz.func143 λΓ q=>gR q [1] [1] [(2,nK)] [] (c1 (G3 2 Bu ((0:Int),(0:Int)))) (tW q [1,3,4] [1,3,4] T7 T7 (tW q [1,3,4,5,6,18] T7 [1,3,4,5,6,18,19] T7 (gC h (λh=>tB h λx1 y1 h=>tT q [2] [] [(YF x1)] (c1 (show(sP 156 [Z5] [] (Z8 x1) []) from(Spec.args (.cons gE .nil) (Fu y1)))) (tS h (Cf []))) λh=>An q [1,3,4,5,6,18,22] T7 (gC h (λh=>tB h λx2 y2 h=>gR q [2] [] [(27,(AV.list 2 Bu ((0:Int),(0:Int)) ([((1:Int),(1:Int)),(v3.Bits,v3.Lanes),(v3.Bits,v3.Lanes)]:List Gt) .exact))] [(YF x2)] (c2 (Bm 2 Bu ((0:Int),(0:Int)) ([((1:Int),(1:Int)),(v3.Bits,v3.Lanes),(v3.Bits,v3.Lanes)]:List Gt)) (Fu y2)) (tS h (Cf []))) λh=>tB h λx4 y4 h=>gJ y4 (λb3=>aG Γ .normal (⟨[(1,(.ptr 1 0)),(3,(.ptr 3 0)),YG,(5,(.ptr 5 0)),NB,(18,(Z6 v3.Kind)),(29,(.bool b3))],(oY v3),[]⟩:St)) (λy h=>An q [1,3,4,5,6,18,29] T7 (gC h (λh=>tS h (gK (D1 Mo))) λh=>An q [1,3,4,5,6,18,29] T7 (tS h (gK (D1 Mo))))) (gA (gC h (λh=>tB h λx6 y6 h=>gR q [2] [] [(36,(AV.list 2 Bu ((0:Int),(0:Int)) ([((Bj v3.Imm),(1:Int))]:List Gt) .exact))] [(YF x6)] (c2 (Bm 2 Bu ((0:Int),(0:Int)) ([((Bj v3.Imm),(1:Int))]:List Gt)) (Fu y6)) (tS h (Cf []))) λh=>An q [1,3,4,5,6,18,38] T7 (gC h (λh=>tB h λx7 y7 h=>gR q [2] [] [(41,(AV.list 2 Bu ((0:Int),(0:Int)) ([((64:Int),(1:Int))]:List Gt) .exact))] [(YF x7)] (c2 (Bm 2 Bu ((0:Int),(0:Int)) ([((64:Int),(1:Int))]:List Gt)) (Fu y7)) (tS h (Cf []))) λh=>An q [1,3,4,5,6,18,43] T7 (gC h (λh=>tB h λx8 y8 h=>gR q [2] [] [(47,(AV.list 2 Bu ((0:Int),(0:Int)) ([((64:Int),(1:Int)),(v3.Bits,v3.Lanes)]:List Gt) .exact))] [(YF x8)] (c2 (Bm 2 Bu ((0:Int),(0:Int)) ([((64:Int),(1:Int)),(v3.Bits,v3.Lanes)]:List Gt)) (Fu y8)) (tS h (Cf []))) λh=>tB h λx10 y10 h=>gJ y10 (λb9=>aG Γ .normal (⟨[(1,(.ptr 1 0)),(3,(.ptr 3 0)),YG,(5,(.ptr 5 0)),NB,(18,(Z6 v3.Kind)),(49,(.bool b9))],(oY v3),[]⟩:St)) (λy h=>An q [1,3,4,5,6,18,49] T7 (gC h (λh=>tS h (gK (D1 Mo))) λh=>An q [1,3,4,5,6,18,49] T7 (tS h (gK (D1 Mo))))) (gA (gC h (λh=>tB h λx12 y12 h=>gR q [2] [] [(55,(AV.list 2 Bu ((0:Int),(0:Int)) ([((1:Int),(1:Int)),((64:Int),(1:Int)),(v3.Bits,(1:Int))]:List Gt) .exact))] [(YF x12)] (c2 (Bm 2 Bu ((0:Int),(0:Int)) ([((1:Int),(1:Int)),((64:Int),(1:Int)),(v3.Bits,(1:Int))]:List Gt)) (Fu y12)) (tS h (Cf []))) λh=>An q [1,3,5,6,18,57] [1,3,5,6] (gC h (λh=>tB h λx13 y13 h=>gR q [2] [] [(63,(AV.list 2 Bu ((0:Int),(0:Int)) ([((1:Int),(1:Int)),(v3.Bits,(1:Int)),(v3.Bits,(1:Int)),(v3.Bits,(1:Int))]:List Gt) .exact))] [(YF x13)] (c2 (Bm 2 Bu ((0:Int),(0:Int)) ([((1:Int),(1:Int)),(v3.Bits,(1:Int)),(v3.Bits,(1:Int)),(v3.Bits,(1:Int))]:List Gt)) (Fu y13)) (tS h (Cf []))) λh=>An q [1,5,6,18,65] [1,5,6] (gC h (λh=>tB h λx14 y14 h=>tB h λx15 y15 h=>gR q [2] [] [(68,(AV.list 2 Bu ((0:Int),(0:Int)) ([(v3.Bits,(1:Int))]:List Gt) .exact))] [⟨[],[(20000,71)],(AV.list 2 Bu ((0:Int),(0:Int)) x14 (.own 20000)),[(20000,.tok 2 73 x14.length)],[],[]⟩,(YF x15)] (c3 (Bm 2 Bu ((0:Int),(0:Int)) ([(v3.Bits,(1:Int))]:List Gt)) (Mx y14) (Fu y15)) (tS h (Cf []))) λh=>An q [5,73] [5] (gC h (λh=>tB h λx16 y16 h=>gR q [2] [] [(76,(AV.list 2 Bu ((0:Int),(0:Int)) ([(v3.Bits,v3.Lanes)]:List Gt) .exact))] [(YF x16)] (c2 (Bm 2 Bu ((0:Int),(0:Int)) ([(v3.Bits,v3.Lanes)]:List Gt)) (Fu y16)) (tS h (Cf []))) λh=>tB h λx17 y17 h=>gR q [2] [] [(80,(AV.list 2 Bu ((0:Int),(0:Int)) ([(v3.Bits,v3.Lanes),(v3.Bits,v3.Lanes)]:List Gt) .exact))] [(YF x17)] (c2 (Bm 2 Bu ((0:Int),(0:Int)) ([(v3.Bits,v3.Lanes),(v3.Bits,v3.Lanes)]:List Gt)) (Fu y17)) (tS h (Cf [])))))))))))))))
def Io(a8:Int):Option Bool:=
 (some (bif (decide ((1:Int)<=a8)) then(decide (a8<=1023)) else false))
theorem R4(h:Io v1=some v5):sP 173 [(Z6 v1)] [] (.bool v5) []:=
 sG Tryz.func173 λΓ q=>An q [0] [] (tU q [2] [] (c2 (gI ((decide ((1:Int)<=v1))==true)) (Lq (decide ((1:Int)<=v1)))) (tS h (Cf [])))
def Gp(a1:Bh):Int->Option (LR Int (Unit ⊕ Bool)):=
 λ(i2:Int)=>(bif (decide (i2<(a1.Args.length:Int))) then(Ci (Bw i2 a1.Args.length) ((Io (a1.Args.getD i2.toNat 0)).bind λx4=>(bif (!x4) then(some (.done (.inr false))) else(some (.next (Bj (i2+1))))))) else(some (.done (.inl ()))))
def CY(Γ:G1)(a1:Bh)(r:Bool):Exit->St->Prop:=fK Tryz.prog Γ Tryz.f154.results.toList [] (.bool r) []
def Ky(a1:Bh):Option Bool:=
 ((K2 a1).bind λx1=>(bif ((a1.Args.length:Int)!=(x1.length:Int)) then(some false) else((Ah (Gp a1) (0:Int)).bind (λx5=>(match x5 with|(.inl _)=>(some true)|(.inr r7)=>(some r7))))))
theorem BV(h:Ky v3=some v5):sP 154 [(So v3)] [] (.bool v5) []:=
 sG Tryz.func154 λΓ q=>An q [1] [1] (tB h λx1 y1 h=>tT q [1,11] [1] [(YF x1)] (c1 (Ve y1)) (gC h (λh=>An q [2] [] (tS h (Cf []))) λh=>An q [13,14,15] [] (tL q h [13,14,15] [] (λu i2=>(Fx u [(15,(Z6 i2))] [])) (λu x_=>match x_ with|(.inl _)=>aG Γ (.exit 0) (⟨[],[],[]⟩:St)|(.inr r_)=>aR (CY Γ v3 r_)) (λi2 y h=>An q [13,14,15,16] [] (gC h (λh=>tV q [4,13,14,15] [] h λh=>tB h λx4 y4 h=>tT q [13,14,15,21] [] [(Z2 x4)] (c1 (R4 y4)) (gC h (λh=>An q [2] [] (tS h (gO (Su (Kl [] (Le.refl _ _)))))) λh=>An q [13,14,15] [] (tN h))) λh=>tS h (gO (D1 (Dj [] [] q))))) λx5 h=>(match x5,h with | .inl _,h=>gA (An q [2] [] (tS h (Cf []))) | .inr r7,h=>Xa (λst' hk=>tS h (gK hk))))))
def oZ(a1:Bh):List RY:=[(nO a1.Kind a1.Bits a1.Lanes a1.Dst a1.Args a1.Imm)]
def K0(a1:Bh):Option Gt:=
 (Option.bind (α:=Bool) (bif (a1.Kind==17) then(some (a1.Kind==17)) else(some (a1.Kind==19))) (λx2=>(bif x2 then(some ((0:Int),(0:Int))) else(Option.bind (α:=Bool) (bif (a1.Kind==10) then(some (a1.Kind==10)) else(bif (a1.Kind==11) then(some (a1.Kind==11)) else(some (a1.Kind==12)))) (λx5=>(bif x5 then(some ((1:Int),(1:Int))) else(bif (a1.Kind==22) then(some (a1.Bits,(1:Int))) else(some (a1.Bits,a1.Lanes)))))))))
theorem Vd(h:K0 v3=some v19):sP 142 [(So v3)] [] (.tuple [(Z6 v19.1),(Z6 v19.2)]) []:=
 sG Tryz.func142 λΓ q=>tW q [1] [1] [1,5] [1] (tB h λx2 y2 h=>gJ y2 (λb1=>aG Γ .normal (⟨[(1,(.ptr 1 0)),(5,(Z6 v3.Kind)),(6,(.bool b1))],(oZ v3),[]⟩:St)) (λy h=>An q [1,5,6] [1] (gC h (λh=>tS h (gK (D1 Mo))) λh=>An q [1,5,6] [1] (tS h (gK (D1 Mo))))) (gA (gC h (λh=>An q T8 [] (tS h (Cf []))) λh=>tB h λx5 y5 h=>gJ y5 (λb4=>aG Γ .normal (⟨[(1,(.ptr 1 0)),(5,(Z6 v3.Kind)),(9,(.bool b4))],(oZ v3),[]⟩:St)) (λy h=>An q [1,5,9] [1] (gC h (λh=>tS h (gK (D1 Mo))) λh=>An q [1,5,9] [1] (gC h (λh=>tS h (gK (D1 Mo))) λh=>An q [1,5,9] [1] (tS h (gK (D1 Mo)))))) (gA (gC h (λh=>An q T8 [] (tS h (Cf []))) λh=>An q [1,13] [1] (gC h (λh=>An q T8 [] (tS h (Cf []))) λh=>An q T8 [] (tS h (Cf []))))))))
def Kz(a1:Bh):Option Bool:=
 ((K0 a1).bind λx1=>(bif (x1.1==0) then(some (a1.Dst==0)) else((Io a1.Dst).bind λx2=>(some x2))))
theorem BW(h:Kz v3=some v5):sP 155 [(So v3)] [] (.bool v5) []:=
 sG Tryz.func155 λΓ q=>An q [1] [1] (tB h λx1 y1 h=>tT q [1,3] [1] [⟨[],[],(.tuple [(Z6 x1.1),(Z6 x1.2)]),[],[],[]⟩] (c1 (Vd y1)) (An q [1,11] [1] (gC h (λh=>An q [2] [] (tS h (Cf []))) λh=>tB h λx2 y2 h=>tT q [2] [] [(Z2 x2)] (c1 (R4 y2)) (tS h (Cf [])))))
def jG(x1:Bool)(x2:Bool):=(bif (!x1) then true else(!x2))
def Lx(a1:Bh):Option Bool:=
 ((Ma a1.Kind).bind λx1=>((bif ((!x1)==false) then Nc a1.Bits a1.Lanes else some false).bind λx2=>((bif ((bif (!x1) then true else(!x2))==false) then I7 a1 else some false).bind λx3=>((bif ((bif (bif (!x1) then true else(!x2)) then true else(!x3))==false) then K1 a1 else some false).bind λx4=>(bif (bif (bif (bif (!x1) then true else(!x2)) then true else(!x3)) then true else(!x4)) then(some false) else((Ky a1).bind λx5=>((bif (x5==true) then Kz a1 else some false).bind λx6=>(some (bif x5 then x6 else false)))))))))
theorem Tf(h:Lx v3=some v5):sP 140 [(So v3)] [] (.bool v5) []:=
 sG Tryz.func140 λΓ q=>An q [1] [1] (tB h λx1 y1 h=>tB h λx2 y2 h=>tB h λx3 y3 h=>tB h λx4 y4 h=>tT q [1,24] [1] [(Z2 x1),(Z2 x2),(Z2 x3),(Z2 x4)] (ci (EU y1) (lV ((!x1)==false) (mK (λ(hg:((!x1)==false)=true)=>(HG (Bt hg y2))) (gI ((!x1)==false)) (Ux (!x1)) (gI ((jG x1 x2)==false)) (λ(hg:((jG x1 x2)==false)=true)=>(Xu (Bt hg y3))) (gI ((jG x1 x2)==false)) (Ux (jG x1 x2)) (gI ((bif (jG x1 x2) then true else(!x3))==false)) (λ(hg:((bif (jG x1 x2) then true else(!x3))==false)=true)=>(BX (Bt hg y4))) (c2 (gI ((bif (jG x1 x2) then true else(!x3))==false)) (Ux (bif (jG x1 x2) then true else(!x3))))))) (gC h (λh=>An q [2] [] (tS h (Cf []))) λh=>tB h λx5 y5 h=>tB h λx6 y6 h=>tT q [2] [] [(Z2 x5),(Z2 x6)] (c4 (BV y5) (gI (x5==true)) (λ(hg:(x5==true)=true)=>(BW (Bt hg y6))) (Lq x5)) (tS h (Cf []))))
def Na(a1:Bh)(aP:Int):Option Bool:=
 (bif (aP==0) then(some (bif (decide (a1.Kind<=17)) then(a1.Lanes==1) else false)) else(bif (aP==1) then(some (bif (decide (a1.Kind<=20)) then(a1.Lanes==1) else false)) else(some true)))
theorem HB(h:Na v3 v1=some v5):sP 141 [(So v3),(Z6 v1)] [] (.bool v5) []:=
 sG Tryz.func141 λΓ q=>tW q Vz [2] [2,5] [2] (An q Vx [2] (gC h (λh=>tU q [4] [] (Yu ((decide (v3.Kind<=17))==true) (c1 (Lq (decide (v3.Kind<=17))))) (tS h (Cf []))) λh=>An q Vy [2] (gC h (λh=>tU q [4] [] (Yu ((decide (v3.Kind<=20))==true) (c1 (Lq (decide (v3.Kind<=20))))) (tS h (Cf []))) λh=>An q [4] [] (tS h (Cf [])))))
abbrev Tw:=(Bool×Aa×Int×Am×List A7)
def E7(a1:Bh)(a0:Aa)(a4:Int)(a9:Am)(a5:List A7):Option Tw:=
 ((Lx a1).bind λx1=>((bif (x1==true) then Na a1 a4 else some false).bind λx2=>(some ((bif x1 then x2 else false),a0,a4,a9,a5))))
variable{v23:Tw}
theorem Pl(h:E7 v3 v0 v1 v4 v12=some v23):sP 119 [Yh,(So v3)] (Z3 v0.Params v0.Ret v0.Blocks v1 v4 v12 v12.length) (.bool v23.1) (Z3 v23.2.1.Params v23.2.1.Ret v23.2.1.Blocks v23.2.2.1 v23.2.2.2.1 v23.2.2.2.2 v23.2.2.2.2.length):=
 sG Tryz.func119 λΓ q=>An q V0 RM (tB h λx1 y1 h=>tB h λx2 y2 h=>tT q [4] Fk [(Z2 x1),(Z2 x2)] (ci (Tf y1) (mN (x1==true) (c2 (λ(hg:(x1==true)=true)=>(HB (Bt hg y2))) (Lq x1)))) (tS h (Cf CA)))
abbrev M1:=(Int×Am×Int×List Ag×Int×Am×List A7)
abbrev mn:=(LR (Int×Am×Int×List Ag×Int×Am×List A7) ((Am×Int×List Ag×Int×Am×List A7) ⊕ (Bool×Aa×Int×Am×List A7)))
def En(aB:List Bh):M1->Option mn:=
 λ((i1,l2,i3,l4,i5,l6,l7):M1)=>(bif (decide (i1<(aB.length:Int))) then(Ci (Bw i1 aB.length) ((E7 (aB.getD i1.toNat default) (⟨l2,i3,l4⟩:Aa) i5 l6 l7).bind λx15=>(bif (!x15.1) then(some (.done (.inr (false,x15.2.1,x15.2.2.1,x15.2.2.2.1,x15.2.2.2.2)))) else(some (.next ((Bj (i1+1)),x15.2.1.Params,x15.2.1.Ret,x15.2.1.Blocks,x15.2.2.1,x15.2.2.2.1,x15.2.2.2.2)))))) else(some (.done (.inl (l2,i3,l4,i5,l6,l7)))))
def V1(Γ:G1)(aB:List Bh)(a0:Aa)(a4:Int)(a9:Am)(a5:List A7)(r:Tw):Exit->St->Prop:=fK Tryz.prog Γ Tryz.f118.results.toList (Z3 a0.Params a0.Ret a0.Blocks a4 a9 a5 a5.length) (.bool r.1) (Z3 r.2.1.Params r.2.1.Ret r.2.1.Blocks r.2.2.1 r.2.2.2.1 r.2.2.2.2 r.2.2.2.2.length)
def Ho(aB:List Bh)(a0:Aa)(a4:Int)(a9:Am)(a5:List A7):Option Tw:=
 ((Ah (En aB) ((0:Int),a0.Params,a0.Ret,a0.Blocks,a4,a9,a5)).bind (λx16=>(match x16 with|(.inl (l8,i9,l10,i11,l12,l13))=>(some (true,(⟨l8,i9,l10⟩:Aa),i11,l12,l13))|(.inr r18)=>(some r18))))
theorem U2(h:Ho v8 v0 v1 v4 v12=some v23):sP 118 [(AV.list 6 V6 default v8 .none),(.clo 119 [Yh] [])] (Z3 v0.Params v0.Ret v0.Blocks v1 v4 v12 v12.length) (.bool v23.1) (Z3 v23.2.1.Params v23.2.1.Ret v23.2.1.Blocks v23.2.2.1 v23.2.2.2.1 v23.2.2.2.2 v23.2.2.2.2.length):=
 sG Tryz.func118 λΓ q=>tW q Gv Fk Ib Fk (tL q h Ib Fk (λu (i1,l2,i3,l4,i5,l6,l7)=>(Fx u [(9,(Z6 i1))] (Z3 l2 i3 l4 i5 l6 l7 l7.length))) (λu x_=>match x_ with|(.inl (l8,i9,l10,i11,l12,l13))=>aG Γ (.exit 0) (⟨[],(Z3 l8 i9 l10 i11 l12 l13 l13.length),[]⟩:St)|(.inr r_)=>aR (V1 Γ v8 v0 v1 v4 v12 r_)) (λ⟨i1,l2,i3,l4,i5,l6,l7⟩ y h=>An q BK Fk (gC h (λh=>tV q BL [6,30000,37006] h λh=>tB h λx15 y15 h=>tT q GJ Fk [(nL x15.1 x15.2.1.Params x15.2.1.Ret x15.2.1.Blocks x15.2.2.1 x15.2.2.2.1 x15.2.2.2.2 x15.2.2.2.2.length)] (c1 (Pl y15)) (gC h (λh=>An q [4] Fk (tS h (gO (Su (Kl CA (Le.refl _ _)))))) λh=>An q Ib Fk (tN h))) λh=>tS h (gO (D1 (Dj [] Fk q))))) λx16 h=>(match x16,h with | .inl ⟨l8,i9,l10,i11,l12,l13⟩,h=>gA (An q [4] Fk (tS h (Cf CA))) | .inr r18,h=>Xa (λst' hk=>tS h (gK hk))))
def np(x1:Bool)(x2:Tw)(a9:Am):AV:=(oq x1 x2.2.2.2.1 a9)
def nk(x1:Bool)(x2:Tw)(a0:Aa):AV:=(oq x1 x2.2.1.Params a0.Params)
def nj(x1:Bool)(x2:Tw)(a0:Aa):AV:=(.slice 5 (bif (x1==true) then x2.2.1.Blocks.length else a0.Blocks.length) (λi=>bif (x1==true) then F2 (x2.2.1.Blocks.getD i default) else F2 (a0.Blocks.getD i default)) .none)
def D8(aF:Ag)(a0:Aa)(a4:Int)(a9:Am)(a5:List A7):Option Tw:=
 ((G4 aF.Phis).bind λx1=>((bif (x1==true) then Ho aF.Ops a0 a4 a9 a5 else some (false,(default:Aa),(0:Int),[],[])).bind λx2=>(some ((bif x1 then x2.1 else false),(⟨(bif (x1==true) then x2.2.1.Params else a0.Params),(bif (x1==true) then x2.2.1.Ret else a0.Ret),(bif (x1==true) then x2.2.1.Blocks else a0.Blocks)⟩:Aa),(bif (x1==true) then x2.2.2.1 else a4),(bif (x1==true) then x2.2.2.2.1 else a9),(bif (x1==true) then x2.2.2.2.2 else a5)))))
theorem Nd(h:D8 v10 v0 v1 v4 v12=some v23):sP 91 [Yh,(.agg (F2 v10))] (Z3 v0.Params v0.Ret v0.Blocks v1 v4 v12 v12.length) (.bool v23.1) (Z3 v23.2.1.Params v23.2.1.Ret v23.2.1.Blocks v23.2.2.1 v23.2.2.2.1 v23.2.2.2.2 v23.2.2.2.2.length):=
 sG Tryz.func91 λΓ q=>An q V0 RM (tB h λx1 y1 h=>tB h λx2 y2 h=>tT q [4] Fk [(Z2 x1),(nL x2.1 x2.2.1.Params x2.2.1.Ret x2.2.1.Blocks x2.2.2.1 x2.2.2.2.1 x2.2.2.2.2 x2.2.2.2.2.length)] (ci (Ta y1) (lV (x1==true) (c2 (λ(hg:(x1==true)=true)=>(U2 (Bt hg y2))) (Lq x1)))) (tS h (gK (e:=.ret) (Kl CA (Le.trans (oF (λg_ u=>(Fx u [] [(30000,.row 110 [(nk x1 x2 v0),(.int .i64 (bif (x1==true) then x2.2.1.Ret else v0.Ret)),(nj x1 x2 v0),(.int .i64 (bif (x1==true) then x2.2.2.1 else v1)),(np x1 x2 v4),.nilm,(nz g_ x2.2.2.2.2 v12)]),(37006,.tok 5 158 (bif g_ then x2.2.2.2.2.length else v12.length))])) (λg_ u=>(Fx u [] [(30000,.row 110 [(nk x1 x2 v0),(.int .i64 (bif (x1==true) then x2.2.1.Ret else v0.Ret)),(nj x1 x2 v0),(.int .i64 (bif (x1==true) then x2.2.2.1 else v1)),(np x1 x2 v4),.nilm,(AV.list 5 Jm default (bif g_ then x2.2.2.2.2 else v12) (.own 37006))]),(37006,.tok 5 158 ((bif g_ then x2.2.2.2.2 else v12).length))])) (x1==true)) (Le.trans (hZ 30000 0 (show AVle (nk x1 x2 v0) (AV.list 1 Aq 0 (bif (x1==true) then x2.2.1.Params else v0.Params) .none) from Gf)) (Le.trans (hZ 30000 2 (show AVle (nj x1 x2 v0) (AV.list 5 F2 default (bif (x1==true) then x2.2.1.Blocks else v0.Blocks) .none) from Gf)) (hZ 30000 4 (show AVle (np x1 x2 v4) (AV.list 1 Aq 0 (bif (x1==true) then x2.2.2.2.1 else v4) .none) from Gf)))))))))
def Ds(aB:List Ag):M1->Option mn:=
 λ((i1,l2,i3,l4,i5,l6,l7):M1)=>(bif (decide (i1<(aB.length:Int))) then(Ci (Bw i1 aB.length) ((D8 (aB.getD i1.toNat default) (⟨l2,i3,l4⟩:Aa) i5 l6 l7).bind λx15=>(bif (!x15.1) then(some (.done (.inr (false,x15.2.1,x15.2.2.1,x15.2.2.2.1,x15.2.2.2.2)))) else(some (.next ((Bj (i1+1)),x15.2.1.Params,x15.2.1.Ret,x15.2.1.Blocks,x15.2.2.1,x15.2.2.2.1,x15.2.2.2.2)))))) else(some (.done (.inl (l2,i3,l4,i5,l6,l7)))))
def Sb(Γ:G1)(aB:List Ag)(a0:Aa)(a4:Int)(a9:Am)(a5:List A7)(r:Tw):Exit->St->Prop:=fK Tryz.prog Γ Tryz.f90.results.toList (Z3 a0.Params a0.Ret a0.Blocks a4 a9 a5 a5.length) (.bool r.1) (Z3 r.2.1.Params r.2.1.Ret r.2.1.Blocks r.2.2.1 r.2.2.2.1 r.2.2.2.2 r.2.2.2.2.length)
def F3(aB:List Ag)(a0:Aa)(a4:Int)(a9:Am)(a5:List A7):Option Tw:=
 ((Ah (Ds aB) ((0:Int),a0.Params,a0.Ret,a0.Blocks,a4,a9,a5)).bind (λx16=>(match x16 with|(.inl (l8,i9,l10,i11,l12,l13))=>(some (true,(⟨l8,i9,l10⟩:Aa),i11,l12,l13))|(.inr r18)=>(some r18))))
theorem Rf(h:F3 v11 v0 v1 v4 v12=some v23):sP 90 [(KT v11),(.clo 91 [Yh] [])] (Z3 v0.Params v0.Ret v0.Blocks v1 v4 v12 v12.length) (.bool v23.1) (Z3 v23.2.1.Params v23.2.1.Ret v23.2.1.Blocks v23.2.2.1 v23.2.2.2.1 v23.2.2.2.2 v23.2.2.2.2.length):=
 sG Tryz.func90 λΓ q=>tW q Gv Fk Ib Fk (tL q h Ib Fk (λu (i1,l2,i3,l4,i5,l6,l7)=>(Fx u [(9,(Z6 i1))] (Z3 l2 i3 l4 i5 l6 l7 l7.length))) (λu x_=>match x_ with|(.inl (l8,i9,l10,i11,l12,l13))=>aG Γ (.exit 0) (⟨[],(Z3 l8 i9 l10 i11 l12 l13 l13.length),[]⟩:St)|(.inr r_)=>aR (Sb Γ v11 v0 v1 v4 v12 r_)) (λ⟨i1,l2,i3,l4,i5,l6,l7⟩ y h=>An q BK Fk (gC h (λh=>tV q BL [6,30000,37006] h λh=>tB h λx15 y15 h=>tT q GJ Fk [(nL x15.1 x15.2.1.Params x15.2.1.Ret x15.2.1.Blocks x15.2.2.1 x15.2.2.2.1 x15.2.2.2.2 x15.2.2.2.2.length)] (c1 (Nd y15)) (gC h (λh=>An q [4] Fk (tS h (gO (Su (Kl CA (Le.refl _ _)))))) λh=>An q Ib Fk (tN h))) λh=>tS h (gO (D1 (Dj [] Fk q))))) λx16 h=>(match x16,h with | .inl ⟨l8,i9,l10,i11,l12,l13⟩,h=>gA (An q [4] Fk (tS h (Cf CA))) | .inr r18,h=>Xa (λst' hk=>tS h (gK hk))))
def YD(x1:Bool)(x2:Bool):=((bif x1 then x2 else false)==true)
def nt(x1:Bool)(x2:Bool)(x3:Tw)(a9:Am):AV:=(nJ (YD x1 x2) x3.2.2.2.1 a9)
def nr(x1:Bool)(x2:Bool)(x3:Tw)(a0:Aa):AV:=(nJ (YD x1 x2) x3.2.1.Params a0.Params)
def nq(x1:Bool)(x2:Bool)(x3:Tw)(a0:Aa):AV:=(om (YD x1 x2) x3.2.1.Blocks a0.Blocks)
def F4(a0:Aa)(a4:Int)(a9:Am)(a5:List A7):Option bD:=
 ((Ju a0.Params).bind λx1=>((bif (x1==true) then G0 a0.Ret else some false).bind λx2=>((bif ((bif x1 then x2 else false)==true) then F3 a0.Blocks a0 a4 a9 a5 else some (false,(default:Aa),(0:Int),[],[])).bind λx3=>((Il (bif (bif x1 then x2 else false) then x3.1 else false) (6:Int)).bind λx4=>(some (x4,(⟨(bif ((bif x1 then x2 else false)==true) then x3.2.1.Params else a0.Params),(bif ((bif x1 then x2 else false)==true) then x3.2.1.Ret else a0.Ret),(bif ((bif x1 then x2 else false)==true) then x3.2.1.Blocks else a0.Blocks)⟩:Aa),(bif ((bif x1 then x2 else false)==true) then x3.2.2.1 else a4),(bif ((bif x1 then x2 else false)==true) then x3.2.2.2.1 else a9),(bif ((bif x1 then x2 else false)==true) then x3.2.2.2.2 else a5)))))))
theorem Rg(h:F4 v0 v1 v4 v12=some v13):sP 73 [Yh] (Z3 v0.Params v0.Ret v0.Blocks v1 v4 v12 v12.length) (Z6 v13.1) (Z3 v13.2.1.Params v13.2.1.Ret v13.2.1.Blocks v13.2.2.1 v13.2.2.2.1 v13.2.2.2.2 v13.2.2.2.2.length):=
 sG Tryz.func73 λΓ q=>An q [0] Fk (tB h λx1 y1 h=>tB h λx2 y2 h=>tB h λx3 y3 h=>tT q [3] Fk [(Z2 x1),(Z2 x2),(nL x3.1 x3.2.1.Params x3.2.1.Ret x3.2.1.Blocks x3.2.2.1 x3.2.2.2.1 x3.2.2.2.2 x3.2.2.2.2.length)] (ci (Zb y1) (mN (x1==true) (gj (λ(hg:(x1==true)=true)=>(Ir (Bt hg y2))) (Lq x1) (pE (YD x1 x2) (c2 (λ(hg:(YD x1 x2)=true)=>(Rf (Bt hg y3))) (Lq (bif x1 then x2 else false))))))) (Mr (Le.trans (oF (λg_ u=>(Fx u [] [(30000,.row 110 [(nr x1 x2 x3 v0),(jL (YD x1 x2) x3.2.1.Ret v0.Ret),(nq x1 x2 x3 v0),(jL (YD x1 x2) x3.2.2.1 v1),(nt x1 x2 x3 v4),.nilm,(nz g_ x3.2.2.2.2 v12)]),(37006,.tok 5 158 (bif g_ then x3.2.2.2.2.length else v12.length))])) (λg_ u=>(Fx u [] [(30000,.row 110 [(nr x1 x2 x3 v0),(jL (YD x1 x2) x3.2.1.Ret v0.Ret),(nq x1 x2 x3 v0),(jL (YD x1 x2) x3.2.2.1 v1),(nt x1 x2 x3 v4),.nilm,(AV.list 5 Jm default (bif g_ then x3.2.2.2.2 else v12) (.own 37006))]),(37006,.tok 5 158 ((bif g_ then x3.2.2.2.2 else v12).length))])) (YD x1 x2)) (Le.trans (hZ 30000 0 (show AVle (nr x1 x2 x3 v0) (AV.list 1 Aq 0 (bif (YD x1 x2) then x3.2.1.Params else v0.Params) .none) from Gf)) (Le.trans (hZ 30000 2 (show AVle (nq x1 x2 x3 v0) (AV.list 5 F2 default (bif (YD x1 x2) then x3.2.1.Blocks else v0.Blocks) .none) from Gf)) (hZ 30000 4 (show AVle (nt x1 x2 x3 v4) (AV.list 1 Aq 0 (bif (YD x1 x2) then x3.2.2.2.1 else v4) .none) from Gf))))) (tB h λx4 y4 h=>tT q [2] Fk [(DB x4)] (c1 (Rz y4)) (tS h (Cf CA)))))
def De(aL:Int):Option Gt:=
 (some (aL,(1:Int)))
theorem H0(h:De v1=some v19):sP 92 [(Z6 v1)] [] (DC v19) []:=
 sG Tryz.func92 λΓ q=>tW q [0,2] [2] [2] [2] (tS h (Cf []))
def lQ:=(λ(v_:Aj)=>((Pt v_):AV))
abbrev Jq:=(Int×Aj)
abbrev RE:=(Bool×Aa×Int×Am×List A7×List (Int×Aj))
def D9(a8:Int)(aX:Gt)(aK:G6)(a0:Aa)(a4:Int)(a9:Am)(a7:List Jq)(a5:List A7):Option RE:=
 (bif (bif (bif (B2 a7 a8) then true else(decide (a8<1))) then true else(decide ((1023:Int)<a8))) then(some (false,a0,a4,a9,a5,a7)) else(some (true,a0,a4,a9,a5,(Ep a7 a8 (⟨aX,aK⟩:Aj)))))
variable{v24:G6}{v25:List Jq}{v26:RE}
abbrev HO:=(Int×AV)
theorem Kb(h:D9 v1 v19 v24 v0 v2 v4 v25 v12=some v26):sP 120 [Yh,(Z6 v1),(DC v19),(.agg (CJ v24))] [(Z1 v0.Params v0.Ret v0.Blocks v2 v4 9100005 v12),(Nk v12.length),(9100005,.obj (.map true .i64 (mapE (λ(v_:Aj)=>((Pt v_):AV)) v25)))] (.bool v26.1) [(Z1 v26.2.1.Params v26.2.1.Ret v26.2.1.Blocks v26.2.2.1 v26.2.2.2.1 9100005 v26.2.2.2.2.1),(Nk v26.2.2.2.2.1.length),(9100005,.obj (.map true .i64 (mapE (λ(v_:Aj)=>((Pt v_):AV)) v26.2.2.2.2.2)))]:=
 sG Tryz.func120 λΓ q=>An q [0,1,6,7] XQ (gR q [0,1,6,7,10] XQ [(17,(.tuple [(jJ v25 v1),(.bool (B2 v25 v1))]))] [] (c1 (show(AVle (.tuple [mget (.agg [Ld,Ld,Ld,Ld]) (mapE lQ v25) v1,.bool (B2 (mapE lQ v25) v1)]) (.tuple [(jJ v25 v1),(.bool (B2 v25 v1))])) from(Xm (f:=lQ) (l:=v25) (AVle.refl _) rfl))) (tU q [0,1,6,7,28] XQ (c4 (gI ((B2 v25 v1)==false)) (Ux (B2 v25 v1)) (gI ((bif (B2 v25 v1) then true else(decide (v1<1)))==false)) (Ux (bif (B2 v25 v1) then true else(decide (v1<1))))) (gC h (λh=>An q [8] Fh (tS h (Cf U3))) λh=>An q [] Fh (Mr (S4 (λ(k_:List HO) u=>Fx u [] [(bK 9100005 k_)]) (show(Ep (mapE lQ v25) v1 (.agg [(Z6 v19.1),(Z6 v19.2),(Z6 v24.block),(Z6 v24.at_)]))=(mapE lQ (Ep v25 v1 (⟨v19,v24⟩:Aj))) from(Xn (f:=lQ) (l:=v25) (v:=(⟨v19,v24⟩:Aj)) rfl rfl))) (An q [8] Fh (tS h (Cf U3)))))))
def Kw(a1:Bh):Option Gt:=
 ((Lx a1).bind λx1=>(bif (!x1) then(some ((0:Int),(0:Int))) else((K0 a1).bind λx2=>(some (x2.1,x2.2)))))
theorem HF(h:Kw v3=some v19):sP 121 [(So v3)] [] (.tuple [(Z6 v19.1),(Z6 v19.2)]) []:=
 sG Tryz.func121 λΓ q=>An q [1] [1] (tB h λx1 y1 h=>tT q [1,6] [1] [(Z2 x1)] (c1 (Tf y1)) (gC h (λh=>An q T8 [] (tS h (Cf []))) λh=>tB h λx2 y2 h=>tT q T8 [] [⟨[],[],(.tuple [(Z6 x2.1),(Z6 x2.2)]),[],[],[]⟩] (c1 (Vd y2)) (tS h (Cf []))))
set_option maxRecDepth 100000
set_option maxHeartbeats 2000000
abbrev jA:=(Int×Am×Int×List Ag×Int×Am×List A7×List (Int×Aj))
abbrev mo:=(LR (Int×Am×Int×List Ag×Int×Am×List A7×List (Int×Aj)) ((Am×Int×List Ag×Int×Am×List A7×List (Int×Aj)) ⊕ (Bool×Aa×Int×Am×List A7×List (Int×Aj))))
def Cu(aA:Int)(aF:Ag):jA->Option mo:=
 λ((i1,l2,i3,l4,i5,l6,l7,l8):jA)=>(bif (decide (i1<(aF.Phis.length:Int))) then(Ci (Bw i1 aF.Phis.length) ((De ((aF.Phis.getD i1.toNat default).Bits)).bind λx17=>((D9 ((aF.Phis.getD i1.toNat default).Dst) x17 (⟨aA,(-1:Int)⟩:G6) (⟨l2,i3,l4⟩:Aa) i5 l6 l8 l7).bind λx18=>(bif (!x18.1) then(some (.done (.inr (false,x18.2.1,x18.2.2.1,x18.2.2.2.1,x18.2.2.2.2.1,x18.2.2.2.2.2)))) else(some (.next ((Bj (i1+1)),x18.2.1.Params,x18.2.1.Ret,x18.2.1.Blocks,x18.2.2.1,x18.2.2.2.1,x18.2.2.2.2.1,x18.2.2.2.2.2))))))) else(some (.done (.inl (l2,i3,l4,i5,l6,l7,l8)))))
def B1(aA:Int)(aF:Ag):jA->Option mo:=
 λ((i21,l22,i23,l24,i25,l26,l27,l28):jA)=>(bif (decide (i21<(aF.Ops.length:Int))) then(Ci (Bw i21 aF.Ops.length) ((Kw (aF.Ops.getD i21.toNat default)).bind λx37=>((bif ((decide ((0:Int)<x37.1))==true) then D9 ((aF.Ops.getD i21.toNat default).Dst) (x37.1,x37.2) (⟨aA,i21⟩:G6) (⟨l22,i23,l24⟩:Aa) i25 l26 l28 l27 else some (false,(default:Aa),(0:Int),[],[],[])).bind λx38=>(bif (bif (decide ((0:Int)<x37.1)) then(!x38.1) else false) then(some (.done (.inr (false,(⟨(bif ((decide ((0:Int)<x37.1))==true) then x38.2.1.Params else l22),(bif ((decide ((0:Int)<x37.1))==true) then x38.2.1.Ret else i23),(bif ((decide ((0:Int)<x37.1))==true) then x38.2.1.Blocks else l24)⟩:Aa),(bif ((decide ((0:Int)<x37.1))==true) then x38.2.2.1 else i25),(bif ((decide ((0:Int)<x37.1))==true) then x38.2.2.2.1 else l26),(bif ((decide ((0:Int)<x37.1))==true) then x38.2.2.2.2.1 else l27),(bif ((decide ((0:Int)<x37.1))==true) then x38.2.2.2.2.2 else l28))))) else(some (.next ((Bj (i21+1)),(bif ((decide ((0:Int)<x37.1))==true) then x38.2.1.Params else l22),(bif ((decide ((0:Int)<x37.1))==true) then x38.2.1.Ret else i23),(bif ((decide ((0:Int)<x37.1))==true) then x38.2.1.Blocks else l24),(bif ((decide ((0:Int)<x37.1))==true) then x38.2.2.1 else i25),(bif ((decide ((0:Int)<x37.1))==true) then x38.2.2.2.1 else l26),(bif ((decide ((0:Int)<x37.1))==true) then x38.2.2.2.2.1 else l27),(bif ((decide ((0:Int)<x37.1))==true) then x38.2.2.2.2.2 else l28)))))))) else(some (.done (.inl (l22,i23,l24,i25,l26,l27,l28)))))
def Jd(Γ:G1)(aA:Int)(aF:Ag)(a0:Aa)(a4:Int)(a9:Am)(a7:List Jq)(a5:List A7)(r:RE):Exit->St->Prop:=fK Tryz.prog Γ Tryz.f93.results.toList [(Z1 a0.Params a0.Ret a0.Blocks a4 a9 9100005 a5),(Nk a5.length),(9100005,.obj (.map true .i64 (mapE (λ(v_:Aj)=>((Pt v_):AV)) a7)))] (.bool r.1) [(Z1 r.2.1.Params r.2.1.Ret r.2.1.Blocks r.2.2.1 r.2.2.2.1 9100005 r.2.2.2.2.1),(Nk r.2.2.2.2.1.length),(9100005,.obj (.map true .i64 (mapE (λ(v_:Aj)=>((Pt v_):AV)) r.2.2.2.2.2)))]
def RU(x37:Gt):=((decide ((0:Int)<x37.1))==true)
def ft:=(λ(v_:Aj)=>((Pt v_):AV))
def nv(x37:Gt)(x38:RE)(l26:Am):AV:=(nJ (RU x37) x38.2.2.2.1 l26)
def nw(x37:Gt)(x38:RE)(l24:List Ag):AV:=(om (RU x37) x38.2.1.Blocks l24)
def nu(x37:Gt)(x38:RE)(l22:Am):AV:=(nJ (RU x37) x38.2.1.Params l22)
def El(aA:Int)(aF:Ag)(a0:Aa)(a4:Int)(a9:Am)(a7:List Jq)(a5:List A7):Option RE:=
 ((Ah (Cu aA aF) ((0:Int),a0.Params,a0.Ret,a0.Blocks,a4,a9,a5,a7)).bind (λx19=>(match x19 with|(.inl (l9,i10,l11,i12,l13,l14,l15))=>((Ah (B1 aA aF) ((0:Int),l9,i10,l11,i12,l13,l14,l15)).bind (λx39=>(match x39 with|(.inl (l29,i30,l31,i32,l33,l34,l35))=>(some (true,(⟨l29,i30,l31⟩:Aa),i32,l33,l34,l35))|(.inr r41)=>(some r41))))|(.inr r42)=>(some r42))))
theorem Nz(h:El v1 v10 v0 v2 v4 v25 v12=some v26):sP 93 [Yh,(Z6 v1),(.agg (F2 v10))] [(Z1 v0.Params v0.Ret v0.Blocks v2 v4 9100005 v12),(Nk v12.length),(9100005,.obj (.map true .i64 (mapE (λ(v_:Aj)=>((Pt v_):AV)) v25)))] (.bool v26.1) [(Z1 v26.2.1.Params v26.2.1.Ret v26.2.1.Blocks v26.2.2.1 v26.2.2.2.1 9100005 v26.2.2.2.2.1),(Nk v26.2.2.2.2.1.length),(9100005,.obj (.map true .i64 (mapE (λ(v_:Aj)=>((Pt v_):AV)) v26.2.2.2.2.2)))]:=
 sG Tryz.func93 λΓ q=>tW q Yg BJ fE BJ (tL q h fE BJ (λu (i1,l2,i3,l4,i5,l6,l7,l8)=>(Fx u [(16,(Z6 i1))] [(Z1 l2 i3 l4 i5 l6 9100005 l7),(Nk l7.length),(9100005,.obj (.map true .i64 (mapE ft l8)))])) (λu x_=>match x_ with|(.inl (l9,i10,l11,i12,l13,l14,l15))=>aG Γ (.exit 0) (Yj Yg BJ u [] [(Z1 l9 i10 l11 i12 l13 9100005 l14),(Nk l14.length),(9100005,.obj (.map true .i64 (mapE ft l15)))])|(.inr r_)=>aR (Jd Γ v1 v10 v0 v2 v4 v25 v12 r_)) (λ⟨i1,l2,i3,l4,i5,l6,l7,l8⟩ y h=>An q [0,1,5,14,15,16,17] BJ (gC h (λh=>tV q [0,1,5,8,14,15,16] [5,8,30000,37006,9100005] h λh=>tB h λx17 y17 h=>tB h λx18 y18 h=>tT q [0,1,5,14,15,16,29] BJ [⟨[],[],(DC x17),[],[],[]⟩,⟨U3,[],(.bool x18.1),[(Z1 x18.2.1.Params x18.2.1.Ret x18.2.1.Blocks x18.2.2.1 x18.2.2.2.1 9100005 x18.2.2.2.2.1),(Nk x18.2.2.2.2.1.length),(9100005,.obj (.map true .i64 (mapE ft x18.2.2.2.2.2)))],[],[]⟩] (c2 (H0 y17) (Kb y18)) (gC h (λh=>An q [6] Fh (tS h (gO (Su (Kl U3 (Le.refl _ _)))))) λh=>An q fE BJ (tN h))) λh=>tS h (gO (D1 (Dj Yg BJ q))))) λx19 h=>(match x19,h with | .inl ⟨l9,i10,l11,i12,l13,l14,l15⟩,h=>gA (An q fI Fh (tL q h fI Fh (λu (i21,l22,i23,l24,i25,l26,l27,l28)=>(Fx u [(34,(Z6 i21))] [(Z1 l22 i23 l24 i25 l26 9100005 l27),(Nk l27.length),(9100005,.obj (.map true .i64 (mapE ft l28)))])) (λu x_=>match x_ with|(.inl (l29,i30,l31,i32,l33,l34,l35))=>aG Γ (.exit 2) (⟨[],[(Z1 l29 i30 l31 i32 l33 9100005 l34),(Nk l34.length),(9100005,.obj (.map true .i64 (mapE ft l35)))],[]⟩:St)|(.inr r_)=>aR (Jd Γ v1 v10 v0 v2 v4 v25 v12 r_)) (λ⟨i21,l22,i23,l24,i25,l26,l27,l28⟩ y h=>An q [0,1,32,33,34,35] Fh (gC h (λh=>tV q [0,1,9,10,32,33,34] jy h λh=>tB h λx37 y37 h=>tT q [0,1,9,10,11,12,32,33,34] jy [⟨[],[],(.tuple [(Z6 x37.1),(Z6 x37.2)]),[],[],[]⟩] (c1 (HF y37)) (tB h λx38 y38 h=>tT q [0,1,32,33,34,58] Fh [⟨U3,[],(.bool x38.1),[(Z1 x38.2.1.Params x38.2.1.Ret x38.2.1.Blocks x38.2.2.1 x38.2.2.2.1 9100005 x38.2.2.2.2.1),(Nk x38.2.2.2.2.1.length),(9100005,.obj (.map true .i64 (mapE ft x38.2.2.2.2.2)))],[],[]⟩] (pG (RU x37) (c3 (λ(hg:(RU x37)=true)=>(Kb (Bt hg y38))) (gI (RU x37)) (Lq (decide ((0:Int)<x37.1))))) (Mr (Le.trans (S4 (λ(k_:List HO) u=>Fx u [] [(bK 9100005 k_)]) (show(bif (RU x37) then(mapE ft x38.2.2.2.2.2) else(mapE ft l28))=(mapE ft (bif (RU x37) then x38.2.2.2.2.2 else l28)) from(cF rfl rfl))) (Le.trans (oF (λg_ u=>(Fx u [] [(30000,.row 110 [(nu x37 x38 l22),(jL (RU x37) x38.2.1.Ret i23),(nw x37 x38 l24),(jL (RU x37) x38.2.2.1 i25),(nv x37 x38 l26),(.omap 9100005),(nz g_ x38.2.2.2.2.1 l27)]),(37006,.tok 5 158 (bif g_ then x38.2.2.2.2.1.length else l27.length))])) (λg_ u=>(Fx u [] [(30000,.row 110 [(nu x37 x38 l22),(jL (RU x37) x38.2.1.Ret i23),(nw x37 x38 l24),(jL (RU x37) x38.2.2.1 i25),(nv x37 x38 l26),(.omap 9100005),(AV.list 5 Jm default (bif g_ then x38.2.2.2.2.1 else l27) (.own 37006))]),(37006,.tok 5 158 ((bif g_ then x38.2.2.2.2.1 else l27).length))])) (RU x37)) (Le.trans (hZ 30000 0 (show AVle (nu x37 x38 l22) (AV.list 1 Aq 0 (bif (RU x37) then x38.2.1.Params else l22) .none) from Gf)) (Le.trans (hZ 30000 2 (show AVle (nw x37 x38 l24) (AV.list 5 F2 default (bif (RU x37) then x38.2.1.Blocks else l24) .none) from Gf)) (hZ 30000 4 (show AVle (nv x37 x38 l26) (AV.list 1 Aq 0 (bif (RU x37) then x38.2.2.2.1 else l26) .none) from Gf)))))) (gC h (λh=>An q [6] Fh (tS h (gO (Su (Kl U3 (Le.refl _ _)))))) λh=>An q fI Fh (tN h))))) λh=>tS h (gO (D1 (Dj [] Fh q))))) λx39 h=>(match x39,h with | .inl ⟨l29,i30,l31,i32,l33,l34,l35⟩,h=>gA (An q [6] Fh (tS h (Cf U3))) | .inr r41,h=>Xa (λst' hk=>tS h (gK hk))))) | .inr r42,h=>Xa (λst' hk=>tS h (gK hk))))
abbrev mq:=(Int×List (Int×Aj))
def Ea(a0:Aa):mq->Option (LR (Int×List (Int×Aj)) (List (Int×Aj))):=
 λ((i1,l2):mq)=>(bif (decide (i1<(a0.Params.length:Int))) then(Ci (Bw i1 a0.Params.length) ((De (a0.Params.getD i1.toNat 0)).bind λx5=>(some (.next ((Bj (i1+1)),(Ep l2 (Bj (i1+1)) (⟨x5,(⟨(0:Int),(-1:Int)⟩:G6)⟩:Aj))))))) else(some (.done l2)))
abbrev mr:=(Int×List (Int×Aj)×Am×Int×List Ag×Int×Am×List A7)
def Dd(a0:Aa):mr->Option (LR (Int×List (Int×Aj)×Am×Int×List Ag×Int×Am×List A7) ((List (Int×Aj)×Am×Int×List Ag×Int×Am×List A7) ⊕ (Int×Aa×Int×Am×List A7×List (Int×Aj)))):=
 λ((i8,l9,l10,i11,l12,i13,l14,l15):mr)=>(bif (decide (i8<(a0.Blocks.length:Int))) then(Ci (Bw i8 a0.Blocks.length) ((El i8 (a0.Blocks.getD i8.toNat default) (⟨l10,i11,l12⟩:Aa) i13 l14 l9 l15).bind λx24=>(bif (!x24.1) then(some (.done (.inr ((7:Int),x24.2.1,x24.2.2.1,x24.2.2.2.1,x24.2.2.2.2.1,x24.2.2.2.2.2)))) else(some (.next ((Bj (i8+1)),x24.2.2.2.2.2,x24.2.1.Params,x24.2.1.Ret,x24.2.1.Blocks,x24.2.2.1,x24.2.2.2.1,x24.2.2.2.2.1)))))) else(some (.done (.inl (l9,l10,i11,l12,i13,l14,l15)))))
abbrev UZ:=(Int×Aa×Int×Am×List A7×List (Int×Aj))
def Pu(Γ:G1)(a0:Aa)(a4:Int)(a9:Am)(a5:List A7)(r:UZ):Exit->St->Prop:=fK Tryz.prog Γ Tryz.f74.results.toList (Z3 a0.Params a0.Ret a0.Blocks a4 a9 a5 a5.length) (Z6 r.1) [(Z1 r.2.1.Params r.2.1.Ret r.2.1.Blocks r.2.2.1 r.2.2.2.1 9200005 r.2.2.2.2.1),(Nk r.2.2.2.2.1.length),(9200005,.obj (.map false .i64 (mapE (λ(v_:Aj)=>((Pt v_):AV)) r.2.2.2.2.2)))]
def VS:=(λ(v_:Aj)=>((Pt v_):AV))
def oa(l16:List Jq)(l17:Am)(i18:Int)(l19:List Ag)(i20:Int)(l21:Am)(l22:List A7):List RY:=[(8,.obj (.map true .i64 (mapE VS l16))),(mE l17 i18 l19 i20 l21 l22),(Nk l22.length)]
def E5(a0:Aa)(a4:Int)(a9:Am)(a5:List A7):Option UZ:=
 ((Ah (Ea a0) ((0:Int),([]:List Jq))).bind (λx6=>((Ah (Dd a0) ((0:Int),x6,a0.Params,a0.Ret,a0.Blocks,a4,a9,a5)).bind (λx25=>(match x25 with|(.inl (l16,l17,i18,l19,i20,l21,l22))=>(some ((0:Int),(⟨l17,i18,l19⟩:Aa),i20,l21,l22,l16))|(.inr r27)=>(some r27))))))
variable{v27:UZ}
theorem Pi(h:E5 v0 v1 v4 v12=some v27):sP 74 [Yh] (Z3 v0.Params v0.Ret v0.Blocks v1 v4 v12 v12.length) (Z6 v27.1) [(Z1 v27.2.1.Params v27.2.1.Ret v27.2.1.Blocks v27.2.2.1 v27.2.2.2.1 9200005 v27.2.2.2.2.1),(Nk v27.2.2.2.2.1.length),(9200005,.obj (.map false .i64 (mapE (λ(v_:Aj)=>((Pt v_):AV)) v27.2.2.2.2.2)))]:=
 sG Tryz.func74 λΓ q=>tW q [0] Fk [0] Lc (Mr (S4 (λ(k_:List HO) u=>Fx u [] [(8,.obj (.map true .i64 k_))]) (show[]=(mapE VS ([]:List Jq)) from rfl)) (An q XV Lc (tL q h XV Lc (λu (i1,l2)=>(Fx u [(17,(Z6 i1))] [(8,.obj (.map true .i64 (mapE VS l2)))])) (λu l3=>aG Γ (.exit 0) (Yj [0] Lc u [] [(8,.obj (.map true .i64 (mapE VS l3)))])) (λ⟨i1,l2⟩ y h=>An q [0,15,16,17,18] Lc (gC h (λh=>tV q [0,3,4,15,16,17] Lc h λh=>tB h λx5 y5 h=>tT q XV Lc [⟨[],[],(DC x5),[],[],[]⟩] (c1 (H0 y5)) (Mr (S4 (λ(k_:List HO) u=>Fx u [] [(8,.obj (.map true .i64 k_))]) (show(Ep (mapE VS l2) (Bj (i1+1)) (.agg [(Z6 x5.1),(Z6 x5.2),Ld,(.int .i64 (-1:Int))]))=(mapE VS (Ep l2 (Bj (i1+1)) (⟨x5,(⟨(0:Int),(-1:Int)⟩:G6)⟩:Aj))) from(Xn (f:=VS) (l:=l2) (v:=(⟨x5,(⟨(0:Int),(-1:Int)⟩:G6)⟩:Aj)) rfl rfl))) (An q XV Lc (tN h)))) λh=>tS h (gO (D1 (Dj [0] Lc q))))) λx6 h=>gA (An q VK Lc (tL q h VK Lc (λu (i8,l9,l10,i11,l12,i13,l14,l15)=>(Fx u [(39,(Z6 i8))] [(8,.obj (.map true .i64 (mapE VS l9))),(mE l10 i11 l12 i13 l14 l15),(Nk l15.length)])) (λu x_=>match x_ with|(.inl (l16,l17,i18,l19,i20,l21,l22))=>aG Γ (.exit 2) (⟨[],(oa l16 l17 i18 l19 i20 l21 l22),[]⟩:St)|(.inr r_)=>aR (Pu Γ v0 v1 v4 v12 r_)) (λ⟨i8,l9,l10,i11,l12,i13,l14,l15⟩ y h=>An q [0,37,38,39,40] Lc (gC h (λh=>tV q [0,5,6,37,38,39] [6,8,30000,37006] h λh=>tB h λx24 y24 h=>tT q [0,37,38,39,48] Lc [⟨[(30000,30000),(37006,37006),(8,9100005)],[],(.bool x24.1),[(Z1 x24.2.1.Params x24.2.1.Ret x24.2.1.Blocks x24.2.2.1 x24.2.2.2.1 9100005 x24.2.2.2.2.1),(Nk x24.2.2.2.2.1.length),(9100005,.obj (.map true .i64 (mapE VS x24.2.2.2.2.2)))],[],[]⟩] (c1 (Nz y24)) (gC h (λh=>An q [2] Lc (Rx (⟨[(2,(.int .i64 (7:Int)))],[(8,.obj (.map true .i64 (mapE VS x24.2.2.2.2.2))),(mE x24.2.1.Params x24.2.1.Ret x24.2.1.Blocks x24.2.2.1 x24.2.2.2.1 x24.2.2.2.2.1),(Nk x24.2.2.2.2.1.length)],[]⟩:St) (tS h (gO (Su (Kl jr (Le.trans (LQ (nm:=8) (.map false .i64 (mapE VS x24.2.2.2.2.2)) rfl (λ_ _ _ _ h_=>PN h_)) (Dj (st':=⟨[(2,(.int .i64 (7:Int)))],[(8,.obj (.map false .i64 (mapE VS x24.2.2.2.2.2))),(mE x24.2.1.Params x24.2.1.Ret x24.2.1.Blocks x24.2.2.1 x24.2.2.2.1 x24.2.2.2.2.1),(Nk x24.2.2.2.2.1.length)],[]⟩) [2] Lc q)))))))) λh=>An q VK Lc (tN h))) λh=>tS h (gO (D1 (Dj [] Lc q))))) λx25 h=>(match x25,h with | .inl ⟨l16,l17,i18,l19,i20,l21,l22⟩,h=>gA (An q [2] Lc (Rx (⟨[(2,Ld)],(oa l16 l17 i18 l19 i20 l21 l22),[]⟩:St) (tS h (gK (e:=.ret) (Kl jr (Le.trans (LQ (nm:=8) (.map false .i64 (mapE VS l16)) rfl (λ_ _ _ _ h_=>PN h_)) (Dj (st':=⟨[(2,Ld)],[(8,.obj (.map false .i64 (mapE VS l16))),(mE l17 i18 l19 i20 l21 l22),(Nk l22.length)],[]⟩) [2] Lc q))))))) | .inr r27,h=>Xa (λst' hk=>tS h (gK hk))))))))
abbrev mu:=(G6×Aa×Int×Am×List A7)
def Ei(aA:Int)(a0:Aa)(a4:Int)(a9:Am)(a7:List Jq)(a5:List A7):Option mu:=
 (Ci (Bw aA a0.Blocks.length) (some ((⟨aA,(((a0.Blocks.getD aA.toNat default).Ops).length:Int)⟩:G6),a0,a4,a9,a5)))
variable{v28:mu}
theorem Iq(h:Ei v1 v0 v2 v4 v25 v12=some v28):sP 123 [Yh,(Z6 v1)] [(Z1 v0.Params v0.Ret v0.Blocks v2 v4 9100005 v12),(Nk v12.length),(9100005,.obj (.map false .i64 (mapE (λ(v_:Aj)=>((Pt v_):AV)) v25)))] (.agg (CJ v28.1)) [(Z1 v28.2.1.Params v28.2.1.Ret v28.2.1.Blocks v28.2.2.1 v28.2.2.2.1 9100005 v28.2.2.2.2),(Nk v28.2.2.2.2.length),(9100005,.obj (.map false .i64 (mapE (λ(v_:Aj)=>((Pt v_):AV)) v25)))]:=
 sG Tryz.func123 λΓ q=>An q [0,1,4] ek (tV q [4] ek h λh=>tS h (Cf U3))
abbrev jB:=(Aa×Int×Am×List A7)
def Dm(a8:Int)(aX:Gt)(aK:G6)(a0:Aa)(a4:Int)(a9:Am)(a7:List Jq)(a5:List A7):Option jB:=
 (Ci (a5.length+([(⟨a8,aX,aK⟩:A7)]:List A7).length<=room) (some (a0,a4,a9,(a5++([(⟨a8,aX,aK⟩:A7)]:List A7)))))
variable{v29:jB}
theorem Gr(h:Dm v1 v19 v24 v0 v2 v4 v25 v12=some v29):sP 122 [Yh,(Z6 v1),(DC v19),(.agg (CJ v24))] [(Z1 v0.Params v0.Ret v0.Blocks v2 v4 9100005 v12),(Nk v12.length),(9100005,.obj (.map false .i64 (mapE (λ(v_:Aj)=>((Pt v_):AV)) v25)))] (.tuple []) [(Z1 v29.1.Params v29.1.Ret v29.1.Blocks v29.2.1 v29.2.2.1 9100005 v29.2.2.2),(Nk v29.2.2.2.length),(9100005,.obj (.map false .i64 (mapE (λ(v_:Aj)=>((Pt v_):AV)) v25)))]:=
 sG Tryz.func122 λΓ q=>An q [0,1,6,7] XQ (tC h λc1_ h=>gR q [] Fh [(17,(AV.list 5 Jm default ([(⟨v1,v19,v24⟩:A7)]:List A7) .exact)),(18,(AV.list 5 Jm default (v12++([(⟨v1,v19,v24⟩:A7)]:List A7)) (.own 37006)))] [] (c5 (Bm 5 Jm (default:A7) ([(⟨v1,v19,v24⟩:A7)]:List A7)) (Eq.refl v12.length) c1_ (Ub 5 37006 Jm (default:A7) v12 ([(⟨v1,v19,v24⟩:A7)]:List A7)) (H8 v12 ([(⟨v1,v19,v24⟩:A7)]:List A7))) (tS h (gK (e:=.normal) (Kl U3 (Le.refl _ _)))))
def nH:List jq:=[(2,nK)]
def Kx(a1:Bh):Option i0:=
 ((Lx a1).bind λx1=>(bif (!x1) then(some ([]:List Gt)) else((K2 a1).bind λx2=>(some x2))))
theorem HH(h:Kx v3=some v21):sP 124 [(So v3)] [] (Z8 v21) []:=
 sG Tryz.func124 λΓ q=>gR q [1] [1] nH [] (c1 (G3 2 Bu ((0:Int),(0:Int)))) (tB h λx1 y1 h=>tT q [1,5] [1] [(Z2 x1)] (c1 (Tf y1)) (gC h (λh=>gR q [2] [] nH [] (c1 (G3 2 Bu ((0:Int),(0:Int)))) (Rx (⟨nH,[],[]⟩:St) (tS h (gK (e:=.ret) (Kl [] (show Le Γ _ (⟨[(2,(AV.list 2 Bu ((0:Int),(0:Int)) ([]:List Gt) .none))],[],[]⟩:St) from Le.trans (Dj (st':=⟨nH,[],[]⟩) [2] [] q) (Jf (.cons AVle.untag .nil) .nil))))))) λh=>tB h λx2 y2 h=>tT q [2] [] [(YF x2)] (c1 (Ve y2)) (tS h (Cf []))))
abbrev ee:=(LR (Int×Am×Int×List Ag×Int×Am×List A7) (Am×Int×List Ag×Int×Am×List A7))
def C8(a0:Aa)(a7:List Jq)(i1:Int)(i21:Int):M1->Option ee:=
 λ((i35,l36,i37,l38,i39,l40,l41):M1)=>(bif (decide (i35<(((((a0.Blocks.getD i1.toNat default).Phis).getD i21.toNat default).Args).length:Int))) then(Ci (Bw i35 ((((a0.Blocks.getD i1.toNat default).Phis).getD i21.toNat default).Args).length) ((De ((((a0.Blocks.getD i1.toNat default).Phis).getD i21.toNat default).Bits)).bind λx49=>(Ci (Bw i35 ((((a0.Blocks.getD i1.toNat default).Phis).getD i21.toNat default).From).length) ((Ei (((((a0.Blocks.getD i1.toNat default).Phis).getD i21.toNat default).From).getD i35.toNat 0) (⟨l36,i37,l38⟩:Aa) i39 l40 a7 l41).bind λx51=>((Dm (((((a0.Blocks.getD i1.toNat default).Phis).getD i21.toNat default).Args).getD i35.toNat 0) x49 x51.1 x51.2.1 x51.2.2.1 x51.2.2.2.1 a7 x51.2.2.2.2).bind λx52=>(some (.next ((Bj (i35+1)),x52.1.Params,x52.1.Ret,x52.1.Blocks,x52.2.1,x52.2.2.1,x52.2.2.2)))))))) else(some (.done (l36,i37,l38,i39,l40,l41))))
def C9(a0:Aa)(a7:List Jq)(i1:Int):M1->Option ee:=
 λ((i21,l22,i23,l24,i25,l26,l27):M1)=>(bif (decide (i21<(((a0.Blocks.getD i1.toNat default).Phis).length:Int))) then(Ci (Bw i21 ((a0.Blocks.getD i1.toNat default).Phis).length) ((Ah (C8 a0 a7 i1 i21) ((0:Int),l22,i23,l24,i25,l26,l27)).bind (λ(l42,i43,l44,i45,l46,l47)=>(some (.next ((Bj (i21+1)),l42,i43,l44,i45,l46,l47)))))) else(some (.done (l22,i23,l24,i25,l26,l27))))
def Da(a0:Aa)(a7:List Jq)(i1:Int)(i57:Int)(x71:List RD):M1->Option ee:=
 λ((i72,l73,i74,l75,i76,l77,l78):M1)=>(bif (decide (i72<(x71.length:Int))) then(Ci (Bw i72 x71.length) (Ci (Bw i72 ((((a0.Blocks.getD i1.toNat default).Ops).getD i57.toNat default).Args).length) ((Dm (((((a0.Blocks.getD i1.toNat default).Ops).getD i57.toNat default).Args).getD i72.toNat 0) (x71.getD i72.toNat ((0:Int),(0:Int))) (⟨i1,i57⟩:G6) (⟨l73,i74,l75⟩:Aa) i76 l77 a7 l78).bind λx87=>(some (.next ((Bj (i72+1)),x87.1.Params,x87.1.Ret,x87.1.Blocks,x87.2.1,x87.2.2.1,x87.2.2.2)))))) else(some (.done (l73,i74,l75,i76,l77,l78))))
def Db(a0:Aa)(a7:List Jq)(i1:Int):M1->Option ee:=
 λ((i57,l58,i59,l60,i61,l62,l63):M1)=>(bif (decide (i57<(((a0.Blocks.getD i1.toNat default).Ops).length:Int))) then(Ci (Bw i57 ((a0.Blocks.getD i1.toNat default).Ops).length) ((Kx (((a0.Blocks.getD i1.toNat default).Ops).getD i57.toNat default)).bind λx71=>((Ah (Da a0 a7 i1 i57 x71) ((0:Int),l58,i59,l60,i61,l62,l63)).bind (λ(l79,i80,l81,i82,l83,l84)=>(some (.next ((Bj (i57+1)),l79,i80,l81,i82,l83,l84))))))) else(some (.done (l58,i59,l60,i61,l62,l63))))
def Dc(a0:Aa)(a7:List Jq):M1->Option ee:=
 λ((i1,l2,i3,l4,i5,l6,l7):M1)=>(bif (decide (i1<(a0.Blocks.length:Int))) then(Option.bind (α:=(Am×Int×List Ag×Int×Am×List A7)) (Ci (Bw i1 a0.Blocks.length) ((Ah (C9 a0 a7 i1) ((0:Int),l2,i3,l4,i5,l6,l7)).bind (λx55=>(match x55 with|(l28,i29,l30,i31,l32,l33)=>((Ah (Db a0 a7 i1) ((0:Int),l28,i29,l30,i31,l32,l33)).bind (λx90=>(match x90 with|(l64,i65,l66,i67,l68,l69)=>(bif (((a0.Blocks.getD i1.toNat default).End.Kind:Int)==0) then((De i65).bind λx92=>((Ei i1 (⟨l64,i65,l66⟩:Aa) i67 l68 a7 l69).bind λx93=>((Dm ((a0.Blocks.getD i1.toNat default).End.Arg) x92 x93.1 x93.2.1 x93.2.2.1 x93.2.2.2.1 a7 x93.2.2.2.2).bind λx94=>(some (x94.1.Params,x94.1.Ret,x94.1.Blocks,x94.2.1,x94.2.2.1,x94.2.2.2))))) else(bif (((a0.Blocks.getD i1.toNat default).End.Kind:Int)==2) then((De (1:Int)).bind λx95=>((Ei i1 (⟨l64,i65,l66⟩:Aa) i67 l68 a7 l69).bind λx96=>((Dm ((a0.Blocks.getD i1.toNat default).End.Arg) x95 x96.1 x96.2.1 x96.2.2.1 x96.2.2.2.1 a7 x96.2.2.2.2).bind λx97=>(some (x97.1.Params,x97.1.Ret,x97.1.Blocks,x97.2.1,x97.2.2.1,x97.2.2.2))))) else(some (l64,i65,l66,i67,l68,l69))))))))))) (λx98=>(match x98 with|(l14,i15,l16,i17,l18,l19)=>(some (.next ((Bj (i1+1)),l14,i15,l16,i17,l18,l19)))))) else(some (.done (l2,i3,l4,i5,l6,l7))))
def pN(a0:Aa)(i1:Int):=(a0.Blocks.getD i1.toNat default)
def jH(a7:List Jq):=(mapE (λ(v_:Aj)=>((Pt v_):AV)) a7)
def E4(a0:Aa)(a4:Int)(a9:Am)(a7:List Jq)(a5:List A7):Option jB:=
 ((Ah (Dc a0 a7) ((0:Int),a0.Params,a0.Ret,a0.Blocks,a4,a9,a5)).bind (λ(l8,i9,l10,i11,l12,l13)=>(some ((⟨l8,i9,l10⟩:Aa),i11,l12,l13))))
theorem Ph(h:E4 v0 v1 v4 v25 v12=some v29):sP 94 [Yh] [(Z1 v0.Params v0.Ret v0.Blocks v1 v4 9100005 v12),(Nk v12.length),(9100005,.obj (.map false .i64 (mapE (λ(v_:Aj)=>((Pt v_):AV)) v25)))] (.tuple []) [(Z1 v29.1.Params v29.1.Ret v29.1.Blocks v29.2.1 v29.2.2.1 9100005 v29.2.2.2),(Nk v29.2.2.2.length),(9100005,.obj (.map false .i64 (mapE (λ(v_:Aj)=>((Pt v_):AV)) v25)))]:=
 sG Tryz.func94 λΓ q=>An q KG Fh (tL q h KG Fh (λu (i1,l2,i3,l4,i5,l6,l7)=>(Fx u [(18,(Z6 i1))] (KU l2 i3 l4 i5 l6 l7 l7.length))) (λu (l8,i9,l10,i11,l12,l13)=>aG Γ (.exit 0) (Yj [] Fh u [] (KU l8 i9 l10 i11 l12 l13 l13.length))) (λ⟨i1,l2,i3,l4,i5,l6,l7⟩ y h=>An q [0,16,17,18,19] Fh (gC h (λh=>tB h λx98 y98 h=>gJ y98 (λ(l14,i15,l16,i17,l18,l19)=>aG Γ .normal (⟨[(0,Yh),(16,(KT v0.Blocks)),(17,(AB v0.Blocks.length)),(18,(Z6 i1))],(mF l14 i15 l16 i17 l18 9100005 l19 l19.length (jH v25)),[]⟩:St)) (λy h=>tV q RK M3 h λh=>An q RH M3 (tL q h RH M3 (λu (i21,l22,i23,l24,i25,l26,l27)=>(Fx u [(26,(Z6 i21))] (KU l22 i23 l24 i25 l26 l27 l27.length))) (λu (l28,i29,l30,i31,l32,l33)=>aG Γ (.exit 2) (Yj RK M3 u [] (KU l28 i29 l30 i31 l32 l33 l33.length))) (λ⟨i21,l22,i23,l24,i25,l26,l27⟩ y h=>An q [0,2,3,16,17,18,24,25,26,27] M3 (gC h (λh=>tV q [0,2,3,5,16,17,18,24,25,26] Yc h λh=>An q XM Yc (tL q h XM Yc (λu (i35,l36,i37,l38,i39,l40,l41)=>(Fx u [(33,(Z6 i35))] (KU l36 i37 l38 i39 l40 l41 l41.length))) (λu (l42,i43,l44,i45,l46,l47)=>aG Γ (.exit 4) (Yj RH M3 u [] (KU l42 i43 l44 i45 l46 l47 l47.length))) (λ⟨i35,l36,i37,l38,i39,l40,l41⟩ y h=>An q [0,2,3,5,16,17,18,24,25,26,31,32,33,34] Yc (gC h (λh=>tV q [0,2,3,5,6,7,16,17,18,24,25,26,31,32,33] Yc h λh=>tB h λx49 y49 h=>tC h λc50_ h=>tB h λx51 y51 h=>tB h λx52 y52 h=>tT q XM Yc [⟨[],[],(DC x49),[],[],[]⟩,(n7 x51.1 x51.2.1.Params x51.2.1.Ret x51.2.1.Blocks x51.2.2.1 x51.2.2.2.1 x51.2.2.2.2 x51.2.2.2.2.length (jH v25)),(mD x52.1.Params x52.1.Ret x52.1.Blocks x52.2.1 x52.2.2.1 x52.2.2.2 x52.2.2.2.length (jH v25))] (c4 (H0 y49) c50_ (Iq y51) (Gr y52)) (An q XM Yc (tN h))) λh=>tS h (gO (D1 (Dj RH M3 q))))) λx53 h=>(match x53,h with|⟨l42,i43,l44,i45,l46,l47⟩,h=>gA (An q RH M3 (tN h))))) λh=>tS h (gO (D1 (Dj RK M3 q))))) λx55 h=>(match x55,h with|⟨l28,i29,l30,i31,l32,l33⟩,h=>gA (An q RI M3 (tL q h RI M3 (λu (i57,l58,i59,l60,i61,l62,l63)=>(Fx u [(56,(Z6 i57))] (KU l58 i59 l60 i61 l62 l63 l63.length))) (λu (l64,i65,l66,i67,l68,l69)=>aG Γ (.exit 6) (Yj RK M3 u [] (KU l64 i65 l66 i67 l68 l69 l69.length))) (λ⟨i57,l58,i59,l60,i61,l62,l63⟩ y h=>An q [0,2,3,16,17,18,54,55,56,57] M3 (gC h (λh=>tV q [0,2,3,8,9,16,17,18,54,55,56] KB h λh=>tB h λx71 y71 h=>tT q XL KB [(YF x71)] (c1 (HH y71)) (tL q h XL KB (λu (i72,l73,i74,l75,i76,l77,l78)=>(Fx u [(64,(Z6 i72))] (KU l73 i74 l75 i76 l77 l78 l78.length))) (λu (l79,i80,l81,i82,l83,l84)=>aG Γ (.exit 8) (Yj RI M3 u [] (KU l79 i80 l81 i82 l83 l84 l84.length))) (λ⟨i72,l73,i74,l75,i76,l77,l78⟩ y h=>An q [0,2,3,8,9,16,17,18,54,55,56,62,63,64,65] KB (gC h (λh=>tV q [0,2,3,8,9,10,11,16,17,18,54,55,56,62,63,64] [3,9,11,30000,37006,9100005] h λh=>tC h λc86_ h=>tB h λx87 y87 h=>tT q XL KB [(mD x87.1.Params x87.1.Ret x87.1.Blocks x87.2.1 x87.2.2.1 x87.2.2.2 x87.2.2.2.length (jH v25))] (c2 c86_ (Gr y87)) (An q XL KB (tN h))) λh=>tS h (gO (D1 (Dj RI M3 q))))) λx88 h=>(match x88,h with|⟨l79,i80,l81,i82,l83,l84⟩,h=>gA (An q RI M3 (tN h))))) λh=>tS h (gO (D1 (Dj RK M3 q))))) λx90 h=>(match x90,h with|⟨l64,i65,l66,i67,l68,l69⟩,h=>gA (tW q [0,2,3,16,17,18,84] M3 [0,2,3,16,17,18,84,85] M3 (gC h (λh=>tB h λx92 y92 h=>tB h λx93 y93 h=>tB h λx94 y94 h=>tT q KG Fh [⟨[],[],(DC x92),[],[],[]⟩,(n7 x93.1 x93.2.1.Params x93.2.1.Ret x93.2.1.Blocks x93.2.2.1 x93.2.2.2.1 x93.2.2.2.2 x93.2.2.2.2.length (jH v25)),(mD x94.1.Params x94.1.Ret x94.1.Blocks x94.2.1 x94.2.2.1 x94.2.2.2 x94.2.2.2.length (jH v25))] (c3 (H0 y92) (Iq y93) (Gr y94)) (tS h (gK (D1 Mo)))) λh=>An q [0,2,3,16,17,18,101] M3 (gC h (λh=>tB h λx95 y95 h=>tB h λx96 y96 h=>tB h λx97 y97 h=>tT q KG Fh [⟨[],[],(DC x95),[],[],[]⟩,(n7 x96.1 x96.2.1.Params x96.2.1.Ret x96.2.1.Blocks x96.2.2.1 x96.2.2.2.1 x96.2.2.2.2 x96.2.2.2.2.length (jH v25)),(mD x97.1.Params x97.1.Ret x97.1.Blocks x97.2.1 x97.2.2.1 x97.2.2.2 x97.2.2.2.length (jH v25))] (c3 (H0 y95) (Iq y96) (Gr y97)) (tS h (gK (D1 Mo)))) λh=>tS h (gK (D1 (Dj KG Fh q)))))))))))) (match x98,h with|⟨l14,i15,l16,i17,l18,l19⟩,h=>gA (An q KG Fh (tN h)))) λh=>tS h (gO (D1 (Dj [] Fh q))))) λx100 h=>(match x100,h with|⟨l8,i9,l10,i11,l12,l13⟩,h=>jW (λst' hl101=>tS h (gK (e:=.normal) (Kl U3 hl101)))))
def Ha(aM:A7)(a0:Aa)(a4:Int)(a9:Am)(a7:List Jq)(a5:List A7):Option Tw:=
 (some ((B2 a7 aM.v),a0,a4,a9,a5))
variable{v30:A7}
theorem Pk(h:Ha v30 v0 v1 v4 v25 v12=some v23):sP 95 [Yh,(.agg (Jm v30))] [(Z1 v0.Params v0.Ret v0.Blocks v1 v4 9100005 v12),(Nk v12.length),(9100005,.obj (.map false .i64 (mapE (λ(v_:Aj)=>((Pt v_):AV)) v25)))] (.bool v23.1) [(Z1 v23.2.1.Params v23.2.1.Ret v23.2.1.Blocks v23.2.2.1 v23.2.2.2.1 9100005 v23.2.2.2.2),(Nk v23.2.2.2.2.length),(9100005,.obj (.map false .i64 (mapE (λ(v_:Aj)=>((Pt v_):AV)) v25)))]:=
 sG Tryz.func95 λΓ q=>An q V0 M3 (gR q [6] Fh [(14,(.tuple [(jJ v25 v30.v),(.bool (B2 v25 v30.v))]))] [] (c1 (show(AVle (.tuple [mget (.agg [Ld,Ld,Ld,Ld]) (mapE (λ(v_:Aj)=>((Pt v_):AV)) v25) v30.v,.bool (B2 (mapE (λ(v_:Aj)=>((Pt v_):AV)) v25) v30.v)]) (.tuple [(jJ v25 v30.v),(.bool (B2 v25 v30.v))])) from(Xm (f:=(λ(v_:Aj)=>((Pt v_):AV))) (l:=v25) (AVle.refl _) rfl))) (An q [4] Fh (tS h (Cf U3))))
def Ik(aM:A7)(a0:Aa)(a4:Int)(a9:Am)(a7:List Jq)(a5:List A7):Option Tw:=
 (some (((((mget (default:Aj) a7 aM.v).shape.1:Int)==aM.shape.1)&&((((mget (default:Aj) a7 aM.v).shape.2:Int)==aM.shape.2)&&true)),a0,a4,a9,a5))
theorem Sg(h:Ik v30 v0 v1 v4 v25 v12=some v23):sP 96 [Yh,(.agg (Jm v30))] [(Z1 v0.Params v0.Ret v0.Blocks v1 v4 9100005 v12),(Nk v12.length),(9100005,.obj (.map false .i64 (mapE (λ(v_:Aj)=>((Pt v_):AV)) v25)))] (.bool v23.1) [(Z1 v23.2.1.Params v23.2.1.Ret v23.2.1.Blocks v23.2.2.1 v23.2.2.2.1 9100005 v23.2.2.2.2),(Nk v23.2.2.2.2.length),(9100005,.obj (.map false .i64 (mapE (λ(v_:Aj)=>((Pt v_):AV)) v25)))]:=
 sG Tryz.func96 λΓ q=>An q V0 M3 (gR q [4] Fh [(11,(jJ v25 v30.v))] [] (c1 (show(AVle (mget (.agg [Ld,Ld,Ld,Ld]) (mapE (λ(v_:Aj)=>((Pt v_):AV)) v25) v30.v) (jJ v25 v30.v)) from(CO (f:=(λ(v_:Aj)=>((Pt v_):AV))) (l:=v25) (AVle.refl _) rfl))) (tS h (Cf U3)))
def Bz(aY:Am)(a8:Int):Int->Option (LR Int (Unit ⊕ Int)):=
 λ(i1:Int)=>(bif (decide (i1<(aY.length:Int))) then(Ci (Bw i1 aY.length) (bif (a8==(aY.getD i1.toNat 0)) then(some (.done (.inr i1))) else(some (.next (Bj (i1+1)))))) else(some (.done (.inl ()))))
def Qg(Γ:G1)(aY:Am)(a8:Int)(r:Int):Exit->St->Prop:=fK Tryz.prog Γ Tryz.f174.results.toList [] (.int .i64 r) []
def Eg(aY:Am)(a8:Int):Option Int:=
 ((Ah (Bz aY a8) (0:Int)).bind (λx3=>(match x3 with|(.inl _)=>(some (-1:Int))|(.inr r5)=>(some r5))))
theorem P3(h:Eg v4 v1=some v2):sP 174 [(Z7 v4),(Z6 v1)] [] (.int .i64 v2) []:=
 sG Tryz.func174 λΓ q=>tW q Gv [] [0,1,7,8] [] (tL q h [0,1,7,8] [] (λu i1=>(Fx u [(8,(Z6 i1))] [])) (λu x_=>match x_ with|(.inl _)=>aG Γ (.exit 0) (⟨[],[],[]⟩:St)|(.inr r_)=>aR (Qg Γ v4 v1 r_)) (λi1 y h=>An q [0,1,7,8,9] [] (gC h (λh=>An q [0,1,5,7,8] [] (tV q [0,1,5,7,8,16] [] h λh=>gC h (λh=>An q [4] [] (tS h (gO (Su (Kl [] (Le.refl _ _)))))) λh=>An q [0,1,7,8] [] (tN h))) λh=>tS h (gO (D1 (Dj [] [] q))))) λx3 h=>(match x3,h with | .inl _,h=>gA (An q [4] [] (tS h (Cf []))) | .inr r5,h=>Xa (λst' hk=>tS h (gK hk))))
def H4(aD:Am)(aK:Int):Option Bool:=
 (some (bif (decide ((0:Int)<=aK)) then(decide (aK<(aD.length:Int))) else false))
theorem Tb(h:H4 v4 v1=some v5):sP 176 [(Z7 v4),(Z6 v1)] [] (.bool v5) []:=
 sG Tryz.func176 λΓ q=>An q Gv [] (tU q [4] [] (WN ((decide ((0:Int)<=v1))==true) (c1 (Lq (decide ((0:Int)<=v1))))) (tS h (Cf [])))
def Cv(aD:Am)(aa1:Int)(aU:Int):UY->Option (LR (Int×Am) (Am ⊕ (Bool×Am))):=
 λ((i1,l2):UY)=>(bif (i1 !=aU) then(Ci (Bw i1 l2.length) (bif ((l2.getD i1.toNat 0)!=0) then(Ci (Bw i1 l2.length) (some (.done (.inr (((l2.getD i1.toNat 0)!=(Bj (aa1+1))),l2))))) else(Ci (Bw i1 aD.length) ((H4 aD (aD.getD i1.toNat 0)).bind λx7=>(bif (!x7) then(some (.done (.inr (false,l2)))) else(Ci (Bw i1 l2.length) (Ci (Bw i1 aD.length) (some (.next ((aD.getD i1.toNat 0),(l2.set i1.toNat (Bj (aa1+1))))))))))))) else(some (.done (.inl l2))))
def NG(Γ:G1)(aD:Am)(aa8:Am)(aa1:Int)(aU:Int)(r:eb):Exit->St->Prop:=fK Tryz.prog Γ Tryz.f175.results.toList [(Z4 34001 aa8)] (.bool r.1) [(Z4 34001 r.2)]
def Oy(aD:Am)(aa8:Am)(aa1:Int)(aU:Int):Option eb:=
 ((Ah (Cv aD aa1 aU) (aa1,aa8)).bind (λx10=>(match x10 with|(.inl l3)=>(some (true,l3))|(.inr r12)=>(some r12))))
variable{v31:eb}
theorem MB(h:Oy v4 v17 v1 v2=some v31):sP 175 [(Z7 v4),(.vsl 34001 v17.length),(Z6 v1),(Z6 v2)] [(Z4 34001 v17)] (.bool v31.1) [(Z4 34001 v31.2)]:=
 sG Tryz.func175 λΓ q=>tW q [0,1,2,3] [34001] [0,1,2,3,9] [34001] (An q XU [34001] (tL q h XU [34001] (λu (i1,l2)=>(Fx u [(1,(.vsl 34001 l2.length)),(10,(Z6 i1))] [(Z4 34001 l2)])) (λu x_=>match x_ with|(.inl l3)=>aG Γ (.exit 0) (⟨[],[(Z4 34001 l3)],[]⟩:St)|(.inr r_)=>aR (NG Γ v4 v17 v1 v2 r_)) (λ⟨i1,l2⟩ y h=>An q [0,1,3,9,10,16] [34001] (gC h (λh=>tC h λc4_ h=>tU q [0,1,3,9,10,25] [34001] (c2 c4_ (Eq.refl l2.length)) (gC h (λh=>tC h λc5_ h=>tU q [8] [34001] (c2 c5_ (Eq.refl l2.length)) (tS h (gO (Su (Kl VF (Le.refl _ _)))))) λh=>tC h λc6_ h=>tB h λx7 y7 h=>tT q [0,1,3,9,10,38] [34001] [(Z2 x7)] (c2 c6_ (Tb y7)) (gC h (λh=>An q [8] [34001] (tS h (gO (Su (Kl VF (Le.refl _ _)))))) λh=>tC h λc8_ h=>tU q XU [34001] (c2 c8_ (Eq.refl l2.length)) (Mr (Le.trans (Xd 34001 (show ∀ k_,k_<l2.length->AVleL ((λi_=>AV.eraseAll (λn_=>Cd n_ [34001]) ((Lg (λi=>Aq (l2.getD i 0)) i1.toNat 0 [(.int .i64 (Bj (v1+1)))]) i_)) k_) ((λi=>Aq ((l2.set i1.toNat (Bj (v1+1))).getD i 0)) k_) from(Ck (H3 ..).symm (λk_ hk_=>(Ca (AV.eraseAll (λn_=>Cd n_ [34001])) ((Mi (λ_ _=>rfl) (Ot c8_) rfl) k_ hk_)).trans rfl)))) (S4 (λ(k_:Nat) u=>(Fx u [(1,(.vsl 34001 k_))] [(34001,.arr 1 3 k_ (λi=>Aq ((l2.set i1.toNat (Bj (v1+1))).getD i 0)))])) (show l2.length=(l2.set i1.toNat (Bj (v1+1))).length from(H3 ..).symm))) (tV q XU [34001] h λh=>tN h))))) λh=>tS h (gO (D1 (Dj [] [34001] q))))) λx10 h=>(match x10,h with | .inl l3,h=>gA (An q [8] [34001] (tS h (Cf VF))) | .inr r12,h=>Xa (λst' hk=>tS h (gK hk)))))
def Ej(aD:Am)(x1:Int):UY->Option (LR (Int×Am) (Unit ⊕ Bool)):=
 λ((i3,l4):UY)=>(bif (decide (i3<(aD.length:Int))) then(Ci (Bw i3 aD.length) ((bif (((aD.getD i3.toNat 0)!=-2)==true) then Oy aD l4 i3 x1 else some (false,[])).bind λx6=>(Ci ((((aD.getD i3.toNat 0)!=-2)==true)=true->(l4.length=x6.2.length)) (bif (bif ((aD.getD i3.toNat 0)!=-2) then(!x6.1) else false) then(some (.done (.inr false))) else(some (.next ((Bj (i3+1)),(bif (((aD.getD i3.toNat 0)!=-2)==true) then x6.2 else l4)))))))) else(some (.done (.inl ()))))
def KN(Γ:G1)(aD:Am)(r:Bool):Exit->St->Prop:=fK Tryz.prog Γ Tryz.f158.results.toList [] (.bool r) []
def fP(aD:Am)(i3:Int):=(((aD.getD i3.toNat 0)!=-2)==true)
def Nb(aD:Am):Option Bool:=
 ((Eg aD (-1:Int)).bind λx1=>(bif (decide (x1<0)) then(some false) else(Ci (0<=(aD.length:Int)/\(aD.length:Int)<=(aD.length:Int)/\(aD.length:Int)<=(room:Int)) ((Ah (Ej aD x1) ((0:Int),(List.replicate (aD.length:Int).toNat (0:Int)))).bind (λx8=>(match x8 with|(.inl _)=>(some true)|(.inr r10)=>(some r10)))))))
theorem HC(h:Nb v4=some v5):sP 158 [(Z7 v4)] [] (.bool v5) []:=
 sG Tryz.func158 λΓ q=>An q [0] [] (tB h λx1 y1 h=>tT q V0 [] [(DB x1)] (c1 (P3 y1)) (An q [0,3,9] [] (gC h (λh=>An q [2] [] (tS h (Cf []))) λh=>tV q [0,3,4] [12] h λh=>by exact Mr (Le.trans (Xd 12 (show ∀ k_,k_<((v4.length:Int).toNat)->AVleL ((λi_=>AV.eraseAll (λn_=>Cd n_ [12]) ((λ_=>[Ld]) i_)) k_) ((λi=>Aq ((List.replicate (v4.length:Int).toNat (0:Int)).getD i 0)) k_) from(λk hk=>Xh (e:=Aq) (d:=(0:Int)) (.cons (AVle.refl _) .nil) _ k (X0 hk)))) (S4 (λ(k_:Nat) u=>(Fx u [(4,(.vsl 12 k_))] [(12,.arr 1 3 k_ (λi=>Aq ((List.replicate (v4.length:Int).toNat (0:Int)).getD i 0)))])) (show(v4.length:Int).toNat=(List.replicate (v4.length:Int).toNat (0:Int)).length from(X7 ..).symm))) (An q VD [12] (tL q h VD [12] (λu (i3,l4)=>(Fx u [(4,(.vsl 12 l4.length)),(15,(Z6 i3))] [(Z4 12 l4)])) (λu x_=>match x_ with|(.inl _)=>aG Γ (.exit 0) (⟨[],[],[]⟩:St)|(.inr r_)=>aR (KN Γ v4 r_)) (λ⟨i3,l4⟩ y h=>An q [0,3,4,14,15,16] [12] (gC h (λh=>An q [0,3,4,5,14,15] [12] (tC h λc5_ h=>tB h λx6 y6 h=>tC h λc7_ h=>tT q [0,3,4,14,15,30] [12] [⟨[(12,34001)],[],(.bool x6.1),[(Z4 34001 x6.2)],[],[]⟩] (ci c5_ (lV (fP v4 i3) (c3 (λ(hg:(fP v4 i3)=true)=>(MB (Bt hg y6))) (gI (fP v4 i3)) (Lq ((v4.getD i3.toNat 0)!=-2))))) (Mr (Le.trans (Xd 12 (show ∀ k_,k_<(bif (fP v4 i3) then x6.2.length else l4.length)->AVleL ((λi_=>AV.eraseAll (λn_=>Cd n_ [12]) ((λi=>bif (fP v4 i3) then(λi=>Aq (x6.2.getD i 0)) i else(λi=>Aq (l4.getD i 0)) i) i_)) k_) ((λi=>Aq ((bif (fP v4 i3) then x6.2 else l4).getD i 0)) k_) from(Ck WA (λk_ hk_=>(Ca (AV.eraseAll (λn_=>Cd n_ [12])) ((λ_ _=>gM) k_ hk_)).trans rfl)))) (Le.trans (S4 (λ(k_:Nat) u=>(Fx u [] [(12,.arr 1 3 k_ (λi=>Aq ((bif (fP v4 i3) then x6.2 else l4).getD i 0)))])) (show(bif (fP v4 i3) then x6.2.length else l4.length)=(bif (fP v4 i3) then x6.2 else l4).length from WA)) (S4 (λ(k_:Nat) u=>(Fx u [(4,(.vsl 12 k_))] [])) (show l4.length=(bif (fP v4 i3) then x6.2 else l4).length from(gP c7_))))) (gC h (λh=>An q [2] [] (tS h (gO (Su (Kl [] (Le.refl _ _)))))) λh=>An q VD [12] (tN h))))) λh=>tS h (gO (D1 (Dj [] [] q))))) λx8 h=>(match x8,h with | .inl _,h=>gA (An q [2] [] (tS h (Cf []))) | .inr r10,h=>Xa (λst' hk=>tS h (gK hk))))))))
def Im(aD:Am)(aK:Int):Option Bool:=
 ((H4 aD aK).bind λx1=>(Ci ((x1==true)=true->(Bw aK aD.length)) (some (bif x1 then((aD.getD aK.toNat 0)!=-2) else false))))
theorem R0(h:Im v4 v1=some v5):sP 159 [(Z7 v4),(Z6 v1)] [] (.bool v5) []:=
 sG Tryz.func159 λΓ q=>An q Gv [] (tB h λx1 y1 h=>tC h λc2_ h=>tT q [4] [] [(Z2 x1)] (ci (Tb y1) (Yu (x1==true) (ci c2_ (Yu (x1==true) (c1 (Lq x1)))))) (tS h (Cf [])))
def Ox(aD:Am)(aH:Int)(aI:Int):Option Bool:=
 ((Nb aD).bind λx1=>((bif (x1==true) then Im aD aH else some false).bind λx2=>((bif ((bif x1 then x2 else false)==true) then Im aD aI else some false).bind λx3=>(some (bif (bif x1 then x2 else false) then x3 else false)))))
theorem MA(h:Ox v4 v1 v2=some v5):sP 144 [(Z7 v4),(Z6 v1),(Z6 v2)] [] (.bool v5) []:=
 sG Tryz.func144 λΓ q=>An q GI [] (tB h λx1 y1 h=>tB h λx2 y2 h=>tB h λx3 y3 h=>tT q [6] [] [(Z2 x1),(Z2 x2),(Z2 x3)] (ci (HC y1) (Yu (x1==true) (gj (λ(hg:(x1==true)=true)=>(R0 (Bt hg y2))) (Lq x1) (Yu ((bif x1 then x2 else false)==true) (c2 (λ(hg:((bif x1 then x2 else false)==true)=true)=>(R0 (Bt hg y3))) (Lq (bif x1 then x2 else false))))))) (tS h (Cf [])))
def Qy(aD:Am)(aH:Int)(aI:Int):Option Bool:=
 ((Ox aD aH aI).bind λx1=>((bif (x1==true) then Lw aD aH aI else some (0:Int)).bind λx2=>(some (bif x1 then(x2==aH) else false))))
theorem PS(h:Qy v4 v1 v2=some v5):sP 125 [(Z7 v4),(Z6 v1),(Z6 v2)] [] (.bool v5) []:=
 sG Tryz.func125 λΓ q=>An q GI [] (tB h λx1 y1 h=>tB h λx2 y2 h=>tT q [6] [] [(Z2 x1),(DB x2)] (ci (MA y1) (WN (x1==true) (ci (λ(hg:(x1==true)=true)=>(AU (Bt hg y2))) (Yu (x1==true) (c1 (Lq x1)))))) (tS h (Cf [])))
def E6(aM:A7)(a0:Aa)(a4:Int)(a9:Am)(a7:List Jq)(a5:List A7):Option Tw:=
 (bif (((mget (default:Aj) a7 aM.v).place.block:Int)==aM.place.block) then(some ((decide (((mget (default:Aj) a7 aM.v).place.at_:Int)<aM.place.at_)),a0,a4,a9,a5)) else((Qy a9 ((mget (default:Aj) a7 aM.v).place.block) aM.place.block).bind λx1=>(some (x1,a0,a4,a9,a5))))
theorem Pj(h:E6 v30 v0 v1 v4 v25 v12=some v23):sP 97 [Yh,(.agg (Jm v30))] [(Z1 v0.Params v0.Ret v0.Blocks v1 v4 9100005 v12),(Nk v12.length),(9100005,.obj (.map false .i64 (mapE (λ(v_:Aj)=>((Pt v_):AV)) v25)))] (.bool v23.1) [(Z1 v23.2.1.Params v23.2.1.Ret v23.2.1.Blocks v23.2.2.1 v23.2.2.2.1 9100005 v23.2.2.2.2),(Nk v23.2.2.2.2.length),(9100005,.obj (.map false .i64 (mapE (λ(v_:Aj)=>((Pt v_):AV)) v25)))]:=
 sG Tryz.func97 λΓ q=>An q V0 M3 (gR q [0,3,5] Yc [(12,(jJ v25 v30.v))] [] (c1 (show(AVle (mget (.agg [Ld,Ld,Ld,Ld]) (mapE (λ(v_:Aj)=>((Pt v_):AV)) v25) v30.v) (jJ v25 v30.v)) from(CO (f:=(λ(v_:Aj)=>((Pt v_):AV))) (l:=v25) (AVle.refl _) rfl))) (An q [0,3,5,19] Yc (gC h (λh=>An q [4] Fh (tS h (Cf U3))) λh=>tB h λx1 y1 h=>tT q [4] Fh [(Z2 x1)] (c1 (PS y1)) (tS h (Cf U3)))))
abbrev lF:=(LR (Int×Am×Int×List Ag×Int×Am×List A7) ((Am×Int×List Ag×Int×Am×List A7) ⊕ (Am×Int×List Ag×Int×Am×List A7)))
def C3(a7:List Jq)(x8:jB):M1->Option lF:=
 λ((i9,l10,i11,l12,i13,l14,l15):M1)=>(bif (decide (i9<(x8.2.2.2.length:Int))) then(Ci (Bw i9 x8.2.2.2.length) ((Ha (x8.2.2.2.getD i9.toNat default) (⟨l10,i11,l12⟩:Aa) i13 l14 a7 l15).bind λx29=>(bif (!x29.1) then(some (.done (.inr (x29.2.1.Params,x29.2.1.Ret,x29.2.1.Blocks,x29.2.2.1,x29.2.2.2.1,x29.2.2.2.2)))) else(some (.next ((Bj (i9+1)),x29.2.1.Params,x29.2.1.Ret,x29.2.1.Blocks,x29.2.2.1,x29.2.2.2.1,x29.2.2.2.2)))))) else(some (.done (.inl (l10,i11,l12,i13,l14,l15)))))
def C4(a7:List Jq)(l21:List A7):M1->Option lF:=
 λ((i32,l33,i34,l35,i36,l37,l38):M1)=>(bif (decide (i32<(l21.length:Int))) then(Ci (Bw i32 l21.length) ((Ik (l21.getD i32.toNat default) (⟨l33,i34,l35⟩:Aa) i36 l37 a7 l38).bind λx52=>(bif (!x52.1) then(some (.done (.inr (x52.2.1.Params,x52.2.1.Ret,x52.2.1.Blocks,x52.2.2.1,x52.2.2.2.1,x52.2.2.2.2)))) else(some (.next ((Bj (i32+1)),x52.2.1.Params,x52.2.1.Ret,x52.2.1.Blocks,x52.2.2.1,x52.2.2.2.1,x52.2.2.2.2)))))) else(some (.done (.inl (l33,i34,l35,i36,l37,l38)))))
def C5(a7:List Jq)(l44:List A7):M1->Option lF:=
 λ((i55,l56,i57,l58,i59,l60,l61):M1)=>(bif (decide (i55<(l44.length:Int))) then(Ci (Bw i55 l44.length) ((E6 (l44.getD i55.toNat default) (⟨l56,i57,l58⟩:Aa) i59 l60 a7 l61).bind λx75=>(bif (!x75.1) then(some (.done (.inr (x75.2.1.Params,x75.2.1.Ret,x75.2.1.Blocks,x75.2.2.1,x75.2.2.2.1,x75.2.2.2.2)))) else(some (.next ((Bj (i55+1)),x75.2.1.Params,x75.2.1.Ret,x75.2.1.Blocks,x75.2.2.1,x75.2.2.2.1,x75.2.2.2.2)))))) else(some (.done (.inl (l56,i57,l58,i59,l60,l61)))))
def Ka :M1->Option (LR (Int×Am×Int×List Ag×Int×Am×List A7) (Int×Aa×Int×Am×List A7)):=
 λ(s_:M1)=>match s_ with|(i1,l2,i3,l4,i5,l6,l7)=>(some (.done (i1,(⟨l2,i3,l4⟩:Aa),i5,l6,l7)))
def Sp(Γ:G1)(a0:Aa)(a4:Int)(a9:Am)(a7:List Jq)(a5:List A7)(r:bD):Exit->St->Prop:=fK Tryz.prog Γ Tryz.f75.results.toList [(Z1 a0.Params a0.Ret a0.Blocks a4 a9 9100005 a5),(Nk a5.length),(9100005,.obj (.map false .i64 (mapE (λ(v_:Aj)=>((Pt v_):AV)) a7)))] (Z6 r.1) [(Z1 r.2.1.Params r.2.1.Ret r.2.1.Blocks r.2.2.1 r.2.2.2.1 9100005 r.2.2.2.2),(Nk r.2.2.2.2.length),(9100005,.obj (.map false .i64 (mapE (λ(v_:Aj)=>((Pt v_):AV)) a7)))]
def lz(a7:List Jq):=(mapE (λ(v_:Aj)=>((Pt v_):AV)) a7)
def Gl(a0:Aa)(a4:Int)(a9:Am)(a7:List Jq)(a5:List A7):Option bD:=
 ((Pp (S:=M1) (X:=bD) ((E4 a0 a4 a9 a7 a5).bind λx8=>((Ah (C3 a7 x8) ((0:Int),x8.1.Params,x8.1.Ret,x8.1.Blocks,x8.2.1,x8.2.2.1,x8.2.2.2)).bind (λx30=>(match x30 with|(.inl (l16,i17,l18,i19,l20,l21))=>((Ah (C4 a7 l21) ((0:Int),l16,i17,l18,i19,l20,l21)).bind (λx53=>(match x53 with|(.inl (l39,i40,l41,i42,l43,l44))=>((Ah (C5 a7 l44) ((0:Int),l39,i40,l41,i42,l43,l44)).bind (λx76=>(match x76 with|(.inl (l62,i63,l64,i65,l66,l67))=>(some (.done ((0:Int),(⟨l62,i63,l64⟩:Aa),i65,l66,l67)))|(.inr (l68,i69,l70,i71,l72,l73))=>(some (.next ((7:Int),l68,i69,l70,i71,l72,l73))))))|(.inr (l45,i46,l47,i48,l49,l50))=>(some (.next ((6:Int),l45,i46,l47,i48,l49,l50))))))|(.inr (l22,i23,l24,i25,l26,l27))=>(some (.next ((7:Int),l22,i23,l24,i25,l26,l27))))))) Ka).bind (λx81=>(some x81)))
theorem Si(h:Gl v0 v1 v4 v25 v12=some v13):sP 75 [Yh] [(Z1 v0.Params v0.Ret v0.Blocks v1 v4 9100005 v12),(Nk v12.length),(9100005,.obj (.map false .i64 (mapE (λ(v_:Aj)=>((Pt v_):AV)) v25)))] (Z6 v13.1) [(Z1 v13.2.1.Params v13.2.1.Ret v13.2.1.Blocks v13.2.2.1 v13.2.2.2.1 9100005 v13.2.2.2.2),(Nk v13.2.2.2.2.length),(9100005,.obj (.map false .i64 (mapE (λ(v_:Aj)=>((Pt v_):AV)) v25)))]:=
 sG Tryz.func75 λΓ q=>An q [0] Fh (tB h λx81 y81 h=>gS y81 (λ(s_:M1)=>match s_ with|(i1,l2,i3,l4,i5,l6,l7)=>0) (λ(s_:M1)=>match s_ with|(i1,l2,i3,l4,i5,l6,l7)=>(⟨[(4,(Z6 i1))],(mF l2 i3 l4 i5 l6 9100005 l7 l7.length (lz v25)),[]⟩:St)) (λr_=>aR (Sp Γ v0 v1 v4 v25 v12 r_)) (λy h=>tB h λx8 y8 h=>tT q [0] Fh [(mD x8.1.Params x8.1.Ret x8.1.Blocks x8.2.1 x8.2.2.1 x8.2.2.2 x8.2.2.2.length (lz v25))] (c1 (Ph y8)) (tW q V0 M3 V0 M3 (An q Vw Fh (gU 3 (An q XW Fh (ZG true (tU q VN Ps (c1 (show(Bw (0:Int) 3) from(by decide))) (tW q VE Ps Yd Ps (tL q h Yd Ps (λu (i9,l10,i11,l12,i13,l14,l15)=>(Fx u [(32,(Z6 i9))] (KU l10 i11 l12 i13 l14 l15 l15.length))) (λu x_=>match x_ with|(.inl (l16,i17,l18,i19,l20,l21))=>aG Γ (.exit 2) (Yj Vw Fh u [] (KU l16 i17 l18 i19 l20 l21 l21.length))|(.inr (l22,i23,l24,i25,l26,l27))=>aG Γ (.goto 0) (Yj [4] Fh u [] (KU l22 i23 l24 i25 l26 l27 l27.length))) (λ⟨i9,l10,i11,l12,i13,l14,l15⟩ y h=>An q er Ps (gC h (λh=>tV q ez e9 h λh=>tB h λx29 y29 h=>tT q et Ps [(n4 x29.1 x29.2.1.Params x29.2.1.Ret x29.2.1.Blocks x29.2.2.1 x29.2.2.2.1 x29.2.2.2.2 x29.2.2.2.2.length (lz v25))] (c1 (Pk y29)) (gC h (λh=>tS h (gO (D1 (Dj [4] Fh q)))) λh=>An q Yd Ps (tN h))) λh=>tS h (gO (D1 (Dj Vw Fh q))))) λx30 h=>(match x30,h with | .inl ⟨l16,i17,l18,i19,l20,l21⟩,h=>gA (tW q Vw Fh XW Fh (ZG true (tU q VN Ps (c1 (show(Bw (1:Int) 3) from(by decide))) (tW q VE Ps Yd Ps (tL q h Yd Ps (λu (i32,l33,i34,l35,i36,l37,l38)=>(Fx u [(32,(Z6 i32))] (KU l33 i34 l35 i36 l37 l38 l38.length))) (λu x_=>match x_ with|(.inl (l39,i40,l41,i42,l43,l44))=>aG Γ (.exit 2) (Yj Vw Fh u [] (KU l39 i40 l41 i42 l43 l44 l44.length))|(.inr (l45,i46,l47,i48,l49,l50))=>aG Γ (.goto 0) (Yj [4] Fh u [] (KU l45 i46 l47 i48 l49 l50 l50.length))) (λ⟨i32,l33,i34,l35,i36,l37,l38⟩ y h=>An q er Ps (gC h (λh=>tV q ez e9 h λh=>tB h λx52 y52 h=>tT q et Ps [(n4 x52.1 x52.2.1.Params x52.2.1.Ret x52.2.1.Blocks x52.2.2.1 x52.2.2.2.1 x52.2.2.2.2 x52.2.2.2.2.length (lz v25))] (c1 (Sg y52)) (gC h (λh=>tS h (gO (D1 (Dj [4] Fh q)))) λh=>An q Yd Ps (tN h))) λh=>tS h (gO (D1 (Dj Vw Fh q))))) λx53 h=>(match x53,h with | .inl ⟨l39,i40,l41,i42,l43,l44⟩,h=>gA (tW q Vw Fh XW Fh (ZG true (tU q VN Ps (c1 (show(Bw (2:Int) 3) from(by decide))) (tW q VE Ps Yd Ps (tL q h Yd Ps (λu (i55,l56,i57,l58,i59,l60,l61)=>(Fx u [(32,(Z6 i55))] (KU l56 i57 l58 i59 l60 l61 l61.length))) (λu x_=>match x_ with|(.inl (l62,i63,l64,i65,l66,l67))=>aG Γ (.exit 2) (Yj Vw Fh u [] (KU l62 i63 l64 i65 l66 l67 l67.length))|(.inr (l68,i69,l70,i71,l72,l73))=>aG Γ (.goto 0) (Yj [4] Fh u [] (KU l68 i69 l70 i71 l72 l73 l73.length))) (λ⟨i55,l56,i57,l58,i59,l60,l61⟩ y h=>An q er Ps (gC h (λh=>tV q ez e9 h λh=>tB h λx75 y75 h=>tT q et Ps [(n4 x75.1 x75.2.1.Params x75.2.1.Ret x75.2.1.Blocks x75.2.2.1 x75.2.2.2.1 x75.2.2.2.2 x75.2.2.2.2.length (lz v25))] (c1 (Pj y75)) (gC h (λh=>tS h (gO (D1 (Dj [4] Fh q)))) λh=>An q Yd Ps (tN h))) λh=>tS h (gO (D1 (Dj Vw Fh q))))) λx76 h=>(match x76,h with | .inl ⟨l62,i63,l64,i65,l66,l67⟩,h=>gA (tW q Vw Fh XW Fh (ZG false (An q [2] Fh (tS h (jX (Su (Kl U3 (Le.refl _ _)))))))) | .inr ⟨l68,i69,l70,i71,l72,l73⟩,h=>jW (λst' hl78=>tS h (gu (Le.trans hl78 Mo))))))))) | .inr ⟨l45,i46,l47,i48,l49,l50⟩,h=>jW (λst' hl79=>tS h (gu (Le.trans hl79 Mo))))))))) | .inr ⟨l22,i23,l24,i25,l26,l27⟩,h=>jW (λst' hl80=>tS h (gu (Le.trans hl80 Mo))))))))))))) (λ⟨i1,l2,i3,l4,i5,l6,l7⟩ y h=>An q [2] Fh (tS h (jX (Su (Kl U3 (Le.refl _ _)))))) (Xa (λst' hk=>tS h (gK hk))))
def mA:=(λ(v_:Aj)=>((Pt v_):AV))
def oc(x1:bD):List RY:=(Z3 x1.2.1.Params x1.2.1.Ret x1.2.1.Blocks x1.2.2.1 x1.2.2.2.1 x1.2.2.2.2 x1.2.2.2.2.length)
def od(x2:bD):List RY:=(Z3 x2.2.1.Params x2.2.1.Ret x2.2.1.Blocks x2.2.2.1 x2.2.2.2.1 x2.2.2.2.2 x2.2.2.2.2.length)
def oe(x3:bD):List RY:=(Z3 x3.2.1.Params x3.2.1.Ret x3.2.1.Blocks x3.2.2.1 x3.2.2.2.1 x3.2.2.2.2 x3.2.2.2.2.length)
def Eo(a0:Aa)(a4:Int)(a9:Am)(a5:List A7):Option UZ:=
 ((Gk a0 a4 a9 a5).bind λx1=>(bif (x1.1 !=0) then(some (x1.1,x1.2.1,x1.2.2.1,x1.2.2.2.1,x1.2.2.2.2,([]:List Jq))) else((Fp x1.2.1 x1.2.2.1 x1.2.2.2.1 x1.2.2.2.2).bind λx2=>(bif (x2.1 !=0) then(some (x2.1,x2.2.1,x2.2.2.1,x2.2.2.2.1,x2.2.2.2.2,([]:List Jq))) else((F4 x2.2.1 x2.2.2.1 x2.2.2.2.1 x2.2.2.2.2).bind λx3=>(bif (x3.1 !=0) then(some (x3.1,x3.2.1,x3.2.2.1,x3.2.2.2.1,x3.2.2.2.2,([]:List Jq))) else((E5 x3.2.1 x3.2.2.1 x3.2.2.2.1 x3.2.2.2.2).bind λx4=>(bif (x4.1 !=0) then(some (x4.1,x4.2.1,x4.2.2.1,x4.2.2.2.1,x4.2.2.2.2.1,x4.2.2.2.2.2)) else((Gl x4.2.1 x4.2.2.1 x4.2.2.2.1 x4.2.2.2.2.2 x4.2.2.2.2.1).bind λx5=>(bif (x5.1 !=0) then(some (x5.1,x5.2.1,x5.2.2.1,x5.2.2.2.1,x5.2.2.2.2,x4.2.2.2.2.2)) else(some ((0:Int),x5.2.1,x5.2.2.1,x5.2.2.2.1,x5.2.2.2.2,x4.2.2.2.2.2))))))))))))
theorem K6(h:Eo v0 v1 v4 v12=some v27):sP 52 [Yh] (Z3 v0.Params v0.Ret v0.Blocks v1 v4 v12 v12.length) (Z6 v27.1) [(Z1 v27.2.1.Params v27.2.1.Ret v27.2.1.Blocks v27.2.2.1 v27.2.2.2.1 9200005 v27.2.2.2.2.1),(Nk v27.2.2.2.2.1.length),(9200005,.obj (.map false .i64 (mapE (λ(v_:Aj)=>((Pt v_):AV)) v27.2.2.2.2.2)))]:=
 sG Tryz.func52 λΓ q=>tW q [0] Fk [3] RM (An q AA Fk (gU 5 (An q KI Fk (ZG true (tU q RR Fk (c1 (show(Bw (0:Int) 5) from(by decide))) (tB h λx1 y1 h=>tT q RS Fk [(n8 x1.1 (oc x1))] (c1 (Sh y1)) (An q RQ Fk (gC h (λh=>An q [2] Fk (Rx (⟨[(2,(Z6 x1.1))],(oc x1),[]⟩:St) (tS h (gK (e:=.ret) (Kl ep (Le.trans (Qu (r:=30000) (j:=5) (nm:=9300005) .i64 rfl rfl (nl rfl) rfl) (Dj (st':=⟨[(2,(Z6 x1.1))],[(Z1 x1.2.1.Params x1.2.1.Ret x1.2.1.Blocks x1.2.2.1 x1.2.2.2.1 9300005 x1.2.2.2.2),(Nk x1.2.2.2.2.length),(9300005,.obj (.map false .i64 (mapE mA ([]:List Jq))))],[]⟩) [2] fC q))))))) λh=>tW q AA Fk KI Fk (ZG true (tU q RR Fk (c1 (show(Bw (1:Int) 5) from(by decide))) (tB h λx2 y2 h=>tT q RS Fk [(n8 x2.1 (od x2))] (c1 (P1 y2)) (An q RQ Fk (gC h (λh=>An q [2] Fk (Rx (⟨[(2,(Z6 x2.1))],(od x2),[]⟩:St) (tS h (gK (e:=.ret) (Kl ep (Le.trans (Qu (r:=30000) (j:=5) (nm:=9300005) .i64 rfl rfl (nl rfl) rfl) (Dj (st':=⟨[(2,(Z6 x2.1))],[(Z1 x2.2.1.Params x2.2.1.Ret x2.2.1.Blocks x2.2.2.1 x2.2.2.2.1 9300005 x2.2.2.2.2),(Nk x2.2.2.2.2.length),(9300005,.obj (.map false .i64 (mapE mA ([]:List Jq))))],[]⟩) [2] fC q))))))) λh=>tW q AA Fk KI Fk (ZG true (tU q RR Fk (c1 (show(Bw (2:Int) 5) from(by decide))) (tB h λx3 y3 h=>tT q RS Fk [(n8 x3.1 (oe x3))] (c1 (Rg y3)) (An q RQ Fk (gC h (λh=>An q [2] Fk (Rx (⟨[(2,(Z6 x3.1))],(oe x3),[]⟩:St) (tS h (gK (e:=.ret) (Kl ep (Le.trans (Qu (r:=30000) (j:=5) (nm:=9300005) .i64 rfl rfl (nl rfl) rfl) (Dj (st':=⟨[(2,(Z6 x3.1))],[(Z1 x3.2.1.Params x3.2.1.Ret x3.2.1.Blocks x3.2.2.1 x3.2.2.2.1 9300005 x3.2.2.2.2),(Nk x3.2.2.2.2.length),(9300005,.obj (.map false .i64 (mapE mA ([]:List Jq))))],[]⟩) [2] fC q))))))) λh=>tW q AA Fk KI Fk (ZG true (tU q RR Fk (c1 (show(Bw (3:Int) 5) from(by decide))) (tB h λx4 y4 h=>tT q RS R9 [⟨CA,[(9200005,13000005)],(Z6 x4.1),[(Z1 x4.2.1.Params x4.2.1.Ret x4.2.1.Blocks x4.2.2.1 x4.2.2.2.1 9200005 x4.2.2.2.2.1),(Nk x4.2.2.2.2.1.length),(9200005,.obj (.map false .i64 (mapE mA x4.2.2.2.2.2)))],[],[]⟩] (c1 (Pi y4)) (An q RQ R9 (gC h (λh=>An q [2] R9 (tS h (Cf en))) λh=>tW q AA R9 KI R9 (ZG true (tU q RR R9 (c1 (show(Bw (4:Int) 5) from(by decide))) (tB h λx5 y5 h=>tT q RS R9 [⟨[(30000,30000),(37006,37006),(13000005,9100005)],[],(Z6 x5.1),[(Z1 x5.2.1.Params x5.2.1.Ret x5.2.1.Blocks x5.2.2.1 x5.2.2.2.1 9100005 x5.2.2.2.2),(Nk x5.2.2.2.2.length),(9100005,.obj (.map false .i64 (mapE mA x4.2.2.2.2.2)))],[],[]⟩] (c1 (Si y5)) (An q RQ R9 (gC h (λh=>An q [2] R9 (tS h (Cf en))) λh=>tW q AA R9 KI R9 (ZG false (An q [2] R9 (tS h (Cf en))))))))))))))))))))))))))))))))
end
end Go.Proofs.YtjpnobeadcdnoaaGreat
