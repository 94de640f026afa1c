/-
  The machine, the program's functions and the laws' arithmetic: part 3 of 5.
-/
import Derived.Test.YtjpnobeadcdnoaaGreatPk2
import Derived.BigCall
import Derived.Lib.RowBridge
import Derived.Shelf.Slices.Clone
import Derived.Shelf.Slices.CompactI
import Derived.Shelf.Slices.In.SortNone
import Derived.Shelf.Sort.Plain
import Derived.Sort.OwnSortedInts
import Derived.Test.YtjpnobeadcdnoaaGreatProg
set_option linter.unusedSectionVars false
set_option linter.unusedVariables false
set_option linter.unusedSimpArgs false
namespace Go.Proofs.YtjpnobeadcdnoaaGreat
noncomputable section
open Go Go.RowKit
section
variable {P:Program} {Γ:G0} {σ:Sto} {I:Nat->Nat->Prop} {θ:Nat->Option (Nat×Nat)} {a:Act} {w:World} {o:Oper}
theorem QZ{g bm since:Nat}{seen:Array Nat}{es:Array MapEntry}(hg:w.heap[g]?=some (.mapIter (some bm) since seen since))(hb:w.heap[bm]?=some (.map es since))(hold:∀ x∈es.toList,x.born<since)(ty:TypeId) :
  ((∀ e∈es.toList,e.born∈seen.toList)/\(Instr.next (.pointer (some ⟨g,0,none⟩)) false ty).run P w = .ok (.tuple #[.bool false]) w) \/
  ∃ e∈es.toList,e.born∉seen.toList/\((Instr.next (.pointer (some ⟨g,0,none⟩)) false ty).run P w = .ok (.tuple #[.bool true,e.key,e.val]) (Of w g (.mapIter (some bm) since (seen.push e.born) since)) \/
   (Instr.next (.pointer (some ⟨g,0,none⟩)) false ty).run P w = .ok (.tuple #[.bool true,e.key,e.val]) (Of w.drew g (.mapIter (some bm) since (seen.push e.born) since))):=by
 simp only[Instr.next,getObj,Cy,Sem.run,hg,hb,Result.andThen,next_test_false seen es since since hold (zzL7 _),Yf,Eu]
 have hmem:∀ x∈(Array.filter (λe=>!seen.contains e.born) es).toList,x∈es.toList/\x.born∉seen.toList:=λx hx=>by
  simp only[Array.toList_filter,zzL65,O9,Array.contains_eq_mem,KK]at hx;exact⟨hx.1,by simpa using hx.2⟩
 have hall:(Array.filter (λe=>!seen.contains e.born) es).size=0->∀ e∈es.toList,e.born∈seen.toList:=λh0 e he=>by
  by_cases hc:e.born∈seen.toList
  ·exact hc
  ·have:e∈(Array.filter (λe=>!seen.contains e.born) es).toList:=by
    simp only[Array.toList_filter,zzL65,O9,Array.contains_eq_mem,KK];exact⟨he,by simpa using hc⟩
   have h1:0<(Array.filter (λe=>!seen.contains e.born) es).toList.length:=List.length_pos_of_mem this;rw[Zz]at h1;omega
 generalize Array.filter (λe=>!seen.contains e.born) es=L at hmem hall ⊢
 have e1:L.filter (λx=>decide (x.born<since))=L:=Array.filter_eq_self.2 (λx hx=>by simpa using hold x (hmem x (by simpa using hx)).1)
 have e2:L.filter (λx=>decide (x.born>=since)) = #[]:=by
  rw[Array.filter_eq_empty_iff];intro x hx;have:=hold x (hmem x (by simpa using hx)).1
  simp
  omega
 simp only[e1,e2,Array.append_empty]
 by_cases h0:L.size=0
 ·left
  have:L = #[]:=Array.eq_empty_of_size_eq_zero h0;subst this;refine⟨hall rfl,?_⟩;simp[choose,Sem.run,Question.forced]
 ·right
  have hne:L.isEmpty=false:=by simp[Array.isEmpty,h0]
  simp only[hne,Yf,Eu,Array.empty_append,Array.size_map];have hgl:g<w.heap.size:=(Array.getElem?_eq_some_iff.1 hg).1
  have hch:∃(j:Nat) (w1:World),j<L.size/\(w1=w\/w1=w.drew)/\(choose (Question.mapNext L.size)).run P w = .ok j w1:=by
   by_cases hf:L.size<=1
   ·exact⟨0,w,by omega,.inl rfl,by simp[choose,Sem.run,Question.forced,hf]⟩
   ·exact⟨_,w.drew,Nat.mod_lt _ (by omega),.inr rfl,by
     simp only[choose,Sem.run,Question.forced,Dw,hf,Eu,Question.cut]
     rfl⟩
  obtain⟨j,w1,hj,hw,hrun⟩:=hch
  have hLj:L[j]∈L.toList:=by simp
  refine⟨L[j],(hmem _ hLj).1,(hmem _ hLj).2,?_⟩
  have hset:∀ o',(setObj g o').run P w1 = .ok () (Of w1 g o'):=λo'=>by
   have hh:w1.heap[g]?=some (.mapIter (some bm) since seen since):=by rcases hw with rfl|rfl<;>exact hg
   simp[setObj,Sem.run,hh,Of]
  simp only[hrun,Array.getElem?_map,Array.getElem?_eq_getElem hj,Wt,Cy,hset,Result.andThen];rcases hw with rfl|rfl
  ·exact .inl rfl
  ·exact .inr rfl
theorem dg(h:Rel Γ σ I θ a w)(hd:∀ d,o.dst=some d->d<Γ.n){x:Operand}(ho:o.op = .next x false){nm mm n:Nat}{s:List Nat}{nn:Bool}{k:IntKind}{l:List (Int×AV)}(hx:Rep I σ.own θ w (a.eval x) (.optr nm mm))
  (hit:σ.own nm=some (.obj (.miter (.omap mm) n s))) (hown:σ.own mm=some (.obj (.map nn k l))) (hn:n=l.length) (K:Act->World->Prop) (Q:Exit->Act->World->Prop)
  (hdone:(∀ i,i<n->i∈s)->∀ I' θ' a' w',Rel Γ (σ.upd o.dst (.tuple [.bool false]) []) I' θ' a' w'->K a' w')
  (hmore:∀ i,i<n->i∉s->∀ I' θ' a' w',Rel Γ (σ.upd o.dst (.tuple [.bool true,.int k (l.getD i (0,.any)).1,(l.getD i (0,.any)).2]) [(nm,.obj (.miter (.omap mm) n (i::s)))]) I' θ' a' w'->K a' w'):o.wp P a w K Q:=by
 obtain⟨_,g,c,ho',hg,hv⟩:=hx.optr_inv
 obtain⟨ob,h2,h3⟩:∃ ob,w.heap[g]?=some ob/\ObjR I σ.own θ w ob (.miter (.omap mm) n s):=by
  rcases h.chg.rel.obj nm _ hit with⟨g',c',ob,h1,h2,h3,h4⟩|⟨h1,_⟩
  ·rw[hg]at h1;simp only[Ae,Ic]at h1;obtain⟨rfl,rfl⟩:=h1;exact⟨ob,h2,h3⟩
  ·rw[hg]at h1;cases h1
 obtain⟨r,cc,seen,rfl,hseen,rfl,hr⟩:=JI h3;obtain⟨_,_,hxm⟩:=hr.omap_inv;simp only[Value.map.injEq]at hxm
 have hfalse:∀(hrun:(execOp a.eval o).run P w = .ok (.value (.tuple #[.bool false])) w),(∀ i,i<cc->i∈s)->o.wp P a w K Q:=λhrun hall=>
  Aj (x:=.tuple [.bool false]) h hd hrun (.tuple _ _ rfl (λj hj=>by
   obtain rfl:j=0:=by simp at hj;omega
   exact .val _ _ (.bool _))) K Q (hdone hall)
 rcases map_at h hown with⟨gm,c',es',h4,h5,h6⟩|⟨h4,_,h7⟩
 ·rw[h4]at hxm;obtain rfl:r=some gm:=hxm;obtain⟨hlen,hent⟩:=Ur l es'.toList 0 h6
  have hmem:∀ e∈es'.toList,∃ i,i<l.length/\es'.toList[i]?=some e/\e.born=i/\e.key = .int k (l.getD i (0,.any)).1/\LD I w e.val (l.getD i (0,.any)).2:=λe he=>by
   obtain⟨i,hi,rfl⟩:=List.mem_iff_getElem.1 he;obtain⟨v,e1,e2⟩:=hent i (by omega);rw[O8 hi]at e1;have e3:=OI e1;exact⟨i,by omega,O8 hi,by rw[e3];simp,by rw[e3],by rw[e3];exact e2⟩
  rw[<- hn]at h5;have hnx:=QZ (P:=P) h2 h5 (λe he=>by obtain⟨i,hi,_,hb,_⟩:=hmem e he;omega) (ty:=0);have hty:∀ ty,Instr.next (.pointer (some ⟨g,0,none⟩)) false ty=Instr.next (.pointer (some ⟨g,0,none⟩)) false 0:=λ_=>rfl;rcases hnx with⟨hall,hrun⟩|⟨e,he,hns,hrun⟩
  ·refine hfalse ?_ (λi hi=>?_)
   ·simp only[execOp,ho,hv,hty];simp[hrun]
   ·obtain⟨v,e1,e2⟩:=hent i (by omega);have:=hall _ (List.mem_of_getElem? e1);rw[<- hseen,zzL100]
    simpa using this
  ·obtain⟨i,hi,_,hb,hkey,hval⟩:=hmem e he
   have his:i∉s:=by rw[<- hseen,zzL100,<- hb];exact hns
   have hrev:(seen.push e.born).toList.reverse=i::s:=by rw[Array.toList_push,List.reverse_append,hseen,hb];rfl
   have step:∀ w1:World,Rel Γ σ I θ a w1->w1.heap=w.heap->(execOp a.eval o).run P w = .ok (.value (.tuple #[.bool true,e.key,e.val])) (Of w1 g (.mapIter (some gm) cc (seen.push e.born) cc))->o.wp P a w K Q:=λw1 hr1 hh hrun=>by
    have hcell:∀ b j,I b j->w1.cell? ⟨b,j,none⟩=w.cell? ⟨b,j,none⟩:=λb j _=>by simp only[World.cell?,hh]
    have hr':Rep I σ.own θ w1 (.map (some gm)) (.omap mm):=hr.mono (λ_ _ h=>h) hcell (λ_ o ho=>⟨o,ho,.refl _ _⟩)
    have hc:ObjR I σ.own θ w1 (.mapIter (some gm) cc (seen.push e.born) cc) (.miter (.omap mm) cc (i::s)):=by
     have:=ObjR.miter (I:=I) (own:=σ.own) (θ:=θ) (w:=w1) (some gm) (.omap mm) cc cc (seen.push e.born) rfl hr';rwa[hrev]at this
    have kc:=Nq hr1.chg.rel hr1.chg.valid hit hg hc;have hval':RepV I (Of w1 g (.mapIter (some gm) cc (seen.push e.born) cc)) e.val (l.getD i (0,.any)).2:=hval.1.mono (λ_ _ h=>h) (λb j hj=>by rw[kc.cell b j hj,hcell b j hj])
    have k2:Chg σ.own θ I w1 (σ.upd o.dst (.tuple [.bool true,.int k (l.getD i (0,.any)).1,(l.getD i (0,.any)).2]) [(nm,.obj (.miter (.omap mm) cc (i::s)))]).own θ I (Of w1 g (.mapIter (some gm) cc (seen.push e.born) cc)):=by rw[Bj];exact kc
    have hput:=Uu (v:=.tuple #[.bool true,e.key,e.val]) (x:=.tuple [.bool true,.int k (l.getD i (0,.any)).1,(l.getD i (0,.any)).2]) hr1 k2 (.tuple _ _ rfl (λj hj=>by
     have hj:j=0\/j=1\/j=2:=by simp at hj;omega
     rcases hj with rfl|rfl|rfl
     ·exact .val _ _ (.bool _)
     ·rw[show(#[Value.bool true,e.key,e.val].getD 1 Go.undef)=e.key from rfl,hkey];exact .val _ _ (.int _ _)
     ·exact .val _ _ hval')) hd
    unfold Oper.wp;rw[hrun];exact hmore i (by omega) his _ _ _ _ hput
   rcases hrun with hrun|hrun
   ·refine step w h rfl ?_;simp only[execOp,ho,hv,hty];simp[hrun]
   ·refine step w.drew (QS h) rfl ?_;simp only[execOp,ho,hv,hty];simp[hrun]
 ·rw[h4]at hxm;obtain rfl:r=none:=hxm;subst h7;refine hfalse ?_ (λi hi=>by simp at hn;omega);simp only[execOp,ho,hv];simp[Instr.next,getObj,Sem.run,h2]
theorem YS{id:Nat}{o1 o2:Oper}{K:Exit->St->Prop}{st:St}{n:Nat}{H:List (Nat×Own)}{x t b nm mm len:Nat}{s:List Nat}{nn:Bool}{k:IntKind}{l:List (Int×AV)}(q:RgQ P Γ n H)(live names:List Nat)
  (h1:o1.op = .next (.tmp x) false) (d1:o1.dst=some t) (g1:o1.guard=none) (h2:o2.op = .extract (.tmp t) 0) (d2:o2.dst=some b) (g2:o2.guard=none) (hb:(Nat.blt t n&&(Nat.blt b n&&(Nat.blt nm A7&&Nat.blt mm A7)))=true)
  (hx:st.get x = .optr nm mm) (hit:Ab st.own nm=some (.obj (.miter (.omap mm) len s))) (hm:Ab st.own mm=some (.obj (.map nn k l))) (hlen:len=l.length) (hh:(H.all λx=>Cc x.1 names)=true)
  (hdone:(∀ i,i<len->i∈s)->K .normal (A1 live names ((st.upd (some t) (.tuple [.bool false]) []).upd (some b) (.bool false) [])))
  (hmore:∀ i,i<len->i∉s->K .normal (A1 live names ((st.upd (some t) (.tuple [.bool true,.int k (l.getD i (0,.any)).1,(l.getD i (0,.any)).2]) [(nm,.obj (.miter (.omap mm) len (i::s)))]).upd (some b) (.bool true) []))):Sh P Γ (.region id #[o1,o2] false) K st:=by
 simp only[A3,Gw]at hb;obtain⟨b1,b2,b3,b4⟩:=hb;intro I θ a w hrel;refine wp_region ?_;have hget:∀ t,Rep I st.sto.own θ w (a.tmps.getD t undef) (st.get t):=hrel.slots
 have w1:∀ tm,Region.wanted o1 tm=true:=λtm=>by simp[Region.wanted,g1]
 have w2:∀ tm,Region.wanted o2 tm=true:=λtm=>by simp[Region.wanted,g2]
 have hl:(List.range (#[o1,o2]:Array Oper).size)=[0,1]:=rfl;have hsec:∀(st2:St) (vb:Bool) (r:List AV) (I':Nat->Nat->Prop) (θ':Nat->Option (Nat×Nat)) (a':Act) (w':World),st2.get t = .tuple (.bool vb::r)->Rel Γ st2.sto I' θ' a' w'->K .normal (A1 live names (st2.upd (some b) (.bool vb) []))->
   wpOps P #[o1,o2] (λe a' w'=>∃ st' I' θ',K e st'/\Rel Γ st'.sto I' θ' a' w') [1] a' w':=λst2 vb r I' θ' a' w' hgt hr hK=>by
  rw[wpOps_cons]
  show wpOp P #[o1,o2] _ 1 _ a' w'
  unfold wpOp;simp only[show(#[o1,o2]:Array Oper)[1]?=some o2 from rfl,w2,He];refine .inl ?_;have ht:=hr.slots t;rw[show st2.sto.tmp t=st2.get t from rfl,hgt]at ht;obtain⟨vs,hv,hsz,hvr⟩:=ht.tuple_inv;have h0:=hvr 0 (by simp);have h0':vs.getD 0 Go.undef = .bool vb:=Rep.bool_inv h0
  have hpos:0<vs.size:=by rw[hsz];simp
  refine Aj hr (λd hd=>?_) (v:=.bool vb) (x:=.bool vb) ?_ (.val _ _ (.bool _)) _ _ (λI2 θ2 a2 w2 h2=>?_)
  ·rw[d2]at hd;obtain rfl:=OI hd;rw[q.hn];exact b2
  ·simp only[execOp,h2,Act.eval];rw[hv]
   have:vs[0]?=some (.bool vb):=by
    rw[Mn,Array.getElem?_eq_getElem hpos,AA]at h0';rw[Array.getElem?_eq_getElem hpos,h0']
   simp[Instr.extract,this]
  ·refine⟨_,I2,θ2,hK,Rn ?_ (q.hand hh)⟩;rw[DA (ns:=[]) st2 (some b) (.bool vb) [] rfl];rw[d2]at h2;exact h2
 rw[hl,wpOps_cons];unfold wpOp;simp only[show(#[o1,o2]:Array Oper)[0]?=some o1 from rfl,w1,He];refine .inl ?_;have hxr:=hget x;rw[hx]at hxr;refine dg hrel (λd hd=>?_) h1 (nm:=nm) (mm:=mm) (n:=len) (s:=s) (nn:=nn) (k:=k) (l:=l) hxr ((A0 b3).trans hit) ((A0 b4).trans hm) hlen _ _ (λhall I' θ' a' w' hr=>?_) (λi hi hni I' θ' a' w' hr=>?_)
 ·rw[d1]at hd;obtain rfl:=OI hd;rw[q.hn];exact b1
 ·rw[d1,<- DA (ns:=[]) st (some t) (.tuple [.bool false]) [] rfl]at hr;refine hsec _ false [] I' θ' a' w' ?_ hr (hdone hall);simp[St.get,St.upd,Ed]
 ·rw[d1,<- DA (ns:=[nm]) st (some t) _ [(nm,.obj (.miter (.omap mm) len (i::s)))] (by simp[Rb,b3])]at hr;refine hsec _ true [.int k (l.getD i (0,.any)).1,(l.getD i (0,.any)).2] I' θ' a' w' ?_ hr (hmore i hi hni);simp[St.get,St.upd,Ed]
end
def Tq{S X:Type}(f:Nat->S->Option (LR S X))(g:S->Option (LR S X)):List Nat->S->Option X
 | [],s=>match g s with|some (.done x)=>some x|_=>none
 | i::l,s=>match f i s with|some (.next s')=>Tq f g l s'|some (.done x)=>some x|none=>none
open Classical in
open Classical in
def Wj{S X:Type}(eqv:X->X->Prop)(n:Nat)(f:Nat->S->Option (LR S X))(g:S->Option (LR S X))(s:S):Option X:=
 if h:∃ x,∀ τ:List Nat,τ.Perm (List.range n)->∃ x',Tq f g τ s=some x'/\eqv x' x then some (Classical.choose h) else none
theorem BF{S X:Type}{eqv:X->X->Prop}{n:Nat}{f:Nat->S->Option (LR S X)}{g:S->Option (LR S X)}{s:S}{x:X}(h:Wj eqv n f g s=some x):∀ τ:List Nat,τ.Perm (List.range n)->∃ x',Tq f g τ s=some x'/\eqv x' x:=by
 unfold Wj at h
 split at h
 ·rename_i h0
  obtain rfl:=OI h;exact Classical.choose_spec h0
 ·cases h
theorem ak{S X:Type}{eqv:X->X->Prop}{n:Nat}{f:Nat->S->Option (LR S X)}{g:S->Option (LR S X)}{s:S}(h:∃ x,∀ τ:List Nat,τ.Perm (List.range n)->∃ x',Tq f g τ s=some x'/\eqv x' x):∃ x,Wj eqv n f g s=some x:=by
 unfold Wj;rw[dif_pos h];exact⟨_,rfl⟩
theorem FK{α:Type}[DecidableEq α]{a b:List α}(ha:a.Nodup)(hb:b.Nodup)(h:∀ x,x∈a↔x∈b):a.Perm b:=by
 refine List.perm_iff_count.2 λx=>?_;rw[ha.count,hb.count];simp only[h x]
section
variable {P:Program} {Γ:G0}
theorem OM{S X:Type}{body:Code}(Q:X->Prop)(n:Nat)(H:List Nat->S->St)(f:Nat->S->Option (LR S X))(g:S->Option (LR S X))(KX:X->Exit->St->Prop){K:Exit->St->Prop}
  (hb:∀(z:List Nat) (s:S),((∀ i,i<n->i∈z)->∃ y,g s=some y)->(∀ i,i<n->i∉z->∃ y,f i s=some y)->
   Sh P Γ body (λe st=>(∃ y,g s=some y/\M0 Γ (H z) KX y e st/\∀ i,i<n->i∈z)\/∃ i y,f i s=some y/\M0 Γ (H (i::z)) KX y e st/\i<n/\i∉z) (H z s))
  {s:S} (hr:∀ τ:List Nat,τ.Perm (List.range n)->∃ x,Tq f g τ s=some x/\Q x) (hK:∀ x,Q x->∀ e st',KX x e st'->K e st'):Sh P Γ (.loop body) K (H [] s):=by
 intro I θ a w hrel;refine Zv (λm a w=>∃ z s I θ,m=n-z.length/\z.Nodup/\(∀ i∈z,i<n)/\(∀ τ:List Nat,(z++τ).Perm (List.range n)->∃ x,Tq f g τ s=some x/\Q x)/\Rel Γ (H z s).sto I θ a w) (λm a w ⟨z,s,I,θ,hm,hz,hzn,hruns,hrel⟩=>?_) (n:=n-0) ⟨[],s,I,θ,rfl,List.nodup_nil,(λi hi=>by cases hi),(λτ hτ=>hr τ hτ),hrel⟩
 have hall:(∀ i,i<n->i∈z)->(z++[]).Perm (List.range n):=λh=>by
  rw[List.append_nil]
  exact FK hz List.nodup_range λi=>by rw[zzL44];exact⟨hzn i,h i⟩
 have hone:∀ i,i<n->i∉z->∃ τ,(z++i::τ).Perm (List.range n):=λi hi hni=>by
  refine⟨(List.range n).filter λj=>decide (j∉i::z),FK ?_ List.nodup_range λj=>?_⟩
  ·refine List.nodup_append.2 ⟨hz,zzL76.2 ⟨by simp,List.nodup_range.filter _⟩,λp hp q hq hpq=>?_⟩;subst hpq;rcases zzL25.1 hq with rfl|hq
   ·exact hni hp
   ·have:=(zzL65.1 hq).2;simp at this;exact this.2 hp
  ·rw[zzL11,zzL25,zzL65,zzL44]
   constructor
   ·rintro(h|rfl|h)
    ·exact hzn j h
    ·exact hi
    ·exact h.1
   ·intro h
    by_cases h1:j∈z
    ·exact .inl h1
    ·by_cases h2:j=i
     ·exact .inr (.inl h2)
     ·exact .inr (.inr ⟨h,by simp[h1,h2]⟩)
 have hg:(∀ i,i<n->i∈z)->∃ y,g s=some y:=λh=>by
  obtain⟨x,this,_⟩:=hruns [] (hall h);unfold Tq at this
  cases hgs:g s with
  | none=>rw[hgs]at this;cases this
  | some y=>exact⟨y,rfl⟩
 have hf:∀ i,i<n->i∉z->∃ y,f i s=some y:=λi hi hni=>by
  obtain⟨τ,hτ⟩:=hone i hi hni;obtain⟨x,this,_⟩:=hruns _ hτ;unfold Tq at this
  cases hfs:f i s with
  | none=>rw[hfs]at this;cases this
  | some y=>exact⟨y,rfl⟩
 refine M4 (hb z s hg hf I θ a w hrel) λe a' w' ⟨st',I',θ',h1,h2⟩=>?_;rcases h1 with⟨y,hgs,hk,hal⟩|⟨i,y,hfs,hk,hi,hni⟩
 ·obtain⟨x,hx,hQ⟩:=hruns [] (hall hal);unfold Tq at hx;rw[hgs]at hx
  cases y with
  | next s'=>cases hx
  | done x'=>
   obtain rfl:=OI hx;obtain⟨hne,hkx⟩:=hk
   cases e with
   | normal=>exact(hne rfl).elim
   | _=>exact⟨st',I',θ',hK _ hQ _ _ hkx,h2⟩
 ·obtain⟨τ,hτ⟩:=hone i hi hni
  have hlen:z.length<n:=by
   have:=hτ.length_eq;rw[Eo,M6,Vs]at this;omega
  cases y with
  | next s'=>
   obtain⟨rfl,hle⟩:=hk;obtain⟨I'',θ'',h3⟩:=hle I' θ' a' w' h2;refine⟨n-(i::z).length,by simp only[M6];omega,i::z,s',I'',θ'',rfl,zzL76.2 ⟨hni,hz⟩,?_,λρ hρ=>?_,h3⟩
   ·intro j hj;rcases zzL25.1 hj with rfl|hj
    ·exact hi
    ·exact hzn j hj
   ·obtain⟨x,this,hQ⟩:=hruns (i::ρ) (List.Perm.trans List.perm_middle hρ);unfold Tq at this;rw[hfs]at this;exact⟨x,this,hQ⟩
  | done x'=>
   obtain⟨x,hx,hQ⟩:=hruns _ hτ;unfold Tq at hx;rw[hfs]at hx;obtain rfl:=OI hx;obtain⟨hne,hkx⟩:=hk
   cases e with
   | normal=>exact(hne rfl).elim
   | _=>exact⟨st',I',θ',hK _ hQ _ _ hkx,h2⟩
end
theorem iC{V:Type}{f:V->AV}{l:List (Int×V)}{d:Int×V}{i:Nat}{k:IntKind}(h:i<(mapE f l).length):AVle (.tuple [.int k ((mapE f l).getD i (0,.any)).1,((mapE f l).getD i (0,.any)).2]) (.tuple [.int k (l.getD i d).1,f (l.getD i d).2]):=by
 have hl:i<l.length:=by simpa [mapE] using h
 have e:(mapE f l).getD i (0,.any)=((l.getD i d).1,f (l.getD i d).2):=by simp[mapE,List.getD,hl]
 rw[e];exact AVle.refl _
section
variable {P:Program} {Γ:G0}
def CG(P:Program)(Γ:G0)(body:Code)(K:Exit->St->Prop):Nat->St->Prop
 | 0,_=>False
 | n+1,st=>Sh P Γ body (λe st'=>(e = .normal/\CG P Γ body K n st')\/(e≠.normal/\K e st')) st
theorem TB{body:Code}{K:Exit->St->Prop}{st:St}(n:Nat)(h:CG P Γ body K n st):Sh P Γ (.loop body) K st:=by
 intro I θ a w hrel;refine Zv (λm a w=>∃ st I θ,CG P Γ body K m st/\Rel Γ st.sto I θ a w) (λm a w ⟨st,I,θ,hu,hrel⟩=>?_) (n:=n) ⟨st,I,θ,h,hrel⟩
 cases m with
 | zero=>exact hu.elim
 | succ m=>
  refine M4 (hu I θ a w hrel) λe a' w' ⟨st',I',θ',h1,h2⟩=>?_;rcases h1 with⟨rfl,h1⟩|⟨hne,h1⟩
  ·exact⟨m,Nat.lt_succ_self m,st',I',θ',h1,h2⟩
  ·cases e with
   | normal=>exact(hne rfl).elim
   | _=>exact⟨st',I',θ',h1,h2⟩
end
inductive fZ where
 | nx (y:Code)
 | bl (id:Nat)
 | ag (c:Code) (n:Nat)
inductive J8 where
 | run (c:Code) (fs:List fZ)
 | out (e:Exit) (fs:List fZ)
def fS(P:Program)(Γ:G0)(K:Exit->St->Prop):List fZ->Exit->St->Prop
 | []=>K
 | .nx y::fs=>jh P Γ y (fS P Γ K fs)
 | .bl id::fs=>Yt id (fS P Γ K fs)
 | .ag c n::fs=>λe st=>(e = .normal/\CG P Γ c (fS P Γ K fs) n st)\/(e≠.normal/\fS P Γ K fs e st)
def GG(P:Program)(Γ:G0)(K:Exit->St->Prop):J8->St->Prop
 | .run c fs,st=>Sh P Γ c (fS P Γ K fs) st
 | .out e fs,st=>fS P Γ K fs e st
def S1:Code->Nat->Nat
 | .exit i,k=>bif Nat.beq i k then 1 else 0
 | .seq a b,k=>Nat.min 2 (S1 a k+S1 b k)
 | .cond _ a b,k=>Nat.min 2 (S1 a k+S1 b k)
 | .loop c,k=>Nat.min 1 (S1 c k)
 | .scope c,k=>Nat.min 1 (S1 c k)
 | .block _ c,k=>S1 c k
 | _,_=>0
def Nz:Code->Nat
 | .region _ _ _=>1
 | .skip=>1
 | .label _=>1
 | .seq a b=>bif Nat.beq (Nz a) 0 then 0 else Nz b
 | .cond _ a b=>Nat.min 2 (Nz a+Nz b)
 | .block i c=>Nat.min 2 (Nz c+S1 c i)
 | .scope c=>Nat.min 2 (Nz c)
 | _=>0
def dE(a:Code):Bool:=match a with | .region _ _ _=>false|a=>Nat.ble 2 (Nz a)
def ES:Nat->Code ⊕ Exit->List fZ->J8
 | 0,.inl c,fs=>.run c fs
 | 0,.inr e,fs=>.out e fs
 | n+1,.inl c,fs=>
  match c with
  | .skip=>ES n (.inr .normal) fs
  | .label _=>ES n (.inr .normal) fs
  | .seq a b=>bif dE a then .run (.seq a b) fs else ES n (.inl a) (.nx b::fs)
  | .block id a=>ES n (.inl a) (.bl id::fs)
  | .exit id=>ES n (.inr (.exit id)) fs
  | .goto l=>ES n (.inr (.goto l)) fs
  | .ret=>ES n (.inr .ret) fs
  | c=>.run c fs
 | n+1,.inr e,fs=>
  match fs with
  | []=>.out e []
  | .nx y::fs=>(match e with | .normal=>ES n (.inl y) fs|e=>ES n (.inr e) fs)
  | .bl id::fs=>(match e with | .exit i=>bif Nat.beq i id then ES n (.inr .normal) fs else ES n (.inr (.exit i)) fs|e=>ES n (.inr e) fs)
  | .ag c m::fs=>(match e with | .normal=>(match m with|0=>.out .normal (.ag c 0::fs)|m+1=>ES n (.inl c) (.ag c m::fs))|e=>ES n (.inr e) fs)
section
variable {P:Program} {Γ:G0} {K:Exit->St->Prop}
theorem Bn:∀(n:Nat) (x:Code ⊕ Exit) (fs:List fZ) (st:St),GG P Γ K (ES n x fs) st->(match x with | .inl c=>Sh P Γ c (fS P Γ K fs) st | .inr e=>fS P Γ K fs e st)
 | 0,.inl c,fs,st,h=>h
 | 0,.inr e,fs,st,h=>h
 | n+1,.inl c,fs,st,h=>by
  cases c with
  | skip=>exact cJ (Bn n _ fs st h)
  | label l=>exact YR (Bn n _ fs st h)
  | seq a b=>
   cases hj:dE a with
   | true=>simp only[ES,hj]at h;exact h
   | false=>simp only[ES,hj]at h;exact LN (Bn n (.inl a) _ st h)
  | block id a=>exact YQ (Bn n (.inl a) _ st h)
  | exit id=>exact cF (Bn n _ fs st h)
  | goto l=>exact cG (Bn n _ fs st h)
  | ret=>exact gE (Bn n (.inr .ret) fs st h)
  | _=>exact h
 | n+1,.inr e,[],st,h=>h
 | n+1,.inr e,.nx y::fs,st,h=>by
  cases e with
  | normal=>exact Bn n (.inl y) fs st h
  | exit i=>exact Bn n _ fs st h
  | goto l=>exact Bn n _ fs st h
  | ret=>exact Bn n (.inr .ret) fs st h
  | panic c=>exact Bn n _ fs st h
  | outgrown=>exact Bn n _ fs st h
 | n+1,.inr e,.bl id::fs,st,h=>by
  cases e with
  | normal=>exact Bn n _ fs st h
  | exit i=>
   cases hb:Nat.beq i id with
   | true=>
    obtain rfl:=Bv hb;simp only[ES,hb]at h;exact TD (Bn n _ fs st h)
   | false=>
    simp only[ES,hb]at h;exact TC hb (Bn n _ fs st h)
  | goto l=>exact Bn n _ fs st h
  | ret=>exact Bn n (.inr .ret) fs st h
  | panic c=>exact Bn n _ fs st h
  | outgrown=>exact Bn n _ fs st h
 | n+1,.inr e,.ag c m::fs,st,h=>by
  cases e with
  | normal=>
   cases m with
   | zero=>exact h
   | succ m=>exact .inl ⟨rfl,Bn n (.inl c) _ st h⟩
  | exit i=>exact .inr ⟨(by intro hh;cases hh),Bn n _ fs st h⟩
  | goto l=>exact .inr ⟨(by intro hh;cases hh),Bn n _ fs st h⟩
  | ret=>exact .inr ⟨(by intro hh;cases hh),Bn n (.inr .ret) fs st h⟩
  | panic ch=>exact .inr ⟨(by intro hh;cases hh),Bn n _ fs st h⟩
  | outgrown=>exact .inr ⟨(by intro hh;cases hh),Bn n _ fs st h⟩
theorem Hz{n:Nat}{c:Code}{fs:List fZ}{st:St}(h:GG P Γ K (ES n (.inl c) fs) st):Sh P Γ c (fS P Γ K fs) st:=Bn n _ fs st h
theorem Te{n:Nat}{e:Exit}{fs:List fZ}{st:St}(h:GG P Γ K (ES n (.inr e) fs) st):fS P Γ K fs e st:=Bn n _ fs st h
def gx(c:Code)(fs:List fZ):J8:=ES 400 (.inl c) fs
def oD(e:Exit)(fs:List fZ):J8:=ES 400 (.inr e) fs
def iG:J8->J8
 | .run _ fs=>oD .normal fs
 | x=>x
def iN:J8->Option (List Oper×Bool)
 | .run (.region _ ops draw) _=>some (ops.toList,draw)
 | _=>none
def fQ(P:Program)(S:Wy)(n:Nat)(cs:List (Nat×AV))(live names:List Nat)(x:J8)(st:St)(rs:List Sg):Option (St×List Prop×Bool):=
 match iN x with
 | some (ops,draw)=>CJ P S n cs live names ops draw st rs
 | none=>none
def iH(P:Program)(S:Wy)(n:Nat)(cs:List (Nat×AV))(live names:List Nat)(x:J8)(st:St)(rs:List Sg):St:=
 match fQ P S n cs live names x st rs with
 | some r=>r.1
 | none=>st
def fT(r:Option (St×List Prop×Bool)):Option (Prop×Bool):=
 match r with
 | some r=>some (OU r.2.1,r.2.2)
 | none=>none
theorem gR{x:J8}{st:St}{n:Nat}{H:List (Nat×Own)}(q:RgQ P Γ n H)(live names:List Nat)(cs:List (Nat×AV))(rs:List Sg){O:Prop}(hO:O)
  (k:GG P Γ K (iG x) (iH P (Spec P) n cs live names x st rs))
  (h:fT (fQ P (Spec P) n cs live names x st rs)=some (O,true):=by kernel_rfl) (hh:(H.all λx=>Cc x.1 names)=true:=by kernel_rfl):GG P Γ K x st:=by
 unfold fQ at h;unfold iH fQ at k
 cases x with
 | out e fs=>simp[iN,fT]at h
 | run c fs=>
  cases c with
  | region id ops draw=>
   simp only[iN]at h k
   cases hr:CJ P _ n cs _ _ _ _ st rs with
   | none=>rw[hr]at h;simp[fT]at h
   | some r=>
    obtain⟨st',obs,d⟩:=r;rw[hr]at h k;obtain⟨rfl,rfl⟩:=h;have:=TA (id:=id)  q.hn q.mix (q.hand hh) hr hO (Te k);exact(by simpa using this:Sh P Γ _ _ st)
  | _=>simp[iN,fT]at h
theorem Ak{x:J8}{st:St}{n:Nat}{H:List (Nat×Own)}(q:RgQ P Γ n H)(live names:List Nat)
  (k:GG P Γ K (iG x) (iH P (Spec P) n [] live names x st []))
  (h:fT (fQ P (Spec P) n [] live names x st [])=some (True,true):=by kernel_rfl) (hh:(H.all λx=>Cc x.1 names)=true:=by kernel_rfl):GG P Γ K x st:=gR q _ _ [] [] trivial k h hh
def jU:J8->Bool | .run _ _=>true|_=>false
theorem Mt{x:J8}{st st':St}(h:Le Γ st st')
  (k:GG P Γ K x st')
  (hx:jU x=true:=by kernel_rfl):GG P Γ K x st:=by
 cases x with
 | run c fs=>exact SZ h k
 | out e fs=>cases hx
theorem Rz{x:J8}{st:St}(st':St)
  (k:GG P Γ K x st')
  (h:st=st':=by kernel_rfl):GG P Γ K x st:=h▸k
def jL(x:J8)(st:St):AV:=match x with | .run (.cond c _ _) _=>TL st.get c|_=>.any
def oA(b:Bool):J8->J8
 | .run (.cond _ c d) fs=>gx (bif b then c else d) fs
 | x=>x
theorem gC{x:J8}{st:St}{R:Type}{b:Bool}{m1 m2:Option R}{r:R}(h:(bif b then m1 else m2)=some r)
  (kt:m1=some r->GG P Γ K (oA true x) st) (kf:m2=some r->GG P Γ K (oA false x) st)
  (hv:jL x st = .bool b:=by kernel_rfl):GG P Γ K x st:=by
 cases x with
 | out e fs=>cases hv
 | run c fs=>
  cases c with
  | cond c y z=>
   refine OL b hv (λhb=>Hz  (kt ?_)) (λhb=>Hz  (kf ?_))
   ·subst hb;exact h
   ·subst hb;exact h
  | _=>cases hv
theorem ZK{x:J8}{st:St}(b:Bool)
  (k:GG P Γ K (oA b x) st)
  (hv:jL x st = .bool b:=by kernel_rfl):GG P Γ K x st:=by
 cases x with
 | out e fs=>cases hv
 | run c fs=>
  cases c with
  | cond c y z=>
   refine OL b hv (λhb=>Hz (n:=400) ?_) (λhb=>Hz (n:=400) ?_)
   ·subst hb;exact k
   ·subst hb;exact k
  | _=>cases hv
theorem lt1{P:Nat->Prop}(h0:P 0)(i:Nat)(h:i<1):P i:=by
 grind
theorem rk(o:Own):some o=some o:=rfl
theorem gK{x:J8}{st:St}{e:Exit}(h:K e st)(hx:x = .out e []:=by kernel_rfl):GG P Γ K x st:=by subst hx;exact h
def aG(Γ:G0)(e0:Exit)(og:St):Exit->St->Prop:=λe st=>e=e0/\Le Γ st og
def aR(K:Exit->St->Prop):Exit->St->Prop:=λe st=>e = .ret/\K e st
theorem Dq{e0:Exit}{og st:St}(h:Le Γ st og):aG Γ e0 og e0 st:=⟨rfl,h⟩
theorem Sx{st:St}(h:K .ret st):aR K .ret st:=⟨rfl,h⟩
def pE:Exit->Bool | .normal=>true|_=>false
theorem gN{S X:Type}{x:J8}{st:St}{H:S->St}{KX:X->Exit->St->Prop}{s':S}(h:Le Γ st (H s'))(hx:x = .out .normal []:=by kernel_rfl):GG P Γ (M0 Γ H KX (.next s')) x st:=by
 subst hx;exact⟨rfl,h⟩
theorem gO{S X:Type}{x:J8}{st:St}{H:S->St}{KX:X->Exit->St->Prop}{y:X}{e:Exit}(h:KX y e st)(hx:x = .out e []:=by kernel_rfl)(hn:pE e=false:=by kernel_rfl):GG P Γ (M0 Γ H KX (.done y)) x st:=by
 subst hx;exact⟨(by rintro rfl;cases hn),h⟩
def fK(P:Program)(Γ:G0)(rs:List ResultVar)(H:List (Nat×Own))(res:AV)(H':List (Nat×Own)):Exit->St->Prop:=ot Γ (ma P rs H res H')
theorem Kk{rs:List ResultVar}{H H':List (Nat×Own)}{res:AV}{st st':St}{e:Exit}(ρ:List (Nat×Nat))(hl:Le Γ st st')(hr:XH P rs ρ H st'=some (res,H'):=by kernel_rfl)
  (he:(match e with | .ret=>true | .normal=>true|_=>false)=true:=by kernel_rfl):fK P Γ rs H res H' e st:=by
 refine⟨st',hl,?_,ρ,hr⟩
 cases e with
 | ret=>exact .inl rfl
 | normal=>exact .inr rfl
 | _=>cases he
theorem Ce{rs:List ResultVar}{H H':List (Nat×Own)}{res:AV}{x:J8}{st:St}(ρ:List (Nat×Nat))(hr:XH P rs ρ H st=some (res,H'):=by kernel_rfl)
  (hx:x = .out .ret []:=by kernel_rfl):GG P Γ (fK P Γ rs H res H') x st:=gK  (Kk ρ (Le.refl _ _) hr) hx
def LO(fn:Func):Code:=match fn.body with|some c=>c|none=>.skip
theorem Zr {f : FuncId} {fn : Func} {args : List AV} {H H' : List (Nat × Own)} {res : AV} (hm : P.follows .mixedOrders = true) (hf : P.funcs[f]? = some fn)
    (k : ∀ Γ : G0, RgQ P Γ fn.ntmps H → GG P Γ (fK P Γ fn.results.toList H res H') (gx (LO fn) []) (Yz args H))
    (hb : fn.body.isSome = true := by kernel_rfl) (hname : (fn.name == "runtime.NumGoroutine") = false := by kernel_rfl) (hlen : Nat.ble args.length fn.ntmps = true := by kernel_rfl) (hpl : FL H = true := by kernel_rfl) : Spec P f args H res H' := by
  obtain ⟨c, hc⟩ := zzL75.1 hb
  have e : LO fn = c := by unfold LO; rw [hc]
  refine RD hf hc hname hlen (fun Γ hn hΓ => ?_) hpl; have := k Γ ⟨hn, hm, hΓ⟩; rw [e] at this; exact kD (Hz this)
theorem dJ{st st':St}(h:st=st'):Le Γ st st':=h▸Le.refl Γ st
def TQ:J8->Bool | .run (.loop _) _=>true|_=>false
def jK:J8->J8
 | .run (.loop c) _=>gx c []
 | x=>x
def dp(e:Exit):J8->J8
 | .run _ fs=>oD e fs
 | x=>x
def mX{α:Type}(k:Nat)(x:α):List (Nat×α)->List (Nat×α)
 | []=>[(k,x)]
 | (k',y)::l=>bif Nat.beq k k' then(k,x)::l else bif Nat.blt k k' then(k,x)::(k',y)::l else(k',y)::mX k x l
def iT{α:Type}:List (Nat×α)->List (Nat×α)->List (Nat×α)
 | [],l=>l
 | (k,x)::r,l=>iT r (mX k x l)
def Fg(st:St)(ts:List (Nat×AV))(os:List (Nat×Own))(fs:List (Nat×bM):=[]):St:=⟨iT ts st.tmps,iT os st.own,iT fs st.fam⟩
def Wl(live names:List Nat)(st:St)(ts:List (Nat×AV))(os:List (Nat×Own))(fs:List (Nat×bM):=[]):St:=A1 live names (Fg st ts os fs)
theorem gL{S X:Type}{x:J8}{st:St}{n:Nat}{Hf:List (Nat×Own)}(q:RgQ P Γ n Hf){f:S->Option (LR S X)}{s0:S}{y:X}(hx:Ag f s0=some y)(live names:List Nat)(H:St->S->St)(KX:St->X->Exit->St->Prop)
  (kb:∀ s y,f s=some y->GG P Γ (M0 Γ (H (A1 live names st)) (KX (A1 live names st)) y) (jK x) (H (A1 live names st) s)) (ko:∀ e st',KX (A1 live names st) y e st'->GG P Γ K (dp e x) st')
  (h0:A1 live names st=H (A1 live names st) s0:=by kernel_rfl) (hl:TQ x=true:=by kernel_rfl) (hh:(Hf.all λx=>Cc x.1 names)=true:=by kernel_rfl):GG P Γ K x st:=by
 cases x with
 | out e fs=>cases hl
 | run c fs=>
  cases c with
  | loop c=>
   refine SZ  ?_ (cI _ f _ (λs y hy=>Hz (kb s y hy)) hx λe st' hk=>Te (ko e st' hk));rw[<- h0];exact Dh _ _ q rfl hh
  | _=>cases hl
theorem gA{x:J8}{f:Exit->J8->J8}{e0:Exit}{og:St}
  (k:GG P Γ K (f e0 x) og)
  (hr:jU (f e0 x)=true:=by kernel_rfl):∀ e st',aG Γ e0 og e st'->GG P Γ K (f e x) st':=by
 rintro e st' ⟨rfl,hl⟩;exact Mt hl k hr
theorem jQ{x:J8}{f:Exit->J8->J8}{e0:Exit}{og:St}(k:∀ st',Le Γ st' og->GG P Γ K (f e0 x) st'):∀ e st',aG Γ e0 og e st'->GG P Γ K (f e x) st':=by
 rintro e st' ⟨rfl,hl⟩;exact k st' hl
theorem Xd{x:J8}{f:Exit->J8->J8}{K':Exit->St->Prop}(k:∀ st',K' .ret st'->GG P Γ K (f .ret x) st'):∀ e st',aR K' e st'->GG P Γ K (f e x) st':=by
 rintro e st' ⟨rfl,hl⟩;exact k st' hl
theorem gU{x:J8}{st:St}(n:Nat)
  (k:GG P Γ K (match x with | .run (.loop c) fs=>gx c (.ag c n::fs)|x=>x) st)
  (hl:TQ x=true:=by kernel_rfl):GG P Γ K x st:=by
 cases x with
 | out e fs=>cases hl
 | run c fs=>
  cases c with
  | loop c=>exact TB (n+1) (Hz k)
  | _=>cases hl
def mL:J8->Bool | .run (.seq _ _) _=>true|_=>false
def mJ:J8->J8
 | .run (.seq a _) _=>gx a []
 | x=>x
def mZ(e:Exit):J8->J8
 | .run (.seq _ b) fs=>oD e (.nx b::fs)
 | x=>x
theorem gJ{X:Type}{x:J8}{st:St}{m:Option X}{y:X}(hx:m=some y)(KX:X->Exit->St->Prop)
  (kb:∀ y,m=some y->GG P Γ (KX y) (mJ x) st) (ko:∀ e st',KX y e st'->GG P Γ K (mZ e x) st')
  (hs:mL x=true:=by kernel_rfl):GG P Γ K x st:=by
 cases x with
 | out e fs=>cases hs
 | run c fs=>
  cases c with
  | seq a b=>exact LN (cH KX hx (λy hy=>Hz (kb y hy)) λe st' hk=>Te (ko e st' hk))
  | _=>cases hs
def gz:J8->Bool | .run (.scope _) _=>true|_=>false
def mc:J8->Code | .run (.scope c) _=>c|_=>.skip
def mM(c:Code)(l:Nat):J8:=gx ((findLabel c l).getD .skip) []
theorem gS{S X:Type}{x:J8}{st:St}{f0:Option (LR S X)}{f:S->Option (LR S X)}{y:X}(hx:Po f0 f=some y)(lab:S->Nat)(H:S->St)(KX:X->Exit->St->Prop)
  (k0:∀ y,f0=some y->GG P Γ (EG Γ (mc x) lab H KX y) (gx (mc x) []) st) (kb:∀ s y,f s=some y->GG P Γ (EG Γ (mc x) lab H KX y) (mM (mc x) (lab s)) (H s)) (ko:∀ e st',KX y e st'->GG P Γ K (dp e x) st')
  (hs:gz x=true:=by kernel_rfl):GG P Γ K x st:=by
 cases x with
 | out e fs=>cases hs
 | run c fs=>
  cases c with
  | scope c=>
   refine YT lab H f0 f KX (λy hy=>Hz (k0 y hy)) (λs y rest hf hy=>?_) hx λe st' hk=>Te (ko e st' hk);have:=kb s y hy;unfold mM mc at this;rw[hf]at this;exact Hz this
  | _=>cases hs
theorem gr{S X:Type}{x:J8}{st:St}{c:Code}{lab:S->Nat}{H:S->St}{KX:X->Exit->St->Prop}{s':S}(h:Le Γ st (H s'))(hx:x = .out (.goto (lab s')) []:=by kernel_rfl)(hf:(findLabel c (lab s')).isSome=true:=by kernel_rfl) :
  GG P Γ (EG Γ c lab H KX (.next s')) x st:=by
 subst hx;exact⟨rfl,hf,h⟩
theorem jR{S X:Type}{x:J8}{st:St}{c:Code}{lab:S->Nat}{H:S->St}{KX:X->Exit->St->Prop}{y:X}{e:Exit}(h:KX y e st)(hx:x = .out e []:=by kernel_rfl)
  (hf:(match e with | .goto l=>(findLabel c l).isNone|_=>true)=true:=by kernel_rfl):GG P Γ (EG Γ c lab H KX (.done y)) x st:=by
 subst hx;refine⟨?_,h⟩;rintro l rfl
 simpa using hf
theorem S9{α:Type}{st:St}(U:α->St->St){a b:α}(h:a=b)(h1:st=U a st:=by kernel_rfl):Le Γ st (U b st):=by subst h;exact dJ h1
theorem oF{st:St}(F F':Bool->St->St)(g:Bool)(h1:st=F g st:=by kernel_rfl)(ht:F true st=F' true st:=by kernel_rfl)(hf:F false st=F' false st:=by kernel_rfl):Le Γ st (F' g st):=by
 refine dJ (h1.trans ?_)
 cases g<;>assumption
def Own.withF(g:Nat->List AV):Own->Own
 | .arr sz e n _=>.arr sz e n g
 | o=>o
def jJ(st:St)(nm:Nat):Option (Nat×(Nat->List AV)):=match Ab st.own nm with|some (.arr _ _ n f)=>some (n,f)|_=>none
def me(nm:Nat)(g:Nat->List AV)(st:St):St:=⟨st.tmps,(match Ab st.own nm with|some o=>Cr st.own nm (o.withF g)|none=>st.own),st.fam⟩
theorem FH{nm sz n:Nat}{e:TypeId}{f g:Nat->List AV}(hp:∀ k,k<n->AVleL (f k) (g k)):∀{l:List (Nat×Own)},Ab l nm=some (.arr sz e n f)->OwnsLe l (Cr l nm (.arr sz e n g))
 | [],h=>by cases h
 | (k,o)::l,h=>by
  simp only[Ab]at h;simp only[Cr]
  cases hb:Nat.beq k nm with
  | true=>
   obtain rfl:=Bv hb;rw[hb]at h;simp only[Ad,Ae]at h;subst h;exact .arr hp (.refl _)
  | false=>
   rw[hb]at h;exact .same (FH hp h)
theorem Xh{st:St}(nm:Nat){n:Nat}{f g:Nat->List AV}(hp:∀ k,k<n->AVleL (f k) (g k))(h:jJ st nm=some (n,f):=by kernel_rfl):Le Γ st (me nm g st):=by
 unfold jJ at h;unfold me
 cases ho:Ab _ nm with
 | none=>rw[ho]at h;cases h
 | some o=>
  rw[ho]at h
  cases o with
  | arr sz e n' f'=>
   obtain⟨rfl,rfl⟩:=h;exact Jh (TmpsLe.refl _) (FH hp ho)
  | _=>cases h
def cW(st:St)(nm j:Nat):Option AV:=match Ab st.own nm with|some (.row _ cells)=>cells[j]? | _=>none
def Own.withC(j:Nat)(x:AV):Own->Own
 | .row e cells=>.row e (cells.set j x)
 | o=>o
def md(nm j:Nat)(x:AV)(st:St):St:=⟨st.tmps,(match Ab st.own nm with|some o=>Cr st.own nm (o.withC j x)|none=>st.own),st.fam⟩
theorem WW{a b:AV}(h:AVle a b):∀{l:List AV} {j:Nat},l[j]?=some a->AVleL l (l.set j b)
 | [],j,h=>by simp at h
 | x::l,0,h'=>by
  simp only[List.getElem?_cons_zero,Ae]at h';subst h';exact .cons h (.refl _)
 | x::l,j+1,h'=>by
  exact .cons (.refl _) (WW h h')
theorem FI{nm:Nat}{e:TypeId}{x y:List AV}(hp:AVleL x y):∀{l:List (Nat×Own)},Ab l nm=some (.row e x)->OwnsLe l (Cr l nm (.row e y))
 | [],h=>by cases h
 | (k,o)::l,h=>by
  simp only[Ab]at h;simp only[Cr]
  cases hb:Nat.beq k nm with
  | true=>
   obtain rfl:=Bv hb;rw[hb]at h;simp only[Ad,Ae]at h;subst h;exact .row hp (.refl _)
  | false=>
   rw[hb]at h;exact .same (FI hp h)
theorem g6{st:St}(nm j:Nat){a b:AV}(hp:AVle a b)(h:cW st nm j=some a:=by kernel_rfl):Le Γ st (md nm j b st):=by
 unfold cW at h;unfold md
 cases ho:Ab _ nm with
 | none=>rw[ho]at h;cases h
 | some o=>
  rw[ho]at h
  cases o with
  | row e cells=>exact Jh (TmpsLe.refl _) (FI (WW hp h) ho)
  | _=>cases h
theorem ah{V:Type}:JQ ([]:List (Int×V)) []:=⟨.nil,List.nodup_nil⟩
def je(nm:Nat)(x:AObj)(st:St):St:=⟨st.tmps,Cr st.own nm (.obj x),st.fam⟩
theorem ou{V:Type}{st:St}(nm:Nat)(nn:Bool)(k:IntKind){f:V->AV}{a b:List (Int×V)}(hp:JQ a b)(h:Ab st.own nm=some (.obj (.map nn k (mapE f a))):=by kernel_rfl)(hlt:Nat.blt nm A7=true:=by kernel_rfl):Le Γ st (je nm (.pmap nn k (mapE f b)) st):=
 MD _ h (λ_ _ _ _ h=>UA hp h) hlt
theorem pF{st:St}(nm:Nat)(k:IntKind)(l:List (Int×AV))(h:Ab st.own nm=some (.obj (.pmap true k l)):=by kernel_rfl)(hlt:Nat.blt nm A7=true:=by kernel_rfl):Le Γ st (je nm (.pmap false k l) st):=
 MD _ h (λ_ _ _ _ h=>ab h) hlt
theorem gI(g:Bool):g=true->g=true:=id
theorem Lr(c:Bool):c=true->(c==true)=true:=gT
theorem S5(c:Bool):c=false->(c==false)=true:=gF
theorem Cf{α:Type}(sz:Nat)(e:α->List AV)(d:α)(l:List α):AVle (.slice sz l.length (λi=>(l.map e).getD i []) .exact) (AV.list sz e d l .exact):=kC rfl λi h=>hZ l i h
theorem G4{α:Type}(sz:Nat)(e:α->List AV)(d:α):AVle (.slice 0 0 (λ_=>[]) .exact) (AV.list sz e d [] .exact):=Ei
theorem Uf{α:Type}(sz nm:Nat)(e:α->List AV)(d:α)(l m:List α):AVle (.slice sz (l.length+m.length) (Jl l.length (λi=>e (l.getD i d)) (λi=>e (m.getD i d))) (.own nm)) (AV.list sz e d (l++m) (.own nm)):=kB
def dN(x:J8)(ix tx bx:Nat):Bool:=
 match x with
 | .run (.loop (.seq (.region _ ops false) _)) _=>
  match ops.toList with
  | [o1,o2]=>
   (match o1.op,o2.op with | .next (.tmp a) false,.extract (.tmp b) 0=>Nat.beq a ix&&Nat.beq b tx|_,_=>false) &&
   (match o1.dst,o2.dst,o1.guard,o2.guard with|some a,some b,none,none=>Nat.beq a tx&&Nat.beq b bx|_,_,_,_=>false)
  | _=>false
 | _=>false
def CS:J8->J8
 | .run (.loop (.seq _ c)) _=>gx c []
 | x=>x
theorem pD{S X:Type}{x:J8}{st:St}{n:Nat}{Hf:List (Nat×Own)}(q:RgQ P Γ n Hf){len:Nat}{f:Nat->S->Option (LR S X)}{g:S->Option (LR S X)}{s0:S}(Q:X->Prop)(hx:∀ τ:List Nat,τ.Perm (List.range len)->∃ x,Tq f g τ s0=some x/\Q x)(live names:List Nat)(H:St->List Nat->S->St)(KX:St->X->Exit->St->Prop)
  (ix tx bx nm mm:Nat) (nn:Bool) (km:IntKind) (l:List (Int×AV)) (lv2 nm2:List Nat)
  (h0:A1 live names st=H (A1 live names st) [] s0:=by kernel_rfl) (hc:dN x ix tx bx=true:=by kernel_rfl) (hb:(Nat.blt tx n&&(Nat.blt bx n&&(Nat.blt nm A7&&Nat.blt mm A7)))=true:=by kernel_rfl)
  (hit:(λz s=>(H (A1 live names st) z s).get ix)=(λ_ _=>AV.optr nm mm):=by kernel_rfl) (hmi:(λz s=>Ab (H (A1 live names st) z s).own nm)=(λz _=>some (.obj (.miter (.omap mm) len z))):=by kernel_rfl)
  (hma:(λz s=>Ab (H (A1 live names st) z s).own mm)=(λ_ _=>some (.obj (.map nn km l))):=by kernel_rfl) (hlen:len=l.length:=by kernel_rfl) (hh:(Hf.all λx=>Cc x.1 names)=true:=by kernel_rfl) (hh2:(Hf.all λx=>Cc x.1 nm2)=true:=by kernel_rfl)
  (kd:∀ z s y,g s=some y->(∀ i,i<len->i∈z)->GG P Γ (M0 Γ (H (A1 live names st) z) (KX (A1 live names st)) y) (CS x) (A1 lv2 nm2 (((H (A1 live names st) z s).upd (some tx) (.tuple [.bool false]) []).upd (some bx) (.bool false) [])))
  (kn:∀ z s i y,f i s=some y->i<len->i∉z->GG P Γ (M0 Γ (H (A1 live names st) (i::z)) (KX (A1 live names st)) y) (CS x)
   (A1 lv2 nm2 (((H (A1 live names st) z s).upd (some tx) (.tuple [.bool true,.int km (l.getD i (0,.any)).1,(l.getD i (0,.any)).2]) [(nm,.obj (.miter (.omap mm) len (i::z)))]).upd (some bx) (.bool true) [])))
  (ko:∀ y,Q y->∀ e st',KX (A1 live names st) y e st'->GG P Γ K (dp e x) st'):GG P Γ K x st:=by
 unfold dN at hc
 split at hc
 ·rename_i id ops rest fs
  split at hc
  ·rename_i o1 o2 hops
   obtain rfl:ops = #[o1,o2]:=by grind
   simp only[A3]at hc;obtain⟨c1,c2⟩:=hc
   split at c1
   ·rename_i a b e1 e2
    split at c2
    ·rename_i a' b' e3 e4 e5 e6
     simp only[A3]at c1 c2;obtain rfl:=Bv c1.1;obtain rfl:=Bv c1.2;obtain rfl:=Bv c2.1;obtain rfl:=Bv c2.2;refine SZ  ?_ (OM Q len (H (A1 live names st)) f g _ (λz s hg hf=>?_) hx λy hy e st' hk=>Te (ko y hy e st' hk))
     ·rw[<- h0];exact Dh _ _ q rfl hh
     refine LN (YS q lv2 nm2 e1 e3 e5 e2 e4 e6 hb (congrFun (congrFun hit z) s) (congrFun (congrFun hmi z) s) (congrFun (congrFun hma z) s) hlen hh2 (λhall=>?_) (λi hi hn=>?_))
     ·obtain⟨y,h⟩:=hg hall;exact DN (Hz (kd z s y h hall)) (λe st' hk=>.inl ⟨y,h,hk,hall⟩)
     ·obtain⟨y,h⟩:=hf i hi hn;exact DN (Hz (kn z s i y h hi hn)) (λe st' hk=>.inr ⟨i,y,h,hk,hi,hn⟩)
    ·cases c2
   ·cases c1
  ·cases hc
 ·cases hc
theorem pC{S X:Type}{x:J8}{st:St}{n:Nat}{Hf:List (Nat×Own)}(q:RgQ P Γ n Hf){len:Nat}{f:Nat->S->Option (LR S X)}{g:S->Option (LR S X)}{s0:S}{eqv:X->X->Prop}{y:X}(hx:Wj eqv len f g s0=some y)(live names:List Nat)(H:St->List Nat->S->St)(KX:St->X->Exit->St->Prop)
  (ix tx bx nm mm:Nat) (nn:Bool) (km:IntKind) (l:List (Int×AV)) (lv2 nm2:List Nat)
  (h0:A1 live names st=H (A1 live names st) [] s0:=by kernel_rfl) (hc:dN x ix tx bx=true:=by kernel_rfl) (hb:(Nat.blt tx n&&(Nat.blt bx n&&(Nat.blt nm A7&&Nat.blt mm A7)))=true:=by kernel_rfl)
  (hit:(λz s=>(H (A1 live names st) z s).get ix)=(λ_ _=>AV.optr nm mm):=by kernel_rfl) (hmi:(λz s=>Ab (H (A1 live names st) z s).own nm)=(λz _=>some (.obj (.miter (.omap mm) len z))):=by kernel_rfl)
  (hma:(λz s=>Ab (H (A1 live names st) z s).own mm)=(λ_ _=>some (.obj (.map nn km l))):=by kernel_rfl) (hlen:len=l.length:=by kernel_rfl) (hh:(Hf.all λx=>Cc x.1 names)=true:=by kernel_rfl) (hh2:(Hf.all λx=>Cc x.1 nm2)=true:=by kernel_rfl)
  (kd:∀ z s y,g s=some y->(∀ i,i<len->i∈z)->GG P Γ (M0 Γ (H (A1 live names st) z) (KX (A1 live names st)) y) (CS x) (A1 lv2 nm2 (((H (A1 live names st) z s).upd (some tx) (.tuple [.bool false]) []).upd (some bx) (.bool false) [])))
  (kn:∀ z s i y,f i s=some y->i<len->i∉z->GG P Γ (M0 Γ (H (A1 live names st) (i::z)) (KX (A1 live names st)) y) (CS x)
   (A1 lv2 nm2 (((H (A1 live names st) z s).upd (some tx) (.tuple [.bool true,.int km (l.getD i (0,.any)).1,(l.getD i (0,.any)).2]) [(nm,.obj (.miter (.omap mm) len (i::z)))]).upd (some bx) (.bool true) [])))
  (ko:∀ y',eqv y' y->∀ e st',KX (A1 live names st) y' e st'->GG P Γ K (dp e x) st'):GG P Γ K x st:=
 pD q _ (BF hx) _ _ H KX ix tx bx nm mm nn km l lv2 nm2 h0 hc hb hit hmi hma hlen hh hh2 kd kn ko
theorem Mp{st st':St}(h:st=st':=by kernel_rfl):Le Γ st st':=h▸Le.refl Γ st
theorem ci{p q:Prop}(a:p)(b:q):p/\q:=⟨a,b⟩
theorem c1{p:Prop}(a:p):p/\True:=⟨a,trivial⟩
end
section
variable {P:Program} {Γ:G0} {K:Exit->St->Prop}
theorem tB{α β:Type}{m:Option α}{f:α->Option β}{r:β}{G:Prop}(h:m.bind f=some r)(k:∀ x,m=some x->f x=some r->G):G:=have⟨x,hx,h⟩:=bind_some h;k x hx h
theorem tC{β:Type}{c:Prop}[Decidable c]{m:Option β}{r:β}{G:Prop}(h:Ch c m=some r)(k:c->m=some r->G):G:=k (Nr h).1 (Nr h).2
@[elab_as_elim] theorem tS{α:Type}{a:α}{M:α->Prop}{b:α}(h:some a=some b)(k:M a):M b:=OI h▸k
theorem tV{x:J8}{st:St}{n:Nat}{H:List (Nat×Own)}(q:RgQ P Γ n H)(live names:List Nat){β:Type}{c:Prop}[Decidable c]{m:Option β}{r:β}(h:Ch c m=some r)
  (k:m=some r->GG P Γ K (iG x) (iH P (Spec P) n [] live names x st []))
  (h1:fT (fQ P (Spec P) n [] live names x st [])=some (c/\True,true):=by kernel_rfl) (hh:(H.all λx=>Cc x.1 names)=true:=by kernel_rfl):GG P Γ K x st:=gR q live names [] [] (c1 (Nr h).1) (k (Nr h).2) h1 hh
theorem tN{S X:Type}{x:J8}{st:St}{H:S->St}{KX:X->Exit->St->Prop}{s':S}{y:LR S X}(h:some (.next s')=some y)(h1:st=H s':=by kernel_rfl)(hx:x = .out .normal []:=by kernel_rfl):GG P Γ (M0 Γ H KX y) x st:=OI h▸gN (Mp h1) hx
theorem tL{S X α:Type}{x:J8}{st:St}{n:Nat}{Hf:List (Nat×Own)}(q:RgQ P Γ n Hf){f:S->Option (LR S X)}{s0:S}{g:X->Option α}{r:α}(h:(Ag f s0).bind g=some r)(live names:List Nat)(H:St->S->St)(KX:St->X->Exit->St->Prop)
  (kb:∀ s y,f s=some y->GG P Γ (M0 Γ (H (A1 live names st)) (KX (A1 live names st)) y) (jK x) (H (A1 live names st) s)) (ko:∀ y,g y=some r->∀ e st',KX (A1 live names st) y e st'->GG P Γ K (dp e x) st')
  (h0:A1 live names st=H (A1 live names st) s0:=by kernel_rfl) (hl:TQ x=true:=by kernel_rfl) (hh:(Hf.all λx=>Cc x.1 names)=true:=by kernel_rfl):GG P Γ K x st:=tB h λy hy h=>gL q hy live names H KX kb (ko y h) h0 hl hh
theorem tU{x:J8}{st:St}{n:Nat}{H:List (Nat×Own)}(q:RgQ P Γ n H)(live names:List Nat){O:Prop}(hO:O)
  (k:GG P Γ K (iG x) (iH P (Spec P) n [] live names x st []))
  (h:fT (fQ P (Spec P) n [] live names x st [])=some (O,true):=by kernel_rfl) (hh:(H.all λx=>Cc x.1 names)=true:=by kernel_rfl):GG P Γ K x st:=gR q live names [] [] hO k h hh
theorem tT{x:J8}{st:St}{n:Nat}{H:List (Nat×Own)}(q:RgQ P Γ n H)(live names:List Nat)(rs:List Sg){O:Prop}(hO:O)
  (k:GG P Γ K (iG x) (iH P (Spec P) n [] live names x st rs))
  (h:fT (fQ P (Spec P) n [] live names x st rs)=some (O,true):=by kernel_rfl) (hh:(H.all λx=>Cc x.1 names)=true:=by kernel_rfl):GG P Γ K x st:=gR q live names [] rs hO k h hh
theorem tW{x:J8}{st:St}{n:Nat}{H:List (Nat×Own)}(q:RgQ P Γ n H)(live names live2 names2:List Nat)
  (k:GG P Γ K (iG (iG x)) (iH P (Spec P) n [] live2 names2 (iG x) (iH P (Spec P) n [] live names x st []) []))
  (h:fT (fQ P (Spec P) n [] live names x st [])=some (True,true):=by kernel_rfl) (hh:(H.all λx=>Cc x.1 names)=true:=by kernel_rfl)
  (h2:fT (fQ P (Spec P) n [] live2 names2 (iG x) (iH P (Spec P) n [] live names x st []) [])=some (True,true):=by kernel_rfl) (hh2:(H.all λx=>Cc x.1 names2)=true:=by kernel_rfl):GG P Γ K x st:=Ak q live names (Ak q live2 names2 k h2 hh2) h hh
end
theorem Xe{R:Prop}(g:Bool)(r:R):(g=true->g=true)/\((g=true->g=true)/\(R)):=⟨id,⟨id,r⟩⟩
theorem ZL{R:Prop}(g:Bool)(r:R):(g=true->g=true)/\((g=true->g=true)/\((g=true->g=true)/\(R))):=⟨id,⟨id,⟨id,r⟩⟩⟩
theorem kT{R:Prop}(g:Bool)(r:R):(g=true->g=true)/\((g=true->g=true)/\((g=true->g=true)/\((g=true->g=true)/\(R)))):=⟨id,⟨id,⟨id,⟨id,r⟩⟩⟩⟩
theorem mH{R:Prop}(g:Bool)(r:R):(g=true->g=true)/\((g=true->g=true)/\((g=true->g=true)/\((g=true->g=true)/\((g=true->g=true)/\(R))))):=⟨id,⟨id,⟨id,⟨id,⟨id,r⟩⟩⟩⟩⟩
theorem mI{R:Prop}(g:Bool)(r:R):(g=true->g=true)/\((g=true->g=true)/\((g=true->g=true)/\((g=true->g=true)/\((g=true->g=true)/\((g=true->g=true)/\((g=true->g=true)/\(R))))))):=⟨id,⟨id,⟨id,⟨id,⟨id,⟨id,⟨id,r⟩⟩⟩⟩⟩⟩⟩
theorem pA{R:Prop}(g:Bool)(r:R):(g=true->g=true)/\((g=true->g=true)/\((g=true->g=true)/\((g=true->g=true)/\((g=true->g=true)/\((g=true->g=true)/\((g=true->g=true)/\((g=true->g=true)/\(R)))))))):=⟨id,⟨id,⟨id,⟨id,⟨id,⟨id,⟨id,⟨id,r⟩⟩⟩⟩⟩⟩⟩⟩
theorem pB{R:Prop}(g:Bool)(r:R):(g=true->g=true)/\((g=true->g=true)/\((g=true->g=true)/\((g=true->g=true)/\((g=true->g=true)/\((g=true->g=true)/\((g=true->g=true)/\((g=true->g=true)/\((g=true->g=true)/\(R))))))))):=⟨id,⟨id,⟨id,⟨id,⟨id,⟨id,⟨id,⟨id,⟨id,r⟩⟩⟩⟩⟩⟩⟩⟩⟩
theorem fP{p0 p1 R:Prop}(a0:p0)(a1:p1)(r:R):p0/\p1/\R:=⟨a0,a1,r⟩
theorem c2{p0 p1:Prop}(a0:p0)(a1:p1):p0/\p1/\True:=⟨a0,a1,trivial⟩
theorem nQ{p0 p1 p2 R:Prop}(a0:p0)(a1:p1)(a2:p2)(r:R):p0/\p1/\p2/\R:=⟨a0,a1,a2,r⟩
theorem c3{p0 p1 p2:Prop}(a0:p0)(a1:p1)(a2:p2):p0/\p1/\p2/\True:=⟨a0,a1,a2,trivial⟩
theorem oB{p0 p1 p2 p3 R:Prop}(a0:p0)(a1:p1)(a2:p2)(a3:p3)(r:R):p0/\p1/\p2/\p3/\R:=⟨a0,a1,a2,a3,r⟩
theorem c4{p0 p1 p2 p3:Prop}(a0:p0)(a1:p1)(a2:p2)(a3:p3):p0/\p1/\p2/\p3/\True:=⟨a0,a1,a2,a3,trivial⟩
theorem c5{p0 p1 p2 p3 p4:Prop}(a0:p0)(a1:p1)(a2:p2)(a3:p3)(a4:p4):p0/\p1/\p2/\p3/\p4/\True:=⟨a0,a1,a2,a3,a4,trivial⟩
theorem o8{p0 p1 p2 p3 p4 p5 R:Prop}(a0:p0)(a1:p1)(a2:p2)(a3:p3)(a4:p4)(a5:p5)(r:R):p0/\p1/\p2/\p3/\p4/\p5/\R:=⟨a0,a1,a2,a3,a4,a5,r⟩
theorem c6{p0 p1 p2 p3 p4 p5:Prop}(a0:p0)(a1:p1)(a2:p2)(a3:p3)(a4:p4)(a5:p5):p0/\p1/\p2/\p3/\p4/\p5/\True:=⟨a0,a1,a2,a3,a4,a5,trivial⟩
theorem c7{p0 p1 p2 p3 p4 p5 p6:Prop}(a0:p0)(a1:p1)(a2:p2)(a3:p3)(a4:p4)(a5:p5)(a6:p6):p0/\p1/\p2/\p3/\p4/\p5/\p6/\True:=⟨a0,a1,a2,a3,a4,a5,a6,trivial⟩
theorem c8{p0 p1 p2 p3 p4 p5 p6 p7:Prop}(a0:p0)(a1:p1)(a2:p2)(a3:p3)(a4:p4)(a5:p5)(a6:p6)(a7:p7):p0/\p1/\p2/\p3/\p4/\p5/\p6/\p7/\True:=⟨a0,a1,a2,a3,a4,a5,a6,a7,trivial⟩
theorem nR{p0 p1 p2 p3 p4 p5 p6 p7 p8 R:Prop}(a0:p0)(a1:p1)(a2:p2)(a3:p3)(a4:p4)(a5:p5)(a6:p6)(a7:p7)(a8:p8)(r:R):p0/\p1/\p2/\p3/\p4/\p5/\p6/\p7/\p8/\R:=⟨a0,a1,a2,a3,a4,a5,a6,a7,a8,r⟩
theorem c9{p0 p1 p2 p3 p4 p5 p6 p7 p8:Prop}(a0:p0)(a1:p1)(a2:p2)(a3:p3)(a4:p4)(a5:p5)(a6:p6)(a7:p7)(a8:p8):p0/\p1/\p2/\p3/\p4/\p5/\p6/\p7/\p8/\True:=⟨a0,a1,a2,a3,a4,a5,a6,a7,a8,trivial⟩
structure oe(c:List AV)(o N sz:Nat)(f:Nat->List AV):Prop where
 get:∀ i,i<N->(c.drop (o+i*sz)).take sz=f i
open Go.Shelf
def PF:Go.Shelf.Ren:=⟨fun|189=>134|125=>147|257=>146|128=>169|129=>170|294=>160|295=>161|296=>162|297=>163|298=>164|299=>165|216=>166|300=>167|301=>168|328=>177|329=>178|330=>179|331=>180|332=>181|215=>182|343=>183|n=>n,fun|28=>22|3=>3|46=>177|0=>0|51=>185|53=>32|4=>4|183=>194|182=>193|131=>197|5=>5|9=>9|218=>204|222=>208|228=>210|229=>117|n=>n,fun|n=>n⟩
theorem WV:Go.Proofs.Lays.n189 Tryz.prog PF:={
 mixed:=by kernel_rfl
 f125:=Tryz.func147.trans (B9 some (by kernel_rfl))
 f128:=Tryz.func169.trans (B9 some (by kernel_rfl))
 f129:=Tryz.func170.trans (B9 some (by kernel_rfl))
 f189:=Tryz.func134.trans (B9 some (by kernel_rfl))
 f215:=Tryz.func182.trans (B9 some (by kernel_rfl))
 f216:=Tryz.func166.trans (B9 some (by kernel_rfl))
 f257:=Tryz.func146.trans (B9 some (by kernel_rfl))
 f294:=Tryz.func160.trans (B9 some (by kernel_rfl))
 f295:=Tryz.func161.trans (B9 some (by kernel_rfl))
 f296:=Tryz.func162.trans (B9 some (by kernel_rfl))
 f297:=Tryz.func163.trans (B9 some (by kernel_rfl))
 f298:=Tryz.func164.trans (B9 some (by kernel_rfl))
 f299:=Tryz.func165.trans (B9 some (by kernel_rfl))
 f300:=Tryz.func167.trans (B9 some (by kernel_rfl))
 f301:=Tryz.func168.trans (B9 some (by kernel_rfl))
 f328:=Tryz.func177.trans (B9 some (by kernel_rfl))
 f329:=Tryz.func178.trans (B9 some (by kernel_rfl))
 f330:=Tryz.func179.trans (B9 some (by kernel_rfl))
 f331:=Tryz.func180.trans (B9 some (by kernel_rfl))
 f332:=Tryz.func181.trans (B9 some (by kernel_rfl))
 f343:=Tryz.func183.trans (B9 some (by kernel_rfl))
 t0:=Tryz.underlying0
 a0:=Tryz.isAgg0
 z0:=Tryz.sizeOf0
 v0:=Tryz.zeroValue0
 t3:=Tryz.underlying3
 a3:=Tryz.isAgg3
 z3:=Tryz.sizeOf3
 v3:=Tryz.zeroValue3
 t4:=Tryz.underlying4
 a4:=Tryz.isAgg4
 z4:=Tryz.sizeOf4
 v4:=Tryz.zeroValue4
 t5:=Tryz.underlying5
 a5:=Tryz.isAgg5
 z5:=Tryz.sizeOf5
 v5:=Tryz.zeroValue5
 t9:=Tryz.underlying9
 a9:=Tryz.isAgg9
 z9:=Tryz.sizeOf9
 v9:=Tryz.zeroValue9
 t28:=Tryz.underlying22
 a28:=Tryz.isAgg22
 z28:=Tryz.sizeOf22
 v28:=Tryz.zeroValue22
 t46:=Tryz.underlying177
 a46:=Tryz.isAgg177
 z46:=Tryz.sizeOf177
 v46:=Tryz.zeroValue177
 t51:=Tryz.underlying185
 a51:=Tryz.isAgg185
 z51:=Tryz.sizeOf185
 v51:=Tryz.zeroValue185
 t53:=Tryz.underlying32
 a53:=Tryz.isAgg32
 z53:=Tryz.sizeOf32
 v53:=Tryz.zeroValue32
 t131:=Tryz.underlying197
 a131:=Tryz.isAgg197
 z131:=Tryz.sizeOf197
 v131:=Tryz.zeroValue197
 t182:=Tryz.underlying193
 a182:=Tryz.isAgg193
 z182:=Tryz.sizeOf193
 v182:=Tryz.zeroValue193
 t183:=Tryz.underlying194
 a183:=Tryz.isAgg194
 z183:=Tryz.sizeOf194
 v183:=Tryz.zeroValue194
 t218:=Tryz.underlying204
 a218:=Tryz.isAgg204
 z218:=Tryz.sizeOf204
 v218:=Tryz.zeroValue204
 t222:=Tryz.underlying208
 a222:=Tryz.isAgg208
 z222:=Tryz.sizeOf208
 v222:=Tryz.zeroValue208
 t228:=Tryz.underlying210
 a228:=Tryz.isAgg210
 z228:=Tryz.sizeOf210
 v228:=Tryz.zeroValue210
 t229:=Tryz.underlying117
 a229:=Tryz.isAgg117
 z229:=Tryz.sizeOf117
 v229:=Tryz.zeroValue117 }
def HE:Go.Shelf.Ren:=⟨fun|15=>133|n=>n,fun|22=>22|3=>3|4=>4|n=>n,fun|n=>n⟩
theorem Y0:Go.Proofs.Lays2.n15 Tryz.prog HE:={
 mixed:=by kernel_rfl
 f15:=Tryz.func133.trans (B9 some (by kernel_rfl))
 t3:=Tryz.underlying3
 a3:=Tryz.isAgg3
 z3:=Tryz.sizeOf3
 v3:=Tryz.zeroValue3
 t4:=Tryz.underlying4
 a4:=Tryz.isAgg4
 z4:=Tryz.sizeOf4
 v4:=Tryz.zeroValue4
 t22:=Tryz.underlying22
 a22:=Tryz.isAgg22
 z22:=Tryz.sizeOf22
 v22:=Tryz.zeroValue22
 i3:=by kernel_rfl }
def HF:Go.Shelf.Ren:=⟨fun|20=>135|n=>n,fun|22=>22|3=>3|4=>4|0=>0|n=>n,fun|n=>n⟩
theorem IY:Go.Proofs.Lays2.n20 Tryz.prog HF:={
 mixed:=by kernel_rfl
 f20:=Tryz.func135.trans (B9 some (by kernel_rfl))
 t0:=Tryz.underlying0
 a0:=Tryz.isAgg0
 z0:=Tryz.sizeOf0
 v0:=Tryz.zeroValue0
 t3:=Tryz.underlying3
 a3:=Tryz.isAgg3
 z3:=Tryz.sizeOf3
 v3:=Tryz.zeroValue3
 t4:=Tryz.underlying4
 a4:=Tryz.isAgg4
 z4:=Tryz.sizeOf4
 v4:=Tryz.zeroValue4
 t22:=Tryz.underlying22
 a22:=Tryz.isAgg22
 z22:=Tryz.sizeOf22
 v22:=Tryz.zeroValue22
 i3:=by kernel_rfl }
open Go.Sort
section
variable {I:Nat->Nat->Prop} {θ:Nat->Option (Nat×Nat)} {w w':World}
theorem UI(I:Nat->Nat->Prop)(θ:Nat->Option (Nat×Nat))(w:World):Gx I (Ab []) θ w:=
 ⟨(λ_ _ _ h=>by cases h),(λ_ _ _ _ h=>by cases h),(λ_ _ _ _ _ h=>(h rfl).elim),(λ_ _ _ _ _ h=>by cases h),(λ_ _ h=>by cases h),(λ_ _ _ h=>by cases h)⟩
theorem dz{own:Nat->Option Own}{zs:Array Value}{x:AV}(h:RepL I own θ w zs.toList [x]):∃ v,zs = #[v]/\Rep I own θ w v x:=by
 obtain⟨l⟩:=zs
 cases h with
 | cons h1 h2=>cases h2;exact⟨_,rfl,h1⟩
theorem Va(hb:Below w.heap.size w w')(hval:∀ b o,I b o->∃ u,w.cell? ⟨b,o,none⟩=some u){N:Nat->Nat->Prop}(hN:∀ b o,N b o->w.heap.size<=b/\∃ u,w'.cell? ⟨b,o,none⟩=some u) :
  Chg (Ab []) θ I w (Ab []) θ (λb o=>I b o\/N b o) w':=
 have hcell:∀ b o,I b o->w'.cell? ⟨b,o,none⟩=w.cell? ⟨b,o,none⟩:=λb o hi=>by
  obtain⟨u,hu⟩:=hval b o hi;exact BM (a:=⟨b,o,none⟩) (hb.block b (L4 hu))
 {imm:=λ_ _ h=>.inl h,cell:=hcell,le:=λ_ _ h=>(by cases h),rel:=UI _ _ _,
  valid:=λb o hi=>by
   rcases hi with hi|hi
   ·obtain⟨u,hu⟩:=hval b o hi;exact⟨u,(hcell b o hi).trans hu⟩
   ·exact(hN b o hi).2,
  os:=hb.os,tape:=hb.tape,output:=hb.output,drawn:=λh=>h.elim,grow:=hb.size,frame:=λb hlt _=>hb.block b hlt,new:=λ_ _ _ h=>(h rfl).elim,
  immNew:=λb o hi=>by
   rcases hi with hi|hi
   ·exact .inl hi
   ·exact .inr (.inl (hN b o hi).1) }
end
theorem W1{w W:World}{g n:Nat}{os:Array Obj}{d:Array Int}(hb:Below w.heap.size w W)(hg:w.heap.size<=g):Below w.heap.size w (grow (putRow (Value.int .i64) (Sort.ahead W n) g 0 d) os):=by
 have k:=grownBy_sortedI (w:=W) (g:=g) (n:=n) (os:=os) d;refine hb.trans ⟨k.os,k.tape,k.output,k.size,λb hlt=>k.block b (Nat.lt_of_lt_of_le hlt hb.size) (λe=>?_)⟩;have:=OI e;omega
def LA(w W:World)(g cap n:Nat)(zs:List Int):Prop:=
 Below w.heap.size w W/\w.heap.size<=g/\∃ cur,W.heap[g]?=some (.cells cur 3 (0,0))/\n<=cap/\cap<=maxLen/\cur.size=cap/\cur.toList.take zs.length=zs.map (Value.int .i64)/\zs.length=n
theorem XE{w W:World}{v:Value}{n:Nat}{zs:List Int}(h:W.ownsRow w.heap.size 3 1 v n (zs.map (Value.int .i64)))(hne:v≠.slice none 0 0)(hb:Below w.heap.size w W):∃ g cap,v = .slice (some ⟨g,0,none⟩) n cap/\LA w W g cap n zs:=by
 have hl:zs.length=n:=by have:=h.1;simpa using this
 rcases h.2 with⟨rfl,_⟩|⟨g,cap,cur,rfl,hg,hcur,hcap,hmax,hsz,ht⟩
 ·exact(hne rfl).elim
 ·rw[Rr]at hsz ht;exact⟨g,cap,rfl,hb,hg,cur,hcur,hcap,hmax,hsz,by rw[hl];exact ht,hl⟩
theorem cQ(ad:Addr)(c:Nat)(w:World):Calls Tryz.prog 133 #[.slice (some ad) 0 c] w λe W=>∃ g cap,e = .returned (.slice (some ⟨g,0,none⟩) 0 cap)/\LA w W g cap 0 []:=
 (Any.slices_Clone_int_zero Y0 ad c w).mono λe W ⟨v,he,hown,hne,hb⟩=>by
  obtain⟨g,cap,rfl,h⟩:=XE (zs:=[]) hown hne hb;exact⟨g,cap,he,h⟩
theorem gQ(b off n c:Nat)(zs:List Int)(w:World)(hz:zs.length=n)(hbig:n<=17592186044416)(hc:∀ j,j<n->w.cell? ⟨b,off+j,none⟩=some (.int .i64 (zs.getD j 0))) :
  Calls Tryz.prog 133 #[.slice (some ⟨b,off,none⟩) n c] w λe W=>∃ g cap,e = .returned (.slice (some ⟨g,0,none⟩) n cap)/\LA w W g cap n zs:=
 (Any.slices_Clone_int Y0 b off n c zs w (by omega) (by omega) (λj hj=>hc j (by omega))).mono λe W ⟨v,he,hown,hne,hb⟩=>by
  rw[show zs.take n=zs by rw[<- hz];exact Ws ..]at hown;obtain⟨g,cap,rfl,h⟩:=XE hown hne hb;exact⟨g,cap,he,h⟩
theorem kK{w W:World}{g cap n:Nat}{zs:List Int}(h:LA w W g cap n zs)(hbig:n<=17592186044416):Calls Tryz.prog 134 #[.slice (some ⟨g,0,none⟩) n cap] W λe W2=>e = .returned (.tuple #[])/\LA w W2 g cap n (zs.mergeSort λx y=>decide (x<=y)):=by
 obtain⟨hb,hg,cur,hcur,hcap,hmax,hsz,ht,rfl⟩:=h;refine(Any.slices_Sort_int WV g 0 cap zs W (holds_of_blockI hcur ht) (Xf hcur) (by omega)).mono λe W2 ⟨he,q,os,hW⟩=>⟨he,?_⟩;subst hW;have hl:(zs.mergeSort λx y=>decide (x<=y)).length=zs.length:=List.length_mergeSort ..;have b2:=W1 (n:=q) (os:=os) (d:=(zs.mergeSort λx y=>decide (x<=y)).toArray) hb hg;exact⟨b2,hg,_,heap_sortedI _ hcur,hcap,hmax,by simp[putCells,hsz],take_putCellsI cur _ (by omega),hl⟩
theorem YX{w W:World}{g cap n:Nat}{zs:List Int}(h:LA w W g cap n zs)(hbig:n<=17592186044416):Calls Tryz.prog 135 #[.slice (some ⟨g,0,none⟩) n cap] W λe W2=>e = .returned (.slice (some ⟨g,0,none⟩) (Lib.compact zs).length cap)/\LA w W2 g cap (Lib.compact zs).length (Lib.compact zs):=by
 obtain⟨hb,hg,cur,hcur,hcap,hmax,hsz,ht,rfl⟩:=h;refine(Any.slices_Compact_int IY g 0 cap zs W (holds_of_blockI hcur ht) (by omega) hcap).mono λe W2 ⟨he,q,hW⟩=>⟨he,?_⟩;subst hW;have hcl:=Lib.compact_length_le zs
 generalize Lib.compact zs=cs at hcl ⊢
 generalize hts:cs++List.replicate (zs.length-cs.length) (0:Int)=ts
 have htl:ts.length=zs.length:=by rw[<- hts,Eo,Ye];omega
 have b2:=W1 (n:=q) (os:=#[]) (d:=ts.toArray) hb hg;have h2:=heap_sortedI (n:=q) (os:=#[]) ts.toArray hcur;rw[grow_empty]at b2 h2;have h3:=take_putCellsI cur ts (by omega);refine⟨b2,hg,_,h2,by omega,hmax,by simp[putCells,hsz],?_,rfl⟩;have:=B9 (List.take cs.length) h3;rw[List.take_take,Nat.min_eq_left (by omega),<- List.map_take,<- hts,List.take_left' rfl]at this;rw[<- hts];exact this
def fa(w w':World)(v:Value)(r:List Int):Prop:=
 (v = .slice none 0 0/\r=[])\/∃ g cap,v = .slice (some ⟨g,0,none⟩) r.length cap/\LA w w' g cap r.length r
set_option maxHeartbeats 4000000 in
set_option maxRecDepth 100000 in
theorem eU(a:Option Addr)(n c:Nat)(zs:List Int)(w:World)(hz:zs.length=n)(hn:a=none->n=0)(hbig:n<=17592186044416)
  (hc:0<n->∃ b off,a=some ⟨b,off,none⟩/\∀ j,j<n->w.cell? ⟨b,off+j,none⟩=some (.int .i64 (zs.getD j 0))) :
  Calls Tryz.prog 108 #[.slice a n c] w λe w'=>∃ v,e = .returned v/\Below w.heap.size w w'/\fa w w' v (Lib.compact (zs.mergeSort λx y=>decide (x<=y))):=by
 cases a with
 | none=>
  obtain rfl:=hn rfl;obtain rfl:zs=[]:=zzL106.1 hz
  have hr:Lib.compact (([]:List Int).mergeSort λx y=>decide (x<=y))=[]:=by simp[Lib.compact,Lib.compactUpTo]
  rw[hr];have h1:Calls Tryz.prog 133 #[.slice none 0 c] w λe w'=>e = .returned (.slice none 0 0)/\w'=w:=Any.slices_Clone_int_nil Y0 0 c w;have h2:Calls Tryz.prog 134 #[.slice none 0 0] w λe w'=>e = .returned (.tuple #[])/\w'=w:=Any.slices_Sort_int_none WV none 0 w;have h3:Calls Tryz.prog 135 #[.slice none 0 0] w λe w'=>e = .returned (.slice none 0 0)/\w'=w:=Any.slices_Compact_int_empty IY none 0 w
  go_enter Tryz.func108,Tryz.ntmps108
  go_wp2_with (first
   | (go_at_call 133;refine h1.mono ?_;rintro e W ⟨rfl,rfl⟩)
   | (go_at_call 134;refine h2.mono ?_;rintro e W ⟨rfl,rfl⟩)
   | (go_at_call 135;refine h3.mono ?_;rintro e W ⟨rfl,rfl⟩))
  go_ret
  exact⟨_,rfl,Below.refl _ _,.inl ⟨rfl,rfl⟩⟩
 | some ad=>
  have h1:Calls Tryz.prog 133 #[.slice (some ad) n c] w λe W=>∃ g cap,e = .returned (.slice (some ⟨g,0,none⟩) n cap)/\LA w W g cap n zs:=by
   by_cases h0:n=0
   ·subst h0;obtain rfl:zs=[]:=zzL106.1 hz;exact cQ ad c w
   ·obtain⟨b,off,hab,hcell⟩:=hc (by omega);obtain rfl:=OI hab;exact gQ b off n c zs w hz hbig hcell
  go_enter Tryz.func108,Tryz.ntmps108
  go_wp2_with (first
   | (go_at_call 133;refine h1.mono ?_;rintro e W ⟨g,cap,rfl,hO⟩)
   | (go_at_call 134;refine(kK hO hbig).mono ?_;rintro e W2 ⟨rfl,hO2⟩)
   | (go_at_call 135;refine(YX hO2 hbig).mono ?_;rintro e W3 ⟨rfl,hO3⟩))
  go_ret
  exact⟨_,rfl,hO3.1,.inr ⟨_,_,rfl,hO3⟩⟩
def TO(x:Int):List Int->List Int
 | []=>[x]
 | y::l=>if x<=y then x::y::l else y::TO x l
def dD:List Int->List Int
 | []=>[]
 | x::l=>TO x (dD l)
theorem insI_perm(x:Int):∀ l,(TO x l).Perm (x::l)
 | []=>.refl _
 | y::l=>by
  unfold TO
  split
  ·exact .refl _
  ·exact((insI_perm x l).cons y).trans (.swap x y l)
theorem WS{x:Int}:∀{l:List Int},l.Pairwise (·<=·)->(TO x l).Pairwise (·<=·)
 | [],_=>by simp[TO]
 | y::l,h=>by
  have h':=zzL122.1 h;unfold TO
  split
  ·rename_i hxy
   exact zzL122.2 ⟨λz hz=>by
    rcases zzL25.1 hz with rfl|hz
    ·exact hxy
    ·exact Int.le_trans hxy (h'.1 z hz),h⟩
  ·rename_i hxy
   refine zzL122.2 ⟨λz hz=>?_,WS h'.2⟩;rcases zzL25.1 ((insI_perm x l).mem_iff.1 hz) with rfl|hz
   ·omega
   ·exact h'.1 z hz
theorem IX:∀ l,(dD l).Perm l
 | []=>.refl _
 | x::l=>(insI_perm x _).trans ((IX l).cons x)
theorem WU:∀ l,(dD l).Pairwise (·<=·)
 | []=>.nil
 | x::l=>WS (WU l)
theorem WT(l:List Int):dD l=l.mergeSort λx y=>decide (x<=y):=by
 refine List.Perm.eq_of_pairwise (le:=(·<=·)) (λa b _ _ h1 h2=>Int.le_antisymm h1 h2) (WU l) ?_ ((IX l).trans (List.mergeSort_perm l _).symm);have:=List.pairwise_mergeSort (le:=λ(x y:Int)=>decide (x<=y)) (λa b c h1 h2=>by simp at *;omega) (λa b=>by simp;omega) l
 exact this.imp λh=>by simpa using h
def Yc(l:List Int):Option (List Int):=Ch (l.length<=17592186044416) (some (Lib.compact (dD l)))
theorem VC(l r:List Int)(h:Yc l=some r):Spec Tryz.prog 108 [AV.list 1 (λx=>[.int .i64 x]) (0:Int) l .none] [] (AV.list 1 (λx=>[.int .i64 x]) (0:Int) r .none) []:=by
 obtain⟨hlen,h⟩:=Nr h;rw[WT]at h;obtain rfl:=OI h;refine⟨enters_of Tryz.func108 (by kernel_rfl) rfl,λw I θ zs hargs _ hval _=>?_⟩;obtain⟨v,rfl,hv⟩:=dz hargs;obtain⟨_,a,cap,us,rfl,hcap,hmax,hz,hnn,h1,hl,hr⟩:=hv.slice_val.slice_inv
 have hint:∀ i,i<l.length->us i = .int .i64 (l.getD i 0):=λi hi=>by
  have:=hr i 0 hi (by omega);rw[Rr,Ln]at this;have h2:RepV I w (us i) (.int .i64 (l.getD i 0)):=this;exact Rep.int_inv (own:=Ab []) (θ:=θ) (.val _ _ h2)
 refine(eU a l.length cap l w rfl (λha=>by have:=hnn ha;omega) hlen (λhp=>?_)).mono λe w' ⟨v,he,hb,hout⟩=>?_
 ·obtain⟨b,rfl,hs,_,hcell⟩:=hz hp;obtain⟨blk,off,spot⟩:=b;simp only at hs hcell;subst hs;exact⟨blk,off,rfl,λj hj=>by rw[hcell j (by omega),hint j hj]⟩
 ·generalize Lib.compact (l.mergeSort λx y=>decide (x<=y))=r at hout ⊢
  rcases hout with⟨rfl,rfl⟩|⟨g,cap',rfl,_,hg,cur,hcur,hc1,hc2,hc3,htake,_⟩
  ·exact⟨_,_,θ,he,Va hb hval (N:=λ_ _=>False) (λ_ _ h=>h.elim),.val _ _ (.slice none 0 0 1 _ (λ_=>undef) (zzL7 _) (Lo _) (λh=>by cases h) (λ_=>rfl) (λj hj=>by simp at hj) (λi hi=>by cases hi) (λi c hi=>by cases hi))⟩
  ·have hcell:∀ j,j<r.length->w'.cell? ⟨g,j,none⟩=some (.int .i64 (r.getD j 0)):=λj hj=>by
    rw[Kf _ _ _ cur 3 (0,0) hcur]
    have h2:(cur.toList.take r.length)[j]?=(r.map (Value.int .i64))[j]?:=by rw[htake]
    rw[List.getElem?_take_of_lt hj,Array.getElem?_toList]at h2;rw[h2];simp[List.getD,hj]
   refine⟨_,_,θ,he,Va hb hval (N:=λb o=>b=g/\o<r.length) (λb o ⟨hbg,ho⟩=>⟨by omega,by subst hbg;exact⟨_,hcell o ho⟩⟩),.val _ _ (.slice (some ⟨g,0,none⟩) r.length cap' 1 _ (λj=>.int .i64 (r.getD j 0)) hc1 hc2 (λ_=>⟨⟨g,0,none⟩,rfl,rfl,λj hj=>.inr ⟨rfl,by simpa using hj⟩,λj hj=>by rw[Fi];exact hcell j (by omega)⟩) (λh=>by cases h) (λ_ _=>rfl) (λ_ _=>rfl) (λi c hi hc=>?_))⟩
   obtain rfl:c=0:=by omega
   rw[Rr,Ln];exact .int _ _
abbrev As:=List Int
abbrev Oc:=List (List Int)
def Ff:=[30000,37006,9100005]
def U7:=[(30000,30000),(37006,37006),(9100005,9100005)]
def Fj:=[30000,37006]
def M5:=[3,30000,37006,9100005]
def Ki:=[2,5,6,25,36007]
def Pp:=[6,30000,37006,9100005]
def RV:=[(30000,30000),(9100000,9100000),(9100001,9100001)]
def Og:=[3,4,6,7,5700]
def CF:=[(30000,30000),(37006,37006)]
def Kj:=[2,13,21]
def Lc:=[8,30000,37006]
def Ie:=[1,7,8,9]
def Sb:=[30000,37006,13000005]
def Ua:=[3,4,6,7,5700,30000]
def Lp:=[2,3,4,6,7]
def Yl:=[3,5,30000,37006,9100005]
def Ym:=[0,4,6,21,22,30,31,32]
def Yn:=[4,30000,9100000,9100001]
def Vy:=[2,5,6,7,26,27,28]
def BO:=[5,30000,37006,9100005]
def XP:=[0,2,3,8,9,16,17,18,54,55,56,62,63,64]
def XQ:=[0,2,3,5,16,17,18,24,25,26,31,32,33]
def KL:=[4,7,30000,9100000,9100001]
def Vz:=[2,5,6,7,8,9]
def KM:=[3,9,30000,37006,9100005]
def RQ:=[3,7,10,11,12,17,18,19,25]
def G3:=[0,1]
def Ub:=[2,5,6,7,8]
def Uc:=[1,3,4,5,6]
def RR:=[0,2,3,16,17,18,24,25,26]
def RS:=[0,2,3,16,17,18,54,55,56]
def en:=[(30000,30000),(37006,37006),(13000005,9200005)]
def ep:=[(30000,30000),(37006,37006),(9300005,9200005)]
def Pa:=[10,70010]
def XR:=[3,7,10,11,12,17,18,19,24,25]
def Yo:=[3,10,11,12]
def RT:=[3,10,11,12,17,18,19]
def BP:=[1,7,8,9,10]
def KN:=[3,31,30000,37006]
def Pb:=[1,3,4]
def BQ:=[1,6,7,8,9]
def XS:=[3,4,11,12,13,18,19,20]
def Kg:=[2,3]
def XT:=[0,5,12,13,14,18,19,20]
def XU:=[6,7,30000,37006,9100005]
def GS:=[1,7,8,9,16]
def V0:=[0,21,22]
def KO:=[31,30000,37006]
def KP:=[2,3,4,6,7,8]
def RU:=[0,2,3,16,17,18]
def GT:=[5,27,28,29]
def Mo:=[7,8]
def er:=[0,4,6,21,22,30,31,32,33]
def et:=[0,4,6,21,22,30,31,32,40]
def KQ:=[0,5,8,9,10]
def ez:=[0,4,6,8,21,22,30,31,32]
def e7:=[4,6,30000,9100000,9100001]
def jm:=[(30000,30000),(37006,37006),(8,9200005)]
def V1:=[2,5,6]
def KR:=[0,16,17,18]
def XV:=[2,5,6,7,8,9,10]
def e8:=[6,8,30000,37006,9100005]
def RW:=[3,30000,37006]
def XW:=[2,4,5,18,19,20]
def BR:=[0,1,10]
def RX:=[(30000,30000)]
def Qf:=[6,7]
def e9:=[2,3,4,6,7,8,11,66]
def RY:=[3,11,12,13]
def RZ:=[0,12,13,14]
def SA:=[6,18,19,25]
def fA:=[2,3,4,6,7,8,9,10]
def Sc:=[1,3]
def Sd:=[4,5]
def BS:=[0,1,5]
def KS:=[2,5,6,7]
def KT:=[18,19,20]
def XX:=[14,17,10000305]
def V2:=[2,16]
def jn:=[2,5,6,7,9,10,26,27,28,44]
def GU:=[1,4,22]
def fB:=[30000,37006,9300005]
def fC:=[2,3,4,6,7,8,11]
def XY:=[0,1,3,9,10]
def GV:=[1,2,5]
def fD:=[0,1,5,14,15,16]
def fE:=[2,3,4,6,7,8,9]
def jo:=[2,5,6,7,9,10,26,27,28]
def jp:=[4,5,30000,9100000,9100001]
def V3:=[1,2]
def V4:=[0,3]
def XZ:=[0,15,16,17]
def YA:=[0,21,22,23]
def fF:=[2,3,4,6,7,37]
def jq:=[2,5,6,7,26,27,28,29]
def SB:=[5,18,19]
def SC:=[6,18,19]
def fG:=[1,2,15,16,17]
def jr:=[2,5,6,7,9,26,27,28]
def fH:=[0,1,32,33,34]
def eh:=[10,30000,37006,9100005]
def AG:=[2,3,4]
def AH:=[4,5,6]
def NI:=[2,5,6,25]
def ei:=[2,5,6,7,8,9,10,60]
def ek:=[4,30000,37006,9100005]
def VJ:=[0,3,4,14,15]
def VK:=[0,4,6,21,22]
def NJ:=[0,2,7,8]
def VM:=[(34001,34001)]
def AJ:=[18,19]
def NK:=[3,7,8,9]
def VN:=[2,3,4,6,19]
def NL:=[3,4,6,7]
def NM:=[6,7,5700]
def NN:=[1,2,3,4]
def NO:=[1,3,4,5]
def NP:=[1,3,4,6]
def VO:=[1,23,24,25]
def GR:=[0,1,2]
def VP:=[(6004,20000)]
def VQ:=[3,38,39,40]
def VR:=[0,37,38,39]
def VS:=[0,1,12,13]
def VT:=[0,6,21,22]
set_option maxRecDepth 100000
set_option maxHeartbeats 2000000
def Ar(x:Int):List AV:=[(.int .i64 x)]
def Hu(x:As):List AV:=[(AV.list 1 Ar 0 x .none)]
structure Fh where
 Bits:Int
 Dst:Int
 From:As
 Args:As
 deriving Inhabited,DecidableEq
def Vb(x:Fh):List AV:=[(.int .i64 x.Bits),(.int .i64 x.Dst),(AV.list 1 Ar 0 x.From .none),(AV.list 1 Ar 0 x.Args .none)]
def kQ(x:List Fh):List AV:=[(AV.list 4 Vb default x .none)]
def oC(x:Int):List AV:=[(.int .u64 x)]
structure Cz where
 Kind:Int
 Bits:Int
 Lanes:Int
 Dst:Int
 Args:As
 Imm:Int
 deriving Inhabited,DecidableEq
def Yx(x:Cz):List AV:=[(.int .i64 x.Kind),(.int .i64 x.Bits),(.int .i64 x.Lanes),(.int .i64 x.Dst),(AV.list 1 Ar 0 x.Args .none),(.int .u64 x.Imm)]
def mG(x:List Cz):List AV:=[(AV.list 6 Yx default x .none)]
structure Hs where
 Kind:Int
 Arg:Int
 To:As
 deriving Inhabited,DecidableEq
def WP(x:Hs):List AV:=[(.int .i64 x.Kind),(.int .i64 x.Arg),(AV.list 1 Ar 0 x.To .none)]
structure Af where
 Phis:List Fh
 Ops:List Cz
 End:Hs
 deriving Inhabited,DecidableEq
def F3(x:Af):List AV:=[(AV.list 4 Vb default x.Phis .none),(AV.list 6 Yx default x.Ops .none),(.int .i64 x.End.Kind),(.int .i64 x.End.Arg),(AV.list 1 Ar 0 x.End.To .none)]
def cf(x:List Af):List AV:=[(AV.list 5 F3 default x .none)]
structure TFunc where
 Params:As
 Ret:Int
 Blocks:List Af
 deriving Inhabited,DecidableEq
def eTFunc(x:TFunc):List AV:=[(AV.list 1 Ar 0 x.Params .none),(.int .i64 x.Ret),(AV.list 5 F3 default x.Blocks .none)]
structure TThree where
 Block:Int
 A:Int
 B:Int
 deriving Inhabited,DecidableEq
def eTThree(x:TThree):List AV:=[(.int .i64 x.Block),(.int .i64 x.A),(.int .i64 x.B)]
abbrev Gc:=(Int×Int)
def Bs(x:Gc):List AV:=[(.int .i64 x.1),(.int .i64 x.2)]
structure G6 where
 block:Int
 at_:Int
 deriving Inhabited,DecidableEq
def CO(x:G6):List AV:=[(.int .i64 x.block),(.int .i64 x.at_)]
structure A6 where
 v:Int
 shape:Gc
 place:G6
 deriving Inhabited,DecidableEq
def Jm(x:A6):List AV:=[(.int .i64 x.v),(.int .i64 x.shape.1),(.int .i64 x.shape.2),(.int .i64 x.place.block),(.int .i64 x.place.at_)]
structure C3 where
 Succ:Oc
 Pred:Oc
 deriving Inhabited,DecidableEq
def Qm(x:C3):List AV:=[(AV.list 1 Hu [] x.Succ .none),(AV.list 1 Hu [] x.Pred .none)]
def eB(x:Bool):List AV:=[(.bool x)]
structure Ai where
 shape:Gc
 place:G6
 deriving Inhabited,DecidableEq
def Qn(x:Ai):List AV:=[(.int .i64 x.shape.1),(.int .i64 x.shape.2),(.int .i64 x.place.block),(.int .i64 x.place.at_)]
structure Aw where
 V:Int
 Scale:Int
 deriving Inhabited,DecidableEq
def D2(x:Aw):List AV:=[(.int .i64 x.V),(.int .u64 x.Scale)]
structure Az where
 Terms:List Aw
 Off:Int
 deriving Inhabited,DecidableEq
def TK(x:Az):List AV:=[(AV.list 2 D2 default x.Terms .none),(.int .u64 x.Off)]
structure TDef where
 V:Int
 Block:Int
 At:Int
 Shape:Gc
 deriving Inhabited,DecidableEq
structure Mq where
 V:Int
 Block:Int
 At:Int
 Shape:Gc
 deriving Inhabited,DecidableEq
structure nI where
 Op:List Cz
 Found:List Bool
 Form:List Az
 deriving Inhabited,DecidableEq
structure oh where
 Scale:As
 Off:Int
 deriving Inhabited,DecidableEq
theorem mix:Tryz.prog.follows .mixedOrders=true:=by kernel_rfl
abbrev sP:=Spec Tryz.prog
abbrev SH:=(Nat×Own)
theorem sG {f : FuncId} {fn : Func} {args : List AV} {H H' : List SH} {res : AV} (hf : Tryz.prog.funcs[f]? = some fn) (k : ∀ Γ : G0, RgQ Tryz.prog Γ fn.ntmps H → GG Tryz.prog Γ (fK Tryz.prog Γ fn.results.toList H res H') (gx (LO fn) []) (Yz args H)) (hb : fn.body.isSome = true := by kernel_rfl) (hname : (fn.name == "runtime.NumGoroutine") = false := by kernel_rfl) (hlen : Nat.ble args.length fn.ntmps = true := by kernel_rfl) (hpl : FL H = true := by kernel_rfl) : sP f args H res H' := Zr mix hf k hb hname hlen hpl
def Z1:=λza zb zc zd zf zg zm=>((30000,.row 110 [(AV.list 1 Ar 0 za .none),(.int .i64 zb),(AV.list 5 F3 default zc .none),(.int .i64 zd),(AV.list 1 Ar 0 zf .none),(.omap zg),(AV.list 5 Jm default zm (.own 37006))]):Nat×Own)
def Z2:=λza=>(⟨[],[],(.bool za),[],[],[]⟩:Sg)
def Z3:=λza zb zc zd zf zg zm=>([(30000,.row 110 [(AV.list 1 Ar 0 za .none),(.int .i64 zb),(AV.list 5 F3 default zc .none),(.int .i64 zd),(AV.list 1 Ar 0 zf .none),.nilm,(AV.list 5 Jm default zg (.own 37006))]),(37006,.tok 5 158 zm)]:List SH)
def Z4:=λza (zb:As)=>((za,.arr 1 3 zb.length (λi=>Ar (zb.getD i 0))):Nat×Own)
def Z5:=λza=>((AV.list 2 Bs ((0:Int),(0:Int)) za .none):AV)
def Z6:=λza=>((.int .i64 za):AV)
def Z7:=λza=>((AV.list 1 Ar 0 za .none):AV)
def Z8:=λza zb=>([(AV.list 2 D2 default za .none),(.int .u64 zb)]:List AV)
def Z9:=λza=>((37006,.tok 5 158 za):Nat×Own)
def YJ:=([(.slice 0 0 (λ_=>[]) .exact),(.int .u64 (0:Int))]:List AV)
def Mr:=((.int .i64 (0:Int)):AV)
def lx:=λza zb zc zd zf zg zm zn=>(⟨[(30000,30000),(37006,37006),(9100005,9100005)],[],(.tuple []),[(Z1 za zb zc zd zf 9100005 zg),(Z9 zm),(9100005,.obj (.map false .i64 zn))],[],[]⟩:Sg)
def SF:=((30000,.row 93 [(.omap 9100000),(.omap 9100001)]):Nat×Own)
def LF:=λza=>((AV.list 5 F3 default za .none):AV)
def DH:=λza=>(⟨[],[],(Z6 za),[],[],[]⟩:Sg)
def fw:=λza zb=>([(10,.arr 1 22 za (M1 1 Ar (0:Int) zb (Tag.fam 70010)))]:List SH)
def nJ:=λza (zb:As) (zc:As)=>((.slice 1 (bif za then zb.length else zc.length) (λi=>bif za then Ar (zb.getD i 0) else Ar (zc.getD i 0)) .none):AV)
def Od:=λza=>((.agg (TK za)):AV)
def Pq:=λza=>((.agg (Qn za)):AV)
def bP:=((AV.list 1 Ar 0 ([]:As) .exact):AV)
def ly:=λza zb zc zd zf zg=>((30000,.row 110 [(Z7 za),(Z6 zb),(LF zc),(Z6 zd),(Z7 zf),(.omap 8),(AV.list 5 Jm default zg (.own 37006))]):Nat×Own)
def IB:=λza zb=>((AV.list 1 Ar 0 za (.own zb)):AV)
def lO:=λza zb=>(⟨[],[],(.tuple [(.int .u64 za),(AV.list 2 D2 default zb .none)]),[],[],[]⟩:Sg)
def V6:=((.int .u64 (0:Int)):AV)
def lz:=λza zb zc zd zf zg zm zn zp=>([(Z1 za zb zc zd zf zg zm),(Z9 zn),(zg,.obj (.map false .i64 zp))]:List SH)
def SG:=λza=>((AV.list 1 Hu [] za .none):AV)
def ny:=λza (zb:List A6) (zc:List A6)=>((.slice 5 (bif za then zb.length else zc.length) (λi=>bif za then Jm (zb.getD i default) else Jm (zc.getD i default)) (.own 37006)):AV)
def Ld:=λza=>((.int .u64 za):AV)
def jE:=λza zb=>((.agg (Qn (mget (default:Ai) za zb))):AV)
def Sr:=λza=>((.agg (Yx za)):AV)
def YK:=λza=>(⟨[],[],(Z5 za),[],[],[]⟩:Sg)
def SR:=((.slice 0 0 (λ_=>[]) .exact):AV)
def fx:=((AV.list 2 D2 default ([]:List Aw) .exact):AV)
def oi:=λza zb zc zd zf zg=>(⟨[(2,(.clo za [] [])),(3,(.ptr 3 0)),(4,(.ptr 4 0)),(6,(.ptr 6 0)),(7,(.ptr 7 0))],[(3,.row 57 (Z8 zb zc)),(4,.row 57 (Z8 zd zf)),(6,.row 57 YJ),(7,.row 57 [(AV.list 2 D2 default ([]:List Aw) (.own 5700)),(Ld zg)]),(5700,.tok 2 134 (([]:List Aw).length))],[]⟩:St)
def LG:=λza zb zc zd zf zg zm=>([(Z1 za zb zc zd zf 9100005 zg),(Z9 zm)]:List SH)
def j5:=((AV.list 2 D2 default ([]:List Aw) .none):AV)
def j6:=λza=>((AV.list 1 Ar 0 ([za]:As) .exact):AV)
def Z38:=(⟨[(4,(AV.list 1 Ar 0 ([]:As) (.own 6004)))],[(6004,.tok 1 3 (([]:As).length))],[]⟩:St)
def nK:=((AV.list 2 Bs ((0:Int),(0:Int)) ([]:List Gc) .exact):AV)
def lP:=λza zb=>(⟨[],[],(.tuple [(Ld za),(.bool zb)]),[],[],[]⟩:Sg)
def lQ:=λza zb=>((7,.row 57 [(AV.list 2 D2 default za (.own 5700)),(Ld zb)]):Nat×Own)
def LH:=λza=>((.int .i64 (za:Int)):AV)
def ol:=λza (zb:List Af) (zc:List Af)=>((.slice 5 (bif za then zb.length else zc.length) (λi=>bif za then F3 (zb.getD i default) else F3 (zc.getD i default)) .none):AV)
def LI:=λza=>((.agg (eTFunc za)):AV)
def VZ:=λza=>((30000,.row 32 [(Ld za)]):Nat×Own)
def DI:=λza=>((.agg (Bs za)):AV)
def NQ:=((2,(.ptr 2 0)):Nat×AV)
def nz:=λza zb zc zd zf zg zm zn zp=>(⟨[(30000,30000),(37006,37006),(9100005,9100005)],[],(.bool za),(lz zb zc zd zf zg 9100005 zm zn zp),[],[]⟩:Sg)
def om:=λza (zb:As) (zc:As)=>((.slice 1 (bif (za==true) then zb.length else zc.length) (λi=>bif (za==true) then Ar (zb.getD i 0) else Ar (zc.getD i 0)) .none):AV)
def jF:=λza=>(⟨[],[],(Od za),[],[],[]⟩:Sg)
def Yp:=((.ptr 30000 0):AV)
def bQ:=λza zb=>((za,.obj (.map true .i64 zb)):Nat×Own)
def mA:=λ(za:As)=>((6,.arr 1 166 64 (λi=>Ar (za.getD i 0))):Nat×Own)
def nL:=λza zb zc zd zf zg zm zn=>(⟨[(30000,30000),(37006,37006)],[],(.bool za),(Z3 zb zc zd zf zg zm zn),[],[]⟩:Sg)
def oq:=λza zb zc zd zf zg zm=>(⟨[(2,(.clo za [] [])),(3,(.ptr 3 0)),(4,(.ptr 4 0)),(6,(.ptr 6 0)),(7,(.ptr 7 0))],[(3,.row 57 (Z8 zb zc)),(4,.row 57 (Z8 zd zf)),(6,.row 57 YJ),(7,.row 57 [zg,(Ld zm)])],[]⟩:St)
def n4:=λ(za:List Gc)=>([(30,.arr 2 73 za.length (λi=>Bs (za.getD i ((0:Int),(0:Int)))))]:List SH)
abbrev jl:=(Nat×AV)
def n5:=λza zb=>([(72,(AV.list 2 D2 default za .exact)),(73,(AV.list 2 D2 default (zb++za) (.own 5700)))]:List jl)
def n6:=λza zb zc zd zf zg zm zn zp=>(⟨[(30000,30000),(37006,37006),(9100005,9100005)],[],(.agg (CO za)),(lz zb zc zd zf zg 9100005 zm zn zp),[],[]⟩:Sg)
def bj:=((6,(.vpt 6 64 0 0)):Nat×AV)
def jG:=λza zb zc=>((.int .i64 (bif za then zb else zc)):AV)
def fN:=((.int .i64 (5:Int)):AV)
def nM:=((AV.list 5 Jm default ([]:List A6) .exact):AV)
def nN:=λza=>((AV.list 5 Jm default ([]:List A6) (.own za)):AV)
def NR:=((6,(.ptr 6 0)):Nat×AV)
def bn:=((5,(.vpt 5 64 0 0)):Nat×AV)
def fy:=((.int .i64 (2:Int)):AV)
def nO:=λza zb zc zd zf zg=>((1,.row 46 [(Z6 za),(Z6 zb),(Z6 zc),(Z6 zd),(Z7 zf),(Ld zg)]):Nat×Own)
def n7:=λza zb=>(⟨[(30000,30000),(37006,37006)],[],(Z6 za),zb,[],[]⟩:Sg)
def bR:=λza=>((6,.arr 1 166 64 za):Nat×Own)
def YL:=((4,(.ptr 4 0)):Nat×AV)
def nP:=λza=>((za,.tok 5 158 (([]:List A6).length)):Nat×Own)
def bo:=λza=>((5,.arr 1 165 64 za):Nat×Own)
def NS:=λza=>((2,.row 82 za):Nat×Own)

def Q4(aA:Int):=((decide (aA<0))==false)
def Q1:List AV:=[Mr,Mr,Mr,Mr,bP,V6]
def Q5:=(⟨[NR],[(6,.row 46 Q1)],[]⟩:St)
def Q3:AV:=(.agg [Mr,Mr,Mr,Mr,SR,V6])
def Q2:=(⟨[NR],[(6,.row 46 [Mr,Mr,Mr,Mr,(AV.list 1 Ar 0 ([]:As) .none),V6])],[]⟩:St)
def C1(a0:TFunc)(aA:Int)(aK:Int):Option Cz:=
 (bif (bif (decide (aA<0)) then true else(decide ((a0.Blocks.length:Int)<=aA))) then(some (⟨(0:Int),(0:Int),(0:Int),(0:Int),([]:As),(0:Int)⟩:Cz)) else(Ch (Bt aA a0.Blocks.length) (bif (bif (decide (aK<0)) then true else(decide ((((a0.Blocks.getD aA.toNat default).Ops).length:Int)<=aK))) then(some (⟨(0:Int),(0:Int),(0:Int),(0:Int),([]:As),(0:Int)⟩:Cz)) else(Ch (Bt aK ((a0.Blocks.getD aA.toNat default).Ops).length) (some (((a0.Blocks.getD aA.toNat default).Ops).getD aK.toNat default))))))
variable{v0:TFunc}{v1:Int}{v2:Int}{v3:Cz}
theorem J5(h:C1 v0 v1 v2=some v3):sP 19 [(LI v0),(Z6 v1),(Z6 v2)] [] (Sr v3) []:=
 sG Tryz.func19 λΓ q=>Ak q [1,2,3,6] [3,6] (tU q [1,2,3,6,16] [3,6] (kT (Q4 v1) (c1 (S5 (decide (v1<0))))) (gC h (λh=>gR q [6] [6] [(17,(.agg Q1))] [] (c1 (show(AVle Q3 (.agg Q1)) from(AVle.agg (.cons (AVle.refl _) (.cons (AVle.refl _) (.cons (AVle.refl _) (.cons (AVle.refl _) (.cons Ei (.cons (AVle.refl _) .nil))))))))) (Rz Q5 (tS h (gK (e:=.ret) (Kk [] (show Le Γ _ Q2 from Le.trans (Dh (st':=Q5) [6] [6] q) (Jh (.cons (AVle.refl _) .nil) (.row (.cons (AVle.refl _) (.cons (AVle.refl _) (.cons (AVle.refl _) (.cons (AVle.refl _) (.cons AVle.untag (.cons (AVle.refl _) .nil)))))) .nil)))))))) λh=>tV q [2,6,7] [6] h λh=>tU q [2,6,7,31] [6] (ZL ((decide (v2<0))==false) (c1 (S5 (decide (v2<0))))) (gC h (λh=>gR q [6] [6] [(32,(.agg Q1))] [] (c1 (show(AVle Q3 (.agg Q1)) from(AVle.agg (.cons (AVle.refl _) (.cons (AVle.refl _) (.cons (AVle.refl _) (.cons (AVle.refl _) (.cons Ei (.cons (AVle.refl _) .nil))))))))) (Rz Q5 (tS h (gK (e:=.ret) (Kk [] (show Le Γ _ Q2 from Le.trans (Dh (st':=Q5) [6] [6] q) (Jh (.cons (AVle.refl _) .nil) (.row (.cons (AVle.refl _) (.cons (AVle.refl _) (.cons (AVle.refl _) (.cons (AVle.refl _) (.cons AVle.untag (.cons (AVle.refl _) .nil)))))) .nil)))))))) λh=>tV q [6] [6] h λh=>tS h (Ce []))))
def Q6(a2:Cz):List SH:=[(nO a2.Kind a2.Bits a2.Lanes a2.Dst a2.Args a2.Imm)]
def Dx(a2:Cz):Option Int:=
 (Option.bind (α:=Int) (Option.bind (α:=Bool) (bif (a2.Kind==16) then(some (a2.Kind==16)) else(some (a2.Kind==17))) (λx3=>(bif x3 then(some (0:Int)) else(Option.bind (α:=Bool) (bif (a2.Kind==18) then(some (a2.Kind==18)) else(some (a2.Kind==19))) (λx6=>(bif x6 then(some (1:Int)) else(some (a2.Args.length:Int)))))))) (λx8=>(bif (decide ((a2.Args.length:Int)<=x8)) then(some (0:Int)) else(Ch (Bt x8 a2.Args.length) (some (a2.Args.getD x8.toNat 0))))))
theorem Ja(h:Dx v3=some v1):sP 20 [(Sr v3)] [] (.int .i64 v1) []:=
 sG Tryz.func20 λΓ q=>tW q [1] [1] Sc [1] (tB h λx8 y8 h=>gJ y8 (λi1=>aG Γ .normal (⟨[(1,(.ptr 1 0)),(3,(Z6 i1))],(Q6 v3),[]⟩:St)) (λy h=>Ak q [1,3,8] [1] (tB h λx3 y3 h=>gJ y3 (λb2=>aG Γ .normal (⟨[(1,(.ptr 1 0)),(3,(LH v3.Args.length)),(8,(Z6 v3.Kind)),(9,(.bool b2))],(Q6 v3),[]⟩:St)) (λy h=>Ak q [1,3,8,9] [1] (gC h (λh=>tS h (gK (Dq Mp))) λh=>Ak q [1,3,8,9] [1] (tS h (gK (Dq Mp))))) (gA (gC h (λh=>Ak q Sc [1] (tS h (gK (Dq Mp)))) λh=>tB h λx6 y6 h=>gJ y6 (λb5=>aG Γ .normal (⟨[(1,(.ptr 1 0)),(3,(LH v3.Args.length)),(12,(.bool b5))],(Q6 v3),[]⟩:St)) (λy h=>Ak q [1,3,8,12] [1] (gC h (λh=>tS h (gK (Dq (Dh [1,3,12] [1] q)))) λh=>Ak q [1,3,12] [1] (tS h (gK (Dq Mp))))) (gA (gC h (λh=>Ak q Sc [1] (tS h (gK (Dq Mp)))) λh=>tS h (gK (Dq (Dh Sc [1] q))))))))) (gA (Ak q [1,3,19] [1] (gC h (λh=>Ak q [2] [] (tS h (Ce []))) λh=>tV q [2] [] h λh=>tS h (Ce [])))))
abbrev lT:=(LR (Int×Int) Int)
def Ks(a0:TFunc):Gc->Option lT:=
 λ((i1,i2):Gc)=>(bif (decide (i2<(a0.Blocks.length:Int))) then(Ch (Bt i2 a0.Blocks.length) (some (.next ((Bh (i1+(Bh ((((a0.Blocks.getD i2.toNat default).Phis).length:Int)+(((a0.Blocks.getD i2.toNat default).Ops).length:Int))))),(Bh (i2+1)))))) else(some (.done i1)))
def Ou(a0:TFunc):Option Int:=
 ((Ag (Ks a0) ((a0.Blocks.length:Int),(0:Int))).bind (λx5=>(some x5)))
theorem MM(h:Ou v0=some v1):sP 102 [(LI v0)] [] (.int .i64 v1) []:=
 sG Tryz.func102 λΓ q=>tW q [1] [1] Sc [1] (Ak q Yo [] (tL q h Yo [] (λu (i1,i2)=>(Fg u [(3,(Z6 i1)),(12,(Z6 i2))] [])) (λu i3=>aG Γ (.exit 0) (⟨[(3,(Z6 i3))],[],[]⟩:St)) (λ⟨i1,i2⟩ y h=>Ak q [3,10,11,12,13] [] (gC h (λh=>tV q [3,5,10,11,12] [5] h λh=>tW q Yo [] Yo [] (tN h)) λh=>tS h (gO (Dq (Dh [3] [] q))))) λx5 h=>gA (Ak q [2] [] (tS h (Ce [])))))
def Gr(aB:As):Int->Option (LR Int (Unit ⊕ Bool)):=
 λ(i1:Int)=>(bif (decide (i1<(aB.length:Int))) then(Ch (Bt i1 aB.length) (bif (bif (decide ((aB.getD i1.toNat 0)<0)) then true else(decide ((2147483647:Int)<(aB.getD i1.toNat 0)))) then(some (.done (.inr false))) else(some (.next (Bh (i1+1)))))) else(some (.done (.inl ()))))
def Wx(Γ:G0)(aB:As)(r:Bool):Exit->St->Prop:=fK Tryz.prog Γ Tryz.f103.results.toList [] (.bool r) []
def C2(aB:As):Option Bool:=
 ((Ag (Gr aB) (0:Int)).bind (λx3=>(match x3 with|(.inl _)=>(some true)|(.inr r5)=>(some r5))))
variable{v4:As}{v5:Bool}
theorem Er(h:C2 v4=some v5):sP 103 [(Z7 v4)] [] (.bool v5) []:=
 sG Tryz.func103 λΓ q=>tW q [0] [] [5,6,7] [] (tL q h [5,6,7] [] (λu i1=>(Fg u [(7,(Z6 i1))] [])) (λu x_=>match x_ with|(.inl _)=>aG Γ (.exit 0) (⟨[],[],[]⟩:St)|(.inr r_)=>aR (Wx Γ v4 r_)) (λi1 y h=>Ak q [5,6,7,8] [] (gC h (λh=>tV q [4,5,6,7] [] h λh=>tU q [5,6,7,16] [] (c2 (gI ((decide ((v4.getD i1.toNat 0)<0))==false)) (S5 (decide ((v4.getD i1.toNat 0)<0)))) (gC h (λh=>Ak q [2] [] (tS h (gO (Sx (Kk [] (Le.refl _ _)))))) λh=>Ak q [5,6,7] [] (tN h))) λh=>tS h (gO (Dq (Dh [] [] q))))) λx3 h=>(match x3,h with | .inl _,h=>gA (Ak q [2] [] (tS h (Ce []))) | .inr r5,h=>Xd (λst' hk=>tS h (gK hk))))
def Fb(aB:As):Option Bool:=
 ((bif ((decide ((aB.length:Int)<=64))==true) then C2 aB else some false).bind λx1=>(some (bif (decide ((aB.length:Int)<=64)) then x1 else false)))
theorem Jb(h:Fb v4=some v5):sP 145 [(Z7 v4)] [] (.bool v5) []:=
 sG Tryz.func145 λΓ q=>Ak q [0] [] (tB h λx1 y1 h=>tT q [2] [] [(Z2 x1)] (c3 (gI ((decide ((v4.length:Int)<=64))==true)) (λ(hg:((decide ((v4.length:Int)<=64))==true)=true)=>(Er (Bo hg y1))) (Lr (decide ((v4.length:Int)<=64)))) (tS h (Ce [])))
def Ku(aX:Fh):Option Bool:=
 ((C2 ([aX.Bits,aX.Dst]:As)).bind λx1=>((bif (x1==true) then Fb aX.From else some false).bind λx2=>((bif ((bif x1 then x2 else false)==true) then Fb aX.Args else some false).bind λx3=>(some (bif (bif x1 then x2 else false) then x3 else false)))))
variable{v6:Fh}
theorem CA(h:Ku v6=some v5):sP 129 [(.agg (Vb v6))] [] (.bool v5) []:=
 sG Tryz.func129 λΓ q=>Ak q [1] [1] (tB h λx1 y1 h=>tB h λx2 y2 h=>tB h λx3 y3 h=>gR q [2] [] [(7,(AV.list 1 Ar 0 ([v6.Bits,v6.Dst]:As) .exact))] [(Z2 x1),(Z2 x2),(Z2 x3)] (fP (Cf 1 Ar (0:Int) ([v6.Bits,v6.Dst]:As)) (Er y1) (Xe (x1==true) (fP (λ(hg:(x1==true)=true)=>(Jb (Bo hg y2))) (Lr x1) (Xe ((bif x1 then x2 else false)==true) (c2 (λ(hg:((bif x1 then x2 else false)==true)=true)=>(Jb (Bo hg y3))) (Lr (bif x1 then x2 else false))))))) (tS h (Ce [])))
def Ex(aB:List Fh):Int->Option (LR Int (Unit ⊕ Bool)):=
 λ(i1:Int)=>(bif (decide (i1<(aB.length:Int))) then(Ch (Bt i1 aB.length) ((Ku (aB.getD i1.toNat default)).bind λx3=>(bif (!x3) then(some (.done (.inr false))) else(some (.next (Bh (i1+1))))))) else(some (.done (.inl ()))))
def Sf(Γ:G0)(aB:List Fh)(r:Bool):Exit->St->Prop:=fK Tryz.prog Γ Tryz.f128.results.toList [] (.bool r) []
def F6(aB:List Fh):Option Bool:=
 ((Ag (Ex aB) (0:Int)).bind (λx4=>(match x4 with|(.inl _)=>(some true)|(.inr r6)=>(some r6))))
variable{v7:List Fh}
theorem Rh(h:F6 v7=some v5):sP 128 [(AV.list 4 Vb default v7 .none),(.clo 129 [] [])] [] (.bool v5) []:=
 sG Tryz.func128 λΓ q=>tW q G3 [] Ie [] (tL q h Ie [] (λu i1=>(Fg u [(9,(Z6 i1))] [])) (λu x_=>match x_ with|(.inl _)=>aG Γ (.exit 0) (⟨[],[],[]⟩:St)|(.inr r_)=>aR (Sf Γ v7 r_)) (λi1 y h=>Ak q BP [] (gC h (λh=>tV q BQ [6] h λh=>tB h λx3 y3 h=>tT q GS [] [(Z2 x3)] (c1 (CA y3)) (gC h (λh=>Ak q [4] [] (tS h (gO (Sx (Kk [] (Le.refl _ _)))))) λh=>Ak q Ie [] (tN h))) λh=>tS h (gO (Dq (Dh [] [] q))))) λx4 h=>(match x4,h with | .inl _,h=>gA (Ak q [4] [] (tS h (Ce []))) | .inr r6,h=>Xd (λst' hk=>tS h (gK hk))))
def L8(a2:Cz):Option Bool:=
 ((C2 ([a2.Kind,a2.Bits,a2.Lanes,a2.Dst]:As)).bind λx1=>((bif (x1==true) then Fb a2.Args else some false).bind λx2=>(some (bif x1 then x2 else false))))
theorem EY(h:L8 v3=some v5):sP 131 [(Sr v3)] [] (.bool v5) []:=
 sG Tryz.func131 λΓ q=>Ak q [1] [1] (tB h λx1 y1 h=>tB h λx2 y2 h=>gR q [2] [] [(11,(AV.list 1 Ar 0 ([v3.Kind,v3.Bits,v3.Lanes,v3.Dst]:As) .exact))] [(Z2 x1),(Z2 x2)] (fP (Cf 1 Ar (0:Int) ([v3.Kind,v3.Bits,v3.Lanes,v3.Dst]:As)) (Er y1) (Xe (x1==true) (c2 (λ(hg:(x1==true)=true)=>(Jb (Bo hg y2))) (Lr x1)))) (tS h (Ce [])))
def E7(aB:List Cz):Int->Option (LR Int (Unit ⊕ Bool)):=
 λ(i1:Int)=>(bif (decide (i1<(aB.length:Int))) then(Ch (Bt i1 aB.length) ((L8 (aB.getD i1.toNat default)).bind λx3=>(bif (!x3) then(some (.done (.inr false))) else(some (.next (Bh (i1+1))))))) else(some (.done (.inl ()))))
def Su(Γ:G0)(aB:List Cz)(r:Bool):Exit->St->Prop:=fK Tryz.prog Γ Tryz.f130.results.toList [] (.bool r) []
def Gq(aB:List Cz):Option Bool:=
 ((Ag (E7 aB) (0:Int)).bind (λx4=>(match x4 with|(.inl _)=>(some true)|(.inr r6)=>(some r6))))
variable{v8:List Cz}
theorem Sn(h:Gq v8=some v5):sP 130 [(AV.list 6 Yx default v8 .none),(.clo 131 [] [])] [] (.bool v5) []:=
 sG Tryz.func130 λΓ q=>tW q G3 [] Ie [] (tL q h Ie [] (λu i1=>(Fg u [(9,(Z6 i1))] [])) (λu x_=>match x_ with|(.inl _)=>aG Γ (.exit 0) (⟨[],[],[]⟩:St)|(.inr r_)=>aR (Su Γ v8 r_)) (λi1 y h=>Ak q BP [] (gC h (λh=>tV q BQ [6] h λh=>tB h λx3 y3 h=>tT q GS [] [(Z2 x3)] (c1 (EY y3)) (gC h (λh=>Ak q [4] [] (tS h (gO (Sx (Kk [] (Le.refl _ _)))))) λh=>Ak q Ie [] (tN h))) λh=>tS h (gO (Dq (Dh [] [] q))))) λx4 h=>(match x4,h with | .inl _,h=>gA (Ak q [4] [] (tS h (Ce []))) | .inr r6,h=>Xd (λst' hk=>tS h (gK hk))))
def Kt(aJ:Hs):Option Bool:=
 ((C2 ([aJ.Kind,aJ.Arg]:As)).bind λx1=>((bif (x1==true) then Fb aJ.To else some false).bind λx2=>(some (bif x1 then x2 else false))))
variable{v9:Hs}
theorem BZ(h:Kt v9=some v5):sP 132 [(.agg (WP v9))] [] (.bool v5) []:=
 sG Tryz.func132 λΓ q=>Ak q [1] [1] (tB h λx1 y1 h=>tB h λx2 y2 h=>gR q [2] [] [(7,(AV.list 1 Ar 0 ([v9.Kind,v9.Arg]:As) .exact))] [(Z2 x1),(Z2 x2)] (fP (Cf 1 Ar (0:Int) ([v9.Kind,v9.Arg]:As)) (Er y1) (Xe (x1==true) (c2 (λ(hg:(x1==true)=true)=>(Jb (Bo hg y2))) (Lr x1)))) (tS h (Ce [])))
def I5(aL:Af):Option Bool:=
 ((F6 aL.Phis).bind λx1=>((bif (x1==true) then Gq aL.Ops else some false).bind λx2=>((bif ((bif x1 then x2 else false)==true) then Kt (⟨aL.End.Kind,aL.End.Arg,aL.End.To⟩:Hs) else some false).bind λx3=>(some (bif (bif x1 then x2 else false) then x3 else false)))))
variable{v10:Af}
theorem Xw(h:I5 v10=some v5):sP 105 [(.agg (F3 v10))] [] (.bool v5) []:=
 sG Tryz.func105 λΓ q=>Ak q [1] [1] (tB h λx1 y1 h=>tB h λx2 y2 h=>tB h λx3 y3 h=>tT q [2] [] [(Z2 x1),(Z2 x2),(Z2 x3)] (ci (Rh y1) (Xe (x1==true) (fP (λ(hg:(x1==true)=true)=>(Sn (Bo hg y2))) (Lr x1) (Xe ((bif x1 then x2 else false)==true) (c2 (λ(hg:((bif x1 then x2 else false)==true)=true)=>(BZ (Bo hg y3))) (Lr (bif x1 then x2 else false))))))) (tS h (Ce [])))
def D6(aB:List Af):Int->Option (LR Int (Unit ⊕ Bool)):=
 λ(i1:Int)=>(bif (decide (i1<(aB.length:Int))) then(Ch (Bt i1 aB.length) ((I5 (aB.getD i1.toNat default)).bind λx3=>(bif (!x3) then(some (.done (.inr false))) else(some (.next (Bh (i1+1))))))) else(some (.done (.inl ()))))
def Ps(Γ:G0)(aB:List Af)(r:Bool):Exit->St->Prop:=fK Tryz.prog Γ Tryz.f104.results.toList [] (.bool r) []
def E6(aB:List Af):Option Bool:=
 ((Ag (D6 aB) (0:Int)).bind (λx4=>(match x4 with|(.inl _)=>(some true)|(.inr r6)=>(some r6))))
variable{v11:List Af}
theorem Pm(h:E6 v11=some v5):sP 104 [(LF v11),(.clo 105 [] [])] [] (.bool v5) []:=
 sG Tryz.func104 λΓ q=>tW q G3 [] Ie [] (tL q h Ie [] (λu i1=>(Fg u [(9,(Z6 i1))] [])) (λu x_=>match x_ with|(.inl _)=>aG Γ (.exit 0) (⟨[],[],[]⟩:St)|(.inr r_)=>aR (Ps Γ v11 r_)) (λi1 y h=>Ak q BP [] (gC h (λh=>tV q BQ [6] h λh=>tB h λx3 y3 h=>tT q GS [] [(Z2 x3)] (c1 (Xw y3)) (gC h (λh=>Ak q [4] [] (tS h (gO (Sx (Kk [] (Le.refl _ _)))))) λh=>Ak q Ie [] (tN h))) λh=>tS h (gO (Dq (Dh [] [] q))))) λx4 h=>(match x4,h with | .inl _,h=>gA (Ak q [4] [] (tS h (Ce []))) | .inr r6,h=>Xd (λst' hk=>tS h (gK hk))))
def Q8(a0:TFunc):=(decide ((a0.Blocks.length:Int)<1))
def Q7(a0:TFunc):=(decide ((16:Int)<(a0.Params.length:Int)))
def Qy(a0:TFunc):Option Bool:=
 (bif (bif (decide ((a0.Blocks.length:Int)<1)) then true else(decide ((64:Int)<(a0.Blocks.length:Int)))) then(some false) else((bif ((decide ((16:Int)<(a0.Params.length:Int)))==false) then Ou a0 else some (0:Int)).bind λx1=>(bif (bif (decide ((16:Int)<(a0.Params.length:Int))) then true else(decide ((512:Int)<x1))) then(some false) else((C2 a0.Params).bind λx2=>((bif (x2==true) then C2 ([a0.Ret]:As) else some false).bind λx3=>((bif ((bif x2 then x3 else false)==true) then E6 a0.Blocks else some false).bind λx4=>(some (bif (bif x2 then x3 else false) then x4 else false))))))))
theorem QC(h:Qy v0=some v5):sP 82 [(LI v0)] [] (.bool v5) []:=
 sG Tryz.func82 λΓ q=>Ak q [1] [1] (tU q [1,12] [1] (ZL ((Q8 v0)==false) (c1 (S5 (Q8 v0)))) (gC h (λh=>Ak q [2] [] (tS h (Ce []))) λh=>tB h λx1 y1 h=>tT q [1,21] [1] [(DH x1)] (c4 (gI ((Q7 v0)==false)) (λ(hg:((Q7 v0)==false)=true)=>(MM (Bo hg y1))) (gI ((Q7 v0)==false)) (S5 (Q7 v0))) (gC h (λh=>Ak q [2] [] (tS h (Ce []))) λh=>tB h λx2 y2 h=>tB h λx3 y3 h=>tB h λx4 y4 h=>gR q [2] [] [(28,(j6 v0.Ret))] [(Z2 x2),(Z2 x3),(Z2 x4)] (ci (Er y2) (Xe (x2==true) (oB (show((x2==true)=true->(AVle (.slice 1 1 (λi=>([[(Z6 v0.Ret)]]:List (List AV)).getD i []) .exact) (j6 v0.Ret))) from(λhg=>@(Cf 1 Ar (0:Int) ([v0.Ret]:As)))) (gI (x2==true)) (λ(hg:(x2==true)=true)=>(Er (Bo hg y3))) (Lr x2) (Xe ((bif x2 then x3 else false)==true) (c2 (λ(hg:((bif x2 then x3 else false)==true)=true)=>(Pm (Bo hg y4))) (Lr (bif x2 then x3 else false))))))) (tS h (Ce [])))))
def Im(aaC:Bool)(aJ:Int):Option Int:=
 (bif aaC then(some (0:Int)) else(some aJ))
theorem R3(h:Im v5 v1=some v2):sP 81 [(.bool v5),(Z6 v1)] [] (.int .i64 v2) []:=
 sG Tryz.func81 λΓ q=>tW q G3 [] [1,5] [] (gC h (λh=>Ak q [4] [] (tS h (Ce []))) λh=>Ak q [4] [] (tS h (Ce [])))
abbrev bI:=(Int×TFunc×Int×As×List A6)
def Gn(a1:TFunc)(a4:Int)(a9:As)(a5:List A6):Option bI:=
 ((Qy a1).bind λx1=>((Im x1 (4:Int)).bind λx2=>(some (x2,a1,a4,a9,a5))))
variable{v12:List A6}{v13:bI}
theorem Sk(h:Gn v0 v1 v4 v12=some v13):sP 71 [Yp] (Z3 v0.Params v0.Ret v0.Blocks v1 v4 v12 v12.length) (Z6 v13.1) (Z3 v13.2.1.Params v13.2.1.Ret v13.2.1.Blocks v13.2.2.1 v13.2.2.2.1 v13.2.2.2.2 v13.2.2.2.2.length):=
 sG Tryz.func71 λΓ q=>Ak q [0] Fj (tB h λx1 y1 h=>tB h λx2 y2 h=>tT q [2] Fj [(Z2 x1),(DH x2)] (c2 (QC y1) (R3 y2)) (tS h (Ce CF)))
def Hy(aO:Int):Option Bool:=
 (some (bif (decide ((1:Int)<=aO)) then(decide (aO<=64)) else false))
theorem P0(h:Hy v1=some v5):sP 106 [(Z6 v1)] [] (.bool v5) []:=
 sG Tryz.func106 λΓ q=>Ak q [0] [] (tU q [2] [] (c2 (gI ((decide ((1:Int)<=v1))==true)) (Lr (decide ((1:Int)<=v1)))) (tS h (Ce [])))
def Gg(aK:Int)(aO:Int):Option Bool:=
 (some (bif (decide ((0:Int)<=aK)) then(decide (aK<aO)) else false))
theorem L1(h:Gg v1 v2=some v5):sP 111 [(Z6 v1),(Z6 v2)] [] (.bool v5) []:=
 sG Tryz.func111 λΓ q=>Ak q G3 [] (tU q [4] [] (Xe ((decide ((0:Int)<=v1))==true) (c1 (Lr (decide ((0:Int)<=v1))))) (tS h (Ce [])))
def B3(aJ:Hs)(aO:Int):Int->Option (LR Int (Unit ⊕ Bool)):=
 λ(i7:Int)=>(bif (decide (i7<(aJ.To.length:Int))) then(Ch (Bt i7 aJ.To.length) ((bif (((aJ.To.getD i7.toNat 0)==0)==false) then Gg (aJ.To.getD i7.toNat 0) aO else some false).bind λx9=>(bif (bif ((aJ.To.getD i7.toNat 0)==0) then true else(!x9)) then(some (.done (.inr false))) else(some (.next (Bh (i7+1))))))) else(some (.done (.inl ()))))
def Rs(Γ:G0)(aJ:Hs)(aO:Int)(r:Bool):Exit->St->Prop:=fK Tryz.prog Γ Tryz.f107.results.toList [] (.bool r) []
def Q9(aJ:Hs)(i7:Int):=((aJ.To.getD i7.toNat 0)==0)
def Jx(aJ:Hs)(aO:Int):Option Bool:=
 (Option.bind (α:=(Int ⊕ Bool)) (Option.bind (α:=Bool) (bif (aJ.Kind==0) then(some (aJ.Kind==0)) else(some (aJ.Kind==3))) (λx3=>(bif x3 then(some (.inl (0:Int))) else(bif (aJ.Kind==1) then(some (.inl (1:Int))) else(bif (aJ.Kind==2) then(some (.inl (2:Int))) else(some (.inr false))))))) (λx5=>(match x5 with|(.inl i1)=>(bif ((aJ.To.length:Int)!=i1) then(some false) else((Ag (B3 aJ aO) (0:Int)).bind (λx10=>(match x10 with|(.inl _)=>(some true)|(.inr r12)=>(some r12)))))|(.inr r13)=>(some r13))))
theorem Zk(h:Jx v9 v1=some v5):sP 107 [(.agg (WP v9)),(Z6 v1)] [] (.bool v5) []:=
 sG Tryz.func107 λΓ q=>tW q V3 [2] GV [2] (tB h λx5 y5 h=>gJ y5 (λx_=>match x_ with|(.inl i1)=>aG Γ .normal (⟨[(1,(Z6 v1)),NQ,(5,(Z6 i1))],[(2,.row 39 [(Z6 v9.Kind),(Z6 v9.Arg),(Z7 v9.To)])],[]⟩:St)|(.inr r_)=>aR (Rs Γ v9 v1 r_)) (λy h=>Ak q [1,2,5,9] [2] (tB h λx3 y3 h=>gJ y3 (λb2=>aG Γ .normal (⟨[(1,(Z6 v1)),NQ,(5,Mr),(9,(Z6 v9.Kind)),(10,(.bool b2))],[(2,.row 39 [(Z6 v9.Kind),(Z6 v9.Arg),(Z7 v9.To)])],[]⟩:St)) (λy h=>Ak q [1,2,5,9,10] [2] (gC h (λh=>tS h (gK (Dq Mp))) λh=>Ak q [1,2,5,9,10] [2] (tS h (gK (Dq Mp))))) (gA (gC h (λh=>tS h (gK (Dq (Dh GV [2] q)))) λh=>Ak q [1,2,9,13] [2] (gC h (λh=>Ak q GV [2] (tS h (gK (Dq Mp)))) λh=>Ak q [1,2,15] [2] (gC h (λh=>Ak q GV [2] (tS h (gK (Dq Mp)))) λh=>Ak q [4] [] (tS h (gK (Sx (Kk [] (Le.refl _ _))))))))))) (match x5,h with | .inl i1,h=>gA (Ak q [1,2,21] [2] (gC h (λh=>Ak q [4] [] (tS h (Ce []))) λh=>Ak q VO [] (tL q h VO [] (λu i7=>(Fg u [(25,(Z6 i7))] [])) (λu x_=>match x_ with|(.inl _)=>aG Γ (.exit 1) (⟨[],[],[]⟩:St)|(.inr r_)=>aR (Rs Γ v9 v1 r_)) (λi7 y h=>Ak q [1,23,24,25,26] [] (gC h (λh=>tV q [1,7,23,24,25] [] h λh=>tB h λx9 y9 h=>tT q [1,23,24,25,36] [] [(Z2 x9)] (Xe ((Q9 v9 i7)==false) (c3 (λ(hg:((Q9 v9 i7)==false)=true)=>(L1 (Bo hg y9))) (gI ((Q9 v9 i7)==false)) (S5 (Q9 v9 i7)))) (gC h (λh=>Ak q [4] [] (tS h (gO (Sx (Kk [] (Le.refl _ _)))))) λh=>Ak q VO [] (tN h))) λh=>tS h (gO (Dq (Dh [] [] q))))) λx10 h=>(match x10,h with | .inl _,h=>gA (Ak q [4] [] (tS h (Ce []))) | .inr r12,h=>Xd (λst' hk=>tS h (gK hk)))))) | .inr r13,h=>Xd (λst' hk=>tS h (gK hk))))
abbrev lU:=(Int×Oc)
def D7(aC:Oc)(i2:Int):lU->Option (LR (Int×Oc) Oc):=
 λ((i6,l7):lU)=>(bif (decide (i6<((aC.getD i2.toNat []).length:Int))) then(Ch (Bt i6 (aC.getD i2.toNat []).length) (Ch (Bt ((aC.getD i2.toNat []).getD i6.toNat 0) l7.length) (Ch (Bt ((aC.getD i2.toNat []).getD i6.toNat 0) l7.length) (Ch ((l7.getD ((aC.getD i2.toNat []).getD i6.toNat 0).toNat []).length+([i2]:As).length<=room) (Ch (Bt ((aC.getD i2.toNat []).getD i6.toNat 0) l7.length) (some (.next ((Bh (i6+1)),(l7.set ((aC.getD i2.toNat []).getD i6.toNat 0).toNat ((l7.getD ((aC.getD i2.toNat []).getD i6.toNat 0).toNat [])++([i2]:As))))))))))) else(some (.done l7)))
def D8(aC:Oc):lU->Option (LR (Int×Oc) Oc):=
 λ((i2,l3):lU)=>(bif (decide (i2<(aC.length:Int))) then(Ch (Bt i2 aC.length) ((Ag (D7 aC i2) ((0:Int),l3)).bind (λx14=>(some (.next ((Bh (i2+1)),x14)))))) else(some (.done l3)))
def fj(i2:Int):=([i2]:As)
def bN(aC:Oc)(i2:Int)(i6:Int):=((aC.getD i2.toNat []).getD i6.toNat 0)
def bZ(l7:Oc)(aC:Oc)(i2:Int)(i6:Int):=(l7.getD (bN aC i2 i6).toNat [])
def ju(aC:Oc):=(List.replicate (aC.length:Int).toNat ([]:As))
def lp(l7:Oc)(aC:Oc)(i2:Int)(i6:Int):=(l7.set (bN aC i2 i6).toNat ((bZ l7 aC i2 i6)++(fj i2)))
def nT(aC:Oc):List jl:=[(0,(SG aC)),(3,(.vsl 10 (aC.length:Int).toNat))]
def oO(l7:Oc)(i2:Int)(aC:Oc)(i6:Int):List jl:=[(3,(.vsl 10 l7.length)),(4,(Z6 i2)),(11,(SG aC)),(12,(LH aC.length)),(13,(Z6 i2)),(18,(AV.list 1 Ar 0 (aC.getD i2.toNat []) .none)),(19,(.int .i64 ((aC.getD i2.toNat []).length:Int))),(20,(Z6 i6))]
def oP(l7:Oc)(i2:Int)(aC:Oc)(i6:Int):List jl:=[(3,(.vsl 10 l7.length)),(4,(Z6 i2)),(7,(Z6 (bN aC i2 i6))),(11,(SG aC)),(12,(LH aC.length)),(13,(Z6 i2)),(18,(AV.list 1 Ar 0 (aC.getD i2.toNat []) .none)),(19,(.int .i64 ((aC.getD i2.toNat []).length:Int))),(20,(Z6 i6))]
def Io(aC:Oc):Option Oc:=
 (Ch (0<=(aC.length:Int)/\(aC.length:Int)<=(aC.length:Int)/\(aC.length:Int)<=(room:Int)) ((Ag (D8 aC) ((0:Int),(List.replicate (aC.length:Int).toNat ([]:As)))).bind (λx16=>(some x16))))
variable{v14:Oc}{v15:Oc}
theorem R5(h:Io v14=some v15):sP 109 [(SG v14)] [] (AV.list 1 Hu [] v15 (.own 20000)) [(20000,.tok 1 22 v15.length)]:=
 sG Tryz.func109 λΓ q=>have hΓ:=q.own;gR q [0] [] [(2,(AV.list 1 Hu [] ([]:Oc) .exact))] [] (c1 (G4 1 Hu [])) (tV q V4 [10] h λh=>Rz (⟨(nT v14),[(10,.arr 1 22 ((v14.length:Int).toNat) (λi_=>AV.eraseAll (λn_=>Cc n_ [10]) ((λ_=>[SR]) i_)))],[]⟩:St) (Mt (Le.trans (Jh (st':=⟨(nT v14),[(10,.arr 1 22 ((v14.length:Int).toNat) (M1 1 Ar (0:Int) (ju v14) (λ_=>.exact)))],[]⟩) (TmpsLe.refl _) (.arr ck .nil)) (Le.trans (Le.trans (dI (r:=10) (b:=70010) Ar (0:Int) (ju v14) 3 rfl rfl (Ye ..).symm (λh_=>absurd h_ (by decide))) (Nu (st':=⟨(nT v14),[(10,.arr 1 22 ((v14.length:Int).toNat) (M1 1 Ar (0:Int) (ju v14) (Tag.fam 70010)))],[(70010,⟨1,3,Na (ju v14)⟩)]⟩) (by kernel_rfl))) (Nu (B9 (λk_:Nat=>(⟨[(0,(SG v14)),(3,(.vsl 10 k_))],(fw k_ (ju v14)),[(70010,⟨1,3,Na (ju v14)⟩)]⟩:St)) (show(v14.length:Int).toNat=(ju v14).length from(Ye ..).symm))))) (Ak q RY Pa (tL q h RY Pa (λu (i2,l3)=>(Fg u [(3,(.vsl 10 l3.length)),(13,(Z6 i2))] (fw l3.length l3) [(70010,⟨1,3,Na l3⟩)])) (λu l4=>aG Γ (.exit 0) (⟨[(3,(.vsl 10 l4.length))],(fw l4.length l4),[(70010,⟨1,3,Na l4⟩)]⟩:St)) (λ⟨i2,l3⟩ y h=>Ak q [3,11,12,13,14] Pa (gC h (λh=>tV q [3,4,5,11,12,13] Pa h λh=>Ak q XS Pa (tL q h XS Pa (λu (i6,l7)=>(Fg u [(3,(.vsl 10 l7.length)),(20,(Z6 i6))] (fw l7.length l7) [(70010,⟨1,3,Na l7⟩)])) (λu l8=>aG Γ (.exit 2) (Wl RY Pa u [(3,(.vsl 10 l8.length))] (fw l8.length l8) [(70010,⟨1,3,Na l8⟩)])) (λ⟨i6,l7⟩ y h=>Ak q [3,4,11,12,13,18,19,20,21] Pa (gC h (λh=>tV q [3,4,7,11,12,13,18,19,20] Pa h λh=>Rz (⟨(oP l7 i2 v14 i6),(fw l7.length l7),[(70010,⟨1,3,Na l7⟩)]⟩:St) (tC h λc10_ h=>tC h λc11_ h=>tC h λc12_ h=>tC h λc13_ h=>Mt (Le.trans (g8 (r:=10) (b:=70010) (k:=60010) Ar (0:Int) l7 (bN v14 i2 i6).toNat 3 rfl rfl rfl rfl (On c10_) (by kernel_rfl) (.here .nil)) (Nu (st':=⟨(oP l7 i2 v14 i6),[(10,.arr 1 22 l7.length (M1 1 Ar (0:Int) l7 (Fl 70010 (bN v14 i2 i6).toNat 60010))),(60010,.tok 1 3 ((bZ l7 v14 i2 i6).length))],[(70010,⟨1,3,Xg l7 (bN v14 i2 i6).toNat⟩)]⟩) (by kernel_rfl))) (gR q XS [10,60010,70010] [(29,(IB (bZ l7 v14 i2 i6) 60010)),(31,(AV.list 1 Ar 0 (fj i2) .exact)),(32,(AV.list 1 Ar 0 ((bZ l7 v14 i2 i6)++(fj i2)) (.own 60010)))] [] (nR c11_ (Eq.refl l7.length) (show(AVle (((M1 1 Ar (0:Int) l7 (Fl 70010 (bN v14 i2 i6).toNat 60010)) (bN v14 i2 i6).toNat).getD 0 .any) (IB (bZ l7 v14 i2 i6) 60010)) from YO) (Cf 1 Ar (0:Int) (fj i2)) (Eq.refl ((bZ l7 v14 i2 i6).length)) c12_ (Uf 1 60010 Ar (0:Int) (bZ l7 v14 i2 i6) (fj i2)) (Ia (bZ l7 v14 i2 i6) (fj i2)) c13_ (c1 (Eq.refl l7.length))) (Rz (⟨(oO l7 i2 v14 i6),[(10,.arr 1 22 l7.length (λi_=>AV.eraseAll (λn_=>Cc n_ [10,60010,70010]) ((Lg (M1 1 Ar (0:Int) l7 (Fl 70010 (bN v14 i2 i6).toNat 60010)) (bN v14 i2 i6).toNat 0 [(AV.list 1 Ar 0 ((bZ l7 v14 i2 i6)++(fj i2)) (.own 60010))]) i_))),(60010,.tok 1 3 (((bZ l7 v14 i2 i6)++(fj i2)).length))],[(70010,⟨1,3,Xg l7 (bN v14 i2 i6).toNat⟩)]⟩:St) (Mt (Le.trans (Le.trans (kX (r:=10) (b:=70010) (k:=60010) Ar (0:Int) l7 (bN v14 i2 i6).toNat ((bZ l7 v14 i2 i6)++(fj i2)) 3 rfl (dr (On c10_) rfl rfl) rfl rfl rfl rfl (On c10_) (by kernel_rfl) (.here (.tok .nil)) (by rw[hΓ];rfl)) (Nu (st':=⟨(oO l7 i2 v14 i6),(fw l7.length (lp l7 v14 i2 i6)),[(70010,⟨1,3,Na (lp l7 v14 i2 i6)⟩)]⟩) (by kernel_rfl))) (Nu (B9 (λk_:Nat=>(⟨[(3,(.vsl 10 k_)),(4,(Z6 i2)),(11,(SG v14)),(12,(LH v14.length)),(13,(Z6 i2)),(18,(AV.list 1 Ar 0 (v14.getD i2.toNat []) .none)),(19,(.int .i64 ((v14.getD i2.toNat []).length:Int))),(20,(Z6 i6))],(fw k_ (lp l7 v14 i2 i6)),[(70010,⟨1,3,Na (lp l7 v14 i2 i6)⟩)]⟩:St)) (show l7.length=(lp l7 v14 i2 i6).length from(H5 ..).symm)))) (Ak q XS Pa (tN h))))))) λh=>tS h (gO (Dq (Dh RY Pa q))))) λx14 h=>gA (Ak q RY Pa (tN h)))) λh=>tS h (gO (Dq (Dh [3] Pa q))))) λx16 h=>gA (Ak q [2] Pa (Rz (⟨[(2,(.vsl 10 x16.length))],(fw x16.length x16),[(70010,⟨1,3,Na x16⟩)]⟩:St) (tS h (gK (e:=.ret) (Kk [(10,20000)] (Le.trans (Ls (nm:=10) (sz:=1) (n:=x16.length) (e:=22) (f:=(M1 1 Ar (0:Int) x16 (Tag.fam 70010))) (g:=(λi=>Hu (x16.getD i []))) rfl ⟨rfl,trivial⟩ (λ_ _=>rfl) (by rw[hΓ];rfl)) (Dh (st':=⟨[(2,(AV.list 1 Hu [] x16 (.own 10)))],[(10,.tok 1 22 x16.length)],[]⟩) [2] [10] q)))))))))))
def Ez(a0:TFunc):lU->Option (LR (Int×Oc) (Oc ⊕ (C3×Int))):=
 λ((i3,l4):lU)=>(bif (decide (i3<(a0.Blocks.length:Int))) then(Ch (Bt i3 a0.Blocks.length) ((Jx (⟨(a0.Blocks.getD i3.toNat default).End.Kind,(a0.Blocks.getD i3.toNat default).End.Arg,(a0.Blocks.getD i3.toNat default).End.To⟩:Hs) (a0.Blocks.length:Int)).bind λx7=>(bif (!x7) then(some (.done (.inr ((⟨([]:Oc),([]:Oc)⟩:C3),(5:Int))))) else((Yc ((a0.Blocks.getD i3.toNat default).End.To)).bind λx8=>(Ch (Bt i3 l4.length) (some (.next ((Bh (i3+1)),(l4.set i3.toNat x8))))))))) else(some (.done (.inl l4))))
abbrev mz:=(C3×Int)
def SL(Γ:G0)(a0:TFunc)(r:mz):Exit->St->Prop:=fK Tryz.prog Γ Tryz.f83.results.toList [] (.tuple [(.agg (Qm r.1)),(Z6 r.2)]) []
def ft:AV:=SR
def lG:List jl:=[NQ,(3,fN)]
def o6(a0:TFunc)(i3:Int):=(a0.Blocks.getD i3.toNat default)
def m9:AV:=(AV.list 1 Hu [] ([]:Oc) .none)
def nV(a0:TFunc):=(List.replicate (a0.Blocks.length:Int).toNat ([]:As))
def i0:List AV:=[(AV.list 1 Hu [] ([]:Oc) .exact),(AV.list 1 Hu [] ([]:Oc) .exact)]
def Q0(a0:TFunc):Option mz:=
 ((Hy (a0.Blocks.length:Int)).bind λx1=>(bif (!x1) then(some ((⟨([]:Oc),([]:Oc)⟩:C3),(5:Int))) else(Ch (0<=(a0.Blocks.length:Int)/\(a0.Blocks.length:Int)<=(a0.Blocks.length:Int)/\(a0.Blocks.length:Int)<=(room:Int)) ((Ag (Ez a0) ((0:Int),(List.replicate (a0.Blocks.length:Int).toNat ([]:As)))).bind (λx10=>(match x10 with|(.inl l5)=>((Io l5).bind λx12=>(some ((⟨l5,x12⟩:C3),(0:Int))))|(.inr r13)=>(some r13)))))))
variable{v16:mz}
theorem QF(h:Q0 v0=some v16):sP 83 [(LI v0)] [] (.tuple [(.agg (Qm v16.1)),(Z6 v16.2)]) []:=
 sG Tryz.func83 λΓ q=>have hΓ:=q.own;tW q V3 V3 [1,2,4] V3 (tB h λx1 y1 h=>tT q [1,2,4,13] V3 [(Z2 x1)] (c1 (P0 y1)) (gC h (λh=>gR q Kg [2] [(14,(.agg i0))] [] (c1 (show(AVle (.agg [ft,ft]) (.agg i0)) from(AVle.agg (.cons Ei (.cons Ei .nil))))) (Rz (⟨lG,[(NS i0)],[]⟩:St) (tS h (gK (e:=.ret) (Kk [] (show Le Γ _ (⟨lG,[(2,.row 82 [m9,m9])],[]⟩:St) from Le.trans (Dh (st':=⟨lG,[(NS i0)],[]⟩) Kg [2] q) (Jh (.cons (AVle.refl _) (.cons (AVle.refl _) .nil)) (.row (.cons AVle.untag (.cons AVle.untag .nil)) .nil)))))))) λh=>tV q [1,2,4,5] [1,2,16] h λh=>by exact Mt (Le.trans (Xh 16 (show ∀ k_,k_<((v0.Blocks.length:Int).toNat)->AVleL ((λi_=>AV.eraseAll (λn_=>Cc n_ [1,2,16]) ((λ_=>[ft]) i_)) k_) ((λi=>Hu ((nV v0).getD i [])) k_) from(λk hk=>Xl (e:=Hu) (d:=[]) (.cons (λ_ _ _ _ _ hh=>AVle.untag _ _ _ _ _ (Ei _ _ _ _ _ hh)) .nil) _ k (X4 hk)))) (S9 (λ(k_:Nat) u=>(Fg u [(5,(.vsl 16 k_))] [(16,.arr 1 22 k_ (λi=>Hu ((nV v0).getD i [])))])) (show(v0.Blocks.length:Int).toNat=(nV v0).length from(Ye ..).symm))) (Ak q XW V2 (tL q h XW V2 (λu (i3,l4)=>(Fg u [(5,(.vsl 16 l4.length)),(20,(Z6 i3))] [(16,.arr 1 22 l4.length (λi=>Hu (l4.getD i [])))])) (λu x_=>match x_ with|(.inl l5)=>aG Γ (.exit 0) (Wl [2,5] V2 u [(5,(.vsl 16 l5.length))] [(16,.arr 1 22 l5.length (λi=>Hu (l5.getD i [])))])|(.inr r_)=>aR (SL Γ v0 r_)) (λ⟨i3,l4⟩ y h=>Ak q [2,4,5,18,19,20,21] V2 (gC h (λh=>tV q [2,4,5,6,7,18,19,20] [2,7,16] h λh=>tB h λx7 y7 h=>tT q [2,4,5,6,7,18,19,20,29] [2,7,16] [(Z2 x7)] (c1 (Zk y7)) (gC h (λh=>gR q Kg [2] [(30,(.agg i0))] [] (c1 (show(AVle (.agg [ft,ft]) (.agg i0)) from(AVle.agg (.cons Ei (.cons Ei .nil))))) (Rz (⟨lG,[(NS i0)],[]⟩:St) (tS h (gO (Sx (Kk [] (show Le Γ _ (⟨lG,[(2,.row 82 [m9,m9])],[]⟩:St) from Le.trans (Dh (st':=⟨lG,[(NS i0)],[]⟩) Kg [2] q) (Jh (.cons (AVle.refl _) (.cons (AVle.refl _) .nil)) (.row (.cons AVle.untag (.cons AVle.untag .nil)) .nil))))))))) λh=>tB h λx8 y8 h=>tC h λc9_ h=>tT q XW V2 [⟨[],[],(Z7 x8),[],[],[]⟩] (c3 (VC ((o6 v0 i3).End.To) x8 y8) c9_ (Eq.refl l4.length)) (Mt (Le.trans (Xh 16 (show ∀ k_,k_<l4.length->AVleL ((λi_=>AV.eraseAll (λn_=>Cc n_ V2) ((Lg (λi=>Hu (l4.getD i [])) i3.toNat 0 [(Z7 x8)]) i_)) k_) ((λi=>Hu ((l4.set i3.toNat x8).getD i [])) k_) from(Ck (H5 ..).symm (λk_ hk_=>(B9 (AV.eraseAll (λn_=>Cc n_ V2)) ((Mh (λ_ _=>rfl) (Oo c9_) rfl) k_ hk_)).trans rfl)))) (S9 (λ(k_:Nat) u=>(Fg u [(5,(.vsl 16 k_))] [(16,.arr 1 22 k_ (λi=>Hu ((l4.set i3.toNat x8).getD i [])))])) (show l4.length=(l4.set i3.toNat x8).length from(H5 ..).symm))) (Ak q XW V2 (tN h))))) λh=>tS h (gO (Dq (Dh [2,5] V2 q))))) λx10 h=>(match x10,h with | .inl l5,h=>gA (Rz (⟨[NQ,(5,(.vsl 16 l5.length))],[(2,.row 82 [ft,ft]),(16,.arr 1 22 l5.length (λi=>Hu (l5.getD i [])))],[]⟩:St) (Mt (Le.trans (Ls (nm:=16) (sz:=1) (n:=l5.length) (e:=22) (f:=(λi=>Hu (l5.getD i []))) (g:=(λi=>Hu (l5.getD i []))) rfl ⟨rfl,trivial⟩ (λ_ _=>rfl) (by rw[hΓ];rfl)) (Nu (st':=⟨[NQ,(5,(AV.list 1 Hu [] l5 (.own 16)))],[(2,.row 82 [ft,ft]),(16,.tok 1 22 l5.length)],[]⟩) (by kernel_rfl))) (tB h λx12 y12 h=>tT q Kg [2,16,41] [⟨[],[(20000,41)],(AV.list 1 Hu [] x12 (.own 20000)),[(20000,.tok 1 22 x12.length)],[],[]⟩] (c1 (R5 y12)) (tS h (Ce []))))) | .inr r13,h=>Xd (λst' hk=>tS h (gK hk)))))))
abbrev ow:=(LR (Int×Int) (Unit ⊕ Bool))
def Cn(aC:Oc)(i2:Int):Gc->Option ow:=
 λ((i4,i5):Gc)=>(bif (decide (i5<((aC.getD i2.toNat []).length:Int))) then(Ch (Bt i5 (aC.getD i2.toNat []).length) ((bif ((decide (((aC.getD i2.toNat []).getD i5.toNat 0)<=i4))==false) then Gg ((aC.getD i2.toNat []).getD i5.toNat 0) (aC.length:Int) else some false).bind λx7=>(bif (bif (decide (((aC.getD i2.toNat []).getD i5.toNat 0)<=i4)) then true else(!x7)) then(some (.done (.inr false))) else(some (.next (((aC.getD i2.toNat []).getD i5.toNat 0),(Bh (i5+1)))))))) else(some (.done (.inl ()))))
def Co(aC:Oc):Int->Option (LR Int (Unit ⊕ Bool)):=
 λ(i2:Int)=>(bif (decide (i2<(aC.length:Int))) then(Ch (Bt i2 aC.length) ((Ag (Cn aC i2) ((-1:Int),(0:Int))).bind (λx8=>(match x8 with|(.inl _)=>(some (.next (Bh (i2+1))))|(.inr r10)=>(some (.done (.inr r10))))))) else(some (.done (.inl ()))))
def Ru(Γ:G0)(aC:Oc)(r:Bool):Exit->St->Prop:=fK Tryz.prog Γ Tryz.f136.results.toList [] (.bool r) []
def nA(aC:Oc)(i2:Int)(i5:Int)(i4:Int):=(decide (((aC.getD i2.toNat []).getD i5.toNat 0)<=i4))
def Jy(aC:Oc):Option Bool:=
 ((Hy (aC.length:Int)).bind λx1=>(bif (!x1) then(some false) else((Ag (Co aC) (0:Int)).bind (λx11=>(match x11 with|(.inl _)=>(some true)|(.inr r13)=>(some r13))))))
theorem Zl(h:Jy v14=some v5):sP 136 [(SG v14)] [] (.bool v5) []:=
 sG Tryz.func136 λΓ q=>Ak q [0] [] (tB h λx1 y1 h=>tT q [0,11] [] [(Z2 x1)] (c1 (P0 y1)) (gC h (λh=>Ak q [2] [] (tS h (Ce []))) λh=>Ak q RZ [] (tL q h RZ [] (λu i2=>(Fg u [(14,(Z6 i2))] [])) (λu x_=>match x_ with|(.inl _)=>aG Γ (.exit 0) (⟨[],[],[]⟩:St)|(.inr r_)=>aR (Ru Γ v14 r_)) (λi2 y h=>Ak q [0,12,13,14,15] [] (gC h (λh=>tV q [0,4,12,13,14] [] h λh=>tW q [0,4,5,12,13,14] [] XT [] (tL q h XT [] (λu (i4,i5)=>(Fg u [(5,(Z6 i4)),(20,(Z6 i5))] [])) (λu x_=>match x_ with|(.inl _)=>aG Γ (.exit 2) (Wl RZ [] u [] [])|(.inr r_)=>aR (Ru Γ v14 r_)) (λ⟨i4,i5⟩ y h=>Ak q [0,5,12,13,14,18,19,20,21] [] (gC h (λh=>tV q [0,5,7,12,13,14,18,19,20] [] h λh=>tB h λx7 y7 h=>tT q [0,7,12,13,14,18,19,20,33] [] [(Z2 x7)] (ZL ((nA v14 i2 i5 i4)==false) (c3 (λ(hg:((nA v14 i2 i5 i4)==false)=true)=>(L1 (Bo hg y7))) (gI ((nA v14 i2 i5 i4)==false)) (S5 (nA v14 i2 i5 i4)))) (gC h (λh=>Ak q [2] [] (tS h (gO (Sx (Kk [] (Le.refl _ _)))))) λh=>tW q XT [] XT [] (tN h))) λh=>tS h (gO (Dq (Dh RZ [] q))))) λx8 h=>(match x8,h with | .inl _,h=>gA (Ak q RZ [] (tN h)) | .inr r10,h=>Xd (λst' hk=>tS h (gO (Sx hk)))))) λh=>tS h (gO (Dq (Dh [] [] q))))) λx11 h=>(match x11,h with | .inl _,h=>gA (Ak q [2] [] (tS h (Ce []))) | .inr r13,h=>Xd (λst' hk=>tS h (gK hk))))))
def Bf(aU:As)(aV:As):Int->Option (LR Int (Unit ⊕ Bool)):=
 λ(i1:Int)=>(bif (decide (i1<(aU.length:Int))) then(Ch (Bt i1 aU.length) (Ch (Bt i1 aV.length) (bif ((aU.getD i1.toNat 0)!=(aV.getD i1.toNat 0)) then(some (.done (.inr false))) else(some (.next (Bh (i1+1))))))) else(some (.done (.inl ()))))
def Qh(Γ:G0)(aU:As)(aV:As)(r:Bool):Exit->St->Prop:=fK Tryz.prog Γ Tryz.f115.results.toList [] (.bool r) []
def D9(aU:As)(aV:As):Option Bool:=
 (bif ((aU.length:Int)!=(aV.length:Int)) then(some false) else((Ag (Bf aU aV) (0:Int)).bind (λx4=>(match x4 with|(.inl _)=>(some true)|(.inr r6)=>(some r6)))))
variable{v17:As}
theorem Kc(h:D9 v4 v17=some v5):sP 115 [(Z7 v4),(Z7 v17)] [] (.bool v5) []:=
 sG Tryz.func115 λΓ q=>tW q G3 [] BR [] (gC h (λh=>Ak q [4] [] (tS h (Ce []))) λh=>Ak q VS [] (tL q h VS [] (λu i1=>(Fg u [(13,(Z6 i1))] [])) (λu x_=>match x_ with|(.inl _)=>aG Γ (.exit 0) (⟨[],[],[]⟩:St)|(.inr r_)=>aR (Qh Γ v4 v17 r_)) (λi1 y h=>Ak q [0,1,12,13,14] [] (gC h (λh=>Ak q [0,1,5,12,13] [] (tC h λc2_ h=>tC h λc3_ h=>tU q [0,1,12,13,24] [] (c2 c2_ c3_) (gC h (λh=>Ak q [4] [] (tS h (gO (Sx (Kk [] (Le.refl _ _)))))) λh=>Ak q VS [] (tN h)))) λh=>tS h (gO (Dq (Dh [] [] q))))) λx4 h=>(match x4,h with | .inl _,h=>gA (Ak q [4] [] (tS h (Ce []))) | .inr r6,h=>Xd (λst' hk=>tS h (gK hk)))))
def Aq(aU:Oc)(aV:Oc):Int->Option (LR Int (Unit ⊕ Bool)):=
 λ(i1:Int)=>(bif (decide (i1<(aU.length:Int))) then(Ch (Bt i1 aU.length) (Ch (Bt i1 aV.length) ((D9 (aU.getD i1.toNat []) (aV.getD i1.toNat [])).bind λx4=>(bif (!x4) then(some (.done (.inr false))) else(some (.next (Bh (i1+1)))))))) else(some (.done (.inl ()))))
def Jz(Γ:G0)(aU:Oc)(aV:Oc)(r:Bool):Exit->St->Prop:=fK Tryz.prog Γ Tryz.f137.results.toList [] (.bool r) []
def Cp(aU:Oc)(aV:Oc):Option Bool:=
 (bif ((aU.length:Int)!=(aV.length:Int)) then(some false) else((Ag (Aq aU aV) (0:Int)).bind (λx5=>(match x5 with|(.inl _)=>(some true)|(.inr r7)=>(some r7)))))
theorem Jo(h:Cp v14 v15=some v5):sP 137 [(SG v14),(SG v15),(.clo 115 [] [])] [] (.bool v5) []:=
 sG Tryz.func137 λΓ q=>tW q GR [] [0,1,2,14] [] (gC h (λh=>Ak q [6] [] (tS h (Ce []))) λh=>Ak q fG [] (tL q h fG [] (λu i1=>(Fg u [(17,(Z6 i1))] [])) (λu x_=>match x_ with|(.inl _)=>aG Γ (.exit 0) (⟨[],[],[]⟩:St)|(.inr r_)=>aR (Jz Γ v14 v15 r_)) (λi1 y h=>Ak q [1,2,15,16,17,18] [] (gC h (λh=>tV q [1,2,7,8,15,16,17] [] h λh=>tV q [1,2,8,9,15,16,17] [] h λh=>tB h λx4 y4 h=>tT q [1,2,15,16,17,30] [] [(Z2 x4)] (c1 (Kc y4)) (gC h (λh=>Ak q [6] [] (tS h (gO (Sx (Kk [] (Le.refl _ _)))))) λh=>Ak q fG [] (tN h))) λh=>tS h (gO (Dq (Dh [] [] q))))) λx5 h=>(match x5,h with | .inl _,h=>gA (Ak q [6] [] (tS h (Ce []))) | .inr r7,h=>Xd (λst' hk=>tS h (gK hk)))))
def Ox(aE:C3):Option Bool:=
 ((Jy aE.Succ).bind λx1=>((bif (x1==true) then Io aE.Succ else some []).bind λx2=>((bif (x1==true) then Cp aE.Pred x2 else some false).bind λx3=>(some (bif x1 then x3 else false)))))
variable{v18:C3}
theorem MQ(h:Ox v18=some v5):sP 110 [(.agg (Qm v18))] [] (.bool v5) []:=
 sG Tryz.func110 λΓ q=>Ak q [1] [1] (tB h λx1 y1 h=>tB h λx2 y2 h=>tB h λx3 y3 h=>tT q [2] [] [(Z2 x1),⟨[],[],(SG x2),[],[],[]⟩,(Z2 x3)] (ci (Zl y1) (ZL (x1==true) (ci (show((x1==true)=true->(sP 109 [(SG v18.Succ)] [] (SG x2) [])) from(λhg=>(Spec.drop (R5 (Bo hg y2))))) (Xe (x1==true) (c2 (λ(hg:(x1==true)=true)=>(Jo (Bo hg y3))) (Lr x1)))))) (tS h (Ce [])))
abbrev oM:=(Int×Int×As)
def Ba :oM->Option (LR (Int×Int×As) As):=
 λ((i1,i2,l3):oM)=>(bif (decide (i1<i2)) then(Ch (Bt i2 l3.length) (Ch (Bt i1 l3.length) (Ch (Bt i1 l3.length) (Ch (Bt i2 l3.length) (some (.next ((Bh (i1+1)),(Bh (i2-1)),((l3.set i1.toNat (l3.getD i2.toNat 0)).set i2.toNat (l3.getD i1.toNat 0))))))))) else(some (.done l3)))
def nW(l3:As)(i1:Int)(i2:Int):=((l3.set i1.toNat (l3.getD i2.toNat 0)).set i2.toNat (l3.getD i1.toNat 0))
def Du(aa0:As):Option As:=
 ((Ag (S:=oM) (X:=As) Ba ((0:Int),(Bh ((aa0.length:Int)-1)),aa0)).bind (λx9=>(some x9)))
theorem Ji(h:Du v4=some v17):sP 112 [(.vsl 34000 v4.length)] [(Z4 34000 v4)] (.tuple []) [(Z4 34000 v17)]:=
 sG Tryz.func112 λΓ q=>Ak q [0,2,3] [34000] (tL q h [0,2,3] [34000] (λu (i1,i2,l3)=>(Fg u [(0,(.vsl 34000 l3.length)),(2,(Z6 i1)),(3,(Z6 i2))] [(Z4 34000 l3)])) (λu l4=>aG Γ (.exit 0) (⟨[],[(Z4 34000 l4)],[]⟩:St)) (λ⟨i1,i2,l3⟩ y h=>Ak q [0,2,3,9] [34000] (gC h (λh=>tC h λc5_ h=>tC h λc6_ h=>tC h λc7_ h=>tC h λc8_ h=>tU q [0,2,3] [34000] (c8 c5_ (Eq.refl l3.length) c6_ (Eq.refl l3.length) c7_ (Eq.refl l3.length) c8_ (Eq.refl l3.length)) (Mt (Le.trans (Xh 34000 (show ∀ k_,k_<l3.length->AVleL ((λi_=>AV.eraseAll (λn_=>Cc n_ [34000]) ((Lg (Lg (λi=>Ar (l3.getD i 0)) i1.toNat 0 [(.int .i64 (l3.getD i2.toNat 0))]) i2.toNat 0 [(.int .i64 (l3.getD i1.toNat 0))]) i_)) k_) ((λi=>Ar ((nW l3 i1 i2).getD i 0)) k_) from(Ck (Eq.trans (H5 ..).symm (H5 ..).symm) (λk_ hk_=>(B9 (AV.eraseAll (λn_=>Cc n_ [34000])) ((Mh (Mh (λ_ _=>rfl) (Oo c7_) rfl) (gw c8_) rfl) k_ hk_)).trans rfl)))) (S9 (λ(k_:Nat) u=>(Fg u [(0,(.vsl 34000 k_))] [(34000,.arr 1 3 k_ (λi=>Ar ((nW l3 i1 i2).getD i 0)))])) (show l3.length=(nW l3 i1 i2).length from(Eq.trans (H5 ..).symm (H5 ..).symm)))) (Ak q [0,2,3] [34000] (tN h)))) λh=>tS h (gO (Dq (Dh [] [34000] q))))) λx9 h=>jQ (λst' hl10=>tS h (gK (e:=.normal) (Kk [(34000,34000)] hl10))))
abbrev oz:=(LR As (As ⊕ (List Bool×As×As)))
def Y2(aE:C3)(a3:Int):As->Option oz:=
 λ(l9:As)=>(Ch (Bt ([a3].getD (Bh (([a3].length:Int)-1)).toNat (0:Int)) 64) (Ch (Bt ([a3].getD (Bh (([a3].length:Int)-1)).toNat (0:Int)) aE.Succ.length) (bif (decide ((l9.getD ([a3].getD (Bh (([a3].length:Int)-1)).toNat (0:Int)).toNat (0:Int))<((aE.Succ.getD ([a3].getD (Bh (([a3].length:Int)-1)).toNat (0:Int)).toNat []).length:Int))) then(Ch (Bt ([a3].getD (Bh (([a3].length:Int)-1)).toNat (0:Int)) aE.Succ.length) (Ch (Bt ([a3].getD (Bh (([a3].length:Int)-1)).toNat (0:Int)) 64) (Ch (Bt (l9.getD ([a3].getD (Bh (([a3].length:Int)-1)).toNat (0:Int)).toNat (0:Int)) (aE.Succ.getD ([a3].getD (Bh (([a3].length:Int)-1)).toNat (0:Int)).toNat []).length) (Ch (Bt ([a3].getD (Bh (([a3].length:Int)-1)).toNat (0:Int)) 64) (Ch (Bt ([a3].getD (Bh (([a3].length:Int)-1)).toNat (0:Int)) 64) (Ch (Bt ((aE.Succ.getD ([a3].getD (Bh (([a3].length:Int)-1)).toNat (0:Int)).toNat []).getD (l9.getD ([a3].getD (Bh (([a3].length:Int)-1)).toNat (0:Int)).toNat (0:Int)).toNat (0:Int)) 64) (bif (!((J7 64 false (List.replicate 64 false) a3.toNat true).getD ((aE.Succ.getD ([a3].getD (Bh (([a3].length:Int)-1)).toNat (0:Int)).toNat []).getD (l9.getD ([a3].getD (Bh (([a3].length:Int)-1)).toNat (0:Int)).toNat (0:Int)).toNat (0:Int)).toNat false)) then(Ch (Bt ((aE.Succ.getD ([a3].getD (Bh (([a3].length:Int)-1)).toNat (0:Int)).toNat []).getD (l9.getD ([a3].getD (Bh (([a3].length:Int)-1)).toNat (0:Int)).toNat (0:Int)).toNat (0:Int)) 64) (Ch ([a3].length+([((aE.Succ.getD ([a3].getD (Bh (([a3].length:Int)-1)).toNat (0:Int)).toNat []).getD (l9.getD ([a3].getD (Bh (([a3].length:Int)-1)).toNat (0:Int)).toNat (0:Int)).toNat (0:Int))]:As).length<=room) (some (.done (.inr ((J7 64 false (J7 64 false (List.replicate 64 false) a3.toNat true) ((aE.Succ.getD ([a3].getD (Bh (([a3].length:Int)-1)).toNat (0:Int)).toNat []).getD (l9.getD ([a3].getD (Bh (([a3].length:Int)-1)).toNat (0:Int)).toNat (0:Int)).toNat (0:Int)).toNat true),(J7 64 (0:Int) l9 ([a3].getD (Bh (([a3].length:Int)-1)).toNat (0:Int)).toNat (Bh ((l9.getD ([a3].getD (Bh (([a3].length:Int)-1)).toNat (0:Int)).toNat (0:Int))+1))),([a3]++([((aE.Succ.getD ([a3].getD (Bh (([a3].length:Int)-1)).toNat (0:Int)).toNat []).getD (l9.getD ([a3].getD (Bh (([a3].length:Int)-1)).toNat (0:Int)).toNat (0:Int)).toNat (0:Int))]:As)))))))) else(some (.next (J7 64 (0:Int) l9 ([a3].getD (Bh (([a3].length:Int)-1)).toNat (0:Int)).toNat (Bh ((l9.getD ([a3].getD (Bh (([a3].length:Int)-1)).toNat (0:Int)).toNat (0:Int))+1)))))))))))) else(some (.done (.inl l9))))))
def Fx(aE:C3)(l1:List Bool)(l3:As):As->Option oz:=
 λ(l32:As)=>(Ch (Bt (l3.getD (Bh ((l3.length:Int)-1)).toNat (0:Int)) 64) (Ch (Bt (l3.getD (Bh ((l3.length:Int)-1)).toNat (0:Int)) aE.Succ.length) (bif (decide ((l32.getD (l3.getD (Bh ((l3.length:Int)-1)).toNat (0:Int)).toNat (0:Int))<((aE.Succ.getD (l3.getD (Bh ((l3.length:Int)-1)).toNat (0:Int)).toNat []).length:Int))) then(Ch (Bt (l3.getD (Bh ((l3.length:Int)-1)).toNat (0:Int)) aE.Succ.length) (Ch (Bt (l3.getD (Bh ((l3.length:Int)-1)).toNat (0:Int)) 64) (Ch (Bt (l32.getD (l3.getD (Bh ((l3.length:Int)-1)).toNat (0:Int)).toNat (0:Int)) (aE.Succ.getD (l3.getD (Bh ((l3.length:Int)-1)).toNat (0:Int)).toNat []).length) (Ch (Bt (l3.getD (Bh ((l3.length:Int)-1)).toNat (0:Int)) 64) (Ch (Bt (l3.getD (Bh ((l3.length:Int)-1)).toNat (0:Int)) 64) (Ch (Bt ((aE.Succ.getD (l3.getD (Bh ((l3.length:Int)-1)).toNat (0:Int)).toNat []).getD (l32.getD (l3.getD (Bh ((l3.length:Int)-1)).toNat (0:Int)).toNat (0:Int)).toNat (0:Int)) 64) (bif (!(l1.getD ((aE.Succ.getD (l3.getD (Bh ((l3.length:Int)-1)).toNat (0:Int)).toNat []).getD (l32.getD (l3.getD (Bh ((l3.length:Int)-1)).toNat (0:Int)).toNat (0:Int)).toNat (0:Int)).toNat false)) then(Ch (Bt ((aE.Succ.getD (l3.getD (Bh ((l3.length:Int)-1)).toNat (0:Int)).toNat []).getD (l32.getD (l3.getD (Bh ((l3.length:Int)-1)).toNat (0:Int)).toNat (0:Int)).toNat (0:Int)) 64) (Ch (l3.length+([((aE.Succ.getD (l3.getD (Bh ((l3.length:Int)-1)).toNat (0:Int)).toNat []).getD (l32.getD (l3.getD (Bh ((l3.length:Int)-1)).toNat (0:Int)).toNat (0:Int)).toNat (0:Int))]:As).length<=room) (some (.done (.inr ((J7 64 false l1 ((aE.Succ.getD (l3.getD (Bh ((l3.length:Int)-1)).toNat (0:Int)).toNat []).getD (l32.getD (l3.getD (Bh ((l3.length:Int)-1)).toNat (0:Int)).toNat (0:Int)).toNat (0:Int)).toNat true),(J7 64 (0:Int) l32 (l3.getD (Bh ((l3.length:Int)-1)).toNat (0:Int)).toNat (Bh ((l32.getD (l3.getD (Bh ((l3.length:Int)-1)).toNat (0:Int)).toNat (0:Int))+1))),(l3++([((aE.Succ.getD (l3.getD (Bh ((l3.length:Int)-1)).toNat (0:Int)).toNat []).getD (l32.getD (l3.getD (Bh ((l3.length:Int)-1)).toNat (0:Int)).toNat (0:Int)).toNat (0:Int))]:As)))))))) else(some (.next (J7 64 (0:Int) l32 (l3.getD (Bh ((l3.length:Int)-1)).toNat (0:Int)).toNat (Bh ((l32.getD (l3.getD (Bh ((l3.length:Int)-1)).toNat (0:Int)).toNat (0:Int))+1)))))))))))) else(some (.done (.inl l32))))))
abbrev ea:=(List Bool×As×As×As)
def Cw(aE:C3):ea->Option (LR (List Bool×As×As×As) As):=
 λ(s_:ea)=>match s_ with|(l1,l2,l3,l4)=>(Ch (Bt (Bh ((l3.length:Int)-1)) l3.length) ((Ag (Fx aE l1 l3) l2).bind (λx47=>(match x47 with|(.inl l33)=>(Ch (l4.length+([(l3.getD (Bh ((l3.length:Int)-1)).toNat (0:Int))]:As).length<=room) (Ch (0<=(Bh ((l3.length:Int)-1))/\0+(Bh ((l3.length:Int)-1)).toNat<=l3.length) (bif (decide ((0:Int)<((l3.take (Bh ((l3.length:Int)-1)).toNat).length:Int))) then(some (.next (l1,l33,(l3.take (Bh ((l3.length:Int)-1)).toNat),(l4++([(l3.getD (Bh ((l3.length:Int)-1)).toNat (0:Int))]:As))))) else((Du (l4++([(l3.getD (Bh ((l3.length:Int)-1)).toNat (0:Int))]:As))).bind λx51=>(Ch ((l4++([(l3.getD (Bh ((l3.length:Int)-1)).toNat (0:Int))]:As)).length=x51.length) (some (.done x51)))))))|(.inr (l34,l35,l36))=>(some (.next (l34,l35,l36,l4)))))))
def GX(Γ:G0)(aE:C3)(a3:Int)(r:As):Exit->St->Prop:=fK Tryz.prog Γ Tryz.f84.results.toList [] (IB r 20000) [(20000,.tok 1 3 r.length)]
def lJ(l1:List Bool):=(λi=>eB (l1.getD i false))
def bO(l3:As):=(l3.getD (Bh ((l3.length:Int)-1)).toNat (0:Int))
def bc(l4:As)(l3:As):=(l4++([(bO l3)]:As))
def lq(l10:As):=(λi=>Ar (l10.getD i 0))
def lr(l33:As):=(λi=>Ar (l33.getD i 0))
def SD:=(λn_=>Cc n_ [2,5,6,25,36007])
def jy(a3:Int):=(λi=>Ar ([a3].getD i 0))
def VX(a3:Int):=([a3].getD (Bh (([a3].length:Int)-1)).toNat (0:Int))
def fL(a3:Int):=(([]:As)++([(VX a3)]:As))
def lL(a3:Int):=(λi=>Ar ((fL a3).getD i 0))
def lK(l4:As)(l3:As):=(λi=>Ar ((bc l4 l3).getD i 0))
def lI:AV:=bP
def nB:=(λi=>Ar (([]:As).getD i 0))
def jx(l3:As):=(0+(Bh ((l3.length:Int)-1)).toNat)
def lH(a3:Int):=(0+(Bh (([a3].length:Int)-1)).toNat)
def nZ(a3:Int):=([a3].take (Bh (([a3].length:Int)-1)).toNat)
def nY:=(λi=>Ar ((List.replicate 64 (0:Int)).getD i 0))
def ba(aE:C3):List AV:=[(SG aE.Succ),(SG aE.Pred)]
def jA(a3:Int):=(λi=>eB ((J7 64 false (List.replicate 64 false) a3.toNat true).getD i false))
def fJ(aE:C3)(l3:As)(l32:As):=((aE.Succ.getD (bO l3).toNat []).getD (l32.getD (bO l3).toNat (0:Int)).toNat (0:Int))
def fI(aE:C3)(a3:Int)(l9:As):=((aE.Succ.getD (VX a3).toNat []).getD (l9.getD (VX a3).toNat (0:Int)).toNat (0:Int))
def oR:=(Z38:St)
def oS(a3:Int):List jl:=[NQ,bn,bj,(7,(.vsl 36007 (fL a3).length)),(8,(.vsl 25 (lH a3)))]
def oQ(a3:Int)(aE:C3):=(⟨[NQ,bn,bj,(7,(.vsl 36007 ([]:As).length)),(8,(.vsl 25 [a3].length)),(9,(Z6 (VX a3)))],[(NS (ba aE)),(bo (jA a3)),(bR nY),(25,.arr 1 3 ([a3].length) (jy a3)),(36007,.arr 1 3 (([]:As).length) nB)],[]⟩:St)
def Gy(aE:C3)(a3:Int):Option As:=
 ((Po (S:=ea) (X:=As) ((Ox aE).bind λx5=>((bif ((!x5)==false) then Gg a3 (aE.Succ.length:Int) else some false).bind λx6=>(bif (bif (!x5) then true else(!x6)) then(some (.done ([]:As))) else(Ch (Bt a3 64) (Ch (Bt (Bh (([a3].length:Int)-1)) [a3].length) ((Ag (Y2 aE a3) (List.replicate 64 (0:Int))).bind (λx24=>(match x24 with|(.inl l10)=>(Ch (([]:As).length+([([a3].getD (Bh (([a3].length:Int)-1)).toNat (0:Int))]:As).length<=room) (Ch (0<=(Bh (([a3].length:Int)-1))/\0+(Bh (([a3].length:Int)-1)).toNat<=[a3].length) (bif (decide ((0:Int)<(([a3].take (Bh (([a3].length:Int)-1)).toNat).length:Int))) then(some (.next ((J7 64 false (List.replicate 64 false) a3.toNat true),l10,([a3].take (Bh (([a3].length:Int)-1)).toNat),(([]:As)++([([a3].getD (Bh (([a3].length:Int)-1)).toNat (0:Int))]:As))))) else((Du (([]:As)++([([a3].getD (Bh (([a3].length:Int)-1)).toNat (0:Int))]:As))).bind λx28=>(Ch ((([]:As)++([([a3].getD (Bh (([a3].length:Int)-1)).toNat (0:Int))]:As)).length=x28.length) (some (.done x28)))))))|(.inr (l11,l12,l13))=>(some (.next (l11,l12,l13,([]:As)))))))))))) (Cw aE)).bind (λx54=>(some x54)))
theorem Ti(h:Gy v18 v1=some v4):sP 84 [(.agg (Qm v18)),(Z6 v1)] [] (IB v4 20000) [(20000,.tok 1 3 v4.length)]:=
 sG Tryz.func84 λΓ q=>have hΓ:=q.own;gR q V3 [2] [(4,lI)] [] (c1 (G4 1 Ar (0:Int))) (tB h λx54 y54 h=>gS y54 (λ(s_:ea)=>match s_ with|(l1,l2,l3,l4)=>0) (λ(s_:ea)=>match s_ with|(l1,l2,l3,l4)=>(⟨[NQ,bn,bj,(7,(.vsl 36007 l4.length)),(8,(.vsl 25 l3.length))],[(NS (ba v18)),(bo (lJ l1)),(mA l2),(Z4 25 l3),(Z4 36007 l4)],[]⟩:St)) (λr_=>aR (GX Γ v18 v1 r_)) (λy h=>tB h λx5 y5 h=>tB h λx6 y6 h=>tT q [1,2,21] [2] [(Z2 x5),(Z2 x6)] (ci (MQ y5) (kT ((!x5)==false) (c3 (λ(hg:((!x5)==false)=true)=>(L1 (Bo hg y6))) (gI ((!x5)==false)) (S5 (!x5))))) (gC h (λh=>gR q [4] [] [(4,lI)] [] (c1 (G4 1 Ar (0:Int))) (Rz (⟨[(4,lI)],[],[]⟩:St) (tS h (jR (Sx (Kk VP (show Le Γ _ oR from Le.trans (Dh (st':=⟨[(4,lI)],[],[]⟩) [4] [] q) (Le.trans (ME (t:=4) (nm:=6004) (sz':=1) nB 3 rfl rfl (.inl ⟨rfl,rfl⟩) (λh_=>absurd h_ (by decide))) (Dh (st':=oR) [4] [6004] q))))))))) λh=>gR q GV [2,5] [bn] [] trivial (Mt (Xh 5 (show ∀ k_,k_<64->AVleL ((λi_=>AV.eraseAll (λn_=>Cc n_ [2,5]) ((λi=>(((List.replicate 64 [(.bool false)]).flatten).drop (i*1)).take 1) i_)) k_) ((λi=>eB ((List.replicate 64 false).getD i false)) k_) from(IF (e:=eB) (d:=false) (z:=[(.bool false)]) rfl rfl rfl))) (gR q [1,2,5,6] V1 [bj] [] trivial (Mt (Xh 6 (show ∀ k_,k_<64->AVleL ((λi_=>AV.eraseAll (λn_=>Cc n_ V1) ((λi=>(((List.replicate 64 [Mr]).flatten).drop (i*1)).take 1) i_)) k_) (nY k_) from(IF (e:=Ar) (d:=(0:Int)) (z:=[Mr]) rfl rfl rfl))) (gR q [1,2,5,6,7] V1 [(7,lI)] [] (c1 (G4 1 Ar (0:Int))) (tC h λc7_ h=>tU q [1,2,5,6,7] V1 (c2 c7_ (Eq.refl 64)) (Mt (Xh 5 (show ∀ k_,k_<64->AVleL ((λi_=>AV.eraseAll (λn_=>Cc n_ V1) ((Lg (λi=>eB ((List.replicate 64 false).getD i false)) v1.toNat 0 [(.bool true)]) i_)) k_) ((jA v1) k_) from(Ck rfl (λk_ hk_=>(B9 (AV.eraseAll (λn_=>Cc n_ V1)) ((P2 (λ_ _=>rfl) (On c7_) rfl) k_ hk_)).trans rfl)))) (gR q Ub NI [(25,(.vsl 25 1))] [] trivial (Mt (Le.trans (Xh 25 (show ∀ k_,k_<1->AVleL ((λi_=>AV.eraseAll (λn_=>Cc n_ NI) ((λi_=>([(Z6 v1)].drop (i_*1)).take 1) i_)) k_) ((jy v1) k_) from(Ck rfl (iU (n:=0) kx rfl)))) (S9 (λ(k_:Nat) u=>(Fg u [(8,(.vsl 25 k_))] [(25,.arr 1 3 k_ (jy v1))])) (show 1=[v1].length from rfl))) (tC h λc8_ h=>tU q Vz NI (c2 c8_ (Eq.refl ([v1].length))) (Mt (st':=(oQ v1 v18)) (Le.trans (Dh (st':=⟨[NQ,bn,bj,(7,lI),(8,(.vsl 25 [v1].length)),(9,(Z6 (VX v1)))],[(NS (ba v18)),(bo (jA v1)),(bR nY),(25,.arr 1 3 ([v1].length) (jy v1))],[]⟩) Vz NI q) (Le.trans (kW (t:=7) (nm:=36007) (sz':=1) nB 3 rfl rfl) (Dh (st':=(oQ v1 v18)) Vz Ki q))) (tL q h Vz Ki (λu l9=>(Fg u [] [(mA l9)])) (λu x_=>match x_ with|(.inl l10)=>aG Γ (.exit 0) (Fg u [] [(bR (lq l10))])|(.inr (l11,l12,l13))=>aG Γ (.goto 0) (Wl Ub Ki u [(8,(.vsl 25 l13.length))] [(5,.arr 1 165 64 (λi=>eB (l11.getD i false))),(mA l12),(Z4 25 l13)])) (λl9 y h=>tC h λc14_ h=>tC h λc15_ h=>tU q [2,5,6,7,8,9,41] Ki (c3 c14_ (Eq.refl 64) c15_) (gC h (λh=>tC h λc16_ h=>tC h λc17_ h=>tC h λc18_ h=>tU q XV Ki (c4 c16_ c17_ (Eq.refl 64) c18_) (tC h λc19_ h=>tC h λc20_ h=>tU q XV Ki (c4 c19_ (Eq.refl 64) c20_ (Eq.refl 64)) (Mt (Xh 6 (show ∀ k_,k_<64->AVleL ((λi_=>AV.eraseAll SD ((Lg (λi=>Ar (l9.getD i 0)) (VX v1).toNat 0 [(.int .i64 (Bh ((l9.getD (VX v1).toNat (0:Int))+1)))]) i_)) k_) ((λi=>Ar ((J7 64 (0:Int) l9 (VX v1).toNat (Bh ((l9.getD (VX v1).toNat (0:Int))+1))).getD i 0)) k_) from(Ck rfl (λk_ hk_=>(B9 (AV.eraseAll SD) ((P2 (λ_ _=>rfl) (On c20_) rfl) k_ hk_)).trans rfl)))) (tC h λc21_ h=>tU q ei Ki (c2 c21_ (Eq.refl 64)) (gC h (λh=>tC h λc22_ h=>tU q [2,5,6,7,8,10] Ki (c2 c22_ (Eq.refl 64)) (Mt (Xh 5 (show ∀ k_,k_<64->AVleL ((λi_=>AV.eraseAll SD ((Lg (jA v1) (fI v18 v1 l9).toNat 0 [(.bool true)]) i_)) k_) ((λi=>eB ((J7 64 false (J7 64 false (List.replicate 64 false) v1.toNat true) (fI v18 v1 l9).toNat true).getD i false)) k_) from(Ck rfl (λk_ hk_=>(B9 (AV.eraseAll SD) ((P2 (λ_ _=>rfl) (On c22_) rfl) k_ hk_)).trans rfl)))) (tC h λc23_ h=>gR q Ub Ki [(65,(j6 (fI v18 v1 l9)))] [] (c3 (Cf 1 Ar (0:Int) ([(fI v18 v1 l9)]:As)) (Eq.refl ([v1].length)) c23_) (tS h (gO (Dq (Le.trans (Le.trans (Xh 25 (show ∀ k_,k_<([v1].length+([(fI v18 v1 l9)]:As).length)->AVleL ((λi_=>AV.eraseAll SD ((Jl ([v1].length) (jy v1) (λi=>Ar (([(fI v18 v1 l9)]:As).getD i 0))) i_)) k_) ((λi=>Ar (([v1]++([(fI v18 v1 l9)]:As)).getD i 0)) k_) from(Ck (Ia _ _) (λk_ hk_=>(B9 (AV.eraseAll SD) ((W0 (λ_ _=>rfl) (λ_ _=>rfl)) k_ hk_)).trans rfl)))) (S9 (λ(k_:Nat) u=>(Fg u [(8,(.vsl 25 k_))] [(25,.arr 1 3 k_ (λi=>Ar (([v1]++([(fI v18 v1 l9)]:As)).getD i 0)))])) (show([v1].length+([(fI v18 v1 l9)]:As).length)=([v1]++([(fI v18 v1 l9)]:As)).length from(Ia _ _)))) Mp))))))) λh=>tS h (gN (Dh Vz Ki q))))))) λh=>tS h (gO (Dq (Dh Vz Ki q))))) λx24 h=>(match x24,h with | .inl l10,h=>gA (tC h λc26_ h=>gR q Ub Ki [(69,(j6 (VX v1)))] [] (c3 (Cf 1 Ar (0:Int) ([(VX v1)]:As)) (Eq.refl (([]:As).length)) c26_) (Mt (Le.trans (Xh 36007 (show ∀ k_,k_<(([]:As).length+([(VX v1)]:As).length)->AVleL ((λi_=>AV.eraseAll SD ((Jl (([]:As).length) nB (λi=>Ar (([(VX v1)]:As).getD i 0))) i_)) k_) ((lL v1) k_) from(Ck (Ia _ _) (λk_ hk_=>(B9 (AV.eraseAll SD) ((W0 (λ_ _=>rfl) (λ_ _=>rfl)) k_ hk_)).trans rfl)))) (S9 (λ(k_:Nat) u=>(Fg u [(7,(.vsl 36007 k_))] [(36007,.arr 1 3 k_ (lL v1))])) (show(([]:As).length+([(VX v1)]:As).length)=(fL v1).length from(Ia _ _)))) (tC h λc27_ h=>tU q Ub Ki (c1 c27_) (Rz (⟨[NQ,bn,bj,(7,(.vsl 36007 (fL v1).length)),(8,(.vsub 25 [v1].length 0 (lH v1)))],[(NS (ba v18)),(bo (jA v1)),(bR (lq l10)),(25,.arr 1 3 ([v1].length) (jy v1)),(36007,.arr 1 3 ((fL v1).length) (lL v1))],[]⟩:St) (Mt (Le.trans (Le.trans (PH (t:=8) (r:=25) (k:=(lH v1)) rfl rfl c27_.2 (by kernel_rfl) (.row (by kernel_rfl) (.arr (λ_=>by kernel_rfl) (.arr (λ_=>by kernel_rfl) (.arr (λ_=>by kernel_rfl) (.arr (λ_=>by kernel_rfl) .nil))))) (by rw[hΓ];rfl)) (Nu (st':=⟨(oS v1),[(NS (ba v18)),(bo (jA v1)),(bR (lq l10)),(25,.arr 1 3 (lH v1) (jy v1)),(36007,.arr 1 3 ((fL v1).length) (lL v1))],[]⟩) (by kernel_rfl))) (Le.trans (Jh (st':=⟨(oS v1),[(NS (ba v18)),(bo (jA v1)),(bR (lq l10)),(25,.arr 1 3 (lH v1) (λi=>Ar ((nZ v1).getD i 0))),(36007,.arr 1 3 ((fL v1).length) (lL v1))],[]⟩) (TmpsLe.refl _) (.same (.same (.same (.arr (XK (e:=Ar) (d:=(0:Int))) (.same .nil)))))) (Nu (B9 (λk_:Nat=>(⟨[NQ,bn,bj,(7,(.vsl 36007 (fL v1).length)),(8,(.vsl 25 k_))],[(NS (ba v18)),(bo (jA v1)),(bR (lq l10)),(25,.arr 1 3 k_ (λi=>Ar ((nZ v1).getD i 0))),(36007,.arr 1 3 ((fL v1).length) (lL v1))],[]⟩:St)) (show(lH v1)=(nZ v1).length from RG c27_.2))))) (Ak q [2,5,6,7,8,78] Ki (gC h (λh=>tS h (gr (Dh Ub Ki q))) λh=>tB h λx28 y28 h=>tC h λc29_ h=>tT q [7] [36007] [⟨[(36007,34000)],[],(.tuple []),[(Z4 34000 x28)],[],[]⟩] (c1 (Ji y28)) (Mt (S9 (λ(k_:Nat) u=>(Fg u [(7,(.vsl 36007 k_))] [])) (show(fL v1).length=x28.length from c29_)) (Ak q [4] [36007] (Rz (⟨[(4,(.vsl 36007 x28.length))],[(Z4 36007 x28)],[]⟩:St) (tS h (jR (Sx (Kk [(36007,20000)] (Le.trans (Ls (nm:=36007) (sz:=1) (n:=x28.length) (e:=3) (f:=(λi=>Ar (x28.getD i 0))) (g:=(λi=>Ar (x28.getD i 0))) rfl ⟨rfl,trivial⟩ (λ_ _=>rfl) (by rw[hΓ];rfl)) (Nu (st':=⟨[(4,(IB x28 36007))],[(36007,.tok 1 3 x28.length)],[]⟩) (by kernel_rfl))))))))))))))))) | .inr ⟨l11,l12,l13⟩,h=>jQ (λst' hl30=>tS h (gr (Le.trans hl30 Mp))))))))))))))))) (λ⟨l1,l2,l3,l4⟩ y h=>tC h λc31_ h=>tU q Vz Ki (c2 c31_ (Eq.refl l3.length)) (tL q h Vz Ki (λu l32=>(Fg u [] [(mA l32)])) (λu x_=>match x_ with|(.inl l33)=>aG Γ (.exit 0) (Fg u [] [(bR (lr l33))])|(.inr (l34,l35,l36))=>aG Γ (.goto 0) (Wl Ub Ki u [(8,(.vsl 25 l36.length))] [(5,.arr 1 165 64 (λi=>eB (l34.getD i false))),(mA l35),(Z4 25 l36)])) (λl32 y h=>tC h λc37_ h=>tC h λc38_ h=>tU q [2,5,6,7,8,9,41] Ki (c3 c37_ (Eq.refl 64) c38_) (gC h (λh=>tC h λc39_ h=>tC h λc40_ h=>tC h λc41_ h=>tU q XV Ki (c4 c39_ c40_ (Eq.refl 64) c41_) (tC h λc42_ h=>tC h λc43_ h=>tU q XV Ki (c4 c42_ (Eq.refl 64) c43_ (Eq.refl 64)) (Mt (Xh 6 (show ∀ k_,k_<64->AVleL ((λi_=>AV.eraseAll SD ((Lg (λi=>Ar (l32.getD i 0)) (bO l3).toNat 0 [(.int .i64 (Bh ((l32.getD (bO l3).toNat (0:Int))+1)))]) i_)) k_) ((λi=>Ar ((J7 64 (0:Int) l32 (bO l3).toNat (Bh ((l32.getD (bO l3).toNat (0:Int))+1))).getD i 0)) k_) from(Ck rfl (λk_ hk_=>(B9 (AV.eraseAll SD) ((P2 (λ_ _=>rfl) (On c43_) rfl) k_ hk_)).trans rfl)))) (tC h λc44_ h=>tU q ei Ki (c2 c44_ (Eq.refl 64)) (gC h (λh=>tC h λc45_ h=>tU q [2,5,6,7,8,10] Ki (c2 c45_ (Eq.refl 64)) (Mt (Xh 5 (show ∀ k_,k_<64->AVleL ((λi_=>AV.eraseAll SD ((Lg (lJ l1) (fJ v18 l3 l32).toNat 0 [(.bool true)]) i_)) k_) ((λi=>eB ((J7 64 false l1 (fJ v18 l3 l32).toNat true).getD i false)) k_) from(Ck rfl (λk_ hk_=>(B9 (AV.eraseAll SD) ((P2 (λ_ _=>rfl) (On c45_) rfl) k_ hk_)).trans rfl)))) (tC h λc46_ h=>gR q Ub Ki [(65,(j6 (fJ v18 l3 l32)))] [] (c3 (Cf 1 Ar (0:Int) ([(fJ v18 l3 l32)]:As)) (Eq.refl l3.length) c46_) (tS h (gO (Dq (Le.trans (Le.trans (Xh 25 (show ∀ k_,k_<(l3.length+([(fJ v18 l3 l32)]:As).length)->AVleL ((λi_=>AV.eraseAll SD ((Jl l3.length (λi=>Ar (l3.getD i 0)) (λi=>Ar (([(fJ v18 l3 l32)]:As).getD i 0))) i_)) k_) ((λi=>Ar ((l3++([(fJ v18 l3 l32)]:As)).getD i 0)) k_) from(Ck (Ia _ _) (λk_ hk_=>(B9 (AV.eraseAll SD) ((W0 (λ_ _=>rfl) (λ_ _=>rfl)) k_ hk_)).trans rfl)))) (S9 (λ(k_:Nat) u=>(Fg u [(8,(.vsl 25 k_))] [(25,.arr 1 3 k_ (λi=>Ar ((l3++([(fJ v18 l3 l32)]:As)).getD i 0)))])) (show(l3.length+([(fJ v18 l3 l32)]:As).length)=(l3++([(fJ v18 l3 l32)]:As)).length from(Ia _ _)))) Mp))))))) λh=>tS h (gN (Dh Vz Ki q))))))) λh=>tS h (gO (Dq (Dh Vz Ki q))))) λx47 h=>(match x47,h with | .inl l33,h=>gA (tC h λc49_ h=>gR q Ub Ki [(69,(j6 (bO l3)))] [] (c3 (Cf 1 Ar (0:Int) ([(bO l3)]:As)) (Eq.refl l4.length) c49_) (Mt (Le.trans (Xh 36007 (show ∀ k_,k_<(l4.length+([(bO l3)]:As).length)->AVleL ((λi_=>AV.eraseAll SD ((Jl l4.length (λi=>Ar (l4.getD i 0)) (λi=>Ar (([(bO l3)]:As).getD i 0))) i_)) k_) ((lK l4 l3) k_) from(Ck (Ia _ _) (λk_ hk_=>(B9 (AV.eraseAll SD) ((W0 (λ_ _=>rfl) (λ_ _=>rfl)) k_ hk_)).trans rfl)))) (S9 (λ(k_:Nat) u=>(Fg u [(7,(.vsl 36007 k_))] [(36007,.arr 1 3 k_ (lK l4 l3))])) (show(l4.length+([(bO l3)]:As).length)=(bc l4 l3).length from(Ia _ _)))) (tC h λc50_ h=>tU q Ub Ki (c1 c50_) (Rz (⟨[NQ,bn,bj,(7,(.vsl 36007 (bc l4 l3).length)),(8,(.vsub 25 l3.length 0 (jx l3)))],[(NS (ba v18)),(bo (lJ l1)),(bR (lr l33)),(Z4 25 l3),(36007,.arr 1 3 ((bc l4 l3).length) (lK l4 l3))],[]⟩:St) (Mt (Le.trans (Le.trans (PH (t:=8) (r:=25) (k:=(jx l3)) rfl rfl c50_.2 (by kernel_rfl) (.row (by kernel_rfl) (.arr (λ_=>by kernel_rfl) (.arr (λ_=>by kernel_rfl) (.arr (λ_=>by kernel_rfl) (.arr (λ_=>by kernel_rfl) .nil))))) (by rw[hΓ];rfl)) (Nu (st':=⟨[NQ,bn,bj,(7,(.vsl 36007 (bc l4 l3).length)),(8,(.vsl 25 (jx l3)))],[(NS (ba v18)),(bo (lJ l1)),(bR (lr l33)),(25,.arr 1 3 (jx l3) (λi=>Ar (l3.getD i 0))),(36007,.arr 1 3 ((bc l4 l3).length) (lK l4 l3))],[]⟩) (by kernel_rfl))) (Le.trans (Jh (st':=⟨[NQ,bn,bj,(7,(.vsl 36007 (bc l4 l3).length)),(8,(.vsl 25 (jx l3)))],[(NS (ba v18)),(bo (lJ l1)),(bR (lr l33)),(25,.arr 1 3 (jx l3) (λi=>Ar ((l3.take (Bh ((l3.length:Int)-1)).toNat).getD i 0))),(36007,.arr 1 3 ((bc l4 l3).length) (lK l4 l3))],[]⟩) (TmpsLe.refl _) (.same (.same (.same (.arr (XK (e:=Ar) (d:=(0:Int))) (.same .nil)))))) (Nu (B9 (λk_:Nat=>(⟨[NQ,bn,bj,(7,(.vsl 36007 (bc l4 l3).length)),(8,(.vsl 25 k_))],[(NS (ba v18)),(bo (lJ l1)),(bR (lr l33)),(25,.arr 1 3 k_ (λi=>Ar ((l3.take (Bh ((l3.length:Int)-1)).toNat).getD i 0))),(36007,.arr 1 3 ((bc l4 l3).length) (lK l4 l3))],[]⟩:St)) (show(jx l3)=(l3.take (Bh ((l3.length:Int)-1)).toNat).length from RG c50_.2))))) (Ak q [2,5,6,7,8,78] Ki (gC h (λh=>tS h (gr (Dh Ub Ki q))) λh=>tB h λx51 y51 h=>tC h λc52_ h=>tT q [7] [36007] [⟨[(36007,34000)],[],(.tuple []),[(Z4 34000 x51)],[],[]⟩] (c1 (Ji y51)) (Mt (S9 (λ(k_:Nat) u=>(Fg u [(7,(.vsl 36007 k_))] [])) (show(bc l4 l3).length=x51.length from c52_)) (Ak q [4] [36007] (Rz (⟨[(4,(.vsl 36007 x51.length))],[(Z4 36007 x51)],[]⟩:St) (tS h (jR (Sx (Kk [(36007,20000)] (Le.trans (Ls (nm:=36007) (sz:=1) (n:=x51.length) (e:=3) (f:=(λi=>Ar (x51.getD i 0))) (g:=(λi=>Ar (x51.getD i 0))) rfl ⟨rfl,trivial⟩ (λ_ _=>rfl) (by rw[hΓ];rfl)) (Nu (st':=⟨[(4,(IB x51 36007))],[(36007,.tok 1 3 x51.length)],[]⟩) (by kernel_rfl))))))))))))))))) | .inr ⟨l34,l35,l36⟩,h=>jQ (λst' hl53=>tS h (gr (Le.trans hl53 Mp)))))) (Xd (λst' hk=>tS h (gK hk))))
def Xk(a6:Int)(aS:Int):Option Gc:=
 (some ((E1 ((E1 ((E1 ((X8 .u64 a6 (32:Int))*(X8 .u64 aS (32:Int))))+(X8 .u64 (E1 ((E1 ((X8 .u64 a6 (32:Int))*(Ol .and .u64 aS (4294967295:Int))))+(X8 .u64 (E1 ((Ol .and .u64 a6 (4294967295:Int))*(Ol .and .u64 aS (4294967295:Int)))) (32:Int)))) (32:Int))))+(X8 .u64 (E1 ((Ol .and .u64 (E1 ((E1 ((X8 .u64 a6 (32:Int))*(Ol .and .u64 aS (4294967295:Int))))+(X8 .u64 (E1 ((Ol .and .u64 a6 (4294967295:Int))*(Ol .and .u64 aS (4294967295:Int)))) (32:Int)))) (4294967295:Int))+(E1 ((Ol .and .u64 a6 (4294967295:Int))*(X8 .u64 aS (32:Int)))))) (32:Int)))),(E1 (a6*aS))))
variable{v19:Gc}
theorem HJ(h:Xk v1 v2=some v19):sP 149 [(Ld v1),(Ld v2)] [] (.tuple [(Ld v19.1),(Ld v19.2)]) []:=
 sG Tryz.func149 λΓ q=>tW q G3 [] [0,1,6] [] (tU q [0,1,6,7] [] (c1 (show(0<=(32:Int)) from(by decide))) (Ak q [0,1,6,7,8] [] (tU q [0,1,6,7,8,9] [] (c1 (show(0<=(32:Int)) from(by decide))) (Ak q [0,1,6,7,8,9,10] [] (tU q [0,1,6,7,9,11] [] (c1 (show(0<=(32:Int)) from(by decide))) (Ak q [0,1,6,7,9,11,12] [] (tU q [0,1,6,7,9,12,13] [] (c1 (show(0<=(32:Int)) from(by decide))) (Ak q [0,1,7,9,12,13] [] (tU q [0,1,4] [] (c1 (show(0<=(32:Int)) from(by decide))) (Ak q Sd [] (tS h (Ce []))))))))))))
def Lv(a6:Int)(aS:Int):Option Gc:=
 ((Xk a6 aS).bind λx1=>(some (x1.1,x1.2)))
theorem BB(h:Lv v1 v2=some v19):sP 138 [(Ld v1),(Ld v2)] [] (.tuple [(Ld v19.1),(Ld v19.2)]) []:=
 sG Tryz.func138 λΓ q=>Ak q G3 [] (ZK false (tB h λx1 y1 h=>tT q [8,9] [] [⟨[],[],(.tuple [(Ld x1.1),(Ld x1.2)]),[],[],[]⟩] (c1 (HJ y1)) (Ak q Sd [] (tS h (Ce [])))))
abbrev VD:=(Int×As)
def Cb :VD->Option (LR (Int×As) As):=
 λ((i7,l8):VD)=>(bif (decide (i7<(l8.length:Int))) then(Ch (0<=i7/\0+i7.toNat<=l8.length) (Ch (0<=i7/\0+i7.toNat<=l8.length) (some (.next ((Bh (i7+((Nat.min ((0+i7.toNat)-0) (l8.length-(0+i7.toNat))):Int))),(TI l8 (0+i7.toNat) (Nat.min ((0+i7.toNat)-0) (l8.length-(0+i7.toNat))) (λi=>l8.getD (0+i) 0))))))) else(some (.done l8)))
def be(x3:Gc):=(List.replicate (Bh x3.2).toNat (0:Int))
def nb(x3:Gc)(a6:As):=(TI (be x3) 0 (Nat.min a6.length ((be x3).length-0)) (λi=>a6.getD i 0))
def na(l8:As)(i7:Int):=(TI l8 (0+i7.toNat) (Nat.min ((0+i7.toNat)-0) (l8.length-(0+i7.toNat))) (λi=>l8.getD (0+i) 0))
def E8(a6:As)(aa1:Int):Option As:=
 (Option.bind (α:=Unit) (bif (decide (aa1<0)) then none else(some ())) (λx1=>(match x1 with|_=>((Lv (E1 (a6.length:Int)) (E1 aa1)).bind λx3=>(Option.bind (α:=Unit) (bif (bif (decide ((0:Int)<x3.1)) then true else(decide ((9223372036854775807:Int)<x3.2))) then none else(some ())) (λx4=>(match x4 with|_=>(Ch (0<=(Bh x3.2)/\(Bh x3.2)<=(Bh x3.2)/\(Bh x3.2)<=(room:Int)) ((Ag (S:=VD) (X:=As) Cb (((Nat.min a6.length ((List.replicate (Bh x3.2).toNat (0:Int)).length-0)):Int),(TI (List.replicate (Bh x3.2).toNat (0:Int)) 0 (Nat.min a6.length ((List.replicate (Bh x3.2).toNat (0:Int)).length-0)) (λi=>a6.getD i 0)))).bind (λx12=>(some x12)))))))))))
theorem Pn(h:E8 v4 v1=some v17):sP 113 [(Z7 v4),(Z6 v1)] [] (.vsl 20000 v17.length) [(Z4 20000 v17)]:=
 sG Tryz.func113 λΓ q=>gR q G3 [] [(4,bP)] [] (c1 (G4 1 Ar (0:Int))) (tB h λx1 y1 h=>gJ y1 (λ_=>aG Γ .normal (⟨[(0,(Z7 v4)),(1,(Z6 v1))],[],[]⟩:St)) (λy h=>Ak q BR [] (gC h (λh=>nomatch h) λh=>tS h (gK (Dq (Dh G3 [] q))))) (gA (tB h λx3 y3 h=>tT q [0,5,6] [] [⟨[],[],(.tuple [(Ld x3.1),(Ld x3.2)]),[],[],[]⟩] (c1 (BB y3)) (tB h λx4 y4 h=>gJ y4 (λ_=>aG Γ .normal (⟨[(0,(Z7 v4)),(6,(Ld x3.2))],[],[]⟩:St)) (λy h=>tU q [0,6,26] [] (c2 (gI ((decide ((0:Int)<x3.1))==false)) (S5 (decide ((0:Int)<x3.1)))) (gC h (λh=>nomatch h) λh=>tS h (gK (Dq (Dh [0,6] [] q))))) (gA (tV q [0,7] [30] h λh=>by exact Mt (Le.trans (Xh 30 (show ∀ k_,k_<((Bh x3.2).toNat)->AVleL ((λi_=>AV.eraseAll (λn_=>Cc n_ [30]) ((λ_=>[Mr]) i_)) k_) ((λi=>Ar ((be x3).getD i 0)) k_) from(λk hk=>Xl (e:=Ar) (d:=(0:Int)) (.cons (AVle.refl _) .nil) _ k (X4 hk)))) (S9 (λ(k_:Nat) u=>(Fg u [(7,(.vsl 30 k_))] [(30,.arr 1 3 k_ (λi=>Ar ((be x3).getD i 0)))])) (show(Bh x3.2).toNat=(be x3).length from(Ye ..).symm))) (tU q Mo [30] (c1 (Eq.refl ((be x3).length))) (Mt (Le.trans (Xh 30 (show ∀ k_,k_<((be x3).length)->AVleL ((λi_=>AV.eraseAll (λn_=>Cc n_ [30]) ((OV (λi=>Ar ((be x3).getD i 0)) 0 (Nat.min v4.length ((be x3).length-0)) (λi=>Ar (v4.getD i 0))) i_)) k_) ((λi=>Ar ((nb x3 v4).getD i 0)) k_) from(Ck (Fy ..) (λk_ hk_=>(B9 (AV.eraseAll (λn_=>Cc n_ [30])) ((CM (e:=Ar) (d:=(0:Int)) (l:=(be x3)) (s:=(λi=>v4.getD i 0)) (λ_ _=>rfl) (λ_ _=>rfl)) k_ hk_)).trans rfl)))) (S9 (λ(k_:Nat) u=>(Fg u [(7,(.vsl 30 k_))] [(30,.arr 1 3 k_ (λi=>Ar ((nb x3 v4).getD i 0)))])) (show(be x3).length=(nb x3 v4).length from(Fy ..)))) (tL q h Mo [30] (λu (i7,l8)=>(Fg u [(7,(.vsl 30 l8.length)),(8,(Z6 i7))] [(Z4 30 l8)])) (λu l9=>aG Γ (.exit 0) (⟨[(7,(.vsl 30 l9.length))],[(Z4 30 l9)],[]⟩:St)) (λ⟨i7,l8⟩ y h=>Ak q [7,8,37] [30] (gC h (λh=>tC h λc10_ h=>tC h λc11_ h=>tU q Mo [30] (c4 c10_ c11_ (Eq.refl l8.length) (Eq.refl l8.length)) (tS h (gN (Le.trans (Le.trans (Xh 30 (show ∀ k_,k_<l8.length->AVleL ((λi_=>AV.eraseAll (λn_=>Cc n_ [30]) ((OV (λi=>Ar (l8.getD i 0)) (0+i7.toNat) (Nat.min ((0+i7.toNat)-0) (l8.length-(0+i7.toNat))) (λi=>(λi=>Ar (l8.getD i 0)) (0+i))) i_)) k_) ((λi=>Ar ((na l8 i7).getD i 0)) k_) from(Ck (Fy ..) (λk_ hk_=>(B9 (AV.eraseAll (λn_=>Cc n_ [30])) ((CM (e:=Ar) (d:=(0:Int)) (l:=l8) (s:=(λi=>l8.getD (0+i) 0)) (λ_ _=>rfl) (λ_ _=>rfl)) k_ hk_)).trans rfl)))) (S9 (λ(k_:Nat) u=>(Fg u [(7,(.vsl 30 k_))] [(30,.arr 1 3 k_ (λi=>Ar ((na l8 i7).getD i 0)))])) (show l8.length=(na l8 i7).length from(Fy ..)))) Mp)))) λh=>tS h (gO (Dq (Dh [7] [30] q))))) λx12 h=>gA (Ak q [4] [30] (tS h (Ce [(30,20000)]))))))))))))
set_option maxRecDepth 100000
set_option maxHeartbeats 2000000
def Fs(aD:As):(Int×List Bool)->Option (LR (Int×List Bool) (List Bool)):=
 λ((i2,l3):(Int×List Bool))=>(bif (i2 !=-1) then(Ch (Bt i2 l3.length) (Ch (Bt i2 aD.length) (some (.next ((aD.getD i2.toNat 0),(l3.set i2.toNat true)))))) else(some (.done l3)))
def Ft(aD:As)(l4:List Bool):Int->Option (LR Int Int):=
 λ(i9:Int)=>(Ch (Bt i9 l4.length) (bif (!(l4.getD i9.toNat false)) then(Ch (Bt i9 aD.length) (some (.next (aD.getD i9.toNat 0)))) else(some (.done i9))))
def Lx(aD:As)(aH:Int)(aI:Int):Option Int:=
 (Ch (0<=(aD.length:Int)/\(aD.length:Int)<=(aD.length:Int)/\(aD.length:Int)<=(room:Int)) ((Ag (Fs aD) (aH,(List.replicate (aD.length:Int).toNat false))).bind (λx7=>((Ag (Ft aD x7) aI).bind (λx13=>(some x13))))))
variable{v20:Int}
theorem BC(h:Lx v4 v1 v2=some v20):sP 139 [(Z7 v4),(Z6 v1),(Z6 v2)] [] (.int .i64 v20) []:=
 sG Tryz.func139 λΓ q=>Ak q GR [] (tV q [0,1,2,7] [11] h λh=>by exact Mt (Le.trans (Xh 11 (show ∀ k_,k_<((v4.length:Int).toNat)->AVleL ((λi_=>AV.eraseAll (λn_=>Cc n_ [11]) ((λ_=>[(.bool false)]) i_)) k_) ((λi=>eB ((List.replicate (v4.length:Int).toNat false).getD i false)) k_) from(λk hk=>Xl (e:=eB) (d:=false) (.cons (AVle.refl _) .nil) _ k (X4 hk)))) (S9 (λ(k_:Nat) u=>(Fg u [(7,(.vsl 11 k_))] [(11,.arr 1 4 k_ (λi=>eB ((List.replicate (v4.length:Int).toNat false).getD i false)))])) (show(v4.length:Int).toNat=(List.replicate (v4.length:Int).toNat false).length from(Ye ..).symm))) (Ak q NJ [11] (tL q h NJ [11] (λu (i2,l3)=>(Fg u [(7,(.vsl 11 l3.length)),(8,(Z6 i2))] [(11,.arr 1 4 l3.length (λi=>eB (l3.getD i false)))])) (λu l4=>aG Γ (.exit 0) (Wl [0,2,7] [11] u [(7,(.vsl 11 l4.length))] [(11,.arr 1 4 l4.length (λi=>eB (l4.getD i false)))])) (λ⟨i2,l3⟩ y h=>Ak q [0,2,7,8,14] [11] (gC h (λh=>tC h λc5_ h=>tU q NJ [11] (c2 c5_ (Eq.refl l3.length)) (Mt (Le.trans (Xh 11 (show ∀ k_,k_<l3.length->AVleL ((λi_=>AV.eraseAll (λn_=>Cc n_ [11]) ((Lg (λi=>eB (l3.getD i false)) i2.toNat 0 [(.bool true)]) i_)) k_) ((λi=>eB ((l3.set i2.toNat true).getD i false)) k_) from(Ck (H5 ..).symm (λk_ hk_=>(B9 (AV.eraseAll (λn_=>Cc n_ [11])) ((Mh (λ_ _=>rfl) (Oo c5_) rfl) k_ hk_)).trans rfl)))) (S9 (λ(k_:Nat) u=>(Fg u [(7,(.vsl 11 k_))] [(11,.arr 1 4 k_ (λi=>eB ((l3.set i2.toNat true).getD i false)))])) (show l3.length=(l3.set i2.toNat true).length from(H5 ..).symm))) (tV q NJ [11] h λh=>tN h))) λh=>tS h (gO (Dq (Dh [0,2,7] [11] q))))) λx7 h=>gA (tL q h [0,2,7] [11] (λu i9=>(Fg u [(2,(Z6 i9))] [])) (λu i10=>aG Γ (.exit 2) (⟨[(2,(Z6 i10))],[],[]⟩:St)) (λi9 y h=>tC h λc11_ h=>tU q [0,2,7,26] [11] (c2 c11_ (Eq.refl x7.length)) (gC h (λh=>tV q [0,2,7] [11] h λh=>tN h) λh=>tS h (gO (Dq (Dh [2] [] q))))) λx13 h=>gA (Ak q [6] [] (tS h (Ce [])))))))
def D0(aD:As)(aB:As):Gc->Option lT:=
 λ((i1,i2):Gc)=>(bif (decide (i2<(aB.length:Int))) then(Option.bind (α:=Int) (Ch (Bt i2 aB.length) (Ch (Bt (aB.getD i2.toNat 0) aD.length) (bif ((aD.getD (aB.getD i2.toNat 0).toNat (0:Int))==-2) then(some i1) else(bif (i1==-2) then(some (aB.getD i2.toNat 0)) else((Lx aD i1 (aB.getD i2.toNat 0)).bind λx7=>(some x7)))))) (λx8=>(some (.next (x8,(Bh (i2+1))))))) else(some (.done i1)))
def H7(aD:As)(aB:As):Option Int:=
 ((Ag (D0 aD aB) ((-2:Int),(0:Int))).bind (λx10=>(some x10)))
theorem Th(h:H7 v4 v17=some v1):sP 114 [(Z7 v4),(Z7 v17)] [] (.int .i64 v1) []:=
 sG Tryz.func114 λΓ q=>tW q G3 [] BS [] (Ak q KQ [] (tL q h KQ [] (λu (i1,i2)=>(Fg u [(5,(Z6 i1)),(10,(Z6 i2))] [])) (λu i3=>aG Γ (.exit 0) (⟨[(5,(Z6 i3))],[],[]⟩:St)) (λ⟨i1,i2⟩ y h=>Ak q [0,5,8,9,10,11] [] (gC h (λh=>tB h λx8 y8 h=>gJ y8 (λi4=>aG Γ .normal (⟨[(0,(Z7 v4)),(5,(Z6 i4)),(8,(Z7 v17)),(9,(LH v17.length)),(10,(Z6 i2))],[],[]⟩:St)) (λy h=>tV q [0,5,7,8,9,10] [] h λh=>tV q [0,5,7,8,9,10,18] [] h λh=>gC h (λh=>tS h (gK (Dq (Dh KQ [] q)))) λh=>Ak q [0,5,7,8,9,10,24] [] (gC h (λh=>Ak q KQ [] (tS h (gK (Dq Mp)))) λh=>tB h λx7 y7 h=>tT q KQ [] [(DH x7)] (c1 (BC y7)) (tS h (gK (Dq Mp))))) (gA (Ak q KQ [] (tN h)))) λh=>tS h (gO (Dq (Dh [5] [] q))))) λx10 h=>gA (Ak q [4] [] (tS h (Ce [])))))
abbrev ir:=(Bool×Int×As)
abbrev mn:=(LR (Bool×Int×As) (Bool×As))
abbrev eb:=(Bool×As)
def Ds(aE:C3)(x3:As):ir->Option mn:=
 λ((b7,i8,l9):ir)=>(bif (decide (i8<((x3.drop (1:Int).toNat).length:Int))) then(Option.bind (α:=eb) (Ch (Bt i8 (x3.drop (1:Int).toNat).length) (Ch (Bt ((x3.drop (1:Int).toNat).getD i8.toNat 0) aE.Pred.length) ((H7 l9 (aE.Pred.getD ((x3.drop (1:Int).toNat).getD i8.toNat 0).toNat [])).bind λx16=>(Ch (Bt ((x3.drop (1:Int).toNat).getD i8.toNat 0) l9.length) (bif (x16 !=(l9.getD ((x3.drop (1:Int).toNat).getD i8.toNat 0).toNat (0:Int))) then(Ch (Bt ((x3.drop (1:Int).toNat).getD i8.toNat 0) l9.length) (some (true,(l9.set ((x3.drop (1:Int).toNat).getD i8.toNat 0).toNat x16)))) else(some (b7,l9))))))) (λ(b12,l13)=>(some (.next (b12,(Bh (i8+1)),l13))))) else(some (.done (b7,l9))))
def Pe(aE:C3)(l1:As):ir->Option mn:=
 λ((b24,i25,l26):ir)=>(bif (decide (i25<((l1.drop (1:Int).toNat).length:Int))) then(Option.bind (α:=eb) (Ch (Bt i25 (l1.drop (1:Int).toNat).length) (Ch (Bt ((l1.drop (1:Int).toNat).getD i25.toNat 0) aE.Pred.length) ((H7 l26 (aE.Pred.getD ((l1.drop (1:Int).toNat).getD i25.toNat 0).toNat [])).bind λx33=>(Ch (Bt ((l1.drop (1:Int).toNat).getD i25.toNat 0) l26.length) (bif (x33 !=(l26.getD ((l1.drop (1:Int).toNat).getD i25.toNat 0).toNat (0:Int))) then(Ch (Bt ((l1.drop (1:Int).toNat).getD i25.toNat 0) l26.length) (some (true,(l26.set ((l1.drop (1:Int).toNat).getD i25.toNat 0).toNat x33)))) else(some (b24,l26))))))) (λ(b29,l30)=>(some (.next (b29,(Bh (i25+1)),l30))))) else(some (.done (b24,l26))))
abbrev ed:=(As×As)
def Ey(aE:C3):ed->Option (LR (As×As) As):=
 λ(s_:ed)=>match s_ with|(l1,l2)=>(Ch (0<=(1:Int)/\(1:Int)<=(l1.length:Int)) ((Ag (Pe aE l1) (false,(0:Int),l2)).bind (λx38=>(match x38 with|(b27,l28)=>(bif b27 then(some (.next (l1,l28))) else(some (.done l28)))))))
def SK(Γ:G0)(aE:C3)(aW:Int)(r:As):Exit->St->Prop:=fK Tryz.prog Γ Tryz.f85.results.toList [] (IB r 20000) [(20000,.tok 1 3 r.length)]
def lM:=(λn_=>Cc n_ [2,13,21])
def nE:List jl:=[(4,bP)]
def nD(x3:As)(i8:Int):=((x3.drop (1:Int).toNat).getD i8.toNat 0)
def nC(l1:As)(i25:Int):=((l1.drop (1:Int).toNat).getD i25.toNat 0)
def nd(aE:C3):List AV:=[(SG aE.Succ),(SG aE.Pred)]
def oT:=(Z38:St)
def Nx(aE:C3)(aW:Int):Option As:=
 ((Po (S:=ed) (X:=As) ((Gy aE aW).bind λx3=>(bif ((x3.length:Int)==0) then(some (.done ([]:As))) else((E8 ([(-2:Int)]:As) (aE.Succ.length:Int)).bind λx4=>(Ch (Bt aW x4.length) (Ch (0<=(1:Int)/\(1:Int)<=(x3.length:Int)) ((Ag (Ds aE x3) (false,(0:Int),(x4.set aW.toNat (-1:Int)))).bind (λ(b10,l11)=>(bif b10 then(some (.next (x3,l11))) else(some (.done l11)))))))))) (Ey aE)).bind (λx40=>(some x40)))
theorem QE(h:Nx v18 v1=some v4):sP 85 [(.agg (Qm v18)),(Z6 v1)] [] (IB v4 20000) [(20000,.tok 1 3 v4.length)]:=
 sG Tryz.func85 λΓ q=>have hΓ:=q.own;gR q V3 [2] nE [] (c1 (G4 1 Ar (0:Int))) (tB h λx40 y40 h=>gS y40 (λ(s_:ed)=>match s_ with|(l1,l2)=>0) (λ(s_:ed)=>match s_ with|(l1,l2)=>(⟨[NQ,(5,(IB l1 13)),(6,(.vsl 21 l2.length))],[(NS (nd v18)),(13,.tok 1 3 l1.length),(Z4 21 l2)],[]⟩:St)) (λr_=>aR (SK Γ v18 v1 r_)) (λy h=>tB h λx3 y3 h=>tT q GV [2,13] [⟨[],[(20000,13)],(IB x3 20000),[(20000,.tok 1 3 x3.length)],[],[]⟩] (c1 (Ti y3)) (Ak q [1,2,5,16] [2,13] (gC h (λh=>gR q [4] [] nE [] (c1 (G4 1 Ar (0:Int))) (Rz (⟨nE,[],[]⟩:St) (tS h (jR (Sx (Kk VP (show Le Γ _ oT from Le.trans (Dh (st':=⟨nE,[],[]⟩) [4] [] q) (Le.trans (ME (t:=4) (nm:=6004) (sz':=1) (λi=>Ar (([]:As).getD i 0)) 3 rfl rfl (.inl ⟨rfl,rfl⟩) (λh_=>absurd h_ (by decide))) (Dh (st':=oT) [4] [6004] q))))))))) λh=>tB h λx4 y4 h=>gR q [1,2,5,6] Kj [(17,(AV.list 1 Ar 0 ([(-2:Int)]:As) .exact))] [⟨[],[(20000,21)],(.vsl 20000 x4.length),[(Z4 20000 x4)],[],[]⟩] (c2 (Cf 1 Ar (0:Int) ([(-2:Int)]:As)) (Pn y4)) (tC h λc5_ h=>tU q V1 Kj (c2 c5_ (Eq.refl x4.length)) (Mt (Le.trans (Xh 21 (show ∀ k_,k_<x4.length->AVleL ((λi_=>AV.eraseAll lM ((Lg (λi=>Ar (x4.getD i 0)) v1.toNat 0 [(.int .i64 (-1:Int))]) i_)) k_) ((λi=>Ar ((x4.set v1.toNat (-1:Int)).getD i 0)) k_) from(Ck (H5 ..).symm (λk_ hk_=>(B9 (AV.eraseAll lM) ((Mh (λ_ _=>rfl) (Oo c5_) rfl) k_ hk_)).trans rfl)))) (S9 (λ(k_:Nat) u=>(Fg u [(6,(.vsl 21 k_))] [(21,.arr 1 3 k_ (λi=>Ar ((x4.set v1.toNat (-1:Int)).getD i 0)))])) (show x4.length=(x4.set v1.toNat (-1:Int)).length from(H5 ..).symm))) (Ak q KS Kj (tC h λc6_ h=>gR q Vy Kj [(26,(AV.list 1 Ar 0 (x3.drop (1:Int).toNat) .none))] [] (c2 c6_ (show(AVle (.slice 1 (x3.length-(1:Int).toNat) (λi=>Ar (x3.getD ((1:Int).toNat+i) 0)) .none) (AV.list 1 Ar 0 (x3.drop (1:Int).toNat) .none)) from LM)) (tL q h Vy Kj (λu (b7,i8,l9)=>(Fg u [(6,(.vsl 21 l9.length)),(7,(.bool b7)),(28,(Z6 i8))] [(Z4 21 l9)])) (λu (b10,l11)=>aG Γ (.exit 0) (Wl KS Kj u [(6,(.vsl 21 l11.length)),(7,(.bool b10))] [(Z4 21 l11)])) (λ⟨b7,i8,l9⟩ y h=>Ak q jq Kj (gC h (λh=>tB h λx19 y19 h=>gJ y19 (λ(b12,l13)=>aG Γ .normal (⟨[NQ,(5,(IB x3 13)),(6,(.vsl 21 l13.length)),(7,(.bool b12)),(26,(AV.list 1 Ar 0 (x3.drop (1:Int).toNat) .none)),(27,(.int .i64 ((x3.drop (1:Int).toNat).length:Int))),(28,(Z6 i8))],[(NS (nd v18)),(13,.tok 1 3 x3.length),(Z4 21 l13)],[]⟩:St)) (λy h=>tV q jr Kj h λh=>tC h λc15_ h=>tB h λx16 y16 h=>tT q jo Kj [⟨[],[],(Z6 x16),[],[21],[]⟩] (c4 c15_ (Th y16) (show(DZ []) from trivial) (Eq.refl l9.length)) (tC h λc17_ h=>tU q jn Kj (c2 c17_ (Eq.refl l9.length)) (gC h (λh=>tC h λc18_ h=>tU q Vy Kj (c2 c18_ (Eq.refl l9.length)) (tS h (gK (Dq (Le.trans (Le.trans (Xh 21 (show ∀ k_,k_<l9.length->AVleL ((λi_=>AV.eraseAll lM ((Lg (λi=>Ar (l9.getD i 0)) (nD x3 i8).toNat 0 [(Z6 x16)]) i_)) k_) ((λi=>Ar ((l9.set (nD x3 i8).toNat x16).getD i 0)) k_) from(Ck (H5 ..).symm (λk_ hk_=>(B9 (AV.eraseAll lM) ((Mh (λ_ _=>rfl) (Oo c18_) rfl) k_ hk_)).trans rfl)))) (S9 (λ(k_:Nat) u=>(Fg u [(6,(.vsl 21 k_))] [(21,.arr 1 3 k_ (λi=>Ar ((l9.set (nD x3 i8).toNat x16).getD i 0)))])) (show l9.length=(l9.set (nD x3 i8).toNat x16).length from(H5 ..).symm))) Mp))))) λh=>tS h (gK (Dq (Dh Vy Kj q)))))) (match x19,h with|⟨b12,l13⟩,h=>gA (Ak q Vy Kj (tN h)))) λh=>tS h (gO (Dq (Dh KS Kj q))))) λx21 h=>(match x21,h with|⟨b10,l11⟩,h=>gA (Ak q [2,5,6,50] Kj (gC h (λh=>tS h (gr (Dh V1 Kj q))) λh=>Ak q [4] [21] (Rz (⟨[(4,(.vsl 21 l11.length))],[(Z4 21 l11)],[]⟩:St) (tS h (jR (Sx (Kk [(21,20000)] (Le.trans (Ls (nm:=21) (sz:=1) (n:=l11.length) (e:=3) (f:=(λi=>Ar (l11.getD i 0))) (g:=(λi=>Ar (l11.getD i 0))) rfl ⟨rfl,trivial⟩ (λ_ _=>rfl) (by rw[hΓ];rfl)) (Nu (st':=⟨[(4,(IB l11 21))],[(21,.tok 1 3 l11.length)],[]⟩) (by kernel_rfl))))))))))))))))))) (λ⟨l1,l2⟩ y h=>Ak q KS Kj (tC h λc23_ h=>gR q Vy Kj [(26,(AV.list 1 Ar 0 (l1.drop (1:Int).toNat) .none))] [] (c2 c23_ (show(AVle (.slice 1 (l1.length-(1:Int).toNat) (λi=>Ar (l1.getD ((1:Int).toNat+i) 0)) .none) (AV.list 1 Ar 0 (l1.drop (1:Int).toNat) .none)) from LM)) (tL q h Vy Kj (λu (b24,i25,l26)=>(Fg u [(6,(.vsl 21 l26.length)),(7,(.bool b24)),(28,(Z6 i25))] [(Z4 21 l26)])) (λu (b27,l28)=>aG Γ (.exit 0) (Wl KS Kj u [(6,(.vsl 21 l28.length)),(7,(.bool b27))] [(Z4 21 l28)])) (λ⟨b24,i25,l26⟩ y h=>Ak q jq Kj (gC h (λh=>tB h λx36 y36 h=>gJ y36 (λ(b29,l30)=>aG Γ .normal (⟨[NQ,(5,(IB l1 13)),(6,(.vsl 21 l30.length)),(7,(.bool b29)),(26,(AV.list 1 Ar 0 (l1.drop (1:Int).toNat) .none)),(27,(.int .i64 ((l1.drop (1:Int).toNat).length:Int))),(28,(Z6 i25))],[(NS (nd v18)),(13,.tok 1 3 l1.length),(Z4 21 l30)],[]⟩:St)) (λy h=>tV q jr Kj h λh=>tC h λc32_ h=>tB h λx33 y33 h=>tT q jo Kj [⟨[],[],(Z6 x33),[],[21],[]⟩] (c4 c32_ (Th y33) (show(DZ []) from trivial) (Eq.refl l26.length)) (tC h λc34_ h=>tU q jn Kj (c2 c34_ (Eq.refl l26.length)) (gC h (λh=>tC h λc35_ h=>tU q Vy Kj (c2 c35_ (Eq.refl l26.length)) (tS h (gK (Dq (Le.trans (Le.trans (Xh 21 (show ∀ k_,k_<l26.length->AVleL ((λi_=>AV.eraseAll lM ((Lg (λi=>Ar (l26.getD i 0)) (nC l1 i25).toNat 0 [(Z6 x33)]) i_)) k_) ((λi=>Ar ((l26.set (nC l1 i25).toNat x33).getD i 0)) k_) from(Ck (H5 ..).symm (λk_ hk_=>(B9 (AV.eraseAll lM) ((Mh (λ_ _=>rfl) (Oo c35_) rfl) k_ hk_)).trans rfl)))) (S9 (λ(k_:Nat) u=>(Fg u [(6,(.vsl 21 k_))] [(21,.arr 1 3 k_ (λi=>Ar ((l26.set (nC l1 i25).toNat x33).getD i 0)))])) (show l26.length=(l26.set (nC l1 i25).toNat x33).length from(H5 ..).symm))) Mp))))) λh=>tS h (gK (Dq (Dh Vy Kj q)))))) (match x36,h with|⟨b29,l30⟩,h=>gA (Ak q Vy Kj (tN h)))) λh=>tS h (gO (Dq (Dh KS Kj q))))) λx38 h=>(match x38,h with|⟨b27,l28⟩,h=>gA (Ak q [2,5,6,50] Kj (gC h (λh=>tS h (gr (Dh V1 Kj q))) λh=>Ak q [4] [21] (Rz (⟨[(4,(.vsl 21 l28.length))],[(Z4 21 l28)],[]⟩:St) (tS h (jR (Sx (Kk [(21,20000)] (Le.trans (Ls (nm:=21) (sz:=1) (n:=l28.length) (e:=3) (f:=(λi=>Ar (l28.getD i 0))) (g:=(λi=>Ar (l28.getD i 0))) rfl ⟨rfl,trivial⟩ (λ_ _=>rfl) (by rw[hΓ];rfl)) (Nu (st':=⟨[(4,(IB l28 21))],[(21,.tok 1 3 l28.length)],[]⟩) (by kernel_rfl)))))))))))))) (Xd (λst' hk=>tS h (gK hk))))
def Hp(aa5:List Fh)(aa8:As):Int->Option (LR Int (Unit ⊕ Bool)):=
 λ(i1:Int)=>(bif (decide (i1<(aa5.length:Int))) then(Ch (Bt i1 aa5.length) ((D9 ((aa5.getD i1.toNat default).From) aa8).bind λx3=>(bif (bif (!x3) then true else((((aa5.getD i1.toNat default).Args).length:Int)!=(aa8.length:Int))) then(some (.done (.inr false))) else(some (.next (Bh (i1+1))))))) else(some (.done (.inl ()))))
def BU(Γ:G0)(aa5:List Fh)(aa8:As)(r:Bool):Exit->St->Prop:=fK Tryz.prog Γ Tryz.f86.results.toList [] (.bool r) []
def Jw(aa5:List Fh)(aa8:As):Option Bool:=
 ((Ag (Hp aa5 aa8) (0:Int)).bind (λx4=>(match x4 with|(.inl _)=>(some true)|(.inr r6)=>(some r6))))
theorem Zh(h:Jw v7 v4=some v5):sP 86 [(AV.list 4 Vb default v7 .none),(Z7 v4)] [] (.bool v5) []:=
 sG Tryz.func86 λΓ q=>tW q G3 [] Ie [] (tL q h Ie [] (λu i1=>(Fg u [(9,(Z6 i1))] [])) (λu x_=>match x_ with|(.inl _)=>aG Γ (.exit 0) (⟨[],[],[]⟩:St)|(.inr r_)=>aR (BU Γ v7 v4 r_)) (λi1 y h=>Ak q BP [] (gC h (λh=>tV q BQ [6] h λh=>tB h λx3 y3 h=>tT q [1,7,8,9,25] [] [(Z2 x3)] (ci (Kc y3) (mH ((!x3)==false) (c1 (S5 (!x3))))) (gC h (λh=>Ak q [4] [] (tS h (gO (Sx (Kk [] (Le.refl _ _)))))) λh=>Ak q Ie [] (tN h))) λh=>tS h (gO (Dq (Dh [] [] q))))) λx4 h=>(match x4,h with | .inl _,h=>gA (Ak q [4] [] (tS h (Ce []))) | .inr r6,h=>Xd (λst' hk=>tS h (gK hk))))
def oU(aJ:Hs):=(bif (aJ.Kind==0) then true else(aJ.Kind==2))
def Hx(aJ:Hs):Option Bool:=
 (some (bif (bif (aJ.Kind==0) then true else(aJ.Kind==2)) then true else(aJ.Arg==0)))
theorem Zg(h:Hx v9=some v5):sP 87 [(.agg (WP v9))] [] (.bool v5) []:=
 sG Tryz.func87 λΓ q=>Ak q [1] [1] (tU q [2] [] (Xe ((v9.Kind==0)==false) (ci (S5 (v9.Kind==0)) (Xe ((oU v9)==false) (c1 (S5 (oU v9)))))) (tS h (Ce [])))
def Cl(a1:TFunc)(a4:Int)(a5:List A6)(x1:mz)(x3:As):Int->Option (LR Int (Unit ⊕ (Int×TFunc×Int×As×List A6))):=
 λ(i4:Int)=>(bif (decide (i4<(a1.Blocks.length:Int))) then(Ch (Bt i4 a1.Blocks.length) (Ch (Bt i4 x1.1.Pred.length) ((Jw ((a1.Blocks.getD i4.toNat default).Phis) (x1.1.Pred.getD i4.toNat [])).bind λx7=>((bif ((!x7)==false) then Hx (⟨(a1.Blocks.getD i4.toNat default).End.Kind,(a1.Blocks.getD i4.toNat default).End.Arg,(a1.Blocks.getD i4.toNat default).End.To⟩:Hs) else some false).bind λx8=>(bif (bif (!x7) then true else(!x8)) then(some (.done (.inr ((5:Int),a1,a4,x3,a5)))) else(some (.next (Bh (i4+1))))))))) else(some (.done (.inl ()))))
def Qg(Γ:G0)(a1:TFunc)(a4:Int)(a9:As)(a5:List A6)(r:bI):Exit->St->Prop:=fK Tryz.prog Γ Tryz.f72.results.toList (Z3 a1.Params a1.Ret a1.Blocks a4 a9 a5 a5.length) (Z6 r.1) (Z3 r.2.1.Params r.2.1.Ret r.2.1.Blocks r.2.2.1 r.2.2.2.1 r.2.2.2.2 r.2.2.2.2.length)
def nf(x1:mz):=((x1.2 !=0)==false)
def oV(x3:As)(a1:TFunc)(a4:Int)(a5:List A6):List SH:=[(31,.tok 1 3 x3.length),(30000,.row 110 [(Z7 a1.Params),(Z6 a1.Ret),(LF a1.Blocks),(Z6 a4),(Z7 x3),.nilm,(AV.list 5 Jm default a5 (.own 37006))]),(Z9 a5.length)]
def nF(x3:As)(a1:TFunc)(a4:Int)(a5:List A6):List SH:=[(31,.tok 1 3 x3.length),(30000,.row 110 [(Z7 a1.Params),(Z6 a1.Ret),(LF a1.Blocks),(Z6 a4),(IB x3 31),.nilm,(AV.list 5 Jm default a5 (.own 37006))]),(Z9 a5.length)]
def Fo(a1:TFunc)(a4:Int)(a9:As)(a5:List A6):Option bI:=
 ((Q0 a1).bind λx1=>((bif ((x1.2 !=0)==false) then Gy x1.1 (0:Int) else some []).bind λx2=>(bif (bif (x1.2 !=0) then true else(decide ((x2.length:Int)<(a1.Blocks.length:Int)))) then(some ((5:Int),a1,a4,a9,a5)) else((Nx x1.1 (0:Int)).bind λx3=>((Ag (Cl a1 a4 a5 x1 x3) (0:Int)).bind (λx9=>(match x9 with|(.inl _)=>(some ((0:Int),a1,a4,x3,a5))|(.inr r11)=>(some r11))))))))
theorem Pz(h:Fo v0 v1 v4 v12=some v13):sP 72 [Yp] (Z3 v0.Params v0.Ret v0.Blocks v1 v4 v12 v12.length) (Z6 v13.1) (Z3 v13.2.1.Params v13.2.1.Ret v13.2.1.Blocks v13.2.2.1 v13.2.2.2.1 v13.2.2.2.2 v13.2.2.2.2.length):=
 sG Tryz.func72 λΓ q=>Ak q [0] Fj (tB h λx1 y1 h=>tT q [0,3,4] RW [⟨[],[],(.tuple [(.agg (Qm x1.1)),(Z6 x1.2)]),[],[],[]⟩] (c1 (QF y1)) (tB h λx2 y2 h=>tT q [0,3,28] RW [⟨[],[],(Z7 x2),[],[],[]⟩] (fP (gI (nf x1)) (show((nf x1)=true->(sP 84 [(.agg (Qm x1.1)),Mr] [] (Z7 x2) [])) from(λhg=>(Spec.drop (Ti (Bo hg y2))))) (pA (nf x1) (c1 (S5 (x1.2 !=0))))) (gC h (λh=>Ak q [2] Fj (tS h (Ce CF))) λh=>tB h λx3 y3 h=>tT q V4 KN [⟨[],[(20000,31)],(IB x3 20000),[(20000,.tok 1 3 x3.length)],[],[]⟩] (c1 (QE y3)) (Ak q VQ KN (tL q h VQ KN (λu i4=>(Fg u [(40,(Z6 i4))] [])) (λu x_=>match x_ with|(.inl _)=>aG Γ (.exit 0) (Wl [] KO u [] [])|(.inr r_)=>aR (Qg Γ v0 v1 v4 v12 r_)) (λi4 y h=>Ak q [3,38,39,40,41] KN (gC h (λh=>tV q [3,5,6,38,39,40] [3,6,31,30000,37006] h λh=>tC h λc6_ h=>tB h λx7 y7 h=>tB h λx8 y8 h=>tT q [3,38,39,40,59] KN [(Z2 x7),(Z2 x8)] (fP c6_ (Zh y7) (Xe ((!x7)==false) (c3 (λ(hg:((!x7)==false)=true)=>(Zg (Bo hg y8))) (gI ((!x7)==false)) (S5 (!x7))))) (gC h (λh=>Ak q [2] KO (Rz (⟨[(2,fN)],(nF x3 v0 v1 v12),[]⟩:St) (tS h (gO (Sx (Kk CF (show Le Γ _ (⟨[(2,fN)],(oV x3 v0 v1 v12),[]⟩:St) from Le.trans (Dh (st':=⟨[(2,fN)],(nF x3 v0 v1 v12),[]⟩) [2] KO q) (Jh (.cons (AVle.refl _) .nil) (.same (.row (.cons (AVle.refl _) (.cons (AVle.refl _) (.cons (AVle.refl _) (.cons (AVle.refl _) (.cons AVle.untag (.cons (AVle.refl _) (.cons (AVle.refl _) .nil))))))) (.same .nil))))))))))) λh=>Ak q VQ KN (tN h))) λh=>tS h (gO (Dq (Dh [] KO q))))) λx9 h=>(match x9,h with | .inl _,h=>gA (Ak q [2] KO (Rz (⟨[(2,Mr)],(nF x3 v0 v1 v12),[]⟩:St) (tS h (gK (e:=.ret) (Kk CF (show Le Γ _ (⟨[(2,Mr)],(oV x3 v0 v1 v12),[]⟩:St) from Le.trans (Dh (st':=⟨[(2,Mr)],(nF x3 v0 v1 v12),[]⟩) [2] KO q) (Jh (.cons (AVle.refl _) .nil) (.same (.row (.cons (AVle.refl _) (.cons (AVle.refl _) (.cons (AVle.refl _) (.cons (AVle.refl _) (.cons AVle.untag (.cons (AVle.refl _) (.cons (AVle.refl _) .nil))))))) (.same .nil)))))))))) | .inr r11,h=>Xd (λst' hk=>tS h (gK hk))))))))
def Gz(aM:Int):Option Bool:=
 (Option.bind (α:=Bool) (bif (aM==1) then(some (aM==1)) else(bif (aM==8) then(some (aM==8)) else(bif (aM==16) then(some (aM==16)) else(bif (aM==32) then(some (aM==32)) else(some (aM==64)))))) (λx2=>(bif x2 then(some true) else(some false))))
theorem It(h:Gz v1=some v5):sP 89 [(Z6 v1)] [] (.bool v5) []:=
 sG Tryz.func89 λΓ q=>tW q [0] [] [3] [] (tB h λx2 y2 h=>gJ y2 (λb1=>aG Γ .normal (⟨[(4,(.bool b1))],[],[]⟩:St)) (λy h=>Ak q [3,4] [] (gC h (λh=>tS h (gK (Dq (Dh [4] [] q)))) λh=>Ak q [3,4] [] (gC h (λh=>tS h (gK (Dq (Dh [4] [] q)))) λh=>Ak q [3,4] [] (gC h (λh=>tS h (gK (Dq (Dh [4] [] q)))) λh=>Ak q [3,4] [] (gC h (λh=>tS h (gK (Dq (Dh [4] [] q)))) λh=>Ak q [4] [] (tS h (gK (Dq Mp)))))))) (gA (gC h (λh=>Ak q [2] [] (tS h (Ce []))) λh=>Ak q [2] [] (tS h (Ce [])))))
def Ho(aB:As):Int->Option (LR Int (Unit ⊕ Bool)):=
 λ(i1:Int)=>(bif (decide (i1<(aB.length:Int))) then(Ch (Bt i1 aB.length) ((Gz (aB.getD i1.toNat 0)).bind λx3=>(bif (!x3) then(some (.done (.inr false))) else(some (.next (Bh (i1+1))))))) else(some (.done (.inl ()))))
def BT(Γ:G0)(aB:As)(r:Bool):Exit->St->Prop:=fK Tryz.prog Γ Tryz.f88.results.toList [] (.bool r) []
def Jv(aB:As):Option Bool:=
 ((Ag (Ho aB) (0:Int)).bind (λx4=>(match x4 with|(.inl _)=>(some true)|(.inr r6)=>(some r6))))
theorem Zf(h:Jv v4=some v5):sP 88 [(Z7 v4),(.clo 89 [] [])] [] (.bool v5) []:=
 sG Tryz.func88 λΓ q=>tW q G3 [] Ie [] (tL q h Ie [] (λu i1=>(Fg u [(9,(Z6 i1))] [])) (λu x_=>match x_ with|(.inl _)=>aG Γ (.exit 0) (⟨[],[],[]⟩:St)|(.inr r_)=>aR (BT Γ v4 r_)) (λi1 y h=>Ak q BP [] (gC h (λh=>tV q BQ [] h λh=>tB h λx3 y3 h=>tT q GS [] [(Z2 x3)] (c1 (It y3)) (gC h (λh=>Ak q [4] [] (tS h (gO (Sx (Kk [] (Le.refl _ _)))))) λh=>Ak q Ie [] (tN h))) λh=>tS h (gO (Dq (Dh [] [] q))))) λx4 h=>(match x4,h with | .inl _,h=>gA (Ak q [4] [] (tS h (Ce []))) | .inr r6,h=>Xd (λst' hk=>tS h (gK hk))))
def Lw(aX:Fh):Option Bool:=
 ((Gz aX.Bits).bind λx1=>(some x1))
theorem Xv(h:Lw v6=some v5):sP 117 [(.agg (Vb v6))] [] (.bool v5) []:=
 sG Tryz.func117 λΓ q=>Ak q [1] [1] (tB h λx1 y1 h=>tT q [2] [] [(Z2 x1)] (c1 (It y1)) (tS h (Ce [])))
def Fn(aB:List Fh):Int->Option (LR Int (Unit ⊕ Bool)):=
 λ(i1:Int)=>(bif (decide (i1<(aB.length:Int))) then(Ch (Bt i1 aB.length) ((Lw (aB.getD i1.toNat default)).bind λx3=>(bif (!x3) then(some (.done (.inr false))) else(some (.next (Bh (i1+1))))))) else(some (.done (.inl ()))))
def U0(Γ:G0)(aB:List Fh)(r:Bool):Exit->St->Prop:=fK Tryz.prog Γ Tryz.f116.results.toList [] (.bool r) []
def G5(aB:List Fh):Option Bool:=
 ((Ag (Fn aB) (0:Int)).bind (λx4=>(match x4 with|(.inl _)=>(some true)|(.inr r6)=>(some r6))))
theorem Tf(h:G5 v7=some v5):sP 116 [(AV.list 4 Vb default v7 .none),(.clo 117 [] [])] [] (.bool v5) []:=
 sG Tryz.func116 λΓ q=>tW q G3 [] Ie [] (tL q h Ie [] (λu i1=>(Fg u [(9,(Z6 i1))] [])) (λu x_=>match x_ with|(.inl _)=>aG Γ (.exit 0) (⟨[],[],[]⟩:St)|(.inr r_)=>aR (U0 Γ v7 r_)) (λi1 y h=>Ak q BP [] (gC h (λh=>tV q BQ [6] h λh=>tB h λx3 y3 h=>tT q GS [] [(Z2 x3)] (c1 (Xv y3)) (gC h (λh=>Ak q [4] [] (tS h (gO (Sx (Kk [] (Le.refl _ _)))))) λh=>Ak q Ie [] (tN h))) λh=>tS h (gO (Dq (Dh [] [] q))))) λx4 h=>(match x4,h with | .inl _,h=>gA (Ak q [4] [] (tS h (Ce []))) | .inr r6,h=>Xd (λst' hk=>tS h (gK hk))))
def L9(aP:Int):Option Bool:=
 (some (bif (decide ((0:Int)<=aP)) then(decide (aP<=22)) else false))
theorem FD(h:L9 v1=some v5):sP 150 [(Z6 v1)] [] (.bool v5) []:=
 sG Tryz.func150 λΓ q=>Ak q [0] [] (tU q [2] [] (c2 (gI ((decide ((0:Int)<=v1))==true)) (Lr (decide ((0:Int)<=v1)))) (tS h (Ce [])))
def oW(x5:Bool)(aM:Int):=(bif x5 then(decide ((8:Int)<=aM)) else false)
def Nd(aM:Int)(aa4:Int):Option Bool:=
 (bif (aa4==1) then((Gz aM).bind λx1=>(some x1)) else(Option.bind (α:=Bool) (bif (aa4==2) then(some (aa4==2)) else(bif (aa4==4) then(some (aa4==4)) else(bif (aa4==8) then(some (aa4==8)) else(some (aa4==16))))) (λx3=>(bif x3 then((Gz aM).bind λx5=>(some (bif (bif x5 then(decide ((8:Int)<=aM)) else false) then(decide (((Bh (aM*aa4)):Int)<=128)) else false))) else(some false)))))
theorem HQ(h:Nd v1 v2=some v5):sP 151 [(Z6 v1),(Z6 v2)] [] (.bool v5) []:=
 sG Tryz.func151 λΓ q=>tW q G3 [] BS [] (Ak q [0,1,5,6] [] (gC h (λh=>tB h λx1 y1 h=>tT q [4] [] [(Z2 x1)] (c1 (It y1)) (tS h (Ce []))) λh=>tB h λx3 y3 h=>gJ y3 (λb2=>aG Γ .normal (⟨[(0,(Z6 v1)),(1,(Z6 v2)),(10,(.bool b2))],[],[]⟩:St)) (λy h=>Ak q [0,1,5,10] [] (gC h (λh=>tS h (gK (Dq (Dh BR [] q)))) λh=>Ak q [0,1,5,10] [] (gC h (λh=>tS h (gK (Dq (Dh BR [] q)))) λh=>Ak q [0,1,5,10] [] (gC h (λh=>tS h (gK (Dq (Dh BR [] q)))) λh=>Ak q BR [] (tS h (gK (Dq Mp))))))) (gA (gC h (λh=>tB h λx5 y5 h=>tT q [4] [] [(Z2 x5)] (nQ (It y5) (gI (x5==true)) (Lr x5) (ZL ((oW x5 v1)==true) (c1 (Lr (oW x5 v1))))) (tS h (Ce []))) λh=>Ak q [4] [] (tS h (Ce []))))))
def nG(a2:Cz):List SH:=[(nO a2.Kind a2.Bits a2.Lanes a2.Dst a2.Args a2.Imm)]
def I6(a2:Cz):Option Bool:=
 (Option.bind (α:=Bool) (bif (a2.Kind==16) then(some (a2.Kind==16)) else(some (a2.Kind==17))) (λx2=>(bif x2 then(some (decide ((8:Int)<=a2.Bits))) else(Option.bind (α:=Bool) (bif (a2.Kind==18) then(some (a2.Kind==18)) else(some (a2.Kind==19))) (λx5=>(bif x5 then(some (bif (decide ((8:Int)<=a2.Bits)) then(a2.Lanes==1) else false)) else(Option.bind (α:=Bool) (bif (a2.Kind==4) then(some (a2.Kind==4)) else(bif (a2.Kind==10) then(some (a2.Kind==10)) else(bif (a2.Kind==11) then(some (a2.Kind==11)) else(bif (a2.Kind==12) then(some (a2.Kind==12)) else(bif (a2.Kind==14) then(some (a2.Kind==14)) else(bif (a2.Kind==15) then(some (a2.Kind==15)) else(some (a2.Kind==20)))))))) (λx8=>(bif x8 then(some (a2.Lanes==1)) else(Option.bind (α:=Bool) (bif (a2.Kind==21) then(some (a2.Kind==21)) else(some (a2.Kind==22))) (λx11=>(bif x11 then(some (decide ((1:Int)<a2.Lanes))) else(some true)))))))))))))
theorem Xy(h:I6 v3=some v5):sP 152 [(Sr v3)] [] (.bool v5) []:=
 sG Tryz.func152 λΓ q=>tW q [1] [1] [1,4] [1] (tB h λx2 y2 h=>gJ y2 (λb1=>aG Γ .normal (⟨[(1,(.ptr 1 0)),(4,(Z6 v3.Kind)),(5,(.bool b1))],(nG v3),[]⟩:St)) (λy h=>Ak q [1,4,5] [1] (gC h (λh=>tS h (gK (Dq Mp))) λh=>Ak q [1,4,5] [1] (tS h (gK (Dq Mp))))) (gA (gC h (λh=>Ak q [2] [] (tS h (Ce []))) λh=>tB h λx5 y5 h=>gJ y5 (λb4=>aG Γ .normal (⟨[(1,(.ptr 1 0)),(4,(Z6 v3.Kind)),(11,(.bool b4))],(nG v3),[]⟩:St)) (λy h=>Ak q [1,4,11] [1] (gC h (λh=>tS h (gK (Dq Mp))) λh=>Ak q [1,4,11] [1] (tS h (gK (Dq Mp))))) (gA (gC h (λh=>tU q [2] [] (Xe ((decide ((8:Int)<=v3.Bits))==true) (c1 (Lr (decide ((8:Int)<=v3.Bits))))) (tS h (Ce []))) λh=>tB h λx8 y8 h=>gJ y8 (λb7=>aG Γ .normal (⟨[(1,(.ptr 1 0)),(4,(Z6 v3.Kind)),(22,(.bool b7))],(nG v3),[]⟩:St)) (λy h=>Ak q GU [1] (gC h (λh=>tS h (gK (Dq Mp))) λh=>Ak q GU [1] (gC h (λh=>tS h (gK (Dq Mp))) λh=>Ak q GU [1] (gC h (λh=>tS h (gK (Dq Mp))) λh=>Ak q GU [1] (gC h (λh=>tS h (gK (Dq Mp))) λh=>Ak q GU [1] (gC h (λh=>tS h (gK (Dq Mp))) λh=>Ak q GU [1] (gC h (λh=>tS h (gK (Dq Mp))) λh=>Ak q GU [1] (tS h (gK (Dq Mp)))))))))) (gA (gC h (λh=>Ak q [2] [] (tS h (Ce []))) λh=>tB h λx11 y11 h=>gJ y11 (λb10=>aG Γ .normal (⟨[(1,(.ptr 1 0)),(33,(.bool b10))],(nG v3),[]⟩:St)) (λy h=>Ak q [1,4,33] [1] (gC h (λh=>tS h (gK (Dq (Dh [1,33] [1] q)))) λh=>Ak q [1,33] [1] (tS h (gK (Dq Mp))))) (gA (gC h (λh=>Ak q [2] [] (tS h (Ce []))) λh=>Ak q [2] [] (tS h (Ce [])))))))))))
def Ra(a8:Int)(aM:Int):Option Int:=
 ((Gz aM).bind λx1=>(bif (!x1) then(some (0:Int)) else(Ch (0<=(Bh ((64:Int)-aM))) (Ch (0<=(Bh ((64:Int)-aM))) (some (X8 .u64 (UT .u64 a8 (Bh ((64:Int)-aM))) (Bh ((64:Int)-aM))))))))
theorem QH(h:Ra v1 v2=some v20):sP 171 [(Ld v1),(Z6 v2)] [] (.int .u64 v20) []:=
 sG Tryz.func171 λΓ q=>Ak q G3 [] (tB h λx1 y1 h=>tT q [0,1,7] [] [(Z2 x1)] (c1 (It y1)) (gC h (λh=>Ak q [4] [] (tS h (Ce []))) λh=>tC h λc2_ h=>tC h λc3_ h=>tU q [4] [] (c2 c2_ c3_) (tS h (Ce []))))
def Iq(aa9:Int):Option Bool:=
 ((bif ((decide (aa9<=64))==true) then Gz (Bh aa9) else some false).bind λx1=>(some (bif (decide (aa9<=64)) then x1 else false)))
theorem R7(h:Iq v1=some v5):sP 172 [(Ld v1)] [] (.bool v5) []:=
 sG Tryz.func172 λΓ q=>Ak q [0] [] (tB h λx1 y1 h=>tT q [2] [] [(Z2 x1)] (Xe ((decide (v1<=64))==true) (c2 (λ(hg:((decide (v1<=64))==true)=true)=>(It (Bo hg y1))) (Lr (decide (v1<=64))))) (tS h (Ce [])))
def K0(a2:Cz):Option Bool:=
 (bif (a2.Kind==0) then((Ra a2.Imm a2.Bits).bind λx1=>(some (x1==a2.Imm))) else(bif (a2.Kind==14) then((Iq a2.Imm).bind λx2=>(some (bif x2 then(decide (a2.Imm<(E1 a2.Bits))) else false))) else(bif (a2.Kind==15) then((Iq a2.Imm).bind λx3=>(some (bif x3 then(decide (((E1 a2.Bits):Int)<a2.Imm)) else false))) else(bif (a2.Kind==22) then(some (decide (a2.Imm<(E1 a2.Lanes)))) else(some (a2.Imm==0))))))
theorem CD(h:K0 v3=some v5):sP 153 [(Sr v3)] [] (.bool v5) []:=
 sG Tryz.func153 λΓ q=>tW q [1] [1] [1,4] [1] (Ak q [1,4,5] [1] (gC h (λh=>tB h λx1 y1 h=>tT q [2] [] [⟨[],[],(Ld x1),[],[],[]⟩] (c1 (QH y1)) (tS h (Ce []))) λh=>Ak q [1,4,15] [1] (gC h (λh=>tB h λx2 y2 h=>tT q [2] [] [(Z2 x2)] (ci (R7 y2) (mH (x2==true) (c1 (Lr x2)))) (tS h (Ce []))) λh=>Ak q [1,4,28] [1] (gC h (λh=>tB h λx3 y3 h=>tT q [2] [] [(Z2 x3)] (ci (R7 y3) (mH (x3==true) (c1 (Lr x3)))) (tS h (Ce []))) λh=>Ak q [1,41] [1] (gC h (λh=>Ak q [2] [] (tS h (Ce []))) λh=>Ak q [2] [] (tS h (Ce [])))))))
abbrev RO:=((Int×Int))
abbrev iu:=(List (Int×Int))
def Fc(aaD:List RO):Option iu:=
 (some aaD)
variable{v21:List RO}{v22:List RO}
theorem Fu(h:Fc v21=some v22):sP 156 [(Z5 v21)] [] (Z5 v22) []:=
 sG Tryz.func156 λΓ q=>gR q [0] [] [(2,nK)] [] (c1 (G4 2 Bs ((0:Int),(0:Int)))) (Ak q [2] [] (tS h (Ce [])))
abbrev lB:=(Int×List (Int×Int))
def Ca :lB->Option (LR (Int×List (Int×Int)) (List (Int×Int))):=
 λ((i7,l8):lB)=>(bif (decide (i7<(l8.length:Int))) then(Ch (0<=i7/\0+i7.toNat<=l8.length) (Ch (0<=i7/\0+i7.toNat<=l8.length) (some (.next ((Bh (i7+((Nat.min ((0+i7.toNat)-0) (l8.length-(0+i7.toNat))):Int))),(TI l8 (0+i7.toNat) (Nat.min ((0+i7.toNat)-0) (l8.length-(0+i7.toNat))) (λi=>l8.getD (0+i) ((0:Int),(0:Int))))))))) else(some (.done l8)))
def bf(x3:Gc):=(List.replicate (Bh x3.2).toNat ((0:Int),(0:Int)))
def nh(x3:Gc)(a6:List RO):=(TI (bf x3) 0 (Nat.min a6.length ((bf x3).length-0)) (λi=>a6.getD i ((0:Int),(0:Int))))
def ng(l8:List RO)(i7:Int):=(TI l8 (0+i7.toNat) (Nat.min ((0+i7.toNat)-0) (l8.length-(0+i7.toNat))) (λi=>l8.getD (0+i) ((0:Int),(0:Int))))
def Bp(a6:List RO)(aa1:Int):Option iu:=
 (Option.bind (α:=Unit) (bif (decide (aa1<0)) then none else(some ())) (λx1=>(match x1 with|_=>((Lv (E1 (a6.length:Int)) (E1 aa1)).bind λx3=>(Option.bind (α:=Unit) (bif (bif (decide ((0:Int)<x3.1)) then true else(decide ((9223372036854775807:Int)<x3.2))) then none else(some ())) (λx4=>(match x4 with|_=>(Ch (0<=(Bh x3.2)/\(Bh x3.2)<=(Bh x3.2)/\(Bh x3.2)<=(room:Int)) ((Ag (S:=lB) (X:=List Gc) Ca (((Nat.min a6.length ((List.replicate (Bh x3.2).toNat ((0:Int),(0:Int))).length-0)):Int),(TI (List.replicate (Bh x3.2).toNat ((0:Int),(0:Int))) 0 (Nat.min a6.length ((List.replicate (Bh x3.2).toNat ((0:Int),(0:Int))).length-0)) (λi=>a6.getD i ((0:Int),(0:Int)))))).bind (λx12=>(some x12)))))))))))
theorem Mz(h:Bp v21 v1=some v22):sP 157 [(Z5 v21),(Z6 v1)] [] (AV.list 2 Bs ((0:Int),(0:Int)) v22 (.own 20000)) [(20000,.tok 2 73 v22.length)]:=
 sG Tryz.func157 λΓ q=>have hΓ:=q.own;gR q G3 [] [(4,nK)] [] (c1 (G4 2 Bs ((0:Int),(0:Int)))) (tB h λx1 y1 h=>gJ y1 (λ_=>aG Γ .normal (⟨[(0,(Z5 v21)),(1,(Z6 v1))],[],[]⟩:St)) (λy h=>Ak q BR [] (gC h (λh=>nomatch h) λh=>tS h (gK (Dq (Dh G3 [] q))))) (gA (tB h λx3 y3 h=>tT q [0,5,6] [] [⟨[],[],(.tuple [(Ld x3.1),(Ld x3.2)]),[],[],[]⟩] (c1 (BB y3)) (tB h λx4 y4 h=>gJ y4 (λ_=>aG Γ .normal (⟨[(0,(Z5 v21)),(6,(Ld x3.2))],[],[]⟩:St)) (λy h=>tU q [0,6,26] [] (c2 (gI ((decide ((0:Int)<x3.1))==false)) (S5 (decide ((0:Int)<x3.1)))) (gC h (λh=>nomatch h) λh=>tS h (gK (Dq (Dh [0,6] [] q))))) (gA (tV q [0,7] [30] h λh=>by exact Mt (Le.trans (Xh 30 (show ∀ k_,k_<((Bh x3.2).toNat)->AVleL ((λi_=>AV.eraseAll (λn_=>Cc n_ [30]) ((λ_=>[Mr,Mr]) i_)) k_) ((λi=>Bs ((bf x3).getD i ((0:Int),(0:Int)))) k_) from(λk hk=>Xl (e:=Bs) (d:=((0:Int),(0:Int))) (.cons (AVle.refl _) (.cons (AVle.refl _) .nil)) _ k (X4 hk)))) (S9 (λ(k_:Nat) u=>(Fg u [(7,(.vsl 30 k_))] [(30,.arr 2 73 k_ (λi=>Bs ((bf x3).getD i ((0:Int),(0:Int)))))])) (show(Bh x3.2).toNat=(bf x3).length from(Ye ..).symm))) (tU q Mo [30] (c1 (Eq.refl ((bf x3).length))) (Mt (Le.trans (Xh 30 (show ∀ k_,k_<((bf x3).length)->AVleL ((λi_=>AV.eraseAll (λn_=>Cc n_ [30]) ((OV (λi=>Bs ((bf x3).getD i ((0:Int),(0:Int)))) 0 (Nat.min v21.length ((bf x3).length-0)) (λi=>Bs (v21.getD i ((0:Int),(0:Int))))) i_)) k_) ((λi=>Bs ((nh x3 v21).getD i ((0:Int),(0:Int)))) k_) from(Ck (Fy ..) (λk_ hk_=>(B9 (AV.eraseAll (λn_=>Cc n_ [30])) ((CM (e:=Bs) (d:=((0:Int),(0:Int))) (l:=(bf x3)) (s:=(λi=>v21.getD i ((0:Int),(0:Int)))) (λ_ _=>rfl) (λ_ _=>rfl)) k_ hk_)).trans rfl)))) (S9 (λ(k_:Nat) u=>(Fg u [(7,(.vsl 30 k_))] [(30,.arr 2 73 k_ (λi=>Bs ((nh x3 v21).getD i ((0:Int),(0:Int)))))])) (show(bf x3).length=(nh x3 v21).length from(Fy ..)))) (tL q h Mo [30] (λu (i7,l8)=>(Fg u [(7,(.vsl 30 l8.length)),(8,(Z6 i7))] (n4 l8))) (λu l9=>aG Γ (.exit 0) (⟨[(7,(.vsl 30 l9.length))],(n4 l9),[]⟩:St)) (λ⟨i7,l8⟩ y h=>Ak q [7,8,37] [30] (gC h (λh=>tC h λc10_ h=>tC h λc11_ h=>tU q Mo [30] (c4 c10_ c11_ (Eq.refl l8.length) (Eq.refl l8.length)) (tS h (gN (Le.trans (Le.trans (Xh 30 (show ∀ k_,k_<l8.length->AVleL ((λi_=>AV.eraseAll (λn_=>Cc n_ [30]) ((OV (λi=>Bs (l8.getD i ((0:Int),(0:Int)))) (0+i7.toNat) (Nat.min ((0+i7.toNat)-0) (l8.length-(0+i7.toNat))) (λi=>(λi=>Bs (l8.getD i ((0:Int),(0:Int)))) (0+i))) i_)) k_) ((λi=>Bs ((ng l8 i7).getD i ((0:Int),(0:Int)))) k_) from(Ck (Fy ..) (λk_ hk_=>(B9 (AV.eraseAll (λn_=>Cc n_ [30])) ((CM (e:=Bs) (d:=((0:Int),(0:Int))) (l:=l8) (s:=(λi=>l8.getD (0+i) ((0:Int),(0:Int)))) (λ_ _=>rfl) (λ_ _=>rfl)) k_ hk_)).trans rfl)))) (S9 (λ(k_:Nat) u=>(Fg u [(7,(.vsl 30 k_))] [(30,.arr 2 73 k_ (λi=>Bs ((ng l8 i7).getD i ((0:Int),(0:Int)))))])) (show l8.length=(ng l8 i7).length from(Fy ..)))) Mp)))) λh=>tS h (gO (Dq (Dh [7] [30] q))))) λx12 h=>gA (Ak q [4] [30] (Rz (⟨[(4,(.vsl 30 x12.length))],(n4 x12),[]⟩:St) (tS h (gK (e:=.ret) (Kk [(30,20000)] (Le.trans (Ls (nm:=30) (sz:=2) (n:=x12.length) (e:=73) (f:=(λi=>Bs (x12.getD i ((0:Int),(0:Int))))) (g:=(λi=>Bs (x12.getD i ((0:Int),(0:Int))))) rfl ⟨rfl,trivial⟩ (λ_ _=>rfl) (by rw[hΓ];rfl)) (Nu (st':=⟨[(4,(AV.list 2 Bs ((0:Int),(0:Int)) x12 (.own 30)))],[(30,.tok 2 73 x12.length)],[]⟩) (by kernel_rfl)))))))))))))))))
def oX(a2:Cz):List SH:=[(nO a2.Kind a2.Bits a2.Lanes a2.Dst a2.Args a2.Imm),(3,.row 73 [(.int .i64 (1:Int)),(.int .i64 (1:Int))]),(4,.row 73 [(LH 64),(.int .i64 (1:Int))]),(5,.row 73 [(Z6 a2.Bits),(Z6 a2.Lanes)]),(6,.row 73 [(Z6 a2.Bits),(.int .i64 (1:Int))])]
def K1(a2:Cz):Option iu:=
 (bif (a2.Kind==0) then((Fc ([]:List Gc)).bind λx1=>(some x1)) else(bif (a2.Kind==13) then((Fc ([((1:Int),(1:Int)),(a2.Bits,a2.Lanes),(a2.Bits,a2.Lanes)]:List Gc)).bind λx2=>(some x2)) else(Option.bind (α:=Bool) (bif (a2.Kind==14) then(some (a2.Kind==14)) else(some (a2.Kind==15))) (λx4=>(bif x4 then((Fc ([((Bh a2.Imm),(1:Int))]:List Gc)).bind λx6=>(some x6)) else(bif (a2.Kind==16) then((Fc ([((64:Int),(1:Int))]:List Gc)).bind λx7=>(some x7)) else(bif (a2.Kind==17) then((Fc ([((64:Int),(1:Int)),(a2.Bits,a2.Lanes)]:List Gc)).bind λx8=>(some x8)) else(Option.bind (α:=Bool) (bif (a2.Kind==18) then(some (a2.Kind==18)) else(some (a2.Kind==19))) (λx10=>(bif x10 then((Fc ([((1:Int),(1:Int)),((64:Int),(1:Int)),(a2.Bits,(1:Int))]:List Gc)).bind λx12=>(some x12)) else(bif (a2.Kind==20) then((Fc ([((1:Int),(1:Int)),(a2.Bits,(1:Int)),(a2.Bits,(1:Int)),(a2.Bits,(1:Int))]:List Gc)).bind λx13=>(some x13)) else(bif (a2.Kind==21) then((Bp ([(a2.Bits,(1:Int))]:List Gc) a2.Lanes).bind λx14=>((Fc x14).bind λx15=>(some x15))) else(bif (a2.Kind==22) then((Fc ([(a2.Bits,a2.Lanes)]:List Gc)).bind λx16=>(some x16)) else((Fc ([(a2.Bits,a2.Lanes),(a2.Bits,a2.Lanes)]:List Gc)).bind λx17=>(some x17)))))))))))))))
theorem Vj(h:K1 v3=some v21):sP 143 [(Sr v3)] [] (Z5 v21) []:=
 sG Tryz.func143 λΓ q=>gR q [1] [1] [(2,nK)] [] (c1 (G4 2 Bs ((0:Int),(0:Int)))) (tW q Pb Pb Uc Uc (tW q [1,3,4,5,6,18] Uc [1,3,4,5,6,18,19] Uc (gC h (λh=>tB h λx1 y1 h=>tT q [2] [] [(YK x1)] (c1 (show(sP 156 [SR] [] (Z5 x1) []) from(Spec.args (.cons gB .nil) (Fu y1)))) (tS h (Ce []))) λh=>Ak q [1,3,4,5,6,18,22] Uc (gC h (λh=>tB h λx2 y2 h=>gR q [2] [] [(27,(AV.list 2 Bs ((0:Int),(0:Int)) ([((1:Int),(1:Int)),(v3.Bits,v3.Lanes),(v3.Bits,v3.Lanes)]:List Gc) .exact))] [(YK x2)] (c2 (Cf 2 Bs ((0:Int),(0:Int)) ([((1:Int),(1:Int)),(v3.Bits,v3.Lanes),(v3.Bits,v3.Lanes)]:List Gc)) (Fu y2)) (tS h (Ce []))) λh=>tB h λx4 y4 h=>gJ y4 (λb3=>aG Γ .normal (⟨[(1,(.ptr 1 0)),(3,(.ptr 3 0)),YL,(5,(.ptr 5 0)),NR,(18,(Z6 v3.Kind)),(29,(.bool b3))],(oX v3),[]⟩:St)) (λy h=>Ak q [1,3,4,5,6,18,29] Uc (gC h (λh=>tS h (gK (Dq Mp))) λh=>Ak q [1,3,4,5,6,18,29] Uc (tS h (gK (Dq Mp))))) (gA (gC h (λh=>tB h λx6 y6 h=>gR q [2] [] [(36,(AV.list 2 Bs ((0:Int),(0:Int)) ([((Bh v3.Imm),(1:Int))]:List Gc) .exact))] [(YK x6)] (c2 (Cf 2 Bs ((0:Int),(0:Int)) ([((Bh v3.Imm),(1:Int))]:List Gc)) (Fu y6)) (tS h (Ce []))) λh=>Ak q [1,3,4,5,6,18,38] Uc (gC h (λh=>tB h λx7 y7 h=>gR q [2] [] [(41,(AV.list 2 Bs ((0:Int),(0:Int)) ([((64:Int),(1:Int))]:List Gc) .exact))] [(YK x7)] (c2 (Cf 2 Bs ((0:Int),(0:Int)) ([((64:Int),(1:Int))]:List Gc)) (Fu y7)) (tS h (Ce []))) λh=>Ak q [1,3,4,5,6,18,43] Uc (gC h (λh=>tB h λx8 y8 h=>gR q [2] [] [(47,(AV.list 2 Bs ((0:Int),(0:Int)) ([((64:Int),(1:Int)),(v3.Bits,v3.Lanes)]:List Gc) .exact))] [(YK x8)] (c2 (Cf 2 Bs ((0:Int),(0:Int)) ([((64:Int),(1:Int)),(v3.Bits,v3.Lanes)]:List Gc)) (Fu y8)) (tS h (Ce []))) λh=>tB h λx10 y10 h=>gJ y10 (λb9=>aG Γ .normal (⟨[(1,(.ptr 1 0)),(3,(.ptr 3 0)),YL,(5,(.ptr 5 0)),NR,(18,(Z6 v3.Kind)),(49,(.bool b9))],(oX v3),[]⟩:St)) (λy h=>Ak q [1,3,4,5,6,18,49] Uc (gC h (λh=>tS h (gK (Dq Mp))) λh=>Ak q [1,3,4,5,6,18,49] Uc (tS h (gK (Dq Mp))))) (gA (gC h (λh=>tB h λx12 y12 h=>gR q [2] [] [(55,(AV.list 2 Bs ((0:Int),(0:Int)) ([((1:Int),(1:Int)),((64:Int),(1:Int)),(v3.Bits,(1:Int))]:List Gc) .exact))] [(YK x12)] (c2 (Cf 2 Bs ((0:Int),(0:Int)) ([((1:Int),(1:Int)),((64:Int),(1:Int)),(v3.Bits,(1:Int))]:List Gc)) (Fu y12)) (tS h (Ce []))) λh=>Ak q [1,3,5,6,18,57] [1,3,5,6] (gC h (λh=>tB h λx13 y13 h=>gR q [2] [] [(63,(AV.list 2 Bs ((0:Int),(0:Int)) ([((1:Int),(1:Int)),(v3.Bits,(1:Int)),(v3.Bits,(1:Int)),(v3.Bits,(1:Int))]:List Gc) .exact))] [(YK x13)] (c2 (Cf 2 Bs ((0:Int),(0:Int)) ([((1:Int),(1:Int)),(v3.Bits,(1:Int)),(v3.Bits,(1:Int)),(v3.Bits,(1:Int))]:List Gc)) (Fu y13)) (tS h (Ce []))) λh=>Ak q [1,5,6,18,65] [1,5,6] (gC h (λh=>tB h λx14 y14 h=>tB h λx15 y15 h=>gR q [2] [] [(68,(AV.list 2 Bs ((0:Int),(0:Int)) ([(v3.Bits,(1:Int))]:List Gc) .exact))] [⟨[],[(20000,71)],(AV.list 2 Bs ((0:Int),(0:Int)) x14 (.own 20000)),[(20000,.tok 2 73 x14.length)],[],[]⟩,(YK x15)] (c3 (Cf 2 Bs ((0:Int),(0:Int)) ([(v3.Bits,(1:Int))]:List Gc)) (Mz y14) (Fu y15)) (tS h (Ce []))) λh=>Ak q [5,73] [5] (gC h (λh=>tB h λx16 y16 h=>gR q [2] [] [(76,(AV.list 2 Bs ((0:Int),(0:Int)) ([(v3.Bits,v3.Lanes)]:List Gc) .exact))] [(YK x16)] (c2 (Cf 2 Bs ((0:Int),(0:Int)) ([(v3.Bits,v3.Lanes)]:List Gc)) (Fu y16)) (tS h (Ce []))) λh=>tB h λx17 y17 h=>gR q [2] [] [(80,(AV.list 2 Bs ((0:Int),(0:Int)) ([(v3.Bits,v3.Lanes),(v3.Bits,v3.Lanes)]:List Gc) .exact))] [(YK x17)] (c2 (Cf 2 Bs ((0:Int),(0:Int)) ([(v3.Bits,v3.Lanes),(v3.Bits,v3.Lanes)]:List Gc)) (Fu y17)) (tS h (Ce [])))))))))))))))
def Ip(a8:Int):Option Bool:=
 (some (bif (decide ((1:Int)<=a8)) then(decide (a8<=1023)) else false))
theorem R6(h:Ip v1=some v5):sP 173 [(Z6 v1)] [] (.bool v5) []:=
 sG Tryz.func173 λΓ q=>Ak q [0] [] (tU q [2] [] (c2 (gI ((decide ((1:Int)<=v1))==true)) (Lr (decide ((1:Int)<=v1)))) (tS h (Ce [])))
def Gs(a2:Cz):Int->Option (LR Int (Unit ⊕ Bool)):=
 λ(i2:Int)=>(bif (decide (i2<(a2.Args.length:Int))) then(Ch (Bt i2 a2.Args.length) ((Ip (a2.Args.getD i2.toNat 0)).bind λx4=>(bif (!x4) then(some (.done (.inr false))) else(some (.next (Bh (i2+1))))))) else(some (.done (.inl ()))))
def DD(Γ:G0)(a2:Cz)(r:Bool):Exit->St->Prop:=fK Tryz.prog Γ Tryz.f154.results.toList [] (.bool r) []
def Kx(a2:Cz):Option Bool:=
 ((K1 a2).bind λx1=>(bif ((a2.Args.length:Int)!=(x1.length:Int)) then(some false) else((Ag (Gs a2) (0:Int)).bind (λx5=>(match x5 with|(.inl _)=>(some true)|(.inr r7)=>(some r7))))))
theorem CB(h:Kx v3=some v5):sP 154 [(Sr v3)] [] (.bool v5) []:=
 sG Tryz.func154 λΓ q=>Ak q [1] [1] (tB h λx1 y1 h=>tT q [1,11] [1] [(YK x1)] (c1 (Vj y1)) (gC h (λh=>Ak q [2] [] (tS h (Ce []))) λh=>Ak q [13,14,15] [] (tL q h [13,14,15] [] (λu i2=>(Fg u [(15,(Z6 i2))] [])) (λu x_=>match x_ with|(.inl _)=>aG Γ (.exit 0) (⟨[],[],[]⟩:St)|(.inr r_)=>aR (DD Γ v3 r_)) (λi2 y h=>Ak q [13,14,15,16] [] (gC h (λh=>tV q [4,13,14,15] [] h λh=>tB h λx4 y4 h=>tT q [13,14,15,21] [] [(Z2 x4)] (c1 (R6 y4)) (gC h (λh=>Ak q [2] [] (tS h (gO (Sx (Kk [] (Le.refl _ _)))))) λh=>Ak q [13,14,15] [] (tN h))) λh=>tS h (gO (Dq (Dh [] [] q))))) λx5 h=>(match x5,h with | .inl _,h=>gA (Ak q [2] [] (tS h (Ce []))) | .inr r7,h=>Xd (λst' hk=>tS h (gK hk))))))
def oY(a2:Cz):List SH:=[(nO a2.Kind a2.Bits a2.Lanes a2.Dst a2.Args a2.Imm)]
def Kz(a2:Cz):Option Gc:=
 (Option.bind (α:=Bool) (bif (a2.Kind==17) then(some (a2.Kind==17)) else(some (a2.Kind==19))) (λx2=>(bif x2 then(some ((0:Int),(0:Int))) else(Option.bind (α:=Bool) (bif (a2.Kind==10) then(some (a2.Kind==10)) else(bif (a2.Kind==11) then(some (a2.Kind==11)) else(some (a2.Kind==12)))) (λx5=>(bif x5 then(some ((1:Int),(1:Int))) else(bif (a2.Kind==22) then(some (a2.Bits,(1:Int))) else(some (a2.Bits,a2.Lanes)))))))))
theorem Vi(h:Kz v3=some v19):sP 142 [(Sr v3)] [] (.tuple [(Z6 v19.1),(Z6 v19.2)]) []:=
 sG Tryz.func142 λΓ q=>tW q [1] [1] [1,5] [1] (tB h λx2 y2 h=>gJ y2 (λb1=>aG Γ .normal (⟨[(1,(.ptr 1 0)),(5,(Z6 v3.Kind)),(6,(.bool b1))],(oY v3),[]⟩:St)) (λy h=>Ak q [1,5,6] [1] (gC h (λh=>tS h (gK (Dq Mp))) λh=>Ak q [1,5,6] [1] (tS h (gK (Dq Mp))))) (gA (gC h (λh=>Ak q Kg [] (tS h (Ce []))) λh=>tB h λx5 y5 h=>gJ y5 (λb4=>aG Γ .normal (⟨[(1,(.ptr 1 0)),(5,(Z6 v3.Kind)),(9,(.bool b4))],(oY v3),[]⟩:St)) (λy h=>Ak q [1,5,9] [1] (gC h (λh=>tS h (gK (Dq Mp))) λh=>Ak q [1,5,9] [1] (gC h (λh=>tS h (gK (Dq Mp))) λh=>Ak q [1,5,9] [1] (tS h (gK (Dq Mp)))))) (gA (gC h (λh=>Ak q Kg [] (tS h (Ce []))) λh=>Ak q [1,13] [1] (gC h (λh=>Ak q Kg [] (tS h (Ce []))) λh=>Ak q Kg [] (tS h (Ce []))))))))
def Ky(a2:Cz):Option Bool:=
 ((Kz a2).bind λx1=>(bif (x1.1==0) then(some (a2.Dst==0)) else((Ip a2.Dst).bind λx2=>(some x2))))
theorem CC(h:Ky v3=some v5):sP 155 [(Sr v3)] [] (.bool v5) []:=
 sG Tryz.func155 λΓ q=>Ak q [1] [1] (tB h λx1 y1 h=>tT q Sc [1] [⟨[],[],(.tuple [(Z6 x1.1),(Z6 x1.2)]),[],[],[]⟩] (c1 (Vi y1)) (Ak q [1,11] [1] (gC h (λh=>Ak q [2] [] (tS h (Ce []))) λh=>tB h λx2 y2 h=>tT q [2] [] [(Z2 x2)] (c1 (R6 y2)) (tS h (Ce [])))))
def jB(x1:Bool)(x2:Bool):=(bif (!x1) then true else(!x2))
def Ly(a2:Cz):Option Bool:=
 ((L9 a2.Kind).bind λx1=>((bif ((!x1)==false) then Nd a2.Bits a2.Lanes else some false).bind λx2=>((bif ((bif (!x1) then true else(!x2))==false) then I6 a2 else some false).bind λx3=>((bif ((bif (bif (!x1) then true else(!x2)) then true else(!x3))==false) then K0 a2 else some false).bind λx4=>(bif (bif (bif (bif (!x1) then true else(!x2)) then true else(!x3)) then true else(!x4)) then(some false) else((Kx a2).bind λx5=>((bif (x5==true) then Ky a2 else some false).bind λx6=>(some (bif x5 then x6 else false)))))))))
theorem Tk(h:Ly v3=some v5):sP 140 [(Sr v3)] [] (.bool v5) []:=
 sG Tryz.func140 λΓ q=>Ak q [1] [1] (tB h λx1 y1 h=>tB h λx2 y2 h=>tB h λx3 y3 h=>tB h λx4 y4 h=>tT q [1,24] [1] [(Z2 x1),(Z2 x2),(Z2 x3),(Z2 x4)] (ci (FD y1) (kT ((!x1)==false) (nR (λ(hg:((!x1)==false)=true)=>(HQ (Bo hg y2))) (gI ((!x1)==false)) (S5 (!x1)) (gI ((jB x1 x2)==false)) (λ(hg:((jB x1 x2)==false)=true)=>(Xy (Bo hg y3))) (gI ((jB x1 x2)==false)) (S5 (jB x1 x2)) (gI ((bif (jB x1 x2) then true else(!x3))==false)) (λ(hg:((bif (jB x1 x2) then true else(!x3))==false)=true)=>(CD (Bo hg y4))) (c2 (gI ((bif (jB x1 x2) then true else(!x3))==false)) (S5 (bif (jB x1 x2) then true else(!x3))))))) (gC h (λh=>Ak q [2] [] (tS h (Ce []))) λh=>tB h λx5 y5 h=>tB h λx6 y6 h=>tT q [2] [] [(Z2 x5),(Z2 x6)] (c4 (CB y5) (gI (x5==true)) (λ(hg:(x5==true)=true)=>(CC (Bo hg y6))) (Lr x5)) (tS h (Ce []))))
def Nb(a2:Cz)(aQ:Int):Option Bool:=
 (bif (aQ==0) then(some (bif (decide (a2.Kind<=17)) then(a2.Lanes==1) else false)) else(bif (aQ==1) then(some (bif (decide (a2.Kind<=20)) then(a2.Lanes==1) else false)) else(some true)))
theorem HL(h:Nb v3 v1=some v5):sP 141 [(Sr v3),(Z6 v1)] [] (.bool v5) []:=
 sG Tryz.func141 λΓ q=>tW q V3 [2] [2,5] [2] (Ak q V1 [2] (gC h (λh=>tU q [4] [] (Xe ((decide (v3.Kind<=17))==true) (c1 (Lr (decide (v3.Kind<=17))))) (tS h (Ce []))) λh=>Ak q V2 [2] (gC h (λh=>tU q [4] [] (Xe ((decide (v3.Kind<=20))==true) (c1 (Lr (decide (v3.Kind<=20))))) (tS h (Ce []))) λh=>Ak q [4] [] (tS h (Ce [])))))
abbrev T3:=(Bool×TFunc×Int×As×List A6)
def E5(a2:Cz)(a1:TFunc)(a4:Int)(a9:As)(a5:List A6):Option T3:=
 ((Ly a2).bind λx1=>((bif (x1==true) then Nb a2 a4 else some false).bind λx2=>(some ((bif x1 then x2 else false),a1,a4,a9,a5))))
variable{v23:T3}
theorem Pl(h:E5 v3 v0 v1 v4 v12=some v23):sP 119 [Yp,(Sr v3)] (Z3 v0.Params v0.Ret v0.Blocks v1 v4 v12 v12.length) (.bool v23.1) (Z3 v23.2.1.Params v23.2.1.Ret v23.2.1.Blocks v23.2.2.1 v23.2.2.2.1 v23.2.2.2.2 v23.2.2.2.2.length):=
 sG Tryz.func119 λΓ q=>Ak q V4 RW (tB h λx1 y1 h=>tB h λx2 y2 h=>tT q [4] Fj [(Z2 x1),(Z2 x2)] (ci (Tk y1) (mH (x1==true) (c2 (λ(hg:(x1==true)=true)=>(HL (Bo hg y2))) (Lr x1)))) (tS h (Ce CF)))
abbrev M3:=(Int×As×Int×List Af×Int×As×List A6)
abbrev mo:=(LR (Int×As×Int×List Af×Int×As×List A6) ((As×Int×List Af×Int×As×List A6) ⊕ (Bool×TFunc×Int×As×List A6)))
def Ek(aB:List Cz):M3->Option mo:=
 λ((i1,l2,i3,l4,i5,l6,l7):M3)=>(bif (decide (i1<(aB.length:Int))) then(Ch (Bt i1 aB.length) ((E5 (aB.getD i1.toNat default) (⟨l2,i3,l4⟩:TFunc) i5 l6 l7).bind λx15=>(bif (!x15.1) then(some (.done (.inr (false,x15.2.1,x15.2.2.1,x15.2.2.2.1,x15.2.2.2.2)))) else(some (.next ((Bh (i1+1)),x15.2.1.Params,x15.2.1.Ret,x15.2.1.Blocks,x15.2.2.1,x15.2.2.2.1,x15.2.2.2.2)))))) else(some (.done (.inl (l2,i3,l4,i5,l6,l7)))))
def V5(Γ:G0)(aB:List Cz)(a1:TFunc)(a4:Int)(a9:As)(a5:List A6)(r:T3):Exit->St->Prop:=fK Tryz.prog Γ Tryz.f118.results.toList (Z3 a1.Params a1.Ret a1.Blocks a4 a9 a5 a5.length) (.bool r.1) (Z3 r.2.1.Params r.2.1.Ret r.2.1.Blocks r.2.2.1 r.2.2.2.1 r.2.2.2.2 r.2.2.2.2.length)
def Hn(aB:List Cz)(a1:TFunc)(a4:Int)(a9:As)(a5:List A6):Option T3:=
 ((Ag (Ek aB) ((0:Int),a1.Params,a1.Ret,a1.Blocks,a4,a9,a5)).bind (λx16=>(match x16 with|(.inl (l8,i9,l10,i11,l12,l13))=>(some (true,(⟨l8,i9,l10⟩:TFunc),i11,l12,l13))|(.inr r18)=>(some r18))))
theorem U6(h:Hn v8 v0 v1 v4 v12=some v23):sP 118 [(AV.list 6 Yx default v8 .none),(.clo 119 [Yp] [])] (Z3 v0.Params v0.Ret v0.Blocks v1 v4 v12 v12.length) (.bool v23.1) (Z3 v23.2.1.Params v23.2.1.Ret v23.2.1.Blocks v23.2.2.1 v23.2.2.2.1 v23.2.2.2.2 v23.2.2.2.2.length):=
 sG Tryz.func118 λΓ q=>tW q G3 Fj Ie Fj (tL q h Ie Fj (λu (i1,l2,i3,l4,i5,l6,l7)=>(Fg u [(9,(Z6 i1))] (Z3 l2 i3 l4 i5 l6 l7 l7.length))) (λu x_=>match x_ with|(.inl (l8,i9,l10,i11,l12,l13))=>aG Γ (.exit 0) (⟨[],(Z3 l8 i9 l10 i11 l12 l13 l13.length),[]⟩:St)|(.inr r_)=>aR (V5 Γ v8 v0 v1 v4 v12 r_)) (λ⟨i1,l2,i3,l4,i5,l6,l7⟩ y h=>Ak q BP Fj (gC h (λh=>tV q BQ [6,30000,37006] h λh=>tB h λx15 y15 h=>tT q GS Fj [(nL x15.1 x15.2.1.Params x15.2.1.Ret x15.2.1.Blocks x15.2.2.1 x15.2.2.2.1 x15.2.2.2.2 x15.2.2.2.2.length)] (c1 (Pl y15)) (gC h (λh=>Ak q [4] Fj (tS h (gO (Sx (Kk CF (Le.refl _ _)))))) λh=>Ak q Ie Fj (tN h))) λh=>tS h (gO (Dq (Dh [] Fj q))))) λx16 h=>(match x16,h with | .inl ⟨l8,i9,l10,i11,l12,l13⟩,h=>gA (Ak q [4] Fj (tS h (Ce CF))) | .inr r18,h=>Xd (λst' hk=>tS h (gK hk))))
def np(x1:Bool)(x2:T3)(a9:As):AV:=(om x1 x2.2.2.2.1 a9)
def nk(x1:Bool)(x2:T3)(a1:TFunc):AV:=(om x1 x2.2.1.Params a1.Params)
def nj(x1:Bool)(x2:T3)(a1:TFunc):AV:=(.slice 5 (bif (x1==true) then x2.2.1.Blocks.length else a1.Blocks.length) (λi=>bif (x1==true) then F3 (x2.2.1.Blocks.getD i default) else F3 (a1.Blocks.getD i default)) .none)
def D3(aL:Af)(a1:TFunc)(a4:Int)(a9:As)(a5:List A6):Option T3:=
 ((G5 aL.Phis).bind λx1=>((bif (x1==true) then Hn aL.Ops a1 a4 a9 a5 else some (false,(default:TFunc),(0:Int),[],[])).bind λx2=>(some ((bif x1 then x2.1 else false),(⟨(bif (x1==true) then x2.2.1.Params else a1.Params),(bif (x1==true) then x2.2.1.Ret else a1.Ret),(bif (x1==true) then x2.2.1.Blocks else a1.Blocks)⟩:TFunc),(bif (x1==true) then x2.2.2.1 else a4),(bif (x1==true) then x2.2.2.2.1 else a9),(bif (x1==true) then x2.2.2.2.2 else a5)))))
theorem Nf(h:D3 v10 v0 v1 v4 v12=some v23):sP 91 [Yp,(.agg (F3 v10))] (Z3 v0.Params v0.Ret v0.Blocks v1 v4 v12 v12.length) (.bool v23.1) (Z3 v23.2.1.Params v23.2.1.Ret v23.2.1.Blocks v23.2.2.1 v23.2.2.2.1 v23.2.2.2.2 v23.2.2.2.2.length):=
 sG Tryz.func91 λΓ q=>Ak q V4 RW (tB h λx1 y1 h=>tB h λx2 y2 h=>tT q [4] Fj [(Z2 x1),(nL x2.1 x2.2.1.Params x2.2.1.Ret x2.2.1.Blocks x2.2.2.1 x2.2.2.2.1 x2.2.2.2.2 x2.2.2.2.2.length)] (ci (Tf y1) (kT (x1==true) (c2 (λ(hg:(x1==true)=true)=>(U6 (Bo hg y2))) (Lr x1)))) (tS h (gK (e:=.ret) (Kk CF (Le.trans (oF (λg_ u=>(Fg u [] [(30000,.row 110 [(nk x1 x2 v0),(.int .i64 (bif (x1==true) then x2.2.1.Ret else v0.Ret)),(nj x1 x2 v0),(.int .i64 (bif (x1==true) then x2.2.2.1 else v1)),(np x1 x2 v4),.nilm,(ny g_ x2.2.2.2.2 v12)]),(37006,.tok 5 158 (bif g_ then x2.2.2.2.2.length else v12.length))])) (λg_ u=>(Fg u [] [(30000,.row 110 [(nk x1 x2 v0),(.int .i64 (bif (x1==true) then x2.2.1.Ret else v0.Ret)),(nj x1 x2 v0),(.int .i64 (bif (x1==true) then x2.2.2.1 else v1)),(np x1 x2 v4),.nilm,(AV.list 5 Jm default (bif g_ then x2.2.2.2.2 else v12) (.own 37006))]),(37006,.tok 5 158 ((bif g_ then x2.2.2.2.2 else v12).length))])) (x1==true)) (Le.trans (g6 30000 0 (show AVle (nk x1 x2 v0) (AV.list 1 Ar 0 (bif (x1==true) then x2.2.1.Params else v0.Params) .none) from Gi)) (Le.trans (g6 30000 2 (show AVle (nj x1 x2 v0) (AV.list 5 F3 default (bif (x1==true) then x2.2.1.Blocks else v0.Blocks) .none) from Gi)) (g6 30000 4 (show AVle (np x1 x2 v4) (AV.list 1 Ar 0 (bif (x1==true) then x2.2.2.2.1 else v4) .none) from Gi)))))))))
def Dr(aB:List Af):M3->Option mo:=
 λ((i1,l2,i3,l4,i5,l6,l7):M3)=>(bif (decide (i1<(aB.length:Int))) then(Ch (Bt i1 aB.length) ((D3 (aB.getD i1.toNat default) (⟨l2,i3,l4⟩:TFunc) i5 l6 l7).bind λx15=>(bif (!x15.1) then(some (.done (.inr (false,x15.2.1,x15.2.2.1,x15.2.2.2.1,x15.2.2.2.2)))) else(some (.next ((Bh (i1+1)),x15.2.1.Params,x15.2.1.Ret,x15.2.1.Blocks,x15.2.2.1,x15.2.2.2.1,x15.2.2.2.2)))))) else(some (.done (.inl (l2,i3,l4,i5,l6,l7)))))
def Se(Γ:G0)(aB:List Af)(a1:TFunc)(a4:Int)(a9:As)(a5:List A6)(r:T3):Exit->St->Prop:=fK Tryz.prog Γ Tryz.f90.results.toList (Z3 a1.Params a1.Ret a1.Blocks a4 a9 a5 a5.length) (.bool r.1) (Z3 r.2.1.Params r.2.1.Ret r.2.1.Blocks r.2.2.1 r.2.2.2.1 r.2.2.2.2 r.2.2.2.2.length)
def F4(aB:List Af)(a1:TFunc)(a4:Int)(a9:As)(a5:List A6):Option T3:=
 ((Ag (Dr aB) ((0:Int),a1.Params,a1.Ret,a1.Blocks,a4,a9,a5)).bind (λx16=>(match x16 with|(.inl (l8,i9,l10,i11,l12,l13))=>(some (true,(⟨l8,i9,l10⟩:TFunc),i11,l12,l13))|(.inr r18)=>(some r18))))
theorem Rf(h:F4 v11 v0 v1 v4 v12=some v23):sP 90 [(LF v11),(.clo 91 [Yp] [])] (Z3 v0.Params v0.Ret v0.Blocks v1 v4 v12 v12.length) (.bool v23.1) (Z3 v23.2.1.Params v23.2.1.Ret v23.2.1.Blocks v23.2.2.1 v23.2.2.2.1 v23.2.2.2.2 v23.2.2.2.2.length):=
 sG Tryz.func90 λΓ q=>tW q G3 Fj Ie Fj (tL q h Ie Fj (λu (i1,l2,i3,l4,i5,l6,l7)=>(Fg u [(9,(Z6 i1))] (Z3 l2 i3 l4 i5 l6 l7 l7.length))) (λu x_=>match x_ with|(.inl (l8,i9,l10,i11,l12,l13))=>aG Γ (.exit 0) (⟨[],(Z3 l8 i9 l10 i11 l12 l13 l13.length),[]⟩:St)|(.inr r_)=>aR (Se Γ v11 v0 v1 v4 v12 r_)) (λ⟨i1,l2,i3,l4,i5,l6,l7⟩ y h=>Ak q BP Fj (gC h (λh=>tV q BQ [6,30000,37006] h λh=>tB h λx15 y15 h=>tT q GS Fj [(nL x15.1 x15.2.1.Params x15.2.1.Ret x15.2.1.Blocks x15.2.2.1 x15.2.2.2.1 x15.2.2.2.2 x15.2.2.2.2.length)] (c1 (Nf y15)) (gC h (λh=>Ak q [4] Fj (tS h (gO (Sx (Kk CF (Le.refl _ _)))))) λh=>Ak q Ie Fj (tN h))) λh=>tS h (gO (Dq (Dh [] Fj q))))) λx16 h=>(match x16,h with | .inl ⟨l8,i9,l10,i11,l12,l13⟩,h=>gA (Ak q [4] Fj (tS h (Ce CF))) | .inr r18,h=>Xd (λst' hk=>tS h (gK hk))))
def YI(x1:Bool)(x2:Bool):=((bif x1 then x2 else false)==true)
def nt(x1:Bool)(x2:Bool)(x3:T3)(a9:As):AV:=(nJ (YI x1 x2) x3.2.2.2.1 a9)
def nr(x1:Bool)(x2:Bool)(x3:T3)(a1:TFunc):AV:=(nJ (YI x1 x2) x3.2.1.Params a1.Params)
def nq(x1:Bool)(x2:Bool)(x3:T3)(a1:TFunc):AV:=(ol (YI x1 x2) x3.2.1.Blocks a1.Blocks)
def F5(a1:TFunc)(a4:Int)(a9:As)(a5:List A6):Option bI:=
 ((Jv a1.Params).bind λx1=>((bif (x1==true) then Gz a1.Ret else some false).bind λx2=>((bif ((bif x1 then x2 else false)==true) then F4 a1.Blocks a1 a4 a9 a5 else some (false,(default:TFunc),(0:Int),[],[])).bind λx3=>((Im (bif (bif x1 then x2 else false) then x3.1 else false) (6:Int)).bind λx4=>(some (x4,(⟨(bif ((bif x1 then x2 else false)==true) then x3.2.1.Params else a1.Params),(bif ((bif x1 then x2 else false)==true) then x3.2.1.Ret else a1.Ret),(bif ((bif x1 then x2 else false)==true) then x3.2.1.Blocks else a1.Blocks)⟩:TFunc),(bif ((bif x1 then x2 else false)==true) then x3.2.2.1 else a4),(bif ((bif x1 then x2 else false)==true) then x3.2.2.2.1 else a9),(bif ((bif x1 then x2 else false)==true) then x3.2.2.2.2 else a5)))))))
theorem Rg(h:F5 v0 v1 v4 v12=some v13):sP 73 [Yp] (Z3 v0.Params v0.Ret v0.Blocks v1 v4 v12 v12.length) (Z6 v13.1) (Z3 v13.2.1.Params v13.2.1.Ret v13.2.1.Blocks v13.2.2.1 v13.2.2.2.1 v13.2.2.2.2 v13.2.2.2.2.length):=
 sG Tryz.func73 λΓ q=>Ak q [0] Fj (tB h λx1 y1 h=>tB h λx2 y2 h=>tB h λx3 y3 h=>tT q [3] Fj [(Z2 x1),(Z2 x2),(nL x3.1 x3.2.1.Params x3.2.1.Ret x3.2.1.Blocks x3.2.2.1 x3.2.2.2.1 x3.2.2.2.2 x3.2.2.2.2.length)] (ci (Zf y1) (mH (x1==true) (fP (λ(hg:(x1==true)=true)=>(It (Bo hg y2))) (Lr x1) (mI (YI x1 x2) (c2 (λ(hg:(YI x1 x2)=true)=>(Rf (Bo hg y3))) (Lr (bif x1 then x2 else false))))))) (Mt (Le.trans (oF (λg_ u=>(Fg u [] [(30000,.row 110 [(nr x1 x2 x3 v0),(jG (YI x1 x2) x3.2.1.Ret v0.Ret),(nq x1 x2 x3 v0),(jG (YI x1 x2) x3.2.2.1 v1),(nt x1 x2 x3 v4),.nilm,(ny g_ x3.2.2.2.2 v12)]),(37006,.tok 5 158 (bif g_ then x3.2.2.2.2.length else v12.length))])) (λg_ u=>(Fg u [] [(30000,.row 110 [(nr x1 x2 x3 v0),(jG (YI x1 x2) x3.2.1.Ret v0.Ret),(nq x1 x2 x3 v0),(jG (YI x1 x2) x3.2.2.1 v1),(nt x1 x2 x3 v4),.nilm,(AV.list 5 Jm default (bif g_ then x3.2.2.2.2 else v12) (.own 37006))]),(37006,.tok 5 158 ((bif g_ then x3.2.2.2.2 else v12).length))])) (YI x1 x2)) (Le.trans (g6 30000 0 (show AVle (nr x1 x2 x3 v0) (AV.list 1 Ar 0 (bif (YI x1 x2) then x3.2.1.Params else v0.Params) .none) from Gi)) (Le.trans (g6 30000 2 (show AVle (nq x1 x2 x3 v0) (AV.list 5 F3 default (bif (YI x1 x2) then x3.2.1.Blocks else v0.Blocks) .none) from Gi)) (g6 30000 4 (show AVle (nt x1 x2 x3 v4) (AV.list 1 Ar 0 (bif (YI x1 x2) then x3.2.2.2.1 else v4) .none) from Gi))))) (tB h λx4 y4 h=>tT q [2] Fj [(DH x4)] (c1 (R3 y4)) (tS h (Ce CF)))))
def Df(aM:Int):Option Gc:=
 (some (aM,(1:Int)))
theorem H1(h:Df v1=some v19):sP 92 [(Z6 v1)] [] (DI v19) []:=
 sG Tryz.func92 λΓ q=>tW q [0,2] [2] [2] [2] (tS h (Ce []))
def lN:=(λ(v_:Ai)=>((Pq v_):AV))
abbrev Jr:=(Int×Ai)
abbrev RP:=(Bool×TFunc×Int×As×List A6×List (Int×Ai))
def D4(a8:Int)(aZ:Gc)(aK:G6)(a1:TFunc)(a4:Int)(a9:As)(a7:List Jr)(a5:List A6):Option RP:=
 (bif (bif (bif (Bz a7 a8) then true else(decide (a8<1))) then true else(decide ((1023:Int)<a8))) then(some (false,a1,a4,a9,a5,a7)) else(some (true,a1,a4,a9,a5,(Em a7 a8 (⟨aZ,aK⟩:Ai)))))
variable{v24:G6}{v25:List Jr}{v26:RP}
abbrev HY:=(Int×AV)
theorem Kb(h:D4 v1 v19 v24 v0 v2 v4 v25 v12=some v26):sP 120 [Yp,(Z6 v1),(DI v19),(.agg (CO v24))] [(Z1 v0.Params v0.Ret v0.Blocks v2 v4 9100005 v12),(Z9 v12.length),(9100005,.obj (.map true .i64 (mapE (λ(v_:Ai)=>((Pq v_):AV)) v25)))] (.bool v26.1) [(Z1 v26.2.1.Params v26.2.1.Ret v26.2.1.Blocks v26.2.2.1 v26.2.2.2.1 9100005 v26.2.2.2.2.1),(Z9 v26.2.2.2.2.1.length),(9100005,.obj (.map true .i64 (mapE (λ(v_:Ai)=>((Pq v_):AV)) v26.2.2.2.2.2)))]:=
 sG Tryz.func120 λΓ q=>Ak q [0,1,6,7] XU (gR q [0,1,6,7,10] XU [(17,(.tuple [(jE v25 v1),(.bool (Bz v25 v1))]))] [] (c1 (show(AVle (.tuple [mget (.agg [Mr,Mr,Mr,Mr]) (mapE lN v25) v1,.bool (Bz (mapE lN v25) v1)]) (.tuple [(jE v25 v1),(.bool (Bz v25 v1))])) from(Xq (f:=lN) (l:=v25) (AVle.refl _) rfl))) (tU q [0,1,6,7,28] XU (c4 (gI ((Bz v25 v1)==false)) (S5 (Bz v25 v1)) (gI ((bif (Bz v25 v1) then true else(decide (v1<1)))==false)) (S5 (bif (Bz v25 v1) then true else(decide (v1<1))))) (gC h (λh=>Ak q [8] Ff (tS h (Ce U7))) λh=>Ak q [] Ff (Mt (S9 (λ(k_:List HY) u=>Fg u [] [(bQ 9100005 k_)]) (show(Em (mapE lN v25) v1 (.agg [(Z6 v19.1),(Z6 v19.2),(Z6 v24.block),(Z6 v24.at_)]))=(mapE lN (Em v25 v1 (⟨v19,v24⟩:Ai))) from(Xr (f:=lN) (l:=v25) (v:=(⟨v19,v24⟩:Ai)) rfl rfl))) (Ak q [8] Ff (tS h (Ce U7)))))))
def Kv(a2:Cz):Option Gc:=
 ((Ly a2).bind λx1=>(bif (!x1) then(some ((0:Int),(0:Int))) else((Kz a2).bind λx2=>(some (x2.1,x2.2)))))
theorem HP(h:Kv v3=some v19):sP 121 [(Sr v3)] [] (.tuple [(Z6 v19.1),(Z6 v19.2)]) []:=
 sG Tryz.func121 λΓ q=>Ak q [1] [1] (tB h λx1 y1 h=>tT q [1,6] [1] [(Z2 x1)] (c1 (Tk y1)) (gC h (λh=>Ak q Kg [] (tS h (Ce []))) λh=>tB h λx2 y2 h=>tT q Kg [] [⟨[],[],(.tuple [(Z6 x2.1),(Z6 x2.2)]),[],[],[]⟩] (c1 (Vi y2)) (tS h (Ce []))))
set_option maxRecDepth 100000
set_option maxHeartbeats 2000000
abbrev iv:=(Int×As×Int×List Af×Int×As×List A6×List (Int×Ai))
abbrev mq:=(LR (Int×As×Int×List Af×Int×As×List A6×List (Int×Ai)) ((As×Int×List Af×Int×As×List A6×List (Int×Ai)) ⊕ (Bool×TFunc×Int×As×List A6×List (Int×Ai))))
def Ct(aA:Int)(aL:Af):iv->Option mq:=
 λ((i1,l2,i3,l4,i5,l6,l7,l8):iv)=>(bif (decide (i1<(aL.Phis.length:Int))) then(Ch (Bt i1 aL.Phis.length) ((Df ((aL.Phis.getD i1.toNat default).Bits)).bind λx17=>((D4 ((aL.Phis.getD i1.toNat default).Dst) x17 (⟨aA,(-1:Int)⟩:G6) (⟨l2,i3,l4⟩:TFunc) i5 l6 l8 l7).bind λx18=>(bif (!x18.1) then(some (.done (.inr (false,x18.2.1,x18.2.2.1,x18.2.2.2.1,x18.2.2.2.2.1,x18.2.2.2.2.2)))) else(some (.next ((Bh (i1+1)),x18.2.1.Params,x18.2.1.Ret,x18.2.1.Blocks,x18.2.2.1,x18.2.2.2.1,x18.2.2.2.2.1,x18.2.2.2.2.2))))))) else(some (.done (.inl (l2,i3,l4,i5,l6,l7,l8)))))
def Bx(aA:Int)(aL:Af):iv->Option mq:=
 λ((i21,l22,i23,l24,i25,l26,l27,l28):iv)=>(bif (decide (i21<(aL.Ops.length:Int))) then(Ch (Bt i21 aL.Ops.length) ((Kv (aL.Ops.getD i21.toNat default)).bind λx37=>((bif ((decide ((0:Int)<x37.1))==true) then D4 ((aL.Ops.getD i21.toNat default).Dst) (x37.1,x37.2) (⟨aA,i21⟩:G6) (⟨l22,i23,l24⟩:TFunc) i25 l26 l28 l27 else some (false,(default:TFunc),(0:Int),[],[],[])).bind λx38=>(bif (bif (decide ((0:Int)<x37.1)) then(!x38.1) else false) then(some (.done (.inr (false,(⟨(bif ((decide ((0:Int)<x37.1))==true) then x38.2.1.Params else l22),(bif ((decide ((0:Int)<x37.1))==true) then x38.2.1.Ret else i23),(bif ((decide ((0:Int)<x37.1))==true) then x38.2.1.Blocks else l24)⟩:TFunc),(bif ((decide ((0:Int)<x37.1))==true) then x38.2.2.1 else i25),(bif ((decide ((0:Int)<x37.1))==true) then x38.2.2.2.1 else l26),(bif ((decide ((0:Int)<x37.1))==true) then x38.2.2.2.2.1 else l27),(bif ((decide ((0:Int)<x37.1))==true) then x38.2.2.2.2.2 else l28))))) else(some (.next ((Bh (i21+1)),(bif ((decide ((0:Int)<x37.1))==true) then x38.2.1.Params else l22),(bif ((decide ((0:Int)<x37.1))==true) then x38.2.1.Ret else i23),(bif ((decide ((0:Int)<x37.1))==true) then x38.2.1.Blocks else l24),(bif ((decide ((0:Int)<x37.1))==true) then x38.2.2.1 else i25),(bif ((decide ((0:Int)<x37.1))==true) then x38.2.2.2.1 else l26),(bif ((decide ((0:Int)<x37.1))==true) then x38.2.2.2.2.1 else l27),(bif ((decide ((0:Int)<x37.1))==true) then x38.2.2.2.2.2 else l28)))))))) else(some (.done (.inl (l22,i23,l24,i25,l26,l27,l28)))))
def Je(Γ:G0)(aA:Int)(aL:Af)(a1:TFunc)(a4:Int)(a9:As)(a7:List Jr)(a5:List A6)(r:RP):Exit->St->Prop:=fK Tryz.prog Γ Tryz.f93.results.toList [(Z1 a1.Params a1.Ret a1.Blocks a4 a9 9100005 a5),(Z9 a5.length),(9100005,.obj (.map true .i64 (mapE (λ(v_:Ai)=>((Pq v_):AV)) a7)))] (.bool r.1) [(Z1 r.2.1.Params r.2.1.Ret r.2.1.Blocks r.2.2.1 r.2.2.2.1 9100005 r.2.2.2.2.1),(Z9 r.2.2.2.2.1.length),(9100005,.obj (.map true .i64 (mapE (λ(v_:Ai)=>((Pq v_):AV)) r.2.2.2.2.2)))]
def SE(x37:Gc):=((decide ((0:Int)<x37.1))==true)
def fu:=(λ(v_:Ai)=>((Pq v_):AV))
def nv(x37:Gc)(x38:RP)(l26:As):AV:=(nJ (SE x37) x38.2.2.2.1 l26)
def nw(x37:Gc)(x38:RP)(l24:List Af):AV:=(ol (SE x37) x38.2.1.Blocks l24)
def nu(x37:Gc)(x38:RP)(l22:As):AV:=(nJ (SE x37) x38.2.1.Params l22)
def Ej(aA:Int)(aL:Af)(a1:TFunc)(a4:Int)(a9:As)(a7:List Jr)(a5:List A6):Option RP:=
 ((Ag (Ct aA aL) ((0:Int),a1.Params,a1.Ret,a1.Blocks,a4,a9,a5,a7)).bind (λx19=>(match x19 with|(.inl (l9,i10,l11,i12,l13,l14,l15))=>((Ag (Bx aA aL) ((0:Int),l9,i10,l11,i12,l13,l14,l15)).bind (λx39=>(match x39 with|(.inl (l29,i30,l31,i32,l33,l34,l35))=>(some (true,(⟨l29,i30,l31⟩:TFunc),i32,l33,l34,l35))|(.inr r41)=>(some r41))))|(.inr r42)=>(some r42))))
theorem N0(h:Ej v1 v10 v0 v2 v4 v25 v12=some v26):sP 93 [Yp,(Z6 v1),(.agg (F3 v10))] [(Z1 v0.Params v0.Ret v0.Blocks v2 v4 9100005 v12),(Z9 v12.length),(9100005,.obj (.map true .i64 (mapE (λ(v_:Ai)=>((Pq v_):AV)) v25)))] (.bool v26.1) [(Z1 v26.2.1.Params v26.2.1.Ret v26.2.1.Blocks v26.2.2.1 v26.2.2.2.1 9100005 v26.2.2.2.2.1),(Z9 v26.2.2.2.2.1.length),(9100005,.obj (.map true .i64 (mapE (λ(v_:Ai)=>((Pq v_):AV)) v26.2.2.2.2.2)))]:=
 sG Tryz.func93 λΓ q=>tW q BS BO fD BO (tL q h fD BO (λu (i1,l2,i3,l4,i5,l6,l7,l8)=>(Fg u [(16,(Z6 i1))] [(Z1 l2 i3 l4 i5 l6 9100005 l7),(Z9 l7.length),(9100005,.obj (.map true .i64 (mapE fu l8)))])) (λu x_=>match x_ with|(.inl (l9,i10,l11,i12,l13,l14,l15))=>aG Γ (.exit 0) (Wl BS BO u [] [(Z1 l9 i10 l11 i12 l13 9100005 l14),(Z9 l14.length),(9100005,.obj (.map true .i64 (mapE fu l15)))])|(.inr r_)=>aR (Je Γ v1 v10 v0 v2 v4 v25 v12 r_)) (λ⟨i1,l2,i3,l4,i5,l6,l7,l8⟩ y h=>Ak q [0,1,5,14,15,16,17] BO (gC h (λh=>tV q [0,1,5,8,14,15,16] [5,8,30000,37006,9100005] h λh=>tB h λx17 y17 h=>tB h λx18 y18 h=>tT q [0,1,5,14,15,16,29] BO [⟨[],[],(DI x17),[],[],[]⟩,⟨U7,[],(.bool x18.1),[(Z1 x18.2.1.Params x18.2.1.Ret x18.2.1.Blocks x18.2.2.1 x18.2.2.2.1 9100005 x18.2.2.2.2.1),(Z9 x18.2.2.2.2.1.length),(9100005,.obj (.map true .i64 (mapE fu x18.2.2.2.2.2)))],[],[]⟩] (c2 (H1 y17) (Kb y18)) (gC h (λh=>Ak q [6] Ff (tS h (gO (Sx (Kk U7 (Le.refl _ _)))))) λh=>Ak q fD BO (tN h))) λh=>tS h (gO (Dq (Dh BS BO q))))) λx19 h=>(match x19,h with | .inl ⟨l9,i10,l11,i12,l13,l14,l15⟩,h=>gA (Ak q fH Ff (tL q h fH Ff (λu (i21,l22,i23,l24,i25,l26,l27,l28)=>(Fg u [(34,(Z6 i21))] [(Z1 l22 i23 l24 i25 l26 9100005 l27),(Z9 l27.length),(9100005,.obj (.map true .i64 (mapE fu l28)))])) (λu x_=>match x_ with|(.inl (l29,i30,l31,i32,l33,l34,l35))=>aG Γ (.exit 2) (⟨[],[(Z1 l29 i30 l31 i32 l33 9100005 l34),(Z9 l34.length),(9100005,.obj (.map true .i64 (mapE fu l35)))],[]⟩:St)|(.inr r_)=>aR (Je Γ v1 v10 v0 v2 v4 v25 v12 r_)) (λ⟨i21,l22,i23,l24,i25,l26,l27,l28⟩ y h=>Ak q [0,1,32,33,34,35] Ff (gC h (λh=>tV q [0,1,9,10,32,33,34] eh h λh=>tB h λx37 y37 h=>tT q [0,1,9,10,11,12,32,33,34] eh [⟨[],[],(.tuple [(Z6 x37.1),(Z6 x37.2)]),[],[],[]⟩] (c1 (HP y37)) (tB h λx38 y38 h=>tT q [0,1,32,33,34,58] Ff [⟨U7,[],(.bool x38.1),[(Z1 x38.2.1.Params x38.2.1.Ret x38.2.1.Blocks x38.2.2.1 x38.2.2.2.1 9100005 x38.2.2.2.2.1),(Z9 x38.2.2.2.2.1.length),(9100005,.obj (.map true .i64 (mapE fu x38.2.2.2.2.2)))],[],[]⟩] (pB (SE x37) (c3 (λ(hg:(SE x37)=true)=>(Kb (Bo hg y38))) (gI (SE x37)) (Lr (decide ((0:Int)<x37.1))))) (Mt (Le.trans (S9 (λ(k_:List HY) u=>Fg u [] [(bQ 9100005 k_)]) (show(bif (SE x37) then(mapE fu x38.2.2.2.2.2) else(mapE fu l28))=(mapE fu (bif (SE x37) then x38.2.2.2.2.2 else l28)) from(cK rfl rfl))) (Le.trans (oF (λg_ u=>(Fg u [] [(30000,.row 110 [(nu x37 x38 l22),(jG (SE x37) x38.2.1.Ret i23),(nw x37 x38 l24),(jG (SE x37) x38.2.2.1 i25),(nv x37 x38 l26),(.omap 9100005),(ny g_ x38.2.2.2.2.1 l27)]),(37006,.tok 5 158 (bif g_ then x38.2.2.2.2.1.length else l27.length))])) (λg_ u=>(Fg u [] [(30000,.row 110 [(nu x37 x38 l22),(jG (SE x37) x38.2.1.Ret i23),(nw x37 x38 l24),(jG (SE x37) x38.2.2.1 i25),(nv x37 x38 l26),(.omap 9100005),(AV.list 5 Jm default (bif g_ then x38.2.2.2.2.1 else l27) (.own 37006))]),(37006,.tok 5 158 ((bif g_ then x38.2.2.2.2.1 else l27).length))])) (SE x37)) (Le.trans (g6 30000 0 (show AVle (nu x37 x38 l22) (AV.list 1 Ar 0 (bif (SE x37) then x38.2.1.Params else l22) .none) from Gi)) (Le.trans (g6 30000 2 (show AVle (nw x37 x38 l24) (AV.list 5 F3 default (bif (SE x37) then x38.2.1.Blocks else l24) .none) from Gi)) (g6 30000 4 (show AVle (nv x37 x38 l26) (AV.list 1 Ar 0 (bif (SE x37) then x38.2.2.2.1 else l26) .none) from Gi)))))) (gC h (λh=>Ak q [6] Ff (tS h (gO (Sx (Kk U7 (Le.refl _ _)))))) λh=>Ak q fH Ff (tN h))))) λh=>tS h (gO (Dq (Dh [] Ff q))))) λx39 h=>(match x39,h with | .inl ⟨l29,i30,l31,i32,l33,l34,l35⟩,h=>gA (Ak q [6] Ff (tS h (Ce U7))) | .inr r41,h=>Xd (λst' hk=>tS h (gK hk))))) | .inr r42,h=>Xd (λst' hk=>tS h (gK hk))))
abbrev mr:=(Int×List (Int×Ai))
def D5(a1:TFunc):mr->Option (LR (Int×List (Int×Ai)) (List (Int×Ai))):=
 λ((i1,l2):mr)=>(bif (decide (i1<(a1.Params.length:Int))) then(Ch (Bt i1 a1.Params.length) ((Df (a1.Params.getD i1.toNat 0)).bind λx5=>(some (.next ((Bh (i1+1)),(Em l2 (Bh (i1+1)) (⟨x5,(⟨(0:Int),(-1:Int)⟩:G6)⟩:Ai))))))) else(some (.done l2)))
abbrev mt:=(Int×List (Int×Ai)×As×Int×List Af×Int×As×List A6)
def De(a1:TFunc):mt->Option (LR (Int×List (Int×Ai)×As×Int×List Af×Int×As×List A6) ((List (Int×Ai)×As×Int×List Af×Int×As×List A6) ⊕ (Int×TFunc×Int×As×List A6×List (Int×Ai)))):=
 λ((i8,l9,l10,i11,l12,i13,l14,l15):mt)=>(bif (decide (i8<(a1.Blocks.length:Int))) then(Ch (Bt i8 a1.Blocks.length) ((Ej i8 (a1.Blocks.getD i8.toNat default) (⟨l10,i11,l12⟩:TFunc) i13 l14 l9 l15).bind λx24=>(bif (!x24.1) then(some (.done (.inr ((7:Int),x24.2.1,x24.2.2.1,x24.2.2.2.1,x24.2.2.2.2.1,x24.2.2.2.2.2)))) else(some (.next ((Bh (i8+1)),x24.2.2.2.2.2,x24.2.1.Params,x24.2.1.Ret,x24.2.1.Blocks,x24.2.2.1,x24.2.2.2.1,x24.2.2.2.2.1)))))) else(some (.done (.inl (l9,l10,i11,l12,i13,l14,l15)))))
abbrev VE:=(Int×TFunc×Int×As×List A6×List (Int×Ai))
def Pr(Γ:G0)(a1:TFunc)(a4:Int)(a9:As)(a5:List A6)(r:VE):Exit->St->Prop:=fK Tryz.prog Γ Tryz.f74.results.toList (Z3 a1.Params a1.Ret a1.Blocks a4 a9 a5 a5.length) (Z6 r.1) [(Z1 r.2.1.Params r.2.1.Ret r.2.1.Blocks r.2.2.1 r.2.2.2.1 9200005 r.2.2.2.2.1),(Z9 r.2.2.2.2.1.length),(9200005,.obj (.map false .i64 (mapE (λ(v_:Ai)=>((Pq v_):AV)) r.2.2.2.2.2)))]
def VY:=(λ(v_:Ai)=>((Pq v_):AV))
def oZ(l16:List Jr)(l17:As)(i18:Int)(l19:List Af)(i20:Int)(l21:As)(l22:List A6):List SH:=[(8,.obj (.map true .i64 (mapE VY l16))),(ly l17 i18 l19 i20 l21 l22),(Z9 l22.length)]
def E3(a1:TFunc)(a4:Int)(a9:As)(a5:List A6):Option VE:=
 ((Ag (D5 a1) ((0:Int),([]:List Jr))).bind (λx6=>((Ag (De a1) ((0:Int),x6,a1.Params,a1.Ret,a1.Blocks,a4,a9,a5)).bind (λx25=>(match x25 with|(.inl (l16,l17,i18,l19,i20,l21,l22))=>(some ((0:Int),(⟨l17,i18,l19⟩:TFunc),i20,l21,l22,l16))|(.inr r27)=>(some r27))))))
variable{v27:VE}
theorem Pi(h:E3 v0 v1 v4 v12=some v27):sP 74 [Yp] (Z3 v0.Params v0.Ret v0.Blocks v1 v4 v12 v12.length) (Z6 v27.1) [(Z1 v27.2.1.Params v27.2.1.Ret v27.2.1.Blocks v27.2.2.1 v27.2.2.2.1 9200005 v27.2.2.2.2.1),(Z9 v27.2.2.2.2.1.length),(9200005,.obj (.map false .i64 (mapE (λ(v_:Ai)=>((Pq v_):AV)) v27.2.2.2.2.2)))]:=
 sG Tryz.func74 λΓ q=>tW q [0] Fj [0] Lc (Mt (S9 (λ(k_:List HY) u=>Fg u [] [(8,.obj (.map true .i64 k_))]) (show[]=(mapE VY ([]:List Jr)) from rfl)) (Ak q XZ Lc (tL q h XZ Lc (λu (i1,l2)=>(Fg u [(17,(Z6 i1))] [(8,.obj (.map true .i64 (mapE VY l2)))])) (λu l3=>aG Γ (.exit 0) (Wl [0] Lc u [] [(8,.obj (.map true .i64 (mapE VY l3)))])) (λ⟨i1,l2⟩ y h=>Ak q [0,15,16,17,18] Lc (gC h (λh=>tV q [0,3,4,15,16,17] Lc h λh=>tB h λx5 y5 h=>tT q XZ Lc [⟨[],[],(DI x5),[],[],[]⟩] (c1 (H1 y5)) (Mt (S9 (λ(k_:List HY) u=>Fg u [] [(8,.obj (.map true .i64 k_))]) (show(Em (mapE VY l2) (Bh (i1+1)) (.agg [(Z6 x5.1),(Z6 x5.2),Mr,(.int .i64 (-1:Int))]))=(mapE VY (Em l2 (Bh (i1+1)) (⟨x5,(⟨(0:Int),(-1:Int)⟩:G6)⟩:Ai))) from(Xr (f:=VY) (l:=l2) (v:=(⟨x5,(⟨(0:Int),(-1:Int)⟩:G6)⟩:Ai)) rfl rfl))) (Ak q XZ Lc (tN h)))) λh=>tS h (gO (Dq (Dh [0] Lc q))))) λx6 h=>gA (Ak q VR Lc (tL q h VR Lc (λu (i8,l9,l10,i11,l12,i13,l14,l15)=>(Fg u [(39,(Z6 i8))] [(8,.obj (.map true .i64 (mapE VY l9))),(ly l10 i11 l12 i13 l14 l15),(Z9 l15.length)])) (λu x_=>match x_ with|(.inl (l16,l17,i18,l19,i20,l21,l22))=>aG Γ (.exit 2) (⟨[],(oZ l16 l17 i18 l19 i20 l21 l22),[]⟩:St)|(.inr r_)=>aR (Pr Γ v0 v1 v4 v12 r_)) (λ⟨i8,l9,l10,i11,l12,i13,l14,l15⟩ y h=>Ak q [0,37,38,39,40] Lc (gC h (λh=>tV q [0,5,6,37,38,39] [6,8,30000,37006] h λh=>tB h λx24 y24 h=>tT q [0,37,38,39,48] Lc [⟨[(30000,30000),(37006,37006),(8,9100005)],[],(.bool x24.1),[(Z1 x24.2.1.Params x24.2.1.Ret x24.2.1.Blocks x24.2.2.1 x24.2.2.2.1 9100005 x24.2.2.2.2.1),(Z9 x24.2.2.2.2.1.length),(9100005,.obj (.map true .i64 (mapE VY x24.2.2.2.2.2)))],[],[]⟩] (c1 (N0 y24)) (gC h (λh=>Ak q [2] Lc (Rz (⟨[(2,(.int .i64 (7:Int)))],[(8,.obj (.map true .i64 (mapE VY x24.2.2.2.2.2))),(ly x24.2.1.Params x24.2.1.Ret x24.2.1.Blocks x24.2.2.1 x24.2.2.2.1 x24.2.2.2.2.1),(Z9 x24.2.2.2.2.1.length)],[]⟩:St) (tS h (gO (Sx (Kk jm (Le.trans (MD (nm:=8) (.map false .i64 (mapE VY x24.2.2.2.2.2)) rfl (λ_ _ _ _ h_=>PW h_)) (Dh (st':=⟨[(2,(.int .i64 (7:Int)))],[(8,.obj (.map false .i64 (mapE VY x24.2.2.2.2.2))),(ly x24.2.1.Params x24.2.1.Ret x24.2.1.Blocks x24.2.2.1 x24.2.2.2.1 x24.2.2.2.2.1),(Z9 x24.2.2.2.2.1.length)],[]⟩) [2] Lc q)))))))) λh=>Ak q VR Lc (tN h))) λh=>tS h (gO (Dq (Dh [] Lc q))))) λx25 h=>(match x25,h with | .inl ⟨l16,l17,i18,l19,i20,l21,l22⟩,h=>gA (Ak q [2] Lc (Rz (⟨[(2,Mr)],(oZ l16 l17 i18 l19 i20 l21 l22),[]⟩:St) (tS h (gK (e:=.ret) (Kk jm (Le.trans (MD (nm:=8) (.map false .i64 (mapE VY l16)) rfl (λ_ _ _ _ h_=>PW h_)) (Dh (st':=⟨[(2,Mr)],[(8,.obj (.map false .i64 (mapE VY l16))),(ly l17 i18 l19 i20 l21 l22),(Z9 l22.length)],[]⟩) [2] Lc q))))))) | .inr r27,h=>Xd (λst' hk=>tS h (gK hk))))))))
abbrev mu:=(G6×TFunc×Int×As×List A6)
def Ee(aA:Int)(a1:TFunc)(a4:Int)(a9:As)(a7:List Jr)(a5:List A6):Option mu:=
 (Ch (Bt aA a1.Blocks.length) (some ((⟨aA,(((a1.Blocks.getD aA.toNat default).Ops).length:Int)⟩:G6),a1,a4,a9,a5)))
variable{v28:mu}
theorem Ir(h:Ee v1 v0 v2 v4 v25 v12=some v28):sP 123 [Yp,(Z6 v1)] [(Z1 v0.Params v0.Ret v0.Blocks v2 v4 9100005 v12),(Z9 v12.length),(9100005,.obj (.map false .i64 (mapE (λ(v_:Ai)=>((Pq v_):AV)) v25)))] (.agg (CO v28.1)) [(Z1 v28.2.1.Params v28.2.1.Ret v28.2.1.Blocks v28.2.2.1 v28.2.2.2.1 9100005 v28.2.2.2.2),(Z9 v28.2.2.2.2.length),(9100005,.obj (.map false .i64 (mapE (λ(v_:Ai)=>((Pq v_):AV)) v25)))]:=
 sG Tryz.func123 λΓ q=>Ak q [0,1,4] ek (tV q [4] ek h λh=>tS h (Ce U7))
abbrev iw:=(TFunc×Int×As×List A6)
def Dm(a8:Int)(aZ:Gc)(aK:G6)(a1:TFunc)(a4:Int)(a9:As)(a7:List Jr)(a5:List A6):Option iw:=
 (Ch (a5.length+([(⟨a8,aZ,aK⟩:A6)]:List A6).length<=room) (some (a1,a4,a9,(a5++([(⟨a8,aZ,aK⟩:A6)]:List A6)))))
variable{v29:iw}
theorem Gu(h:Dm v1 v19 v24 v0 v2 v4 v25 v12=some v29):sP 122 [Yp,(Z6 v1),(DI v19),(.agg (CO v24))] [(Z1 v0.Params v0.Ret v0.Blocks v2 v4 9100005 v12),(Z9 v12.length),(9100005,.obj (.map false .i64 (mapE (λ(v_:Ai)=>((Pq v_):AV)) v25)))] (.tuple []) [(Z1 v29.1.Params v29.1.Ret v29.1.Blocks v29.2.1 v29.2.2.1 9100005 v29.2.2.2),(Z9 v29.2.2.2.length),(9100005,.obj (.map false .i64 (mapE (λ(v_:Ai)=>((Pq v_):AV)) v25)))]:=
 sG Tryz.func122 λΓ q=>Ak q [0,1,6,7] XU (tC h λc1_ h=>gR q [] Ff [(17,(AV.list 5 Jm default ([(⟨v1,v19,v24⟩:A6)]:List A6) .exact)),(18,(AV.list 5 Jm default (v12++([(⟨v1,v19,v24⟩:A6)]:List A6)) (.own 37006)))] [] (c5 (Cf 5 Jm (default:A6) ([(⟨v1,v19,v24⟩:A6)]:List A6)) (Eq.refl v12.length) c1_ (Uf 5 37006 Jm (default:A6) v12 ([(⟨v1,v19,v24⟩:A6)]:List A6)) (Ia v12 ([(⟨v1,v19,v24⟩:A6)]:List A6))) (tS h (gK (e:=.normal) (Kk U7 (Le.refl _ _)))))
def nH:List jl:=[(2,nK)]
def Kw(a2:Cz):Option iu:=
 ((Ly a2).bind λx1=>(bif (!x1) then(some ([]:List Gc)) else((K1 a2).bind λx2=>(some x2))))
theorem HR(h:Kw v3=some v21):sP 124 [(Sr v3)] [] (Z5 v21) []:=
 sG Tryz.func124 λΓ q=>gR q [1] [1] nH [] (c1 (G4 2 Bs ((0:Int),(0:Int)))) (tB h λx1 y1 h=>tT q [1,5] [1] [(Z2 x1)] (c1 (Tk y1)) (gC h (λh=>gR q [2] [] nH [] (c1 (G4 2 Bs ((0:Int),(0:Int)))) (Rz (⟨nH,[],[]⟩:St) (tS h (gK (e:=.ret) (Kk [] (show Le Γ _ (⟨[(2,(AV.list 2 Bs ((0:Int),(0:Int)) ([]:List Gc) .none))],[],[]⟩:St) from Le.trans (Dh (st':=⟨nH,[],[]⟩) [2] [] q) (Jh (.cons AVle.untag .nil) .nil))))))) λh=>tB h λx2 y2 h=>tT q [2] [] [(YK x2)] (c1 (Vj y2)) (tS h (Ce []))))
abbrev ee:=(LR (Int×As×Int×List Af×Int×As×List A6) (As×Int×List Af×Int×As×List A6))
def C9(a1:TFunc)(a7:List Jr)(i1:Int)(i21:Int):M3->Option ee:=
 λ((i35,l36,i37,l38,i39,l40,l41):M3)=>(bif (decide (i35<(((((a1.Blocks.getD i1.toNat default).Phis).getD i21.toNat default).Args).length:Int))) then(Ch (Bt i35 ((((a1.Blocks.getD i1.toNat default).Phis).getD i21.toNat default).Args).length) ((Df ((((a1.Blocks.getD i1.toNat default).Phis).getD i21.toNat default).Bits)).bind λx49=>(Ch (Bt i35 ((((a1.Blocks.getD i1.toNat default).Phis).getD i21.toNat default).From).length) ((Ee (((((a1.Blocks.getD i1.toNat default).Phis).getD i21.toNat default).From).getD i35.toNat 0) (⟨l36,i37,l38⟩:TFunc) i39 l40 a7 l41).bind λx51=>((Dm (((((a1.Blocks.getD i1.toNat default).Phis).getD i21.toNat default).Args).getD i35.toNat 0) x49 x51.1 x51.2.1 x51.2.2.1 x51.2.2.2.1 a7 x51.2.2.2.2).bind λx52=>(some (.next ((Bh (i35+1)),x52.1.Params,x52.1.Ret,x52.1.Blocks,x52.2.1,x52.2.2.1,x52.2.2.2)))))))) else(some (.done (l36,i37,l38,i39,l40,l41))))
def Da(a1:TFunc)(a7:List Jr)(i1:Int):M3->Option ee:=
 λ((i21,l22,i23,l24,i25,l26,l27):M3)=>(bif (decide (i21<(((a1.Blocks.getD i1.toNat default).Phis).length:Int))) then(Ch (Bt i21 ((a1.Blocks.getD i1.toNat default).Phis).length) ((Ag (C9 a1 a7 i1 i21) ((0:Int),l22,i23,l24,i25,l26,l27)).bind (λ(l42,i43,l44,i45,l46,l47)=>(some (.next ((Bh (i21+1)),l42,i43,l44,i45,l46,l47)))))) else(some (.done (l22,i23,l24,i25,l26,l27))))
def Db(a1:TFunc)(a7:List Jr)(i1:Int)(i57:Int)(x71:List RO):M3->Option ee:=
 λ((i72,l73,i74,l75,i76,l77,l78):M3)=>(bif (decide (i72<(x71.length:Int))) then(Ch (Bt i72 x71.length) (Ch (Bt i72 ((((a1.Blocks.getD i1.toNat default).Ops).getD i57.toNat default).Args).length) ((Dm (((((a1.Blocks.getD i1.toNat default).Ops).getD i57.toNat default).Args).getD i72.toNat 0) (x71.getD i72.toNat ((0:Int),(0:Int))) (⟨i1,i57⟩:G6) (⟨l73,i74,l75⟩:TFunc) i76 l77 a7 l78).bind λx87=>(some (.next ((Bh (i72+1)),x87.1.Params,x87.1.Ret,x87.1.Blocks,x87.2.1,x87.2.2.1,x87.2.2.2)))))) else(some (.done (l73,i74,l75,i76,l77,l78))))
def Dc(a1:TFunc)(a7:List Jr)(i1:Int):M3->Option ee:=
 λ((i57,l58,i59,l60,i61,l62,l63):M3)=>(bif (decide (i57<(((a1.Blocks.getD i1.toNat default).Ops).length:Int))) then(Ch (Bt i57 ((a1.Blocks.getD i1.toNat default).Ops).length) ((Kw (((a1.Blocks.getD i1.toNat default).Ops).getD i57.toNat default)).bind λx71=>((Ag (Db a1 a7 i1 i57 x71) ((0:Int),l58,i59,l60,i61,l62,l63)).bind (λ(l79,i80,l81,i82,l83,l84)=>(some (.next ((Bh (i57+1)),l79,i80,l81,i82,l83,l84))))))) else(some (.done (l58,i59,l60,i61,l62,l63))))
def Dd(a1:TFunc)(a7:List Jr):M3->Option ee:=
 λ((i1,l2,i3,l4,i5,l6,l7):M3)=>(bif (decide (i1<(a1.Blocks.length:Int))) then(Option.bind (α:=(As×Int×List Af×Int×As×List A6)) (Ch (Bt i1 a1.Blocks.length) ((Ag (Da a1 a7 i1) ((0:Int),l2,i3,l4,i5,l6,l7)).bind (λx55=>(match x55 with|(l28,i29,l30,i31,l32,l33)=>((Ag (Dc a1 a7 i1) ((0:Int),l28,i29,l30,i31,l32,l33)).bind (λx90=>(match x90 with|(l64,i65,l66,i67,l68,l69)=>(bif (((a1.Blocks.getD i1.toNat default).End.Kind:Int)==0) then((Df i65).bind λx92=>((Ee i1 (⟨l64,i65,l66⟩:TFunc) i67 l68 a7 l69).bind λx93=>((Dm ((a1.Blocks.getD i1.toNat default).End.Arg) x92 x93.1 x93.2.1 x93.2.2.1 x93.2.2.2.1 a7 x93.2.2.2.2).bind λx94=>(some (x94.1.Params,x94.1.Ret,x94.1.Blocks,x94.2.1,x94.2.2.1,x94.2.2.2))))) else(bif (((a1.Blocks.getD i1.toNat default).End.Kind:Int)==2) then((Df (1:Int)).bind λx95=>((Ee i1 (⟨l64,i65,l66⟩:TFunc) i67 l68 a7 l69).bind λx96=>((Dm ((a1.Blocks.getD i1.toNat default).End.Arg) x95 x96.1 x96.2.1 x96.2.2.1 x96.2.2.2.1 a7 x96.2.2.2.2).bind λx97=>(some (x97.1.Params,x97.1.Ret,x97.1.Blocks,x97.2.1,x97.2.2.1,x97.2.2.2))))) else(some (l64,i65,l66,i67,l68,l69))))))))))) (λx98=>(match x98 with|(l14,i15,l16,i17,l18,l19)=>(some (.next ((Bh (i1+1)),l14,i15,l16,i17,l18,l19)))))) else(some (.done (l2,i3,l4,i5,l6,l7))))
def pI(a1:TFunc)(i1:Int):=(a1.Blocks.getD i1.toNat default)
def jC(a7:List Jr):=(mapE (λ(v_:Ai)=>((Pq v_):AV)) a7)
def E2(a1:TFunc)(a4:Int)(a9:As)(a7:List Jr)(a5:List A6):Option iw:=
 ((Ag (Dd a1 a7) ((0:Int),a1.Params,a1.Ret,a1.Blocks,a4,a9,a5)).bind (λ(l8,i9,l10,i11,l12,l13)=>(some ((⟨l8,i9,l10⟩:TFunc),i11,l12,l13))))
theorem Ph(h:E2 v0 v1 v4 v25 v12=some v29):sP 94 [Yp] [(Z1 v0.Params v0.Ret v0.Blocks v1 v4 9100005 v12),(Z9 v12.length),(9100005,.obj (.map false .i64 (mapE (λ(v_:Ai)=>((Pq v_):AV)) v25)))] (.tuple []) [(Z1 v29.1.Params v29.1.Ret v29.1.Blocks v29.2.1 v29.2.2.1 9100005 v29.2.2.2),(Z9 v29.2.2.2.length),(9100005,.obj (.map false .i64 (mapE (λ(v_:Ai)=>((Pq v_):AV)) v25)))]:=
 sG Tryz.func94 λΓ q=>Ak q KR Ff (tL q h KR Ff (λu (i1,l2,i3,l4,i5,l6,l7)=>(Fg u [(18,(Z6 i1))] (LG l2 i3 l4 i5 l6 l7 l7.length))) (λu (l8,i9,l10,i11,l12,l13)=>aG Γ (.exit 0) (Wl [] Ff u [] (LG l8 i9 l10 i11 l12 l13 l13.length))) (λ⟨i1,l2,i3,l4,i5,l6,l7⟩ y h=>Ak q [0,16,17,18,19] Ff (gC h (λh=>tB h λx98 y98 h=>gJ y98 (λ(l14,i15,l16,i17,l18,l19)=>aG Γ .normal (⟨[(0,Yp),(16,(LF v0.Blocks)),(17,(LH v0.Blocks.length)),(18,(Z6 i1))],(lz l14 i15 l16 i17 l18 9100005 l19 l19.length (jC v25)),[]⟩:St)) (λy h=>tV q RU M5 h λh=>Ak q RR M5 (tL q h RR M5 (λu (i21,l22,i23,l24,i25,l26,l27)=>(Fg u [(26,(Z6 i21))] (LG l22 i23 l24 i25 l26 l27 l27.length))) (λu (l28,i29,l30,i31,l32,l33)=>aG Γ (.exit 2) (Wl RU M5 u [] (LG l28 i29 l30 i31 l32 l33 l33.length))) (λ⟨i21,l22,i23,l24,i25,l26,l27⟩ y h=>Ak q [0,2,3,16,17,18,24,25,26,27] M5 (gC h (λh=>tV q [0,2,3,5,16,17,18,24,25,26] Yl h λh=>Ak q XQ Yl (tL q h XQ Yl (λu (i35,l36,i37,l38,i39,l40,l41)=>(Fg u [(33,(Z6 i35))] (LG l36 i37 l38 i39 l40 l41 l41.length))) (λu (l42,i43,l44,i45,l46,l47)=>aG Γ (.exit 4) (Wl RR M5 u [] (LG l42 i43 l44 i45 l46 l47 l47.length))) (λ⟨i35,l36,i37,l38,i39,l40,l41⟩ y h=>Ak q [0,2,3,5,16,17,18,24,25,26,31,32,33,34] Yl (gC h (λh=>tV q [0,2,3,5,6,7,16,17,18,24,25,26,31,32,33] Yl h λh=>tB h λx49 y49 h=>tC h λc50_ h=>tB h λx51 y51 h=>tB h λx52 y52 h=>tT q XQ Yl [⟨[],[],(DI x49),[],[],[]⟩,(n6 x51.1 x51.2.1.Params x51.2.1.Ret x51.2.1.Blocks x51.2.2.1 x51.2.2.2.1 x51.2.2.2.2 x51.2.2.2.2.length (jC v25)),(lx x52.1.Params x52.1.Ret x52.1.Blocks x52.2.1 x52.2.2.1 x52.2.2.2 x52.2.2.2.length (jC v25))] (c4 (H1 y49) c50_ (Ir y51) (Gu y52)) (Ak q XQ Yl (tN h))) λh=>tS h (gO (Dq (Dh RR M5 q))))) λx53 h=>(match x53,h with|⟨l42,i43,l44,i45,l46,l47⟩,h=>gA (Ak q RR M5 (tN h))))) λh=>tS h (gO (Dq (Dh RU M5 q))))) λx55 h=>(match x55,h with|⟨l28,i29,l30,i31,l32,l33⟩,h=>gA (Ak q RS M5 (tL q h RS M5 (λu (i57,l58,i59,l60,i61,l62,l63)=>(Fg u [(56,(Z6 i57))] (LG l58 i59 l60 i61 l62 l63 l63.length))) (λu (l64,i65,l66,i67,l68,l69)=>aG Γ (.exit 6) (Wl RU M5 u [] (LG l64 i65 l66 i67 l68 l69 l69.length))) (λ⟨i57,l58,i59,l60,i61,l62,l63⟩ y h=>Ak q [0,2,3,16,17,18,54,55,56,57] M5 (gC h (λh=>tV q [0,2,3,8,9,16,17,18,54,55,56] KM h λh=>tB h λx71 y71 h=>tT q XP KM [(YK x71)] (c1 (HR y71)) (tL q h XP KM (λu (i72,l73,i74,l75,i76,l77,l78)=>(Fg u [(64,(Z6 i72))] (LG l73 i74 l75 i76 l77 l78 l78.length))) (λu (l79,i80,l81,i82,l83,l84)=>aG Γ (.exit 8) (Wl RS M5 u [] (LG l79 i80 l81 i82 l83 l84 l84.length))) (λ⟨i72,l73,i74,l75,i76,l77,l78⟩ y h=>Ak q [0,2,3,8,9,16,17,18,54,55,56,62,63,64,65] KM (gC h (λh=>tV q [0,2,3,8,9,10,11,16,17,18,54,55,56,62,63,64] [3,9,11,30000,37006,9100005] h λh=>tC h λc86_ h=>tB h λx87 y87 h=>tT q XP KM [(lx x87.1.Params x87.1.Ret x87.1.Blocks x87.2.1 x87.2.2.1 x87.2.2.2 x87.2.2.2.length (jC v25))] (c2 c86_ (Gu y87)) (Ak q XP KM (tN h))) λh=>tS h (gO (Dq (Dh RS M5 q))))) λx88 h=>(match x88,h with|⟨l79,i80,l81,i82,l83,l84⟩,h=>gA (Ak q RS M5 (tN h))))) λh=>tS h (gO (Dq (Dh RU M5 q))))) λx90 h=>(match x90,h with|⟨l64,i65,l66,i67,l68,l69⟩,h=>gA (tW q [0,2,3,16,17,18,84] M5 [0,2,3,16,17,18,84,85] M5 (gC h (λh=>tB h λx92 y92 h=>tB h λx93 y93 h=>tB h λx94 y94 h=>tT q KR Ff [⟨[],[],(DI x92),[],[],[]⟩,(n6 x93.1 x93.2.1.Params x93.2.1.Ret x93.2.1.Blocks x93.2.2.1 x93.2.2.2.1 x93.2.2.2.2 x93.2.2.2.2.length (jC v25)),(lx x94.1.Params x94.1.Ret x94.1.Blocks x94.2.1 x94.2.2.1 x94.2.2.2 x94.2.2.2.length (jC v25))] (c3 (H1 y92) (Ir y93) (Gu y94)) (tS h (gK (Dq Mp)))) λh=>Ak q [0,2,3,16,17,18,101] M5 (gC h (λh=>tB h λx95 y95 h=>tB h λx96 y96 h=>tB h λx97 y97 h=>tT q KR Ff [⟨[],[],(DI x95),[],[],[]⟩,(n6 x96.1 x96.2.1.Params x96.2.1.Ret x96.2.1.Blocks x96.2.2.1 x96.2.2.2.1 x96.2.2.2.2 x96.2.2.2.2.length (jC v25)),(lx x97.1.Params x97.1.Ret x97.1.Blocks x97.2.1 x97.2.2.1 x97.2.2.2 x97.2.2.2.length (jC v25))] (c3 (H1 y95) (Ir y96) (Gu y97)) (tS h (gK (Dq Mp)))) λh=>tS h (gK (Dq (Dh KR Ff q)))))))))))) (match x98,h with|⟨l14,i15,l16,i17,l18,l19⟩,h=>gA (Ak q KR Ff (tN h)))) λh=>tS h (gO (Dq (Dh [] Ff q))))) λx100 h=>(match x100,h with|⟨l8,i9,l10,i11,l12,l13⟩,h=>jQ (λst' hl101=>tS h (gK (e:=.normal) (Kk U7 hl101)))))
def Ha(aN:A6)(a1:TFunc)(a4:Int)(a9:As)(a7:List Jr)(a5:List A6):Option T3:=
 (some ((Bz a7 aN.v),a1,a4,a9,a5))
variable{v30:A6}
theorem Pk(h:Ha v30 v0 v1 v4 v25 v12=some v23):sP 95 [Yp,(.agg (Jm v30))] [(Z1 v0.Params v0.Ret v0.Blocks v1 v4 9100005 v12),(Z9 v12.length),(9100005,.obj (.map false .i64 (mapE (λ(v_:Ai)=>((Pq v_):AV)) v25)))] (.bool v23.1) [(Z1 v23.2.1.Params v23.2.1.Ret v23.2.1.Blocks v23.2.2.1 v23.2.2.2.1 9100005 v23.2.2.2.2),(Z9 v23.2.2.2.2.length),(9100005,.obj (.map false .i64 (mapE (λ(v_:Ai)=>((Pq v_):AV)) v25)))]:=
 sG Tryz.func95 λΓ q=>Ak q V4 M5 (gR q [6] Ff [(14,(.tuple [(jE v25 v30.v),(.bool (Bz v25 v30.v))]))] [] (c1 (show(AVle (.tuple [mget (.agg [Mr,Mr,Mr,Mr]) (mapE (λ(v_:Ai)=>((Pq v_):AV)) v25) v30.v,.bool (Bz (mapE (λ(v_:Ai)=>((Pq v_):AV)) v25) v30.v)]) (.tuple [(jE v25 v30.v),(.bool (Bz v25 v30.v))])) from(Xq (f:=(λ(v_:Ai)=>((Pq v_):AV))) (l:=v25) (AVle.refl _) rfl))) (Ak q [4] Ff (tS h (Ce U7))))
def Il(aN:A6)(a1:TFunc)(a4:Int)(a9:As)(a7:List Jr)(a5:List A6):Option T3:=
 (some (((((mget (default:Ai) a7 aN.v).shape.1:Int)==aN.shape.1)&&((((mget (default:Ai) a7 aN.v).shape.2:Int)==aN.shape.2)&&true)),a1,a4,a9,a5))
theorem Sj(h:Il v30 v0 v1 v4 v25 v12=some v23):sP 96 [Yp,(.agg (Jm v30))] [(Z1 v0.Params v0.Ret v0.Blocks v1 v4 9100005 v12),(Z9 v12.length),(9100005,.obj (.map false .i64 (mapE (λ(v_:Ai)=>((Pq v_):AV)) v25)))] (.bool v23.1) [(Z1 v23.2.1.Params v23.2.1.Ret v23.2.1.Blocks v23.2.2.1 v23.2.2.2.1 9100005 v23.2.2.2.2),(Z9 v23.2.2.2.2.length),(9100005,.obj (.map false .i64 (mapE (λ(v_:Ai)=>((Pq v_):AV)) v25)))]:=
 sG Tryz.func96 λΓ q=>Ak q V4 M5 (gR q [4] Ff [(11,(jE v25 v30.v))] [] (c1 (show(AVle (mget (.agg [Mr,Mr,Mr,Mr]) (mapE (λ(v_:Ai)=>((Pq v_):AV)) v25) v30.v) (jE v25 v30.v)) from(CT (f:=(λ(v_:Ai)=>((Pq v_):AV))) (l:=v25) (AVle.refl _) rfl))) (tS h (Ce U7)))
def Bw(aa0:As)(a8:Int):Int->Option (LR Int (Unit ⊕ Int)):=
 λ(i1:Int)=>(bif (decide (i1<(aa0.length:Int))) then(Ch (Bt i1 aa0.length) (bif (a8==(aa0.getD i1.toNat 0)) then(some (.done (.inr i1))) else(some (.next (Bh (i1+1)))))) else(some (.done (.inl ()))))
def Qi(Γ:G0)(aa0:As)(a8:Int)(r:Int):Exit->St->Prop:=fK Tryz.prog Γ Tryz.f174.results.toList [] (.int .i64 r) []
def Ea(aa0:As)(a8:Int):Option Int:=
 ((Ag (Bw aa0 a8) (0:Int)).bind (λx3=>(match x3 with|(.inl _)=>(some (-1:Int))|(.inr r5)=>(some r5))))
theorem P1(h:Ea v4 v1=some v2):sP 174 [(Z7 v4),(Z6 v1)] [] (.int .i64 v2) []:=
 sG Tryz.func174 λΓ q=>tW q G3 [] [0,1,7,8] [] (tL q h [0,1,7,8] [] (λu i1=>(Fg u [(8,(Z6 i1))] [])) (λu x_=>match x_ with|(.inl _)=>aG Γ (.exit 0) (⟨[],[],[]⟩:St)|(.inr r_)=>aR (Qi Γ v4 v1 r_)) (λi1 y h=>Ak q [0,1,7,8,9] [] (gC h (λh=>Ak q [0,1,5,7,8] [] (tV q [0,1,5,7,8,16] [] h λh=>gC h (λh=>Ak q [4] [] (tS h (gO (Sx (Kk [] (Le.refl _ _)))))) λh=>Ak q [0,1,7,8] [] (tN h))) λh=>tS h (gO (Dq (Dh [] [] q))))) λx3 h=>(match x3,h with | .inl _,h=>gA (Ak q [4] [] (tS h (Ce []))) | .inr r5,h=>Xd (λst' hk=>tS h (gK hk))))
def H6(aD:As)(aK:Int):Option Bool:=
 (some (bif (decide ((0:Int)<=aK)) then(decide (aK<(aD.length:Int))) else false))
theorem Tg(h:H6 v4 v1=some v5):sP 176 [(Z7 v4),(Z6 v1)] [] (.bool v5) []:=
 sG Tryz.func176 λΓ q=>Ak q G3 [] (tU q [4] [] (ZL ((decide ((0:Int)<=v1))==true) (c1 (Lr (decide ((0:Int)<=v1))))) (tS h (Ce [])))
def Cu(aD:As)(aa3:Int)(aW:Int):VD->Option (LR (Int×As) (As ⊕ (Bool×As))):=
 λ((i1,l2):VD)=>(bif (i1 !=aW) then(Ch (Bt i1 l2.length) (bif ((l2.getD i1.toNat 0)!=0) then(Ch (Bt i1 l2.length) (some (.done (.inr (((l2.getD i1.toNat 0)!=(Bh (aa3+1))),l2))))) else(Ch (Bt i1 aD.length) ((H6 aD (aD.getD i1.toNat 0)).bind λx7=>(bif (!x7) then(some (.done (.inr (false,l2)))) else(Ch (Bt i1 l2.length) (Ch (Bt i1 aD.length) (some (.next ((aD.getD i1.toNat 0),(l2.set i1.toNat (Bh (aa3+1))))))))))))) else(some (.done (.inl l2))))
def NV(Γ:G0)(aD:As)(aaA:As)(aa3:Int)(aW:Int)(r:eb):Exit->St->Prop:=fK Tryz.prog Γ Tryz.f175.results.toList [(Z4 34001 aaA)] (.bool r.1) [(Z4 34001 r.2)]
def Ow(aD:As)(aaA:As)(aa3:Int)(aW:Int):Option eb:=
 ((Ag (Cu aD aa3 aW) (aa3,aaA)).bind (λx10=>(match x10 with|(.inl l3)=>(some (true,l3))|(.inr r12)=>(some r12))))
variable{v31:eb}
theorem MO(h:Ow v4 v17 v1 v2=some v31):sP 175 [(Z7 v4),(.vsl 34001 v17.length),(Z6 v1),(Z6 v2)] [(Z4 34001 v17)] (.bool v31.1) [(Z4 34001 v31.2)]:=
 sG Tryz.func175 λΓ q=>tW q [0,1,2,3] [34001] [0,1,2,3,9] [34001] (Ak q XY [34001] (tL q h XY [34001] (λu (i1,l2)=>(Fg u [(1,(.vsl 34001 l2.length)),(10,(Z6 i1))] [(Z4 34001 l2)])) (λu x_=>match x_ with|(.inl l3)=>aG Γ (.exit 0) (⟨[],[(Z4 34001 l3)],[]⟩:St)|(.inr r_)=>aR (NV Γ v4 v17 v1 v2 r_)) (λ⟨i1,l2⟩ y h=>Ak q [0,1,3,9,10,16] [34001] (gC h (λh=>tC h λc4_ h=>tU q [0,1,3,9,10,25] [34001] (c2 c4_ (Eq.refl l2.length)) (gC h (λh=>tC h λc5_ h=>tU q [8] [34001] (c2 c5_ (Eq.refl l2.length)) (tS h (gO (Sx (Kk VM (Le.refl _ _)))))) λh=>tC h λc6_ h=>tB h λx7 y7 h=>tT q [0,1,3,9,10,38] [34001] [(Z2 x7)] (c2 c6_ (Tg y7)) (gC h (λh=>Ak q [8] [34001] (tS h (gO (Sx (Kk VM (Le.refl _ _)))))) λh=>tC h λc8_ h=>tU q XY [34001] (c2 c8_ (Eq.refl l2.length)) (Mt (Le.trans (Xh 34001 (show ∀ k_,k_<l2.length->AVleL ((λi_=>AV.eraseAll (λn_=>Cc n_ [34001]) ((Lg (λi=>Ar (l2.getD i 0)) i1.toNat 0 [(.int .i64 (Bh (v1+1)))]) i_)) k_) ((λi=>Ar ((l2.set i1.toNat (Bh (v1+1))).getD i 0)) k_) from(Ck (H5 ..).symm (λk_ hk_=>(B9 (AV.eraseAll (λn_=>Cc n_ [34001])) ((Mh (λ_ _=>rfl) (Oo c8_) rfl) k_ hk_)).trans rfl)))) (S9 (λ(k_:Nat) u=>(Fg u [(1,(.vsl 34001 k_))] [(34001,.arr 1 3 k_ (λi=>Ar ((l2.set i1.toNat (Bh (v1+1))).getD i 0)))])) (show l2.length=(l2.set i1.toNat (Bh (v1+1))).length from(H5 ..).symm))) (tV q XY [34001] h λh=>tN h))))) λh=>tS h (gO (Dq (Dh [] [34001] q))))) λx10 h=>(match x10,h with | .inl l3,h=>gA (Ak q [8] [34001] (tS h (Ce VM))) | .inr r12,h=>Xd (λst' hk=>tS h (gK hk)))))
def Eg(aD:As)(x1:Int):VD->Option (LR (Int×As) (Unit ⊕ Bool)):=
 λ((i3,l4):VD)=>(bif (decide (i3<(aD.length:Int))) then(Ch (Bt i3 aD.length) ((bif (((aD.getD i3.toNat 0)!=-2)==true) then Ow aD l4 i3 x1 else some (false,[])).bind λx6=>(Ch ((((aD.getD i3.toNat 0)!=-2)==true)=true->(l4.length=x6.2.length)) (bif (bif ((aD.getD i3.toNat 0)!=-2) then(!x6.1) else false) then(some (.done (.inr false))) else(some (.next ((Bh (i3+1)),(bif (((aD.getD i3.toNat 0)!=-2)==true) then x6.2 else l4)))))))) else(some (.done (.inl ()))))
def KY(Γ:G0)(aD:As)(r:Bool):Exit->St->Prop:=fK Tryz.prog Γ Tryz.f158.results.toList [] (.bool r) []
def fM(aD:As)(i3:Int):=(((aD.getD i3.toNat 0)!=-2)==true)
def Nc(aD:As):Option Bool:=
 ((Ea aD (-1:Int)).bind λx1=>(bif (decide (x1<0)) then(some false) else(Ch (0<=(aD.length:Int)/\(aD.length:Int)<=(aD.length:Int)/\(aD.length:Int)<=(room:Int)) ((Ag (Eg aD x1) ((0:Int),(List.replicate (aD.length:Int).toNat (0:Int)))).bind (λx8=>(match x8 with|(.inl _)=>(some true)|(.inr r10)=>(some r10)))))))
theorem HM(h:Nc v4=some v5):sP 158 [(Z7 v4)] [] (.bool v5) []:=
 sG Tryz.func158 λΓ q=>Ak q [0] [] (tB h λx1 y1 h=>tT q V4 [] [(DH x1)] (c1 (P1 y1)) (Ak q [0,3,9] [] (gC h (λh=>Ak q [2] [] (tS h (Ce []))) λh=>tV q [0,3,4] [12] h λh=>by exact Mt (Le.trans (Xh 12 (show ∀ k_,k_<((v4.length:Int).toNat)->AVleL ((λi_=>AV.eraseAll (λn_=>Cc n_ [12]) ((λ_=>[Mr]) i_)) k_) ((λi=>Ar ((List.replicate (v4.length:Int).toNat (0:Int)).getD i 0)) k_) from(λk hk=>Xl (e:=Ar) (d:=(0:Int)) (.cons (AVle.refl _) .nil) _ k (X4 hk)))) (S9 (λ(k_:Nat) u=>(Fg u [(4,(.vsl 12 k_))] [(12,.arr 1 3 k_ (λi=>Ar ((List.replicate (v4.length:Int).toNat (0:Int)).getD i 0)))])) (show(v4.length:Int).toNat=(List.replicate (v4.length:Int).toNat (0:Int)).length from(Ye ..).symm))) (Ak q VJ [12] (tL q h VJ [12] (λu (i3,l4)=>(Fg u [(4,(.vsl 12 l4.length)),(15,(Z6 i3))] [(Z4 12 l4)])) (λu x_=>match x_ with|(.inl _)=>aG Γ (.exit 0) (⟨[],[],[]⟩:St)|(.inr r_)=>aR (KY Γ v4 r_)) (λ⟨i3,l4⟩ y h=>Ak q [0,3,4,14,15,16] [12] (gC h (λh=>Ak q [0,3,4,5,14,15] [12] (tC h λc5_ h=>tB h λx6 y6 h=>tC h λc7_ h=>tT q [0,3,4,14,15,30] [12] [⟨[(12,34001)],[],(.bool x6.1),[(Z4 34001 x6.2)],[],[]⟩] (ci c5_ (kT (fM v4 i3) (c3 (λ(hg:(fM v4 i3)=true)=>(MO (Bo hg y6))) (gI (fM v4 i3)) (Lr ((v4.getD i3.toNat 0)!=-2))))) (Mt (Le.trans (Xh 12 (show ∀ k_,k_<(bif (fM v4 i3) then x6.2.length else l4.length)->AVleL ((λi_=>AV.eraseAll (λn_=>Cc n_ [12]) ((λi=>bif (fM v4 i3) then(λi=>Ar (x6.2.getD i 0)) i else(λi=>Ar (l4.getD i 0)) i) i_)) k_) ((λi=>Ar ((bif (fM v4 i3) then x6.2 else l4).getD i 0)) k_) from(Ck WG (λk_ hk_=>(B9 (AV.eraseAll (λn_=>Cc n_ [12])) ((λ_ _=>gG) k_ hk_)).trans rfl)))) (Le.trans (S9 (λ(k_:Nat) u=>(Fg u [] [(12,.arr 1 3 k_ (λi=>Ar ((bif (fM v4 i3) then x6.2 else l4).getD i 0)))])) (show(bif (fM v4 i3) then x6.2.length else l4.length)=(bif (fM v4 i3) then x6.2 else l4).length from WG)) (S9 (λ(k_:Nat) u=>(Fg u [(4,(.vsl 12 k_))] [])) (show l4.length=(bif (fM v4 i3) then x6.2 else l4).length from(gH c7_))))) (gC h (λh=>Ak q [2] [] (tS h (gO (Sx (Kk [] (Le.refl _ _)))))) λh=>Ak q VJ [12] (tN h))))) λh=>tS h (gO (Dq (Dh [] [] q))))) λx8 h=>(match x8,h with | .inl _,h=>gA (Ak q [2] [] (tS h (Ce []))) | .inr r10,h=>Xd (λst' hk=>tS h (gK hk))))))))
def In(aD:As)(aK:Int):Option Bool:=
 ((H6 aD aK).bind λx1=>(Ch ((x1==true)=true->(Bt aK aD.length)) (some (bif x1 then((aD.getD aK.toNat 0)!=-2) else false))))
theorem R4(h:In v4 v1=some v5):sP 159 [(Z7 v4),(Z6 v1)] [] (.bool v5) []:=
 sG Tryz.func159 λΓ q=>Ak q G3 [] (tB h λx1 y1 h=>tC h λc2_ h=>tT q [4] [] [(Z2 x1)] (ci (Tg y1) (Xe (x1==true) (ci c2_ (Xe (x1==true) (c1 (Lr x1)))))) (tS h (Ce [])))
def Ov(aD:As)(aH:Int)(aI:Int):Option Bool:=
 ((Nc aD).bind λx1=>((bif (x1==true) then In aD aH else some false).bind λx2=>((bif ((bif x1 then x2 else false)==true) then In aD aI else some false).bind λx3=>(some (bif (bif x1 then x2 else false) then x3 else false)))))
theorem MN(h:Ov v4 v1 v2=some v5):sP 144 [(Z7 v4),(Z6 v1),(Z6 v2)] [] (.bool v5) []:=
 sG Tryz.func144 λΓ q=>Ak q GR [] (tB h λx1 y1 h=>tB h λx2 y2 h=>tB h λx3 y3 h=>tT q [6] [] [(Z2 x1),(Z2 x2),(Z2 x3)] (ci (HM y1) (Xe (x1==true) (fP (λ(hg:(x1==true)=true)=>(R4 (Bo hg y2))) (Lr x1) (Xe ((bif x1 then x2 else false)==true) (c2 (λ(hg:((bif x1 then x2 else false)==true)=true)=>(R4 (Bo hg y3))) (Lr (bif x1 then x2 else false))))))) (tS h (Ce [])))
def Qz(aD:As)(aH:Int)(aI:Int):Option Bool:=
 ((Ov aD aH aI).bind λx1=>((bif (x1==true) then Lx aD aH aI else some (0:Int)).bind λx2=>(some (bif x1 then(x2==aH) else false))))
theorem QD(h:Qz v4 v1 v2=some v5):sP 125 [(Z7 v4),(Z6 v1),(Z6 v2)] [] (.bool v5) []:=
 sG Tryz.func125 λΓ q=>Ak q GR [] (tB h λx1 y1 h=>tB h λx2 y2 h=>tT q [6] [] [(Z2 x1),(DH x2)] (ci (MN y1) (ZL (x1==true) (ci (λ(hg:(x1==true)=true)=>(BC (Bo hg y2))) (Xe (x1==true) (c1 (Lr x1)))))) (tS h (Ce [])))
def E4(aN:A6)(a1:TFunc)(a4:Int)(a9:As)(a7:List Jr)(a5:List A6):Option T3:=
 (bif (((mget (default:Ai) a7 aN.v).place.block:Int)==aN.place.block) then(some ((decide (((mget (default:Ai) a7 aN.v).place.at_:Int)<aN.place.at_)),a1,a4,a9,a5)) else((Qz a9 ((mget (default:Ai) a7 aN.v).place.block) aN.place.block).bind λx1=>(some (x1,a1,a4,a9,a5))))
theorem Pj(h:E4 v30 v0 v1 v4 v25 v12=some v23):sP 97 [Yp,(.agg (Jm v30))] [(Z1 v0.Params v0.Ret v0.Blocks v1 v4 9100005 v12),(Z9 v12.length),(9100005,.obj (.map false .i64 (mapE (λ(v_:Ai)=>((Pq v_):AV)) v25)))] (.bool v23.1) [(Z1 v23.2.1.Params v23.2.1.Ret v23.2.1.Blocks v23.2.2.1 v23.2.2.2.1 9100005 v23.2.2.2.2),(Z9 v23.2.2.2.2.length),(9100005,.obj (.map false .i64 (mapE (λ(v_:Ai)=>((Pq v_):AV)) v25)))]:=
 sG Tryz.func97 λΓ q=>Ak q V4 M5 (gR q [0,3,5] Yl [(12,(jE v25 v30.v))] [] (c1 (show(AVle (mget (.agg [Mr,Mr,Mr,Mr]) (mapE (λ(v_:Ai)=>((Pq v_):AV)) v25) v30.v) (jE v25 v30.v)) from(CT (f:=(λ(v_:Ai)=>((Pq v_):AV))) (l:=v25) (AVle.refl _) rfl))) (Ak q [0,3,5,19] Yl (gC h (λh=>Ak q [4] Ff (tS h (Ce U7))) λh=>tB h λx1 y1 h=>tT q [4] Ff [(Z2 x1)] (c1 (QD y1)) (tS h (Ce U7)))))
abbrev lC:=(LR (Int×As×Int×List Af×Int×As×List A6) ((As×Int×List Af×Int×As×List A6) ⊕ (As×Int×List Af×Int×As×List A6)))
def C4(a7:List Jr)(x8:iw):M3->Option lC:=
 λ((i9,l10,i11,l12,i13,l14,l15):M3)=>(bif (decide (i9<(x8.2.2.2.length:Int))) then(Ch (Bt i9 x8.2.2.2.length) ((Ha (x8.2.2.2.getD i9.toNat default) (⟨l10,i11,l12⟩:TFunc) i13 l14 a7 l15).bind λx29=>(bif (!x29.1) then(some (.done (.inr (x29.2.1.Params,x29.2.1.Ret,x29.2.1.Blocks,x29.2.2.1,x29.2.2.2.1,x29.2.2.2.2)))) else(some (.next ((Bh (i9+1)),x29.2.1.Params,x29.2.1.Ret,x29.2.1.Blocks,x29.2.2.1,x29.2.2.2.1,x29.2.2.2.2)))))) else(some (.done (.inl (l10,i11,l12,i13,l14,l15)))))
def C5(a7:List Jr)(l21:List A6):M3->Option lC:=
 λ((i32,l33,i34,l35,i36,l37,l38):M3)=>(bif (decide (i32<(l21.length:Int))) then(Ch (Bt i32 l21.length) ((Il (l21.getD i32.toNat default) (⟨l33,i34,l35⟩:TFunc) i36 l37 a7 l38).bind λx52=>(bif (!x52.1) then(some (.done (.inr (x52.2.1.Params,x52.2.1.Ret,x52.2.1.Blocks,x52.2.2.1,x52.2.2.2.1,x52.2.2.2.2)))) else(some (.next ((Bh (i32+1)),x52.2.1.Params,x52.2.1.Ret,x52.2.1.Blocks,x52.2.2.1,x52.2.2.2.1,x52.2.2.2.2)))))) else(some (.done (.inl (l33,i34,l35,i36,l37,l38)))))
def C6(a7:List Jr)(l44:List A6):M3->Option lC:=
 λ((i55,l56,i57,l58,i59,l60,l61):M3)=>(bif (decide (i55<(l44.length:Int))) then(Ch (Bt i55 l44.length) ((E4 (l44.getD i55.toNat default) (⟨l56,i57,l58⟩:TFunc) i59 l60 a7 l61).bind λx75=>(bif (!x75.1) then(some (.done (.inr (x75.2.1.Params,x75.2.1.Ret,x75.2.1.Blocks,x75.2.2.1,x75.2.2.2.1,x75.2.2.2.2)))) else(some (.next ((Bh (i55+1)),x75.2.1.Params,x75.2.1.Ret,x75.2.1.Blocks,x75.2.2.1,x75.2.2.2.1,x75.2.2.2.2)))))) else(some (.done (.inl (l56,i57,l58,i59,l60,l61)))))
def Ka :M3->Option (LR (Int×As×Int×List Af×Int×As×List A6) (Int×TFunc×Int×As×List A6)):=
 λ(s_:M3)=>match s_ with|(i1,l2,i3,l4,i5,l6,l7)=>(some (.done (i1,(⟨l2,i3,l4⟩:TFunc),i5,l6,l7)))
def Ss(Γ:G0)(a1:TFunc)(a4:Int)(a9:As)(a7:List Jr)(a5:List A6)(r:bI):Exit->St->Prop:=fK Tryz.prog Γ Tryz.f75.results.toList [(Z1 a1.Params a1.Ret a1.Blocks a4 a9 9100005 a5),(Z9 a5.length),(9100005,.obj (.map false .i64 (mapE (λ(v_:Ai)=>((Pq v_):AV)) a7)))] (Z6 r.1) [(Z1 r.2.1.Params r.2.1.Ret r.2.1.Blocks r.2.2.1 r.2.2.2.1 9100005 r.2.2.2.2),(Z9 r.2.2.2.2.length),(9100005,.obj (.map false .i64 (mapE (λ(v_:Ai)=>((Pq v_):AV)) a7)))]
def ls(a7:List Jr):=(mapE (λ(v_:Ai)=>((Pq v_):AV)) a7)
def Gp(a1:TFunc)(a4:Int)(a9:As)(a7:List Jr)(a5:List A6):Option bI:=
 ((Po (S:=M3) (X:=bI) ((E2 a1 a4 a9 a7 a5).bind λx8=>((Ag (C4 a7 x8) ((0:Int),x8.1.Params,x8.1.Ret,x8.1.Blocks,x8.2.1,x8.2.2.1,x8.2.2.2)).bind (λx30=>(match x30 with|(.inl (l16,i17,l18,i19,l20,l21))=>((Ag (C5 a7 l21) ((0:Int),l16,i17,l18,i19,l20,l21)).bind (λx53=>(match x53 with|(.inl (l39,i40,l41,i42,l43,l44))=>((Ag (C6 a7 l44) ((0:Int),l39,i40,l41,i42,l43,l44)).bind (λx76=>(match x76 with|(.inl (l62,i63,l64,i65,l66,l67))=>(some (.done ((0:Int),(⟨l62,i63,l64⟩:TFunc),i65,l66,l67)))|(.inr (l68,i69,l70,i71,l72,l73))=>(some (.next ((7:Int),l68,i69,l70,i71,l72,l73))))))|(.inr (l45,i46,l47,i48,l49,l50))=>(some (.next ((6:Int),l45,i46,l47,i48,l49,l50))))))|(.inr (l22,i23,l24,i25,l26,l27))=>(some (.next ((7:Int),l22,i23,l24,i25,l26,l27))))))) Ka).bind (λx81=>(some x81)))
theorem Sl(h:Gp v0 v1 v4 v25 v12=some v13):sP 75 [Yp] [(Z1 v0.Params v0.Ret v0.Blocks v1 v4 9100005 v12),(Z9 v12.length),(9100005,.obj (.map false .i64 (mapE (λ(v_:Ai)=>((Pq v_):AV)) v25)))] (Z6 v13.1) [(Z1 v13.2.1.Params v13.2.1.Ret v13.2.1.Blocks v13.2.2.1 v13.2.2.2.1 9100005 v13.2.2.2.2),(Z9 v13.2.2.2.2.length),(9100005,.obj (.map false .i64 (mapE (λ(v_:Ai)=>((Pq v_):AV)) v25)))]:=
 sG Tryz.func75 λΓ q=>Ak q [0] Ff (tB h λx81 y81 h=>gS y81 (λ(s_:M3)=>match s_ with|(i1,l2,i3,l4,i5,l6,l7)=>0) (λ(s_:M3)=>match s_ with|(i1,l2,i3,l4,i5,l6,l7)=>(⟨[(4,(Z6 i1))],(lz l2 i3 l4 i5 l6 9100005 l7 l7.length (ls v25)),[]⟩:St)) (λr_=>aR (Ss Γ v0 v1 v4 v25 v12 r_)) (λy h=>tB h λx8 y8 h=>tT q [0] Ff [(lx x8.1.Params x8.1.Ret x8.1.Blocks x8.2.1 x8.2.2.1 x8.2.2.2 x8.2.2.2.length (ls v25))] (c1 (Ph y8)) (tW q V4 M5 V4 M5 (Ak q V0 Ff (gU 3 (Ak q YA Ff (ZK true (tU q VT Pp (c1 (show(Bt (0:Int) 3) from(by decide))) (tW q VK Pp Ym Pp (tL q h Ym Pp (λu (i9,l10,i11,l12,i13,l14,l15)=>(Fg u [(32,(Z6 i9))] (LG l10 i11 l12 i13 l14 l15 l15.length))) (λu x_=>match x_ with|(.inl (l16,i17,l18,i19,l20,l21))=>aG Γ (.exit 2) (Wl V0 Ff u [] (LG l16 i17 l18 i19 l20 l21 l21.length))|(.inr (l22,i23,l24,i25,l26,l27))=>aG Γ (.goto 0) (Wl [4] Ff u [] (LG l22 i23 l24 i25 l26 l27 l27.length))) (λ⟨i9,l10,i11,l12,i13,l14,l15⟩ y h=>Ak q er Pp (gC h (λh=>tV q ez e8 h λh=>tB h λx29 y29 h=>tT q et Pp [(nz x29.1 x29.2.1.Params x29.2.1.Ret x29.2.1.Blocks x29.2.2.1 x29.2.2.2.1 x29.2.2.2.2 x29.2.2.2.2.length (ls v25))] (c1 (Pk y29)) (gC h (λh=>tS h (gO (Dq (Dh [4] Ff q)))) λh=>Ak q Ym Pp (tN h))) λh=>tS h (gO (Dq (Dh V0 Ff q))))) λx30 h=>(match x30,h with | .inl ⟨l16,i17,l18,i19,l20,l21⟩,h=>gA (tW q V0 Ff YA Ff (ZK true (tU q VT Pp (c1 (show(Bt (1:Int) 3) from(by decide))) (tW q VK Pp Ym Pp (tL q h Ym Pp (λu (i32,l33,i34,l35,i36,l37,l38)=>(Fg u [(32,(Z6 i32))] (LG l33 i34 l35 i36 l37 l38 l38.length))) (λu x_=>match x_ with|(.inl (l39,i40,l41,i42,l43,l44))=>aG Γ (.exit 2) (Wl V0 Ff u [] (LG l39 i40 l41 i42 l43 l44 l44.length))|(.inr (l45,i46,l47,i48,l49,l50))=>aG Γ (.goto 0) (Wl [4] Ff u [] (LG l45 i46 l47 i48 l49 l50 l50.length))) (λ⟨i32,l33,i34,l35,i36,l37,l38⟩ y h=>Ak q er Pp (gC h (λh=>tV q ez e8 h λh=>tB h λx52 y52 h=>tT q et Pp [(nz x52.1 x52.2.1.Params x52.2.1.Ret x52.2.1.Blocks x52.2.2.1 x52.2.2.2.1 x52.2.2.2.2 x52.2.2.2.2.length (ls v25))] (c1 (Sj y52)) (gC h (λh=>tS h (gO (Dq (Dh [4] Ff q)))) λh=>Ak q Ym Pp (tN h))) λh=>tS h (gO (Dq (Dh V0 Ff q))))) λx53 h=>(match x53,h with | .inl ⟨l39,i40,l41,i42,l43,l44⟩,h=>gA (tW q V0 Ff YA Ff (ZK true (tU q VT Pp (c1 (show(Bt (2:Int) 3) from(by decide))) (tW q VK Pp Ym Pp (tL q h Ym Pp (λu (i55,l56,i57,l58,i59,l60,l61)=>(Fg u [(32,(Z6 i55))] (LG l56 i57 l58 i59 l60 l61 l61.length))) (λu x_=>match x_ with|(.inl (l62,i63,l64,i65,l66,l67))=>aG Γ (.exit 2) (Wl V0 Ff u [] (LG l62 i63 l64 i65 l66 l67 l67.length))|(.inr (l68,i69,l70,i71,l72,l73))=>aG Γ (.goto 0) (Wl [4] Ff u [] (LG l68 i69 l70 i71 l72 l73 l73.length))) (λ⟨i55,l56,i57,l58,i59,l60,l61⟩ y h=>Ak q er Pp (gC h (λh=>tV q ez e8 h λh=>tB h λx75 y75 h=>tT q et Pp [(nz x75.1 x75.2.1.Params x75.2.1.Ret x75.2.1.Blocks x75.2.2.1 x75.2.2.2.1 x75.2.2.2.2 x75.2.2.2.2.length (ls v25))] (c1 (Pj y75)) (gC h (λh=>tS h (gO (Dq (Dh [4] Ff q)))) λh=>Ak q Ym Pp (tN h))) λh=>tS h (gO (Dq (Dh V0 Ff q))))) λx76 h=>(match x76,h with | .inl ⟨l62,i63,l64,i65,l66,l67⟩,h=>gA (tW q V0 Ff YA Ff (ZK false (Ak q [2] Ff (tS h (jR (Sx (Kk U7 (Le.refl _ _)))))))) | .inr ⟨l68,i69,l70,i71,l72,l73⟩,h=>jQ (λst' hl78=>tS h (gr (Le.trans hl78 Mp))))))))) | .inr ⟨l45,i46,l47,i48,l49,l50⟩,h=>jQ (λst' hl79=>tS h (gr (Le.trans hl79 Mp))))))))) | .inr ⟨l22,i23,l24,i25,l26,l27⟩,h=>jQ (λst' hl80=>tS h (gr (Le.trans hl80 Mp))))))))))))) (λ⟨i1,l2,i3,l4,i5,l6,l7⟩ y h=>Ak q [2] Ff (tS h (jR (Sx (Kk U7 (Le.refl _ _)))))) (Xd (λst' hk=>tS h (gK hk))))
def lu:=(λ(v_:Ai)=>((Pq v_):AV))
def oa(x1:bI):List SH:=(Z3 x1.2.1.Params x1.2.1.Ret x1.2.1.Blocks x1.2.2.1 x1.2.2.2.1 x1.2.2.2.2 x1.2.2.2.2.length)
def oc(x2:bI):List SH:=(Z3 x2.2.1.Params x2.2.1.Ret x2.2.1.Blocks x2.2.2.1 x2.2.2.2.1 x2.2.2.2.2 x2.2.2.2.2.length)
def od(x3:bI):List SH:=(Z3 x3.2.1.Params x3.2.1.Ret x3.2.1.Blocks x3.2.2.1 x3.2.2.2.1 x3.2.2.2.2 x3.2.2.2.2.length)
def El(a1:TFunc)(a4:Int)(a9:As)(a5:List A6):Option VE:=
 ((Gn a1 a4 a9 a5).bind λx1=>(bif (x1.1 !=0) then(some (x1.1,x1.2.1,x1.2.2.1,x1.2.2.2.1,x1.2.2.2.2,([]:List Jr))) else((Fo x1.2.1 x1.2.2.1 x1.2.2.2.1 x1.2.2.2.2).bind λx2=>(bif (x2.1 !=0) then(some (x2.1,x2.2.1,x2.2.2.1,x2.2.2.2.1,x2.2.2.2.2,([]:List Jr))) else((F5 x2.2.1 x2.2.2.1 x2.2.2.2.1 x2.2.2.2.2).bind λx3=>(bif (x3.1 !=0) then(some (x3.1,x3.2.1,x3.2.2.1,x3.2.2.2.1,x3.2.2.2.2,([]:List Jr))) else((E3 x3.2.1 x3.2.2.1 x3.2.2.2.1 x3.2.2.2.2).bind λx4=>(bif (x4.1 !=0) then(some (x4.1,x4.2.1,x4.2.2.1,x4.2.2.2.1,x4.2.2.2.2.1,x4.2.2.2.2.2)) else((Gp x4.2.1 x4.2.2.1 x4.2.2.2.1 x4.2.2.2.2.2 x4.2.2.2.2.1).bind λx5=>(bif (x5.1 !=0) then(some (x5.1,x5.2.1,x5.2.2.1,x5.2.2.2.1,x5.2.2.2.2,x4.2.2.2.2.2)) else(some ((0:Int),x5.2.1,x5.2.2.1,x5.2.2.2.1,x5.2.2.2.2,x4.2.2.2.2.2))))))))))))
theorem K5(h:El v0 v1 v4 v12=some v27):sP 52 [Yp] (Z3 v0.Params v0.Ret v0.Blocks v1 v4 v12 v12.length) (Z6 v27.1) [(Z1 v27.2.1.Params v27.2.1.Ret v27.2.1.Blocks v27.2.2.1 v27.2.2.2.1 9200005 v27.2.2.2.2.1),(Z9 v27.2.2.2.2.1.length),(9200005,.obj (.map false .i64 (mapE (λ(v_:Ai)=>((Pq v_):AV)) v27.2.2.2.2.2)))]:=
 sG Tryz.func52 λΓ q=>tW q [0] Fj [3] RW (Ak q AJ Fj (gU 5 (Ak q KT Fj (ZK true (tU q SB Fj (c1 (show(Bt (0:Int) 5) from(by decide))) (tB h λx1 y1 h=>tT q SC Fj [(n7 x1.1 (oa x1))] (c1 (Sk y1)) (Ak q SA Fj (gC h (λh=>Ak q [2] Fj (Rz (⟨[(2,(Z6 x1.1))],(oa x1),[]⟩:St) (tS h (gK (e:=.ret) (Kk ep (Le.trans (Qw (r:=30000) (j:=5) (nm:=9300005) .i64 rfl rfl (nl rfl) rfl) (Dh (st':=⟨[(2,(Z6 x1.1))],[(Z1 x1.2.1.Params x1.2.1.Ret x1.2.1.Blocks x1.2.2.1 x1.2.2.2.1 9300005 x1.2.2.2.2),(Z9 x1.2.2.2.2.length),(9300005,.obj (.map false .i64 (mapE lu ([]:List Jr))))],[]⟩) [2] fB q))))))) λh=>tW q AJ Fj KT Fj (ZK true (tU q SB Fj (c1 (show(Bt (1:Int) 5) from(by decide))) (tB h λx2 y2 h=>tT q SC Fj [(n7 x2.1 (oc x2))] (c1 (Pz y2)) (Ak q SA Fj (gC h (λh=>Ak q [2] Fj (Rz (⟨[(2,(Z6 x2.1))],(oc x2),[]⟩:St) (tS h (gK (e:=.ret) (Kk ep (Le.trans (Qw (r:=30000) (j:=5) (nm:=9300005) .i64 rfl rfl (nl rfl) rfl) (Dh (st':=⟨[(2,(Z6 x2.1))],[(Z1 x2.2.1.Params x2.2.1.Ret x2.2.1.Blocks x2.2.2.1 x2.2.2.2.1 9300005 x2.2.2.2.2),(Z9 x2.2.2.2.2.length),(9300005,.obj (.map false .i64 (mapE lu ([]:List Jr))))],[]⟩) [2] fB q))))))) λh=>tW q AJ Fj KT Fj (ZK true (tU q SB Fj (c1 (show(Bt (2:Int) 5) from(by decide))) (tB h λx3 y3 h=>tT q SC Fj [(n7 x3.1 (od x3))] (c1 (Rg y3)) (Ak q SA Fj (gC h (λh=>Ak q [2] Fj (Rz (⟨[(2,(Z6 x3.1))],(od x3),[]⟩:St) (tS h (gK (e:=.ret) (Kk ep (Le.trans (Qw (r:=30000) (j:=5) (nm:=9300005) .i64 rfl rfl (nl rfl) rfl) (Dh (st':=⟨[(2,(Z6 x3.1))],[(Z1 x3.2.1.Params x3.2.1.Ret x3.2.1.Blocks x3.2.2.1 x3.2.2.2.1 9300005 x3.2.2.2.2),(Z9 x3.2.2.2.2.length),(9300005,.obj (.map false .i64 (mapE lu ([]:List Jr))))],[]⟩) [2] fB q))))))) λh=>tW q AJ Fj KT Fj (ZK true (tU q SB Fj (c1 (show(Bt (3:Int) 5) from(by decide))) (tB h λx4 y4 h=>tT q SC Sb [⟨CF,[(9200005,13000005)],(Z6 x4.1),[(Z1 x4.2.1.Params x4.2.1.Ret x4.2.1.Blocks x4.2.2.1 x4.2.2.2.1 9200005 x4.2.2.2.2.1),(Z9 x4.2.2.2.2.1.length),(9200005,.obj (.map false .i64 (mapE lu x4.2.2.2.2.2)))],[],[]⟩] (c1 (Pi y4)) (Ak q SA Sb (gC h (λh=>Ak q [2] Sb (tS h (Ce en))) λh=>tW q AJ Sb KT Sb (ZK true (tU q SB Sb (c1 (show(Bt (4:Int) 5) from(by decide))) (tB h λx5 y5 h=>tT q SC Sb [⟨[(30000,30000),(37006,37006),(13000005,9100005)],[],(Z6 x5.1),[(Z1 x5.2.1.Params x5.2.1.Ret x5.2.1.Blocks x5.2.2.1 x5.2.2.2.1 9100005 x5.2.2.2.2),(Z9 x5.2.2.2.2.length),(9100005,.obj (.map false .i64 (mapE lu x4.2.2.2.2.2)))],[],[]⟩] (c1 (Sl y5)) (Ak q SA Sb (gC h (λh=>Ak q [2] Sb (tS h (Ce en))) λh=>tW q AJ Sb KT Sb (ZK false (Ak q [2] Sb (tS h (Ce en))))))))))))))))))))))))))))))))
end
end Go.Proofs.YtjpnobeadcdnoaaGreat
