/-
  The machine, the program's functions and the laws' arithmetic: part 3 of 5.
-/
import Derived.Test.YtiendmljhgbjoaaGreatPk2
import Derived.BigCall
import Derived.Lib.RowBridge
import Derived.Shelf.Slices.Clone
import Derived.Shelf.Slices.CompactI
import Derived.Shelf.Slices.In.SortNone
import Derived.Shelf.Sort.Plain
import Derived.Sort.OwnSortedInts
import Derived.Test.YtiendmljhgbjoaaGreatProg
set_option linter.unusedSectionVars false
set_option linter.unusedVariables false
set_option linter.unusedSimpArgs false
namespace Go.Proofs.YtiendmljhgbjoaaGreat
noncomputable section
open Go Go.RowKit
section
variable {P:Program} {Γ:Gs} {σ:Sto} {I:Nat->Nat->Prop} {θ:Nat->Option (Nat×Nat)} {a:Act} {w:World} {o:Oper}
theorem OS{g bm since:Nat}{seen:Array Nat}{es:Array MapEntry}(hg:w.heap[g]?=some (.mapIter (some bm) since seen since))(hb:w.heap[bm]?=some (.map es since))(hold:∀ x∈es.toList,x.born<since)(ty:TypeId) :
  ((∀ e∈es.toList,e.born∈seen.toList)/\(Instr.next (.pointer (some ⟨g,0,none⟩)) false ty).run P w = .ok (.tuple #[.bool false]) w) \/
  ∃ e∈es.toList,e.born∉seen.toList/\((Instr.next (.pointer (some ⟨g,0,none⟩)) false ty).run P w = .ok (.tuple #[.bool true,e.key,e.val]) (Nw w g (.mapIter (some bm) since (seen.push e.born) since)) \/
   (Instr.next (.pointer (some ⟨g,0,none⟩)) false ty).run P w = .ok (.tuple #[.bool true,e.key,e.val]) (Nw w.drew g (.mapIter (some bm) since (seen.push e.born) since))):=by
 simp only[Instr.next,getObj,Cu,Sem.run,hg,hb,Result.andThen,next_test_false seen es since since hold (zzL8 _),Xj,Ep]
 have hmem:∀ x∈(Array.filter (λe=>!seen.contains e.born) es).toList,x∈es.toList/\x.born∉seen.toList:=λx hx=>by
  simp only[Array.toList_filter,zzL63,On,Array.contains_eq_mem,IE]at hx;exact⟨hx.1,by simpa using hx.2⟩
 have hall:(Array.filter (λe=>!seen.contains e.born) es).size=0->∀ e∈es.toList,e.born∈seen.toList:=λh0 e he=>by
  by_cases hc:e.born∈seen.toList
  ·exact hc
  ·have:e∈(Array.filter (λe=>!seen.contains e.born) es).toList:=by
    simp only[Array.toList_filter,zzL63,On,Array.contains_eq_mem,IE];exact⟨he,by simpa using hc⟩
   have h1:0<(Array.filter (λe=>!seen.contains e.born) es).toList.length:=List.length_pos_of_mem this;rw[Yx]at h1;omega
 generalize Array.filter (λe=>!seen.contains e.born) es=L at hmem hall ⊢
 have e1:L.filter (λx=>decide (x.born<since))=L:=Array.filter_eq_self.2 (λx hx=>by simpa using hold x (hmem x (by simpa using hx)).1)
 have e2:L.filter (λx=>decide (x.born>=since)) = #[]:=by
  rw[Array.filter_eq_empty_iff];intro x hx;have:=hold x (hmem x (by simpa using hx)).1
  simp
  omega
 simp only[e1,e2,Array.append_empty]
 by_cases h0:L.size=0
 ·left
  have:L = #[]:=Array.eq_empty_of_size_eq_zero h0;subst this;refine⟨hall rfl,?_⟩;simp[choose,Sem.run,Question.forced]
 ·right
  have hne:L.isEmpty=false:=by simp[Array.isEmpty,h0]
  simp only[hne,Xj,Ep,Array.empty_append,Array.size_map];have hgl:g<w.heap.size:=(Array.getElem?_eq_some_iff.1 hg).1
  have hch:∃(j:Nat) (w1:World),j<L.size/\(w1=w\/w1=w.drew)/\(choose (Question.mapNext L.size)).run P w = .ok j w1:=by
   by_cases hf:L.size<=1
   ·exact⟨0,w,by omega,.inl rfl,by simp[choose,Sem.run,Question.forced,hf]⟩
   ·exact⟨_,w.drew,Nat.mod_lt _ (by omega),.inr rfl,by
     simp only[choose,Sem.run,Question.forced,Du,hf,Ep,Question.cut]
     rfl⟩
  obtain⟨j,w1,hj,hw,hrun⟩:=hch
  have hLj:L[j]∈L.toList:=by simp
  refine⟨L[j],(hmem _ hLj).1,(hmem _ hLj).2,?_⟩
  have hset:∀ o',(setObj g o').run P w1 = .ok () (Nw w1 g o'):=λo'=>by
   have hh:w1.heap[g]?=some (.mapIter (some bm) since seen since):=by rcases hw with rfl|rfl<;>exact hg
   simp[setObj,Sem.run,hh,Nw]
  simp only[hrun,Array.getElem?_map,Array.getElem?_eq_getElem hj,Vy,Cu,hset,Result.andThen];rcases hw with rfl|rfl
  ·exact .inl rfl
  ·exact .inr rfl
theorem cI(h:Rel Γ σ I θ a w)(hd:∀ d,o.dst=some d->d<Γ.n){x:Operand}(ho:o.op = .next x false){nm mm n:Nat}{s:List Nat}{nn:Bool}{k:IntKind}{l:List (Int×AV)}(hx:Rep I σ.own θ w (a.eval x) (.optr nm mm))
  (hit:σ.own nm=some (.obj (.miter (.omap mm) n s))) (hown:σ.own mm=some (.obj (.map nn k l))) (hn:n=l.length) (K:Act->World->Prop) (Q:Exit->Act->World->Prop)
  (hdone:(∀ i,i<n->i∈s)->∀ I' θ' a' w',Rel Γ (σ.upd o.dst (.tuple [.bool false]) []) I' θ' a' w'->K a' w')
  (hmore:∀ i,i<n->i∉s->∀ I' θ' a' w',Rel Γ (σ.upd o.dst (.tuple [.bool true,.int k (l.getD i (0,.any)).1,(l.getD i (0,.any)).2]) [(nm,.obj (.miter (.omap mm) n (i::s)))]) I' θ' a' w'->K a' w'):o.wp P a w K Q:=by
 obtain⟨_,g,c,ho',hg,hv⟩:=hx.optr_inv
 obtain⟨ob,h2,h3⟩:∃ ob,w.heap[g]?=some ob/\ObjR I σ.own θ w ob (.miter (.omap mm) n s):=by
  rcases h.chg.rel.obj nm _ hit with⟨g',c',ob,h1,h2,h3,h4⟩|⟨h1,_⟩
  ·rw[hg]at h1;simp only[Af,H4]at h1;obtain⟨rfl,rfl⟩:=h1;exact⟨ob,h2,h3⟩
  ·rw[hg]at h1;cases h1
 obtain⟨r,cc,seen,rfl,hseen,rfl,hr⟩:=HE h3;obtain⟨_,_,hxm⟩:=hr.omap_inv;simp only[Value.map.injEq]at hxm
 have hfalse:∀(hrun:(execOp a.eval o).run P w = .ok (.value (.tuple #[.bool false])) w),(∀ i,i<cc->i∈s)->o.wp P a w K Q:=λhrun hall=>
  Am (x:=.tuple [.bool false]) h hd hrun (.tuple _ _ rfl (λj hj=>by
   obtain rfl:j=0:=by simp at hj;omega
   exact .val _ _ (.bool _))) K Q (hdone hall)
 rcases map_at h hown with⟨gm,c',es',h4,h5,h6⟩|⟨h4,_,h7⟩
 ·rw[h4]at hxm;obtain rfl:r=some gm:=hxm;obtain⟨hlen,hent⟩:=T3 l es'.toList 0 h6
  have hmem:∀ e∈es'.toList,∃ i,i<l.length/\es'.toList[i]?=some e/\e.born=i/\e.key = .int k (l.getD i (0,.any)).1/\JE I w e.val (l.getD i (0,.any)).2:=λe he=>by
   obtain⟨i,hi,rfl⟩:=List.mem_iff_getElem.1 he;obtain⟨v,e1,e2⟩:=hent i (by omega);rw[Rk hi]at e1;have e3:=OI e1;exact⟨i,by omega,Rk hi,by rw[e3];simp,by rw[e3],by rw[e3];exact e2⟩
  rw[<- hn]at h5;have hnx:=OS (P:=P) h2 h5 (λe he=>by obtain⟨i,hi,_,hb,_⟩:=hmem e he;omega) (ty:=0);have hty:∀ ty,Instr.next (.pointer (some ⟨g,0,none⟩)) false ty=Instr.next (.pointer (some ⟨g,0,none⟩)) false 0:=λ_=>rfl;rcases hnx with⟨hall,hrun⟩|⟨e,he,hns,hrun⟩
  ·refine hfalse ?_ (λi hi=>?_)
   ·simp only[execOp,ho,hv,hty];simp[hrun]
   ·obtain⟨v,e1,e2⟩:=hent i (by omega);have:=hall _ (List.mem_of_getElem? e1);rw[<- hseen,zzL93]
    simpa using this
  ·obtain⟨i,hi,_,hb,hkey,hval⟩:=hmem e he
   have his:i∉s:=by rw[<- hseen,zzL93,<- hb];exact hns
   have hrev:(seen.push e.born).toList.reverse=i::s:=by rw[Array.toList_push,List.reverse_append,hseen,hb];rfl
   have step:∀ w1:World,Rel Γ σ I θ a w1->w1.heap=w.heap->(execOp a.eval o).run P w = .ok (.value (.tuple #[.bool true,e.key,e.val])) (Nw w1 g (.mapIter (some gm) cc (seen.push e.born) cc))->o.wp P a w K Q:=λw1 hr1 hh hrun=>by
    have hcell:∀ b j,I b j->w1.cell? ⟨b,j,none⟩=w.cell? ⟨b,j,none⟩:=λb j _=>by simp only[World.cell?,hh]
    have hr':Rep I σ.own θ w1 (.map (some gm)) (.omap mm):=hr.mono (λ_ _ h=>h) hcell (λ_ o ho=>⟨o,ho,.refl _ _⟩)
    have hc:ObjR I σ.own θ w1 (.mapIter (some gm) cc (seen.push e.born) cc) (.miter (.omap mm) cc (i::s)):=by
     have:=ObjR.miter (I:=I) (own:=σ.own) (θ:=θ) (w:=w1) (some gm) (.omap mm) cc cc (seen.push e.born) rfl hr';rwa[hrev]at this
    have kc:=M7 hr1.chg.rel hr1.chg.valid hit hg hc;have hval':RepV I (Nw w1 g (.mapIter (some gm) cc (seen.push e.born) cc)) e.val (l.getD i (0,.any)).2:=hval.1.mono (λ_ _ h=>h) (λb j hj=>by rw[kc.cell b j hj,hcell b j hj])
    have k2:Chg σ.own θ I w1 (σ.upd o.dst (.tuple [.bool true,.int k (l.getD i (0,.any)).1,(l.getD i (0,.any)).2]) [(nm,.obj (.miter (.omap mm) cc (i::s)))]).own θ I (Nw w1 g (.mapIter (some gm) cc (seen.push e.born) cc)):=by rw[Bj];exact kc
    have hput:=T6 (v:=.tuple #[.bool true,e.key,e.val]) (x:=.tuple [.bool true,.int k (l.getD i (0,.any)).1,(l.getD i (0,.any)).2]) hr1 k2 (.tuple _ _ rfl (λj hj=>by
     have hj:j=0\/j=1\/j=2:=by simp at hj;omega
     rcases hj with rfl|rfl|rfl
     ·exact .val _ _ (.bool _)
     ·rw[show(#[Value.bool true,e.key,e.val].getD 1 Go.undef)=e.key from rfl,hkey];exact .val _ _ (.int _ _)
     ·exact .val _ _ hval')) hd
    unfold Oper.wp;rw[hrun];exact hmore i (by omega) his _ _ _ _ hput
   rcases hrun with hrun|hrun
   ·refine step w h rfl ?_;simp only[execOp,ho,hv,hty];simp[hrun]
   ·refine step w.drew (OL h) rfl ?_;simp only[execOp,ho,hv,hty];simp[hrun]
 ·rw[h4]at hxm;obtain rfl:r=none:=hxm;subst h7;refine hfalse ?_ (λi hi=>by simp at hn;omega);simp only[execOp,ho,hv];simp[Instr.next,getObj,Sem.run,h2]
theorem WH{id:Nat}{o1 o2:Oper}{K:Exit->St->Prop}{st:St}{n:Nat}{H:List (Nat×Own)}{x t b nm mm len:Nat}{s:List Nat}{nn:Bool}{k:IntKind}{l:List (Int×AV)}(q:RgQ P Γ n H)(live names:List Nat)
  (h1:o1.op = .next (.tmp x) false) (d1:o1.dst=some t) (g1:o1.guard=none) (h2:o2.op = .extract (.tmp t) 0) (d2:o2.dst=some b) (g2:o2.guard=none) (hb:(Nat.blt t n&&(Nat.blt b n&&(Nat.blt nm A8&&Nat.blt mm A8)))=true)
  (hx:st.get x = .optr nm mm) (hit:Ac st.own nm=some (.obj (.miter (.omap mm) len s))) (hm:Ac st.own mm=some (.obj (.map nn k l))) (hlen:len=l.length) (hh:(H.all λx=>Cc x.1 names)=true)
  (hdone:(∀ i,i<len->i∈s)->K .normal (A2 live names ((st.upd (some t) (.tuple [.bool false]) []).upd (some b) (.bool false) [])))
  (hmore:∀ i,i<len->i∉s->K .normal (A2 live names ((st.upd (some t) (.tuple [.bool true,.int k (l.getD i (0,.any)).1,(l.getD i (0,.any)).2]) [(nm,.obj (.miter (.omap mm) len (i::s)))]).upd (some b) (.bool true) []))):Rr P Γ (.region id #[o1,o2] false) K st:=by
 simp only[A4,Gr]at hb;obtain⟨b1,b2,b3,b4⟩:=hb;intro I θ a w hrel;refine wp_region ?_;have hget:∀ t,Rep I st.sto.own θ w (a.tmps.getD t undef) (st.get t):=hrel.slots
 have w1:∀ tm,Region.wanted o1 tm=true:=λtm=>by simp[Region.wanted,g1]
 have w2:∀ tm,Region.wanted o2 tm=true:=λtm=>by simp[Region.wanted,g2]
 have hl:(List.range (#[o1,o2]:Array Oper).size)=[0,1]:=rfl;have hsec:∀(st2:St) (vb:Bool) (r:List AV) (I':Nat->Nat->Prop) (θ':Nat->Option (Nat×Nat)) (a':Act) (w':World),st2.get t = .tuple (.bool vb::r)->Rel Γ st2.sto I' θ' a' w'->K .normal (A2 live names (st2.upd (some b) (.bool vb) []))->
   wpOps P #[o1,o2] (λe a' w'=>∃ st' I' θ',K e st'/\Rel Γ st'.sto I' θ' a' w') [1] a' w':=λst2 vb r I' θ' a' w' hgt hr hK=>by
  rw[wpOps_cons]
  show wpOp P #[o1,o2] _ 1 _ a' w'
  unfold wpOp;simp only[show(#[o1,o2]:Array Oper)[1]?=some o2 from rfl,w2,Hc];refine .inl ?_;have ht:=hr.slots t;rw[show st2.sto.tmp t=st2.get t from rfl,hgt]at ht;obtain⟨vs,hv,hsz,hvr⟩:=ht.tuple_inv;have h0:=hvr 0 (by simp);have h0':vs.getD 0 Go.undef = .bool vb:=Rep.bool_inv h0
  have hpos:0<vs.size:=by rw[hsz];simp
  refine Am hr (λd hd=>?_) (v:=.bool vb) (x:=.bool vb) ?_ (.val _ _ (.bool _)) _ _ (λI2 θ2 a2 w2 h2=>?_)
  ·rw[d2]at hd;obtain rfl:=OI hd;rw[q.hn];exact b2
  ·simp only[execOp,h2,Act.eval];rw[hv]
   have:vs[0]?=some (.bool vb):=by
    rw[Mk,Array.getElem?_eq_getElem hpos,Yz]at h0';rw[Array.getElem?_eq_getElem hpos,h0']
   simp[Instr.extract,this]
  ·refine⟨_,I2,θ2,hK,Qq ?_ (q.hand hh)⟩;rw[BP (ns:=[]) st2 (some b) (.bool vb) [] rfl];rw[d2]at h2;exact h2
 rw[hl,wpOps_cons];unfold wpOp;simp only[show(#[o1,o2]:Array Oper)[0]?=some o1 from rfl,w1,Hc];refine .inl ?_;have hxr:=hget x;rw[hx]at hxr;refine cI hrel (λd hd=>?_) h1 (nm:=nm) (mm:=mm) (n:=len) (s:=s) (nn:=nn) (k:=k) (l:=l) hxr ((A1 b3).trans hit) ((A1 b4).trans hm) hlen _ _ (λhall I' θ' a' w' hr=>?_) (λi hi hni I' θ' a' w' hr=>?_)
 ·rw[d1]at hd;obtain rfl:=OI hd;rw[q.hn];exact b1
 ·rw[d1,<- BP (ns:=[]) st (some t) (.tuple [.bool false]) [] rfl]at hr;refine hsec _ false [] I' θ' a' w' ?_ hr (hdone hall);simp[St.get,St.upd,Ee]
 ·rw[d1,<- BP (ns:=[nm]) st (some t) _ [(nm,.obj (.miter (.omap mm) len (i::s)))] (by simp[Qg,b3])]at hr;refine hsec _ true [.int k (l.getD i (0,.any)).1,(l.getD i (0,.any)).2] I' θ' a' w' ?_ hr (hmore i hi hni);simp[St.get,St.upd,Ee]
end
def Sz{S X:Type}(f:Nat->S->Option (LR S X))(g:S->Option (LR S X)):List Nat->S->Option X
 | [],s=>match g s with|some (.done x)=>some x|_=>none
 | i::l,s=>match f i s with|some (.next s')=>Sz f g l s'|some (.done x)=>some x|none=>none
open Classical in
open Classical in
def Vq{S X:Type}(eqv:X->X->Prop)(n:Nat)(f:Nat->S->Option (LR S X))(g:S->Option (LR S X))(s:S):Option X:=
 if h:∃ x,∀ τ:List Nat,τ.Perm (List.range n)->∃ x',Sz f g τ s=some x'/\eqv x' x then some (Classical.choose h) else none
theorem Zp{S X:Type}{eqv:X->X->Prop}{n:Nat}{f:Nat->S->Option (LR S X)}{g:S->Option (LR S X)}{s:S}{x:X}(h:Vq eqv n f g s=some x):∀ τ:List Nat,τ.Perm (List.range n)->∃ x',Sz f g τ s=some x'/\eqv x' x:=by
 unfold Vq at h
 split at h
 ·rename_i h0
  obtain rfl:=OI h;exact Classical.choose_spec h0
 ·cases h
theorem XT{S X:Type}{eqv:X->X->Prop}{n:Nat}{f:Nat->S->Option (LR S X)}{g:S->Option (LR S X)}{s:S}(h:∃ x,∀ τ:List Nat,τ.Perm (List.range n)->∃ x',Sz f g τ s=some x'/\eqv x' x):∃ x,Vq eqv n f g s=some x:=by
 unfold Vq;rw[dif_pos h];exact⟨_,rfl⟩
theorem DR{α:Type}[DecidableEq α]{a b:List α}(ha:a.Nodup)(hb:b.Nodup)(h:∀ x,x∈a↔x∈b):a.Perm b:=by
 refine List.perm_iff_count.2 λx=>?_;rw[ha.count,hb.count];simp only[h x]
section
variable {P:Program} {Γ:Gs}
theorem MD{S X:Type}{body:Code}(Q:X->Prop)(n:Nat)(H:List Nat->S->St)(f:Nat->S->Option (LR S X))(g:S->Option (LR S X))(KX:X->Exit->St->Prop){K:Exit->St->Prop}
  (hb:∀(z:List Nat) (s:S),((∀ i,i<n->i∈z)->∃ y,g s=some y)->(∀ i,i<n->i∉z->∃ y,f i s=some y)->
   Rr P Γ body (λe st=>(∃ y,g s=some y/\Md Γ (H z) KX y e st/\∀ i,i<n->i∈z)\/∃ i y,f i s=some y/\Md Γ (H (i::z)) KX y e st/\i<n/\i∉z) (H z s))
  {s:S} (hr:∀ τ:List Nat,τ.Perm (List.range n)->∃ x,Sz f g τ s=some x/\Q x) (hK:∀ x,Q x->∀ e st',KX x e st'->K e st'):Rr P Γ (.loop body) K (H [] s):=by
 intro I θ a w hrel;refine Yt (λm a w=>∃ z s I θ,m=n-z.length/\z.Nodup/\(∀ i∈z,i<n)/\(∀ τ:List Nat,(z++τ).Perm (List.range n)->∃ x,Sz f g τ s=some x/\Q x)/\Rel Γ (H z s).sto I θ a w) (λm a w ⟨z,s,I,θ,hm,hz,hzn,hruns,hrel⟩=>?_) (n:=n-0) ⟨[],s,I,θ,rfl,List.nodup_nil,(λi hi=>by cases hi),(λτ hτ=>hr τ hτ),hrel⟩
 have hall:(∀ i,i<n->i∈z)->(z++[]).Perm (List.range n):=λh=>by
  rw[List.append_nil]
  exact DR hz List.nodup_range λi=>by rw[zzL38];exact⟨hzn i,h i⟩
 have hone:∀ i,i<n->i∉z->∃ τ,(z++i::τ).Perm (List.range n):=λi hi hni=>by
  refine⟨(List.range n).filter λj=>decide (j∉i::z),DR ?_ List.nodup_range λj=>?_⟩
  ·refine List.nodup_append.2 ⟨hz,zzL74.2 ⟨by simp,List.nodup_range.filter _⟩,λp hp q hq hpq=>?_⟩;subst hpq;rcases zzL22.1 hq with rfl|hq
   ·exact hni hp
   ·have:=(zzL63.1 hq).2;simp at this;exact this.2 hp
  ·rw[zzL11,zzL22,zzL63,zzL38]
   constructor
   ·rintro(h|rfl|h)
    ·exact hzn j h
    ·exact hi
    ·exact h.1
   ·intro h
    by_cases h1:j∈z
    ·exact .inl h1
    ·by_cases h2:j=i
     ·exact .inr (.inl h2)
     ·exact .inr (.inr ⟨h,by simp[h1,h2]⟩)
 have hg:(∀ i,i<n->i∈z)->∃ y,g s=some y:=λh=>by
  obtain⟨x,this,_⟩:=hruns [] (hall h);unfold Sz at this
  cases hgs:g s with
  | none=>rw[hgs]at this;cases this
  | some y=>exact⟨y,rfl⟩
 have hf:∀ i,i<n->i∉z->∃ y,f i s=some y:=λi hi hni=>by
  obtain⟨τ,hτ⟩:=hone i hi hni;obtain⟨x,this,_⟩:=hruns _ hτ;unfold Sz at this
  cases hfs:f i s with
  | none=>rw[hfs]at this;cases this
  | some y=>exact⟨y,rfl⟩
 refine Mh (hb z s hg hf I θ a w hrel) λe a' w' ⟨st',I',θ',h1,h2⟩=>?_;rcases h1 with⟨y,hgs,hk,hal⟩|⟨i,y,hfs,hk,hi,hni⟩
 ·obtain⟨x,hx,hQ⟩:=hruns [] (hall hal);unfold Sz at hx;rw[hgs]at hx
  cases y with
  | next s'=>cases hx
  | done x'=>
   obtain rfl:=OI hx;obtain⟨hne,hkx⟩:=hk
   cases e with
   | normal=>exact(hne rfl).elim
   | _=>exact⟨st',I',θ',hK _ hQ _ _ hkx,h2⟩
 ·obtain⟨τ,hτ⟩:=hone i hi hni
  have hlen:z.length<n:=by
   have:=hτ.length_eq;rw[E8,Oo,Zz]at this;omega
  cases y with
  | next s'=>
   obtain⟨rfl,hle⟩:=hk;obtain⟨I'',θ'',h3⟩:=hle I' θ' a' w' h2;refine⟨n-(i::z).length,by simp only[Oo];omega,i::z,s',I'',θ'',rfl,zzL74.2 ⟨hni,hz⟩,?_,λρ hρ=>?_,h3⟩
   ·intro j hj;rcases zzL22.1 hj with rfl|hj
    ·exact hi
    ·exact hzn j hj
   ·obtain⟨x,this,hQ⟩:=hruns (i::ρ) (List.Perm.trans List.perm_middle hρ);unfold Sz at this;rw[hfs]at this;exact⟨x,this,hQ⟩
  | done x'=>
   obtain⟨x,hx,hQ⟩:=hruns _ hτ;unfold Sz at hx;rw[hfs]at hx;obtain rfl:=OI hx;obtain⟨hne,hkx⟩:=hk
   cases e with
   | normal=>exact(hne rfl).elim
   | _=>exact⟨st',I',θ',hK _ hQ _ _ hkx,h2⟩
end
theorem fQ{V:Type}{f:V->AV}{l:List (Int×V)}{d:Int×V}{i:Nat}{k:IntKind}(h:i<(mapE f l).length):AVle (.tuple [.int k ((mapE f l).getD i (0,.any)).1,((mapE f l).getD i (0,.any)).2]) (.tuple [.int k (l.getD i d).1,f (l.getD i d).2]):=by
 have hl:i<l.length:=by simpa [mapE] using h
 have e:(mapE f l).getD i (0,.any)=((l.getD i d).1,f (l.getD i d).2):=by simp[mapE,List.getD,hl]
 rw[e];exact AVle.refl _
section
variable {P:Program} {Γ:Gs}
def AU(P:Program)(Γ:Gs)(body:Code)(K:Exit->St->Prop):Nat->St->Prop
 | 0,_=>False
 | n+1,st=>Rr P Γ body (λe st'=>(e = .normal/\AU P Γ body K n st')\/(e≠.normal/\K e st')) st
theorem QY{body:Code}{K:Exit->St->Prop}{st:St}(n:Nat)(h:AU P Γ body K n st):Rr P Γ (.loop body) K st:=by
 intro I θ a w hrel;refine Yt (λm a w=>∃ st I θ,AU P Γ body K m st/\Rel Γ st.sto I θ a w) (λm a w ⟨st,I,θ,hu,hrel⟩=>?_) (n:=n) ⟨st,I,θ,h,hrel⟩
 cases m with
 | zero=>exact hu.elim
 | succ m=>
  refine Mh (hu I θ a w hrel) λe a' w' ⟨st',I',θ',h1,h2⟩=>?_;rcases h1 with⟨rfl,h1⟩|⟨hne,h1⟩
  ·exact⟨m,Nat.lt_succ_self m,st',I',θ',h1,h2⟩
  ·cases e with
   | normal=>exact(hne rfl).elim
   | _=>exact⟨st',I',θ',h1,h2⟩
end
inductive dr where
 | nx (y:Code)
 | bl (id:Nat)
 | ag (c:Code) (n:Nat)
inductive J0 where
 | run (c:Code) (fs:List dr)
 | out (e:Exit) (fs:List dr)
def dm(P:Program)(Γ:Gs)(K:Exit->St->Prop):List dr->Exit->St->Prop
 | []=>K
 | .nx y::fs=>iE P Γ y (dm P Γ K fs)
 | .bl id::fs=>Xy id (dm P Γ K fs)
 | .ag c n::fs=>λe st=>(e = .normal/\AU P Γ c (dm P Γ K fs) n st)\/(e≠.normal/\dm P Γ K fs e st)
def GG(P:Program)(Γ:Gs)(K:Exit->St->Prop):J0->St->Prop
 | .run c fs,st=>Rr P Γ c (dm P Γ K fs) st
 | .out e fs,st=>dm P Γ K fs e st
def R8:Code->Nat->Nat
 | .exit i,k=>bif Nat.beq i k then 1 else 0
 | .seq a b,k=>Nat.min 2 (R8 a k+R8 b k)
 | .cond _ a b,k=>Nat.min 2 (R8 a k+R8 b k)
 | .loop c,k=>Nat.min 1 (R8 c k)
 | .scope c,k=>Nat.min 1 (R8 c k)
 | .block _ c,k=>R8 c k
 | _,_=>0
def Ng:Code->Nat
 | .region _ _ _=>1
 | .skip=>1
 | .label _=>1
 | .seq a b=>bif Nat.beq (Ng a) 0 then 0 else Ng b
 | .cond _ a b=>Nat.min 2 (Ng a+Ng b)
 | .block i c=>Nat.min 2 (Ng c+R8 c i)
 | .scope c=>Nat.min 2 (Ng c)
 | _=>0
def bi(a:Code):Bool:=match a with | .region _ _ _=>false|a=>Nat.ble 2 (Ng a)
def DC:Nat->Code ⊕ Exit->List dr->J0
 | 0,.inl c,fs=>.run c fs
 | 0,.inr e,fs=>.out e fs
 | n+1,.inl c,fs=>
  match c with
  | .skip=>DC n (.inr .normal) fs
  | .label _=>DC n (.inr .normal) fs
  | .seq a b=>bif bi a then .run (.seq a b) fs else DC n (.inl a) (.nx b::fs)
  | .block id a=>DC n (.inl a) (.bl id::fs)
  | .exit id=>DC n (.inr (.exit id)) fs
  | .goto l=>DC n (.inr (.goto l)) fs
  | .ret=>DC n (.inr .ret) fs
  | c=>.run c fs
 | n+1,.inr e,fs=>
  match fs with
  | []=>.out e []
  | .nx y::fs=>(match e with | .normal=>DC n (.inl y) fs|e=>DC n (.inr e) fs)
  | .bl id::fs=>(match e with | .exit i=>bif Nat.beq i id then DC n (.inr .normal) fs else DC n (.inr (.exit i)) fs|e=>DC n (.inr e) fs)
  | .ag c m::fs=>(match e with | .normal=>(match m with|0=>.out .normal (.ag c 0::fs)|m+1=>DC n (.inl c) (.ag c m::fs))|e=>DC n (.inr e) fs)
section
variable {P:Program} {Γ:Gs} {K:Exit->St->Prop}
theorem Bl:∀(n:Nat) (x:Code ⊕ Exit) (fs:List dr) (st:St),GG P Γ K (DC n x fs) st->(match x with | .inl c=>Rr P Γ c (dm P Γ K fs) st | .inr e=>dm P Γ K fs e st)
 | 0,.inl c,fs,st,h=>h
 | 0,.inr e,fs,st,h=>h
 | n+1,.inl c,fs,st,h=>by
  cases c with
  | skip=>exact aq (Bl n _ fs st h)
  | label l=>exact WG (Bl n _ fs st h)
  | seq a b=>
   cases hj:bi a with
   | true=>simp only[DC,hj]at h;exact h
   | false=>simp only[DC,hj]at h;exact JL (Bl n (.inl a) _ st h)
  | block id a=>exact WF (Bl n (.inl a) _ st h)
  | exit id=>exact am (Bl n _ fs st h)
  | goto l=>exact an (Bl n _ fs st h)
  | ret=>exact eP (Bl n (.inr .ret) fs st h)
  | _=>exact h
 | n+1,.inr e,[],st,h=>h
 | n+1,.inr e,.nx y::fs,st,h=>by
  cases e with
  | normal=>exact Bl n (.inl y) fs st h
  | exit i=>exact Bl n _ fs st h
  | goto l=>exact Bl n _ fs st h
  | ret=>exact Bl n (.inr .ret) fs st h
  | panic c=>exact Bl n _ fs st h
  | outgrown=>exact Bl n _ fs st h
 | n+1,.inr e,.bl id::fs,st,h=>by
  cases e with
  | normal=>exact Bl n _ fs st h
  | exit i=>
   cases hb:Nat.beq i id with
   | true=>
    obtain rfl:=Bu hb;simp only[DC,hb]at h;exact RA (Bl n _ fs st h)
   | false=>
    simp only[DC,hb]at h;exact QZ hb (Bl n _ fs st h)
  | goto l=>exact Bl n _ fs st h
  | ret=>exact Bl n (.inr .ret) fs st h
  | panic c=>exact Bl n _ fs st h
  | outgrown=>exact Bl n _ fs st h
 | n+1,.inr e,.ag c m::fs,st,h=>by
  cases e with
  | normal=>
   cases m with
   | zero=>exact h
   | succ m=>exact .inl ⟨rfl,Bl n (.inl c) _ st h⟩
  | exit i=>exact .inr ⟨(by intro hh;cases hh),Bl n _ fs st h⟩
  | goto l=>exact .inr ⟨(by intro hh;cases hh),Bl n _ fs st h⟩
  | ret=>exact .inr ⟨(by intro hh;cases hh),Bl n (.inr .ret) fs st h⟩
  | panic ch=>exact .inr ⟨(by intro hh;cases hh),Bl n _ fs st h⟩
  | outgrown=>exact .inr ⟨(by intro hh;cases hh),Bl n _ fs st h⟩
theorem Hu{n:Nat}{c:Code}{fs:List dr}{st:St}(h:GG P Γ K (DC n (.inl c) fs) st):Rr P Γ c (dm P Γ K fs) st:=Bl n _ fs st h
theorem Sk{n:Nat}{e:Exit}{fs:List dr}{st:St}(h:GG P Γ K (DC n (.inr e) fs) st):dm P Γ K fs e st:=Bl n _ fs st h
def e9(c:Code)(fs:List dr):J0:=DC 400 (.inl c) fs
def mG(e:Exit)(fs:List dr):J0:=DC 400 (.inr e) fs
def fU:J0->J0
 | .run _ fs=>mG .normal fs
 | x=>x
def fb:J0->Option (List Oper×Bool)
 | .run (.region _ ops draw) _=>some (ops.toList,draw)
 | _=>none
def dl(P:Program)(S:V5)(n:Nat)(cs:List (Nat×AV))(live names:List Nat)(x:J0)(st:St)(rs:List Rq):Option (St×List Prop×Bool):=
 match fb x with
 | some (ops,draw)=>AY P S n cs live names ops draw st rs
 | none=>none
def fV(P:Program)(S:V5)(n:Nat)(cs:List (Nat×AV))(live names:List Nat)(x:J0)(st:St)(rs:List Rq):St:=
 match dl P S n cs live names x st rs with
 | some r=>r.1
 | none=>st
def dn(r:Option (St×List Prop×Bool)):Option (Prop×Bool):=
 match r with
 | some r=>some (MM r.2.1,r.2.2)
 | none=>none
theorem gR{x:J0}{st:St}{n:Nat}{H:List (Nat×Own)}(q:RgQ P Γ n H)(live names:List Nat)(cs:List (Nat×AV))(rs:List Rq){O:Prop}(hO:O)
  (k:GG P Γ K (fU x) (fV P (Spec P) n cs live names x st rs))
  (h:dn (dl P (Spec P) n cs live names x st rs)=some (O,true):=by kernel_rfl) (hh:(H.all λx=>Cc x.1 names)=true:=by kernel_rfl):GG P Γ K x st:=by
 unfold dl at h;unfold fV dl at k
 cases x with
 | out e fs=>simp[fb,dn]at h
 | run c fs=>
  cases c with
  | region id ops draw=>
   simp only[fb]at h k
   cases hr:AY P _ n cs _ _ _ _ st rs with
   | none=>rw[hr]at h;simp[dn]at h
   | some r=>
    obtain⟨st',obs,d⟩:=r;rw[hr]at h k;obtain⟨rfl,rfl⟩:=h;have:=QX (id:=id)  q.hn q.mix (q.hand hh) hr hO (Sk k);exact(by simpa using this:Rr P Γ _ _ st)
  | _=>simp[fb,dn]at h
theorem Aq{x:J0}{st:St}{n:Nat}{H:List (Nat×Own)}(q:RgQ P Γ n H)(live names:List Nat)
  (k:GG P Γ K (fU x) (fV P (Spec P) n [] live names x st []))
  (h:dn (dl P (Spec P) n [] live names x st [])=some (True,true):=by kernel_rfl) (hh:(H.all λx=>Cc x.1 names)=true:=by kernel_rfl):GG P Γ K x st:=gR q _ _ [] [] trivial k h hh
def g7:J0->Bool | .run _ _=>true|_=>false
theorem M1{x:J0}{st st':St}(h:Le Γ st st')
  (k:GG P Γ K x st')
  (hx:g7 x=true:=by kernel_rfl):GG P Γ K x st:=by
 cases x with
 | run c fs=>exact QW h k
 | out e fs=>cases hx
theorem Tt{x:J0}{st:St}(st':St)
  (k:GG P Γ K x st')
  (h:st=st':=by kernel_rfl):GG P Γ K x st:=h▸k
def gq(x:J0)(st:St):AV:=match x with | .run (.cond c _ _) _=>RI st.get c|_=>.any
def mE(b:Bool):J0->J0
 | .run (.cond _ c d) fs=>e9 (bif b then c else d) fs
 | x=>x
theorem gC{x:J0}{st:St}{R:Type}{b:Bool}{m1 m2:Option R}{r:R}(h:(bif b then m1 else m2)=some r)
  (kt:m1=some r->GG P Γ K (mE true x) st) (kf:m2=some r->GG P Γ K (mE false x) st)
  (hv:gq x st = .bool b:=by kernel_rfl):GG P Γ K x st:=by
 cases x with
 | out e fs=>cases hv
 | run c fs=>
  cases c with
  | cond c y z=>
   refine MC b hv (λhb=>Hu  (kt ?_)) (λhb=>Hu  (kf ?_))
   ·subst hb;exact h
   ·subst hb;exact h
  | _=>cases hv
theorem WZ{x:J0}{st:St}(b:Bool)
  (k:GG P Γ K (mE b x) st)
  (hv:gq x st = .bool b:=by kernel_rfl):GG P Γ K x st:=by
 cases x with
 | out e fs=>cases hv
 | run c fs=>
  cases c with
  | cond c y z=>
   refine MC b hv (λhb=>Hu (n:=400) ?_) (λhb=>Hu (n:=400) ?_)
   ·subst hb;exact k
   ·subst hb;exact k
  | _=>cases hv
theorem lt1{P:Nat->Prop}(h0:P 0)(i:Nat)(h:i<1):P i:=by
 grind
theorem rk(o:Own):some o=some o:=rfl
theorem gK{x:J0}{st:St}{e:Exit}(h:K e st)(hx:x = .out e []:=by kernel_rfl):GG P Γ K x st:=by subst hx;exact h
def aG(Γ:Gs)(e0:Exit)(og:St):Exit->St->Prop:=λe st=>e=e0/\Le Γ st og
def aR(K:Exit->St->Prop):Exit->St->Prop:=λe st=>e = .ret/\K e st
theorem Ed{e0:Exit}{og st:St}(h:Le Γ st og):aG Γ e0 og e0 st:=⟨rfl,h⟩
theorem R0{st:St}(h:K .ret st):aR K .ret st:=⟨rfl,h⟩
def nH:Exit->Bool | .normal=>true|_=>false
theorem gN{S X:Type}{x:J0}{st:St}{H:S->St}{KX:X->Exit->St->Prop}{s':S}(h:Le Γ st (H s'))(hx:x = .out .normal []:=by kernel_rfl):GG P Γ (Md Γ H KX (.next s')) x st:=by
 subst hx;exact⟨rfl,h⟩
theorem gO{S X:Type}{x:J0}{st:St}{H:S->St}{KX:X->Exit->St->Prop}{y:X}{e:Exit}(h:KX y e st)(hx:x = .out e []:=by kernel_rfl)(hn:nH e=false:=by kernel_rfl):GG P Γ (Md Γ H KX (.done y)) x st:=by
 subst hx;exact⟨(by rintro rfl;cases hn),h⟩
def fK(P:Program)(Γ:Gs)(rs:List ResultVar)(H:List (Nat×Own))(res:AV)(H':List (Nat×Own)):Exit->St->Prop:=mn Γ (kg P rs H res H')
theorem K3{rs:List ResultVar}{H H':List (Nat×Own)}{res:AV}{st st':St}{e:Exit}(ρ:List (Nat×Nat))(hl:Le Γ st st')(hr:UX P rs ρ H st'=some (res,H'):=by kernel_rfl)
  (he:(match e with | .ret=>true | .normal=>true|_=>false)=true:=by kernel_rfl):fK P Γ rs H res H' e st:=by
 refine⟨st',hl,?_,ρ,hr⟩
 cases e with
 | ret=>exact .inl rfl
 | normal=>exact .inr rfl
 | _=>cases he
theorem C3{rs:List ResultVar}{H H':List (Nat×Own)}{res:AV}{x:J0}{st:St}(ρ:List (Nat×Nat))(hr:UX P rs ρ H st=some (res,H'):=by kernel_rfl)
  (hx:x = .out .ret []:=by kernel_rfl):GG P Γ (fK P Γ rs H res H') x st:=gK  (K3 ρ (Le.refl _ _) hr) hx
def JM(fn:Func):Code:=match fn.body with|some c=>c|none=>.skip
theorem Yq {f : FuncId} {fn : Func} {args : List AV} {H H' : List (Nat × Own)} {res : AV} (hm : P.follows .mixedOrders = true) (hf : P.funcs[f]? = some fn)
    (k : ∀ Γ : Gs, RgQ P Γ fn.ntmps H → GG P Γ (fK P Γ fn.results.toList H res H') (e9 (JM fn) []) (X4 args H))
    (hb : fn.body.isSome = true := by kernel_rfl) (hname : (fn.name == "runtime.NumGoroutine") = false := by kernel_rfl) (hlen : Nat.ble args.length fn.ntmps = true := by kernel_rfl) (hpl : DS H = true := by kernel_rfl) : Spec P f args H res H' := by
  obtain ⟨c, hc⟩ := zzL73.1 hb
  have e : JM fn = c := by unfold JM; rw [hc]
  refine OW hf hc hname hlen (fun Γ hn hΓ => ?_) hpl; have := k Γ ⟨hn, hm, hΓ⟩; rw [e] at this; exact ic (Hu this)
theorem bq{st st':St}(h:st=st'):Le Γ st st':=h▸Le.refl Γ st
def RN:J0->Bool | .run (.loop _) _=>true|_=>false
def gp:J0->J0
 | .run (.loop c) _=>e9 c []
 | x=>x
def cQ(e:Exit):J0->J0
 | .run _ fs=>mG e fs
 | x=>x
def kX{α:Type}(k:Nat)(x:α):List (Nat×α)->List (Nat×α)
 | []=>[(k,x)]
 | (k',y)::l=>bif Nat.beq k k' then(k,x)::l else bif Nat.blt k k' then(k,x)::(k',y)::l else(k',y)::kX k x l
def fg{α:Type}:List (Nat×α)->List (Nat×α)->List (Nat×α)
 | [],l=>l
 | (k,x)::r,l=>fg r (kX k x l)
def Fv(st:St)(ts:List (Nat×AV))(os:List (Nat×Own))(fs:List (Nat×YO):=[]):St:=⟨fg ts st.tmps,fg os st.own,fg fs st.fam⟩
def Xv(live names:List Nat)(st:St)(ts:List (Nat×AV))(os:List (Nat×Own))(fs:List (Nat×YO):=[]):St:=A2 live names (Fv st ts os fs)
theorem gL{S X:Type}{x:J0}{st:St}{n:Nat}{Hf:List (Nat×Own)}(q:RgQ P Γ n Hf){f:S->Option (LR S X)}{s0:S}{y:X}(hx:Aj f s0=some y)(live names:List Nat)(H:St->S->St)(KX:St->X->Exit->St->Prop)
  (kb:∀ s y,f s=some y->GG P Γ (Md Γ (H (A2 live names st)) (KX (A2 live names st)) y) (gp x) (H (A2 live names st) s)) (ko:∀ e st',KX (A2 live names st) y e st'->GG P Γ K (cQ e x) st')
  (h0:A2 live names st=H (A2 live names st) s0:=by kernel_rfl) (hl:RN x=true:=by kernel_rfl) (hh:(Hf.all λx=>Cc x.1 names)=true:=by kernel_rfl):GG P Γ K x st:=by
 cases x with
 | out e fs=>cases hl
 | run c fs=>
  cases c with
  | loop c=>
   refine QW  ?_ (ap _ f _ (λs y hy=>Hu (kb s y hy)) hx λe st' hk=>Sk (ko e st' hk));rw[<- h0];exact Dw _ _ q rfl hh
  | _=>cases hl
theorem gA{x:J0}{f:Exit->J0->J0}{e0:Exit}{og:St}
  (k:GG P Γ K (f e0 x) og)
  (hr:g7 (f e0 x)=true:=by kernel_rfl):∀ e st',aG Γ e0 og e st'->GG P Γ K (f e x) st':=by
 rintro e st' ⟨rfl,hl⟩;exact M1 hl k hr
theorem gy{x:J0}{f:Exit->J0->J0}{e0:Exit}{og:St}(k:∀ st',Le Γ st' og->GG P Γ K (f e0 x) st'):∀ e st',aG Γ e0 og e st'->GG P Γ K (f e x) st':=by
 rintro e st' ⟨rfl,hl⟩;exact k st' hl
theorem V1{x:J0}{f:Exit->J0->J0}{K':Exit->St->Prop}(k:∀ st',K' .ret st'->GG P Γ K (f .ret x) st'):∀ e st',aR K' e st'->GG P Γ K (f e x) st':=by
 rintro e st' ⟨rfl,hl⟩;exact k st' hl
theorem gU{x:J0}{st:St}(n:Nat)
  (k:GG P Γ K (match x with | .run (.loop c) fs=>e9 c (.ag c n::fs)|x=>x) st)
  (hl:RN x=true:=by kernel_rfl):GG P Γ K x st:=by
 cases x with
 | out e fs=>cases hl
 | run c fs=>
  cases c with
  | loop c=>exact QY (n+1) (Hu k)
  | _=>cases hl
def kR:J0->Bool | .run (.seq _ _) _=>true|_=>false
def kP:J0->J0
 | .run (.seq a _) _=>e9 a []
 | x=>x
def ka(e:Exit):J0->J0
 | .run (.seq _ b) fs=>mG e (.nx b::fs)
 | x=>x
theorem gJ{X:Type}{x:J0}{st:St}{m:Option X}{y:X}(hx:m=some y)(KX:X->Exit->St->Prop)
  (kb:∀ y,m=some y->GG P Γ (KX y) (kP x) st) (ko:∀ e st',KX y e st'->GG P Γ K (ka e x) st')
  (hs:kR x=true:=by kernel_rfl):GG P Γ K x st:=by
 cases x with
 | out e fs=>cases hs
 | run c fs=>
  cases c with
  | seq a b=>exact JL (ao KX hx (λy hy=>Hu (kb y hy)) λe st' hk=>Sk (ko e st' hk))
  | _=>cases hs
def fD:J0->Bool | .run (.scope _) _=>true|_=>false
def kh:J0->Code | .run (.scope c) _=>c|_=>.skip
def kS(c:Code)(l:Nat):J0:=e9 ((findLabel c l).getD .skip) []
theorem gS{S X:Type}{x:J0}{st:St}{f0:Option (LR S X)}{f:S->Option (LR S X)}{y:X}(hx:O6 f0 f=some y)(lab:S->Nat)(H:S->St)(KX:X->Exit->St->Prop)
  (k0:∀ y,f0=some y->GG P Γ (CQ Γ (kh x) lab H KX y) (e9 (kh x) []) st) (kb:∀ s y,f s=some y->GG P Γ (CQ Γ (kh x) lab H KX y) (kS (kh x) (lab s)) (H s)) (ko:∀ e st',KX y e st'->GG P Γ K (cQ e x) st')
  (hs:fD x=true:=by kernel_rfl):GG P Γ K x st:=by
 cases x with
 | out e fs=>cases hs
 | run c fs=>
  cases c with
  | scope c=>
   refine WI lab H f0 f KX (λy hy=>Hu (k0 y hy)) (λs y rest hf hy=>?_) hx λe st' hk=>Sk (ko e st' hk);have:=kb s y hy;unfold kS kh at this;rw[hf]at this;exact Hu this
  | _=>cases hs
theorem et{S X:Type}{x:J0}{st:St}{c:Code}{lab:S->Nat}{H:S->St}{KX:X->Exit->St->Prop}{s':S}(h:Le Γ st (H s'))(hx:x = .out (.goto (lab s')) []:=by kernel_rfl)(hf:(findLabel c (lab s')).isSome=true:=by kernel_rfl) :
  GG P Γ (CQ Γ c lab H KX (.next s')) x st:=by
 subst hx;exact⟨rfl,hf,h⟩
theorem gz{S X:Type}{x:J0}{st:St}{c:Code}{lab:S->Nat}{H:S->St}{KX:X->Exit->St->Prop}{y:X}{e:Exit}(h:KX y e st)(hx:x = .out e []:=by kernel_rfl)
  (hf:(match e with | .goto l=>(findLabel c l).isNone|_=>true)=true:=by kernel_rfl):GG P Γ (CQ Γ c lab H KX (.done y)) x st:=by
 subst hx;refine⟨?_,h⟩;rintro l rfl
 simpa using hf
theorem Sf{α:Type}{st:St}(U:α->St->St){a b:α}(h:a=b)(h1:st=U a st:=by kernel_rfl):Le Γ st (U b st):=by subst h;exact bq h1
theorem mI{st:St}(F F':Bool->St->St)(g:Bool)(h1:st=F g st:=by kernel_rfl)(ht:F true st=F' true st:=by kernel_rfl)(hf:F false st=F' false st:=by kernel_rfl):Le Γ st (F' g st):=by
 refine bq (h1.trans ?_)
 cases g<;>assumption
def Own.withF(g:Nat->List AV):Own->Own
 | .arr sz e n _=>.arr sz e n g
 | o=>o
def gn(st:St)(nm:Nat):Option (Nat×(Nat->List AV)):=match Ac st.own nm with|some (.arr _ _ n f)=>some (n,f)|_=>none
def kl(nm:Nat)(g:Nat->List AV)(st:St):St:=⟨st.tmps,(match Ac st.own nm with|some o=>Co st.own nm (o.withF g)|none=>st.own),st.fam⟩
theorem DO{nm sz n:Nat}{e:TypeId}{f g:Nat->List AV}(hp:∀ k,k<n->AVleL (f k) (g k)):∀{l:List (Nat×Own)},Ac l nm=some (.arr sz e n f)->OwnsLe l (Co l nm (.arr sz e n g))
 | [],h=>by cases h
 | (k,o)::l,h=>by
  simp only[Ac]at h;simp only[Co]
  cases hb:Nat.beq k nm with
  | true=>
   obtain rfl:=Bu hb;rw[hb]at h;simp only[Ae,Af]at h;subst h;exact .arr hp (.refl _)
  | false=>
   rw[hb]at h;exact .same (DO hp h)
theorem Wl{st:St}(nm:Nat){n:Nat}{f g:Nat->List AV}(hp:∀ k,k<n->AVleL (f k) (g k))(h:gn st nm=some (n,f):=by kernel_rfl):Le Γ st (kl nm g st):=by
 unfold gn at h;unfold kl
 cases ho:Ac _ nm with
 | none=>rw[ho]at h;cases h
 | some o=>
  rw[ho]at h
  cases o with
  | arr sz e n' f'=>
   obtain⟨rfl,rfl⟩:=h;exact Kj (TmpsLe.refl _) (DO hp ho)
  | _=>cases h
def bG(st:St)(nm j:Nat):Option AV:=match Ac st.own nm with|some (.row _ cells)=>cells[j]? | _=>none
def Own.withC(j:Nat)(x:AV):Own->Own
 | .row e cells=>.row e (cells.set j x)
 | o=>o
def kj(nm j:Nat)(x:AV)(st:St):St:=⟨st.tmps,(match Ac st.own nm with|some o=>Co st.own nm (o.withC j x)|none=>st.own),st.fam⟩
theorem UK{a b:AV}(h:AVle a b):∀{l:List AV} {j:Nat},l[j]?=some a->AVleL l (l.set j b)
 | [],j,h=>by simp at h
 | x::l,0,h'=>by
  simp only[List.getElem?_cons_zero,Af]at h';subst h';exact .cons h (.refl _)
 | x::l,j+1,h'=>by
  exact .cons (.refl _) (UK h h')
theorem DP{nm:Nat}{e:TypeId}{x y:List AV}(hp:AVleL x y):∀{l:List (Nat×Own)},Ac l nm=some (.row e x)->OwnsLe l (Co l nm (.row e y))
 | [],h=>by cases h
 | (k,o)::l,h=>by
  simp only[Ac]at h;simp only[Co]
  cases hb:Nat.beq k nm with
  | true=>
   obtain rfl:=Bu hb;rw[hb]at h;simp only[Ae,Af]at h;subst h;exact .row hp (.refl _)
  | false=>
   rw[hb]at h;exact .same (DP hp h)
theorem fF{st:St}(nm j:Nat){a b:AV}(hp:AVle a b)(h:bG st nm j=some a:=by kernel_rfl):Le Γ st (kj nm j b st):=by
 unfold bG at h;unfold kj
 cases ho:Ac _ nm with
 | none=>rw[ho]at h;cases h
 | some o=>
  rw[ho]at h
  cases o with
  | row e cells=>exact Kj (TmpsLe.refl _) (DP (UK hp h) ho)
  | _=>cases h
theorem XR{V:Type}:HL ([]:List (Int×V)) []:=⟨.nil,List.nodup_nil⟩
def iB(nm:Nat)(x:AObj)(st:St):St:=⟨st.tmps,Co st.own nm (.obj x),st.fam⟩
theorem mo{V:Type}{st:St}(nm:Nat)(nn:Bool)(k:IntKind){f:V->AV}{a b:List (Int×V)}(hp:HL a b)(h:Ac st.own nm=some (.obj (.map nn k (mapE f a))):=by kernel_rfl)(hlt:Nat.blt nm A8=true:=by kernel_rfl):Le Γ st (iB nm (.pmap nn k (mapE f b)) st):=
 JX _ h (λ_ _ _ _ h=>RX hp h) hlt
theorem nI{st:St}(nm:Nat)(k:IntKind)(l:List (Int×AV))(h:Ac st.own nm=some (.obj (.pmap true k l)):=by kernel_rfl)(hlt:Nat.blt nm A8=true:=by kernel_rfl):Le Γ st (iB nm (.pmap false k l) st):=
 JX _ h (λ_ _ _ _ h=>XN h) hlt
theorem gI(g:Bool):g=true->g=true:=id
theorem Nt(c:Bool):c=true->(c==true)=true:=gT
theorem Sb(c:Bool):c=false->(c==false)=true:=gF
theorem Bq{α:Type}(sz:Nat)(e:α->List AV)(d:α)(l:List α):AVle (.slice sz l.length (λi=>(l.map e).getD i []) .exact) (AV.list sz e d l .exact):=ib rfl λi h=>fL l i h
theorem It{α:Type}(sz:Nat)(e:α->List AV)(d:α):AVle (.slice 0 0 (λ_=>[]) .exact) (AV.list sz e d [] .exact):=D1
theorem V8{α:Type}(sz nm:Nat)(e:α->List AV)(d:α)(l m:List α):AVle (.slice sz (l.length+m.length) (Jf l.length (λi=>e (l.getD i d)) (λi=>e (m.getD i d))) (.own nm)) (AV.list sz e d (l++m) (.own nm)):=ia
def bu(x:J0)(ix tx bx:Nat):Bool:=
 match x with
 | .run (.loop (.seq (.region _ ops false) _)) _=>
  match ops.toList with
  | [o1,o2]=>
   (match o1.op,o2.op with | .next (.tmp a) false,.extract (.tmp b) 0=>Nat.beq a ix&&Nat.beq b tx|_,_=>false) &&
   (match o1.dst,o2.dst,o1.guard,o2.guard with|some a,some b,none,none=>Nat.beq a tx&&Nat.beq b bx|_,_,_,_=>false)
  | _=>false
 | _=>false
def BG:J0->J0
 | .run (.loop (.seq _ c)) _=>e9 c []
 | x=>x
theorem nG{S X:Type}{x:J0}{st:St}{n:Nat}{Hf:List (Nat×Own)}(q:RgQ P Γ n Hf){len:Nat}{f:Nat->S->Option (LR S X)}{g:S->Option (LR S X)}{s0:S}(Q:X->Prop)(hx:∀ τ:List Nat,τ.Perm (List.range len)->∃ x,Sz f g τ s0=some x/\Q x)(live names:List Nat)(H:St->List Nat->S->St)(KX:St->X->Exit->St->Prop)
  (ix tx bx nm mm:Nat) (nn:Bool) (km:IntKind) (l:List (Int×AV)) (lv2 nm2:List Nat)
  (h0:A2 live names st=H (A2 live names st) [] s0:=by kernel_rfl) (hc:bu x ix tx bx=true:=by kernel_rfl) (hb:(Nat.blt tx n&&(Nat.blt bx n&&(Nat.blt nm A8&&Nat.blt mm A8)))=true:=by kernel_rfl)
  (hit:(λz s=>(H (A2 live names st) z s).get ix)=(λ_ _=>AV.optr nm mm):=by kernel_rfl) (hmi:(λz s=>Ac (H (A2 live names st) z s).own nm)=(λz _=>some (.obj (.miter (.omap mm) len z))):=by kernel_rfl)
  (hma:(λz s=>Ac (H (A2 live names st) z s).own mm)=(λ_ _=>some (.obj (.map nn km l))):=by kernel_rfl) (hlen:len=l.length:=by kernel_rfl) (hh:(Hf.all λx=>Cc x.1 names)=true:=by kernel_rfl) (hh2:(Hf.all λx=>Cc x.1 nm2)=true:=by kernel_rfl)
  (kd:∀ z s y,g s=some y->(∀ i,i<len->i∈z)->GG P Γ (Md Γ (H (A2 live names st) z) (KX (A2 live names st)) y) (BG x) (A2 lv2 nm2 (((H (A2 live names st) z s).upd (some tx) (.tuple [.bool false]) []).upd (some bx) (.bool false) [])))
  (kn:∀ z s i y,f i s=some y->i<len->i∉z->GG P Γ (Md Γ (H (A2 live names st) (i::z)) (KX (A2 live names st)) y) (BG x)
   (A2 lv2 nm2 (((H (A2 live names st) z s).upd (some tx) (.tuple [.bool true,.int km (l.getD i (0,.any)).1,(l.getD i (0,.any)).2]) [(nm,.obj (.miter (.omap mm) len (i::z)))]).upd (some bx) (.bool true) [])))
  (ko:∀ y,Q y->∀ e st',KX (A2 live names st) y e st'->GG P Γ K (cQ e x) st'):GG P Γ K x st:=by
 unfold bu at hc
 split at hc
 ·rename_i id ops rest fs
  split at hc
  ·rename_i o1 o2 hops
   obtain rfl:ops = #[o1,o2]:=by grind
   simp only[A4]at hc;obtain⟨c1,c2⟩:=hc
   split at c1
   ·rename_i a b e1 e2
    split at c2
    ·rename_i a' b' e3 e4 e5 e6
     simp only[A4]at c1 c2;obtain rfl:=Bu c1.1;obtain rfl:=Bu c1.2;obtain rfl:=Bu c2.1;obtain rfl:=Bu c2.2;refine QW  ?_ (MD Q len (H (A2 live names st)) f g _ (λz s hg hf=>?_) hx λy hy e st' hk=>Sk (ko y hy e st' hk))
     ·rw[<- h0];exact Dw _ _ q rfl hh
     refine JL (WH q lv2 nm2 e1 e3 e5 e2 e4 e6 hb (congrFun (congrFun hit z) s) (congrFun (congrFun hmi z) s) (congrFun (congrFun hma z) s) hlen hh2 (λhall=>?_) (λi hi hn=>?_))
     ·obtain⟨y,h⟩:=hg hall;exact CB (Hu (kd z s y h hall)) (λe st' hk=>.inl ⟨y,h,hk,hall⟩)
     ·obtain⟨y,h⟩:=hf i hi hn;exact CB (Hu (kn z s i y h hi hn)) (λe st' hk=>.inr ⟨i,y,h,hk,hi,hn⟩)
    ·cases c2
   ·cases c1
  ·cases hc
 ·cases hc
theorem nF{S X:Type}{x:J0}{st:St}{n:Nat}{Hf:List (Nat×Own)}(q:RgQ P Γ n Hf){len:Nat}{f:Nat->S->Option (LR S X)}{g:S->Option (LR S X)}{s0:S}{eqv:X->X->Prop}{y:X}(hx:Vq eqv len f g s0=some y)(live names:List Nat)(H:St->List Nat->S->St)(KX:St->X->Exit->St->Prop)
  (ix tx bx nm mm:Nat) (nn:Bool) (km:IntKind) (l:List (Int×AV)) (lv2 nm2:List Nat)
  (h0:A2 live names st=H (A2 live names st) [] s0:=by kernel_rfl) (hc:bu x ix tx bx=true:=by kernel_rfl) (hb:(Nat.blt tx n&&(Nat.blt bx n&&(Nat.blt nm A8&&Nat.blt mm A8)))=true:=by kernel_rfl)
  (hit:(λz s=>(H (A2 live names st) z s).get ix)=(λ_ _=>AV.optr nm mm):=by kernel_rfl) (hmi:(λz s=>Ac (H (A2 live names st) z s).own nm)=(λz _=>some (.obj (.miter (.omap mm) len z))):=by kernel_rfl)
  (hma:(λz s=>Ac (H (A2 live names st) z s).own mm)=(λ_ _=>some (.obj (.map nn km l))):=by kernel_rfl) (hlen:len=l.length:=by kernel_rfl) (hh:(Hf.all λx=>Cc x.1 names)=true:=by kernel_rfl) (hh2:(Hf.all λx=>Cc x.1 nm2)=true:=by kernel_rfl)
  (kd:∀ z s y,g s=some y->(∀ i,i<len->i∈z)->GG P Γ (Md Γ (H (A2 live names st) z) (KX (A2 live names st)) y) (BG x) (A2 lv2 nm2 (((H (A2 live names st) z s).upd (some tx) (.tuple [.bool false]) []).upd (some bx) (.bool false) [])))
  (kn:∀ z s i y,f i s=some y->i<len->i∉z->GG P Γ (Md Γ (H (A2 live names st) (i::z)) (KX (A2 live names st)) y) (BG x)
   (A2 lv2 nm2 (((H (A2 live names st) z s).upd (some tx) (.tuple [.bool true,.int km (l.getD i (0,.any)).1,(l.getD i (0,.any)).2]) [(nm,.obj (.miter (.omap mm) len (i::z)))]).upd (some bx) (.bool true) [])))
  (ko:∀ y',eqv y' y->∀ e st',KX (A2 live names st) y' e st'->GG P Γ K (cQ e x) st'):GG P Γ K x st:=
 nG q _ (Zp hx) _ _ H KX ix tx bx nm mm nn km l lv2 nm2 h0 hc hb hit hmi hma hlen hh hh2 kd kn ko
theorem Nu{st st':St}(h:st=st':=by kernel_rfl):Le Γ st st':=h▸Le.refl Γ st
theorem ci{p q:Prop}(a:p)(b:q):p/\q:=⟨a,b⟩
theorem c1{p:Prop}(a:p):p/\True:=⟨a,trivial⟩
end
section
variable {P:Program} {Γ:Gs} {K:Exit->St->Prop}
theorem tB{α β:Type}{m:Option α}{f:α->Option β}{r:β}{G:Prop}(h:m.bind f=some r)(k:∀ x,m=some x->f x=some r->G):G:=have⟨x,hx,h⟩:=bind_some h;k x hx h
theorem tC{β:Type}{c:Prop}[Decidable c]{m:Option β}{r:β}{G:Prop}(h:Cs c m=some r)(k:c->m=some r->G):G:=k (M8 h).1 (M8 h).2
@[elab_as_elim] theorem tS{α:Type}{a:α}{M:α->Prop}{b:α}(h:some a=some b)(k:M a):M b:=OI h▸k
theorem tV{x:J0}{st:St}{n:Nat}{H:List (Nat×Own)}(q:RgQ P Γ n H)(live names:List Nat){β:Type}{c:Prop}[Decidable c]{m:Option β}{r:β}(h:Cs c m=some r)
  (k:m=some r->GG P Γ K (fU x) (fV P (Spec P) n [] live names x st []))
  (h1:dn (dl P (Spec P) n [] live names x st [])=some (c/\True,true):=by kernel_rfl) (hh:(H.all λx=>Cc x.1 names)=true:=by kernel_rfl):GG P Γ K x st:=gR q live names [] [] (c1 (M8 h).1) (k (M8 h).2) h1 hh
theorem tN{S X:Type}{x:J0}{st:St}{H:S->St}{KX:X->Exit->St->Prop}{s':S}{y:LR S X}(h:some (.next s')=some y)(h1:st=H s':=by kernel_rfl)(hx:x = .out .normal []:=by kernel_rfl):GG P Γ (Md Γ H KX y) x st:=OI h▸gN (Nu h1) hx
theorem tL{S X α:Type}{x:J0}{st:St}{n:Nat}{Hf:List (Nat×Own)}(q:RgQ P Γ n Hf){f:S->Option (LR S X)}{s0:S}{g:X->Option α}{r:α}(h:(Aj f s0).bind g=some r)(live names:List Nat)(H:St->S->St)(KX:St->X->Exit->St->Prop)
  (kb:∀ s y,f s=some y->GG P Γ (Md Γ (H (A2 live names st)) (KX (A2 live names st)) y) (gp x) (H (A2 live names st) s)) (ko:∀ y,g y=some r->∀ e st',KX (A2 live names st) y e st'->GG P Γ K (cQ e x) st')
  (h0:A2 live names st=H (A2 live names st) s0:=by kernel_rfl) (hl:RN x=true:=by kernel_rfl) (hh:(Hf.all λx=>Cc x.1 names)=true:=by kernel_rfl):GG P Γ K x st:=tB h λy hy h=>gL q hy live names H KX kb (ko y h) h0 hl hh
theorem tU{x:J0}{st:St}{n:Nat}{H:List (Nat×Own)}(q:RgQ P Γ n H)(live names:List Nat){O:Prop}(hO:O)
  (k:GG P Γ K (fU x) (fV P (Spec P) n [] live names x st []))
  (h:dn (dl P (Spec P) n [] live names x st [])=some (O,true):=by kernel_rfl) (hh:(H.all λx=>Cc x.1 names)=true:=by kernel_rfl):GG P Γ K x st:=gR q live names [] [] hO k h hh
theorem tT{x:J0}{st:St}{n:Nat}{H:List (Nat×Own)}(q:RgQ P Γ n H)(live names:List Nat)(rs:List Rq){O:Prop}(hO:O)
  (k:GG P Γ K (fU x) (fV P (Spec P) n [] live names x st rs))
  (h:dn (dl P (Spec P) n [] live names x st rs)=some (O,true):=by kernel_rfl) (hh:(H.all λx=>Cc x.1 names)=true:=by kernel_rfl):GG P Γ K x st:=gR q live names [] rs hO k h hh
theorem tW{x:J0}{st:St}{n:Nat}{H:List (Nat×Own)}(q:RgQ P Γ n H)(live names live2 names2:List Nat)
  (k:GG P Γ K (fU (fU x)) (fV P (Spec P) n [] live2 names2 (fU x) (fV P (Spec P) n [] live names x st []) []))
  (h:dn (dl P (Spec P) n [] live names x st [])=some (True,true):=by kernel_rfl) (hh:(H.all λx=>Cc x.1 names)=true:=by kernel_rfl)
  (h2:dn (dl P (Spec P) n [] live2 names2 (fU x) (fV P (Spec P) n [] live names x st []) [])=some (True,true):=by kernel_rfl) (hh2:(H.all λx=>Cc x.1 names2)=true:=by kernel_rfl):GG P Γ K x st:=Aq q live names (Aq q live2 names2 k h2 hh2) h hh
end
theorem Tu{R:Prop}(g:Bool)(r:R):(g=true->g=true)/\((g=true->g=true)/\(R)):=⟨id,⟨id,r⟩⟩
theorem QE{R:Prop}(g:Bool)(r:R):(g=true->g=true)/\((g=true->g=true)/\((g=true->g=true)/\(R))):=⟨id,⟨id,⟨id,r⟩⟩⟩
theorem jm{R:Prop}(g:Bool)(r:R):(g=true->g=true)/\((g=true->g=true)/\((g=true->g=true)/\((g=true->g=true)/\(R)))):=⟨id,⟨id,⟨id,⟨id,r⟩⟩⟩⟩
theorem kO{R:Prop}(g:Bool)(r:R):(g=true->g=true)/\((g=true->g=true)/\((g=true->g=true)/\((g=true->g=true)/\((g=true->g=true)/\(R))))):=⟨id,⟨id,⟨id,⟨id,⟨id,r⟩⟩⟩⟩⟩
theorem nB{R:Prop}(g:Bool)(r:R):(g=true->g=true)/\((g=true->g=true)/\((g=true->g=true)/\((g=true->g=true)/\((g=true->g=true)/\((g=true->g=true)/\(R)))))):=⟨id,⟨id,⟨id,⟨id,⟨id,⟨id,r⟩⟩⟩⟩⟩⟩
theorem nC{R:Prop}(g:Bool)(r:R):(g=true->g=true)/\((g=true->g=true)/\((g=true->g=true)/\((g=true->g=true)/\((g=true->g=true)/\((g=true->g=true)/\((g=true->g=true)/\(R))))))):=⟨id,⟨id,⟨id,⟨id,⟨id,⟨id,⟨id,r⟩⟩⟩⟩⟩⟩⟩
theorem nD{R:Prop}(g:Bool)(r:R):(g=true->g=true)/\((g=true->g=true)/\((g=true->g=true)/\((g=true->g=true)/\((g=true->g=true)/\((g=true->g=true)/\((g=true->g=true)/\((g=true->g=true)/\(R)))))))):=⟨id,⟨id,⟨id,⟨id,⟨id,⟨id,⟨id,⟨id,r⟩⟩⟩⟩⟩⟩⟩⟩
theorem nE{R:Prop}(g:Bool)(r:R):(g=true->g=true)/\((g=true->g=true)/\((g=true->g=true)/\((g=true->g=true)/\((g=true->g=true)/\((g=true->g=true)/\((g=true->g=true)/\((g=true->g=true)/\((g=true->g=true)/\(R))))))))):=⟨id,⟨id,⟨id,⟨id,⟨id,⟨id,⟨id,⟨id,⟨id,r⟩⟩⟩⟩⟩⟩⟩⟩⟩
theorem YV{p0 p1 R:Prop}(a0:p0)(a1:p1)(r:R):p0/\p1/\R:=⟨a0,a1,r⟩
theorem c2{p0 p1:Prop}(a0:p0)(a1:p1):p0/\p1/\True:=⟨a0,a1,trivial⟩
theorem lR{p0 p1 p2 R:Prop}(a0:p0)(a1:p1)(a2:p2)(r:R):p0/\p1/\p2/\R:=⟨a0,a1,a2,r⟩
theorem c3{p0 p1 p2:Prop}(a0:p0)(a1:p1)(a2:p2):p0/\p1/\p2/\True:=⟨a0,a1,a2,trivial⟩
theorem m8{p0 p1 p2 p3 R:Prop}(a0:p0)(a1:p1)(a2:p2)(a3:p3)(r:R):p0/\p1/\p2/\p3/\R:=⟨a0,a1,a2,a3,r⟩
theorem c4{p0 p1 p2 p3:Prop}(a0:p0)(a1:p1)(a2:p2)(a3:p3):p0/\p1/\p2/\p3/\True:=⟨a0,a1,a2,a3,trivial⟩
theorem c5{p0 p1 p2 p3 p4:Prop}(a0:p0)(a1:p1)(a2:p2)(a3:p3)(a4:p4):p0/\p1/\p2/\p3/\p4/\True:=⟨a0,a1,a2,a3,a4,trivial⟩
theorem c6{p0 p1 p2 p3 p4 p5:Prop}(a0:p0)(a1:p1)(a2:p2)(a3:p3)(a4:p4)(a5:p5):p0/\p1/\p2/\p3/\p4/\p5/\True:=⟨a0,a1,a2,a3,a4,a5,trivial⟩
theorem m9{p0 p1 p2 p3 p4 p5 p6 R:Prop}(a0:p0)(a1:p1)(a2:p2)(a3:p3)(a4:p4)(a5:p5)(a6:p6)(r:R):p0/\p1/\p2/\p3/\p4/\p5/\p6/\R:=⟨a0,a1,a2,a3,a4,a5,a6,r⟩
theorem c7{p0 p1 p2 p3 p4 p5 p6:Prop}(a0:p0)(a1:p1)(a2:p2)(a3:p3)(a4:p4)(a5:p5)(a6:p6):p0/\p1/\p2/\p3/\p4/\p5/\p6/\True:=⟨a0,a1,a2,a3,a4,a5,a6,trivial⟩
theorem c8{p0 p1 p2 p3 p4 p5 p6 p7:Prop}(a0:p0)(a1:p1)(a2:p2)(a3:p3)(a4:p4)(a5:p5)(a6:p6)(a7:p7):p0/\p1/\p2/\p3/\p4/\p5/\p6/\p7/\True:=⟨a0,a1,a2,a3,a4,a5,a6,a7,trivial⟩
theorem lS{p0 p1 p2 p3 p4 p5 p6 p7 p8 R:Prop}(a0:p0)(a1:p1)(a2:p2)(a3:p3)(a4:p4)(a5:p5)(a6:p6)(a7:p7)(a8:p8)(r:R):p0/\p1/\p2/\p3/\p4/\p5/\p6/\p7/\p8/\R:=⟨a0,a1,a2,a3,a4,a5,a6,a7,a8,r⟩
structure mf(c:List AV)(o N sz:Nat)(f:Nat->List AV):Prop where
 get:∀ i,i<N->(c.drop (o+i*sz)).take sz=f i
open Go.Shelf
def MZ:Go.Shelf.Ren:=⟨fun|189=>157|125=>181|257=>180|128=>205|129=>206|294=>197|295=>198|296=>199|297=>200|298=>201|299=>202|216=>193|300=>203|301=>204|328=>220|329=>221|330=>222|331=>223|332=>224|215=>218|343=>230|n=>n,fun|28=>33|3=>3|46=>53|0=>0|51=>236|53=>23|4=>4|183=>231|182=>230|131=>217|5=>5|9=>9|218=>244|222=>248|228=>252|229=>133|n=>n,fun|n=>n⟩
theorem UJ:Go.Proofs.Lays.n189 Tryz.prog MZ:={
 mixed:=by kernel_rfl
 f125:=Tryz.func181.trans (B8 some (by kernel_rfl))
 f128:=Tryz.func205.trans (B8 some (by kernel_rfl))
 f129:=Tryz.func206.trans (B8 some (by kernel_rfl))
 f189:=Tryz.func157.trans (B8 some (by kernel_rfl))
 f215:=Tryz.func218.trans (B8 some (by kernel_rfl))
 f216:=Tryz.func193.trans (B8 some (by kernel_rfl))
 f257:=Tryz.func180.trans (B8 some (by kernel_rfl))
 f294:=Tryz.func197.trans (B8 some (by kernel_rfl))
 f295:=Tryz.func198.trans (B8 some (by kernel_rfl))
 f296:=Tryz.func199.trans (B8 some (by kernel_rfl))
 f297:=Tryz.func200.trans (B8 some (by kernel_rfl))
 f298:=Tryz.func201.trans (B8 some (by kernel_rfl))
 f299:=Tryz.func202.trans (B8 some (by kernel_rfl))
 f300:=Tryz.func203.trans (B8 some (by kernel_rfl))
 f301:=Tryz.func204.trans (B8 some (by kernel_rfl))
 f328:=Tryz.func220.trans (B8 some (by kernel_rfl))
 f329:=Tryz.func221.trans (B8 some (by kernel_rfl))
 f330:=Tryz.func222.trans (B8 some (by kernel_rfl))
 f331:=Tryz.func223.trans (B8 some (by kernel_rfl))
 f332:=Tryz.func224.trans (B8 some (by kernel_rfl))
 f343:=Tryz.func230.trans (B8 some (by kernel_rfl))
 t0:=Tryz.underlying0
 a0:=Tryz.isAgg0
 z0:=Tryz.sizeOf0
 v0:=Tryz.zeroValue0
 t3:=Tryz.underlying3
 a3:=Tryz.isAgg3
 z3:=Tryz.sizeOf3
 v3:=Tryz.zeroValue3
 t4:=Tryz.underlying4
 a4:=Tryz.isAgg4
 z4:=Tryz.sizeOf4
 v4:=Tryz.zeroValue4
 t5:=Tryz.underlying5
 a5:=Tryz.isAgg5
 z5:=Tryz.sizeOf5
 v5:=Tryz.zeroValue5
 t9:=Tryz.underlying9
 a9:=Tryz.isAgg9
 z9:=Tryz.sizeOf9
 v9:=Tryz.zeroValue9
 t28:=Tryz.underlying33
 a28:=Tryz.isAgg33
 z28:=Tryz.sizeOf33
 v28:=Tryz.zeroValue33
 t46:=Tryz.underlying53
 a46:=Tryz.isAgg53
 z46:=Tryz.sizeOf53
 v46:=Tryz.zeroValue53
 t51:=Tryz.underlying236
 a51:=Tryz.isAgg236
 z51:=Tryz.sizeOf236
 v51:=Tryz.zeroValue236
 t53:=Tryz.underlying23
 a53:=Tryz.isAgg23
 z53:=Tryz.sizeOf23
 v53:=Tryz.zeroValue23
 t131:=Tryz.underlying217
 a131:=Tryz.isAgg217
 z131:=Tryz.sizeOf217
 v131:=Tryz.zeroValue217
 t182:=Tryz.underlying230
 a182:=Tryz.isAgg230
 z182:=Tryz.sizeOf230
 v182:=Tryz.zeroValue230
 t183:=Tryz.underlying231
 a183:=Tryz.isAgg231
 z183:=Tryz.sizeOf231
 v183:=Tryz.zeroValue231
 t218:=Tryz.underlying244
 a218:=Tryz.isAgg244
 z218:=Tryz.sizeOf244
 v218:=Tryz.zeroValue244
 t222:=Tryz.underlying248
 a222:=Tryz.isAgg248
 z222:=Tryz.sizeOf248
 v222:=Tryz.zeroValue248
 t228:=Tryz.underlying252
 a228:=Tryz.isAgg252
 z228:=Tryz.sizeOf252
 v228:=Tryz.zeroValue252
 t229:=Tryz.underlying133
 a229:=Tryz.isAgg133
 z229:=Tryz.sizeOf133
 v229:=Tryz.zeroValue133 }
def FE:Go.Shelf.Ren:=⟨fun|15=>156|n=>n,fun|22=>33|3=>3|4=>4|n=>n,fun|n=>n⟩
theorem X5:Go.Proofs.Lays2.n15 Tryz.prog FE:={
 mixed:=by kernel_rfl
 f15:=Tryz.func156.trans (B8 some (by kernel_rfl))
 t3:=Tryz.underlying3
 a3:=Tryz.isAgg3
 z3:=Tryz.sizeOf3
 v3:=Tryz.zeroValue3
 t4:=Tryz.underlying4
 a4:=Tryz.isAgg4
 z4:=Tryz.sizeOf4
 v4:=Tryz.zeroValue4
 t22:=Tryz.underlying33
 a22:=Tryz.isAgg33
 z22:=Tryz.sizeOf33
 v22:=Tryz.zeroValue33
 i3:=by kernel_rfl }
def FF:Go.Shelf.Ren:=⟨fun|20=>158|n=>n,fun|22=>33|3=>3|4=>4|0=>0|n=>n,fun|n=>n⟩
theorem GU:Go.Proofs.Lays2.n20 Tryz.prog FF:={
 mixed:=by kernel_rfl
 f20:=Tryz.func158.trans (B8 some (by kernel_rfl))
 t0:=Tryz.underlying0
 a0:=Tryz.isAgg0
 z0:=Tryz.sizeOf0
 v0:=Tryz.zeroValue0
 t3:=Tryz.underlying3
 a3:=Tryz.isAgg3
 z3:=Tryz.sizeOf3
 v3:=Tryz.zeroValue3
 t4:=Tryz.underlying4
 a4:=Tryz.isAgg4
 z4:=Tryz.sizeOf4
 v4:=Tryz.zeroValue4
 t22:=Tryz.underlying33
 a22:=Tryz.isAgg33
 z22:=Tryz.sizeOf33
 v22:=Tryz.zeroValue33
 i3:=by kernel_rfl }
open Go.Sort
section
variable {I:Nat->Nat->Prop} {θ:Nat->Option (Nat×Nat)} {w w':World}
theorem SE(I:Nat->Nat->Prop)(θ:Nat->Option (Nat×Nat))(w:World):Gt I (Ac []) θ w:=
 ⟨(λ_ _ _ h=>by cases h),(λ_ _ _ _ h=>by cases h),(λ_ _ _ _ _ h=>(h rfl).elim),(λ_ _ _ _ _ h=>by cases h),(λ_ _ h=>by cases h),(λ_ _ _ h=>by cases h)⟩
theorem cY{own:Nat->Option Own}{zs:Array Value}{x:AV}(h:RepL I own θ w zs.toList [x]):∃ v,zs = #[v]/\Rep I own θ w v x:=by
 obtain⟨l⟩:=zs
 cases h with
 | cons h1 h2=>cases h2;exact⟨_,rfl,h1⟩
theorem Uo(hb:Below w.heap.size w w')(hval:∀ b o,I b o->∃ u,w.cell? ⟨b,o,none⟩=some u){N:Nat->Nat->Prop}(hN:∀ b o,N b o->w.heap.size<=b/\∃ u,w'.cell? ⟨b,o,none⟩=some u) :
  Chg (Ac []) θ I w (Ac []) θ (λb o=>I b o\/N b o) w':=
 have hcell:∀ b o,I b o->w'.cell? ⟨b,o,none⟩=w.cell? ⟨b,o,none⟩:=λb o hi=>by
  obtain⟨u,hu⟩:=hval b o hi;exact Zw (a:=⟨b,o,none⟩) (hb.block b (Ls hu))
 {imm:=λ_ _ h=>.inl h,cell:=hcell,le:=λ_ _ h=>(by cases h),rel:=SE _ _ _,
  valid:=λb o hi=>by
   rcases hi with hi|hi
   ·obtain⟨u,hu⟩:=hval b o hi;exact⟨u,(hcell b o hi).trans hu⟩
   ·exact(hN b o hi).2,
  os:=hb.os,tape:=hb.tape,output:=hb.output,drawn:=λh=>h.elim,grow:=hb.size,frame:=λb hlt _=>hb.block b hlt,new:=λ_ _ _ h=>(h rfl).elim,
  immNew:=λb o hi=>by
   rcases hi with hi|hi
   ·exact .inl hi
   ·exact .inr (.inl (hN b o hi).1) }
end
theorem V9{w W:World}{g n:Nat}{os:Array Obj}{d:Array Int}(hb:Below w.heap.size w W)(hg:w.heap.size<=g):Below w.heap.size w (grow (putRow (Value.int .i64) (Sort.ahead W n) g 0 d) os):=by
 have k:=grownBy_sortedI (w:=W) (g:=g) (n:=n) (os:=os) d;refine hb.trans ⟨k.os,k.tape,k.output,k.size,λb hlt=>k.block b (Nat.lt_of_lt_of_le hlt hb.size) (λe=>?_)⟩;have:=OI e;omega
def JB(w W:World)(g cap n:Nat)(zs:List Int):Prop:=
 Below w.heap.size w W/\w.heap.size<=g/\∃ cur,W.heap[g]?=some (.cells cur 3 (0,0))/\n<=cap/\cap<=maxLen/\cur.size=cap/\cur.toList.take zs.length=zs.map (Value.int .i64)/\zs.length=n
theorem UU{w W:World}{v:Value}{n:Nat}{zs:List Int}(h:W.ownsRow w.heap.size 3 1 v n (zs.map (Value.int .i64)))(hne:v≠.slice none 0 0)(hb:Below w.heap.size w W):∃ g cap,v = .slice (some ⟨g,0,none⟩) n cap/\JB w W g cap n zs:=by
 have hl:zs.length=n:=by have:=h.1;simpa using this
 rcases h.2 with⟨rfl,_⟩|⟨g,cap,cur,rfl,hg,hcur,hcap,hmax,hsz,ht⟩
 ·exact(hne rfl).elim
 ·rw[Qw]at hsz ht;exact⟨g,cap,rfl,hb,hg,cur,hcur,hcap,hmax,hsz,by rw[hl];exact ht,hl⟩
theorem bB(ad:Addr)(c:Nat)(w:World):Calls Tryz.prog 156 #[.slice (some ad) 0 c] w λe W=>∃ g cap,e = .returned (.slice (some ⟨g,0,none⟩) 0 cap)/\JB w W g cap 0 []:=
 (Any.slices_Clone_int_zero X5 ad c w).mono λe W ⟨v,he,hown,hne,hb⟩=>by
  obtain⟨g,cap,rfl,h⟩:=UU (zs:=[]) hown hne hb;exact⟨g,cap,he,h⟩
theorem eT(b off n c:Nat)(zs:List Int)(w:World)(hz:zs.length=n)(hbig:n<=17592186044416)(hc:∀ j,j<n->w.cell? ⟨b,off+j,none⟩=some (.int .i64 (zs.getD j 0))) :
  Calls Tryz.prog 156 #[.slice (some ⟨b,off,none⟩) n c] w λe W=>∃ g cap,e = .returned (.slice (some ⟨g,0,none⟩) n cap)/\JB w W g cap n zs:=
 (Any.slices_Clone_int X5 b off n c zs w (by omega) (by omega) (λj hj=>hc j (by omega))).mono λe W ⟨v,he,hown,hne,hb⟩=>by
  rw[show zs.take n=zs by rw[<- hz];exact Vx ..]at hown;obtain⟨g,cap,rfl,h⟩:=UU hown hne hb;exact⟨g,cap,he,h⟩
theorem ip{w W:World}{g cap n:Nat}{zs:List Int}(h:JB w W g cap n zs)(hbig:n<=17592186044416):Calls Tryz.prog 157 #[.slice (some ⟨g,0,none⟩) n cap] W λe W2=>e = .returned (.tuple #[])/\JB w W2 g cap n (zs.mergeSort λx y=>decide (x<=y)):=by
 obtain⟨hb,hg,cur,hcur,hcap,hmax,hsz,ht,rfl⟩:=h;refine(Any.slices_Sort_int UJ g 0 cap zs W (holds_of_blockI hcur ht) (Wi hcur) (by omega)).mono λe W2 ⟨he,q,os,hW⟩=>⟨he,?_⟩;subst hW;have hl:(zs.mergeSort λx y=>decide (x<=y)).length=zs.length:=List.length_mergeSort ..;have b2:=V9 (n:=q) (os:=os) (d:=(zs.mergeSort λx y=>decide (x<=y)).toArray) hb hg;exact⟨b2,hg,_,heap_sortedI _ hcur,hcap,hmax,by simp[putCells,hsz],take_putCellsI cur _ (by omega),hl⟩
theorem WM{w W:World}{g cap n:Nat}{zs:List Int}(h:JB w W g cap n zs)(hbig:n<=17592186044416):Calls Tryz.prog 158 #[.slice (some ⟨g,0,none⟩) n cap] W λe W2=>e = .returned (.slice (some ⟨g,0,none⟩) (Lib.compact zs).length cap)/\JB w W2 g cap (Lib.compact zs).length (Lib.compact zs):=by
 obtain⟨hb,hg,cur,hcur,hcap,hmax,hsz,ht,rfl⟩:=h;refine(Any.slices_Compact_int GU g 0 cap zs W (holds_of_blockI hcur ht) (by omega) hcap).mono λe W2 ⟨he,q,hW⟩=>⟨he,?_⟩;subst hW;have hcl:=Lib.compact_length_le zs
 generalize Lib.compact zs=cs at hcl ⊢
 generalize hts:cs++List.replicate (zs.length-cs.length) (0:Int)=ts
 have htl:ts.length=zs.length:=by rw[<- hts,E8,Xi];omega
 have b2:=V9 (n:=q) (os:=#[]) (d:=ts.toArray) hb hg;have h2:=heap_sortedI (n:=q) (os:=#[]) ts.toArray hcur;rw[grow_empty]at b2 h2;have h3:=take_putCellsI cur ts (by omega);refine⟨b2,hg,_,h2,by omega,hmax,by simp[putCells,hsz],?_,rfl⟩;have:=B8 (List.take cs.length) h3;rw[List.take_take,Nat.min_eq_left (by omega),<- List.map_take,<- hts,List.take_left' rfl]at this;rw[<- hts];exact this
def dt(w w':World)(v:Value)(r:List Int):Prop:=
 (v = .slice none 0 0/\r=[])\/∃ g cap,v = .slice (some ⟨g,0,none⟩) r.length cap/\JB w w' g cap r.length r
set_option maxHeartbeats 4000000 in
set_option maxRecDepth 100000 in
theorem dA(a:Option Addr)(n c:Nat)(zs:List Int)(w:World)(hz:zs.length=n)(hn:a=none->n=0)(hbig:n<=17592186044416)
  (hc:0<n->∃ b off,a=some ⟨b,off,none⟩/\∀ j,j<n->w.cell? ⟨b,off+j,none⟩=some (.int .i64 (zs.getD j 0))) :
  Calls Tryz.prog 116 #[.slice a n c] w λe w'=>∃ v,e = .returned v/\Below w.heap.size w w'/\dt w w' v (Lib.compact (zs.mergeSort λx y=>decide (x<=y))):=by
 cases a with
 | none=>
  obtain rfl:=hn rfl;obtain rfl:zs=[]:=zzL103.1 hz
  have hr:Lib.compact (([]:List Int).mergeSort λx y=>decide (x<=y))=[]:=by simp[Lib.compact,Lib.compactUpTo]
  rw[hr];have h1:Calls Tryz.prog 156 #[.slice none 0 c] w λe w'=>e = .returned (.slice none 0 0)/\w'=w:=Any.slices_Clone_int_nil X5 0 c w;have h2:Calls Tryz.prog 157 #[.slice none 0 0] w λe w'=>e = .returned (.tuple #[])/\w'=w:=Any.slices_Sort_int_none UJ none 0 w;have h3:Calls Tryz.prog 158 #[.slice none 0 0] w λe w'=>e = .returned (.slice none 0 0)/\w'=w:=Any.slices_Compact_int_empty GU none 0 w
  go_enter Tryz.func116,Tryz.ntmps116
  go_wp2_with (first
   | (go_at_call 156;refine h1.mono ?_;rintro e W ⟨rfl,rfl⟩)
   | (go_at_call 157;refine h2.mono ?_;rintro e W ⟨rfl,rfl⟩)
   | (go_at_call 158;refine h3.mono ?_;rintro e W ⟨rfl,rfl⟩))
  go_ret
  exact⟨_,rfl,Below.refl _ _,.inl ⟨rfl,rfl⟩⟩
 | some ad=>
  have h1:Calls Tryz.prog 156 #[.slice (some ad) n c] w λe W=>∃ g cap,e = .returned (.slice (some ⟨g,0,none⟩) n cap)/\JB w W g cap n zs:=by
   by_cases h0:n=0
   ·subst h0;obtain rfl:zs=[]:=zzL103.1 hz;exact bB ad c w
   ·obtain⟨b,off,hab,hcell⟩:=hc (by omega);obtain rfl:=OI hab;exact eT b off n c zs w hz hbig hcell
  go_enter Tryz.func116,Tryz.ntmps116
  go_wp2_with (first
   | (go_at_call 156;refine h1.mono ?_;rintro e W ⟨g,cap,rfl,hO⟩)
   | (go_at_call 157;refine(ip hO hbig).mono ?_;rintro e W2 ⟨rfl,hO2⟩)
   | (go_at_call 158;refine(WM hO2 hbig).mono ?_;rintro e W3 ⟨rfl,hO3⟩))
  go_ret
  exact⟨_,rfl,hO3.1,.inr ⟨_,_,rfl,hO3⟩⟩
def RL(x:Int):List Int->List Int
 | []=>[x]
 | y::l=>if x<=y then x::y::l else y::RL x l
def bh:List Int->List Int
 | []=>[]
 | x::l=>RL x (bh l)
theorem insI_perm(x:Int):∀ l,(RL x l).Perm (x::l)
 | []=>.refl _
 | y::l=>by
  unfold RL
  split
  ·exact .refl _
  ·exact((insI_perm x l).cons y).trans (.swap x y l)
theorem UG{x:Int}:∀{l:List Int},l.Pairwise (·<=·)->(RL x l).Pairwise (·<=·)
 | [],_=>by simp[RL]
 | y::l,h=>by
  have h':=zzL122.1 h;unfold RL
  split
  ·rename_i hxy
   exact zzL122.2 ⟨λz hz=>by
    rcases zzL22.1 hz with rfl|hz
    ·exact hxy
    ·exact Int.le_trans hxy (h'.1 z hz),h⟩
  ·rename_i hxy
   refine zzL122.2 ⟨λz hz=>?_,UG h'.2⟩;rcases zzL22.1 ((insI_perm x l).mem_iff.1 hz) with rfl|hz
   ·omega
   ·exact h'.1 z hz
theorem GT:∀ l,(bh l).Perm l
 | []=>.refl _
 | x::l=>(insI_perm x _).trans ((GT l).cons x)
theorem UI:∀ l,(bh l).Pairwise (·<=·)
 | []=>.nil
 | x::l=>UG (UI l)
theorem UH(l:List Int):bh l=l.mergeSort λx y=>decide (x<=y):=by
 refine List.Perm.eq_of_pairwise (le:=(·<=·)) (λa b _ _ h1 h2=>Int.le_antisymm h1 h2) (UI l) ?_ ((GT l).trans (List.mergeSort_perm l _).symm);have:=List.pairwise_mergeSort (le:=λ(x y:Int)=>decide (x<=y)) (λa b c h1 h2=>by simp at *;omega) (λa b=>by simp;omega) l
 exact this.imp λh=>by simpa using h
def Xg(l:List Int):Option (List Int):=Cs (l.length<=17592186044416) (some (Lib.compact (bh l)))
theorem SW(l r:List Int)(h:Xg l=some r):Spec Tryz.prog 116 [AV.list 1 (λx=>[.int .i64 x]) (0:Int) l .none] [] (AV.list 1 (λx=>[.int .i64 x]) (0:Int) r .none) []:=by
 obtain⟨hlen,h⟩:=M8 h;rw[UH]at h;obtain rfl:=OI h;refine⟨enters_of Tryz.func116 (by kernel_rfl) rfl,λw I θ zs hargs _ hval _=>?_⟩;obtain⟨v,rfl,hv⟩:=cY hargs;obtain⟨_,a,cap,us,rfl,hcap,hmax,hz,hnn,h1,hl,hr⟩:=hv.slice_val.slice_inv
 have hint:∀ i,i<l.length->us i = .int .i64 (l.getD i 0):=λi hi=>by
  have:=hr i 0 hi (by omega);rw[Qw,La]at this;have h2:RepV I w (us i) (.int .i64 (l.getD i 0)):=this;exact Rep.int_inv (own:=Ac []) (θ:=θ) (.val _ _ h2)
 refine(dA a l.length cap l w rfl (λha=>by have:=hnn ha;omega) hlen (λhp=>?_)).mono λe w' ⟨v,he,hb,hout⟩=>?_
 ·obtain⟨b,rfl,hs,_,hcell⟩:=hz hp;obtain⟨blk,off,spot⟩:=b;simp only at hs hcell;subst hs;exact⟨blk,off,rfl,λj hj=>by rw[hcell j (by omega),hint j hj]⟩
 ·generalize Lib.compact (l.mergeSort λx y=>decide (x<=y))=r at hout ⊢
  rcases hout with⟨rfl,rfl⟩|⟨g,cap',rfl,_,hg,cur,hcur,hc1,hc2,hc3,htake,_⟩
  ·exact⟨_,_,θ,he,Uo hb hval (N:=λ_ _=>False) (λ_ _ h=>h.elim),.val _ _ (.slice none 0 0 1 _ (λ_=>undef) (zzL8 _) (Lb _) (λh=>by cases h) (λ_=>rfl) (λj hj=>by simp at hj) (λi hi=>by cases hi) (λi c hi=>by cases hi))⟩
  ·have hcell:∀ j,j<r.length->w'.cell? ⟨g,j,none⟩=some (.int .i64 (r.getD j 0)):=λj hj=>by
    rw[J9 _ _ _ cur 3 (0,0) hcur]
    have h2:(cur.toList.take r.length)[j]?=(r.map (Value.int .i64))[j]?:=by rw[htake]
    rw[List.getElem?_take_of_lt hj,Array.getElem?_toList]at h2;rw[h2];simp[List.getD,hj]
   refine⟨_,_,θ,he,Uo hb hval (N:=λb o=>b=g/\o<r.length) (λb o ⟨hbg,ho⟩=>⟨by omega,by subst hbg;exact⟨_,hcell o ho⟩⟩),.val _ _ (.slice (some ⟨g,0,none⟩) r.length cap' 1 _ (λj=>.int .i64 (r.getD j 0)) hc1 hc2 (λ_=>⟨⟨g,0,none⟩,rfl,rfl,λj hj=>.inr ⟨rfl,by simpa using hj⟩,λj hj=>by rw[Fx];exact hcell j (by omega)⟩) (λh=>by cases h) (λ_ _=>rfl) (λ_ _=>rfl) (λi c hi hc=>?_))⟩
   obtain rfl:c=0:=by omega
   rw[Qw,La];exact .int _ _
abbrev Aw:=List Int
abbrev Nv:=List (List Int)
def Fg:=[30000,37006,9100005]
def Ul:=[(30000,30000),(37006,37006),(9100005,9100005)]
def Fj:=[30000,37006]
def Mi:=[3,30000,37006,9100005]
def Kb:=[2,5,6,25,36007]
def O8:=[6,30000,37006,9100005]
def PQ:=[(30000,30000),(9100000,9100000),(9100001,9100001)]
def Nx:=[3,4,6,7,5700]
def AS:=[(30000,30000),(37006,37006)]
def Kc:=[2,13,21]
def K2:=[8,30000,37006]
def H5:=[1,7,8,9]
def Rm:=[30000,37006,13000005]
def Tg:=[3,4,6,7,5700,30000]
def Lc:=[2,3,4,6,7]
def Xo:=[3,5,30000,37006,9100005]
def Xp:=[0,4,6,21,22,30,31,32]
def Xq:=[4,30000,9100000,9100001]
def U9:=[2,5,6,7,26,27,28]
def AB:=[5,30000,37006,9100005]
def VE:=[0,2,3,8,9,16,17,18,54,55,56,62,63,64]
def VF:=[0,2,3,5,16,17,18,24,25,26,31,32,33]
def IG:=[4,7,30000,9100000,9100001]
def Va:=[2,5,6,7,8,9]
def IH:=[3,9,30000,37006,9100005]
def PK:=[3,7,10,11,12,17,18,19,25]
def G0:=[0,1]
def Th:=[2,5,6,7,8]
def Ti:=[1,3,4,5,6]
def PL:=[0,2,3,16,17,18,24,25,26]
def PM:=[0,2,3,16,17,18,54,55,56]
def dN:=[(30000,30000),(37006,37006),(13000005,9200005)]
def dO:=[(30000,30000),(37006,37006),(9300005,9200005)]
def Ot:=[10,70010]
def VG:=[3,7,10,11,12,17,18,19,24,25]
def Xr:=[3,10,11,12]
def PN:=[3,10,11,12,17,18,19]
def AC:=[1,7,8,9,10]
def II:=[3,31,30000,37006]
def AD:=[1,6,7,8,9]
def VH:=[3,4,11,12,13,18,19,20]
def VI:=[0,5,12,13,14,18,19,20]
def VJ:=[6,7,30000,37006,9100005]
def EW:=[1,7,8,9,16]
def Vb:=[0,21,22]
def IJ:=[31,30000,37006]
def IK:=[2,3,4,6,7,8]
def PO:=[0,2,3,16,17,18]
def L8:=[7,8]
def dP:=[0,4,6,21,22,30,31,32,33]
def dQ:=[0,4,6,21,22,30,31,32,40]
def IL:=[0,5,8,9,10]
def dR:=[0,4,6,8,21,22,30,31,32]
def dS:=[4,6,30000,9100000,9100001]
def iJ:=[(30000,30000),(37006,37006),(8,9200005)]
def Vc:=[2,5,6]
def IM:=[0,16,17,18]
def VK:=[2,5,6,7,8,9,10]
def dT:=[6,8,30000,37006,9100005]
def PP:=[3,30000,37006]
def VM:=[2,4,5,18,19,20]
def IP:=[0,1,12,13]
def AE:=[0,1,10]
def PR:=[(30000,30000)]
def Pr:=[2,3]
def Ps:=[6,7]
def dU:=[2,3,4,6,7,8,11,66]
def PS:=[3,11,12,13]
def PT:=[0,12,13,14]
def PU:=[6,18,19,25]
def dV:=[2,3,4,6,7,8,9,10]
def Rn:=[4,5]
def IQ:=[2,5,6,7]
def IR:=[18,19,20]
def VN:=[14,17,10000305]
def Vd:=[2,16]
def iK:=[2,5,6,7,9,10,26,27,28,44]
def EX:=[1,4,22]
def dW:=[30000,37006,9300005]
def dX:=[2,3,4,6,7,8,11]
def VO:=[0,1,3,9,10]
def dY:=[0,1,5,14,15,16]
def dZ:=[2,3,4,6,7,8,9]
def iL:=[2,5,6,7,9,10,26,27,28]
def iM:=[4,5,30000,9100000,9100001]
def Ve:=[0,3]
def VP:=[0,15,16,17]
def VQ:=[0,21,22,23]
def da:=[2,3,4,6,7,37]
def iN:=[2,5,6,7,26,27,28,29]
def PV:=[5,18,19]
def PW:=[6,18,19]
def Xs:=[1,2]
def IU:=[1,2,5]
def db:=[1,2,15,16,17]
def iO:=[2,5,6,7,9,26,27,28]
def dc:=[0,1,32,33,34]
def iP:=[10,30000,37006,9100005]
def IV:=[2,3,4]
def IW:=[4,5,6]
def LD:=[2,5,6,25]
def dL:=[2,5,6,7,8,9,10,60]
def dM:=[4,30000,37006,9100005]
def TD:=[0,3,4,14,15]
def TE:=[0,4,6,21,22]
def LE:=[0,2,7,8]
def TF:=[(34001,34001)]
def Y5:=[18,19]
def LF:=[3,7,8,9]
def TG:=[2,3,4,6,19]
def LG:=[3,4,6,7]
def LH:=[6,7,5700]
def TH:=[1,23,24,25]
def EV:=[0,1,5]
def TI:=[3,38,39,40]
def TJ:=[0,37,38,39]
def TK:=[0,6,21,22]
set_option maxRecDepth 100000
set_option maxHeartbeats 2000000
def Ax(x:Int):List AV:=[(.int .i64 x)]
def mF(x:Int):List AV:=[(.int .u64 x)]
structure Ai where
 V:Int
 Scale:Int
 deriving Inhabited,DecidableEq
def D2(x:Ai):List AV:=[(.int .i64 x.V),(.int .u64 x.Scale)]
structure An where
 Terms:List Ai
 Off:Int
 deriving Inhabited,DecidableEq
def RH(x:An):List AV:=[(AV.list 2 D2 default x.Terms .none),(.int .u64 x.Off)]
def H2(x:Aw):List AV:=[(AV.list 1 Ax 0 x .none)]
structure Bv where
 Kind:Int
 Bits:Int
 Lanes:Int
 Dst:Int
 Args:Aw
 Imm:Int
 deriving Inhabited,DecidableEq
def AH(x:Bv):List AV:=[(.int .i64 x.Kind),(.int .i64 x.Bits),(.int .i64 x.Lanes),(.int .i64 x.Dst),(AV.list 1 Ax 0 x.Args .none),(.int .u64 x.Imm)]
structure Fy where
 Bits:Int
 Dst:Int
 From:Aw
 Args:Aw
 deriving Inhabited,DecidableEq
def Y9(x:Fy):List AV:=[(.int .i64 x.Bits),(.int .i64 x.Dst),(AV.list 1 Ax 0 x.From .none),(AV.list 1 Ax 0 x.Args .none)]
structure H1 where
 Kind:Int
 Arg:Int
 To:Aw
 deriving Inhabited,DecidableEq
def bO(x:H1):List AV:=[(.int .i64 x.Kind),(.int .i64 x.Arg),(AV.list 1 Ax 0 x.To .none)]
structure Ag where
 Phis:List Fy
 Ops:List Bv
 End:H1
 deriving Inhabited,DecidableEq
def Fl(x:Ag):List AV:=[(AV.list 4 Y9 default x.Phis .none),(AV.list 6 AH default x.Ops .none),(.int .i64 x.End.Kind),(.int .i64 x.End.Arg),(AV.list 1 Ax 0 x.End.To .none)]
structure Ab where
 Params:Aw
 Ret:Int
 Blocks:List Ag
 deriving Inhabited,DecidableEq
def X2(x:Ab):List AV:=[(AV.list 1 Ax 0 x.Params .none),(.int .i64 x.Ret),(AV.list 5 Fl default x.Blocks .none)]
abbrev Gq:=(Int×Int)
def Bp(x:Gq):List AV:=[(.int .i64 x.1),(.int .i64 x.2)]
structure G4 where
 block:Int
 at_:Int
 deriving Inhabited,DecidableEq
def BC(x:G4):List AV:=[(.int .i64 x.block),(.int .i64 x.at_)]
structure A7 where
 v:Int
 shape:Gq
 place:G4
 deriving Inhabited,DecidableEq
def Jb(x:A7):List AV:=[(.int .i64 x.v),(.int .i64 x.shape.1),(.int .i64 x.shape.2),(.int .i64 x.place.block),(.int .i64 x.place.at_)]
structure Cy where
 Succ:Nv
 Pred:Nv
 deriving Inhabited,DecidableEq
def Pz(x:Cy):List AV:=[(AV.list 1 H2 [] x.Succ .none),(AV.list 1 H2 [] x.Pred .none)]
def eB(x:Bool):List AV:=[(.bool x)]
structure Ak where
 shape:Gq
 place:G4
 deriving Inhabited,DecidableEq
def P0(x:Ak):List AV:=[(.int .i64 x.shape.1),(.int .i64 x.shape.2),(.int .i64 x.place.block),(.int .i64 x.place.at_)]
structure mg where
 Scale:Aw
 Off:Int
 deriving Inhabited,DecidableEq
structure TDef where
 V:Int
 Block:Int
 At:Int
 Shape:Gq
 deriving Inhabited,DecidableEq
structure Mq where
 V:Int
 Block:Int
 At:Int
 Shape:Gq
 deriving Inhabited,DecidableEq
structure lN where
 Op:List Bv
 Found:List Bool
 Form:List An
 deriving Inhabited,DecidableEq
theorem mix:Tryz.prog.follows .mixedOrders=true:=by kernel_rfl
abbrev sP:=Spec Tryz.prog
abbrev SX:=(Nat×Own)
theorem sG {f : FuncId} {fn : Func} {args : List AV} {H H' : List SX} {res : AV} (hf : Tryz.prog.funcs[f]? = some fn) (k : ∀ Γ : Gs, RgQ Tryz.prog Γ fn.ntmps H → GG Tryz.prog Γ (fK Tryz.prog Γ fn.results.toList H res H') (e9 (JM fn) []) (X4 args H)) (hb : fn.body.isSome = true := by kernel_rfl) (hname : (fn.name == "runtime.NumGoroutine") = false := by kernel_rfl) (hlen : Nat.ble args.length fn.ntmps = true := by kernel_rfl) (hpl : DS H = true := by kernel_rfl) : sP f args H res H' := Yq mix hf k hb hname hlen hpl
def Z1:=λza zb zc zd zf zg zm=>((30000,.row 110 [(AV.list 1 Ax 0 za .none),(.int .i64 zb),(AV.list 5 Fl default zc .none),(.int .i64 zd),(AV.list 1 Ax 0 zf .none),(.omap zg),(AV.list 5 Jb default zm (.own 37006))]):Nat×Own)
def Z2:=λza=>(⟨[],[],(.bool za),[],[],[]⟩:Rq)
def Z3:=λza zb zc zd zf zg zm=>([(30000,.row 110 [(AV.list 1 Ax 0 za .none),(.int .i64 zb),(AV.list 5 Fl default zc .none),(.int .i64 zd),(AV.list 1 Ax 0 zf .none),.nilm,(AV.list 5 Jb default zg (.own 37006))]),(37006,.tok 5 195 zm)]:List SX)
def Z4:=λza (zb:Aw)=>((za,.arr 1 3 zb.length (λi=>Ax (zb.getD i 0))):Nat×Own)
def Z5:=((.slice 0 0 (λ_=>[]) .exact):AV)
def Z6:=λza=>((.int .i64 za):AV)
def Z7:=λza=>((37006,.tok 5 195 za):Nat×Own)
def Z8:=λza=>((AV.list 2 D2 default za .none):AV)
def Z9:=λza=>((AV.list 1 Ax 0 za .none):AV)
def eG:=λza=>((AV.list 2 Bp ((0:Int),(0:Int)) za .none):AV)
def PZ:=((30000,.row 80 [(.omap 9100000),(.omap 9100001)]):Nat×Own)
def Nz:=((.int .u64 (0:Int)):AV)
def kH:=λza zb zc zd zf zg zm zn=>(⟨[(30000,30000),(37006,37006),(9100005,9100005)],[],(.tuple []),[(Z1 za zb zc zd zf 9100005 zg),(Z7 zm),(9100005,.obj (.map false .i64 zn))],[],[]⟩:Rq)
def kI:=λza zb zc zd zf zg=>((30000,.row 110 [(Z9 za),(Z6 zb),(AV.list 5 Fl default zc .none),(Z6 zd),(Z9 zf),(.omap 8),(AV.list 5 Jb default zg (.own 37006))]):Nat×Own)
def eH:=λza zb=>([(10,.arr 1 33 za (Me 1 Ax (0:Int) zb (Tag.fam 70010)))]:List SX)
def Pb:=λza=>((.agg (P0 za)):AV)
def N0:=((.int .i64 (0:Int)):AV)
def lO:=λza (zb:Aw) (zc:Aw)=>((.slice 1 (bif za then zb.length else zc.length) (λi=>bif za then Ax (zb.getD i 0) else Ax (zc.getD i 0)) .none):AV)
def TR:=λza=>((30000,.row 23 [(.int .u64 za)]):Nat×Own)
def kJ:=λza zb zc zd zf zg zm zn zp=>([(Z1 za zb zc zd zf zg zm),(Z7 zn),(zg,.obj (.map false .i64 zp))]:List SX)
def QA:=λza=>((AV.list 1 H2 [] za .none):AV)
def mh:=λza zb zc zd zf zg=>(⟨[(2,(.clo za [] [])),(3,(.ptr 3 0)),(4,(.ptr 4 0)),(6,(.ptr 6 0)),(7,(.ptr 7 0))],[(3,.row 25 [(Z8 zb),(.int .u64 zc)]),(4,.row 25 [(Z8 zd),(.int .u64 zf)]),(6,.row 25 [Z5,Nz]),(7,.row 25 [(AV.list 2 D2 default ([]:List Ai) (.own 5700)),(.int .u64 zg)]),(5700,.tok 2 51 (([]:List Ai).length))],[]⟩:St)
def M4:=λza=>((.agg (RH za)):AV)
def YR:=λza=>((AV.list 5 Fl default za .none):AV)
def ji:=λza zb=>((7,.row 25 [(AV.list 2 D2 default za (.own 5700)),(.int .u64 zb)]):Nat×Own)
def lx:=λza (zb:List A7) (zc:List A7)=>((.slice 5 (bif za then zb.length else zc.length) (λi=>bif za then Jb (zb.getD i default) else Jb (zc.getD i default)) (.own 37006)):AV)
def ZO:=((AV.list 2 D2 default ([]:List Ai) .exact):AV)
def Ja:=λza=>((.int .u64 za):AV)
def QC:=λza zb=>((AV.list 1 Ax 0 za (.own zb)):AV)
def VX:=λza=>(⟨[],[],(eG za),[],[],[]⟩:Rq)
def gh:=λza zb=>((.agg (P0 (mget (default:Ak) za zb))):AV)
def iV:=((AV.list 2 D2 default ([]:List Ai) .none):AV)
def gi:=((AV.list 1 Ax 0 ([]:Aw) .exact):AV)
def JG:=λza zb zc zd zf zg zm=>([(Z1 za zb zc zd zf 9100005 zg),(Z7 zm)]:List SX)
def lP:=((AV.list 2 Bp ((0:Int),(0:Int)) ([]:List Gq) .exact):AV)
def FA:=λza=>((.int .i64 (za:Int)):AV)
abbrev iI:=(Nat×AV)
def ly:=λza zb=>([(72,(AV.list 2 D2 default za .exact)),(73,(AV.list 2 D2 default (zb++za) (.own 5700)))]:List iI)
def jj:=λza=>((AV.list 1 Ax 0 ([za]:Aw) .exact):AV)
def VY:=λza=>(⟨[],[],(M4 za),[],[],[]⟩:Rq)
def VZ:=λza=>(⟨[],[],(Z6 za),[],[],[]⟩:Rq)
def V0:=λza=>((.agg (AH za)):AV)
def lz:=λza zb zc zd zf zg zm zn zp=>(⟨[(30000,30000),(37006,37006),(9100005,9100005)],[],(.agg (BC za)),(kJ zb zc zd zf zg 9100005 zm zn zp),[],[]⟩:Rq)
def mi:=λza (zb:List Ag) (zc:List Ag)=>((.slice 5 (bif za then zb.length else zc.length) (λi=>bif za then Fl (zb.getD i default) else Fl (zc.getD i default)) .none):AV)
def Xt:=((.ptr 30000 0):AV)
def YS:=λza zb=>((za,.obj (.map true .i64 zb)):Nat×Own)
def jk:=λza zb=>(⟨[],[],(.tuple [(M4 za),(Z6 zb)]),[],[],[]⟩:Rq)
def mj:=λza zb zc zd zf zg zm=>(⟨[(2,(.clo za [] [])),(3,(.ptr 3 0)),(4,(.ptr 4 0)),(6,(.ptr 6 0)),(7,(.ptr 7 0))],[(3,.row 25 [(Z8 zb),(Ja zc)]),(4,.row 25 [(Z8 zd),(Ja zf)]),(6,.row 25 [Z5,Nz]),(7,.row 25 [zg,(Ja zm)])],[]⟩:St)
def LI:=((2,(.ptr 2 0)):Nat×AV)
def mA:=λza zb zc zd zf zg zm zn zp=>(⟨[(30000,30000),(37006,37006),(9100005,9100005)],[],(.bool za),(kJ zb zc zd zf zg 9100005 zm zn zp),[],[]⟩:Rq)
def ml:=λza (zb:Aw) (zc:Aw)=>((.slice 1 (bif (za==true) then zb.length else zc.length) (λi=>bif (za==true) then Ax (zb.getD i 0) else Ax (zc.getD i 0)) .none):AV)
def BV:=λza=>((.agg (Bp za)):AV)
def jl:=λza zb=>(⟨[],[],(.tuple [(Ja za),(Z8 zb)]),[],[],[]⟩:Rq)
def YT:=((.int .i64 (1:Int)):AV)
def kK:=λ(za:Aw)=>((6,.arr 1 208 64 (λi=>Ax (za.getD i 0))):Nat×Own)
def lQ:=λza zb zc zd zf zg zm zn=>(⟨[(30000,30000),(37006,37006)],[],(.bool za),(Z3 zb zc zd zf zg zm zn),[],[]⟩:Rq)
def mB:=λ(za:List Gq)=>([(30,.arr 2 73 za.length (λi=>Bp (za.getD i ((0:Int),(0:Int)))))]:List SX)
def ZP:=((6,(.vpt 6 64 0 0)):Nat×AV)
def QD:=((6,(.ptr 6 0)):Nat×AV)
def gj:=λza zb zc=>((.int .i64 (bif za then zb else zc)):AV)
def dj:=((.int .i64 (2:Int)):AV)
def Z61:=(⟨[(4,(AV.list 1 Ax 0 ([]:Aw) (.own 6004)))],[(6004,.tok 1 3 (([]:Aw).length))],[]⟩:St)
def mC:=λza zb=>(⟨[(30000,30000),(37006,37006)],[],(Z6 za),zb,[],[]⟩:Rq)
def ZQ:=((5,(.vpt 5 64 0 0)):Nat×AV)
def WA:=((4,(.ptr 4 0)):Nat×AV)
def YU:=λza=>((6,.arr 1 208 64 za):Nat×Own)
def ZR:=λza=>((5,.arr 1 207 64 za):Nat×Own)
def LJ:=λza=>((2,.row 99 za):Nat×Own)

abbrev k5:=(LR (Int×Int) Int)
def Kl(a4:Ab):Gq->Option k5:=
 λ((i1,i2):Gq)=>(bif (decide (i2<(a4.Blocks.length:Int))) then(Cs (B9 i2 a4.Blocks.length) (some (.next ((Bh (i1+(Bh ((((a4.Blocks.getD i2.toNat default).Phis).length:Int)+(((a4.Blocks.getD i2.toNat default).Ops).length:Int))))),(Bh (i2+1)))))) else(some (.done i1)))
def Oa(a4:Ab):Option Int:=
 ((Aj (Kl a4) ((a4.Blocks.length:Int),(0:Int))).bind (λx5=>(some x5)))
variable{v0:Ab}{v1:Int}
theorem KE(h:Oa v0=some v1):sP 106 [(.agg (X2 v0))] [] (.int .i64 v1) []:=
 sG Tryz.func106 λΓ q=>tW q [1] [1] [1,3] [1] (Aq q Xr [] (tL q h Xr [] (λu (i1,i2)=>(Fv u [(3,(Z6 i1)),(12,(Z6 i2))] [])) (λu i3=>aG Γ (.exit 0) (⟨[(3,(Z6 i3))],[],[]⟩:St)) (λ⟨i1,i2⟩ y h=>Aq q [3,10,11,12,13] [] (gC h (λh=>tV q [3,5,10,11,12] [5] h λh=>tW q Xr [] Xr [] (tN h)) λh=>tS h (gO (Ed (Dw [3] [] q))))) λx5 h=>gA (Aq q [2] [] (tS h (C3 [])))))
def Gl(aA:Aw):Int->Option (LR Int (Unit ⊕ Bool)):=
 λ(i1:Int)=>(bif (decide (i1<(aA.length:Int))) then(Cs (B9 i1 aA.length) (bif (bif (decide ((aA.getD i1.toNat 0)<0)) then true else(decide ((2147483647:Int)<(aA.getD i1.toNat 0)))) then(some (.done (.inr false))) else(some (.next (Bh (i1+1)))))) else(some (.done (.inl ()))))
def V4(Γ:Gs)(aA:Aw)(r:Bool):Exit->St->Prop:=fK Tryz.prog Γ Tryz.f107.results.toList [] (.bool r) []
def Cw(aA:Aw):Option Bool:=
 ((Aj (Gl aA) (0:Int)).bind (λx3=>(match x3 with|(.inl _)=>(some true)|(.inr r5)=>(some r5))))
variable{v2:Aw}{v3:Bool}
theorem Em(h:Cw v2=some v3):sP 107 [(Z9 v2)] [] (.bool v3) []:=
 sG Tryz.func107 λΓ q=>tW q [0] [] [5,6,7] [] (tL q h [5,6,7] [] (λu i1=>(Fv u [(7,(Z6 i1))] [])) (λu x_=>match x_ with|(.inl _)=>aG Γ (.exit 0) (⟨[],[],[]⟩:St)|(.inr r_)=>aR (V4 Γ v2 r_)) (λi1 y h=>Aq q [5,6,7,8] [] (gC h (λh=>tV q [4,5,6,7] [] h λh=>tU q [5,6,7,16] [] (c2 (gI ((decide ((v2.getD i1.toNat 0)<0))==false)) (Sb (decide ((v2.getD i1.toNat 0)<0)))) (gC h (λh=>Aq q [2] [] (tS h (gO (R0 (K3 [] (Le.refl _ _)))))) λh=>Aq q [5,6,7] [] (tN h))) λh=>tS h (gO (Ed (Dw [] [] q))))) λx3 h=>(match x3,h with | .inl _,h=>gA (Aq q [2] [] (tS h (C3 []))) | .inr r5,h=>V1 (λst' hk=>tS h (gK hk))))
def Fa(aA:Aw):Option Bool:=
 ((bif ((decide ((aA.length:Int)<=64))==true) then Cw aA else some false).bind λx1=>(some (bif (decide ((aA.length:Int)<=64)) then x1 else false)))
theorem I7(h:Fa v2=some v3):sP 179 [(Z9 v2)] [] (.bool v3) []:=
 sG Tryz.func179 λΓ q=>Aq q [0] [] (tB h λx1 y1 h=>tT q [2] [] [(Z2 x1)] (c3 (gI ((decide ((v2.length:Int)<=64))==true)) (λ(hg:((decide ((v2.length:Int)<=64))==true)=true)=>(Em (Br hg y1))) (Nt (decide ((v2.length:Int)<=64)))) (tS h (C3 [])))
def Kn(aU:Fy):Option Bool:=
 ((Cw ([aU.Bits,aU.Dst]:Aw)).bind λx1=>((bif (x1==true) then Fa aU.From else some false).bind λx2=>((bif ((bif x1 then x2 else false)==true) then Fa aU.Args else some false).bind λx3=>(some (bif (bif x1 then x2 else false) then x3 else false)))))
variable{v4:Fy}
theorem AM(h:Kn v4=some v3):sP 150 [(.agg (Y9 v4))] [] (.bool v3) []:=
 sG Tryz.func150 λΓ q=>Aq q [1] [1] (tB h λx1 y1 h=>tB h λx2 y2 h=>tB h λx3 y3 h=>gR q [2] [] [(7,(AV.list 1 Ax 0 ([v4.Bits,v4.Dst]:Aw) .exact))] [(Z2 x1),(Z2 x2),(Z2 x3)] (YV (Bq 1 Ax (0:Int) ([v4.Bits,v4.Dst]:Aw)) (Em y1) (Tu (x1==true) (YV (λ(hg:(x1==true)=true)=>(I7 (Br hg y2))) (Nt x1) (Tu ((bif x1 then x2 else false)==true) (c2 (λ(hg:((bif x1 then x2 else false)==true)=true)=>(I7 (Br hg y3))) (Nt (bif x1 then x2 else false))))))) (tS h (C3 [])))
def Et(aA:List Fy):Int->Option (LR Int (Unit ⊕ Bool)):=
 λ(i1:Int)=>(bif (decide (i1<(aA.length:Int))) then(Cs (B9 i1 aA.length) ((Kn (aA.getD i1.toNat default)).bind λx3=>(bif (!x3) then(some (.done (.inr false))) else(some (.next (Bh (i1+1))))))) else(some (.done (.inl ()))))
def Rp(Γ:Gs)(aA:List Fy)(r:Bool):Exit->St->Prop:=fK Tryz.prog Γ Tryz.f149.results.toList [] (.bool r) []
def F6(aA:List Fy):Option Bool:=
 ((Aj (Et aA) (0:Int)).bind (λx4=>(match x4 with|(.inl _)=>(some true)|(.inr r6)=>(some r6))))
variable{v5:List Fy}
theorem Qm(h:F6 v5=some v3):sP 149 [(AV.list 4 Y9 default v5 .none),(.clo 150 [] [])] [] (.bool v3) []:=
 sG Tryz.func149 λΓ q=>tW q G0 [] H5 [] (tL q h H5 [] (λu i1=>(Fv u [(9,(Z6 i1))] [])) (λu x_=>match x_ with|(.inl _)=>aG Γ (.exit 0) (⟨[],[],[]⟩:St)|(.inr r_)=>aR (Rp Γ v5 r_)) (λi1 y h=>Aq q AC [] (gC h (λh=>tV q AD [6] h λh=>tB h λx3 y3 h=>tT q EW [] [(Z2 x3)] (c1 (AM y3)) (gC h (λh=>Aq q [4] [] (tS h (gO (R0 (K3 [] (Le.refl _ _)))))) λh=>Aq q H5 [] (tN h))) λh=>tS h (gO (Ed (Dw [] [] q))))) λx4 h=>(match x4,h with | .inl _,h=>gA (Aq q [4] [] (tS h (C3 []))) | .inr r6,h=>V1 (λst' hk=>tS h (gK hk))))
def Lu(a1:Bv):Option Bool:=
 ((Cw ([a1.Kind,a1.Bits,a1.Lanes,a1.Dst]:Aw)).bind λx1=>((bif (x1==true) then Fa a1.Args else some false).bind λx2=>(some (bif x1 then x2 else false))))
variable{v6:Bv}
theorem DG(h:Lu v6=some v3):sP 152 [(V0 v6)] [] (.bool v3) []:=
 sG Tryz.func152 λΓ q=>Aq q [1] [1] (tB h λx1 y1 h=>tB h λx2 y2 h=>gR q [2] [] [(11,(AV.list 1 Ax 0 ([v6.Kind,v6.Bits,v6.Lanes,v6.Dst]:Aw) .exact))] [(Z2 x1),(Z2 x2)] (YV (Bq 1 Ax (0:Int) ([v6.Kind,v6.Bits,v6.Lanes,v6.Dst]:Aw)) (Em y1) (Tu (x1==true) (c2 (λ(hg:(x1==true)=true)=>(I7 (Br hg y2))) (Nt x1)))) (tS h (C3 [])))
def E5(aA:List Bv):Int->Option (LR Int (Unit ⊕ Bool)):=
 λ(i1:Int)=>(bif (decide (i1<(aA.length:Int))) then(Cs (B9 i1 aA.length) ((Lu (aA.getD i1.toNat default)).bind λx3=>(bif (!x3) then(some (.done (.inr false))) else(some (.next (Bh (i1+1))))))) else(some (.done (.inl ()))))
def R4(Γ:Gs)(aA:List Bv)(r:Bool):Exit->St->Prop:=fK Tryz.prog Γ Tryz.f151.results.toList [] (.bool r) []
def Gk(aA:List Bv):Option Bool:=
 ((Aj (E5 aA) (0:Int)).bind (λx4=>(match x4 with|(.inl _)=>(some true)|(.inr r6)=>(some r6))))
variable{v7:List Bv}
theorem Rx(h:Gk v7=some v3):sP 151 [(AV.list 6 AH default v7 .none),(.clo 152 [] [])] [] (.bool v3) []:=
 sG Tryz.func151 λΓ q=>tW q G0 [] H5 [] (tL q h H5 [] (λu i1=>(Fv u [(9,(Z6 i1))] [])) (λu x_=>match x_ with|(.inl _)=>aG Γ (.exit 0) (⟨[],[],[]⟩:St)|(.inr r_)=>aR (R4 Γ v7 r_)) (λi1 y h=>Aq q AC [] (gC h (λh=>tV q AD [6] h λh=>tB h λx3 y3 h=>tT q EW [] [(Z2 x3)] (c1 (DG y3)) (gC h (λh=>Aq q [4] [] (tS h (gO (R0 (K3 [] (Le.refl _ _)))))) λh=>Aq q H5 [] (tN h))) λh=>tS h (gO (Ed (Dw [] [] q))))) λx4 h=>(match x4,h with | .inl _,h=>gA (Aq q [4] [] (tS h (C3 []))) | .inr r6,h=>V1 (λst' hk=>tS h (gK hk))))
def Km(aE:H1):Option Bool:=
 ((Cw ([aE.Kind,aE.Arg]:Aw)).bind λx1=>((bif (x1==true) then Fa aE.To else some false).bind λx2=>(some (bif x1 then x2 else false))))
variable{v8:H1}
theorem AL(h:Km v8=some v3):sP 153 [(.agg (bO v8))] [] (.bool v3) []:=
 sG Tryz.func153 λΓ q=>Aq q [1] [1] (tB h λx1 y1 h=>tB h λx2 y2 h=>gR q [2] [] [(7,(AV.list 1 Ax 0 ([v8.Kind,v8.Arg]:Aw) .exact))] [(Z2 x1),(Z2 x2)] (YV (Bq 1 Ax (0:Int) ([v8.Kind,v8.Arg]:Aw)) (Em y1) (Tu (x1==true) (c2 (λ(hg:(x1==true)=true)=>(I7 (Br hg y2))) (Nt x1)))) (tS h (C3 [])))
def Iy(aJ:Ag):Option Bool:=
 ((F6 aJ.Phis).bind λx1=>((bif (x1==true) then Gk aJ.Ops else some false).bind λx2=>((bif ((bif x1 then x2 else false)==true) then Km (⟨aJ.End.Kind,aJ.End.Arg,aJ.End.To⟩:H1) else some false).bind λx3=>(some (bif (bif x1 then x2 else false) then x3 else false)))))
variable{v9:Ag}
theorem Wy(h:Iy v9=some v3):sP 109 [(.agg (Fl v9))] [] (.bool v3) []:=
 sG Tryz.func109 λΓ q=>Aq q [1] [1] (tB h λx1 y1 h=>tB h λx2 y2 h=>tB h λx3 y3 h=>tT q [2] [] [(Z2 x1),(Z2 x2),(Z2 x3)] (ci (Qm y1) (Tu (x1==true) (YV (λ(hg:(x1==true)=true)=>(Rx (Br hg y2))) (Nt x1) (Tu ((bif x1 then x2 else false)==true) (c2 (λ(hg:((bif x1 then x2 else false)==true)=true)=>(AL (Br hg y3))) (Nt (bif x1 then x2 else false))))))) (tS h (C3 [])))
def D6(aA:List Ag):Int->Option (LR Int (Unit ⊕ Bool)):=
 λ(i1:Int)=>(bif (decide (i1<(aA.length:Int))) then(Cs (B9 i1 aA.length) ((Iy (aA.getD i1.toNat default)).bind λx3=>(bif (!x3) then(some (.done (.inr false))) else(some (.next (Bh (i1+1))))))) else(some (.done (.inl ()))))
def Pa(Γ:Gs)(aA:List Ag)(r:Bool):Exit->St->Prop:=fK Tryz.prog Γ Tryz.f108.results.toList [] (.bool r) []
def E4(aA:List Ag):Option Bool:=
 ((Aj (D6 aA) (0:Int)).bind (λx4=>(match x4 with|(.inl _)=>(some true)|(.inr r6)=>(some r6))))
variable{v10:List Ag}
theorem O4(h:E4 v10=some v3):sP 108 [(YR v10),(.clo 109 [] [])] [] (.bool v3) []:=
 sG Tryz.func108 λΓ q=>tW q G0 [] H5 [] (tL q h H5 [] (λu i1=>(Fv u [(9,(Z6 i1))] [])) (λu x_=>match x_ with|(.inl _)=>aG Γ (.exit 0) (⟨[],[],[]⟩:St)|(.inr r_)=>aR (Pa Γ v10 r_)) (λi1 y h=>Aq q AC [] (gC h (λh=>tV q AD [6] h λh=>tB h λx3 y3 h=>tT q EW [] [(Z2 x3)] (c1 (Wy y3)) (gC h (λh=>Aq q [4] [] (tS h (gO (R0 (K3 [] (Le.refl _ _)))))) λh=>Aq q H5 [] (tN h))) λh=>tS h (gO (Ed (Dw [] [] q))))) λx4 h=>(match x4,h with | .inl _,h=>gA (Aq q [4] [] (tS h (C3 []))) | .inr r6,h=>V1 (λst' hk=>tS h (gK hk))))
def Q2(a4:Ab):=(decide ((a4.Blocks.length:Int)<1))
def Q1(a4:Ab):=(decide ((16:Int)<(a4.Params.length:Int)))
def Qb(a4:Ab):Option Bool:=
 (bif (bif (decide ((a4.Blocks.length:Int)<1)) then true else(decide ((64:Int)<(a4.Blocks.length:Int)))) then(some false) else((bif ((decide ((16:Int)<(a4.Params.length:Int)))==false) then Oa a4 else some (0:Int)).bind λx1=>(bif (bif (decide ((16:Int)<(a4.Params.length:Int))) then true else(decide ((512:Int)<x1))) then(some false) else((Cw a4.Params).bind λx2=>((bif (x2==true) then Cw ([a4.Ret]:Aw) else some false).bind λx3=>((bif ((bif x2 then x3 else false)==true) then E4 a4.Blocks else some false).bind λx4=>(some (bif (bif x2 then x3 else false) then x4 else false))))))))
theorem NU(h:Qb v0=some v3):sP 75 [(.agg (X2 v0))] [] (.bool v3) []:=
 sG Tryz.func75 λΓ q=>Aq q [1] [1] (tU q [1,12] [1] (QE ((Q2 v0)==false) (c1 (Sb (Q2 v0)))) (gC h (λh=>Aq q [2] [] (tS h (C3 []))) λh=>tB h λx1 y1 h=>tT q [1,21] [1] [(VZ x1)] (c4 (gI ((Q1 v0)==false)) (λ(hg:((Q1 v0)==false)=true)=>(KE (Br hg y1))) (gI ((Q1 v0)==false)) (Sb (Q1 v0))) (gC h (λh=>Aq q [2] [] (tS h (C3 []))) λh=>tB h λx2 y2 h=>tB h λx3 y3 h=>tB h λx4 y4 h=>gR q [2] [] [(28,(jj v0.Ret))] [(Z2 x2),(Z2 x3),(Z2 x4)] (ci (Em y2) (Tu (x2==true) (m8 (show((x2==true)=true->(AVle (.slice 1 1 (λi=>([[(Z6 v0.Ret)]]:List (List AV)).getD i []) .exact) (jj v0.Ret))) from(λhg=>@(Bq 1 Ax (0:Int) ([v0.Ret]:Aw)))) (gI (x2==true)) (λ(hg:(x2==true)=true)=>(Em (Br hg y3))) (Nt x2) (Tu ((bif x2 then x3 else false)==true) (c2 (λ(hg:((bif x2 then x3 else false)==true)=true)=>(O4 (Br hg y4))) (Nt (bif x2 then x3 else false))))))) (tS h (C3 [])))))
def Ig(aa8:Bool)(aE:Int):Option Int:=
 (bif aa8 then(some (0:Int)) else(some aE))
variable{v11:Int}
theorem Re(h:Ig v3 v1=some v11):sP 122 [(.bool v3),(Z6 v1)] [] (.int .i64 v11) []:=
 sG Tryz.func122 λΓ q=>tW q G0 [] [1,5] [] (gC h (λh=>Aq q [4] [] (tS h (C3 []))) λh=>Aq q [4] [] (tS h (C3 [])))
abbrev YK:=(Int×Ab×Int×Aw×List A7)
def Gi(a0:Ab)(a5:Int)(a9:Aw)(a6:List A7):Option YK:=
 ((Qb a0).bind λx1=>((Ig x1 (4:Int)).bind λx2=>(some (x2,a0,a5,a9,a6))))
variable{v12:List A7}{v13:YK}
theorem Rv(h:Gi v0 v1 v2 v12=some v13):sP 91 [Xt] (Z3 v0.Params v0.Ret v0.Blocks v1 v2 v12 v12.length) (Z6 v13.1) (Z3 v13.2.1.Params v13.2.1.Ret v13.2.1.Blocks v13.2.2.1 v13.2.2.2.1 v13.2.2.2.2 v13.2.2.2.2.length):=
 sG Tryz.func91 λΓ q=>Aq q [0] Fj (tB h λx1 y1 h=>tB h λx2 y2 h=>tT q [2] Fj [(Z2 x1),(VZ x2)] (c2 (NU y1) (Re y2)) (tS h (C3 AS)))
def Ht(aF:Int):Option Bool:=
 (some (bif (decide ((1:Int)<=aF)) then(decide (aF<=64)) else false))
theorem Ph(h:Ht v1=some v3):sP 114 [(Z6 v1)] [] (.bool v3) []:=
 sG Tryz.func114 λΓ q=>Aq q [0] [] (tU q [2] [] (c2 (gI ((decide ((1:Int)<=v1))==true)) (Nt (decide ((1:Int)<=v1)))) (tS h (C3 [])))
def Ga(aK:Int)(aF:Int):Option Bool:=
 (some (bif (decide ((0:Int)<=aK)) then(decide (aK<aF)) else false))
theorem Lp(h:Ga v1 v11=some v3):sP 155 [(Z6 v1),(Z6 v11)] [] (.bool v3) []:=
 sG Tryz.func155 λΓ q=>Aq q G0 [] (tU q [4] [] (Tu ((decide ((0:Int)<=v1))==true) (c1 (Nt (decide ((0:Int)<=v1))))) (tS h (C3 [])))
def B3(aE:H1)(aF:Int):Int->Option (LR Int (Unit ⊕ Bool)):=
 λ(i7:Int)=>(bif (decide (i7<(aE.To.length:Int))) then(Cs (B9 i7 aE.To.length) ((bif (((aE.To.getD i7.toNat 0)==0)==false) then Ga (aE.To.getD i7.toNat 0) aF else some false).bind λx9=>(bif (bif ((aE.To.getD i7.toNat 0)==0) then true else(!x9)) then(some (.done (.inr false))) else(some (.next (Bh (i7+1))))))) else(some (.done (.inl ()))))
def Qx(Γ:Gs)(aE:H1)(aF:Int)(r:Bool):Exit->St->Prop:=fK Tryz.prog Γ Tryz.f115.results.toList [] (.bool r) []
def Q3(aE:H1)(i7:Int):=((aE.To.getD i7.toNat 0)==0)
def Jp(aE:H1)(aF:Int):Option Bool:=
 (Option.bind (α:=(Int ⊕ Bool)) (Option.bind (α:=Bool) (bif (aE.Kind==0) then(some (aE.Kind==0)) else(some (aE.Kind==3))) (λx3=>(bif x3 then(some (.inl (0:Int))) else(bif (aE.Kind==1) then(some (.inl (1:Int))) else(bif (aE.Kind==2) then(some (.inl (2:Int))) else(some (.inr false))))))) (λx5=>(match x5 with|(.inl i1)=>(bif ((aE.To.length:Int)!=i1) then(some false) else((Aj (B3 aE aF) (0:Int)).bind (λx10=>(match x10 with|(.inl _)=>(some true)|(.inr r12)=>(some r12)))))|(.inr r13)=>(some r13))))
theorem Yl(h:Jp v8 v1=some v3):sP 115 [(.agg (bO v8)),(Z6 v1)] [] (.bool v3) []:=
 sG Tryz.func115 λΓ q=>tW q Xs [2] IU [2] (tB h λx5 y5 h=>gJ y5 (λx_=>match x_ with|(.inl i1)=>aG Γ .normal (⟨[(1,(Z6 v1)),LI,(5,(Z6 i1))],[(2,.row 46 [(Z6 v8.Kind),(Z6 v8.Arg),(Z9 v8.To)])],[]⟩:St)|(.inr r_)=>aR (Qx Γ v8 v1 r_)) (λy h=>Aq q [1,2,5,9] [2] (tB h λx3 y3 h=>gJ y3 (λb2=>aG Γ .normal (⟨[(1,(Z6 v1)),LI,(5,N0),(9,(Z6 v8.Kind)),(10,(.bool b2))],[(2,.row 46 [(Z6 v8.Kind),(Z6 v8.Arg),(Z9 v8.To)])],[]⟩:St)) (λy h=>Aq q [1,2,5,9,10] [2] (gC h (λh=>tS h (gK (Ed Nu))) λh=>Aq q [1,2,5,9,10] [2] (tS h (gK (Ed Nu))))) (gA (gC h (λh=>tS h (gK (Ed (Dw IU [2] q)))) λh=>Aq q [1,2,9,13] [2] (gC h (λh=>Aq q IU [2] (tS h (gK (Ed Nu)))) λh=>Aq q [1,2,15] [2] (gC h (λh=>Aq q IU [2] (tS h (gK (Ed Nu)))) λh=>Aq q [4] [] (tS h (gK (R0 (K3 [] (Le.refl _ _))))))))))) (match x5,h with | .inl i1,h=>gA (Aq q [1,2,21] [2] (gC h (λh=>Aq q [4] [] (tS h (C3 []))) λh=>Aq q TH [] (tL q h TH [] (λu i7=>(Fv u [(25,(Z6 i7))] [])) (λu x_=>match x_ with|(.inl _)=>aG Γ (.exit 1) (⟨[],[],[]⟩:St)|(.inr r_)=>aR (Qx Γ v8 v1 r_)) (λi7 y h=>Aq q [1,23,24,25,26] [] (gC h (λh=>tV q [1,7,23,24,25] [] h λh=>tB h λx9 y9 h=>tT q [1,23,24,25,36] [] [(Z2 x9)] (Tu ((Q3 v8 i7)==false) (c3 (λ(hg:((Q3 v8 i7)==false)=true)=>(Lp (Br hg y9))) (gI ((Q3 v8 i7)==false)) (Sb (Q3 v8 i7)))) (gC h (λh=>Aq q [4] [] (tS h (gO (R0 (K3 [] (Le.refl _ _)))))) λh=>Aq q TH [] (tN h))) λh=>tS h (gO (Ed (Dw [] [] q))))) λx10 h=>(match x10,h with | .inl _,h=>gA (Aq q [4] [] (tS h (C3 []))) | .inr r12,h=>V1 (λst' hk=>tS h (gK hk)))))) | .inr r13,h=>V1 (λst' hk=>tS h (gK hk))))
abbrev jp:=(Int×Nv)
def D7(aB:Nv)(i2:Int):jp->Option (LR (Int×Nv) Nv):=
 λ((i6,l7):jp)=>(bif (decide (i6<((aB.getD i2.toNat []).length:Int))) then(Cs (B9 i6 (aB.getD i2.toNat []).length) (Cs (B9 ((aB.getD i2.toNat []).getD i6.toNat 0) l7.length) (Cs (B9 ((aB.getD i2.toNat []).getD i6.toNat 0) l7.length) (Cs ((l7.getD ((aB.getD i2.toNat []).getD i6.toNat 0).toNat []).length+([i2]:Aw).length<=room) (Cs (B9 ((aB.getD i2.toNat []).getD i6.toNat 0) l7.length) (some (.next ((Bh (i6+1)),(l7.set ((aB.getD i2.toNat []).getD i6.toNat 0).toNat ((l7.getD ((aB.getD i2.toNat []).getD i6.toNat 0).toNat [])++([i2]:Aw))))))))))) else(some (.done l7)))
def D8(aB:Nv):jp->Option (LR (Int×Nv) Nv):=
 λ((i2,l3):jp)=>(bif (decide (i2<(aB.length:Int))) then(Cs (B9 i2 aB.length) ((Aj (D7 aB i2) ((0:Int),l3)).bind (λx14=>(some (.next ((Bh (i2+1)),x14)))))) else(some (.done l3)))
def Q8(i2:Int):=([i2]:Aw)
def Q4(aB:Nv)(i2:Int)(i6:Int):=((aB.getD i2.toNat []).getD i6.toNat 0)
def Q9(l7:Nv)(aB:Nv)(i2:Int)(i6:Int):=(l7.getD (Q4 aB i2 i6).toNat [])
def Q5(aB:Nv):=(List.replicate (aB.length:Int).toNat ([]:Aw))
def jv(l7:Nv)(aB:Nv)(i2:Int)(i6:Int):=(l7.set (Q4 aB i2 i6).toNat ((Q9 l7 aB i2 i6)++(Q8 i2)))
def Q7(aB:Nv):List iI:=[(0,(QA aB)),(3,(.vsl 10 (aB.length:Int).toNat))]
def Q6(l7:Nv)(i2:Int)(aB:Nv)(i6:Int):List iI:=[(3,(.vsl 10 l7.length)),(4,(Z6 i2)),(11,(QA aB)),(12,(FA aB.length)),(13,(Z6 i2)),(18,(AV.list 1 Ax 0 (aB.getD i2.toNat []) .none)),(19,(.int .i64 ((aB.getD i2.toNat []).length:Int))),(20,(Z6 i6))]
def mP(l7:Nv)(i2:Int)(aB:Nv)(i6:Int):List iI:=[(3,(.vsl 10 l7.length)),(4,(Z6 i2)),(7,(Z6 (Q4 aB i2 i6))),(11,(QA aB)),(12,(FA aB.length)),(13,(Z6 i2)),(18,(AV.list 1 Ax 0 (aB.getD i2.toNat []) .none)),(19,(.int .i64 ((aB.getD i2.toNat []).length:Int))),(20,(Z6 i6))]
def Ii(aB:Nv):Option Nv:=
 (Cs (0<=(aB.length:Int)/\(aB.length:Int)<=(aB.length:Int)/\(aB.length:Int)<=(room:Int)) ((Aj (D8 aB) ((0:Int),(List.replicate (aB.length:Int).toNat ([]:Aw)))).bind (λx16=>(some x16))))
variable{v14:Nv}{v15:Nv}
theorem Rg(h:Ii v14=some v15):sP 117 [(QA v14)] [] (AV.list 1 H2 [] v15 (.own 20000)) [(20000,.tok 1 33 v15.length)]:=
 sG Tryz.func117 λΓ q=>have hΓ:=q.own;gR q [0] [] [(2,(AV.list 1 H2 [] ([]:Nv) .exact))] [] (c1 (It 1 H2 [])) (tV q Ve [10] h λh=>Tt (⟨(Q7 v14),[(10,.arr 1 33 ((v14.length:Int).toNat) (λi_=>AV.eraseAll (λn_=>Cc n_ [10]) ((λ_=>[Z5]) i_)))],[]⟩:St) (M1 (Le.trans (Kj (st':=⟨(Q7 v14),[(10,.arr 1 33 ((v14.length:Int).toNat) (Me 1 Ax (0:Int) (Q5 v14) (λ_=>.exact)))],[]⟩) (TmpsLe.refl _) (.arr bR .nil)) (Le.trans (Le.trans (bo (r:=10) (b:=70010) Ax (0:Int) (Q5 v14) 3 rfl rfl (Xi ..).symm (λh_=>absurd h_ (by decide))) (Nb (st':=⟨(Q7 v14),[(10,.arr 1 33 ((v14.length:Int).toNat) (Me 1 Ax (0:Int) (Q5 v14) (Tag.fam 70010)))],[(70010,⟨1,3,Mr (Q5 v14)⟩)]⟩) (by kernel_rfl))) (Nb (B8 (λk_:Nat=>(⟨[(0,(QA v14)),(3,(.vsl 10 k_))],(eH k_ (Q5 v14)),[(70010,⟨1,3,Mr (Q5 v14)⟩)]⟩:St)) (show(v14.length:Int).toNat=(Q5 v14).length from(Xi ..).symm))))) (Aq q PS Ot (tL q h PS Ot (λu (i2,l3)=>(Fv u [(3,(.vsl 10 l3.length)),(13,(Z6 i2))] (eH l3.length l3) [(70010,⟨1,3,Mr l3⟩)])) (λu l4=>aG Γ (.exit 0) (⟨[(3,(.vsl 10 l4.length))],(eH l4.length l4),[(70010,⟨1,3,Mr l4⟩)]⟩:St)) (λ⟨i2,l3⟩ y h=>Aq q [3,11,12,13,14] Ot (gC h (λh=>tV q [3,4,5,11,12,13] Ot h λh=>Aq q VH Ot (tL q h VH Ot (λu (i6,l7)=>(Fv u [(3,(.vsl 10 l7.length)),(20,(Z6 i6))] (eH l7.length l7) [(70010,⟨1,3,Mr l7⟩)])) (λu l8=>aG Γ (.exit 2) (Xv PS Ot u [(3,(.vsl 10 l8.length))] (eH l8.length l8) [(70010,⟨1,3,Mr l8⟩)])) (λ⟨i6,l7⟩ y h=>Aq q [3,4,11,12,13,18,19,20,21] Ot (gC h (λh=>tV q [3,4,7,11,12,13,18,19,20] Ot h λh=>Tt (⟨(mP l7 i2 v14 i6),(eH l7.length l7),[(70010,⟨1,3,Mr l7⟩)]⟩:St) (tC h λc10_ h=>tC h λc11_ h=>tC h λc12_ h=>tC h λc13_ h=>M1 (Le.trans (fH (r:=10) (b:=70010) (k:=60010) Ax (0:Int) l7 (Q4 v14 i2 i6).toNat 3 rfl rfl rfl rfl (N6 c10_) (by kernel_rfl) (.here .nil)) (Nb (st':=⟨(mP l7 i2 v14 i6),[(10,.arr 1 33 l7.length (Me 1 Ax (0:Int) l7 (Fm 70010 (Q4 v14 i2 i6).toNat 60010))),(60010,.tok 1 3 ((Q9 l7 v14 i2 i6).length))],[(70010,⟨1,3,Wj l7 (Q4 v14 i2 i6).toNat⟩)]⟩) (by kernel_rfl))) (gR q VH [10,60010,70010] [(29,(QC (Q9 l7 v14 i2 i6) 60010)),(31,(AV.list 1 Ax 0 (Q8 i2) .exact)),(32,(AV.list 1 Ax 0 ((Q9 l7 v14 i2 i6)++(Q8 i2)) (.own 60010)))] [] (lS c11_ (Eq.refl l7.length) (show(AVle (((Me 1 Ax (0:Int) l7 (Fm 70010 (Q4 v14 i2 i6).toNat 60010)) (Q4 v14 i2 i6).toNat).getD 0 .any) (QC (Q9 l7 v14 i2 i6) 60010)) from WD) (Bq 1 Ax (0:Int) (Q8 i2)) (Eq.refl ((Q9 l7 v14 i2 i6).length)) c12_ (V8 1 60010 Ax (0:Int) (Q9 l7 v14 i2 i6) (Q8 i2)) (Iv (Q9 l7 v14 i2 i6) (Q8 i2)) c13_ (c1 (Eq.refl l7.length))) (Tt (⟨(Q6 l7 i2 v14 i6),[(10,.arr 1 33 l7.length (λi_=>AV.eraseAll (λn_=>Cc n_ [10,60010,70010]) ((K5 (Me 1 Ax (0:Int) l7 (Fm 70010 (Q4 v14 i2 i6).toNat 60010)) (Q4 v14 i2 i6).toNat 0 [(AV.list 1 Ax 0 ((Q9 l7 v14 i2 i6)++(Q8 i2)) (.own 60010))]) i_))),(60010,.tok 1 3 (((Q9 l7 v14 i2 i6)++(Q8 i2)).length))],[(70010,⟨1,3,Wj l7 (Q4 v14 i2 i6).toNat⟩)]⟩:St) (M1 (Le.trans (Le.trans (jA (r:=10) (b:=70010) (k:=60010) Ax (0:Int) l7 (Q4 v14 i2 i6).toNat ((Q9 l7 v14 i2 i6)++(Q8 i2)) 3 rfl (cT (N6 c10_) rfl rfl) rfl rfl rfl rfl (N6 c10_) (by kernel_rfl) (.here (.tok .nil)) (by rw[hΓ];rfl)) (Nb (st':=⟨(Q6 l7 i2 v14 i6),(eH l7.length (jv l7 v14 i2 i6)),[(70010,⟨1,3,Mr (jv l7 v14 i2 i6)⟩)]⟩) (by kernel_rfl))) (Nb (B8 (λk_:Nat=>(⟨[(3,(.vsl 10 k_)),(4,(Z6 i2)),(11,(QA v14)),(12,(FA v14.length)),(13,(Z6 i2)),(18,(AV.list 1 Ax 0 (v14.getD i2.toNat []) .none)),(19,(.int .i64 ((v14.getD i2.toNat []).length:Int))),(20,(Z6 i6))],(eH k_ (jv l7 v14 i2 i6)),[(70010,⟨1,3,Mr (jv l7 v14 i2 i6)⟩)]⟩:St)) (show l7.length=(jv l7 v14 i2 i6).length from(Hy ..).symm)))) (Aq q VH Ot (tN h))))))) λh=>tS h (gO (Ed (Dw PS Ot q))))) λx14 h=>gA (Aq q PS Ot (tN h)))) λh=>tS h (gO (Ed (Dw [3] Ot q))))) λx16 h=>gA (Aq q [2] Ot (Tt (⟨[(2,(.vsl 10 x16.length))],(eH x16.length x16),[(70010,⟨1,3,Mr x16⟩)]⟩:St) (tS h (gK (e:=.ret) (K3 [(10,20000)] (Le.trans (Lh (nm:=10) (sz:=1) (n:=x16.length) (e:=33) (f:=(Me 1 Ax (0:Int) x16 (Tag.fam 70010))) (g:=(λi=>H2 (x16.getD i []))) rfl ⟨rfl,trivial⟩ (λ_ _=>rfl) (by rw[hΓ];rfl)) (Dw (st':=⟨[(2,(AV.list 1 H2 [] x16 (.own 10)))],[(10,.tok 1 33 x16.length)],[]⟩) [2] [10] q)))))))))))
def Ew(a4:Ab):jp->Option (LR (Int×Nv) (Nv ⊕ (Cy×Int))):=
 λ((i3,l4):jp)=>(bif (decide (i3<(a4.Blocks.length:Int))) then(Cs (B9 i3 a4.Blocks.length) ((Jp (⟨(a4.Blocks.getD i3.toNat default).End.Kind,(a4.Blocks.getD i3.toNat default).End.Arg,(a4.Blocks.getD i3.toNat default).End.To⟩:H1) (a4.Blocks.length:Int)).bind λx7=>(bif (!x7) then(some (.done (.inr ((⟨([]:Nv),([]:Nv)⟩:Cy),(5:Int))))) else((Xg ((a4.Blocks.getD i3.toNat default).End.To)).bind λx8=>(Cs (B9 i3 l4.length) (some (.next ((Bh (i3+1)),(l4.set i3.toNat x8))))))))) else(some (.done (.inl l4))))
abbrev lB:=(Cy×Int)
def QI(Γ:Gs)(a4:Ab)(r:lB):Exit->St->Prop:=fK Tryz.prog Γ Tryz.f87.results.toList [] (.tuple [(.agg (Pz r.1)),(Z6 r.2)]) []
def eA:AV:=Z5
def jZ:List iI:=[LI,(3,(.int .i64 (5:Int)))]
def mw(a4:Ab)(i3:Int):=(a4.Blocks.getD i3.toNat default)
def lD:AV:=(AV.list 1 H2 [] ([]:Nv) .none)
def lX(a4:Ab):=(List.replicate (a4.Blocks.length:Int).toNat ([]:Aw))
def gY:List AV:=[(AV.list 1 H2 [] ([]:Nv) .exact),(AV.list 1 H2 [] ([]:Nv) .exact)]
def Qd(a4:Ab):Option lB:=
 ((Ht (a4.Blocks.length:Int)).bind λx1=>(bif (!x1) then(some ((⟨([]:Nv),([]:Nv)⟩:Cy),(5:Int))) else(Cs (0<=(a4.Blocks.length:Int)/\(a4.Blocks.length:Int)<=(a4.Blocks.length:Int)/\(a4.Blocks.length:Int)<=(room:Int)) ((Aj (Ew a4) ((0:Int),(List.replicate (a4.Blocks.length:Int).toNat ([]:Aw)))).bind (λx10=>(match x10 with|(.inl l5)=>((Ii l5).bind λx12=>(some ((⟨l5,x12⟩:Cy),(0:Int))))|(.inr r13)=>(some r13)))))))
variable{v16:lB}
theorem NX(h:Qd v0=some v16):sP 87 [(.agg (X2 v0))] [] (.tuple [(.agg (Pz v16.1)),(Z6 v16.2)]) []:=
 sG Tryz.func87 λΓ q=>have hΓ:=q.own;tW q Xs Xs [1,2,4] Xs (tB h λx1 y1 h=>tT q [1,2,4,13] Xs [(Z2 x1)] (c1 (Ph y1)) (gC h (λh=>gR q Pr [2] [(14,(.agg gY))] [] (c1 (show(AVle (.agg [eA,eA]) (.agg gY)) from(AVle.agg (.cons D1 (.cons D1 .nil))))) (Tt (⟨jZ,[(LJ gY)],[]⟩:St) (tS h (gK (e:=.ret) (K3 [] (show Le Γ _ (⟨jZ,[(2,.row 99 [lD,lD])],[]⟩:St) from Le.trans (Dw (st':=⟨jZ,[(LJ gY)],[]⟩) Pr [2] q) (Kj (.cons (AVle.refl _) (.cons (AVle.refl _) .nil)) (.row (.cons AVle.untag (.cons AVle.untag .nil)) .nil)))))))) λh=>tV q [1,2,4,5] [1,2,16] h λh=>by exact M1 (Le.trans (Wl 16 (show ∀ k_,k_<((v0.Blocks.length:Int).toNat)->AVleL ((λi_=>AV.eraseAll (λn_=>Cc n_ [1,2,16]) ((λ_=>[eA]) i_)) k_) ((λi=>H2 ((lX v0).getD i [])) k_) from(λk hk=>Wp (e:=H2) (d:=[]) (.cons (λ_ _ _ _ _ hh=>AVle.untag _ _ _ _ _ (D1 _ _ _ _ _ hh)) .nil) _ k (W8 hk)))) (Sf (λ(k_:Nat) u=>(Fv u [(5,(.vsl 16 k_))] [(16,.arr 1 33 k_ (λi=>H2 ((lX v0).getD i [])))])) (show(v0.Blocks.length:Int).toNat=(lX v0).length from(Xi ..).symm))) (Aq q VM Vd (tL q h VM Vd (λu (i3,l4)=>(Fv u [(5,(.vsl 16 l4.length)),(20,(Z6 i3))] [(16,.arr 1 33 l4.length (λi=>H2 (l4.getD i [])))])) (λu x_=>match x_ with|(.inl l5)=>aG Γ (.exit 0) (Xv [2,5] Vd u [(5,(.vsl 16 l5.length))] [(16,.arr 1 33 l5.length (λi=>H2 (l5.getD i [])))])|(.inr r_)=>aR (QI Γ v0 r_)) (λ⟨i3,l4⟩ y h=>Aq q [2,4,5,18,19,20,21] Vd (gC h (λh=>tV q [2,4,5,6,7,18,19,20] [2,7,16] h λh=>tB h λx7 y7 h=>tT q [2,4,5,6,7,18,19,20,29] [2,7,16] [(Z2 x7)] (c1 (Yl y7)) (gC h (λh=>gR q Pr [2] [(30,(.agg gY))] [] (c1 (show(AVle (.agg [eA,eA]) (.agg gY)) from(AVle.agg (.cons D1 (.cons D1 .nil))))) (Tt (⟨jZ,[(LJ gY)],[]⟩:St) (tS h (gO (R0 (K3 [] (show Le Γ _ (⟨jZ,[(2,.row 99 [lD,lD])],[]⟩:St) from Le.trans (Dw (st':=⟨jZ,[(LJ gY)],[]⟩) Pr [2] q) (Kj (.cons (AVle.refl _) (.cons (AVle.refl _) .nil)) (.row (.cons AVle.untag (.cons AVle.untag .nil)) .nil))))))))) λh=>tB h λx8 y8 h=>tC h λc9_ h=>tT q VM Vd [⟨[],[],(Z9 x8),[],[],[]⟩] (c3 (SW ((mw v0 i3).End.To) x8 y8) c9_ (Eq.refl l4.length)) (M1 (Le.trans (Wl 16 (show ∀ k_,k_<l4.length->AVleL ((λi_=>AV.eraseAll (λn_=>Cc n_ Vd) ((K5 (λi=>H2 (l4.getD i [])) i3.toNat 0 [(Z9 x8)]) i_)) k_) ((λi=>H2 ((l4.set i3.toNat x8).getD i [])) k_) from(Ch (Hy ..).symm (λk_ hk_=>(B8 (AV.eraseAll (λn_=>Cc n_ Vd)) ((L2 (λ_ _=>rfl) (N7 c9_) rfl) k_ hk_)).trans rfl)))) (Sf (λ(k_:Nat) u=>(Fv u [(5,(.vsl 16 k_))] [(16,.arr 1 33 k_ (λi=>H2 ((l4.set i3.toNat x8).getD i [])))])) (show l4.length=(l4.set i3.toNat x8).length from(Hy ..).symm))) (Aq q VM Vd (tN h))))) λh=>tS h (gO (Ed (Dw [2,5] Vd q))))) λx10 h=>(match x10,h with | .inl l5,h=>gA (Tt (⟨[LI,(5,(.vsl 16 l5.length))],[(2,.row 99 [eA,eA]),(16,.arr 1 33 l5.length (λi=>H2 (l5.getD i [])))],[]⟩:St) (M1 (Le.trans (Lh (nm:=16) (sz:=1) (n:=l5.length) (e:=33) (f:=(λi=>H2 (l5.getD i []))) (g:=(λi=>H2 (l5.getD i []))) rfl ⟨rfl,trivial⟩ (λ_ _=>rfl) (by rw[hΓ];rfl)) (Nb (st':=⟨[LI,(5,(AV.list 1 H2 [] l5 (.own 16)))],[(2,.row 99 [eA,eA]),(16,.tok 1 33 l5.length)],[]⟩) (by kernel_rfl))) (tB h λx12 y12 h=>tT q Pr [2,16,41] [⟨[],[(20000,41)],(AV.list 1 H2 [] x12 (.own 20000)),[(20000,.tok 1 33 x12.length)],[],[]⟩] (c1 (Rg y12)) (tS h (C3 []))))) | .inr r13,h=>V1 (λst' hk=>tS h (gK hk)))))))
abbrev mr:=(LR (Int×Int) (Unit ⊕ Bool))
def Ck(aB:Nv)(i2:Int):Gq->Option mr:=
 λ((i4,i5):Gq)=>(bif (decide (i5<((aB.getD i2.toNat []).length:Int))) then(Cs (B9 i5 (aB.getD i2.toNat []).length) ((bif ((decide (((aB.getD i2.toNat []).getD i5.toNat 0)<=i4))==false) then Ga ((aB.getD i2.toNat []).getD i5.toNat 0) (aB.length:Int) else some false).bind λx7=>(bif (bif (decide (((aB.getD i2.toNat []).getD i5.toNat 0)<=i4)) then true else(!x7)) then(some (.done (.inr false))) else(some (.next (((aB.getD i2.toNat []).getD i5.toNat 0),(Bh (i5+1)))))))) else(some (.done (.inl ()))))
def Cl(aB:Nv):Int->Option (LR Int (Unit ⊕ Bool)):=
 λ(i2:Int)=>(bif (decide (i2<(aB.length:Int))) then(Cs (B9 i2 aB.length) ((Aj (Ck aB i2) ((-1:Int),(0:Int))).bind (λx8=>(match x8 with|(.inl _)=>(some (.next (Bh (i2+1))))|(.inr r10)=>(some (.done (.inr r10))))))) else(some (.done (.inl ()))))
def Qy(Γ:Gs)(aB:Nv)(r:Bool):Exit->St->Prop:=fK Tryz.prog Γ Tryz.f183.results.toList [] (.bool r) []
def lE(aB:Nv)(i2:Int)(i5:Int)(i4:Int):=(decide (((aB.getD i2.toNat []).getD i5.toNat 0)<=i4))
def Jq(aB:Nv):Option Bool:=
 ((Ht (aB.length:Int)).bind λx1=>(bif (!x1) then(some false) else((Aj (Cl aB) (0:Int)).bind (λx11=>(match x11 with|(.inl _)=>(some true)|(.inr r13)=>(some r13))))))
theorem Ym(h:Jq v14=some v3):sP 183 [(QA v14)] [] (.bool v3) []:=
 sG Tryz.func183 λΓ q=>Aq q [0] [] (tB h λx1 y1 h=>tT q [0,11] [] [(Z2 x1)] (c1 (Ph y1)) (gC h (λh=>Aq q [2] [] (tS h (C3 []))) λh=>Aq q PT [] (tL q h PT [] (λu i2=>(Fv u [(14,(Z6 i2))] [])) (λu x_=>match x_ with|(.inl _)=>aG Γ (.exit 0) (⟨[],[],[]⟩:St)|(.inr r_)=>aR (Qy Γ v14 r_)) (λi2 y h=>Aq q [0,12,13,14,15] [] (gC h (λh=>tV q [0,4,12,13,14] [] h λh=>tW q [0,4,5,12,13,14] [] VI [] (tL q h VI [] (λu (i4,i5)=>(Fv u [(5,(Z6 i4)),(20,(Z6 i5))] [])) (λu x_=>match x_ with|(.inl _)=>aG Γ (.exit 2) (Xv PT [] u [] [])|(.inr r_)=>aR (Qy Γ v14 r_)) (λ⟨i4,i5⟩ y h=>Aq q [0,5,12,13,14,18,19,20,21] [] (gC h (λh=>tV q [0,5,7,12,13,14,18,19,20] [] h λh=>tB h λx7 y7 h=>tT q [0,7,12,13,14,18,19,20,33] [] [(Z2 x7)] (QE ((lE v14 i2 i5 i4)==false) (c3 (λ(hg:((lE v14 i2 i5 i4)==false)=true)=>(Lp (Br hg y7))) (gI ((lE v14 i2 i5 i4)==false)) (Sb (lE v14 i2 i5 i4)))) (gC h (λh=>Aq q [2] [] (tS h (gO (R0 (K3 [] (Le.refl _ _)))))) λh=>tW q VI [] VI [] (tN h))) λh=>tS h (gO (Ed (Dw PT [] q))))) λx8 h=>(match x8,h with | .inl _,h=>gA (Aq q PT [] (tN h)) | .inr r10,h=>V1 (λst' hk=>tS h (gO (R0 hk)))))) λh=>tS h (gO (Ed (Dw [] [] q))))) λx11 h=>(match x11,h with | .inl _,h=>gA (Aq q [2] [] (tS h (C3 []))) | .inr r13,h=>V1 (λst' hk=>tS h (gK hk))))))
def Bf(aN:Aw)(aP:Aw):Int->Option (LR Int (Unit ⊕ Bool)):=
 λ(i1:Int)=>(bif (decide (i1<(aN.length:Int))) then(Cs (B9 i1 aN.length) (Cs (B9 i1 aP.length) (bif ((aN.getD i1.toNat 0)!=(aP.getD i1.toNat 0)) then(some (.done (.inr false))) else(some (.next (Bh (i1+1))))))) else(some (.done (.inl ()))))
def Pu(Γ:Gs)(aN:Aw)(aP:Aw)(r:Bool):Exit->St->Prop:=fK Tryz.prog Γ Tryz.f119.results.toList [] (.bool r) []
def Ea(aN:Aw)(aP:Aw):Option Bool:=
 (bif ((aN.length:Int)!=(aP.length:Int)) then(some false) else((Aj (Bf aN aP) (0:Int)).bind (λx4=>(match x4 with|(.inl _)=>(some true)|(.inr r6)=>(some r6)))))
variable{v17:Aw}
theorem J5(h:Ea v2 v17=some v3):sP 119 [(Z9 v2),(Z9 v17)] [] (.bool v3) []:=
 sG Tryz.func119 λΓ q=>tW q G0 [] AE [] (gC h (λh=>Aq q [4] [] (tS h (C3 []))) λh=>Aq q IP [] (tL q h IP [] (λu i1=>(Fv u [(13,(Z6 i1))] [])) (λu x_=>match x_ with|(.inl _)=>aG Γ (.exit 0) (⟨[],[],[]⟩:St)|(.inr r_)=>aR (Pu Γ v2 v17 r_)) (λi1 y h=>Aq q [0,1,12,13,14] [] (gC h (λh=>Aq q [0,1,5,12,13] [] (tC h λc2_ h=>tC h λc3_ h=>tU q [0,1,12,13,24] [] (c2 c2_ c3_) (gC h (λh=>Aq q [4] [] (tS h (gO (R0 (K3 [] (Le.refl _ _)))))) λh=>Aq q IP [] (tN h)))) λh=>tS h (gO (Ed (Dw [] [] q))))) λx4 h=>(match x4,h with | .inl _,h=>gA (Aq q [4] [] (tS h (C3 []))) | .inr r6,h=>V1 (λst' hk=>tS h (gK hk)))))
def As(aN:Nv)(aP:Nv):Int->Option (LR Int (Unit ⊕ Bool)):=
 λ(i1:Int)=>(bif (decide (i1<(aN.length:Int))) then(Cs (B9 i1 aN.length) (Cs (B9 i1 aP.length) ((Ea (aN.getD i1.toNat []) (aP.getD i1.toNat [])).bind λx4=>(bif (!x4) then(some (.done (.inr false))) else(some (.next (Bh (i1+1)))))))) else(some (.done (.inl ()))))
def Jr(Γ:Gs)(aN:Nv)(aP:Nv)(r:Bool):Exit->St->Prop:=fK Tryz.prog Γ Tryz.f184.results.toList [] (.bool r) []
def Cm(aN:Nv)(aP:Nv):Option Bool:=
 (bif ((aN.length:Int)!=(aP.length:Int)) then(some false) else((Aj (As aN aP) (0:Int)).bind (λx5=>(match x5 with|(.inl _)=>(some true)|(.inr r7)=>(some r7)))))
theorem Jj(h:Cm v14 v15=some v3):sP 184 [(QA v14),(QA v15),(.clo 119 [] [])] [] (.bool v3) []:=
 sG Tryz.func184 λΓ q=>tW q [0,1,2] [] [0,1,2,14] [] (gC h (λh=>Aq q [6] [] (tS h (C3 []))) λh=>Aq q db [] (tL q h db [] (λu i1=>(Fv u [(17,(Z6 i1))] [])) (λu x_=>match x_ with|(.inl _)=>aG Γ (.exit 0) (⟨[],[],[]⟩:St)|(.inr r_)=>aR (Jr Γ v14 v15 r_)) (λi1 y h=>Aq q [1,2,15,16,17,18] [] (gC h (λh=>tV q [1,2,7,8,15,16,17] [] h λh=>tV q [1,2,8,9,15,16,17] [] h λh=>tB h λx4 y4 h=>tT q [1,2,15,16,17,30] [] [(Z2 x4)] (c1 (J5 y4)) (gC h (λh=>Aq q [6] [] (tS h (gO (R0 (K3 [] (Le.refl _ _)))))) λh=>Aq q db [] (tN h))) λh=>tS h (gO (Ed (Dw [] [] q))))) λx5 h=>(match x5,h with | .inl _,h=>gA (Aq q [6] [] (tS h (C3 []))) | .inr r7,h=>V1 (λst' hk=>tS h (gK hk)))))
def Od(aD:Cy):Option Bool:=
 ((Jq aD.Succ).bind λx1=>((bif (x1==true) then Ii aD.Succ else some []).bind λx2=>((bif (x1==true) then Cm aD.Pred x2 else some false).bind λx3=>(some (bif x1 then x3 else false)))))
variable{v18:Cy}
theorem KI(h:Od v18=some v3):sP 160 [(.agg (Pz v18))] [] (.bool v3) []:=
 sG Tryz.func160 λΓ q=>Aq q [1] [1] (tB h λx1 y1 h=>tB h λx2 y2 h=>tB h λx3 y3 h=>tT q [2] [] [(Z2 x1),⟨[],[],(QA x2),[],[],[]⟩,(Z2 x3)] (ci (Ym y1) (QE (x1==true) (ci (show((x1==true)=true->(sP 117 [(QA v18.Succ)] [] (QA x2) [])) from(λhg=>(Spec.drop (Rg (Br hg y2))))) (Tu (x1==true) (c2 (λ(hg:(x1==true)=true)=>(Jj (Br hg y3))) (Nt x1)))))) (tS h (C3 [])))
abbrev mO:=(Int×Int×Aw)
def A9 :mO->Option (LR (Int×Int×Aw) Aw):=
 λ((i1,i2,l3):mO)=>(bif (decide (i1<i2)) then(Cs (B9 i2 l3.length) (Cs (B9 i1 l3.length) (Cs (B9 i1 l3.length) (Cs (B9 i2 l3.length) (some (.next ((Bh (i1+1)),(Bh (i2-1)),((l3.set i1.toNat (l3.getD i2.toNat 0)).set i2.toNat (l3.getD i1.toNat 0))))))))) else(some (.done l3)))
def lY(l3:Aw)(i1:Int)(i2:Int):=((l3.set i1.toNat (l3.getD i2.toNat 0)).set i2.toNat (l3.getD i1.toNat 0))
def Ds(aY:Aw):Option Aw:=
 ((Aj (S:=mO) (X:=Aw) A9 ((0:Int),(Bh ((aY.length:Int)-1)),aY)).bind (λx9=>(some x9)))
theorem Jc(h:Ds v2=some v17):sP 161 [(.vsl 34000 v2.length)] [(Z4 34000 v2)] (.tuple []) [(Z4 34000 v17)]:=
 sG Tryz.func161 λΓ q=>Aq q [0,2,3] [34000] (tL q h [0,2,3] [34000] (λu (i1,i2,l3)=>(Fv u [(0,(.vsl 34000 l3.length)),(2,(Z6 i1)),(3,(Z6 i2))] [(Z4 34000 l3)])) (λu l4=>aG Γ (.exit 0) (⟨[],[(Z4 34000 l4)],[]⟩:St)) (λ⟨i1,i2,l3⟩ y h=>Aq q [0,2,3,9] [34000] (gC h (λh=>tC h λc5_ h=>tC h λc6_ h=>tC h λc7_ h=>tC h λc8_ h=>tU q [0,2,3] [34000] (c8 c5_ (Eq.refl l3.length) c6_ (Eq.refl l3.length) c7_ (Eq.refl l3.length) c8_ (Eq.refl l3.length)) (M1 (Le.trans (Wl 34000 (show ∀ k_,k_<l3.length->AVleL ((λi_=>AV.eraseAll (λn_=>Cc n_ [34000]) ((K5 (K5 (λi=>Ax (l3.getD i 0)) i1.toNat 0 [(.int .i64 (l3.getD i2.toNat 0))]) i2.toNat 0 [(.int .i64 (l3.getD i1.toNat 0))]) i_)) k_) ((λi=>Ax ((lY l3 i1 i2).getD i 0)) k_) from(Ch (Eq.trans (Hy ..).symm (Hy ..).symm) (λk_ hk_=>(B8 (AV.eraseAll (λn_=>Cc n_ [34000])) ((L2 (L2 (λ_ _=>rfl) (N7 c7_) rfl) (e8 c8_) rfl) k_ hk_)).trans rfl)))) (Sf (λ(k_:Nat) u=>(Fv u [(0,(.vsl 34000 k_))] [(34000,.arr 1 3 k_ (λi=>Ax ((lY l3 i1 i2).getD i 0)))])) (show l3.length=(lY l3 i1 i2).length from(Eq.trans (Hy ..).symm (Hy ..).symm)))) (Aq q [0,2,3] [34000] (tN h)))) λh=>tS h (gO (Ed (Dw [] [34000] q))))) λx9 h=>gy (λst' hl10=>tS h (gK (e:=.normal) (K3 [(34000,34000)] hl10))))
abbrev mt:=(LR Aw (Aw ⊕ (List Bool×Aw×Aw)))
def X7(aD:Cy)(a2:Int):Aw->Option mt:=
 λ(l9:Aw)=>(Cs (B9 ([a2].getD (Bh (([a2].length:Int)-1)).toNat (0:Int)) 64) (Cs (B9 ([a2].getD (Bh (([a2].length:Int)-1)).toNat (0:Int)) aD.Succ.length) (bif (decide ((l9.getD ([a2].getD (Bh (([a2].length:Int)-1)).toNat (0:Int)).toNat (0:Int))<((aD.Succ.getD ([a2].getD (Bh (([a2].length:Int)-1)).toNat (0:Int)).toNat []).length:Int))) then(Cs (B9 ([a2].getD (Bh (([a2].length:Int)-1)).toNat (0:Int)) aD.Succ.length) (Cs (B9 ([a2].getD (Bh (([a2].length:Int)-1)).toNat (0:Int)) 64) (Cs (B9 (l9.getD ([a2].getD (Bh (([a2].length:Int)-1)).toNat (0:Int)).toNat (0:Int)) (aD.Succ.getD ([a2].getD (Bh (([a2].length:Int)-1)).toNat (0:Int)).toNat []).length) (Cs (B9 ([a2].getD (Bh (([a2].length:Int)-1)).toNat (0:Int)) 64) (Cs (B9 ([a2].getD (Bh (([a2].length:Int)-1)).toNat (0:Int)) 64) (Cs (B9 ((aD.Succ.getD ([a2].getD (Bh (([a2].length:Int)-1)).toNat (0:Int)).toNat []).getD (l9.getD ([a2].getD (Bh (([a2].length:Int)-1)).toNat (0:Int)).toNat (0:Int)).toNat (0:Int)) 64) (bif (!((Jz 64 false (List.replicate 64 false) a2.toNat true).getD ((aD.Succ.getD ([a2].getD (Bh (([a2].length:Int)-1)).toNat (0:Int)).toNat []).getD (l9.getD ([a2].getD (Bh (([a2].length:Int)-1)).toNat (0:Int)).toNat (0:Int)).toNat (0:Int)).toNat false)) then(Cs (B9 ((aD.Succ.getD ([a2].getD (Bh (([a2].length:Int)-1)).toNat (0:Int)).toNat []).getD (l9.getD ([a2].getD (Bh (([a2].length:Int)-1)).toNat (0:Int)).toNat (0:Int)).toNat (0:Int)) 64) (Cs ([a2].length+([((aD.Succ.getD ([a2].getD (Bh (([a2].length:Int)-1)).toNat (0:Int)).toNat []).getD (l9.getD ([a2].getD (Bh (([a2].length:Int)-1)).toNat (0:Int)).toNat (0:Int)).toNat (0:Int))]:Aw).length<=room) (some (.done (.inr ((Jz 64 false (Jz 64 false (List.replicate 64 false) a2.toNat true) ((aD.Succ.getD ([a2].getD (Bh (([a2].length:Int)-1)).toNat (0:Int)).toNat []).getD (l9.getD ([a2].getD (Bh (([a2].length:Int)-1)).toNat (0:Int)).toNat (0:Int)).toNat (0:Int)).toNat true),(Jz 64 (0:Int) l9 ([a2].getD (Bh (([a2].length:Int)-1)).toNat (0:Int)).toNat (Bh ((l9.getD ([a2].getD (Bh (([a2].length:Int)-1)).toNat (0:Int)).toNat (0:Int))+1))),([a2]++([((aD.Succ.getD ([a2].getD (Bh (([a2].length:Int)-1)).toNat (0:Int)).toNat []).getD (l9.getD ([a2].getD (Bh (([a2].length:Int)-1)).toNat (0:Int)).toNat (0:Int)).toNat (0:Int))]:Aw)))))))) else(some (.next (Jz 64 (0:Int) l9 ([a2].getD (Bh (([a2].length:Int)-1)).toNat (0:Int)).toNat (Bh ((l9.getD ([a2].getD (Bh (([a2].length:Int)-1)).toNat (0:Int)).toNat (0:Int))+1)))))))))))) else(some (.done (.inl l9))))))
def Fz(aD:Cy)(l1:List Bool)(l3:Aw):Aw->Option mt:=
 λ(l32:Aw)=>(Cs (B9 (l3.getD (Bh ((l3.length:Int)-1)).toNat (0:Int)) 64) (Cs (B9 (l3.getD (Bh ((l3.length:Int)-1)).toNat (0:Int)) aD.Succ.length) (bif (decide ((l32.getD (l3.getD (Bh ((l3.length:Int)-1)).toNat (0:Int)).toNat (0:Int))<((aD.Succ.getD (l3.getD (Bh ((l3.length:Int)-1)).toNat (0:Int)).toNat []).length:Int))) then(Cs (B9 (l3.getD (Bh ((l3.length:Int)-1)).toNat (0:Int)) aD.Succ.length) (Cs (B9 (l3.getD (Bh ((l3.length:Int)-1)).toNat (0:Int)) 64) (Cs (B9 (l32.getD (l3.getD (Bh ((l3.length:Int)-1)).toNat (0:Int)).toNat (0:Int)) (aD.Succ.getD (l3.getD (Bh ((l3.length:Int)-1)).toNat (0:Int)).toNat []).length) (Cs (B9 (l3.getD (Bh ((l3.length:Int)-1)).toNat (0:Int)) 64) (Cs (B9 (l3.getD (Bh ((l3.length:Int)-1)).toNat (0:Int)) 64) (Cs (B9 ((aD.Succ.getD (l3.getD (Bh ((l3.length:Int)-1)).toNat (0:Int)).toNat []).getD (l32.getD (l3.getD (Bh ((l3.length:Int)-1)).toNat (0:Int)).toNat (0:Int)).toNat (0:Int)) 64) (bif (!(l1.getD ((aD.Succ.getD (l3.getD (Bh ((l3.length:Int)-1)).toNat (0:Int)).toNat []).getD (l32.getD (l3.getD (Bh ((l3.length:Int)-1)).toNat (0:Int)).toNat (0:Int)).toNat (0:Int)).toNat false)) then(Cs (B9 ((aD.Succ.getD (l3.getD (Bh ((l3.length:Int)-1)).toNat (0:Int)).toNat []).getD (l32.getD (l3.getD (Bh ((l3.length:Int)-1)).toNat (0:Int)).toNat (0:Int)).toNat (0:Int)) 64) (Cs (l3.length+([((aD.Succ.getD (l3.getD (Bh ((l3.length:Int)-1)).toNat (0:Int)).toNat []).getD (l32.getD (l3.getD (Bh ((l3.length:Int)-1)).toNat (0:Int)).toNat (0:Int)).toNat (0:Int))]:Aw).length<=room) (some (.done (.inr ((Jz 64 false l1 ((aD.Succ.getD (l3.getD (Bh ((l3.length:Int)-1)).toNat (0:Int)).toNat []).getD (l32.getD (l3.getD (Bh ((l3.length:Int)-1)).toNat (0:Int)).toNat (0:Int)).toNat (0:Int)).toNat true),(Jz 64 (0:Int) l32 (l3.getD (Bh ((l3.length:Int)-1)).toNat (0:Int)).toNat (Bh ((l32.getD (l3.getD (Bh ((l3.length:Int)-1)).toNat (0:Int)).toNat (0:Int))+1))),(l3++([((aD.Succ.getD (l3.getD (Bh ((l3.length:Int)-1)).toNat (0:Int)).toNat []).getD (l32.getD (l3.getD (Bh ((l3.length:Int)-1)).toNat (0:Int)).toNat (0:Int)).toNat (0:Int))]:Aw)))))))) else(some (.next (Jz 64 (0:Int) l32 (l3.getD (Bh ((l3.length:Int)-1)).toNat (0:Int)).toNat (Bh ((l32.getD (l3.getD (Bh ((l3.length:Int)-1)).toNat (0:Int)).toNat (0:Int))+1)))))))))))) else(some (.done (.inl l32))))))
abbrev dG:=(List Bool×Aw×Aw×Aw)
def Ct(aD:Cy):dG->Option (LR (List Bool×Aw×Aw×Aw) Aw):=
 λ(s_:dG)=>match s_ with|(l1,l2,l3,l4)=>(Cs (B9 (Bh ((l3.length:Int)-1)) l3.length) ((Aj (Fz aD l1 l3) l2).bind (λx47=>(match x47 with|(.inl l33)=>(Cs (l4.length+([(l3.getD (Bh ((l3.length:Int)-1)).toNat (0:Int))]:Aw).length<=room) (Cs (0<=(Bh ((l3.length:Int)-1))/\0+(Bh ((l3.length:Int)-1)).toNat<=l3.length) (bif (decide ((0:Int)<((l3.take (Bh ((l3.length:Int)-1)).toNat).length:Int))) then(some (.next (l1,l33,(l3.take (Bh ((l3.length:Int)-1)).toNat),(l4++([(l3.getD (Bh ((l3.length:Int)-1)).toNat (0:Int))]:Aw))))) else((Ds (l4++([(l3.getD (Bh ((l3.length:Int)-1)).toNat (0:Int))]:Aw))).bind λx51=>(Cs ((l4++([(l3.getD (Bh ((l3.length:Int)-1)).toNat (0:Int))]:Aw)).length=x51.length) (some (.done x51)))))))|(.inr (l34,l35,l36))=>(some (.next (l34,l35,l36,l4)))))))
def EY(Γ:Gs)(aD:Cy)(a2:Int)(r:Aw):Exit->St->Prop:=fK Tryz.prog Γ Tryz.f123.results.toList [] (QC r 20000) [(20000,.tok 1 3 r.length)]
def jd(l1:List Bool):=(λi=>eB (l1.getD i false))
def YP(l3:Aw):=(l3.getD (Bh ((l3.length:Int)-1)).toNat (0:Int))
def ZH(l4:Aw)(l3:Aw):=(l4++([(YP l3)]:Aw))
def kB(l10:Aw):=(λi=>Ax (l10.getD i 0))
def kD(l33:Aw):=(λi=>Ax (l33.getD i 0))
def PX:=(λn_=>Cc n_ [2,5,6,25,36007])
def iT(a2:Int):=(λi=>Ax ([a2].getD i 0))
def TP(a2:Int):=([a2].getD (Bh (([a2].length:Int)-1)).toNat (0:Int))
def dh(a2:Int):=(([]:Aw)++([(TP a2)]:Aw))
def jf(a2:Int):=(λi=>Ax ((dh a2).getD i 0))
def je(l4:Aw)(l3:Aw):=(λi=>Ax ((ZH l4 l3).getD i 0))
def jb:AV:=gi
def lF:=(λi=>Ax (([]:Aw).getD i 0))
def iS(l3:Aw):=(0+(Bh ((l3.length:Int)-1)).toNat)
def ja(a2:Int):=(0+(Bh (([a2].length:Int)-1)).toNat)
def lc(a2:Int):=([a2].take (Bh (([a2].length:Int)-1)).toNat)
def lZ:=(λi=>Ax ((List.replicate 64 (0:Int)).getD i 0))
def ZG(aD:Cy):List AV:=[(QA aD.Succ),(QA aD.Pred)]
def gZ(a2:Int):=(λi=>eB ((Jz 64 false (List.replicate 64 false) a2.toNat true).getD i false))
def dg(aD:Cy)(l3:Aw)(l32:Aw):=((aD.Succ.getD (YP l3).toNat []).getD (l32.getD (YP l3).toNat (0:Int)).toNat (0:Int))
def df(aD:Cy)(a2:Int)(l9:Aw):=((aD.Succ.getD (TP a2).toNat []).getD (l9.getD (TP a2).toNat (0:Int)).toNat (0:Int))
def mR:=(Z61:St)
def mS(a2:Int):List iI:=[LI,ZQ,ZP,(7,(.vsl 36007 (dh a2).length)),(8,(.vsl 25 (ja a2)))]
def mQ(a2:Int)(aD:Cy):=(⟨[LI,ZQ,ZP,(7,(.vsl 36007 ([]:Aw).length)),(8,(.vsl 25 [a2].length)),(9,(Z6 (TP a2)))],[(LJ (ZG aD)),(ZR (gZ a2)),(YU lZ),(25,.arr 1 3 ([a2].length) (iT a2)),(36007,.arr 1 3 (([]:Aw).length) lF)],[]⟩:St)
def Gv(aD:Cy)(a2:Int):Option Aw:=
 ((O6 (S:=dG) (X:=Aw) ((Od aD).bind λx5=>((bif ((!x5)==false) then Ga a2 (aD.Succ.length:Int) else some false).bind λx6=>(bif (bif (!x5) then true else(!x6)) then(some (.done ([]:Aw))) else(Cs (B9 a2 64) (Cs (B9 (Bh (([a2].length:Int)-1)) [a2].length) ((Aj (X7 aD a2) (List.replicate 64 (0:Int))).bind (λx24=>(match x24 with|(.inl l10)=>(Cs (([]:Aw).length+([([a2].getD (Bh (([a2].length:Int)-1)).toNat (0:Int))]:Aw).length<=room) (Cs (0<=(Bh (([a2].length:Int)-1))/\0+(Bh (([a2].length:Int)-1)).toNat<=[a2].length) (bif (decide ((0:Int)<(([a2].take (Bh (([a2].length:Int)-1)).toNat).length:Int))) then(some (.next ((Jz 64 false (List.replicate 64 false) a2.toNat true),l10,([a2].take (Bh (([a2].length:Int)-1)).toNat),(([]:Aw)++([([a2].getD (Bh (([a2].length:Int)-1)).toNat (0:Int))]:Aw))))) else((Ds (([]:Aw)++([([a2].getD (Bh (([a2].length:Int)-1)).toNat (0:Int))]:Aw))).bind λx28=>(Cs ((([]:Aw)++([([a2].getD (Bh (([a2].length:Int)-1)).toNat (0:Int))]:Aw)).length=x28.length) (some (.done x28)))))))|(.inr (l11,l12,l13))=>(some (.next (l11,l12,l13,([]:Aw)))))))))))) (Ct aD)).bind (λx54=>(some x54)))
theorem Sq(h:Gv v18 v1=some v2):sP 123 [(.agg (Pz v18)),(Z6 v1)] [] (QC v2 20000) [(20000,.tok 1 3 v2.length)]:=
 sG Tryz.func123 λΓ q=>have hΓ:=q.own;gR q Xs [2] [(4,jb)] [] (c1 (It 1 Ax (0:Int))) (tB h λx54 y54 h=>gS y54 (λ(s_:dG)=>match s_ with|(l1,l2,l3,l4)=>0) (λ(s_:dG)=>match s_ with|(l1,l2,l3,l4)=>(⟨[LI,ZQ,ZP,(7,(.vsl 36007 l4.length)),(8,(.vsl 25 l3.length))],[(LJ (ZG v18)),(ZR (jd l1)),(kK l2),(Z4 25 l3),(Z4 36007 l4)],[]⟩:St)) (λr_=>aR (EY Γ v18 v1 r_)) (λy h=>tB h λx5 y5 h=>tB h λx6 y6 h=>tT q [1,2,21] [2] [(Z2 x5),(Z2 x6)] (ci (KI y5) (jm ((!x5)==false) (c3 (λ(hg:((!x5)==false)=true)=>(Lp (Br hg y6))) (gI ((!x5)==false)) (Sb (!x5))))) (gC h (λh=>gR q [4] [] [(4,jb)] [] (c1 (It 1 Ax (0:Int))) (Tt (⟨[(4,jb)],[],[]⟩:St) (tS h (gz (R0 (K3 [(6004,20000)] (show Le Γ _ mR from Le.trans (Dw (st':=⟨[(4,jb)],[],[]⟩) [4] [] q) (Le.trans (bp (t:=4) (nm:=6004) (sz':=1) lF 3 rfl rfl (.inl ⟨rfl,rfl⟩) (λh_=>absurd h_ (by decide))) (Dw (st':=mR) [4] [6004] q))))))))) λh=>gR q IU [2,5] [ZQ] [] trivial (M1 (Wl 5 (show ∀ k_,k_<64->AVleL ((λi_=>AV.eraseAll (λn_=>Cc n_ [2,5]) ((λi=>(((List.replicate 64 [(.bool false)]).flatten).drop (i*1)).take 1) i_)) k_) ((λi=>eB ((List.replicate 64 false).getD i false)) k_) from(GE (e:=eB) (d:=false) (z:=[(.bool false)]) rfl rfl rfl))) (gR q [1,2,5,6] Vc [ZP] [] trivial (M1 (Wl 6 (show ∀ k_,k_<64->AVleL ((λi_=>AV.eraseAll (λn_=>Cc n_ Vc) ((λi=>(((List.replicate 64 [N0]).flatten).drop (i*1)).take 1) i_)) k_) (lZ k_) from(GE (e:=Ax) (d:=(0:Int)) (z:=[N0]) rfl rfl rfl))) (gR q [1,2,5,6,7] Vc [(7,jb)] [] (c1 (It 1 Ax (0:Int))) (tC h λc7_ h=>tU q [1,2,5,6,7] Vc (c2 c7_ (Eq.refl 64)) (M1 (Wl 5 (show ∀ k_,k_<64->AVleL ((λi_=>AV.eraseAll (λn_=>Cc n_ Vc) ((K5 (λi=>eB ((List.replicate 64 false).getD i false)) v1.toNat 0 [(.bool true)]) i_)) k_) ((gZ v1) k_) from(Ch rfl (λk_ hk_=>(B8 (AV.eraseAll (λn_=>Cc n_ Vc)) ((Pj (λ_ _=>rfl) (N6 c7_) rfl) k_ hk_)).trans rfl)))) (gR q Th LD [(25,(.vsl 25 1))] [] trivial (M1 (Le.trans (Wl 25 (show ∀ k_,k_<1->AVleL ((λi_=>AV.eraseAll (λn_=>Cc n_ LD) ((λi_=>([(Z6 v1)].drop (i_*1)).take 1) i_)) k_) ((iT v1) k_) from(Ch rfl (fh (n:=0) jO rfl)))) (Sf (λ(k_:Nat) u=>(Fv u [(8,(.vsl 25 k_))] [(25,.arr 1 3 k_ (iT v1))])) (show 1=[v1].length from rfl))) (tC h λc8_ h=>tU q Va LD (c2 c8_ (Eq.refl ([v1].length))) (M1 (st':=(mQ v1 v18)) (Le.trans (Dw (st':=⟨[LI,ZQ,ZP,(7,jb),(8,(.vsl 25 [v1].length)),(9,(Z6 (TP v1)))],[(LJ (ZG v18)),(ZR (gZ v1)),(YU lZ),(25,.arr 1 3 ([v1].length) (iT v1))],[]⟩) Va LD q) (Le.trans (i0 (t:=7) (nm:=36007) (sz':=1) lF 3 rfl rfl) (Dw (st':=(mQ v1 v18)) Va Kb q))) (tL q h Va Kb (λu l9=>(Fv u [] [(kK l9)])) (λu x_=>match x_ with|(.inl l10)=>aG Γ (.exit 0) (Fv u [] [(YU (kB l10))])|(.inr (l11,l12,l13))=>aG Γ (.goto 0) (Xv Th Kb u [(8,(.vsl 25 l13.length))] [(5,.arr 1 207 64 (λi=>eB (l11.getD i false))),(kK l12),(Z4 25 l13)])) (λl9 y h=>tC h λc14_ h=>tC h λc15_ h=>tU q [2,5,6,7,8,9,41] Kb (c3 c14_ (Eq.refl 64) c15_) (gC h (λh=>tC h λc16_ h=>tC h λc17_ h=>tC h λc18_ h=>tU q VK Kb (c4 c16_ c17_ (Eq.refl 64) c18_) (tC h λc19_ h=>tC h λc20_ h=>tU q VK Kb (c4 c19_ (Eq.refl 64) c20_ (Eq.refl 64)) (M1 (Wl 6 (show ∀ k_,k_<64->AVleL ((λi_=>AV.eraseAll PX ((K5 (λi=>Ax (l9.getD i 0)) (TP v1).toNat 0 [(.int .i64 (Bh ((l9.getD (TP v1).toNat (0:Int))+1)))]) i_)) k_) ((λi=>Ax ((Jz 64 (0:Int) l9 (TP v1).toNat (Bh ((l9.getD (TP v1).toNat (0:Int))+1))).getD i 0)) k_) from(Ch rfl (λk_ hk_=>(B8 (AV.eraseAll PX) ((Pj (λ_ _=>rfl) (N6 c20_) rfl) k_ hk_)).trans rfl)))) (tC h λc21_ h=>tU q dL Kb (c2 c21_ (Eq.refl 64)) (gC h (λh=>tC h λc22_ h=>tU q [2,5,6,7,8,10] Kb (c2 c22_ (Eq.refl 64)) (M1 (Wl 5 (show ∀ k_,k_<64->AVleL ((λi_=>AV.eraseAll PX ((K5 (gZ v1) (df v18 v1 l9).toNat 0 [(.bool true)]) i_)) k_) ((λi=>eB ((Jz 64 false (Jz 64 false (List.replicate 64 false) v1.toNat true) (df v18 v1 l9).toNat true).getD i false)) k_) from(Ch rfl (λk_ hk_=>(B8 (AV.eraseAll PX) ((Pj (λ_ _=>rfl) (N6 c22_) rfl) k_ hk_)).trans rfl)))) (tC h λc23_ h=>gR q Th Kb [(65,(jj (df v18 v1 l9)))] [] (c3 (Bq 1 Ax (0:Int) ([(df v18 v1 l9)]:Aw)) (Eq.refl ([v1].length)) c23_) (tS h (gO (Ed (Le.trans (Le.trans (Wl 25 (show ∀ k_,k_<([v1].length+([(df v18 v1 l9)]:Aw).length)->AVleL ((λi_=>AV.eraseAll PX ((Jf ([v1].length) (iT v1) (λi=>Ax (([(df v18 v1 l9)]:Aw).getD i 0))) i_)) k_) ((λi=>Ax (([v1]++([(df v18 v1 l9)]:Aw)).getD i 0)) k_) from(Ch (Iv _ _) (λk_ hk_=>(B8 (AV.eraseAll PX) ((V7 (λ_ _=>rfl) (λ_ _=>rfl)) k_ hk_)).trans rfl)))) (Sf (λ(k_:Nat) u=>(Fv u [(8,(.vsl 25 k_))] [(25,.arr 1 3 k_ (λi=>Ax (([v1]++([(df v18 v1 l9)]:Aw)).getD i 0)))])) (show([v1].length+([(df v18 v1 l9)]:Aw).length)=([v1]++([(df v18 v1 l9)]:Aw)).length from(Iv _ _)))) Nu))))))) λh=>tS h (gN (Dw Va Kb q))))))) λh=>tS h (gO (Ed (Dw Va Kb q))))) λx24 h=>(match x24,h with | .inl l10,h=>gA (tC h λc26_ h=>gR q Th Kb [(69,(jj (TP v1)))] [] (c3 (Bq 1 Ax (0:Int) ([(TP v1)]:Aw)) (Eq.refl (([]:Aw).length)) c26_) (M1 (Le.trans (Wl 36007 (show ∀ k_,k_<(([]:Aw).length+([(TP v1)]:Aw).length)->AVleL ((λi_=>AV.eraseAll PX ((Jf (([]:Aw).length) lF (λi=>Ax (([(TP v1)]:Aw).getD i 0))) i_)) k_) ((jf v1) k_) from(Ch (Iv _ _) (λk_ hk_=>(B8 (AV.eraseAll PX) ((V7 (λ_ _=>rfl) (λ_ _=>rfl)) k_ hk_)).trans rfl)))) (Sf (λ(k_:Nat) u=>(Fv u [(7,(.vsl 36007 k_))] [(36007,.arr 1 3 k_ (jf v1))])) (show(([]:Aw).length+([(TP v1)]:Aw).length)=(dh v1).length from(Iv _ _)))) (tC h λc27_ h=>tU q Th Kb (c1 c27_) (Tt (⟨[LI,ZQ,ZP,(7,(.vsl 36007 (dh v1).length)),(8,(.vsub 25 [v1].length 0 (ja v1)))],[(LJ (ZG v18)),(ZR (gZ v1)),(YU (kB l10)),(25,.arr 1 3 ([v1].length) (iT v1)),(36007,.arr 1 3 ((dh v1).length) (jf v1))],[]⟩:St) (M1 (Le.trans (Le.trans (NB (t:=8) (r:=25) (k:=(ja v1)) rfl rfl c27_.2 (by kernel_rfl) (.row (by kernel_rfl) (.arr (λ_=>by kernel_rfl) (.arr (λ_=>by kernel_rfl) (.arr (λ_=>by kernel_rfl) (.arr (λ_=>by kernel_rfl) .nil))))) (by rw[hΓ];rfl)) (Nb (st':=⟨(mS v1),[(LJ (ZG v18)),(ZR (gZ v1)),(YU (kB l10)),(25,.arr 1 3 (ja v1) (iT v1)),(36007,.arr 1 3 ((dh v1).length) (jf v1))],[]⟩) (by kernel_rfl))) (Le.trans (Kj (st':=⟨(mS v1),[(LJ (ZG v18)),(ZR (gZ v1)),(YU (kB l10)),(25,.arr 1 3 (ja v1) (λi=>Ax ((lc v1).getD i 0))),(36007,.arr 1 3 ((dh v1).length) (jf v1))],[]⟩) (TmpsLe.refl _) (.same (.same (.same (.arr (UZ (e:=Ax) (d:=(0:Int))) (.same .nil)))))) (Nb (B8 (λk_:Nat=>(⟨[LI,ZQ,ZP,(7,(.vsl 36007 (dh v1).length)),(8,(.vsl 25 k_))],[(LJ (ZG v18)),(ZR (gZ v1)),(YU (kB l10)),(25,.arr 1 3 k_ (λi=>Ax ((lc v1).getD i 0))),(36007,.arr 1 3 ((dh v1).length) (jf v1))],[]⟩:St)) (show(ja v1)=(lc v1).length from OZ c27_.2))))) (Aq q [2,5,6,7,8,78] Kb (gC h (λh=>tS h (et (Dw Th Kb q))) λh=>tB h λx28 y28 h=>tC h λc29_ h=>tT q [7] [36007] [⟨[(36007,34000)],[],(.tuple []),[(Z4 34000 x28)],[],[]⟩] (c1 (Jc y28)) (M1 (Sf (λ(k_:Nat) u=>(Fv u [(7,(.vsl 36007 k_))] [])) (show(dh v1).length=x28.length from c29_)) (Aq q [4] [36007] (Tt (⟨[(4,(.vsl 36007 x28.length))],[(Z4 36007 x28)],[]⟩:St) (tS h (gz (R0 (K3 [(36007,20000)] (Le.trans (Lh (nm:=36007) (sz:=1) (n:=x28.length) (e:=3) (f:=(λi=>Ax (x28.getD i 0))) (g:=(λi=>Ax (x28.getD i 0))) rfl ⟨rfl,trivial⟩ (λ_ _=>rfl) (by rw[hΓ];rfl)) (Nb (st':=⟨[(4,(QC x28 36007))],[(36007,.tok 1 3 x28.length)],[]⟩) (by kernel_rfl))))))))))))))))) | .inr ⟨l11,l12,l13⟩,h=>gy (λst' hl30=>tS h (et (Le.trans hl30 Nu))))))))))))))))) (λ⟨l1,l2,l3,l4⟩ y h=>tC h λc31_ h=>tU q Va Kb (c2 c31_ (Eq.refl l3.length)) (tL q h Va Kb (λu l32=>(Fv u [] [(kK l32)])) (λu x_=>match x_ with|(.inl l33)=>aG Γ (.exit 0) (Fv u [] [(YU (kD l33))])|(.inr (l34,l35,l36))=>aG Γ (.goto 0) (Xv Th Kb u [(8,(.vsl 25 l36.length))] [(5,.arr 1 207 64 (λi=>eB (l34.getD i false))),(kK l35),(Z4 25 l36)])) (λl32 y h=>tC h λc37_ h=>tC h λc38_ h=>tU q [2,5,6,7,8,9,41] Kb (c3 c37_ (Eq.refl 64) c38_) (gC h (λh=>tC h λc39_ h=>tC h λc40_ h=>tC h λc41_ h=>tU q VK Kb (c4 c39_ c40_ (Eq.refl 64) c41_) (tC h λc42_ h=>tC h λc43_ h=>tU q VK Kb (c4 c42_ (Eq.refl 64) c43_ (Eq.refl 64)) (M1 (Wl 6 (show ∀ k_,k_<64->AVleL ((λi_=>AV.eraseAll PX ((K5 (λi=>Ax (l32.getD i 0)) (YP l3).toNat 0 [(.int .i64 (Bh ((l32.getD (YP l3).toNat (0:Int))+1)))]) i_)) k_) ((λi=>Ax ((Jz 64 (0:Int) l32 (YP l3).toNat (Bh ((l32.getD (YP l3).toNat (0:Int))+1))).getD i 0)) k_) from(Ch rfl (λk_ hk_=>(B8 (AV.eraseAll PX) ((Pj (λ_ _=>rfl) (N6 c43_) rfl) k_ hk_)).trans rfl)))) (tC h λc44_ h=>tU q dL Kb (c2 c44_ (Eq.refl 64)) (gC h (λh=>tC h λc45_ h=>tU q [2,5,6,7,8,10] Kb (c2 c45_ (Eq.refl 64)) (M1 (Wl 5 (show ∀ k_,k_<64->AVleL ((λi_=>AV.eraseAll PX ((K5 (jd l1) (dg v18 l3 l32).toNat 0 [(.bool true)]) i_)) k_) ((λi=>eB ((Jz 64 false l1 (dg v18 l3 l32).toNat true).getD i false)) k_) from(Ch rfl (λk_ hk_=>(B8 (AV.eraseAll PX) ((Pj (λ_ _=>rfl) (N6 c45_) rfl) k_ hk_)).trans rfl)))) (tC h λc46_ h=>gR q Th Kb [(65,(jj (dg v18 l3 l32)))] [] (c3 (Bq 1 Ax (0:Int) ([(dg v18 l3 l32)]:Aw)) (Eq.refl l3.length) c46_) (tS h (gO (Ed (Le.trans (Le.trans (Wl 25 (show ∀ k_,k_<(l3.length+([(dg v18 l3 l32)]:Aw).length)->AVleL ((λi_=>AV.eraseAll PX ((Jf l3.length (λi=>Ax (l3.getD i 0)) (λi=>Ax (([(dg v18 l3 l32)]:Aw).getD i 0))) i_)) k_) ((λi=>Ax ((l3++([(dg v18 l3 l32)]:Aw)).getD i 0)) k_) from(Ch (Iv _ _) (λk_ hk_=>(B8 (AV.eraseAll PX) ((V7 (λ_ _=>rfl) (λ_ _=>rfl)) k_ hk_)).trans rfl)))) (Sf (λ(k_:Nat) u=>(Fv u [(8,(.vsl 25 k_))] [(25,.arr 1 3 k_ (λi=>Ax ((l3++([(dg v18 l3 l32)]:Aw)).getD i 0)))])) (show(l3.length+([(dg v18 l3 l32)]:Aw).length)=(l3++([(dg v18 l3 l32)]:Aw)).length from(Iv _ _)))) Nu))))))) λh=>tS h (gN (Dw Va Kb q))))))) λh=>tS h (gO (Ed (Dw Va Kb q))))) λx47 h=>(match x47,h with | .inl l33,h=>gA (tC h λc49_ h=>gR q Th Kb [(69,(jj (YP l3)))] [] (c3 (Bq 1 Ax (0:Int) ([(YP l3)]:Aw)) (Eq.refl l4.length) c49_) (M1 (Le.trans (Wl 36007 (show ∀ k_,k_<(l4.length+([(YP l3)]:Aw).length)->AVleL ((λi_=>AV.eraseAll PX ((Jf l4.length (λi=>Ax (l4.getD i 0)) (λi=>Ax (([(YP l3)]:Aw).getD i 0))) i_)) k_) ((je l4 l3) k_) from(Ch (Iv _ _) (λk_ hk_=>(B8 (AV.eraseAll PX) ((V7 (λ_ _=>rfl) (λ_ _=>rfl)) k_ hk_)).trans rfl)))) (Sf (λ(k_:Nat) u=>(Fv u [(7,(.vsl 36007 k_))] [(36007,.arr 1 3 k_ (je l4 l3))])) (show(l4.length+([(YP l3)]:Aw).length)=(ZH l4 l3).length from(Iv _ _)))) (tC h λc50_ h=>tU q Th Kb (c1 c50_) (Tt (⟨[LI,ZQ,ZP,(7,(.vsl 36007 (ZH l4 l3).length)),(8,(.vsub 25 l3.length 0 (iS l3)))],[(LJ (ZG v18)),(ZR (jd l1)),(YU (kD l33)),(Z4 25 l3),(36007,.arr 1 3 ((ZH l4 l3).length) (je l4 l3))],[]⟩:St) (M1 (Le.trans (Le.trans (NB (t:=8) (r:=25) (k:=(iS l3)) rfl rfl c50_.2 (by kernel_rfl) (.row (by kernel_rfl) (.arr (λ_=>by kernel_rfl) (.arr (λ_=>by kernel_rfl) (.arr (λ_=>by kernel_rfl) (.arr (λ_=>by kernel_rfl) .nil))))) (by rw[hΓ];rfl)) (Nb (st':=⟨[LI,ZQ,ZP,(7,(.vsl 36007 (ZH l4 l3).length)),(8,(.vsl 25 (iS l3)))],[(LJ (ZG v18)),(ZR (jd l1)),(YU (kD l33)),(25,.arr 1 3 (iS l3) (λi=>Ax (l3.getD i 0))),(36007,.arr 1 3 ((ZH l4 l3).length) (je l4 l3))],[]⟩) (by kernel_rfl))) (Le.trans (Kj (st':=⟨[LI,ZQ,ZP,(7,(.vsl 36007 (ZH l4 l3).length)),(8,(.vsl 25 (iS l3)))],[(LJ (ZG v18)),(ZR (jd l1)),(YU (kD l33)),(25,.arr 1 3 (iS l3) (λi=>Ax ((l3.take (Bh ((l3.length:Int)-1)).toNat).getD i 0))),(36007,.arr 1 3 ((ZH l4 l3).length) (je l4 l3))],[]⟩) (TmpsLe.refl _) (.same (.same (.same (.arr (UZ (e:=Ax) (d:=(0:Int))) (.same .nil)))))) (Nb (B8 (λk_:Nat=>(⟨[LI,ZQ,ZP,(7,(.vsl 36007 (ZH l4 l3).length)),(8,(.vsl 25 k_))],[(LJ (ZG v18)),(ZR (jd l1)),(YU (kD l33)),(25,.arr 1 3 k_ (λi=>Ax ((l3.take (Bh ((l3.length:Int)-1)).toNat).getD i 0))),(36007,.arr 1 3 ((ZH l4 l3).length) (je l4 l3))],[]⟩:St)) (show(iS l3)=(l3.take (Bh ((l3.length:Int)-1)).toNat).length from OZ c50_.2))))) (Aq q [2,5,6,7,8,78] Kb (gC h (λh=>tS h (et (Dw Th Kb q))) λh=>tB h λx51 y51 h=>tC h λc52_ h=>tT q [7] [36007] [⟨[(36007,34000)],[],(.tuple []),[(Z4 34000 x51)],[],[]⟩] (c1 (Jc y51)) (M1 (Sf (λ(k_:Nat) u=>(Fv u [(7,(.vsl 36007 k_))] [])) (show(ZH l4 l3).length=x51.length from c52_)) (Aq q [4] [36007] (Tt (⟨[(4,(.vsl 36007 x51.length))],[(Z4 36007 x51)],[]⟩:St) (tS h (gz (R0 (K3 [(36007,20000)] (Le.trans (Lh (nm:=36007) (sz:=1) (n:=x51.length) (e:=3) (f:=(λi=>Ax (x51.getD i 0))) (g:=(λi=>Ax (x51.getD i 0))) rfl ⟨rfl,trivial⟩ (λ_ _=>rfl) (by rw[hΓ];rfl)) (Nb (st':=⟨[(4,(QC x51 36007))],[(36007,.tok 1 3 x51.length)],[]⟩) (by kernel_rfl))))))))))))))))) | .inr ⟨l34,l35,l36⟩,h=>gy (λst' hl53=>tS h (et (Le.trans hl53 Nu)))))) (V1 (λst' hk=>tS h (gK hk))))
def Wo(a3:Int)(aM:Int):Option Gq:=
 (some ((Ez ((Ez ((Ez ((Xc .u64 a3 (32:Int))*(Xc .u64 aM (32:Int))))+(Xc .u64 (Ez ((Ez ((Xc .u64 a3 (32:Int))*(N4 .and .u64 aM (4294967295:Int))))+(Xc .u64 (Ez ((N4 .and .u64 a3 (4294967295:Int))*(N4 .and .u64 aM (4294967295:Int)))) (32:Int)))) (32:Int))))+(Xc .u64 (Ez ((N4 .and .u64 (Ez ((Ez ((Xc .u64 a3 (32:Int))*(N4 .and .u64 aM (4294967295:Int))))+(Xc .u64 (Ez ((N4 .and .u64 a3 (4294967295:Int))*(N4 .and .u64 aM (4294967295:Int)))) (32:Int)))) (4294967295:Int))+(Ez ((N4 .and .u64 a3 (4294967295:Int))*(Xc .u64 aM (32:Int)))))) (32:Int)))),(Ez (a3*aM))))
variable{v19:Gq}
theorem FI(h:Wo v1 v11=some v19):sP 208 [(Ja v1),(Ja v11)] [] (.tuple [(Ja v19.1),(Ja v19.2)]) []:=
 sG Tryz.func208 λΓ q=>tW q G0 [] [0,1,6] [] (tU q [0,1,6,7] [] (c1 (show(0<=(32:Int)) from(by decide))) (Aq q [0,1,6,7,8] [] (tU q [0,1,6,7,8,9] [] (c1 (show(0<=(32:Int)) from(by decide))) (Aq q [0,1,6,7,8,9,10] [] (tU q [0,1,6,7,9,11] [] (c1 (show(0<=(32:Int)) from(by decide))) (Aq q [0,1,6,7,9,11,12] [] (tU q [0,1,6,7,9,12,13] [] (c1 (show(0<=(32:Int)) from(by decide))) (Aq q [0,1,7,9,12,13] [] (tU q [0,1,4] [] (c1 (show(0<=(32:Int)) from(by decide))) (Aq q Rn [] (tS h (C3 []))))))))))))
def Lj(a3:Int)(aM:Int):Option Gq:=
 ((Wo a3 aM).bind λx1=>(some (x1.1,x1.2)))
theorem Zl(h:Lj v1 v11=some v19):sP 185 [(Ja v1),(Ja v11)] [] (.tuple [(Ja v19.1),(Ja v19.2)]) []:=
 sG Tryz.func185 λΓ q=>Aq q G0 [] (WZ false (tB h λx1 y1 h=>tT q [8,9] [] [⟨[],[],(.tuple [(Ja x1.1),(Ja x1.2)]),[],[],[]⟩] (c1 (FI y1)) (Aq q Rn [] (tS h (C3 [])))))
abbrev SY:=(Int×Aw)
def Cb :SY->Option (LR (Int×Aw) Aw):=
 λ((i7,l8):SY)=>(bif (decide (i7<(l8.length:Int))) then(Cs (0<=i7/\0+i7.toNat<=l8.length) (Cs (0<=i7/\0+i7.toNat<=l8.length) (some (.next ((Bh (i7+((Nat.min ((0+i7.toNat)-0) (l8.length-(0+i7.toNat))):Int))),(RE l8 (0+i7.toNat) (Nat.min ((0+i7.toNat)-0) (l8.length-(0+i7.toNat))) (λi=>l8.getD (0+i) 0))))))) else(some (.done l8)))
def ZI(x3:Gq):=(List.replicate (Bh x3.2).toNat (0:Int))
def lf(x3:Gq)(a3:Aw):=(RE (ZI x3) 0 (Nat.min a3.length ((ZI x3).length-0)) (λi=>a3.getD i 0))
def ld(l8:Aw)(i7:Int):=(RE l8 (0+i7.toNat) (Nat.min ((0+i7.toNat)-0) (l8.length-(0+i7.toNat))) (λi=>l8.getD (0+i) 0))
def E6(a3:Aw)(aZ:Int):Option Aw:=
 (Option.bind (α:=Unit) (bif (decide (aZ<0)) then none else(some ())) (λx1=>(match x1 with|_=>((Lj (Ez (a3.length:Int)) (Ez aZ)).bind λx3=>(Option.bind (α:=Unit) (bif (bif (decide ((0:Int)<x3.1)) then true else(decide ((9223372036854775807:Int)<x3.2))) then none else(some ())) (λx4=>(match x4 with|_=>(Cs (0<=(Bh x3.2)/\(Bh x3.2)<=(Bh x3.2)/\(Bh x3.2)<=(room:Int)) ((Aj (S:=SY) (X:=Aw) Cb (((Nat.min a3.length ((List.replicate (Bh x3.2).toNat (0:Int)).length-0)):Int),(RE (List.replicate (Bh x3.2).toNat (0:Int)) 0 (Nat.min a3.length ((List.replicate (Bh x3.2).toNat (0:Int)).length-0)) (λi=>a3.getD i 0)))).bind (λx12=>(some x12)))))))))))
theorem O5(h:E6 v2 v1=some v17):sP 162 [(Z9 v2),(Z6 v1)] [] (.vsl 20000 v17.length) [(Z4 20000 v17)]:=
 sG Tryz.func162 λΓ q=>gR q G0 [] [(4,gi)] [] (c1 (It 1 Ax (0:Int))) (tB h λx1 y1 h=>gJ y1 (λ_=>aG Γ .normal (⟨[(0,(Z9 v2)),(1,(Z6 v1))],[],[]⟩:St)) (λy h=>Aq q AE [] (gC h (λh=>nomatch h) λh=>tS h (gK (Ed (Dw G0 [] q))))) (gA (tB h λx3 y3 h=>tT q [0,5,6] [] [⟨[],[],(.tuple [(Ja x3.1),(Ja x3.2)]),[],[],[]⟩] (c1 (Zl y3)) (tB h λx4 y4 h=>gJ y4 (λ_=>aG Γ .normal (⟨[(0,(Z9 v2)),(6,(Ja x3.2))],[],[]⟩:St)) (λy h=>tU q [0,6,26] [] (c2 (gI ((decide ((0:Int)<x3.1))==false)) (Sb (decide ((0:Int)<x3.1)))) (gC h (λh=>nomatch h) λh=>tS h (gK (Ed (Dw [0,6] [] q))))) (gA (tV q [0,7] [30] h λh=>by exact M1 (Le.trans (Wl 30 (show ∀ k_,k_<((Bh x3.2).toNat)->AVleL ((λi_=>AV.eraseAll (λn_=>Cc n_ [30]) ((λ_=>[N0]) i_)) k_) ((λi=>Ax ((ZI x3).getD i 0)) k_) from(λk hk=>Wp (e:=Ax) (d:=(0:Int)) (.cons (AVle.refl _) .nil) _ k (W8 hk)))) (Sf (λ(k_:Nat) u=>(Fv u [(7,(.vsl 30 k_))] [(30,.arr 1 3 k_ (λi=>Ax ((ZI x3).getD i 0)))])) (show(Bh x3.2).toNat=(ZI x3).length from(Xi ..).symm))) (tU q L8 [30] (c1 (Eq.refl ((ZI x3).length))) (M1 (Le.trans (Wl 30 (show ∀ k_,k_<((ZI x3).length)->AVleL ((λi_=>AV.eraseAll (λn_=>Cc n_ [30]) ((MN (λi=>Ax ((ZI x3).getD i 0)) 0 (Nat.min v2.length ((ZI x3).length-0)) (λi=>Ax (v2.getD i 0))) i_)) k_) ((λi=>Ax ((lf x3 v2).getD i 0)) k_) from(Ch (F0 ..) (λk_ hk_=>(B8 (AV.eraseAll (λn_=>Cc n_ [30])) ((BA (e:=Ax) (d:=(0:Int)) (l:=(ZI x3)) (s:=(λi=>v2.getD i 0)) (λ_ _=>rfl) (λ_ _=>rfl)) k_ hk_)).trans rfl)))) (Sf (λ(k_:Nat) u=>(Fv u [(7,(.vsl 30 k_))] [(30,.arr 1 3 k_ (λi=>Ax ((lf x3 v2).getD i 0)))])) (show(ZI x3).length=(lf x3 v2).length from(F0 ..)))) (tL q h L8 [30] (λu (i7,l8)=>(Fv u [(7,(.vsl 30 l8.length)),(8,(Z6 i7))] [(Z4 30 l8)])) (λu l9=>aG Γ (.exit 0) (⟨[(7,(.vsl 30 l9.length))],[(Z4 30 l9)],[]⟩:St)) (λ⟨i7,l8⟩ y h=>Aq q [7,8,37] [30] (gC h (λh=>tC h λc10_ h=>tC h λc11_ h=>tU q L8 [30] (c4 c10_ c11_ (Eq.refl l8.length) (Eq.refl l8.length)) (tS h (gN (Le.trans (Le.trans (Wl 30 (show ∀ k_,k_<l8.length->AVleL ((λi_=>AV.eraseAll (λn_=>Cc n_ [30]) ((MN (λi=>Ax (l8.getD i 0)) (0+i7.toNat) (Nat.min ((0+i7.toNat)-0) (l8.length-(0+i7.toNat))) (λi=>(λi=>Ax (l8.getD i 0)) (0+i))) i_)) k_) ((λi=>Ax ((ld l8 i7).getD i 0)) k_) from(Ch (F0 ..) (λk_ hk_=>(B8 (AV.eraseAll (λn_=>Cc n_ [30])) ((BA (e:=Ax) (d:=(0:Int)) (l:=l8) (s:=(λi=>l8.getD (0+i) 0)) (λ_ _=>rfl) (λ_ _=>rfl)) k_ hk_)).trans rfl)))) (Sf (λ(k_:Nat) u=>(Fv u [(7,(.vsl 30 k_))] [(30,.arr 1 3 k_ (λi=>Ax ((ld l8 i7).getD i 0)))])) (show l8.length=(ld l8 i7).length from(F0 ..)))) Nu)))) λh=>tS h (gO (Ed (Dw [7] [30] q))))) λx12 h=>gA (Aq q [4] [30] (tS h (C3 [(30,20000)]))))))))))))
def Fq(aC:Aw):(Int×List Bool)->Option (LR (Int×List Bool) (List Bool)):=
 λ((i2,l3):(Int×List Bool))=>(bif (i2 !=-1) then(Cs (B9 i2 l3.length) (Cs (B9 i2 aC.length) (some (.next ((aC.getD i2.toNat 0),(l3.set i2.toNat true)))))) else(some (.done l3)))
def Fs(aC:Aw)(l4:List Bool):Int->Option (LR Int Int):=
 λ(i9:Int)=>(Cs (B9 i9 l4.length) (bif (!(l4.getD i9.toNat false)) then(Cs (B9 i9 aC.length) (some (.next (aC.getD i9.toNat 0)))) else(some (.done i9))))
def Ll(aC:Aw)(aH:Int)(aI:Int):Option Int:=
 (Cs (0<=(aC.length:Int)/\(aC.length:Int)<=(aC.length:Int)/\(aC.length:Int)<=(room:Int)) ((Aj (Fq aC) (aH,(List.replicate (aC.length:Int).toNat false))).bind (λx7=>((Aj (Fs aC x7) aI).bind (λx13=>(some x13))))))
variable{v20:Int}
theorem Zm(h:Ll v2 v1 v11=some v20):sP 186 [(Z9 v2),(Z6 v1),(Z6 v11)] [] (.int .i64 v20) []:=
 sG Tryz.func186 λΓ q=>Aq q [0,1,2] [] (tV q [0,1,2,7] [11] h λh=>by exact M1 (Le.trans (Wl 11 (show ∀ k_,k_<((v2.length:Int).toNat)->AVleL ((λi_=>AV.eraseAll (λn_=>Cc n_ [11]) ((λ_=>[(.bool false)]) i_)) k_) ((λi=>eB ((List.replicate (v2.length:Int).toNat false).getD i false)) k_) from(λk hk=>Wp (e:=eB) (d:=false) (.cons (AVle.refl _) .nil) _ k (W8 hk)))) (Sf (λ(k_:Nat) u=>(Fv u [(7,(.vsl 11 k_))] [(11,.arr 1 4 k_ (λi=>eB ((List.replicate (v2.length:Int).toNat false).getD i false)))])) (show(v2.length:Int).toNat=(List.replicate (v2.length:Int).toNat false).length from(Xi ..).symm))) (Aq q LE [11] (tL q h LE [11] (λu (i2,l3)=>(Fv u [(7,(.vsl 11 l3.length)),(8,(Z6 i2))] [(11,.arr 1 4 l3.length (λi=>eB (l3.getD i false)))])) (λu l4=>aG Γ (.exit 0) (Xv [0,2,7] [11] u [(7,(.vsl 11 l4.length))] [(11,.arr 1 4 l4.length (λi=>eB (l4.getD i false)))])) (λ⟨i2,l3⟩ y h=>Aq q [0,2,7,8,14] [11] (gC h (λh=>tC h λc5_ h=>tU q LE [11] (c2 c5_ (Eq.refl l3.length)) (M1 (Le.trans (Wl 11 (show ∀ k_,k_<l3.length->AVleL ((λi_=>AV.eraseAll (λn_=>Cc n_ [11]) ((K5 (λi=>eB (l3.getD i false)) i2.toNat 0 [(.bool true)]) i_)) k_) ((λi=>eB ((l3.set i2.toNat true).getD i false)) k_) from(Ch (Hy ..).symm (λk_ hk_=>(B8 (AV.eraseAll (λn_=>Cc n_ [11])) ((L2 (λ_ _=>rfl) (N7 c5_) rfl) k_ hk_)).trans rfl)))) (Sf (λ(k_:Nat) u=>(Fv u [(7,(.vsl 11 k_))] [(11,.arr 1 4 k_ (λi=>eB ((l3.set i2.toNat true).getD i false)))])) (show l3.length=(l3.set i2.toNat true).length from(Hy ..).symm))) (tV q LE [11] h λh=>tN h))) λh=>tS h (gO (Ed (Dw [0,2,7] [11] q))))) λx7 h=>gA (tL q h [0,2,7] [11] (λu i9=>(Fv u [(2,(Z6 i9))] [])) (λu i10=>aG Γ (.exit 2) (⟨[(2,(Z6 i10))],[],[]⟩:St)) (λi9 y h=>tC h λc11_ h=>tU q [0,2,7,26] [11] (c2 c11_ (Eq.refl x7.length)) (gC h (λh=>tV q [0,2,7] [11] h λh=>tN h) λh=>tS h (gO (Ed (Dw [2] [] q))))) λx13 h=>gA (Aq q [6] [] (tS h (C3 [])))))))
def Dx(aC:Aw)(aA:Aw):Gq->Option k5:=
 λ((i1,i2):Gq)=>(bif (decide (i2<(aA.length:Int))) then(Option.bind (α:=Int) (Cs (B9 i2 aA.length) (Cs (B9 (aA.getD i2.toNat 0) aC.length) (bif ((aC.getD (aA.getD i2.toNat 0).toNat (0:Int))==-2) then(some i1) else(bif (i1==-2) then(some (aA.getD i2.toNat 0)) else((Ll aC i1 (aA.getD i2.toNat 0)).bind λx7=>(some x7)))))) (λx8=>(some (.next (x8,(Bh (i2+1))))))) else(some (.done i1)))
def H0(aC:Aw)(aA:Aw):Option Int:=
 ((Aj (Dx aC aA) ((-2:Int),(0:Int))).bind (λx10=>(some x10)))
theorem Sp(h:H0 v2 v17=some v1):sP 163 [(Z9 v2),(Z9 v17)] [] (.int .i64 v1) []:=
 sG Tryz.func163 λΓ q=>tW q G0 [] EV [] (Aq q IL [] (tL q h IL [] (λu (i1,i2)=>(Fv u [(5,(Z6 i1)),(10,(Z6 i2))] [])) (λu i3=>aG Γ (.exit 0) (⟨[(5,(Z6 i3))],[],[]⟩:St)) (λ⟨i1,i2⟩ y h=>Aq q [0,5,8,9,10,11] [] (gC h (λh=>tB h λx8 y8 h=>gJ y8 (λi4=>aG Γ .normal (⟨[(0,(Z9 v2)),(5,(Z6 i4)),(8,(Z9 v17)),(9,(FA v17.length)),(10,(Z6 i2))],[],[]⟩:St)) (λy h=>tV q [0,5,7,8,9,10] [] h λh=>tV q [0,5,7,8,9,10,18] [] h λh=>gC h (λh=>tS h (gK (Ed (Dw IL [] q)))) λh=>Aq q [0,5,7,8,9,10,24] [] (gC h (λh=>Aq q IL [] (tS h (gK (Ed Nu)))) λh=>tB h λx7 y7 h=>tT q IL [] [(VZ x7)] (c1 (Zm y7)) (tS h (gK (Ed Nu))))) (gA (Aq q IL [] (tN h)))) λh=>tS h (gO (Ed (Dw [5] [] q))))) λx10 h=>gA (Aq q [4] [] (tS h (C3 [])))))
set_option maxRecDepth 100000
set_option maxHeartbeats 2000000
abbrev gM:=(Bool×Int×Aw)
abbrev kw:=(LR (Bool×Int×Aw) (Bool×Aw))
abbrev dH:=(Bool×Aw)
def Dr(aD:Cy)(x3:Aw):gM->Option kw:=
 λ((b7,i8,l9):gM)=>(bif (decide (i8<((x3.drop (1:Int).toNat).length:Int))) then(Option.bind (α:=dH) (Cs (B9 i8 (x3.drop (1:Int).toNat).length) (Cs (B9 ((x3.drop (1:Int).toNat).getD i8.toNat 0) aD.Pred.length) ((H0 l9 (aD.Pred.getD ((x3.drop (1:Int).toNat).getD i8.toNat 0).toNat [])).bind λx16=>(Cs (B9 ((x3.drop (1:Int).toNat).getD i8.toNat 0) l9.length) (bif (x16 !=(l9.getD ((x3.drop (1:Int).toNat).getD i8.toNat 0).toNat (0:Int))) then(Cs (B9 ((x3.drop (1:Int).toNat).getD i8.toNat 0) l9.length) (some (true,(l9.set ((x3.drop (1:Int).toNat).getD i8.toNat 0).toNat x16)))) else(some (b7,l9))))))) (λ(b12,l13)=>(some (.next (b12,(Bh (i8+1)),l13))))) else(some (.done (b7,l9))))
def Ow(aD:Cy)(l1:Aw):gM->Option kw:=
 λ((b24,i25,l26):gM)=>(bif (decide (i25<((l1.drop (1:Int).toNat).length:Int))) then(Option.bind (α:=dH) (Cs (B9 i25 (l1.drop (1:Int).toNat).length) (Cs (B9 ((l1.drop (1:Int).toNat).getD i25.toNat 0) aD.Pred.length) ((H0 l26 (aD.Pred.getD ((l1.drop (1:Int).toNat).getD i25.toNat 0).toNat [])).bind λx33=>(Cs (B9 ((l1.drop (1:Int).toNat).getD i25.toNat 0) l26.length) (bif (x33 !=(l26.getD ((l1.drop (1:Int).toNat).getD i25.toNat 0).toNat (0:Int))) then(Cs (B9 ((l1.drop (1:Int).toNat).getD i25.toNat 0) l26.length) (some (true,(l26.set ((l1.drop (1:Int).toNat).getD i25.toNat 0).toNat x33)))) else(some (b24,l26))))))) (λ(b29,l30)=>(some (.next (b29,(Bh (i25+1)),l30))))) else(some (.done (b24,l26))))
abbrev dI:=(Aw×Aw)
def Eu(aD:Cy):dI->Option (LR (Aw×Aw) Aw):=
 λ(s_:dI)=>match s_ with|(l1,l2)=>(Cs (0<=(1:Int)/\(1:Int)<=(l1.length:Int)) ((Aj (Ow aD l1) (false,(0:Int),l2)).bind (λx38=>(match x38 with|(b27,l28)=>(bif b27 then(some (.next (l1,l28))) else(some (.done l28)))))))
def QH(Γ:Gs)(aD:Cy)(aS:Int)(r:Aw):Exit->St->Prop:=fK Tryz.prog Γ Tryz.f124.results.toList [] (QC r 20000) [(20000,.tok 1 3 r.length)]
def jg:=(λn_=>Cc n_ [2,13,21])
def lI:List iI:=[(4,gi)]
def lH(x3:Aw)(i8:Int):=((x3.drop (1:Int).toNat).getD i8.toNat 0)
def lG(l1:Aw)(i25:Int):=((l1.drop (1:Int).toNat).getD i25.toNat 0)
def lg(aD:Cy):List AV:=[(QA aD.Succ),(QA aD.Pred)]
def mT:=(Z61:St)
def Nd(aD:Cy)(aS:Int):Option Aw:=
 ((O6 (S:=dI) (X:=Aw) ((Gv aD aS).bind λx3=>(bif ((x3.length:Int)==0) then(some (.done ([]:Aw))) else((E6 ([(-2:Int)]:Aw) (aD.Succ.length:Int)).bind λx4=>(Cs (B9 aS x4.length) (Cs (0<=(1:Int)/\(1:Int)<=(x3.length:Int)) ((Aj (Dr aD x3) (false,(0:Int),(x4.set aS.toNat (-1:Int)))).bind (λ(b10,l11)=>(bif b10 then(some (.next (x3,l11))) else(some (.done l11)))))))))) (Eu aD)).bind (λx40=>(some x40)))
theorem NW(h:Nd v18 v1=some v2):sP 124 [(.agg (Pz v18)),(Z6 v1)] [] (QC v2 20000) [(20000,.tok 1 3 v2.length)]:=
 sG Tryz.func124 λΓ q=>have hΓ:=q.own;gR q Xs [2] lI [] (c1 (It 1 Ax (0:Int))) (tB h λx40 y40 h=>gS y40 (λ(s_:dI)=>match s_ with|(l1,l2)=>0) (λ(s_:dI)=>match s_ with|(l1,l2)=>(⟨[LI,(5,(QC l1 13)),(6,(.vsl 21 l2.length))],[(LJ (lg v18)),(13,.tok 1 3 l1.length),(Z4 21 l2)],[]⟩:St)) (λr_=>aR (QH Γ v18 v1 r_)) (λy h=>tB h λx3 y3 h=>tT q IU [2,13] [⟨[],[(20000,13)],(QC x3 20000),[(20000,.tok 1 3 x3.length)],[],[]⟩] (c1 (Sq y3)) (Aq q [1,2,5,16] [2,13] (gC h (λh=>gR q [4] [] lI [] (c1 (It 1 Ax (0:Int))) (Tt (⟨lI,[],[]⟩:St) (tS h (gz (R0 (K3 [(6004,20000)] (show Le Γ _ mT from Le.trans (Dw (st':=⟨lI,[],[]⟩) [4] [] q) (Le.trans (bp (t:=4) (nm:=6004) (sz':=1) (λi=>Ax (([]:Aw).getD i 0)) 3 rfl rfl (.inl ⟨rfl,rfl⟩) (λh_=>absurd h_ (by decide))) (Dw (st':=mT) [4] [6004] q))))))))) λh=>tB h λx4 y4 h=>gR q [1,2,5,6] Kc [(17,(AV.list 1 Ax 0 ([(-2:Int)]:Aw) .exact))] [⟨[],[(20000,21)],(.vsl 20000 x4.length),[(Z4 20000 x4)],[],[]⟩] (c2 (Bq 1 Ax (0:Int) ([(-2:Int)]:Aw)) (O5 y4)) (tC h λc5_ h=>tU q Vc Kc (c2 c5_ (Eq.refl x4.length)) (M1 (Le.trans (Wl 21 (show ∀ k_,k_<x4.length->AVleL ((λi_=>AV.eraseAll jg ((K5 (λi=>Ax (x4.getD i 0)) v1.toNat 0 [(.int .i64 (-1:Int))]) i_)) k_) ((λi=>Ax ((x4.set v1.toNat (-1:Int)).getD i 0)) k_) from(Ch (Hy ..).symm (λk_ hk_=>(B8 (AV.eraseAll jg) ((L2 (λ_ _=>rfl) (N7 c5_) rfl) k_ hk_)).trans rfl)))) (Sf (λ(k_:Nat) u=>(Fv u [(6,(.vsl 21 k_))] [(21,.arr 1 3 k_ (λi=>Ax ((x4.set v1.toNat (-1:Int)).getD i 0)))])) (show x4.length=(x4.set v1.toNat (-1:Int)).length from(Hy ..).symm))) (Aq q IQ Kc (tC h λc6_ h=>gR q U9 Kc [(26,(AV.list 1 Ax 0 (x3.drop (1:Int).toNat) .none))] [] (c2 c6_ (show(AVle (.slice 1 (x3.length-(1:Int).toNat) (λi=>Ax (x3.getD ((1:Int).toNat+i) 0)) .none) (AV.list 1 Ax 0 (x3.drop (1:Int).toNat) .none)) from JK)) (tL q h U9 Kc (λu (b7,i8,l9)=>(Fv u [(6,(.vsl 21 l9.length)),(7,(.bool b7)),(28,(Z6 i8))] [(Z4 21 l9)])) (λu (b10,l11)=>aG Γ (.exit 0) (Xv IQ Kc u [(6,(.vsl 21 l11.length)),(7,(.bool b10))] [(Z4 21 l11)])) (λ⟨b7,i8,l9⟩ y h=>Aq q iN Kc (gC h (λh=>tB h λx19 y19 h=>gJ y19 (λ(b12,l13)=>aG Γ .normal (⟨[LI,(5,(QC x3 13)),(6,(.vsl 21 l13.length)),(7,(.bool b12)),(26,(AV.list 1 Ax 0 (x3.drop (1:Int).toNat) .none)),(27,(.int .i64 ((x3.drop (1:Int).toNat).length:Int))),(28,(Z6 i8))],[(LJ (lg v18)),(13,.tok 1 3 x3.length),(Z4 21 l13)],[]⟩:St)) (λy h=>tV q iO Kc h λh=>tC h λc15_ h=>tB h λx16 y16 h=>tT q iL Kc [⟨[],[],(Z6 x16),[],[21],[]⟩] (c4 c15_ (Sp y16) (show(CL []) from trivial) (Eq.refl l9.length)) (tC h λc17_ h=>tU q iK Kc (c2 c17_ (Eq.refl l9.length)) (gC h (λh=>tC h λc18_ h=>tU q U9 Kc (c2 c18_ (Eq.refl l9.length)) (tS h (gK (Ed (Le.trans (Le.trans (Wl 21 (show ∀ k_,k_<l9.length->AVleL ((λi_=>AV.eraseAll jg ((K5 (λi=>Ax (l9.getD i 0)) (lH x3 i8).toNat 0 [(Z6 x16)]) i_)) k_) ((λi=>Ax ((l9.set (lH x3 i8).toNat x16).getD i 0)) k_) from(Ch (Hy ..).symm (λk_ hk_=>(B8 (AV.eraseAll jg) ((L2 (λ_ _=>rfl) (N7 c18_) rfl) k_ hk_)).trans rfl)))) (Sf (λ(k_:Nat) u=>(Fv u [(6,(.vsl 21 k_))] [(21,.arr 1 3 k_ (λi=>Ax ((l9.set (lH x3 i8).toNat x16).getD i 0)))])) (show l9.length=(l9.set (lH x3 i8).toNat x16).length from(Hy ..).symm))) Nu))))) λh=>tS h (gK (Ed (Dw U9 Kc q)))))) (match x19,h with|⟨b12,l13⟩,h=>gA (Aq q U9 Kc (tN h)))) λh=>tS h (gO (Ed (Dw IQ Kc q))))) λx21 h=>(match x21,h with|⟨b10,l11⟩,h=>gA (Aq q [2,5,6,50] Kc (gC h (λh=>tS h (et (Dw Vc Kc q))) λh=>Aq q [4] [21] (Tt (⟨[(4,(.vsl 21 l11.length))],[(Z4 21 l11)],[]⟩:St) (tS h (gz (R0 (K3 [(21,20000)] (Le.trans (Lh (nm:=21) (sz:=1) (n:=l11.length) (e:=3) (f:=(λi=>Ax (l11.getD i 0))) (g:=(λi=>Ax (l11.getD i 0))) rfl ⟨rfl,trivial⟩ (λ_ _=>rfl) (by rw[hΓ];rfl)) (Nb (st':=⟨[(4,(QC l11 21))],[(21,.tok 1 3 l11.length)],[]⟩) (by kernel_rfl))))))))))))))))))) (λ⟨l1,l2⟩ y h=>Aq q IQ Kc (tC h λc23_ h=>gR q U9 Kc [(26,(AV.list 1 Ax 0 (l1.drop (1:Int).toNat) .none))] [] (c2 c23_ (show(AVle (.slice 1 (l1.length-(1:Int).toNat) (λi=>Ax (l1.getD ((1:Int).toNat+i) 0)) .none) (AV.list 1 Ax 0 (l1.drop (1:Int).toNat) .none)) from JK)) (tL q h U9 Kc (λu (b24,i25,l26)=>(Fv u [(6,(.vsl 21 l26.length)),(7,(.bool b24)),(28,(Z6 i25))] [(Z4 21 l26)])) (λu (b27,l28)=>aG Γ (.exit 0) (Xv IQ Kc u [(6,(.vsl 21 l28.length)),(7,(.bool b27))] [(Z4 21 l28)])) (λ⟨b24,i25,l26⟩ y h=>Aq q iN Kc (gC h (λh=>tB h λx36 y36 h=>gJ y36 (λ(b29,l30)=>aG Γ .normal (⟨[LI,(5,(QC l1 13)),(6,(.vsl 21 l30.length)),(7,(.bool b29)),(26,(AV.list 1 Ax 0 (l1.drop (1:Int).toNat) .none)),(27,(.int .i64 ((l1.drop (1:Int).toNat).length:Int))),(28,(Z6 i25))],[(LJ (lg v18)),(13,.tok 1 3 l1.length),(Z4 21 l30)],[]⟩:St)) (λy h=>tV q iO Kc h λh=>tC h λc32_ h=>tB h λx33 y33 h=>tT q iL Kc [⟨[],[],(Z6 x33),[],[21],[]⟩] (c4 c32_ (Sp y33) (show(CL []) from trivial) (Eq.refl l26.length)) (tC h λc34_ h=>tU q iK Kc (c2 c34_ (Eq.refl l26.length)) (gC h (λh=>tC h λc35_ h=>tU q U9 Kc (c2 c35_ (Eq.refl l26.length)) (tS h (gK (Ed (Le.trans (Le.trans (Wl 21 (show ∀ k_,k_<l26.length->AVleL ((λi_=>AV.eraseAll jg ((K5 (λi=>Ax (l26.getD i 0)) (lG l1 i25).toNat 0 [(Z6 x33)]) i_)) k_) ((λi=>Ax ((l26.set (lG l1 i25).toNat x33).getD i 0)) k_) from(Ch (Hy ..).symm (λk_ hk_=>(B8 (AV.eraseAll jg) ((L2 (λ_ _=>rfl) (N7 c35_) rfl) k_ hk_)).trans rfl)))) (Sf (λ(k_:Nat) u=>(Fv u [(6,(.vsl 21 k_))] [(21,.arr 1 3 k_ (λi=>Ax ((l26.set (lG l1 i25).toNat x33).getD i 0)))])) (show l26.length=(l26.set (lG l1 i25).toNat x33).length from(Hy ..).symm))) Nu))))) λh=>tS h (gK (Ed (Dw U9 Kc q)))))) (match x36,h with|⟨b29,l30⟩,h=>gA (Aq q U9 Kc (tN h)))) λh=>tS h (gO (Ed (Dw IQ Kc q))))) λx38 h=>(match x38,h with|⟨b27,l28⟩,h=>gA (Aq q [2,5,6,50] Kc (gC h (λh=>tS h (et (Dw Vc Kc q))) λh=>Aq q [4] [21] (Tt (⟨[(4,(.vsl 21 l28.length))],[(Z4 21 l28)],[]⟩:St) (tS h (gz (R0 (K3 [(21,20000)] (Le.trans (Lh (nm:=21) (sz:=1) (n:=l28.length) (e:=3) (f:=(λi=>Ax (l28.getD i 0))) (g:=(λi=>Ax (l28.getD i 0))) rfl ⟨rfl,trivial⟩ (λ_ _=>rfl) (by rw[hΓ];rfl)) (Nb (st':=⟨[(4,(QC l28 21))],[(21,.tok 1 3 l28.length)],[]⟩) (by kernel_rfl)))))))))))))) (V1 (λst' hk=>tS h (gK hk))))
def Hl(aa3:List Fy)(aa4:Aw):Int->Option (LR Int (Unit ⊕ Bool)):=
 λ(i1:Int)=>(bif (decide (i1<(aa3.length:Int))) then(Cs (B9 i1 aa3.length) ((Ea ((aa3.getD i1.toNat default).From) aa4).bind λx3=>(bif (bif (!x3) then true else((((aa3.getD i1.toNat default).Args).length:Int)!=(aa4.length:Int))) then(some (.done (.inr false))) else(some (.next (Bh (i1+1))))))) else(some (.done (.inl ()))))
def AG(Γ:Gs)(aa3:List Fy)(aa4:Aw)(r:Bool):Exit->St->Prop:=fK Tryz.prog Γ Tryz.f125.results.toList [] (.bool r) []
def Jo(aa3:List Fy)(aa4:Aw):Option Bool:=
 ((Aj (Hl aa3 aa4) (0:Int)).bind (λx4=>(match x4 with|(.inl _)=>(some true)|(.inr r6)=>(some r6))))
theorem Yi(h:Jo v5 v2=some v3):sP 125 [(AV.list 4 Y9 default v5 .none),(Z9 v2)] [] (.bool v3) []:=
 sG Tryz.func125 λΓ q=>tW q G0 [] H5 [] (tL q h H5 [] (λu i1=>(Fv u [(9,(Z6 i1))] [])) (λu x_=>match x_ with|(.inl _)=>aG Γ (.exit 0) (⟨[],[],[]⟩:St)|(.inr r_)=>aR (AG Γ v5 v2 r_)) (λi1 y h=>Aq q AC [] (gC h (λh=>tV q AD [6] h λh=>tB h λx3 y3 h=>tT q [1,7,8,9,25] [] [(Z2 x3)] (ci (J5 y3) (kO ((!x3)==false) (c1 (Sb (!x3))))) (gC h (λh=>Aq q [4] [] (tS h (gO (R0 (K3 [] (Le.refl _ _)))))) λh=>Aq q H5 [] (tN h))) λh=>tS h (gO (Ed (Dw [] [] q))))) λx4 h=>(match x4,h with | .inl _,h=>gA (Aq q [4] [] (tS h (C3 []))) | .inr r6,h=>V1 (λst' hk=>tS h (gK hk))))
def mU(aE:H1):=(bif (aE.Kind==0) then true else(aE.Kind==2))
def Hs(aE:H1):Option Bool:=
 (some (bif (bif (aE.Kind==0) then true else(aE.Kind==2)) then true else(aE.Arg==0)))
theorem Yh(h:Hs v8=some v3):sP 126 [(.agg (bO v8))] [] (.bool v3) []:=
 sG Tryz.func126 λΓ q=>Aq q [1] [1] (tU q [2] [] (Tu ((v8.Kind==0)==false) (ci (Sb (v8.Kind==0)) (Tu ((mU v8)==false) (c1 (Sb (mU v8)))))) (tS h (C3 [])))
def Ci(a0:Ab)(a5:Int)(a6:List A7)(x1:lB)(x3:Aw):Int->Option (LR Int (Unit ⊕ (Int×Ab×Int×Aw×List A7))):=
 λ(i4:Int)=>(bif (decide (i4<(a0.Blocks.length:Int))) then(Cs (B9 i4 a0.Blocks.length) (Cs (B9 i4 x1.1.Pred.length) ((Jo ((a0.Blocks.getD i4.toNat default).Phis) (x1.1.Pred.getD i4.toNat [])).bind λx7=>((bif ((!x7)==false) then Hs (⟨(a0.Blocks.getD i4.toNat default).End.Kind,(a0.Blocks.getD i4.toNat default).End.Arg,(a0.Blocks.getD i4.toNat default).End.To⟩:H1) else some false).bind λx8=>(bif (bif (!x7) then true else(!x8)) then(some (.done (.inr ((5:Int),a0,a5,x3,a6)))) else(some (.next (Bh (i4+1))))))))) else(some (.done (.inl ()))))
def Pt(Γ:Gs)(a0:Ab)(a5:Int)(a9:Aw)(a6:List A7)(r:YK):Exit->St->Prop:=fK Tryz.prog Γ Tryz.f92.results.toList (Z3 a0.Params a0.Ret a0.Blocks a5 a9 a6 a6.length) (Z6 r.1) (Z3 r.2.1.Params r.2.1.Ret r.2.1.Blocks r.2.2.1 r.2.2.2.1 r.2.2.2.2 r.2.2.2.2.length)
def lh(x1:lB):=((x1.2 !=0)==false)
def mV(x3:Aw)(a0:Ab)(a5:Int)(a6:List A7):List SX:=[(31,.tok 1 3 x3.length),(30000,.row 110 [(Z9 a0.Params),(Z6 a0.Ret),(YR a0.Blocks),(Z6 a5),(Z9 x3),.nilm,(AV.list 5 Jb default a6 (.own 37006))]),(Z7 a6.length)]
def lJ(x3:Aw)(a0:Ab)(a5:Int)(a6:List A7):List SX:=[(31,.tok 1 3 x3.length),(30000,.row 110 [(Z9 a0.Params),(Z6 a0.Ret),(YR a0.Blocks),(Z6 a5),(QC x3 31),.nilm,(AV.list 5 Jb default a6 (.own 37006))]),(Z7 a6.length)]
def Fo(a0:Ab)(a5:Int)(a9:Aw)(a6:List A7):Option YK:=
 ((Qd a0).bind λx1=>((bif ((x1.2 !=0)==false) then Gv x1.1 (0:Int) else some []).bind λx2=>(bif (bif (x1.2 !=0) then true else(decide ((x2.length:Int)<(a0.Blocks.length:Int)))) then(some ((5:Int),a0,a5,a9,a6)) else((Nd x1.1 (0:Int)).bind λx3=>((Aj (Ci a0 a5 a6 x1 x3) (0:Int)).bind (λx9=>(match x9 with|(.inl _)=>(some ((0:Int),a0,a5,x3,a6))|(.inr r11)=>(some r11))))))))
theorem Pg(h:Fo v0 v1 v2 v12=some v13):sP 92 [Xt] (Z3 v0.Params v0.Ret v0.Blocks v1 v2 v12 v12.length) (Z6 v13.1) (Z3 v13.2.1.Params v13.2.1.Ret v13.2.1.Blocks v13.2.2.1 v13.2.2.2.1 v13.2.2.2.2 v13.2.2.2.2.length):=
 sG Tryz.func92 λΓ q=>Aq q [0] Fj (tB h λx1 y1 h=>tT q [0,3,4] PP [⟨[],[],(.tuple [(.agg (Pz x1.1)),(Z6 x1.2)]),[],[],[]⟩] (c1 (NX y1)) (tB h λx2 y2 h=>tT q [0,3,28] PP [⟨[],[],(Z9 x2),[],[],[]⟩] (YV (gI (lh x1)) (show((lh x1)=true->(sP 123 [(.agg (Pz x1.1)),N0] [] (Z9 x2) [])) from(λhg=>(Spec.drop (Sq (Br hg y2))))) (nD (lh x1) (c1 (Sb (x1.2 !=0))))) (gC h (λh=>Aq q [2] Fj (tS h (C3 AS))) λh=>tB h λx3 y3 h=>tT q Ve II [⟨[],[(20000,31)],(QC x3 20000),[(20000,.tok 1 3 x3.length)],[],[]⟩] (c1 (NW y3)) (Aq q TI II (tL q h TI II (λu i4=>(Fv u [(40,(Z6 i4))] [])) (λu x_=>match x_ with|(.inl _)=>aG Γ (.exit 0) (Xv [] IJ u [] [])|(.inr r_)=>aR (Pt Γ v0 v1 v2 v12 r_)) (λi4 y h=>Aq q [3,38,39,40,41] II (gC h (λh=>tV q [3,5,6,38,39,40] [3,6,31,30000,37006] h λh=>tC h λc6_ h=>tB h λx7 y7 h=>tB h λx8 y8 h=>tT q [3,38,39,40,59] II [(Z2 x7),(Z2 x8)] (YV c6_ (Yi y7) (Tu ((!x7)==false) (c3 (λ(hg:((!x7)==false)=true)=>(Yh (Br hg y8))) (gI ((!x7)==false)) (Sb (!x7))))) (gC h (λh=>Aq q [2] IJ (Tt (⟨[(2,(.int .i64 (5:Int)))],(lJ x3 v0 v1 v12),[]⟩:St) (tS h (gO (R0 (K3 AS (show Le Γ _ (⟨[(2,(.int .i64 (5:Int)))],(mV x3 v0 v1 v12),[]⟩:St) from Le.trans (Dw (st':=⟨[(2,(.int .i64 (5:Int)))],(lJ x3 v0 v1 v12),[]⟩) [2] IJ q) (Kj (.cons (AVle.refl _) .nil) (.same (.row (.cons (AVle.refl _) (.cons (AVle.refl _) (.cons (AVle.refl _) (.cons (AVle.refl _) (.cons AVle.untag (.cons (AVle.refl _) (.cons (AVle.refl _) .nil))))))) (.same .nil))))))))))) λh=>Aq q TI II (tN h))) λh=>tS h (gO (Ed (Dw [] IJ q))))) λx9 h=>(match x9,h with | .inl _,h=>gA (Aq q [2] IJ (Tt (⟨[(2,N0)],(lJ x3 v0 v1 v12),[]⟩:St) (tS h (gK (e:=.ret) (K3 AS (show Le Γ _ (⟨[(2,N0)],(mV x3 v0 v1 v12),[]⟩:St) from Le.trans (Dw (st':=⟨[(2,N0)],(lJ x3 v0 v1 v12),[]⟩) [2] IJ q) (Kj (.cons (AVle.refl _) .nil) (.same (.row (.cons (AVle.refl _) (.cons (AVle.refl _) (.cons (AVle.refl _) (.cons (AVle.refl _) (.cons AVle.untag (.cons (AVle.refl _) (.cons (AVle.refl _) .nil))))))) (.same .nil)))))))))) | .inr r11,h=>V1 (λst' hk=>tS h (gK hk))))))))
def Gw(aL:Int):Option Bool:=
 (Option.bind (α:=Bool) (bif (aL==1) then(some (aL==1)) else(bif (aL==8) then(some (aL==8)) else(bif (aL==16) then(some (aL==16)) else(bif (aL==32) then(some (aL==32)) else(some (aL==64)))))) (λx2=>(bif x2 then(some true) else(some false))))
theorem Im(h:Gw v1=some v3):sP 128 [(Z6 v1)] [] (.bool v3) []:=
 sG Tryz.func128 λΓ q=>tW q [0] [] [3] [] (tB h λx2 y2 h=>gJ y2 (λb1=>aG Γ .normal (⟨[(4,(.bool b1))],[],[]⟩:St)) (λy h=>Aq q [3,4] [] (gC h (λh=>tS h (gK (Ed (Dw [4] [] q)))) λh=>Aq q [3,4] [] (gC h (λh=>tS h (gK (Ed (Dw [4] [] q)))) λh=>Aq q [3,4] [] (gC h (λh=>tS h (gK (Ed (Dw [4] [] q)))) λh=>Aq q [3,4] [] (gC h (λh=>tS h (gK (Ed (Dw [4] [] q)))) λh=>Aq q [4] [] (tS h (gK (Ed Nu)))))))) (gA (gC h (λh=>Aq q [2] [] (tS h (C3 []))) λh=>Aq q [2] [] (tS h (C3 [])))))
def Hk(aA:Aw):Int->Option (LR Int (Unit ⊕ Bool)):=
 λ(i1:Int)=>(bif (decide (i1<(aA.length:Int))) then(Cs (B9 i1 aA.length) ((Gw (aA.getD i1.toNat 0)).bind λx3=>(bif (!x3) then(some (.done (.inr false))) else(some (.next (Bh (i1+1))))))) else(some (.done (.inl ()))))
def AF(Γ:Gs)(aA:Aw)(r:Bool):Exit->St->Prop:=fK Tryz.prog Γ Tryz.f127.results.toList [] (.bool r) []
def Jn(aA:Aw):Option Bool:=
 ((Aj (Hk aA) (0:Int)).bind (λx4=>(match x4 with|(.inl _)=>(some true)|(.inr r6)=>(some r6))))
theorem Yg(h:Jn v2=some v3):sP 127 [(Z9 v2),(.clo 128 [] [])] [] (.bool v3) []:=
 sG Tryz.func127 λΓ q=>tW q G0 [] H5 [] (tL q h H5 [] (λu i1=>(Fv u [(9,(Z6 i1))] [])) (λu x_=>match x_ with|(.inl _)=>aG Γ (.exit 0) (⟨[],[],[]⟩:St)|(.inr r_)=>aR (AF Γ v2 r_)) (λi1 y h=>Aq q AC [] (gC h (λh=>tV q AD [] h λh=>tB h λx3 y3 h=>tT q EW [] [(Z2 x3)] (c1 (Im y3)) (gC h (λh=>Aq q [4] [] (tS h (gO (R0 (K3 [] (Le.refl _ _)))))) λh=>Aq q H5 [] (tN h))) λh=>tS h (gO (Ed (Dw [] [] q))))) λx4 h=>(match x4,h with | .inl _,h=>gA (Aq q [4] [] (tS h (C3 []))) | .inr r6,h=>V1 (λst' hk=>tS h (gK hk))))
def Lk(aU:Fy):Option Bool:=
 ((Gw aU.Bits).bind λx1=>(some x1))
theorem Wx(h:Lk v4=some v3):sP 165 [(.agg (Y9 v4))] [] (.bool v3) []:=
 sG Tryz.func165 λΓ q=>Aq q [1] [1] (tB h λx1 y1 h=>tT q [2] [] [(Z2 x1)] (c1 (Im y1)) (tS h (C3 [])))
def Fn(aA:List Fy):Int->Option (LR Int (Unit ⊕ Bool)):=
 λ(i1:Int)=>(bif (decide (i1<(aA.length:Int))) then(Cs (B9 i1 aA.length) ((Lk (aA.getD i1.toNat default)).bind λx3=>(bif (!x3) then(some (.done (.inr false))) else(some (.next (Bh (i1+1))))))) else(some (.done (.inl ()))))
def Ue(Γ:Gs)(aA:List Fy)(r:Bool):Exit->St->Prop:=fK Tryz.prog Γ Tryz.f164.results.toList [] (.bool r) []
def G1(aA:List Fy):Option Bool:=
 ((Aj (Fn aA) (0:Int)).bind (λx4=>(match x4 with|(.inl _)=>(some true)|(.inr r6)=>(some r6))))
theorem Sn(h:G1 v5=some v3):sP 164 [(AV.list 4 Y9 default v5 .none),(.clo 165 [] [])] [] (.bool v3) []:=
 sG Tryz.func164 λΓ q=>tW q G0 [] H5 [] (tL q h H5 [] (λu i1=>(Fv u [(9,(Z6 i1))] [])) (λu x_=>match x_ with|(.inl _)=>aG Γ (.exit 0) (⟨[],[],[]⟩:St)|(.inr r_)=>aR (Ue Γ v5 r_)) (λi1 y h=>Aq q AC [] (gC h (λh=>tV q AD [6] h λh=>tB h λx3 y3 h=>tT q EW [] [(Z2 x3)] (c1 (Wx y3)) (gC h (λh=>Aq q [4] [] (tS h (gO (R0 (K3 [] (Le.refl _ _)))))) λh=>Aq q H5 [] (tN h))) λh=>tS h (gO (Ed (Dw [] [] q))))) λx4 h=>(match x4,h with | .inl _,h=>gA (Aq q [4] [] (tS h (C3 []))) | .inr r6,h=>V1 (λst' hk=>tS h (gK hk))))
def Lv(aQ:Int):Option Bool:=
 (some (bif (decide ((0:Int)<=aQ)) then(decide (aQ<=22)) else false))
theorem DL(h:Lv v1=some v3):sP 192 [(Z6 v1)] [] (.bool v3) []:=
 sG Tryz.func192 λΓ q=>Aq q [0] [] (tU q [2] [] (c2 (gI ((decide ((0:Int)<=v1))==true)) (Nt (decide ((0:Int)<=v1)))) (tS h (C3 [])))
def mW(x5:Bool)(aL:Int):=(bif x5 then(decide ((8:Int)<=aL)) else false)
def Mu(aL:Int)(aa2:Int):Option Bool:=
 (bif (aa2==1) then((Gw aL).bind λx1=>(some x1)) else(Option.bind (α:=Bool) (bif (aa2==2) then(some (aa2==2)) else(bif (aa2==4) then(some (aa2==4)) else(bif (aa2==8) then(some (aa2==8)) else(some (aa2==16))))) (λx3=>(bif x3 then((Gw aL).bind λx5=>(some (bif (bif x5 then(decide ((8:Int)<=aL)) else false) then(decide (((Bh (aL*aa2)):Int)<=128)) else false))) else(some false)))))
theorem FP(h:Mu v1 v11=some v3):sP 209 [(Z6 v1),(Z6 v11)] [] (.bool v3) []:=
 sG Tryz.func209 λΓ q=>tW q G0 [] EV [] (Aq q [0,1,5,6] [] (gC h (λh=>tB h λx1 y1 h=>tT q [4] [] [(Z2 x1)] (c1 (Im y1)) (tS h (C3 []))) λh=>tB h λx3 y3 h=>gJ y3 (λb2=>aG Γ .normal (⟨[(0,(Z6 v1)),(1,(Z6 v11)),(10,(.bool b2))],[],[]⟩:St)) (λy h=>Aq q [0,1,5,10] [] (gC h (λh=>tS h (gK (Ed (Dw AE [] q)))) λh=>Aq q [0,1,5,10] [] (gC h (λh=>tS h (gK (Ed (Dw AE [] q)))) λh=>Aq q [0,1,5,10] [] (gC h (λh=>tS h (gK (Ed (Dw AE [] q)))) λh=>Aq q AE [] (tS h (gK (Ed Nu))))))) (gA (gC h (λh=>tB h λx5 y5 h=>tT q [4] [] [(Z2 x5)] (lR (Im y5) (gI (x5==true)) (Nt x5) (QE ((mW x5 v1)==true) (c1 (Nt (mW x5 v1))))) (tS h (C3 []))) λh=>Aq q [4] [] (tS h (C3 []))))))
def lK(a1:Bv):List SX:=[(1,.row 43 [(Z6 a1.Kind),(Z6 a1.Bits),(Z6 a1.Lanes),(Z6 a1.Dst),(Z9 a1.Args),(Ja a1.Imm)])]
def Iz(a1:Bv):Option Bool:=
 (Option.bind (α:=Bool) (bif (a1.Kind==16) then(some (a1.Kind==16)) else(some (a1.Kind==17))) (λx2=>(bif x2 then(some (decide ((8:Int)<=a1.Bits))) else(Option.bind (α:=Bool) (bif (a1.Kind==18) then(some (a1.Kind==18)) else(some (a1.Kind==19))) (λx5=>(bif x5 then(some (bif (decide ((8:Int)<=a1.Bits)) then(a1.Lanes==1) else false)) else(Option.bind (α:=Bool) (bif (a1.Kind==4) then(some (a1.Kind==4)) else(bif (a1.Kind==10) then(some (a1.Kind==10)) else(bif (a1.Kind==11) then(some (a1.Kind==11)) else(bif (a1.Kind==12) then(some (a1.Kind==12)) else(bif (a1.Kind==14) then(some (a1.Kind==14)) else(bif (a1.Kind==15) then(some (a1.Kind==15)) else(some (a1.Kind==20)))))))) (λx8=>(bif x8 then(some (a1.Lanes==1)) else(Option.bind (α:=Bool) (bif (a1.Kind==21) then(some (a1.Kind==21)) else(some (a1.Kind==22))) (λx11=>(bif x11 then(some (decide ((1:Int)<a1.Lanes))) else(some true)))))))))))))
theorem W0(h:Iz v6=some v3):sP 210 [(V0 v6)] [] (.bool v3) []:=
 sG Tryz.func210 λΓ q=>tW q [1] [1] [1,4] [1] (tB h λx2 y2 h=>gJ y2 (λb1=>aG Γ .normal (⟨[(1,(.ptr 1 0)),(4,(Z6 v6.Kind)),(5,(.bool b1))],(lK v6),[]⟩:St)) (λy h=>Aq q [1,4,5] [1] (gC h (λh=>tS h (gK (Ed Nu))) λh=>Aq q [1,4,5] [1] (tS h (gK (Ed Nu))))) (gA (gC h (λh=>Aq q [2] [] (tS h (C3 []))) λh=>tB h λx5 y5 h=>gJ y5 (λb4=>aG Γ .normal (⟨[(1,(.ptr 1 0)),(4,(Z6 v6.Kind)),(11,(.bool b4))],(lK v6),[]⟩:St)) (λy h=>Aq q [1,4,11] [1] (gC h (λh=>tS h (gK (Ed Nu))) λh=>Aq q [1,4,11] [1] (tS h (gK (Ed Nu))))) (gA (gC h (λh=>tU q [2] [] (Tu ((decide ((8:Int)<=v6.Bits))==true) (c1 (Nt (decide ((8:Int)<=v6.Bits))))) (tS h (C3 []))) λh=>tB h λx8 y8 h=>gJ y8 (λb7=>aG Γ .normal (⟨[(1,(.ptr 1 0)),(4,(Z6 v6.Kind)),(22,(.bool b7))],(lK v6),[]⟩:St)) (λy h=>Aq q EX [1] (gC h (λh=>tS h (gK (Ed Nu))) λh=>Aq q EX [1] (gC h (λh=>tS h (gK (Ed Nu))) λh=>Aq q EX [1] (gC h (λh=>tS h (gK (Ed Nu))) λh=>Aq q EX [1] (gC h (λh=>tS h (gK (Ed Nu))) λh=>Aq q EX [1] (gC h (λh=>tS h (gK (Ed Nu))) λh=>Aq q EX [1] (gC h (λh=>tS h (gK (Ed Nu))) λh=>Aq q EX [1] (tS h (gK (Ed Nu)))))))))) (gA (gC h (λh=>Aq q [2] [] (tS h (C3 []))) λh=>tB h λx11 y11 h=>gJ y11 (λb10=>aG Γ .normal (⟨[(1,(.ptr 1 0)),(33,(.bool b10))],(lK v6),[]⟩:St)) (λy h=>Aq q [1,4,33] [1] (gC h (λh=>tS h (gK (Ed (Dw [1,33] [1] q)))) λh=>Aq q [1,33] [1] (tS h (gK (Ed Nu))))) (gA (gC h (λh=>Aq q [2] [] (tS h (C3 []))) λh=>Aq q [2] [] (tS h (C3 [])))))))))))
def Qe(a8:Int)(aL:Int):Option Int:=
 ((Gw aL).bind λx1=>(bif (!x1) then(some (0:Int)) else(Cs (0<=(Bh ((64:Int)-aL))) (Cs (0<=(Bh ((64:Int)-aL))) (some (Xc .u64 (FW .u64 a8 (Bh ((64:Int)-aL))) (Bh ((64:Int)-aL))))))))
theorem NZ(h:Qe v1 v11=some v20):sP 225 [(Ja v1),(Z6 v11)] [] (.int .u64 v20) []:=
 sG Tryz.func225 λΓ q=>Aq q G0 [] (tB h λx1 y1 h=>tT q [0,1,7] [] [(Z2 x1)] (c1 (Im y1)) (gC h (λh=>Aq q [4] [] (tS h (C3 []))) λh=>tC h λc2_ h=>tC h λc3_ h=>tU q [4] [] (c2 c2_ c3_) (tS h (C3 []))))
def Ik(aa5:Int):Option Bool:=
 ((bif ((decide (aa5<=64))==true) then Gw (Bh aa5) else some false).bind λx1=>(some (bif (decide (aa5<=64)) then x1 else false)))
theorem Ri(h:Ik v1=some v3):sP 226 [(Ja v1)] [] (.bool v3) []:=
 sG Tryz.func226 λΓ q=>Aq q [0] [] (tB h λx1 y1 h=>tT q [2] [] [(Z2 x1)] (Tu ((decide (v1<=64))==true) (c2 (λ(hg:((decide (v1<=64))==true)=true)=>(Im (Br hg y1))) (Nt (decide (v1<=64))))) (tS h (C3 [])))
def Kt(a1:Bv):Option Bool:=
 (bif (a1.Kind==0) then((Qe a1.Imm a1.Bits).bind λx1=>(some (x1==a1.Imm))) else(bif (a1.Kind==14) then((Ik a1.Imm).bind λx2=>(some (bif x2 then(decide (a1.Imm<(Ez a1.Bits))) else false))) else(bif (a1.Kind==15) then((Ik a1.Imm).bind λx3=>(some (bif x3 then(decide (((Ez a1.Bits):Int)<a1.Imm)) else false))) else(bif (a1.Kind==22) then(some (decide (a1.Imm<(Ez a1.Lanes)))) else(some (a1.Imm==0))))))
theorem AP(h:Kt v6=some v3):sP 211 [(V0 v6)] [] (.bool v3) []:=
 sG Tryz.func211 λΓ q=>tW q [1] [1] [1,4] [1] (Aq q [1,4,5] [1] (gC h (λh=>tB h λx1 y1 h=>tT q [2] [] [⟨[],[],(Ja x1),[],[],[]⟩] (c1 (NZ y1)) (tS h (C3 []))) λh=>Aq q [1,4,15] [1] (gC h (λh=>tB h λx2 y2 h=>tT q [2] [] [(Z2 x2)] (ci (Ri y2) (kO (x2==true) (c1 (Nt x2)))) (tS h (C3 []))) λh=>Aq q [1,4,28] [1] (gC h (λh=>tB h λx3 y3 h=>tT q [2] [] [(Z2 x3)] (ci (Ri y3) (kO (x3==true) (c1 (Nt x3)))) (tS h (C3 []))) λh=>Aq q [1,41] [1] (gC h (λh=>Aq q [2] [] (tS h (C3 []))) λh=>Aq q [2] [] (tS h (C3 [])))))))
abbrev PH:=((Int×Int))
abbrev gP:=(List (Int×Int))
def Fb(aa9:List PH):Option gP:=
 (some aa9)
variable{v21:List PH}{v22:List PH}
theorem Ft(h:Fb v21=some v22):sP 214 [(eG v21)] [] (eG v22) []:=
 sG Tryz.func214 λΓ q=>gR q [0] [] [(2,lP)] [] (c1 (It 2 Bp ((0:Int),(0:Int)))) (Aq q [2] [] (tS h (C3 [])))
abbrev jW:=(Int×List (Int×Int))
def Ca :jW->Option (LR (Int×List (Int×Int)) (List (Int×Int))):=
 λ((i7,l8):jW)=>(bif (decide (i7<(l8.length:Int))) then(Cs (0<=i7/\0+i7.toNat<=l8.length) (Cs (0<=i7/\0+i7.toNat<=l8.length) (some (.next ((Bh (i7+((Nat.min ((0+i7.toNat)-0) (l8.length-(0+i7.toNat))):Int))),(RE l8 (0+i7.toNat) (Nat.min ((0+i7.toNat)-0) (l8.length-(0+i7.toNat))) (λi=>l8.getD (0+i) ((0:Int),(0:Int))))))))) else(some (.done l8)))
def ZJ(x3:Gq):=(List.replicate (Bh x3.2).toNat ((0:Int),(0:Int)))
def lj(x3:Gq)(a3:List PH):=(RE (ZJ x3) 0 (Nat.min a3.length ((ZJ x3).length-0)) (λi=>a3.getD i ((0:Int),(0:Int))))
def li(l8:List PH)(i7:Int):=(RE l8 (0+i7.toNat) (Nat.min ((0+i7.toNat)-0) (l8.length-(0+i7.toNat))) (λi=>l8.getD (0+i) ((0:Int),(0:Int))))
def Bm(a3:List PH)(aZ:Int):Option gP:=
 (Option.bind (α:=Unit) (bif (decide (aZ<0)) then none else(some ())) (λx1=>(match x1 with|_=>((Lj (Ez (a3.length:Int)) (Ez aZ)).bind λx3=>(Option.bind (α:=Unit) (bif (bif (decide ((0:Int)<x3.1)) then true else(decide ((9223372036854775807:Int)<x3.2))) then none else(some ())) (λx4=>(match x4 with|_=>(Cs (0<=(Bh x3.2)/\(Bh x3.2)<=(Bh x3.2)/\(Bh x3.2)<=(room:Int)) ((Aj (S:=jW) (X:=List Gq) Ca (((Nat.min a3.length ((List.replicate (Bh x3.2).toNat ((0:Int),(0:Int))).length-0)):Int),(RE (List.replicate (Bh x3.2).toNat ((0:Int),(0:Int))) 0 (Nat.min a3.length ((List.replicate (Bh x3.2).toNat ((0:Int),(0:Int))).length-0)) (λi=>a3.getD i ((0:Int),(0:Int)))))).bind (λx12=>(some x12)))))))))))
theorem Mc(h:Bm v21 v1=some v22):sP 215 [(eG v21),(Z6 v1)] [] (AV.list 2 Bp ((0:Int),(0:Int)) v22 (.own 20000)) [(20000,.tok 2 73 v22.length)]:=
 sG Tryz.func215 λΓ q=>have hΓ:=q.own;gR q G0 [] [(4,lP)] [] (c1 (It 2 Bp ((0:Int),(0:Int)))) (tB h λx1 y1 h=>gJ y1 (λ_=>aG Γ .normal (⟨[(0,(eG v21)),(1,(Z6 v1))],[],[]⟩:St)) (λy h=>Aq q AE [] (gC h (λh=>nomatch h) λh=>tS h (gK (Ed (Dw G0 [] q))))) (gA (tB h λx3 y3 h=>tT q [0,5,6] [] [⟨[],[],(.tuple [(Ja x3.1),(Ja x3.2)]),[],[],[]⟩] (c1 (Zl y3)) (tB h λx4 y4 h=>gJ y4 (λ_=>aG Γ .normal (⟨[(0,(eG v21)),(6,(Ja x3.2))],[],[]⟩:St)) (λy h=>tU q [0,6,26] [] (c2 (gI ((decide ((0:Int)<x3.1))==false)) (Sb (decide ((0:Int)<x3.1)))) (gC h (λh=>nomatch h) λh=>tS h (gK (Ed (Dw [0,6] [] q))))) (gA (tV q [0,7] [30] h λh=>by exact M1 (Le.trans (Wl 30 (show ∀ k_,k_<((Bh x3.2).toNat)->AVleL ((λi_=>AV.eraseAll (λn_=>Cc n_ [30]) ((λ_=>[N0,N0]) i_)) k_) ((λi=>Bp ((ZJ x3).getD i ((0:Int),(0:Int)))) k_) from(λk hk=>Wp (e:=Bp) (d:=((0:Int),(0:Int))) (.cons (AVle.refl _) (.cons (AVle.refl _) .nil)) _ k (W8 hk)))) (Sf (λ(k_:Nat) u=>(Fv u [(7,(.vsl 30 k_))] [(30,.arr 2 73 k_ (λi=>Bp ((ZJ x3).getD i ((0:Int),(0:Int)))))])) (show(Bh x3.2).toNat=(ZJ x3).length from(Xi ..).symm))) (tU q L8 [30] (c1 (Eq.refl ((ZJ x3).length))) (M1 (Le.trans (Wl 30 (show ∀ k_,k_<((ZJ x3).length)->AVleL ((λi_=>AV.eraseAll (λn_=>Cc n_ [30]) ((MN (λi=>Bp ((ZJ x3).getD i ((0:Int),(0:Int)))) 0 (Nat.min v21.length ((ZJ x3).length-0)) (λi=>Bp (v21.getD i ((0:Int),(0:Int))))) i_)) k_) ((λi=>Bp ((lj x3 v21).getD i ((0:Int),(0:Int)))) k_) from(Ch (F0 ..) (λk_ hk_=>(B8 (AV.eraseAll (λn_=>Cc n_ [30])) ((BA (e:=Bp) (d:=((0:Int),(0:Int))) (l:=(ZJ x3)) (s:=(λi=>v21.getD i ((0:Int),(0:Int)))) (λ_ _=>rfl) (λ_ _=>rfl)) k_ hk_)).trans rfl)))) (Sf (λ(k_:Nat) u=>(Fv u [(7,(.vsl 30 k_))] [(30,.arr 2 73 k_ (λi=>Bp ((lj x3 v21).getD i ((0:Int),(0:Int)))))])) (show(ZJ x3).length=(lj x3 v21).length from(F0 ..)))) (tL q h L8 [30] (λu (i7,l8)=>(Fv u [(7,(.vsl 30 l8.length)),(8,(Z6 i7))] (mB l8))) (λu l9=>aG Γ (.exit 0) (⟨[(7,(.vsl 30 l9.length))],(mB l9),[]⟩:St)) (λ⟨i7,l8⟩ y h=>Aq q [7,8,37] [30] (gC h (λh=>tC h λc10_ h=>tC h λc11_ h=>tU q L8 [30] (c4 c10_ c11_ (Eq.refl l8.length) (Eq.refl l8.length)) (tS h (gN (Le.trans (Le.trans (Wl 30 (show ∀ k_,k_<l8.length->AVleL ((λi_=>AV.eraseAll (λn_=>Cc n_ [30]) ((MN (λi=>Bp (l8.getD i ((0:Int),(0:Int)))) (0+i7.toNat) (Nat.min ((0+i7.toNat)-0) (l8.length-(0+i7.toNat))) (λi=>(λi=>Bp (l8.getD i ((0:Int),(0:Int)))) (0+i))) i_)) k_) ((λi=>Bp ((li l8 i7).getD i ((0:Int),(0:Int)))) k_) from(Ch (F0 ..) (λk_ hk_=>(B8 (AV.eraseAll (λn_=>Cc n_ [30])) ((BA (e:=Bp) (d:=((0:Int),(0:Int))) (l:=l8) (s:=(λi=>l8.getD (0+i) ((0:Int),(0:Int)))) (λ_ _=>rfl) (λ_ _=>rfl)) k_ hk_)).trans rfl)))) (Sf (λ(k_:Nat) u=>(Fv u [(7,(.vsl 30 k_))] [(30,.arr 2 73 k_ (λi=>Bp ((li l8 i7).getD i ((0:Int),(0:Int)))))])) (show l8.length=(li l8 i7).length from(F0 ..)))) Nu)))) λh=>tS h (gO (Ed (Dw [7] [30] q))))) λx12 h=>gA (Aq q [4] [30] (Tt (⟨[(4,(.vsl 30 x12.length))],(mB x12),[]⟩:St) (tS h (gK (e:=.ret) (K3 [(30,20000)] (Le.trans (Lh (nm:=30) (sz:=2) (n:=x12.length) (e:=73) (f:=(λi=>Bp (x12.getD i ((0:Int),(0:Int))))) (g:=(λi=>Bp (x12.getD i ((0:Int),(0:Int))))) rfl ⟨rfl,trivial⟩ (λ_ _=>rfl) (by rw[hΓ];rfl)) (Nb (st':=⟨[(4,(AV.list 2 Bp ((0:Int),(0:Int)) x12 (.own 30)))],[(30,.tok 2 73 x12.length)],[]⟩) (by kernel_rfl)))))))))))))))))
def mX(a1:Bv):List SX:=[(1,.row 43 [(Z6 a1.Kind),(Z6 a1.Bits),(Z6 a1.Lanes),(Z6 a1.Dst),(Z9 a1.Args),(Ja a1.Imm)]),(3,.row 73 [YT,YT]),(4,.row 73 [(FA 64),YT]),(5,.row 73 [(Z6 a1.Bits),(Z6 a1.Lanes)]),(6,.row 73 [(Z6 a1.Bits),YT])]
def Ku(a1:Bv):Option gP:=
 (bif (a1.Kind==0) then((Fb ([]:List Gq)).bind λx1=>(some x1)) else(bif (a1.Kind==13) then((Fb ([((1:Int),(1:Int)),(a1.Bits,a1.Lanes),(a1.Bits,a1.Lanes)]:List Gq)).bind λx2=>(some x2)) else(Option.bind (α:=Bool) (bif (a1.Kind==14) then(some (a1.Kind==14)) else(some (a1.Kind==15))) (λx4=>(bif x4 then((Fb ([((Bh a1.Imm),(1:Int))]:List Gq)).bind λx6=>(some x6)) else(bif (a1.Kind==16) then((Fb ([((64:Int),(1:Int))]:List Gq)).bind λx7=>(some x7)) else(bif (a1.Kind==17) then((Fb ([((64:Int),(1:Int)),(a1.Bits,a1.Lanes)]:List Gq)).bind λx8=>(some x8)) else(Option.bind (α:=Bool) (bif (a1.Kind==18) then(some (a1.Kind==18)) else(some (a1.Kind==19))) (λx10=>(bif x10 then((Fb ([((1:Int),(1:Int)),((64:Int),(1:Int)),(a1.Bits,(1:Int))]:List Gq)).bind λx12=>(some x12)) else(bif (a1.Kind==20) then((Fb ([((1:Int),(1:Int)),(a1.Bits,(1:Int)),(a1.Bits,(1:Int)),(a1.Bits,(1:Int))]:List Gq)).bind λx13=>(some x13)) else(bif (a1.Kind==21) then((Bm ([(a1.Bits,(1:Int))]:List Gq) a1.Lanes).bind λx14=>((Fb x14).bind λx15=>(some x15))) else(bif (a1.Kind==22) then((Fb ([(a1.Bits,a1.Lanes)]:List Gq)).bind λx16=>(some x16)) else((Fb ([(a1.Bits,a1.Lanes),(a1.Bits,a1.Lanes)]:List Gq)).bind λx17=>(some x17)))))))))))))))
theorem Uw(h:Ku v6=some v21):sP 190 [(V0 v6)] [] (eG v21) []:=
 sG Tryz.func190 λΓ q=>gR q [1] [1] [(2,lP)] [] (c1 (It 2 Bp ((0:Int),(0:Int)))) (tW q [1,3,4] [1,3,4] Ti Ti (tW q [1,3,4,5,6,18] Ti [1,3,4,5,6,18,19] Ti (gC h (λh=>tB h λx1 y1 h=>tT q [2] [] [(VX x1)] (c1 (show(sP 214 [Z5] [] (eG x1) []) from(Spec.args (.cons eM .nil) (Ft y1)))) (tS h (C3 []))) λh=>Aq q [1,3,4,5,6,18,22] Ti (gC h (λh=>tB h λx2 y2 h=>gR q [2] [] [(27,(AV.list 2 Bp ((0:Int),(0:Int)) ([((1:Int),(1:Int)),(v6.Bits,v6.Lanes),(v6.Bits,v6.Lanes)]:List Gq) .exact))] [(VX x2)] (c2 (Bq 2 Bp ((0:Int),(0:Int)) ([((1:Int),(1:Int)),(v6.Bits,v6.Lanes),(v6.Bits,v6.Lanes)]:List Gq)) (Ft y2)) (tS h (C3 []))) λh=>tB h λx4 y4 h=>gJ y4 (λb3=>aG Γ .normal (⟨[(1,(.ptr 1 0)),(3,(.ptr 3 0)),WA,(5,(.ptr 5 0)),QD,(18,(Z6 v6.Kind)),(29,(.bool b3))],(mX v6),[]⟩:St)) (λy h=>Aq q [1,3,4,5,6,18,29] Ti (gC h (λh=>tS h (gK (Ed Nu))) λh=>Aq q [1,3,4,5,6,18,29] Ti (tS h (gK (Ed Nu))))) (gA (gC h (λh=>tB h λx6 y6 h=>gR q [2] [] [(36,(AV.list 2 Bp ((0:Int),(0:Int)) ([((Bh v6.Imm),(1:Int))]:List Gq) .exact))] [(VX x6)] (c2 (Bq 2 Bp ((0:Int),(0:Int)) ([((Bh v6.Imm),(1:Int))]:List Gq)) (Ft y6)) (tS h (C3 []))) λh=>Aq q [1,3,4,5,6,18,38] Ti (gC h (λh=>tB h λx7 y7 h=>gR q [2] [] [(41,(AV.list 2 Bp ((0:Int),(0:Int)) ([((64:Int),(1:Int))]:List Gq) .exact))] [(VX x7)] (c2 (Bq 2 Bp ((0:Int),(0:Int)) ([((64:Int),(1:Int))]:List Gq)) (Ft y7)) (tS h (C3 []))) λh=>Aq q [1,3,4,5,6,18,43] Ti (gC h (λh=>tB h λx8 y8 h=>gR q [2] [] [(47,(AV.list 2 Bp ((0:Int),(0:Int)) ([((64:Int),(1:Int)),(v6.Bits,v6.Lanes)]:List Gq) .exact))] [(VX x8)] (c2 (Bq 2 Bp ((0:Int),(0:Int)) ([((64:Int),(1:Int)),(v6.Bits,v6.Lanes)]:List Gq)) (Ft y8)) (tS h (C3 []))) λh=>tB h λx10 y10 h=>gJ y10 (λb9=>aG Γ .normal (⟨[(1,(.ptr 1 0)),(3,(.ptr 3 0)),WA,(5,(.ptr 5 0)),QD,(18,(Z6 v6.Kind)),(49,(.bool b9))],(mX v6),[]⟩:St)) (λy h=>Aq q [1,3,4,5,6,18,49] Ti (gC h (λh=>tS h (gK (Ed Nu))) λh=>Aq q [1,3,4,5,6,18,49] Ti (tS h (gK (Ed Nu))))) (gA (gC h (λh=>tB h λx12 y12 h=>gR q [2] [] [(55,(AV.list 2 Bp ((0:Int),(0:Int)) ([((1:Int),(1:Int)),((64:Int),(1:Int)),(v6.Bits,(1:Int))]:List Gq) .exact))] [(VX x12)] (c2 (Bq 2 Bp ((0:Int),(0:Int)) ([((1:Int),(1:Int)),((64:Int),(1:Int)),(v6.Bits,(1:Int))]:List Gq)) (Ft y12)) (tS h (C3 []))) λh=>Aq q [1,3,5,6,18,57] [1,3,5,6] (gC h (λh=>tB h λx13 y13 h=>gR q [2] [] [(63,(AV.list 2 Bp ((0:Int),(0:Int)) ([((1:Int),(1:Int)),(v6.Bits,(1:Int)),(v6.Bits,(1:Int)),(v6.Bits,(1:Int))]:List Gq) .exact))] [(VX x13)] (c2 (Bq 2 Bp ((0:Int),(0:Int)) ([((1:Int),(1:Int)),(v6.Bits,(1:Int)),(v6.Bits,(1:Int)),(v6.Bits,(1:Int))]:List Gq)) (Ft y13)) (tS h (C3 []))) λh=>Aq q [1,5,6,18,65] [1,5,6] (gC h (λh=>tB h λx14 y14 h=>tB h λx15 y15 h=>gR q [2] [] [(68,(AV.list 2 Bp ((0:Int),(0:Int)) ([(v6.Bits,(1:Int))]:List Gq) .exact))] [⟨[],[(20000,71)],(AV.list 2 Bp ((0:Int),(0:Int)) x14 (.own 20000)),[(20000,.tok 2 73 x14.length)],[],[]⟩,(VX x15)] (c3 (Bq 2 Bp ((0:Int),(0:Int)) ([(v6.Bits,(1:Int))]:List Gq)) (Mc y14) (Ft y15)) (tS h (C3 []))) λh=>Aq q [5,73] [5] (gC h (λh=>tB h λx16 y16 h=>gR q [2] [] [(76,(AV.list 2 Bp ((0:Int),(0:Int)) ([(v6.Bits,v6.Lanes)]:List Gq) .exact))] [(VX x16)] (c2 (Bq 2 Bp ((0:Int),(0:Int)) ([(v6.Bits,v6.Lanes)]:List Gq)) (Ft y16)) (tS h (C3 []))) λh=>tB h λx17 y17 h=>gR q [2] [] [(80,(AV.list 2 Bp ((0:Int),(0:Int)) ([(v6.Bits,v6.Lanes),(v6.Bits,v6.Lanes)]:List Gq) .exact))] [(VX x17)] (c2 (Bq 2 Bp ((0:Int),(0:Int)) ([(v6.Bits,v6.Lanes),(v6.Bits,v6.Lanes)]:List Gq)) (Ft y17)) (tS h (C3 [])))))))))))))))
def Ij(a8:Int):Option Bool:=
 (some (bif (decide ((1:Int)<=a8)) then(decide (a8<=1023)) else false))
theorem Rh(h:Ij v1=some v3):sP 227 [(Z6 v1)] [] (.bool v3) []:=
 sG Tryz.func227 λΓ q=>Aq q [0] [] (tU q [2] [] (c2 (gI ((decide ((1:Int)<=v1))==true)) (Nt (decide ((1:Int)<=v1)))) (tS h (C3 [])))
def Gm(a1:Bv):Int->Option (LR Int (Unit ⊕ Bool)):=
 λ(i2:Int)=>(bif (decide (i2<(a1.Args.length:Int))) then(Cs (B9 i2 a1.Args.length) ((Ij (a1.Args.getD i2.toNat 0)).bind λx4=>(bif (!x4) then(some (.done (.inr false))) else(some (.next (Bh (i2+1))))))) else(some (.done (.inl ()))))
def BS(Γ:Gs)(a1:Bv)(r:Bool):Exit->St->Prop:=fK Tryz.prog Γ Tryz.f212.results.toList [] (.bool r) []
def Kq(a1:Bv):Option Bool:=
 ((Ku a1).bind λx1=>(bif ((a1.Args.length:Int)!=(x1.length:Int)) then(some false) else((Aj (Gm a1) (0:Int)).bind (λx5=>(match x5 with|(.inl _)=>(some true)|(.inr r7)=>(some r7))))))
theorem AN(h:Kq v6=some v3):sP 212 [(V0 v6)] [] (.bool v3) []:=
 sG Tryz.func212 λΓ q=>Aq q [1] [1] (tB h λx1 y1 h=>tT q [1,11] [1] [(VX x1)] (c1 (Uw y1)) (gC h (λh=>Aq q [2] [] (tS h (C3 []))) λh=>Aq q [13,14,15] [] (tL q h [13,14,15] [] (λu i2=>(Fv u [(15,(Z6 i2))] [])) (λu x_=>match x_ with|(.inl _)=>aG Γ (.exit 0) (⟨[],[],[]⟩:St)|(.inr r_)=>aR (BS Γ v6 r_)) (λi2 y h=>Aq q [13,14,15,16] [] (gC h (λh=>tV q [4,13,14,15] [] h λh=>tB h λx4 y4 h=>tT q [13,14,15,21] [] [(Z2 x4)] (c1 (Rh y4)) (gC h (λh=>Aq q [2] [] (tS h (gO (R0 (K3 [] (Le.refl _ _)))))) λh=>Aq q [13,14,15] [] (tN h))) λh=>tS h (gO (Ed (Dw [] [] q))))) λx5 h=>(match x5,h with | .inl _,h=>gA (Aq q [2] [] (tS h (C3 []))) | .inr r7,h=>V1 (λst' hk=>tS h (gK hk))))))
def mY(a1:Bv):List SX:=[(1,.row 43 [(Z6 a1.Kind),(Z6 a1.Bits),(Z6 a1.Lanes),(Z6 a1.Dst),(Z9 a1.Args),(Ja a1.Imm)])]
def Ks(a1:Bv):Option Gq:=
 (Option.bind (α:=Bool) (bif (a1.Kind==17) then(some (a1.Kind==17)) else(some (a1.Kind==19))) (λx2=>(bif x2 then(some ((0:Int),(0:Int))) else(Option.bind (α:=Bool) (bif (a1.Kind==10) then(some (a1.Kind==10)) else(bif (a1.Kind==11) then(some (a1.Kind==11)) else(some (a1.Kind==12)))) (λx5=>(bif x5 then(some ((1:Int),(1:Int))) else(bif (a1.Kind==22) then(some (a1.Bits,(1:Int))) else(some (a1.Bits,a1.Lanes)))))))))
theorem Uv(h:Ks v6=some v19):sP 189 [(V0 v6)] [] (.tuple [(Z6 v19.1),(Z6 v19.2)]) []:=
 sG Tryz.func189 λΓ q=>tW q [1] [1] [1,5] [1] (tB h λx2 y2 h=>gJ y2 (λb1=>aG Γ .normal (⟨[(1,(.ptr 1 0)),(5,(Z6 v6.Kind)),(6,(.bool b1))],(mY v6),[]⟩:St)) (λy h=>Aq q [1,5,6] [1] (gC h (λh=>tS h (gK (Ed Nu))) λh=>Aq q [1,5,6] [1] (tS h (gK (Ed Nu))))) (gA (gC h (λh=>Aq q Pr [] (tS h (C3 []))) λh=>tB h λx5 y5 h=>gJ y5 (λb4=>aG Γ .normal (⟨[(1,(.ptr 1 0)),(5,(Z6 v6.Kind)),(9,(.bool b4))],(mY v6),[]⟩:St)) (λy h=>Aq q [1,5,9] [1] (gC h (λh=>tS h (gK (Ed Nu))) λh=>Aq q [1,5,9] [1] (gC h (λh=>tS h (gK (Ed Nu))) λh=>Aq q [1,5,9] [1] (tS h (gK (Ed Nu)))))) (gA (gC h (λh=>Aq q Pr [] (tS h (C3 []))) λh=>Aq q [1,13] [1] (gC h (λh=>Aq q Pr [] (tS h (C3 []))) λh=>Aq q Pr [] (tS h (C3 []))))))))
def Kr(a1:Bv):Option Bool:=
 ((Ks a1).bind λx1=>(bif (x1.1==0) then(some (a1.Dst==0)) else((Ij a1.Dst).bind λx2=>(some x2))))
theorem AO(h:Kr v6=some v3):sP 213 [(V0 v6)] [] (.bool v3) []:=
 sG Tryz.func213 λΓ q=>Aq q [1] [1] (tB h λx1 y1 h=>tT q [1,3] [1] [⟨[],[],(.tuple [(Z6 x1.1),(Z6 x1.2)]),[],[],[]⟩] (c1 (Uv y1)) (Aq q [1,11] [1] (gC h (λh=>Aq q [2] [] (tS h (C3 []))) λh=>tB h λx2 y2 h=>tT q [2] [] [(Z2 x2)] (c1 (Rh y2)) (tS h (C3 [])))))
def ga(x1:Bool)(x2:Bool):=(bif (!x1) then true else(!x2))
def Lm(a1:Bv):Option Bool:=
 ((Lv a1.Kind).bind λx1=>((bif ((!x1)==false) then Mu a1.Bits a1.Lanes else some false).bind λx2=>((bif ((bif (!x1) then true else(!x2))==false) then Iz a1 else some false).bind λx3=>((bif ((bif (bif (!x1) then true else(!x2)) then true else(!x3))==false) then Kt a1 else some false).bind λx4=>(bif (bif (bif (bif (!x1) then true else(!x2)) then true else(!x3)) then true else(!x4)) then(some false) else((Kq a1).bind λx5=>((bif (x5==true) then Kr a1 else some false).bind λx6=>(some (bif x5 then x6 else false)))))))))
theorem Ss(h:Lm v6=some v3):sP 187 [(V0 v6)] [] (.bool v3) []:=
 sG Tryz.func187 λΓ q=>Aq q [1] [1] (tB h λx1 y1 h=>tB h λx2 y2 h=>tB h λx3 y3 h=>tB h λx4 y4 h=>tT q [1,24] [1] [(Z2 x1),(Z2 x2),(Z2 x3),(Z2 x4)] (ci (DL y1) (jm ((!x1)==false) (lS (λ(hg:((!x1)==false)=true)=>(FP (Br hg y2))) (gI ((!x1)==false)) (Sb (!x1)) (gI ((ga x1 x2)==false)) (λ(hg:((ga x1 x2)==false)=true)=>(W0 (Br hg y3))) (gI ((ga x1 x2)==false)) (Sb (ga x1 x2)) (gI ((bif (ga x1 x2) then true else(!x3))==false)) (λ(hg:((bif (ga x1 x2) then true else(!x3))==false)=true)=>(AP (Br hg y4))) (c2 (gI ((bif (ga x1 x2) then true else(!x3))==false)) (Sb (bif (ga x1 x2) then true else(!x3))))))) (gC h (λh=>Aq q [2] [] (tS h (C3 []))) λh=>tB h λx5 y5 h=>tB h λx6 y6 h=>tT q [2] [] [(Z2 x5),(Z2 x6)] (c4 (AN y5) (gI (x5==true)) (λ(hg:(x5==true)=true)=>(AO (Br hg y6))) (Nt x5)) (tS h (C3 []))))
def Ms(a1:Bv)(aa7:Int):Option Bool:=
 (bif (aa7==0) then(some (bif (decide (a1.Kind<=17)) then(a1.Lanes==1) else false)) else(bif (aa7==1) then(some (bif (decide (a1.Kind<=20)) then(a1.Lanes==1) else false)) else(some true)))
theorem FK(h:Ms v6 v1=some v3):sP 188 [(V0 v6),(Z6 v1)] [] (.bool v3) []:=
 sG Tryz.func188 λΓ q=>tW q Xs [2] [2,5] [2] (Aq q Vc [2] (gC h (λh=>tU q [4] [] (Tu ((decide (v6.Kind<=17))==true) (c1 (Nt (decide (v6.Kind<=17))))) (tS h (C3 []))) λh=>Aq q Vd [2] (gC h (λh=>tU q [4] [] (Tu ((decide (v6.Kind<=20))==true) (c1 (Nt (decide (v6.Kind<=20))))) (tS h (C3 []))) λh=>Aq q [4] [] (tS h (C3 [])))))
abbrev S9:=(Bool×Ab×Int×Aw×List A7)
def E3(a1:Bv)(a0:Ab)(a5:Int)(a9:Aw)(a6:List A7):Option S9:=
 ((Lm a1).bind λx1=>((bif (x1==true) then Ms a1 a5 else some false).bind λx2=>(some ((bif x1 then x2 else false),a0,a5,a9,a6))))
variable{v23:S9}
theorem O3(h:E3 v6 v0 v1 v2 v12=some v23):sP 167 [Xt,(V0 v6)] (Z3 v0.Params v0.Ret v0.Blocks v1 v2 v12 v12.length) (.bool v23.1) (Z3 v23.2.1.Params v23.2.1.Ret v23.2.1.Blocks v23.2.2.1 v23.2.2.2.1 v23.2.2.2.2 v23.2.2.2.2.length):=
 sG Tryz.func167 λΓ q=>Aq q Ve PP (tB h λx1 y1 h=>tB h λx2 y2 h=>tT q [4] Fj [(Z2 x1),(Z2 x2)] (ci (Ss y1) (kO (x1==true) (c2 (λ(hg:(x1==true)=true)=>(FK (Br hg y2))) (Nt x1)))) (tS h (C3 AS)))
abbrev Mg:=(Int×Aw×Int×List Ag×Int×Aw×List A7)
abbrev kx:=(LR (Int×Aw×Int×List Ag×Int×Aw×List A7) ((Aw×Int×List Ag×Int×Aw×List A7) ⊕ (Bool×Ab×Int×Aw×List A7)))
def Ej(aA:List Bv):Mg->Option kx:=
 λ((i1,l2,i3,l4,i5,l6,l7):Mg)=>(bif (decide (i1<(aA.length:Int))) then(Cs (B9 i1 aA.length) ((E3 (aA.getD i1.toNat default) (⟨l2,i3,l4⟩:Ab) i5 l6 l7).bind λx15=>(bif (!x15.1) then(some (.done (.inr (false,x15.2.1,x15.2.2.1,x15.2.2.2.1,x15.2.2.2.2)))) else(some (.next ((Bh (i1+1)),x15.2.1.Params,x15.2.1.Ret,x15.2.1.Blocks,x15.2.2.1,x15.2.2.2.1,x15.2.2.2.2)))))) else(some (.done (.inl (l2,i3,l4,i5,l6,l7)))))
def Vf(Γ:Gs)(aA:List Bv)(a0:Ab)(a5:Int)(a9:Aw)(a6:List A7)(r:S9):Exit->St->Prop:=fK Tryz.prog Γ Tryz.f166.results.toList (Z3 a0.Params a0.Ret a0.Blocks a5 a9 a6 a6.length) (.bool r.1) (Z3 r.2.1.Params r.2.1.Ret r.2.1.Blocks r.2.2.1 r.2.2.2.1 r.2.2.2.2 r.2.2.2.2.length)
def Hj(aA:List Bv)(a0:Ab)(a5:Int)(a9:Aw)(a6:List A7):Option S9:=
 ((Aj (Ej aA) ((0:Int),a0.Params,a0.Ret,a0.Blocks,a5,a9,a6)).bind (λx16=>(match x16 with|(.inl (l8,i9,l10,i11,l12,l13))=>(some (true,(⟨l8,i9,l10⟩:Ab),i11,l12,l13))|(.inr r18)=>(some r18))))
theorem Uj(h:Hj v7 v0 v1 v2 v12=some v23):sP 166 [(AV.list 6 AH default v7 .none),(.clo 167 [Xt] [])] (Z3 v0.Params v0.Ret v0.Blocks v1 v2 v12 v12.length) (.bool v23.1) (Z3 v23.2.1.Params v23.2.1.Ret v23.2.1.Blocks v23.2.2.1 v23.2.2.2.1 v23.2.2.2.2 v23.2.2.2.2.length):=
 sG Tryz.func166 λΓ q=>tW q G0 Fj H5 Fj (tL q h H5 Fj (λu (i1,l2,i3,l4,i5,l6,l7)=>(Fv u [(9,(Z6 i1))] (Z3 l2 i3 l4 i5 l6 l7 l7.length))) (λu x_=>match x_ with|(.inl (l8,i9,l10,i11,l12,l13))=>aG Γ (.exit 0) (⟨[],(Z3 l8 i9 l10 i11 l12 l13 l13.length),[]⟩:St)|(.inr r_)=>aR (Vf Γ v7 v0 v1 v2 v12 r_)) (λ⟨i1,l2,i3,l4,i5,l6,l7⟩ y h=>Aq q AC Fj (gC h (λh=>tV q AD [6,30000,37006] h λh=>tB h λx15 y15 h=>tT q EW Fj [(lQ x15.1 x15.2.1.Params x15.2.1.Ret x15.2.1.Blocks x15.2.2.1 x15.2.2.2.1 x15.2.2.2.2 x15.2.2.2.2.length)] (c1 (O3 y15)) (gC h (λh=>Aq q [4] Fj (tS h (gO (R0 (K3 AS (Le.refl _ _)))))) λh=>Aq q H5 Fj (tN h))) λh=>tS h (gO (Ed (Dw [] Fj q))))) λx16 h=>(match x16,h with | .inl ⟨l8,i9,l10,i11,l12,l13⟩,h=>gA (Aq q [4] Fj (tS h (C3 AS))) | .inr r18,h=>V1 (λst' hk=>tS h (gK hk))))
def lm(x1:Bool)(x2:S9)(a9:Aw):AV:=(ml x1 x2.2.2.2.1 a9)
def ll(x1:Bool)(x2:S9)(a0:Ab):AV:=(ml x1 x2.2.1.Params a0.Params)
def lk(x1:Bool)(x2:S9)(a0:Ab):AV:=(.slice 5 (bif (x1==true) then x2.2.1.Blocks.length else a0.Blocks.length) (λi=>bif (x1==true) then Fl (x2.2.1.Blocks.getD i default) else Fl (a0.Blocks.getD i default)) .none)
def D3(aJ:Ag)(a0:Ab)(a5:Int)(a9:Aw)(a6:List A7):Option S9:=
 ((G1 aJ.Phis).bind λx1=>((bif (x1==true) then Hj aJ.Ops a0 a5 a9 a6 else some (false,(default:Ab),(0:Int),[],[])).bind λx2=>(some ((bif x1 then x2.1 else false),(⟨(bif (x1==true) then x2.2.1.Params else a0.Params),(bif (x1==true) then x2.2.1.Ret else a0.Ret),(bif (x1==true) then x2.2.1.Blocks else a0.Blocks)⟩:Ab),(bif (x1==true) then x2.2.2.1 else a5),(bif (x1==true) then x2.2.2.2.1 else a9),(bif (x1==true) then x2.2.2.2.2 else a6)))))
theorem Mv(h:D3 v9 v0 v1 v2 v12=some v23):sP 130 [Xt,(.agg (Fl v9))] (Z3 v0.Params v0.Ret v0.Blocks v1 v2 v12 v12.length) (.bool v23.1) (Z3 v23.2.1.Params v23.2.1.Ret v23.2.1.Blocks v23.2.2.1 v23.2.2.2.1 v23.2.2.2.2 v23.2.2.2.2.length):=
 sG Tryz.func130 λΓ q=>Aq q Ve PP (tB h λx1 y1 h=>tB h λx2 y2 h=>tT q [4] Fj [(Z2 x1),(lQ x2.1 x2.2.1.Params x2.2.1.Ret x2.2.1.Blocks x2.2.2.1 x2.2.2.2.1 x2.2.2.2.2 x2.2.2.2.2.length)] (ci (Sn y1) (jm (x1==true) (c2 (λ(hg:(x1==true)=true)=>(Uj (Br hg y2))) (Nt x1)))) (tS h (gK (e:=.ret) (K3 AS (Le.trans (mI (λg_ u=>(Fv u [] [(30000,.row 110 [(ll x1 x2 v0),(.int .i64 (bif (x1==true) then x2.2.1.Ret else v0.Ret)),(lk x1 x2 v0),(.int .i64 (bif (x1==true) then x2.2.2.1 else v1)),(lm x1 x2 v2),.nilm,(lx g_ x2.2.2.2.2 v12)]),(37006,.tok 5 195 (bif g_ then x2.2.2.2.2.length else v12.length))])) (λg_ u=>(Fv u [] [(30000,.row 110 [(ll x1 x2 v0),(.int .i64 (bif (x1==true) then x2.2.1.Ret else v0.Ret)),(lk x1 x2 v0),(.int .i64 (bif (x1==true) then x2.2.2.1 else v1)),(lm x1 x2 v2),.nilm,(AV.list 5 Jb default (bif g_ then x2.2.2.2.2 else v12) (.own 37006))]),(37006,.tok 5 195 ((bif g_ then x2.2.2.2.2 else v12).length))])) (x1==true)) (Le.trans (fF 30000 0 (show AVle (ll x1 x2 v0) (AV.list 1 Ax 0 (bif (x1==true) then x2.2.1.Params else v0.Params) .none) from Gc)) (Le.trans (fF 30000 2 (show AVle (lk x1 x2 v0) (AV.list 5 Fl default (bif (x1==true) then x2.2.1.Blocks else v0.Blocks) .none) from Gc)) (fF 30000 4 (show AVle (lm x1 x2 v2) (AV.list 1 Ax 0 (bif (x1==true) then x2.2.2.2.1 else v2) .none) from Gc)))))))))
def Dq(aA:List Ag):Mg->Option kx:=
 λ((i1,l2,i3,l4,i5,l6,l7):Mg)=>(bif (decide (i1<(aA.length:Int))) then(Cs (B9 i1 aA.length) ((D3 (aA.getD i1.toNat default) (⟨l2,i3,l4⟩:Ab) i5 l6 l7).bind λx15=>(bif (!x15.1) then(some (.done (.inr (false,x15.2.1,x15.2.2.1,x15.2.2.2.1,x15.2.2.2.2)))) else(some (.next ((Bh (i1+1)),x15.2.1.Params,x15.2.1.Ret,x15.2.1.Blocks,x15.2.2.1,x15.2.2.2.1,x15.2.2.2.2)))))) else(some (.done (.inl (l2,i3,l4,i5,l6,l7)))))
def Ro(Γ:Gs)(aA:List Ag)(a0:Ab)(a5:Int)(a9:Aw)(a6:List A7)(r:S9):Exit->St->Prop:=fK Tryz.prog Γ Tryz.f129.results.toList (Z3 a0.Params a0.Ret a0.Blocks a5 a9 a6 a6.length) (.bool r.1) (Z3 r.2.1.Params r.2.1.Ret r.2.1.Blocks r.2.2.1 r.2.2.2.1 r.2.2.2.2 r.2.2.2.2.length)
def F3(aA:List Ag)(a0:Ab)(a5:Int)(a9:Aw)(a6:List A7):Option S9:=
 ((Aj (Dq aA) ((0:Int),a0.Params,a0.Ret,a0.Blocks,a5,a9,a6)).bind (λx16=>(match x16 with|(.inl (l8,i9,l10,i11,l12,l13))=>(some (true,(⟨l8,i9,l10⟩:Ab),i11,l12,l13))|(.inr r18)=>(some r18))))
theorem Qj(h:F3 v10 v0 v1 v2 v12=some v23):sP 129 [(YR v10),(.clo 130 [Xt] [])] (Z3 v0.Params v0.Ret v0.Blocks v1 v2 v12 v12.length) (.bool v23.1) (Z3 v23.2.1.Params v23.2.1.Ret v23.2.1.Blocks v23.2.2.1 v23.2.2.2.1 v23.2.2.2.2 v23.2.2.2.2.length):=
 sG Tryz.func129 λΓ q=>tW q G0 Fj H5 Fj (tL q h H5 Fj (λu (i1,l2,i3,l4,i5,l6,l7)=>(Fv u [(9,(Z6 i1))] (Z3 l2 i3 l4 i5 l6 l7 l7.length))) (λu x_=>match x_ with|(.inl (l8,i9,l10,i11,l12,l13))=>aG Γ (.exit 0) (⟨[],(Z3 l8 i9 l10 i11 l12 l13 l13.length),[]⟩:St)|(.inr r_)=>aR (Ro Γ v10 v0 v1 v2 v12 r_)) (λ⟨i1,l2,i3,l4,i5,l6,l7⟩ y h=>Aq q AC Fj (gC h (λh=>tV q AD [6,30000,37006] h λh=>tB h λx15 y15 h=>tT q EW Fj [(lQ x15.1 x15.2.1.Params x15.2.1.Ret x15.2.1.Blocks x15.2.2.1 x15.2.2.2.1 x15.2.2.2.2 x15.2.2.2.2.length)] (c1 (Mv y15)) (gC h (λh=>Aq q [4] Fj (tS h (gO (R0 (K3 AS (Le.refl _ _)))))) λh=>Aq q H5 Fj (tN h))) λh=>tS h (gO (Ed (Dw [] Fj q))))) λx16 h=>(match x16,h with | .inl ⟨l8,i9,l10,i11,l12,l13⟩,h=>gA (Aq q [4] Fj (tS h (C3 AS))) | .inr r18,h=>V1 (λst' hk=>tS h (gK hk))))
def VW(x1:Bool)(x2:Bool):=((bif x1 then x2 else false)==true)
def lr(x1:Bool)(x2:Bool)(x3:S9)(a9:Aw):AV:=(lO (VW x1 x2) x3.2.2.2.1 a9)
def lq(x1:Bool)(x2:Bool)(x3:S9)(a0:Ab):AV:=(lO (VW x1 x2) x3.2.1.Params a0.Params)
def ln(x1:Bool)(x2:Bool)(x3:S9)(a0:Ab):AV:=(mi (VW x1 x2) x3.2.1.Blocks a0.Blocks)
def F4(a0:Ab)(a5:Int)(a9:Aw)(a6:List A7):Option YK:=
 ((Jn a0.Params).bind λx1=>((bif (x1==true) then Gw a0.Ret else some false).bind λx2=>((bif ((bif x1 then x2 else false)==true) then F3 a0.Blocks a0 a5 a9 a6 else some (false,(default:Ab),(0:Int),[],[])).bind λx3=>((Ig (bif (bif x1 then x2 else false) then x3.1 else false) (6:Int)).bind λx4=>(some (x4,(⟨(bif ((bif x1 then x2 else false)==true) then x3.2.1.Params else a0.Params),(bif ((bif x1 then x2 else false)==true) then x3.2.1.Ret else a0.Ret),(bif ((bif x1 then x2 else false)==true) then x3.2.1.Blocks else a0.Blocks)⟩:Ab),(bif ((bif x1 then x2 else false)==true) then x3.2.2.1 else a5),(bif ((bif x1 then x2 else false)==true) then x3.2.2.2.1 else a9),(bif ((bif x1 then x2 else false)==true) then x3.2.2.2.2 else a6)))))))
theorem Qk(h:F4 v0 v1 v2 v12=some v13):sP 93 [Xt] (Z3 v0.Params v0.Ret v0.Blocks v1 v2 v12 v12.length) (Z6 v13.1) (Z3 v13.2.1.Params v13.2.1.Ret v13.2.1.Blocks v13.2.2.1 v13.2.2.2.1 v13.2.2.2.2 v13.2.2.2.2.length):=
 sG Tryz.func93 λΓ q=>Aq q [0] Fj (tB h λx1 y1 h=>tB h λx2 y2 h=>tB h λx3 y3 h=>tT q [3] Fj [(Z2 x1),(Z2 x2),(lQ x3.1 x3.2.1.Params x3.2.1.Ret x3.2.1.Blocks x3.2.2.1 x3.2.2.2.1 x3.2.2.2.2 x3.2.2.2.2.length)] (ci (Yg y1) (kO (x1==true) (YV (λ(hg:(x1==true)=true)=>(Im (Br hg y2))) (Nt x1) (nC (VW x1 x2) (c2 (λ(hg:(VW x1 x2)=true)=>(Qj (Br hg y3))) (Nt (bif x1 then x2 else false))))))) (M1 (Le.trans (mI (λg_ u=>(Fv u [] [(30000,.row 110 [(lq x1 x2 x3 v0),(gj (VW x1 x2) x3.2.1.Ret v0.Ret),(ln x1 x2 x3 v0),(gj (VW x1 x2) x3.2.2.1 v1),(lr x1 x2 x3 v2),.nilm,(lx g_ x3.2.2.2.2 v12)]),(37006,.tok 5 195 (bif g_ then x3.2.2.2.2.length else v12.length))])) (λg_ u=>(Fv u [] [(30000,.row 110 [(lq x1 x2 x3 v0),(gj (VW x1 x2) x3.2.1.Ret v0.Ret),(ln x1 x2 x3 v0),(gj (VW x1 x2) x3.2.2.1 v1),(lr x1 x2 x3 v2),.nilm,(AV.list 5 Jb default (bif g_ then x3.2.2.2.2 else v12) (.own 37006))]),(37006,.tok 5 195 ((bif g_ then x3.2.2.2.2 else v12).length))])) (VW x1 x2)) (Le.trans (fF 30000 0 (show AVle (lq x1 x2 x3 v0) (AV.list 1 Ax 0 (bif (VW x1 x2) then x3.2.1.Params else v0.Params) .none) from Gc)) (Le.trans (fF 30000 2 (show AVle (ln x1 x2 x3 v0) (AV.list 5 Fl default (bif (VW x1 x2) then x3.2.1.Blocks else v0.Blocks) .none) from Gc)) (fF 30000 4 (show AVle (lr x1 x2 x3 v2) (AV.list 1 Ax 0 (bif (VW x1 x2) then x3.2.2.2.1 else v2) .none) from Gc))))) (tB h λx4 y4 h=>tT q [2] Fj [(VZ x4)] (c1 (Re y4)) (tS h (C3 AS)))))
def Db(aL:Int):Option Gq:=
 (some (aL,(1:Int)))
theorem Hv(h:Db v1=some v19):sP 131 [(Z6 v1)] [] (BV v19) []:=
 sG Tryz.func131 λΓ q=>tW q [0,2] [2] [2] [2] (tS h (C3 []))
def jh:=(λ(v_:Ak)=>((Pb v_):AV))
abbrev Jl:=(Int×Ak)
abbrev PI:=(Bool×Ab×Int×Aw×List A7×List (Int×Ak))
def D4(a8:Int)(aX:Gq)(aK:G4)(a0:Ab)(a5:Int)(a9:Aw)(a7:List Jl)(a6:List A7):Option PI:=
 (bif (bif (bif (B0 a7 a8) then true else(decide (a8<1))) then true else(decide ((1023:Int)<a8))) then(some (false,a0,a5,a9,a6,a7)) else(some (true,a0,a5,a9,a6,(Ek a7 a8 (⟨aX,aK⟩:Ak)))))
variable{v24:G4}{v25:List Jl}{v26:PI}
abbrev FY:=(Int×AV)
theorem J4(h:D4 v1 v19 v24 v0 v11 v2 v25 v12=some v26):sP 168 [Xt,(Z6 v1),(BV v19),(.agg (BC v24))] [(Z1 v0.Params v0.Ret v0.Blocks v11 v2 9100005 v12),(Z7 v12.length),(9100005,.obj (.map true .i64 (mapE (λ(v_:Ak)=>((Pb v_):AV)) v25)))] (.bool v26.1) [(Z1 v26.2.1.Params v26.2.1.Ret v26.2.1.Blocks v26.2.2.1 v26.2.2.2.1 9100005 v26.2.2.2.2.1),(Z7 v26.2.2.2.2.1.length),(9100005,.obj (.map true .i64 (mapE (λ(v_:Ak)=>((Pb v_):AV)) v26.2.2.2.2.2)))]:=
 sG Tryz.func168 λΓ q=>Aq q [0,1,6,7] VJ (gR q [0,1,6,7,10] VJ [(17,(.tuple [(gh v25 v1),(.bool (B0 v25 v1))]))] [] (c1 (show(AVle (.tuple [mget (.agg [N0,N0,N0,N0]) (mapE jh v25) v1,.bool (B0 (mapE jh v25) v1)]) (.tuple [(gh v25 v1),(.bool (B0 v25 v1))])) from(Wt (f:=jh) (l:=v25) (AVle.refl _) rfl))) (tU q [0,1,6,7,28] VJ (c4 (gI ((B0 v25 v1)==false)) (Sb (B0 v25 v1)) (gI ((bif (B0 v25 v1) then true else(decide (v1<1)))==false)) (Sb (bif (B0 v25 v1) then true else(decide (v1<1))))) (gC h (λh=>Aq q [8] Fg (tS h (C3 Ul))) λh=>Aq q [] Fg (M1 (Sf (λ(k_:List FY) u=>Fv u [] [(YS 9100005 k_)]) (show(Ek (mapE jh v25) v1 (.agg [(Z6 v19.1),(Z6 v19.2),(Z6 v24.block),(Z6 v24.at_)]))=(mapE jh (Ek v25 v1 (⟨v19,v24⟩:Ak))) from(Wu (f:=jh) (l:=v25) (v:=(⟨v19,v24⟩:Ak)) rfl rfl))) (Aq q [8] Fg (tS h (C3 Ul)))))))
def Ko(a1:Bv):Option Gq:=
 ((Lm a1).bind λx1=>(bif (!x1) then(some ((0:Int),(0:Int))) else((Ks a1).bind λx2=>(some (x2.1,x2.2)))))
theorem FO(h:Ko v6=some v19):sP 169 [(V0 v6)] [] (.tuple [(Z6 v19.1),(Z6 v19.2)]) []:=
 sG Tryz.func169 λΓ q=>Aq q [1] [1] (tB h λx1 y1 h=>tT q [1,6] [1] [(Z2 x1)] (c1 (Ss y1)) (gC h (λh=>Aq q Pr [] (tS h (C3 []))) λh=>tB h λx2 y2 h=>tT q Pr [] [⟨[],[],(.tuple [(Z6 x2.1),(Z6 x2.2)]),[],[],[]⟩] (c1 (Uv y2)) (tS h (C3 []))))
set_option maxRecDepth 100000
set_option maxHeartbeats 2000000
abbrev gQ:=(Int×Aw×Int×List Ag×Int×Aw×List A7×List (Int×Ak))
abbrev ky:=(LR (Int×Aw×Int×List Ag×Int×Aw×List A7×List (Int×Ak)) ((Aw×Int×List Ag×Int×Aw×List A7×List (Int×Ak)) ⊕ (Bool×Ab×Int×Aw×List A7×List (Int×Ak))))
def Cq(aV:Int)(aJ:Ag):gQ->Option ky:=
 λ((i1,l2,i3,l4,i5,l6,l7,l8):gQ)=>(bif (decide (i1<(aJ.Phis.length:Int))) then(Cs (B9 i1 aJ.Phis.length) ((Db ((aJ.Phis.getD i1.toNat default).Bits)).bind λx17=>((D4 ((aJ.Phis.getD i1.toNat default).Dst) x17 (⟨aV,(-1:Int)⟩:G4) (⟨l2,i3,l4⟩:Ab) i5 l6 l8 l7).bind λx18=>(bif (!x18.1) then(some (.done (.inr (false,x18.2.1,x18.2.2.1,x18.2.2.2.1,x18.2.2.2.2.1,x18.2.2.2.2.2)))) else(some (.next ((Bh (i1+1)),x18.2.1.Params,x18.2.1.Ret,x18.2.1.Blocks,x18.2.2.1,x18.2.2.2.1,x18.2.2.2.2.1,x18.2.2.2.2.2))))))) else(some (.done (.inl (l2,i3,l4,i5,l6,l7,l8)))))
def Bz(aV:Int)(aJ:Ag):gQ->Option ky:=
 λ((i21,l22,i23,l24,i25,l26,l27,l28):gQ)=>(bif (decide (i21<(aJ.Ops.length:Int))) then(Cs (B9 i21 aJ.Ops.length) ((Ko (aJ.Ops.getD i21.toNat default)).bind λx37=>((bif ((decide ((0:Int)<x37.1))==true) then D4 ((aJ.Ops.getD i21.toNat default).Dst) (x37.1,x37.2) (⟨aV,i21⟩:G4) (⟨l22,i23,l24⟩:Ab) i25 l26 l28 l27 else some (false,(default:Ab),(0:Int),[],[],[])).bind λx38=>(bif (bif (decide ((0:Int)<x37.1)) then(!x38.1) else false) then(some (.done (.inr (false,(⟨(bif ((decide ((0:Int)<x37.1))==true) then x38.2.1.Params else l22),(bif ((decide ((0:Int)<x37.1))==true) then x38.2.1.Ret else i23),(bif ((decide ((0:Int)<x37.1))==true) then x38.2.1.Blocks else l24)⟩:Ab),(bif ((decide ((0:Int)<x37.1))==true) then x38.2.2.1 else i25),(bif ((decide ((0:Int)<x37.1))==true) then x38.2.2.2.1 else l26),(bif ((decide ((0:Int)<x37.1))==true) then x38.2.2.2.2.1 else l27),(bif ((decide ((0:Int)<x37.1))==true) then x38.2.2.2.2.2 else l28))))) else(some (.next ((Bh (i21+1)),(bif ((decide ((0:Int)<x37.1))==true) then x38.2.1.Params else l22),(bif ((decide ((0:Int)<x37.1))==true) then x38.2.1.Ret else i23),(bif ((decide ((0:Int)<x37.1))==true) then x38.2.1.Blocks else l24),(bif ((decide ((0:Int)<x37.1))==true) then x38.2.2.1 else i25),(bif ((decide ((0:Int)<x37.1))==true) then x38.2.2.2.1 else l26),(bif ((decide ((0:Int)<x37.1))==true) then x38.2.2.2.2.1 else l27),(bif ((decide ((0:Int)<x37.1))==true) then x38.2.2.2.2.2 else l28)))))))) else(some (.done (.inl (l22,i23,l24,i25,l26,l27,l28)))))
def I9(Γ:Gs)(aV:Int)(aJ:Ag)(a0:Ab)(a5:Int)(a9:Aw)(a7:List Jl)(a6:List A7)(r:PI):Exit->St->Prop:=fK Tryz.prog Γ Tryz.f132.results.toList [(Z1 a0.Params a0.Ret a0.Blocks a5 a9 9100005 a6),(Z7 a6.length),(9100005,.obj (.map true .i64 (mapE (λ(v_:Ak)=>((Pb v_):AV)) a7)))] (.bool r.1) [(Z1 r.2.1.Params r.2.1.Ret r.2.1.Blocks r.2.2.1 r.2.2.2.1 9100005 r.2.2.2.2.1),(Z7 r.2.2.2.2.1.length),(9100005,.obj (.map true .i64 (mapE (λ(v_:Ak)=>((Pb v_):AV)) r.2.2.2.2.2)))]
def PY(x37:Gq):=((decide ((0:Int)<x37.1))==true)
def eF:=(λ(v_:Ak)=>((Pb v_):AV))
def lu(x37:Gq)(x38:PI)(l26:Aw):AV:=(lO (PY x37) x38.2.2.2.1 l26)
def lv(x37:Gq)(x38:PI)(l24:List Ag):AV:=(mi (PY x37) x38.2.1.Blocks l24)
def ls(x37:Gq)(x38:PI)(l22:Aw):AV:=(lO (PY x37) x38.2.1.Params l22)
def Ei(aV:Int)(aJ:Ag)(a0:Ab)(a5:Int)(a9:Aw)(a7:List Jl)(a6:List A7):Option PI:=
 ((Aj (Cq aV aJ) ((0:Int),a0.Params,a0.Ret,a0.Blocks,a5,a9,a6,a7)).bind (λx19=>(match x19 with|(.inl (l9,i10,l11,i12,l13,l14,l15))=>((Aj (Bz aV aJ) ((0:Int),l9,i10,l11,i12,l13,l14,l15)).bind (λx39=>(match x39 with|(.inl (l29,i30,l31,i32,l33,l34,l35))=>(some (true,(⟨l29,i30,l31⟩:Ab),i32,l33,l34,l35))|(.inr r41)=>(some r41))))|(.inr r42)=>(some r42))))
theorem Nh(h:Ei v1 v9 v0 v11 v2 v25 v12=some v26):sP 132 [Xt,(Z6 v1),(.agg (Fl v9))] [(Z1 v0.Params v0.Ret v0.Blocks v11 v2 9100005 v12),(Z7 v12.length),(9100005,.obj (.map true .i64 (mapE (λ(v_:Ak)=>((Pb v_):AV)) v25)))] (.bool v26.1) [(Z1 v26.2.1.Params v26.2.1.Ret v26.2.1.Blocks v26.2.2.1 v26.2.2.2.1 9100005 v26.2.2.2.2.1),(Z7 v26.2.2.2.2.1.length),(9100005,.obj (.map true .i64 (mapE (λ(v_:Ak)=>((Pb v_):AV)) v26.2.2.2.2.2)))]:=
 sG Tryz.func132 λΓ q=>tW q EV AB dY AB (tL q h dY AB (λu (i1,l2,i3,l4,i5,l6,l7,l8)=>(Fv u [(16,(Z6 i1))] [(Z1 l2 i3 l4 i5 l6 9100005 l7),(Z7 l7.length),(9100005,.obj (.map true .i64 (mapE eF l8)))])) (λu x_=>match x_ with|(.inl (l9,i10,l11,i12,l13,l14,l15))=>aG Γ (.exit 0) (Xv EV AB u [] [(Z1 l9 i10 l11 i12 l13 9100005 l14),(Z7 l14.length),(9100005,.obj (.map true .i64 (mapE eF l15)))])|(.inr r_)=>aR (I9 Γ v1 v9 v0 v11 v2 v25 v12 r_)) (λ⟨i1,l2,i3,l4,i5,l6,l7,l8⟩ y h=>Aq q [0,1,5,14,15,16,17] AB (gC h (λh=>tV q [0,1,5,8,14,15,16] [5,8,30000,37006,9100005] h λh=>tB h λx17 y17 h=>tB h λx18 y18 h=>tT q [0,1,5,14,15,16,29] AB [⟨[],[],(BV x17),[],[],[]⟩,⟨Ul,[],(.bool x18.1),[(Z1 x18.2.1.Params x18.2.1.Ret x18.2.1.Blocks x18.2.2.1 x18.2.2.2.1 9100005 x18.2.2.2.2.1),(Z7 x18.2.2.2.2.1.length),(9100005,.obj (.map true .i64 (mapE eF x18.2.2.2.2.2)))],[],[]⟩] (c2 (Hv y17) (J4 y18)) (gC h (λh=>Aq q [6] Fg (tS h (gO (R0 (K3 Ul (Le.refl _ _)))))) λh=>Aq q dY AB (tN h))) λh=>tS h (gO (Ed (Dw EV AB q))))) λx19 h=>(match x19,h with | .inl ⟨l9,i10,l11,i12,l13,l14,l15⟩,h=>gA (Aq q dc Fg (tL q h dc Fg (λu (i21,l22,i23,l24,i25,l26,l27,l28)=>(Fv u [(34,(Z6 i21))] [(Z1 l22 i23 l24 i25 l26 9100005 l27),(Z7 l27.length),(9100005,.obj (.map true .i64 (mapE eF l28)))])) (λu x_=>match x_ with|(.inl (l29,i30,l31,i32,l33,l34,l35))=>aG Γ (.exit 2) (⟨[],[(Z1 l29 i30 l31 i32 l33 9100005 l34),(Z7 l34.length),(9100005,.obj (.map true .i64 (mapE eF l35)))],[]⟩:St)|(.inr r_)=>aR (I9 Γ v1 v9 v0 v11 v2 v25 v12 r_)) (λ⟨i21,l22,i23,l24,i25,l26,l27,l28⟩ y h=>Aq q [0,1,32,33,34,35] Fg (gC h (λh=>tV q [0,1,9,10,32,33,34] iP h λh=>tB h λx37 y37 h=>tT q [0,1,9,10,11,12,32,33,34] iP [⟨[],[],(.tuple [(Z6 x37.1),(Z6 x37.2)]),[],[],[]⟩] (c1 (FO y37)) (tB h λx38 y38 h=>tT q [0,1,32,33,34,58] Fg [⟨Ul,[],(.bool x38.1),[(Z1 x38.2.1.Params x38.2.1.Ret x38.2.1.Blocks x38.2.2.1 x38.2.2.2.1 9100005 x38.2.2.2.2.1),(Z7 x38.2.2.2.2.1.length),(9100005,.obj (.map true .i64 (mapE eF x38.2.2.2.2.2)))],[],[]⟩] (nE (PY x37) (c3 (λ(hg:(PY x37)=true)=>(J4 (Br hg y38))) (gI (PY x37)) (Nt (decide ((0:Int)<x37.1))))) (M1 (Le.trans (Sf (λ(k_:List FY) u=>Fv u [] [(YS 9100005 k_)]) (show(bif (PY x37) then(mapE eF x38.2.2.2.2.2) else(mapE eF l28))=(mapE eF (bif (PY x37) then x38.2.2.2.2.2 else l28)) from(ar rfl rfl))) (Le.trans (mI (λg_ u=>(Fv u [] [(30000,.row 110 [(ls x37 x38 l22),(gj (PY x37) x38.2.1.Ret i23),(lv x37 x38 l24),(gj (PY x37) x38.2.2.1 i25),(lu x37 x38 l26),(.omap 9100005),(lx g_ x38.2.2.2.2.1 l27)]),(37006,.tok 5 195 (bif g_ then x38.2.2.2.2.1.length else l27.length))])) (λg_ u=>(Fv u [] [(30000,.row 110 [(ls x37 x38 l22),(gj (PY x37) x38.2.1.Ret i23),(lv x37 x38 l24),(gj (PY x37) x38.2.2.1 i25),(lu x37 x38 l26),(.omap 9100005),(AV.list 5 Jb default (bif g_ then x38.2.2.2.2.1 else l27) (.own 37006))]),(37006,.tok 5 195 ((bif g_ then x38.2.2.2.2.1 else l27).length))])) (PY x37)) (Le.trans (fF 30000 0 (show AVle (ls x37 x38 l22) (AV.list 1 Ax 0 (bif (PY x37) then x38.2.1.Params else l22) .none) from Gc)) (Le.trans (fF 30000 2 (show AVle (lv x37 x38 l24) (AV.list 5 Fl default (bif (PY x37) then x38.2.1.Blocks else l24) .none) from Gc)) (fF 30000 4 (show AVle (lu x37 x38 l26) (AV.list 1 Ax 0 (bif (PY x37) then x38.2.2.2.1 else l26) .none) from Gc)))))) (gC h (λh=>Aq q [6] Fg (tS h (gO (R0 (K3 Ul (Le.refl _ _)))))) λh=>Aq q dc Fg (tN h))))) λh=>tS h (gO (Ed (Dw [] Fg q))))) λx39 h=>(match x39,h with | .inl ⟨l29,i30,l31,i32,l33,l34,l35⟩,h=>gA (Aq q [6] Fg (tS h (C3 Ul))) | .inr r41,h=>V1 (λst' hk=>tS h (gK hk))))) | .inr r42,h=>V1 (λst' hk=>tS h (gK hk))))
abbrev kz:=(Int×List (Int×Ak))
def D5(a0:Ab):kz->Option (LR (Int×List (Int×Ak)) (List (Int×Ak))):=
 λ((i1,l2):kz)=>(bif (decide (i1<(a0.Params.length:Int))) then(Cs (B9 i1 a0.Params.length) ((Db (a0.Params.getD i1.toNat 0)).bind λx5=>(some (.next ((Bh (i1+1)),(Ek l2 (Bh (i1+1)) (⟨x5,(⟨(0:Int),(-1:Int)⟩:G4)⟩:Ak))))))) else(some (.done l2)))
abbrev k4:=(Int×List (Int×Ak)×Aw×Int×List Ag×Int×Aw×List A7)
def Da(a0:Ab):k4->Option (LR (Int×List (Int×Ak)×Aw×Int×List Ag×Int×Aw×List A7) ((List (Int×Ak)×Aw×Int×List Ag×Int×Aw×List A7) ⊕ (Int×Ab×Int×Aw×List A7×List (Int×Ak)))):=
 λ((i8,l9,l10,i11,l12,i13,l14,l15):k4)=>(bif (decide (i8<(a0.Blocks.length:Int))) then(Cs (B9 i8 a0.Blocks.length) ((Ei i8 (a0.Blocks.getD i8.toNat default) (⟨l10,i11,l12⟩:Ab) i13 l14 l9 l15).bind λx24=>(bif (!x24.1) then(some (.done (.inr ((7:Int),x24.2.1,x24.2.2.1,x24.2.2.2.1,x24.2.2.2.2.1,x24.2.2.2.2.2)))) else(some (.next ((Bh (i8+1)),x24.2.2.2.2.2,x24.2.1.Params,x24.2.1.Ret,x24.2.1.Blocks,x24.2.2.1,x24.2.2.2.1,x24.2.2.2.2.1)))))) else(some (.done (.inl (l9,l10,i11,l12,i13,l14,l15)))))
abbrev SZ:=(Int×Ab×Int×Aw×List A7×List (Int×Ak))
def O9(Γ:Gs)(a0:Ab)(a5:Int)(a9:Aw)(a6:List A7)(r:SZ):Exit->St->Prop:=fK Tryz.prog Γ Tryz.f94.results.toList (Z3 a0.Params a0.Ret a0.Blocks a5 a9 a6 a6.length) (Z6 r.1) [(Z1 r.2.1.Params r.2.1.Ret r.2.1.Blocks r.2.2.1 r.2.2.2.1 9200005 r.2.2.2.2.1),(Z7 r.2.2.2.2.1.length),(9200005,.obj (.map false .i64 (mapE (λ(v_:Ak)=>((Pb v_):AV)) r.2.2.2.2.2)))]
def TQ:=(λ(v_:Ak)=>((Pb v_):AV))
def mZ(l16:List Jl)(l17:Aw)(i18:Int)(l19:List Ag)(i20:Int)(l21:Aw)(l22:List A7):List SX:=[(8,.obj (.map true .i64 (mapE TQ l16))),(kI l17 i18 l19 i20 l21 l22),(Z7 l22.length)]
def E1(a0:Ab)(a5:Int)(a9:Aw)(a6:List A7):Option SZ:=
 ((Aj (D5 a0) ((0:Int),([]:List Jl))).bind (λx6=>((Aj (Da a0) ((0:Int),x6,a0.Params,a0.Ret,a0.Blocks,a5,a9,a6)).bind (λx25=>(match x25 with|(.inl (l16,l17,i18,l19,i20,l21,l22))=>(some ((0:Int),(⟨l17,i18,l19⟩:Ab),i20,l21,l22,l16))|(.inr r27)=>(some r27))))))
variable{v27:SZ}
theorem O0(h:E1 v0 v1 v2 v12=some v27):sP 94 [Xt] (Z3 v0.Params v0.Ret v0.Blocks v1 v2 v12 v12.length) (Z6 v27.1) [(Z1 v27.2.1.Params v27.2.1.Ret v27.2.1.Blocks v27.2.2.1 v27.2.2.2.1 9200005 v27.2.2.2.2.1),(Z7 v27.2.2.2.2.1.length),(9200005,.obj (.map false .i64 (mapE (λ(v_:Ak)=>((Pb v_):AV)) v27.2.2.2.2.2)))]:=
 sG Tryz.func94 λΓ q=>tW q [0] Fj [0] K2 (M1 (Sf (λ(k_:List FY) u=>Fv u [] [(8,.obj (.map true .i64 k_))]) (show[]=(mapE TQ ([]:List Jl)) from rfl)) (Aq q VP K2 (tL q h VP K2 (λu (i1,l2)=>(Fv u [(17,(Z6 i1))] [(8,.obj (.map true .i64 (mapE TQ l2)))])) (λu l3=>aG Γ (.exit 0) (Xv [0] K2 u [] [(8,.obj (.map true .i64 (mapE TQ l3)))])) (λ⟨i1,l2⟩ y h=>Aq q [0,15,16,17,18] K2 (gC h (λh=>tV q [0,3,4,15,16,17] K2 h λh=>tB h λx5 y5 h=>tT q VP K2 [⟨[],[],(BV x5),[],[],[]⟩] (c1 (Hv y5)) (M1 (Sf (λ(k_:List FY) u=>Fv u [] [(8,.obj (.map true .i64 k_))]) (show(Ek (mapE TQ l2) (Bh (i1+1)) (.agg [(Z6 x5.1),(Z6 x5.2),N0,(.int .i64 (-1:Int))]))=(mapE TQ (Ek l2 (Bh (i1+1)) (⟨x5,(⟨(0:Int),(-1:Int)⟩:G4)⟩:Ak))) from(Wu (f:=TQ) (l:=l2) (v:=(⟨x5,(⟨(0:Int),(-1:Int)⟩:G4)⟩:Ak)) rfl rfl))) (Aq q VP K2 (tN h)))) λh=>tS h (gO (Ed (Dw [0] K2 q))))) λx6 h=>gA (Aq q TJ K2 (tL q h TJ K2 (λu (i8,l9,l10,i11,l12,i13,l14,l15)=>(Fv u [(39,(Z6 i8))] [(8,.obj (.map true .i64 (mapE TQ l9))),(kI l10 i11 l12 i13 l14 l15),(Z7 l15.length)])) (λu x_=>match x_ with|(.inl (l16,l17,i18,l19,i20,l21,l22))=>aG Γ (.exit 2) (⟨[],(mZ l16 l17 i18 l19 i20 l21 l22),[]⟩:St)|(.inr r_)=>aR (O9 Γ v0 v1 v2 v12 r_)) (λ⟨i8,l9,l10,i11,l12,i13,l14,l15⟩ y h=>Aq q [0,37,38,39,40] K2 (gC h (λh=>tV q [0,5,6,37,38,39] [6,8,30000,37006] h λh=>tB h λx24 y24 h=>tT q [0,37,38,39,48] K2 [⟨[(30000,30000),(37006,37006),(8,9100005)],[],(.bool x24.1),[(Z1 x24.2.1.Params x24.2.1.Ret x24.2.1.Blocks x24.2.2.1 x24.2.2.2.1 9100005 x24.2.2.2.2.1),(Z7 x24.2.2.2.2.1.length),(9100005,.obj (.map true .i64 (mapE TQ x24.2.2.2.2.2)))],[],[]⟩] (c1 (Nh y24)) (gC h (λh=>Aq q [2] K2 (Tt (⟨[(2,(.int .i64 (7:Int)))],[(8,.obj (.map true .i64 (mapE TQ x24.2.2.2.2.2))),(kI x24.2.1.Params x24.2.1.Ret x24.2.1.Blocks x24.2.2.1 x24.2.2.2.1 x24.2.2.2.2.1),(Z7 x24.2.2.2.2.1.length)],[]⟩:St) (tS h (gO (R0 (K3 iJ (Le.trans (JX (nm:=8) (.map false .i64 (mapE TQ x24.2.2.2.2.2)) rfl (λ_ _ _ _ h_=>NQ h_)) (Dw (st':=⟨[(2,(.int .i64 (7:Int)))],[(8,.obj (.map false .i64 (mapE TQ x24.2.2.2.2.2))),(kI x24.2.1.Params x24.2.1.Ret x24.2.1.Blocks x24.2.2.1 x24.2.2.2.1 x24.2.2.2.2.1),(Z7 x24.2.2.2.2.1.length)],[]⟩) [2] K2 q)))))))) λh=>Aq q TJ K2 (tN h))) λh=>tS h (gO (Ed (Dw [] K2 q))))) λx25 h=>(match x25,h with | .inl ⟨l16,l17,i18,l19,i20,l21,l22⟩,h=>gA (Aq q [2] K2 (Tt (⟨[(2,N0)],(mZ l16 l17 i18 l19 i20 l21 l22),[]⟩:St) (tS h (gK (e:=.ret) (K3 iJ (Le.trans (JX (nm:=8) (.map false .i64 (mapE TQ l16)) rfl (λ_ _ _ _ h_=>NQ h_)) (Dw (st':=⟨[(2,N0)],[(8,.obj (.map false .i64 (mapE TQ l16))),(kI l17 i18 l19 i20 l21 l22),(Z7 l22.length)],[]⟩) [2] K2 q))))))) | .inr r27,h=>V1 (λst' hk=>tS h (gK hk))))))))
abbrev k6:=(G4×Ab×Int×Aw×List A7)
def Ef(aV:Int)(a0:Ab)(a5:Int)(a9:Aw)(a7:List Jl)(a6:List A7):Option k6:=
 (Cs (B9 aV a0.Blocks.length) (some ((⟨aV,(((a0.Blocks.getD aV.toNat default).Ops).length:Int)⟩:G4),a0,a5,a9,a6)))
variable{v28:k6}
theorem Il(h:Ef v1 v0 v11 v2 v25 v12=some v28):sP 171 [Xt,(Z6 v1)] [(Z1 v0.Params v0.Ret v0.Blocks v11 v2 9100005 v12),(Z7 v12.length),(9100005,.obj (.map false .i64 (mapE (λ(v_:Ak)=>((Pb v_):AV)) v25)))] (.agg (BC v28.1)) [(Z1 v28.2.1.Params v28.2.1.Ret v28.2.1.Blocks v28.2.2.1 v28.2.2.2.1 9100005 v28.2.2.2.2),(Z7 v28.2.2.2.2.length),(9100005,.obj (.map false .i64 (mapE (λ(v_:Ak)=>((Pb v_):AV)) v25)))]:=
 sG Tryz.func171 λΓ q=>Aq q [0,1,4] dM (tV q [4] dM h λh=>tS h (C3 Ul))
abbrev gV:=(Ab×Int×Aw×List A7)
def Di(a8:Int)(aX:Gq)(aK:G4)(a0:Ab)(a5:Int)(a9:Aw)(a7:List Jl)(a6:List A7):Option gV:=
 (Cs (a6.length+([(⟨a8,aX,aK⟩:A7)]:List A7).length<=room) (some (a0,a5,a9,(a6++([(⟨a8,aX,aK⟩:A7)]:List A7)))))
variable{v29:gV}
theorem Gn(h:Di v1 v19 v24 v0 v11 v2 v25 v12=some v29):sP 170 [Xt,(Z6 v1),(BV v19),(.agg (BC v24))] [(Z1 v0.Params v0.Ret v0.Blocks v11 v2 9100005 v12),(Z7 v12.length),(9100005,.obj (.map false .i64 (mapE (λ(v_:Ak)=>((Pb v_):AV)) v25)))] (.tuple []) [(Z1 v29.1.Params v29.1.Ret v29.1.Blocks v29.2.1 v29.2.2.1 9100005 v29.2.2.2),(Z7 v29.2.2.2.length),(9100005,.obj (.map false .i64 (mapE (λ(v_:Ak)=>((Pb v_):AV)) v25)))]:=
 sG Tryz.func170 λΓ q=>Aq q [0,1,6,7] VJ (tC h λc1_ h=>gR q [] Fg [(17,(AV.list 5 Jb default ([(⟨v1,v19,v24⟩:A7)]:List A7) .exact)),(18,(AV.list 5 Jb default (v12++([(⟨v1,v19,v24⟩:A7)]:List A7)) (.own 37006)))] [] (c5 (Bq 5 Jb (default:A7) ([(⟨v1,v19,v24⟩:A7)]:List A7)) (Eq.refl v12.length) c1_ (V8 5 37006 Jb (default:A7) v12 ([(⟨v1,v19,v24⟩:A7)]:List A7)) (Iv v12 ([(⟨v1,v19,v24⟩:A7)]:List A7))) (tS h (gK (e:=.normal) (K3 Ul (Le.refl _ _)))))
def lL:List iI:=[(2,lP)]
def Kp(a1:Bv):Option gP:=
 ((Lm a1).bind λx1=>(bif (!x1) then(some ([]:List Gq)) else((Ku a1).bind λx2=>(some x2))))
theorem FQ(h:Kp v6=some v21):sP 172 [(V0 v6)] [] (eG v21) []:=
 sG Tryz.func172 λΓ q=>gR q [1] [1] lL [] (c1 (It 2 Bp ((0:Int),(0:Int)))) (tB h λx1 y1 h=>tT q [1,5] [1] [(Z2 x1)] (c1 (Ss y1)) (gC h (λh=>gR q [2] [] lL [] (c1 (It 2 Bp ((0:Int),(0:Int)))) (Tt (⟨lL,[],[]⟩:St) (tS h (gK (e:=.ret) (K3 [] (show Le Γ _ (⟨[(2,(AV.list 2 Bp ((0:Int),(0:Int)) ([]:List Gq) .none))],[],[]⟩:St) from Le.trans (Dw (st':=⟨lL,[],[]⟩) [2] [] q) (Kj (.cons AVle.untag .nil) .nil))))))) λh=>tB h λx2 y2 h=>tT q [2] [] [(VX x2)] (c1 (Uw y2)) (tS h (C3 []))))
abbrev dJ:=(LR (Int×Aw×Int×List Ag×Int×Aw×List A7) (Aw×Int×List Ag×Int×Aw×List A7))
def C5(a0:Ab)(a7:List Jl)(i1:Int)(i21:Int):Mg->Option dJ:=
 λ((i35,l36,i37,l38,i39,l40,l41):Mg)=>(bif (decide (i35<(((((a0.Blocks.getD i1.toNat default).Phis).getD i21.toNat default).Args).length:Int))) then(Cs (B9 i35 ((((a0.Blocks.getD i1.toNat default).Phis).getD i21.toNat default).Args).length) ((Db ((((a0.Blocks.getD i1.toNat default).Phis).getD i21.toNat default).Bits)).bind λx49=>(Cs (B9 i35 ((((a0.Blocks.getD i1.toNat default).Phis).getD i21.toNat default).From).length) ((Ef (((((a0.Blocks.getD i1.toNat default).Phis).getD i21.toNat default).From).getD i35.toNat 0) (⟨l36,i37,l38⟩:Ab) i39 l40 a7 l41).bind λx51=>((Di (((((a0.Blocks.getD i1.toNat default).Phis).getD i21.toNat default).Args).getD i35.toNat 0) x49 x51.1 x51.2.1 x51.2.2.1 x51.2.2.2.1 a7 x51.2.2.2.2).bind λx52=>(some (.next ((Bh (i35+1)),x52.1.Params,x52.1.Ret,x52.1.Blocks,x52.2.1,x52.2.2.1,x52.2.2.2)))))))) else(some (.done (l36,i37,l38,i39,l40,l41))))
def C6(a0:Ab)(a7:List Jl)(i1:Int):Mg->Option dJ:=
 λ((i21,l22,i23,l24,i25,l26,l27):Mg)=>(bif (decide (i21<(((a0.Blocks.getD i1.toNat default).Phis).length:Int))) then(Cs (B9 i21 ((a0.Blocks.getD i1.toNat default).Phis).length) ((Aj (C5 a0 a7 i1 i21) ((0:Int),l22,i23,l24,i25,l26,l27)).bind (λ(l42,i43,l44,i45,l46,l47)=>(some (.next ((Bh (i21+1)),l42,i43,l44,i45,l46,l47)))))) else(some (.done (l22,i23,l24,i25,l26,l27))))
def C7(a0:Ab)(a7:List Jl)(i1:Int)(i57:Int)(x71:List PH):Mg->Option dJ:=
 λ((i72,l73,i74,l75,i76,l77,l78):Mg)=>(bif (decide (i72<(x71.length:Int))) then(Cs (B9 i72 x71.length) (Cs (B9 i72 ((((a0.Blocks.getD i1.toNat default).Ops).getD i57.toNat default).Args).length) ((Di (((((a0.Blocks.getD i1.toNat default).Ops).getD i57.toNat default).Args).getD i72.toNat 0) (x71.getD i72.toNat ((0:Int),(0:Int))) (⟨i1,i57⟩:G4) (⟨l73,i74,l75⟩:Ab) i76 l77 a7 l78).bind λx87=>(some (.next ((Bh (i72+1)),x87.1.Params,x87.1.Ret,x87.1.Blocks,x87.2.1,x87.2.2.1,x87.2.2.2)))))) else(some (.done (l73,i74,l75,i76,l77,l78))))
def C8(a0:Ab)(a7:List Jl)(i1:Int):Mg->Option dJ:=
 λ((i57,l58,i59,l60,i61,l62,l63):Mg)=>(bif (decide (i57<(((a0.Blocks.getD i1.toNat default).Ops).length:Int))) then(Cs (B9 i57 ((a0.Blocks.getD i1.toNat default).Ops).length) ((Kp (((a0.Blocks.getD i1.toNat default).Ops).getD i57.toNat default)).bind λx71=>((Aj (C7 a0 a7 i1 i57 x71) ((0:Int),l58,i59,l60,i61,l62,l63)).bind (λ(l79,i80,l81,i82,l83,l84)=>(some (.next ((Bh (i57+1)),l79,i80,l81,i82,l83,l84))))))) else(some (.done (l58,i59,l60,i61,l62,l63))))
def C9(a0:Ab)(a7:List Jl):Mg->Option dJ:=
 λ((i1,l2,i3,l4,i5,l6,l7):Mg)=>(bif (decide (i1<(a0.Blocks.length:Int))) then(Option.bind (α:=(Aw×Int×List Ag×Int×Aw×List A7)) (Cs (B9 i1 a0.Blocks.length) ((Aj (C6 a0 a7 i1) ((0:Int),l2,i3,l4,i5,l6,l7)).bind (λx55=>(match x55 with|(l28,i29,l30,i31,l32,l33)=>((Aj (C8 a0 a7 i1) ((0:Int),l28,i29,l30,i31,l32,l33)).bind (λx90=>(match x90 with|(l64,i65,l66,i67,l68,l69)=>(bif (((a0.Blocks.getD i1.toNat default).End.Kind:Int)==0) then((Db i65).bind λx92=>((Ef i1 (⟨l64,i65,l66⟩:Ab) i67 l68 a7 l69).bind λx93=>((Di ((a0.Blocks.getD i1.toNat default).End.Arg) x92 x93.1 x93.2.1 x93.2.2.1 x93.2.2.2.1 a7 x93.2.2.2.2).bind λx94=>(some (x94.1.Params,x94.1.Ret,x94.1.Blocks,x94.2.1,x94.2.2.1,x94.2.2.2))))) else(bif (((a0.Blocks.getD i1.toNat default).End.Kind:Int)==2) then((Db (1:Int)).bind λx95=>((Ef i1 (⟨l64,i65,l66⟩:Ab) i67 l68 a7 l69).bind λx96=>((Di ((a0.Blocks.getD i1.toNat default).End.Arg) x95 x96.1 x96.2.1 x96.2.2.1 x96.2.2.2.1 a7 x96.2.2.2.2).bind λx97=>(some (x97.1.Params,x97.1.Ret,x97.1.Blocks,x97.2.1,x97.2.2.1,x97.2.2.2))))) else(some (l64,i65,l66,i67,l68,l69))))))))))) (λx98=>(match x98 with|(l14,i15,l16,i17,l18,l19)=>(some (.next ((Bh (i1+1)),l14,i15,l16,i17,l18,l19)))))) else(some (.done (l2,i3,l4,i5,l6,l7))))
def nL(a0:Ab)(i1:Int):=(a0.Blocks.getD i1.toNat default)
def gb(a7:List Jl):=(mapE (λ(v_:Ak)=>((Pb v_):AV)) a7)
def E0(a0:Ab)(a5:Int)(a9:Aw)(a7:List Jl)(a6:List A7):Option gV:=
 ((Aj (C9 a0 a7) ((0:Int),a0.Params,a0.Ret,a0.Blocks,a5,a9,a6)).bind (λ(l8,i9,l10,i11,l12,l13)=>(some ((⟨l8,i9,l10⟩:Ab),i11,l12,l13))))
theorem Oz(h:E0 v0 v1 v2 v25 v12=some v29):sP 133 [Xt] [(Z1 v0.Params v0.Ret v0.Blocks v1 v2 9100005 v12),(Z7 v12.length),(9100005,.obj (.map false .i64 (mapE (λ(v_:Ak)=>((Pb v_):AV)) v25)))] (.tuple []) [(Z1 v29.1.Params v29.1.Ret v29.1.Blocks v29.2.1 v29.2.2.1 9100005 v29.2.2.2),(Z7 v29.2.2.2.length),(9100005,.obj (.map false .i64 (mapE (λ(v_:Ak)=>((Pb v_):AV)) v25)))]:=
 sG Tryz.func133 λΓ q=>Aq q IM Fg (tL q h IM Fg (λu (i1,l2,i3,l4,i5,l6,l7)=>(Fv u [(18,(Z6 i1))] (JG l2 i3 l4 i5 l6 l7 l7.length))) (λu (l8,i9,l10,i11,l12,l13)=>aG Γ (.exit 0) (Xv [] Fg u [] (JG l8 i9 l10 i11 l12 l13 l13.length))) (λ⟨i1,l2,i3,l4,i5,l6,l7⟩ y h=>Aq q [0,16,17,18,19] Fg (gC h (λh=>tB h λx98 y98 h=>gJ y98 (λ(l14,i15,l16,i17,l18,l19)=>aG Γ .normal (⟨[(0,Xt),(16,(YR v0.Blocks)),(17,(FA v0.Blocks.length)),(18,(Z6 i1))],(kJ l14 i15 l16 i17 l18 9100005 l19 l19.length (gb v25)),[]⟩:St)) (λy h=>tV q PO Mi h λh=>Aq q PL Mi (tL q h PL Mi (λu (i21,l22,i23,l24,i25,l26,l27)=>(Fv u [(26,(Z6 i21))] (JG l22 i23 l24 i25 l26 l27 l27.length))) (λu (l28,i29,l30,i31,l32,l33)=>aG Γ (.exit 2) (Xv PO Mi u [] (JG l28 i29 l30 i31 l32 l33 l33.length))) (λ⟨i21,l22,i23,l24,i25,l26,l27⟩ y h=>Aq q [0,2,3,16,17,18,24,25,26,27] Mi (gC h (λh=>tV q [0,2,3,5,16,17,18,24,25,26] Xo h λh=>Aq q VF Xo (tL q h VF Xo (λu (i35,l36,i37,l38,i39,l40,l41)=>(Fv u [(33,(Z6 i35))] (JG l36 i37 l38 i39 l40 l41 l41.length))) (λu (l42,i43,l44,i45,l46,l47)=>aG Γ (.exit 4) (Xv PL Mi u [] (JG l42 i43 l44 i45 l46 l47 l47.length))) (λ⟨i35,l36,i37,l38,i39,l40,l41⟩ y h=>Aq q [0,2,3,5,16,17,18,24,25,26,31,32,33,34] Xo (gC h (λh=>tV q [0,2,3,5,6,7,16,17,18,24,25,26,31,32,33] Xo h λh=>tB h λx49 y49 h=>tC h λc50_ h=>tB h λx51 y51 h=>tB h λx52 y52 h=>tT q VF Xo [⟨[],[],(BV x49),[],[],[]⟩,(lz x51.1 x51.2.1.Params x51.2.1.Ret x51.2.1.Blocks x51.2.2.1 x51.2.2.2.1 x51.2.2.2.2 x51.2.2.2.2.length (gb v25)),(kH x52.1.Params x52.1.Ret x52.1.Blocks x52.2.1 x52.2.2.1 x52.2.2.2 x52.2.2.2.length (gb v25))] (c4 (Hv y49) c50_ (Il y51) (Gn y52)) (Aq q VF Xo (tN h))) λh=>tS h (gO (Ed (Dw PL Mi q))))) λx53 h=>(match x53,h with|⟨l42,i43,l44,i45,l46,l47⟩,h=>gA (Aq q PL Mi (tN h))))) λh=>tS h (gO (Ed (Dw PO Mi q))))) λx55 h=>(match x55,h with|⟨l28,i29,l30,i31,l32,l33⟩,h=>gA (Aq q PM Mi (tL q h PM Mi (λu (i57,l58,i59,l60,i61,l62,l63)=>(Fv u [(56,(Z6 i57))] (JG l58 i59 l60 i61 l62 l63 l63.length))) (λu (l64,i65,l66,i67,l68,l69)=>aG Γ (.exit 6) (Xv PO Mi u [] (JG l64 i65 l66 i67 l68 l69 l69.length))) (λ⟨i57,l58,i59,l60,i61,l62,l63⟩ y h=>Aq q [0,2,3,16,17,18,54,55,56,57] Mi (gC h (λh=>tV q [0,2,3,8,9,16,17,18,54,55,56] IH h λh=>tB h λx71 y71 h=>tT q VE IH [(VX x71)] (c1 (FQ y71)) (tL q h VE IH (λu (i72,l73,i74,l75,i76,l77,l78)=>(Fv u [(64,(Z6 i72))] (JG l73 i74 l75 i76 l77 l78 l78.length))) (λu (l79,i80,l81,i82,l83,l84)=>aG Γ (.exit 8) (Xv PM Mi u [] (JG l79 i80 l81 i82 l83 l84 l84.length))) (λ⟨i72,l73,i74,l75,i76,l77,l78⟩ y h=>Aq q [0,2,3,8,9,16,17,18,54,55,56,62,63,64,65] IH (gC h (λh=>tV q [0,2,3,8,9,10,11,16,17,18,54,55,56,62,63,64] [3,9,11,30000,37006,9100005] h λh=>tC h λc86_ h=>tB h λx87 y87 h=>tT q VE IH [(kH x87.1.Params x87.1.Ret x87.1.Blocks x87.2.1 x87.2.2.1 x87.2.2.2 x87.2.2.2.length (gb v25))] (c2 c86_ (Gn y87)) (Aq q VE IH (tN h))) λh=>tS h (gO (Ed (Dw PM Mi q))))) λx88 h=>(match x88,h with|⟨l79,i80,l81,i82,l83,l84⟩,h=>gA (Aq q PM Mi (tN h))))) λh=>tS h (gO (Ed (Dw PO Mi q))))) λx90 h=>(match x90,h with|⟨l64,i65,l66,i67,l68,l69⟩,h=>gA (tW q [0,2,3,16,17,18,84] Mi [0,2,3,16,17,18,84,85] Mi (gC h (λh=>tB h λx92 y92 h=>tB h λx93 y93 h=>tB h λx94 y94 h=>tT q IM Fg [⟨[],[],(BV x92),[],[],[]⟩,(lz x93.1 x93.2.1.Params x93.2.1.Ret x93.2.1.Blocks x93.2.2.1 x93.2.2.2.1 x93.2.2.2.2 x93.2.2.2.2.length (gb v25)),(kH x94.1.Params x94.1.Ret x94.1.Blocks x94.2.1 x94.2.2.1 x94.2.2.2 x94.2.2.2.length (gb v25))] (c3 (Hv y92) (Il y93) (Gn y94)) (tS h (gK (Ed Nu)))) λh=>Aq q [0,2,3,16,17,18,101] Mi (gC h (λh=>tB h λx95 y95 h=>tB h λx96 y96 h=>tB h λx97 y97 h=>tT q IM Fg [⟨[],[],(BV x95),[],[],[]⟩,(lz x96.1 x96.2.1.Params x96.2.1.Ret x96.2.1.Blocks x96.2.2.1 x96.2.2.2.1 x96.2.2.2.2 x96.2.2.2.2.length (gb v25)),(kH x97.1.Params x97.1.Ret x97.1.Blocks x97.2.1 x97.2.2.1 x97.2.2.2 x97.2.2.2.length (gb v25))] (c3 (Hv y95) (Il y96) (Gn y97)) (tS h (gK (Ed Nu)))) λh=>tS h (gK (Ed (Dw IM Fg q)))))))))))) (match x98,h with|⟨l14,i15,l16,i17,l18,l19⟩,h=>gA (Aq q IM Fg (tN h)))) λh=>tS h (gO (Ed (Dw [] Fg q))))) λx100 h=>(match x100,h with|⟨l8,i9,l10,i11,l12,l13⟩,h=>gy (λst' hl101=>tS h (gK (e:=.normal) (K3 Ul hl101)))))
def G7(aO:A7)(a0:Ab)(a5:Int)(a9:Aw)(a7:List Jl)(a6:List A7):Option S9:=
 (some ((B0 a7 aO.v),a0,a5,a9,a6))
variable{v30:A7}
theorem O2(h:G7 v30 v0 v1 v2 v25 v12=some v23):sP 134 [Xt,(.agg (Jb v30))] [(Z1 v0.Params v0.Ret v0.Blocks v1 v2 9100005 v12),(Z7 v12.length),(9100005,.obj (.map false .i64 (mapE (λ(v_:Ak)=>((Pb v_):AV)) v25)))] (.bool v23.1) [(Z1 v23.2.1.Params v23.2.1.Ret v23.2.1.Blocks v23.2.2.1 v23.2.2.2.1 9100005 v23.2.2.2.2),(Z7 v23.2.2.2.2.length),(9100005,.obj (.map false .i64 (mapE (λ(v_:Ak)=>((Pb v_):AV)) v25)))]:=
 sG Tryz.func134 λΓ q=>Aq q Ve Mi (gR q [6] Fg [(14,(.tuple [(gh v25 v30.v),(.bool (B0 v25 v30.v))]))] [] (c1 (show(AVle (.tuple [mget (.agg [N0,N0,N0,N0]) (mapE (λ(v_:Ak)=>((Pb v_):AV)) v25) v30.v,.bool (B0 (mapE (λ(v_:Ak)=>((Pb v_):AV)) v25) v30.v)]) (.tuple [(gh v25 v30.v),(.bool (B0 v25 v30.v))])) from(Wt (f:=(λ(v_:Ak)=>((Pb v_):AV))) (l:=v25) (AVle.refl _) rfl))) (Aq q [4] Fg (tS h (C3 Ul))))
def Ie(aO:A7)(a0:Ab)(a5:Int)(a9:Aw)(a7:List Jl)(a6:List A7):Option S9:=
 (some (((((mget (default:Ak) a7 aO.v).shape.1:Int)==aO.shape.1)&&((((mget (default:Ak) a7 aO.v).shape.2:Int)==aO.shape.2)&&true)),a0,a5,a9,a6))
theorem Ru(h:Ie v30 v0 v1 v2 v25 v12=some v23):sP 135 [Xt,(.agg (Jb v30))] [(Z1 v0.Params v0.Ret v0.Blocks v1 v2 9100005 v12),(Z7 v12.length),(9100005,.obj (.map false .i64 (mapE (λ(v_:Ak)=>((Pb v_):AV)) v25)))] (.bool v23.1) [(Z1 v23.2.1.Params v23.2.1.Ret v23.2.1.Blocks v23.2.2.1 v23.2.2.2.1 9100005 v23.2.2.2.2),(Z7 v23.2.2.2.2.length),(9100005,.obj (.map false .i64 (mapE (λ(v_:Ak)=>((Pb v_):AV)) v25)))]:=
 sG Tryz.func135 λΓ q=>Aq q Ve Mi (gR q [4] Fg [(11,(gh v25 v30.v))] [] (c1 (show(AVle (mget (.agg [N0,N0,N0,N0]) (mapE (λ(v_:Ak)=>((Pb v_):AV)) v25) v30.v) (gh v25 v30.v)) from(BI (f:=(λ(v_:Ak)=>((Pb v_):AV))) (l:=v25) (AVle.refl _) rfl))) (tS h (C3 Ul)))
def Bw(aY:Aw)(a8:Int):Int->Option (LR Int (Unit ⊕ Int)):=
 λ(i1:Int)=>(bif (decide (i1<(aY.length:Int))) then(Cs (B9 i1 aY.length) (bif (a8==(aY.getD i1.toNat 0)) then(some (.done (.inr i1))) else(some (.next (Bh (i1+1)))))) else(some (.done (.inl ()))))
def Pv(Γ:Gs)(aY:Aw)(a8:Int)(r:Int):Exit->St->Prop:=fK Tryz.prog Γ Tryz.f176.results.toList [] (.int .i64 r) []
def Eb(aY:Aw)(a8:Int):Option Int:=
 ((Aj (Bw aY a8) (0:Int)).bind (λx3=>(match x3 with|(.inl _)=>(some (-1:Int))|(.inr r5)=>(some r5))))
theorem Pi(h:Eb v2 v1=some v11):sP 176 [(Z9 v2),(Z6 v1)] [] (.int .i64 v11) []:=
 sG Tryz.func176 λΓ q=>tW q G0 [] [0,1,7,8] [] (tL q h [0,1,7,8] [] (λu i1=>(Fv u [(8,(Z6 i1))] [])) (λu x_=>match x_ with|(.inl _)=>aG Γ (.exit 0) (⟨[],[],[]⟩:St)|(.inr r_)=>aR (Pv Γ v2 v1 r_)) (λi1 y h=>Aq q [0,1,7,8,9] [] (gC h (λh=>Aq q [0,1,5,7,8] [] (tV q [0,1,5,7,8,16] [] h λh=>gC h (λh=>Aq q [4] [] (tS h (gO (R0 (K3 [] (Le.refl _ _)))))) λh=>Aq q [0,1,7,8] [] (tN h))) λh=>tS h (gO (Ed (Dw [] [] q))))) λx3 h=>(match x3,h with | .inl _,h=>gA (Aq q [4] [] (tS h (C3 []))) | .inr r5,h=>V1 (λst' hk=>tS h (gK hk))))
def Hz(aC:Aw)(aK:Int):Option Bool:=
 (some (bif (decide ((0:Int)<=aK)) then(decide (aK<(aC.length:Int))) else false))
theorem So(h:Hz v2 v1=some v3):sP 229 [(Z9 v2),(Z6 v1)] [] (.bool v3) []:=
 sG Tryz.func229 λΓ q=>Aq q G0 [] (tU q [4] [] (QE ((decide ((0:Int)<=v1))==true) (c1 (Nt (decide ((0:Int)<=v1))))) (tS h (C3 [])))
def Cr(aC:Aw)(aa1:Int)(aS:Int):SY->Option (LR (Int×Aw) (Aw ⊕ (Bool×Aw))):=
 λ((i1,l2):SY)=>(bif (i1 !=aS) then(Cs (B9 i1 l2.length) (bif ((l2.getD i1.toNat 0)!=0) then(Cs (B9 i1 l2.length) (some (.done (.inr (((l2.getD i1.toNat 0)!=(Bh (aa1+1))),l2))))) else(Cs (B9 i1 aC.length) ((Hz aC (aC.getD i1.toNat 0)).bind λx7=>(bif (!x7) then(some (.done (.inr (false,l2)))) else(Cs (B9 i1 l2.length) (Cs (B9 i1 aC.length) (some (.next ((aC.getD i1.toNat 0),(l2.set i1.toNat (Bh (aa1+1))))))))))))) else(some (.done (.inl l2))))
def LN(Γ:Gs)(aC:Aw)(aa6:Aw)(aa1:Int)(aS:Int)(r:dH):Exit->St->Prop:=fK Tryz.prog Γ Tryz.f228.results.toList [(Z4 34001 aa6)] (.bool r.1) [(Z4 34001 r.2)]
def Oc(aC:Aw)(aa6:Aw)(aa1:Int)(aS:Int):Option dH:=
 ((Aj (Cr aC aa1 aS) (aa1,aa6)).bind (λx10=>(match x10 with|(.inl l3)=>(some (true,l3))|(.inr r12)=>(some r12))))
variable{v31:dH}
theorem KG(h:Oc v2 v17 v1 v11=some v31):sP 228 [(Z9 v2),(.vsl 34001 v17.length),(Z6 v1),(Z6 v11)] [(Z4 34001 v17)] (.bool v31.1) [(Z4 34001 v31.2)]:=
 sG Tryz.func228 λΓ q=>tW q [0,1,2,3] [34001] [0,1,2,3,9] [34001] (Aq q VO [34001] (tL q h VO [34001] (λu (i1,l2)=>(Fv u [(1,(.vsl 34001 l2.length)),(10,(Z6 i1))] [(Z4 34001 l2)])) (λu x_=>match x_ with|(.inl l3)=>aG Γ (.exit 0) (⟨[],[(Z4 34001 l3)],[]⟩:St)|(.inr r_)=>aR (LN Γ v2 v17 v1 v11 r_)) (λ⟨i1,l2⟩ y h=>Aq q [0,1,3,9,10,16] [34001] (gC h (λh=>tC h λc4_ h=>tU q [0,1,3,9,10,25] [34001] (c2 c4_ (Eq.refl l2.length)) (gC h (λh=>tC h λc5_ h=>tU q [8] [34001] (c2 c5_ (Eq.refl l2.length)) (tS h (gO (R0 (K3 TF (Le.refl _ _)))))) λh=>tC h λc6_ h=>tB h λx7 y7 h=>tT q [0,1,3,9,10,38] [34001] [(Z2 x7)] (c2 c6_ (So y7)) (gC h (λh=>Aq q [8] [34001] (tS h (gO (R0 (K3 TF (Le.refl _ _)))))) λh=>tC h λc8_ h=>tU q VO [34001] (c2 c8_ (Eq.refl l2.length)) (M1 (Le.trans (Wl 34001 (show ∀ k_,k_<l2.length->AVleL ((λi_=>AV.eraseAll (λn_=>Cc n_ [34001]) ((K5 (λi=>Ax (l2.getD i 0)) i1.toNat 0 [(.int .i64 (Bh (v1+1)))]) i_)) k_) ((λi=>Ax ((l2.set i1.toNat (Bh (v1+1))).getD i 0)) k_) from(Ch (Hy ..).symm (λk_ hk_=>(B8 (AV.eraseAll (λn_=>Cc n_ [34001])) ((L2 (λ_ _=>rfl) (N7 c8_) rfl) k_ hk_)).trans rfl)))) (Sf (λ(k_:Nat) u=>(Fv u [(1,(.vsl 34001 k_))] [(34001,.arr 1 3 k_ (λi=>Ax ((l2.set i1.toNat (Bh (v1+1))).getD i 0)))])) (show l2.length=(l2.set i1.toNat (Bh (v1+1))).length from(Hy ..).symm))) (tV q VO [34001] h λh=>tN h))))) λh=>tS h (gO (Ed (Dw [] [34001] q))))) λx10 h=>(match x10,h with | .inl l3,h=>gA (Aq q [8] [34001] (tS h (C3 TF))) | .inr r12,h=>V1 (λst' hk=>tS h (gK hk)))))
def Eg(aC:Aw)(x1:Int):SY->Option (LR (Int×Aw) (Unit ⊕ Bool)):=
 λ((i3,l4):SY)=>(bif (decide (i3<(aC.length:Int))) then(Cs (B9 i3 aC.length) ((bif (((aC.getD i3.toNat 0)!=-2)==true) then Oc aC l4 i3 x1 else some (false,[])).bind λx6=>(Cs ((((aC.getD i3.toNat 0)!=-2)==true)=true->(l4.length=x6.2.length)) (bif (bif ((aC.getD i3.toNat 0)!=-2) then(!x6.1) else false) then(some (.done (.inr false))) else(some (.next ((Bh (i3+1)),(bif (((aC.getD i3.toNat 0)!=-2)==true) then x6.2 else l4)))))))) else(some (.done (.inl ()))))
def JA(Γ:Gs)(aC:Aw)(r:Bool):Exit->St->Prop:=fK Tryz.prog Γ Tryz.f216.results.toList [] (.bool r) []
def di(aC:Aw)(i3:Int):=(((aC.getD i3.toNat 0)!=-2)==true)
def Mt(aC:Aw):Option Bool:=
 ((Eb aC (-1:Int)).bind λx1=>(bif (decide (x1<0)) then(some false) else(Cs (0<=(aC.length:Int)/\(aC.length:Int)<=(aC.length:Int)/\(aC.length:Int)<=(room:Int)) ((Aj (Eg aC x1) ((0:Int),(List.replicate (aC.length:Int).toNat (0:Int)))).bind (λx8=>(match x8 with|(.inl _)=>(some true)|(.inr r10)=>(some r10)))))))
theorem FL(h:Mt v2=some v3):sP 216 [(Z9 v2)] [] (.bool v3) []:=
 sG Tryz.func216 λΓ q=>Aq q [0] [] (tB h λx1 y1 h=>tT q Ve [] [(VZ x1)] (c1 (Pi y1)) (Aq q [0,3,9] [] (gC h (λh=>Aq q [2] [] (tS h (C3 []))) λh=>tV q [0,3,4] [12] h λh=>by exact M1 (Le.trans (Wl 12 (show ∀ k_,k_<((v2.length:Int).toNat)->AVleL ((λi_=>AV.eraseAll (λn_=>Cc n_ [12]) ((λ_=>[N0]) i_)) k_) ((λi=>Ax ((List.replicate (v2.length:Int).toNat (0:Int)).getD i 0)) k_) from(λk hk=>Wp (e:=Ax) (d:=(0:Int)) (.cons (AVle.refl _) .nil) _ k (W8 hk)))) (Sf (λ(k_:Nat) u=>(Fv u [(4,(.vsl 12 k_))] [(12,.arr 1 3 k_ (λi=>Ax ((List.replicate (v2.length:Int).toNat (0:Int)).getD i 0)))])) (show(v2.length:Int).toNat=(List.replicate (v2.length:Int).toNat (0:Int)).length from(Xi ..).symm))) (Aq q TD [12] (tL q h TD [12] (λu (i3,l4)=>(Fv u [(4,(.vsl 12 l4.length)),(15,(Z6 i3))] [(Z4 12 l4)])) (λu x_=>match x_ with|(.inl _)=>aG Γ (.exit 0) (⟨[],[],[]⟩:St)|(.inr r_)=>aR (JA Γ v2 r_)) (λ⟨i3,l4⟩ y h=>Aq q [0,3,4,14,15,16] [12] (gC h (λh=>Aq q [0,3,4,5,14,15] [12] (tC h λc5_ h=>tB h λx6 y6 h=>tC h λc7_ h=>tT q [0,3,4,14,15,30] [12] [⟨[(12,34001)],[],(.bool x6.1),[(Z4 34001 x6.2)],[],[]⟩] (ci c5_ (jm (di v2 i3) (c3 (λ(hg:(di v2 i3)=true)=>(KG (Br hg y6))) (gI (di v2 i3)) (Nt ((v2.getD i3.toNat 0)!=-2))))) (M1 (Le.trans (Wl 12 (show ∀ k_,k_<(bif (di v2 i3) then x6.2.length else l4.length)->AVleL ((λi_=>AV.eraseAll (λn_=>Cc n_ [12]) ((λi=>bif (di v2 i3) then(λi=>Ax (x6.2.getD i 0)) i else(λi=>Ax (l4.getD i 0)) i) i_)) k_) ((λi=>Ax ((bif (di v2 i3) then x6.2 else l4).getD i 0)) k_) from(Ch TX (λk_ hk_=>(B8 (AV.eraseAll (λn_=>Cc n_ [12])) ((λ_ _=>eQ) k_ hk_)).trans rfl)))) (Le.trans (Sf (λ(k_:Nat) u=>(Fv u [] [(12,.arr 1 3 k_ (λi=>Ax ((bif (di v2 i3) then x6.2 else l4).getD i 0)))])) (show(bif (di v2 i3) then x6.2.length else l4.length)=(bif (di v2 i3) then x6.2 else l4).length from TX)) (Sf (λ(k_:Nat) u=>(Fv u [(4,(.vsl 12 k_))] [])) (show l4.length=(bif (di v2 i3) then x6.2 else l4).length from(eR c7_))))) (gC h (λh=>Aq q [2] [] (tS h (gO (R0 (K3 [] (Le.refl _ _)))))) λh=>Aq q TD [12] (tN h))))) λh=>tS h (gO (Ed (Dw [] [] q))))) λx8 h=>(match x8,h with | .inl _,h=>gA (Aq q [2] [] (tS h (C3 []))) | .inr r10,h=>V1 (λst' hk=>tS h (gK hk))))))))
def Ih(aC:Aw)(aK:Int):Option Bool:=
 ((Hz aC aK).bind λx1=>(Cs ((x1==true)=true->(B9 aK aC.length)) (some (bif x1 then((aC.getD aK.toNat 0)!=-2) else false))))
theorem Rf(h:Ih v2 v1=some v3):sP 217 [(Z9 v2),(Z6 v1)] [] (.bool v3) []:=
 sG Tryz.func217 λΓ q=>Aq q G0 [] (tB h λx1 y1 h=>tC h λc2_ h=>tT q [4] [] [(Z2 x1)] (ci (So y1) (Tu (x1==true) (ci c2_ (Tu (x1==true) (c1 (Nt x1)))))) (tS h (C3 [])))
def Ob(aC:Aw)(aH:Int)(aI:Int):Option Bool:=
 ((Mt aC).bind λx1=>((bif (x1==true) then Ih aC aH else some false).bind λx2=>((bif ((bif x1 then x2 else false)==true) then Ih aC aI else some false).bind λx3=>(some (bif (bif x1 then x2 else false) then x3 else false)))))
theorem KF(h:Ob v2 v1 v11=some v3):sP 191 [(Z9 v2),(Z6 v1),(Z6 v11)] [] (.bool v3) []:=
 sG Tryz.func191 λΓ q=>Aq q [0,1,2] [] (tB h λx1 y1 h=>tB h λx2 y2 h=>tB h λx3 y3 h=>tT q [6] [] [(Z2 x1),(Z2 x2),(Z2 x3)] (ci (FL y1) (Tu (x1==true) (YV (λ(hg:(x1==true)=true)=>(Rf (Br hg y2))) (Nt x1) (Tu ((bif x1 then x2 else false)==true) (c2 (λ(hg:((bif x1 then x2 else false)==true)=true)=>(Rf (Br hg y3))) (Nt (bif x1 then x2 else false))))))) (tS h (C3 [])))
def Qc(aC:Aw)(aH:Int)(aI:Int):Option Bool:=
 ((Ob aC aH aI).bind λx1=>((bif (x1==true) then Ll aC aH aI else some (0:Int)).bind λx2=>(some (bif x1 then(x2==aH) else false))))
theorem NV(h:Qc v2 v1 v11=some v3):sP 173 [(Z9 v2),(Z6 v1),(Z6 v11)] [] (.bool v3) []:=
 sG Tryz.func173 λΓ q=>Aq q [0,1,2] [] (tB h λx1 y1 h=>tB h λx2 y2 h=>tT q [6] [] [(Z2 x1),(VZ x2)] (ci (KF y1) (QE (x1==true) (ci (λ(hg:(x1==true)=true)=>(Zm (Br hg y2))) (Tu (x1==true) (c1 (Nt x1)))))) (tS h (C3 [])))
def E2(aO:A7)(a0:Ab)(a5:Int)(a9:Aw)(a7:List Jl)(a6:List A7):Option S9:=
 (bif (((mget (default:Ak) a7 aO.v).place.block:Int)==aO.place.block) then(some ((decide (((mget (default:Ak) a7 aO.v).place.at_:Int)<aO.place.at_)),a0,a5,a9,a6)) else((Qc a9 ((mget (default:Ak) a7 aO.v).place.block) aO.place.block).bind λx1=>(some (x1,a0,a5,a9,a6))))
theorem O1(h:E2 v30 v0 v1 v2 v25 v12=some v23):sP 136 [Xt,(.agg (Jb v30))] [(Z1 v0.Params v0.Ret v0.Blocks v1 v2 9100005 v12),(Z7 v12.length),(9100005,.obj (.map false .i64 (mapE (λ(v_:Ak)=>((Pb v_):AV)) v25)))] (.bool v23.1) [(Z1 v23.2.1.Params v23.2.1.Ret v23.2.1.Blocks v23.2.2.1 v23.2.2.2.1 9100005 v23.2.2.2.2),(Z7 v23.2.2.2.2.length),(9100005,.obj (.map false .i64 (mapE (λ(v_:Ak)=>((Pb v_):AV)) v25)))]:=
 sG Tryz.func136 λΓ q=>Aq q Ve Mi (gR q [0,3,5] Xo [(12,(gh v25 v30.v))] [] (c1 (show(AVle (mget (.agg [N0,N0,N0,N0]) (mapE (λ(v_:Ak)=>((Pb v_):AV)) v25) v30.v) (gh v25 v30.v)) from(BI (f:=(λ(v_:Ak)=>((Pb v_):AV))) (l:=v25) (AVle.refl _) rfl))) (Aq q [0,3,5,19] Xo (gC h (λh=>Aq q [4] Fg (tS h (C3 Ul))) λh=>tB h λx1 y1 h=>tT q [4] Fg [(Z2 x1)] (c1 (NV y1)) (tS h (C3 Ul)))))
abbrev jX:=(LR (Int×Aw×Int×List Ag×Int×Aw×List A7) ((Aw×Int×List Ag×Int×Aw×List A7) ⊕ (Aw×Int×List Ag×Int×Aw×List A7)))
def C0(a7:List Jl)(x8:gV):Mg->Option jX:=
 λ((i9,l10,i11,l12,i13,l14,l15):Mg)=>(bif (decide (i9<(x8.2.2.2.length:Int))) then(Cs (B9 i9 x8.2.2.2.length) ((G7 (x8.2.2.2.getD i9.toNat default) (⟨l10,i11,l12⟩:Ab) i13 l14 a7 l15).bind λx29=>(bif (!x29.1) then(some (.done (.inr (x29.2.1.Params,x29.2.1.Ret,x29.2.1.Blocks,x29.2.2.1,x29.2.2.2.1,x29.2.2.2.2)))) else(some (.next ((Bh (i9+1)),x29.2.1.Params,x29.2.1.Ret,x29.2.1.Blocks,x29.2.2.1,x29.2.2.2.1,x29.2.2.2.2)))))) else(some (.done (.inl (l10,i11,l12,i13,l14,l15)))))
def C1(a7:List Jl)(l21:List A7):Mg->Option jX:=
 λ((i32,l33,i34,l35,i36,l37,l38):Mg)=>(bif (decide (i32<(l21.length:Int))) then(Cs (B9 i32 l21.length) ((Ie (l21.getD i32.toNat default) (⟨l33,i34,l35⟩:Ab) i36 l37 a7 l38).bind λx52=>(bif (!x52.1) then(some (.done (.inr (x52.2.1.Params,x52.2.1.Ret,x52.2.1.Blocks,x52.2.2.1,x52.2.2.2.1,x52.2.2.2.2)))) else(some (.next ((Bh (i32+1)),x52.2.1.Params,x52.2.1.Ret,x52.2.1.Blocks,x52.2.2.1,x52.2.2.2.1,x52.2.2.2.2)))))) else(some (.done (.inl (l33,i34,l35,i36,l37,l38)))))
def C2(a7:List Jl)(l44:List A7):Mg->Option jX:=
 λ((i55,l56,i57,l58,i59,l60,l61):Mg)=>(bif (decide (i55<(l44.length:Int))) then(Cs (B9 i55 l44.length) ((E2 (l44.getD i55.toNat default) (⟨l56,i57,l58⟩:Ab) i59 l60 a7 l61).bind λx75=>(bif (!x75.1) then(some (.done (.inr (x75.2.1.Params,x75.2.1.Ret,x75.2.1.Blocks,x75.2.2.1,x75.2.2.2.1,x75.2.2.2.2)))) else(some (.next ((Bh (i55+1)),x75.2.1.Params,x75.2.1.Ret,x75.2.1.Blocks,x75.2.2.1,x75.2.2.2.1,x75.2.2.2.2)))))) else(some (.done (.inl (l56,i57,l58,i59,l60,l61)))))
def J3 :Mg->Option (LR (Int×Aw×Int×List Ag×Int×Aw×List A7) (Int×Ab×Int×Aw×List A7)):=
 λ(s_:Mg)=>match s_ with|(i1,l2,i3,l4,i5,l6,l7)=>(some (.done (i1,(⟨l2,i3,l4⟩:Ab),i5,l6,l7)))
def R3(Γ:Gs)(a0:Ab)(a5:Int)(a9:Aw)(a7:List Jl)(a6:List A7)(r:YK):Exit->St->Prop:=fK Tryz.prog Γ Tryz.f95.results.toList [(Z1 a0.Params a0.Ret a0.Blocks a5 a9 9100005 a6),(Z7 a6.length),(9100005,.obj (.map false .i64 (mapE (λ(v_:Ak)=>((Pb v_):AV)) a7)))] (Z6 r.1) [(Z1 r.2.1.Params r.2.1.Ret r.2.1.Blocks r.2.2.1 r.2.2.2.1 9100005 r.2.2.2.2),(Z7 r.2.2.2.2.length),(9100005,.obj (.map false .i64 (mapE (λ(v_:Ak)=>((Pb v_):AV)) a7)))]
def kE(a7:List Jl):=(mapE (λ(v_:Ak)=>((Pb v_):AV)) a7)
def Gj(a0:Ab)(a5:Int)(a9:Aw)(a7:List Jl)(a6:List A7):Option YK:=
 ((O6 (S:=Mg) (X:=YK) ((E0 a0 a5 a9 a7 a6).bind λx8=>((Aj (C0 a7 x8) ((0:Int),x8.1.Params,x8.1.Ret,x8.1.Blocks,x8.2.1,x8.2.2.1,x8.2.2.2)).bind (λx30=>(match x30 with|(.inl (l16,i17,l18,i19,l20,l21))=>((Aj (C1 a7 l21) ((0:Int),l16,i17,l18,i19,l20,l21)).bind (λx53=>(match x53 with|(.inl (l39,i40,l41,i42,l43,l44))=>((Aj (C2 a7 l44) ((0:Int),l39,i40,l41,i42,l43,l44)).bind (λx76=>(match x76 with|(.inl (l62,i63,l64,i65,l66,l67))=>(some (.done ((0:Int),(⟨l62,i63,l64⟩:Ab),i65,l66,l67)))|(.inr (l68,i69,l70,i71,l72,l73))=>(some (.next ((7:Int),l68,i69,l70,i71,l72,l73))))))|(.inr (l45,i46,l47,i48,l49,l50))=>(some (.next ((6:Int),l45,i46,l47,i48,l49,l50))))))|(.inr (l22,i23,l24,i25,l26,l27))=>(some (.next ((7:Int),l22,i23,l24,i25,l26,l27))))))) J3).bind (λx81=>(some x81)))
theorem Rw(h:Gj v0 v1 v2 v25 v12=some v13):sP 95 [Xt] [(Z1 v0.Params v0.Ret v0.Blocks v1 v2 9100005 v12),(Z7 v12.length),(9100005,.obj (.map false .i64 (mapE (λ(v_:Ak)=>((Pb v_):AV)) v25)))] (Z6 v13.1) [(Z1 v13.2.1.Params v13.2.1.Ret v13.2.1.Blocks v13.2.2.1 v13.2.2.2.1 9100005 v13.2.2.2.2),(Z7 v13.2.2.2.2.length),(9100005,.obj (.map false .i64 (mapE (λ(v_:Ak)=>((Pb v_):AV)) v25)))]:=
 sG Tryz.func95 λΓ q=>Aq q [0] Fg (tB h λx81 y81 h=>gS y81 (λ(s_:Mg)=>match s_ with|(i1,l2,i3,l4,i5,l6,l7)=>0) (λ(s_:Mg)=>match s_ with|(i1,l2,i3,l4,i5,l6,l7)=>(⟨[(4,(Z6 i1))],(kJ l2 i3 l4 i5 l6 9100005 l7 l7.length (kE v25)),[]⟩:St)) (λr_=>aR (R3 Γ v0 v1 v2 v25 v12 r_)) (λy h=>tB h λx8 y8 h=>tT q [0] Fg [(kH x8.1.Params x8.1.Ret x8.1.Blocks x8.2.1 x8.2.2.1 x8.2.2.2 x8.2.2.2.length (kE v25))] (c1 (Oz y8)) (tW q Ve Mi Ve Mi (Aq q Vb Fg (gU 3 (Aq q VQ Fg (WZ true (tU q TK O8 (c1 (show(B9 (0:Int) 3) from(by decide))) (tW q TE O8 Xp O8 (tL q h Xp O8 (λu (i9,l10,i11,l12,i13,l14,l15)=>(Fv u [(32,(Z6 i9))] (JG l10 i11 l12 i13 l14 l15 l15.length))) (λu x_=>match x_ with|(.inl (l16,i17,l18,i19,l20,l21))=>aG Γ (.exit 2) (Xv Vb Fg u [] (JG l16 i17 l18 i19 l20 l21 l21.length))|(.inr (l22,i23,l24,i25,l26,l27))=>aG Γ (.goto 0) (Xv [4] Fg u [] (JG l22 i23 l24 i25 l26 l27 l27.length))) (λ⟨i9,l10,i11,l12,i13,l14,l15⟩ y h=>Aq q dP O8 (gC h (λh=>tV q dR dT h λh=>tB h λx29 y29 h=>tT q dQ O8 [(mA x29.1 x29.2.1.Params x29.2.1.Ret x29.2.1.Blocks x29.2.2.1 x29.2.2.2.1 x29.2.2.2.2 x29.2.2.2.2.length (kE v25))] (c1 (O2 y29)) (gC h (λh=>tS h (gO (Ed (Dw [4] Fg q)))) λh=>Aq q Xp O8 (tN h))) λh=>tS h (gO (Ed (Dw Vb Fg q))))) λx30 h=>(match x30,h with | .inl ⟨l16,i17,l18,i19,l20,l21⟩,h=>gA (tW q Vb Fg VQ Fg (WZ true (tU q TK O8 (c1 (show(B9 (1:Int) 3) from(by decide))) (tW q TE O8 Xp O8 (tL q h Xp O8 (λu (i32,l33,i34,l35,i36,l37,l38)=>(Fv u [(32,(Z6 i32))] (JG l33 i34 l35 i36 l37 l38 l38.length))) (λu x_=>match x_ with|(.inl (l39,i40,l41,i42,l43,l44))=>aG Γ (.exit 2) (Xv Vb Fg u [] (JG l39 i40 l41 i42 l43 l44 l44.length))|(.inr (l45,i46,l47,i48,l49,l50))=>aG Γ (.goto 0) (Xv [4] Fg u [] (JG l45 i46 l47 i48 l49 l50 l50.length))) (λ⟨i32,l33,i34,l35,i36,l37,l38⟩ y h=>Aq q dP O8 (gC h (λh=>tV q dR dT h λh=>tB h λx52 y52 h=>tT q dQ O8 [(mA x52.1 x52.2.1.Params x52.2.1.Ret x52.2.1.Blocks x52.2.2.1 x52.2.2.2.1 x52.2.2.2.2 x52.2.2.2.2.length (kE v25))] (c1 (Ru y52)) (gC h (λh=>tS h (gO (Ed (Dw [4] Fg q)))) λh=>Aq q Xp O8 (tN h))) λh=>tS h (gO (Ed (Dw Vb Fg q))))) λx53 h=>(match x53,h with | .inl ⟨l39,i40,l41,i42,l43,l44⟩,h=>gA (tW q Vb Fg VQ Fg (WZ true (tU q TK O8 (c1 (show(B9 (2:Int) 3) from(by decide))) (tW q TE O8 Xp O8 (tL q h Xp O8 (λu (i55,l56,i57,l58,i59,l60,l61)=>(Fv u [(32,(Z6 i55))] (JG l56 i57 l58 i59 l60 l61 l61.length))) (λu x_=>match x_ with|(.inl (l62,i63,l64,i65,l66,l67))=>aG Γ (.exit 2) (Xv Vb Fg u [] (JG l62 i63 l64 i65 l66 l67 l67.length))|(.inr (l68,i69,l70,i71,l72,l73))=>aG Γ (.goto 0) (Xv [4] Fg u [] (JG l68 i69 l70 i71 l72 l73 l73.length))) (λ⟨i55,l56,i57,l58,i59,l60,l61⟩ y h=>Aq q dP O8 (gC h (λh=>tV q dR dT h λh=>tB h λx75 y75 h=>tT q dQ O8 [(mA x75.1 x75.2.1.Params x75.2.1.Ret x75.2.1.Blocks x75.2.2.1 x75.2.2.2.1 x75.2.2.2.2 x75.2.2.2.2.length (kE v25))] (c1 (O1 y75)) (gC h (λh=>tS h (gO (Ed (Dw [4] Fg q)))) λh=>Aq q Xp O8 (tN h))) λh=>tS h (gO (Ed (Dw Vb Fg q))))) λx76 h=>(match x76,h with | .inl ⟨l62,i63,l64,i65,l66,l67⟩,h=>gA (tW q Vb Fg VQ Fg (WZ false (Aq q [2] Fg (tS h (gz (R0 (K3 Ul (Le.refl _ _)))))))) | .inr ⟨l68,i69,l70,i71,l72,l73⟩,h=>gy (λst' hl78=>tS h (et (Le.trans hl78 Nu))))))))) | .inr ⟨l45,i46,l47,i48,l49,l50⟩,h=>gy (λst' hl79=>tS h (et (Le.trans hl79 Nu))))))))) | .inr ⟨l22,i23,l24,i25,l26,l27⟩,h=>gy (λst' hl80=>tS h (et (Le.trans hl80 Nu))))))))))))) (λ⟨i1,l2,i3,l4,i5,l6,l7⟩ y h=>Aq q [2] Fg (tS h (gz (R0 (K3 Ul (Le.refl _ _)))))) (V1 (λst' hk=>tS h (gK hk))))
def kF:=(λ(v_:Ak)=>((Pb v_):AV))
def ma(x1:YK):List SX:=(Z3 x1.2.1.Params x1.2.1.Ret x1.2.1.Blocks x1.2.2.1 x1.2.2.2.1 x1.2.2.2.2 x1.2.2.2.2.length)
def mb(x2:YK):List SX:=(Z3 x2.2.1.Params x2.2.1.Ret x2.2.1.Blocks x2.2.2.1 x2.2.2.2.1 x2.2.2.2.2 x2.2.2.2.2.length)
def mc(x3:YK):List SX:=(Z3 x3.2.1.Params x3.2.1.Ret x3.2.1.Blocks x3.2.2.1 x3.2.2.2.1 x3.2.2.2.2 x3.2.2.2.2.length)
def F5(a0:Ab)(a5:Int)(a9:Aw)(a6:List A7):Option SZ:=
 ((Gi a0 a5 a9 a6).bind λx1=>(bif (x1.1 !=0) then(some (x1.1,x1.2.1,x1.2.2.1,x1.2.2.2.1,x1.2.2.2.2,([]:List Jl))) else((Fo x1.2.1 x1.2.2.1 x1.2.2.2.1 x1.2.2.2.2).bind λx2=>(bif (x2.1 !=0) then(some (x2.1,x2.2.1,x2.2.2.1,x2.2.2.2.1,x2.2.2.2.2,([]:List Jl))) else((F4 x2.2.1 x2.2.2.1 x2.2.2.2.1 x2.2.2.2.2).bind λx3=>(bif (x3.1 !=0) then(some (x3.1,x3.2.1,x3.2.2.1,x3.2.2.2.1,x3.2.2.2.2,([]:List Jl))) else((E1 x3.2.1 x3.2.2.1 x3.2.2.2.1 x3.2.2.2.2).bind λx4=>(bif (x4.1 !=0) then(some (x4.1,x4.2.1,x4.2.2.1,x4.2.2.2.1,x4.2.2.2.2.1,x4.2.2.2.2.2)) else((Gj x4.2.1 x4.2.2.1 x4.2.2.2.1 x4.2.2.2.2.2 x4.2.2.2.2.1).bind λx5=>(bif (x5.1 !=0) then(some (x5.1,x5.2.1,x5.2.2.1,x5.2.2.2.1,x5.2.2.2.2,x4.2.2.2.2.2)) else(some ((0:Int),x5.2.1,x5.2.2.1,x5.2.2.2.1,x5.2.2.2.2,x4.2.2.2.2.2))))))))))))
theorem Ql(h:F5 v0 v1 v2 v12=some v27):sP 56 [Xt] (Z3 v0.Params v0.Ret v0.Blocks v1 v2 v12 v12.length) (Z6 v27.1) [(Z1 v27.2.1.Params v27.2.1.Ret v27.2.1.Blocks v27.2.2.1 v27.2.2.2.1 9200005 v27.2.2.2.2.1),(Z7 v27.2.2.2.2.1.length),(9200005,.obj (.map false .i64 (mapE (λ(v_:Ak)=>((Pb v_):AV)) v27.2.2.2.2.2)))]:=
 sG Tryz.func56 λΓ q=>tW q [0] Fj [3] PP (Aq q Y5 Fj (gU 5 (Aq q IR Fj (WZ true (tU q PV Fj (c1 (show(B9 (0:Int) 5) from(by decide))) (tB h λx1 y1 h=>tT q PW Fj [(mC x1.1 (ma x1))] (c1 (Rv y1)) (Aq q PU Fj (gC h (λh=>Aq q [2] Fj (Tt (⟨[(2,(Z6 x1.1))],(ma x1),[]⟩:St) (tS h (gK (e:=.ret) (K3 dO (Le.trans (P9 (r:=30000) (j:=5) (nm:=9300005) .i64 rfl rfl (nl rfl) rfl) (Dw (st':=⟨[(2,(Z6 x1.1))],[(Z1 x1.2.1.Params x1.2.1.Ret x1.2.1.Blocks x1.2.2.1 x1.2.2.2.1 9300005 x1.2.2.2.2),(Z7 x1.2.2.2.2.length),(9300005,.obj (.map false .i64 (mapE kF ([]:List Jl))))],[]⟩) [2] dW q))))))) λh=>tW q Y5 Fj IR Fj (WZ true (tU q PV Fj (c1 (show(B9 (1:Int) 5) from(by decide))) (tB h λx2 y2 h=>tT q PW Fj [(mC x2.1 (mb x2))] (c1 (Pg y2)) (Aq q PU Fj (gC h (λh=>Aq q [2] Fj (Tt (⟨[(2,(Z6 x2.1))],(mb x2),[]⟩:St) (tS h (gK (e:=.ret) (K3 dO (Le.trans (P9 (r:=30000) (j:=5) (nm:=9300005) .i64 rfl rfl (nl rfl) rfl) (Dw (st':=⟨[(2,(Z6 x2.1))],[(Z1 x2.2.1.Params x2.2.1.Ret x2.2.1.Blocks x2.2.2.1 x2.2.2.2.1 9300005 x2.2.2.2.2),(Z7 x2.2.2.2.2.length),(9300005,.obj (.map false .i64 (mapE kF ([]:List Jl))))],[]⟩) [2] dW q))))))) λh=>tW q Y5 Fj IR Fj (WZ true (tU q PV Fj (c1 (show(B9 (2:Int) 5) from(by decide))) (tB h λx3 y3 h=>tT q PW Fj [(mC x3.1 (mc x3))] (c1 (Qk y3)) (Aq q PU Fj (gC h (λh=>Aq q [2] Fj (Tt (⟨[(2,(Z6 x3.1))],(mc x3),[]⟩:St) (tS h (gK (e:=.ret) (K3 dO (Le.trans (P9 (r:=30000) (j:=5) (nm:=9300005) .i64 rfl rfl (nl rfl) rfl) (Dw (st':=⟨[(2,(Z6 x3.1))],[(Z1 x3.2.1.Params x3.2.1.Ret x3.2.1.Blocks x3.2.2.1 x3.2.2.2.1 9300005 x3.2.2.2.2),(Z7 x3.2.2.2.2.length),(9300005,.obj (.map false .i64 (mapE kF ([]:List Jl))))],[]⟩) [2] dW q))))))) λh=>tW q Y5 Fj IR Fj (WZ true (tU q PV Fj (c1 (show(B9 (3:Int) 5) from(by decide))) (tB h λx4 y4 h=>tT q PW Rm [⟨AS,[(9200005,13000005)],(Z6 x4.1),[(Z1 x4.2.1.Params x4.2.1.Ret x4.2.1.Blocks x4.2.2.1 x4.2.2.2.1 9200005 x4.2.2.2.2.1),(Z7 x4.2.2.2.2.1.length),(9200005,.obj (.map false .i64 (mapE kF x4.2.2.2.2.2)))],[],[]⟩] (c1 (O0 y4)) (Aq q PU Rm (gC h (λh=>Aq q [2] Rm (tS h (C3 dN))) λh=>tW q Y5 Rm IR Rm (WZ true (tU q PV Rm (c1 (show(B9 (4:Int) 5) from(by decide))) (tB h λx5 y5 h=>tT q PW Rm [⟨[(30000,30000),(37006,37006),(13000005,9100005)],[],(Z6 x5.1),[(Z1 x5.2.1.Params x5.2.1.Ret x5.2.1.Blocks x5.2.2.1 x5.2.2.2.1 9100005 x5.2.2.2.2),(Z7 x5.2.2.2.2.length),(9100005,.obj (.map false .i64 (mapE kF x4.2.2.2.2.2)))],[],[]⟩] (c1 (Rw y5)) (Aq q PU Rm (gC h (λh=>Aq q [2] Rm (tS h (C3 dN))) λh=>tW q Y5 Rm IR Rm (WZ false (Aq q [2] Rm (tS h (C3 dN))))))))))))))))))))))))))))))))
end
end Go.Proofs.YtiendmljhgbjoaaGreat
