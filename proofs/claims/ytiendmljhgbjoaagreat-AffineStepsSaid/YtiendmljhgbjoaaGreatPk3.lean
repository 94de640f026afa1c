/-
  The machine, the program's functions and the laws' arithmetic: part 3 of 5.
-/
import Derived.Test.YtiendmljhgbjoaaGreatPk2
import Derived.BigCall
import Derived.Lib.RowBridge
import Derived.Shelf.Slices.Clone
import Derived.Shelf.Slices.CompactI
import Derived.Shelf.Slices.In.SortNone
import Derived.Shelf.Sort.Plain
import Derived.Sort.OwnSortedInts
import Derived.Test.YtiendmljhgbjoaaGreatProg
set_option linter.unusedSectionVars false
set_option linter.unusedVariables false
set_option linter.unusedSimpArgs false
namespace Go.Proofs.YtiendmljhgbjoaaGreat
noncomputable section
open Go Go.RowKit
section
variable {P:Program} {Γ:Gw} {σ:Sto} {I:Nat->Nat->Prop} {θ:Nat->Option (Nat×Nat)} {a:Act} {w:World} {o:Oper}
theorem OM{g bm since:Nat}{seen:Array Nat}{es:Array MapEntry}(hg:w.heap[g]?=some (.mapIter (some bm) since seen since))(hb:w.heap[bm]?=some (.map es since))(hold:∀ x∈es.toList,x.born<since)(ty:TypeId) :
  ((∀ e∈es.toList,e.born∈seen.toList)/\(Instr.next (.pointer (some ⟨g,0,none⟩)) false ty).run P w = .ok (.tuple #[.bool false]) w) \/
  ∃ e∈es.toList,e.born∉seen.toList/\((Instr.next (.pointer (some ⟨g,0,none⟩)) false ty).run P w = .ok (.tuple #[.bool true,e.key,e.val]) (Ns w g (.mapIter (some bm) since (seen.push e.born) since)) \/
   (Instr.next (.pointer (some ⟨g,0,none⟩)) false ty).run P w = .ok (.tuple #[.bool true,e.key,e.val]) (Ns w.drew g (.mapIter (some bm) since (seen.push e.born) since))):=by
 simp only[Instr.next,getObj,Cu,Sem.run,hg,hb,Result.andThen,next_test_false seen es since since hold (zzL8 _),Xf,En]
 have hmem:∀ x∈(Array.filter (λe=>!seen.contains e.born) es).toList,x∈es.toList/\x.born∉seen.toList:=λx hx=>by
  simp only[Array.toList_filter,zzL63,Oi,Array.contains_eq_mem,IC]at hx;exact⟨hx.1,by simpa using hx.2⟩
 have hall:(Array.filter (λe=>!seen.contains e.born) es).size=0->∀ e∈es.toList,e.born∈seen.toList:=λh0 e he=>by
  by_cases hc:e.born∈seen.toList
  ·exact hc
  ·have:e∈(Array.filter (λe=>!seen.contains e.born) es).toList:=by
    simp only[Array.toList_filter,zzL63,Oi,Array.contains_eq_mem,IC];exact⟨he,by simpa using hc⟩
   have h1:0<(Array.filter (λe=>!seen.contains e.born) es).toList.length:=List.length_pos_of_mem this;rw[Yu]at h1;omega
 generalize Array.filter (λe=>!seen.contains e.born) es=L at hmem hall ⊢
 have e1:L.filter (λx=>decide (x.born<since))=L:=Array.filter_eq_self.2 (λx hx=>by simpa using hold x (hmem x (by simpa using hx)).1)
 have e2:L.filter (λx=>decide (x.born>=since)) = #[]:=by
  rw[Array.filter_eq_empty_iff];intro x hx;have:=hold x (hmem x (by simpa using hx)).1
  simp
  omega
 simp only[e1,e2,Array.append_empty]
 by_cases h0:L.size=0
 ·left
  have:L = #[]:=Array.eq_empty_of_size_eq_zero h0;subst this;refine⟨hall rfl,?_⟩;simp[choose,Sem.run,Question.forced]
 ·right
  have hne:L.isEmpty=false:=by simp[Array.isEmpty,h0]
  simp only[hne,Xf,En,Array.empty_append,Array.size_map];have hgl:g<w.heap.size:=(Array.getElem?_eq_some_iff.1 hg).1
  have hch:∃(j:Nat) (w1:World),j<L.size/\(w1=w\/w1=w.drew)/\(choose (Question.mapNext L.size)).run P w = .ok j w1:=by
   by_cases hf:L.size<=1
   ·exact⟨0,w,by omega,.inl rfl,by simp[choose,Sem.run,Question.forced,hf]⟩
   ·exact⟨_,w.drew,Nat.mod_lt _ (by omega),.inr rfl,by
     simp only[choose,Sem.run,Question.forced,D0,hf,En,Question.cut]
     rfl⟩
  obtain⟨j,w1,hj,hw,hrun⟩:=hch
  have hLj:L[j]∈L.toList:=by simp
  refine⟨L[j],(hmem _ hLj).1,(hmem _ hLj).2,?_⟩
  have hset:∀ o',(setObj g o').run P w1 = .ok () (Ns w1 g o'):=λo'=>by
   have hh:w1.heap[g]?=some (.mapIter (some bm) since seen since):=by rcases hw with rfl|rfl<;>exact hg
   simp[setObj,Sem.run,hh,Ns]
  simp only[hrun,Array.getElem?_map,Array.getElem?_eq_getElem hj,Vv,Cu,hset,Result.andThen];rcases hw with rfl|rfl
  ·exact .inl rfl
  ·exact .inr rfl
theorem cC(h:Rel Γ σ I θ a w)(hd:∀ d,o.dst=some d->d<Γ.n){x:Operand}(ho:o.op = .next x false){nm mm n:Nat}{s:List Nat}{nn:Bool}{k:IntKind}{l:List (Int×AV)}(hx:Rep I σ.own θ w (a.eval x) (.optr nm mm))
  (hit:σ.own nm=some (.obj (.miter (.omap mm) n s))) (hown:σ.own mm=some (.obj (.map nn k l))) (hn:n=l.length) (K:Act->World->Prop) (Q:Exit->Act->World->Prop)
  (hdone:(∀ i,i<n->i∈s)->∀ I' θ' a' w',Rel Γ (σ.upd o.dst (.tuple [.bool false]) []) I' θ' a' w'->K a' w')
  (hmore:∀ i,i<n->i∉s->∀ I' θ' a' w',Rel Γ (σ.upd o.dst (.tuple [.bool true,.int k (l.getD i (0,.any)).1,(l.getD i (0,.any)).2]) [(nm,.obj (.miter (.omap mm) n (i::s)))]) I' θ' a' w'->K a' w'):o.wp P a w K Q:=by
 obtain⟨_,g,c,ho',hg,hv⟩:=hx.optr_inv
 obtain⟨ob,h2,h3⟩:∃ ob,w.heap[g]?=some ob/\ObjR I σ.own θ w ob (.miter (.omap mm) n s):=by
  rcases h.chg.rel.obj nm _ hit with⟨g',c',ob,h1,h2,h3,h4⟩|⟨h1,_⟩
  ·rw[hg]at h1;simp only[Af,H1]at h1;obtain⟨rfl,rfl⟩:=h1;exact⟨ob,h2,h3⟩
  ·rw[hg]at h1;cases h1
 obtain⟨r,cc,seen,rfl,hseen,rfl,hr⟩:=HE h3;obtain⟨_,_,hxm⟩:=hr.omap_inv;simp only[Value.map.injEq]at hxm
 have hfalse:∀(hrun:(execOp a.eval o).run P w = .ok (.value (.tuple #[.bool false])) w),(∀ i,i<cc->i∈s)->o.wp P a w K Q:=λhrun hall=>
  Am (x:=.tuple [.bool false]) h hd hrun (.tuple _ _ rfl (λj hj=>by
   obtain rfl:j=0:=by simp at hj;omega
   exact .val _ _ (.bool _))) K Q (hdone hall)
 rcases map_at h hown with⟨gm,c',es',h4,h5,h6⟩|⟨h4,_,h7⟩
 ·rw[h4]at hxm;obtain rfl:r=some gm:=hxm;obtain⟨hlen,hent⟩:=Tx l es'.toList 0 h6
  have hmem:∀ e∈es'.toList,∃ i,i<l.length/\es'.toList[i]?=some e/\e.born=i/\e.key = .int k (l.getD i (0,.any)).1/\JB I w e.val (l.getD i (0,.any)).2:=λe he=>by
   obtain⟨i,hi,rfl⟩:=List.mem_iff_getElem.1 he;obtain⟨v,e1,e2⟩:=hent i (by omega);rw[Rj hi]at e1;have e3:=OI e1;exact⟨i,by omega,Rj hi,by rw[e3];simp,by rw[e3],by rw[e3];exact e2⟩
  rw[<- hn]at h5;have hnx:=OM (P:=P) h2 h5 (λe he=>by obtain⟨i,hi,_,hb,_⟩:=hmem e he;omega) (ty:=0);have hty:∀ ty,Instr.next (.pointer (some ⟨g,0,none⟩)) false ty=Instr.next (.pointer (some ⟨g,0,none⟩)) false 0:=λ_=>rfl;rcases hnx with⟨hall,hrun⟩|⟨e,he,hns,hrun⟩
  ·refine hfalse ?_ (λi hi=>?_)
   ·simp only[execOp,ho,hv,hty];simp[hrun]
   ·obtain⟨v,e1,e2⟩:=hent i (by omega);have:=hall _ (List.mem_of_getElem? e1);rw[<- hseen,zzL94]
    simpa using this
  ·obtain⟨i,hi,_,hb,hkey,hval⟩:=hmem e he
   have his:i∉s:=by rw[<- hseen,zzL94,<- hb];exact hns
   have hrev:(seen.push e.born).toList.reverse=i::s:=by rw[Array.toList_push,List.reverse_append,hseen,hb];rfl
   have step:∀ w1:World,Rel Γ σ I θ a w1->w1.heap=w.heap->(execOp a.eval o).run P w = .ok (.value (.tuple #[.bool true,e.key,e.val])) (Ns w1 g (.mapIter (some gm) cc (seen.push e.born) cc))->o.wp P a w K Q:=λw1 hr1 hh hrun=>by
    have hcell:∀ b j,I b j->w1.cell? ⟨b,j,none⟩=w.cell? ⟨b,j,none⟩:=λb j _=>by simp only[World.cell?,hh]
    have hr':Rep I σ.own θ w1 (.map (some gm)) (.omap mm):=hr.mono (λ_ _ h=>h) hcell (λ_ o ho=>⟨o,ho,.refl _ _⟩)
    have hc:ObjR I σ.own θ w1 (.mapIter (some gm) cc (seen.push e.born) cc) (.miter (.omap mm) cc (i::s)):=by
     have:=ObjR.miter (I:=I) (own:=σ.own) (θ:=θ) (w:=w1) (some gm) (.omap mm) cc cc (seen.push e.born) rfl hr';rwa[hrev]at this
    have kc:=M1 hr1.chg.rel hr1.chg.valid hit hg hc;have hval':RepV I (Ns w1 g (.mapIter (some gm) cc (seen.push e.born) cc)) e.val (l.getD i (0,.any)).2:=hval.1.mono (λ_ _ h=>h) (λb j hj=>by rw[kc.cell b j hj,hcell b j hj])
    have k2:Chg σ.own θ I w1 (σ.upd o.dst (.tuple [.bool true,.int k (l.getD i (0,.any)).1,(l.getD i (0,.any)).2]) [(nm,.obj (.miter (.omap mm) cc (i::s)))]).own θ I (Ns w1 g (.mapIter (some gm) cc (seen.push e.born) cc)):=by rw[Bj];exact kc
    have hput:=T3 (v:=.tuple #[.bool true,e.key,e.val]) (x:=.tuple [.bool true,.int k (l.getD i (0,.any)).1,(l.getD i (0,.any)).2]) hr1 k2 (.tuple _ _ rfl (λj hj=>by
     have hj:j=0\/j=1\/j=2:=by simp at hj;omega
     rcases hj with rfl|rfl|rfl
     ·exact .val _ _ (.bool _)
     ·rw[show(#[Value.bool true,e.key,e.val].getD 1 Go.undef)=e.key from rfl,hkey];exact .val _ _ (.int _ _)
     ·exact .val _ _ hval')) hd
    unfold Oper.wp;rw[hrun];exact hmore i (by omega) his _ _ _ _ hput
   rcases hrun with hrun|hrun
   ·refine step w h rfl ?_;simp only[execOp,ho,hv,hty];simp[hrun]
   ·refine step w.drew (OD h) rfl ?_;simp only[execOp,ho,hv,hty];simp[hrun]
 ·rw[h4]at hxm;obtain rfl:r=none:=hxm;subst h7;refine hfalse ?_ (λi hi=>by simp at hn;omega);simp only[execOp,ho,hv];simp[Instr.next,getObj,Sem.run,h2]
theorem WB{id:Nat}{o1 o2:Oper}{K:Exit->St->Prop}{st:St}{n:Nat}{H:List (Nat×Own)}{x t b nm mm len:Nat}{s:List Nat}{nn:Bool}{k:IntKind}{l:List (Int×AV)}(q:RgQ P Γ n H)(live names:List Nat)
  (h1:o1.op = .next (.tmp x) false) (d1:o1.dst=some t) (g1:o1.guard=none) (h2:o2.op = .extract (.tmp t) 0) (d2:o2.dst=some b) (g2:o2.guard=none) (hb:(Nat.blt t n&&(Nat.blt b n&&(Nat.blt nm A8&&Nat.blt mm A8)))=true)
  (hx:st.get x = .optr nm mm) (hit:Ac st.own nm=some (.obj (.miter (.omap mm) len s))) (hm:Ac st.own mm=some (.obj (.map nn k l))) (hlen:len=l.length) (hh:(H.all λx=>Cb x.1 names)=true)
  (hdone:(∀ i,i<len->i∈s)->K .normal (A0 live names ((st.upd (some t) (.tuple [.bool false]) []).upd (some b) (.bool false) [])))
  (hmore:∀ i,i<len->i∉s->K .normal (A0 live names ((st.upd (some t) (.tuple [.bool true,.int k (l.getD i (0,.any)).1,(l.getD i (0,.any)).2]) [(nm,.obj (.miter (.omap mm) len (i::s)))]).upd (some b) (.bool true) []))):Rp P Γ (.region id #[o1,o2] false) K st:=by
 simp only[A4,Gn]at hb;obtain⟨b1,b2,b3,b4⟩:=hb;intro I θ a w hrel;refine wp_region ?_;have hget:∀ t,Rep I st.sto.own θ w (a.tmps.getD t undef) (st.get t):=hrel.slots
 have w1:∀ tm,Region.wanted o1 tm=true:=λtm=>by simp[Region.wanted,g1]
 have w2:∀ tm,Region.wanted o2 tm=true:=λtm=>by simp[Region.wanted,g2]
 have hl:(List.range (#[o1,o2]:Array Oper).size)=[0,1]:=rfl;have hsec:∀(st2:St) (vb:Bool) (r:List AV) (I':Nat->Nat->Prop) (θ':Nat->Option (Nat×Nat)) (a':Act) (w':World),st2.get t = .tuple (.bool vb::r)->Rel Γ st2.sto I' θ' a' w'->K .normal (A0 live names (st2.upd (some b) (.bool vb) []))->
   wpOps P #[o1,o2] (λe a' w'=>∃ st' I' θ',K e st'/\Rel Γ st'.sto I' θ' a' w') [1] a' w':=λst2 vb r I' θ' a' w' hgt hr hK=>by
  rw[wpOps_cons]
  show wpOp P #[o1,o2] _ 1 _ a' w'
  unfold wpOp;simp only[show(#[o1,o2]:Array Oper)[1]?=some o2 from rfl,w2,G9];refine .inl ?_;have ht:=hr.slots t;rw[show st2.sto.tmp t=st2.get t from rfl,hgt]at ht;obtain⟨vs,hv,hsz,hvr⟩:=ht.tuple_inv;have h0:=hvr 0 (by simp);have h0':vs.getD 0 Go.undef = .bool vb:=Rep.bool_inv h0
  have hpos:0<vs.size:=by rw[hsz];simp
  refine Am hr (λd hd=>?_) (v:=.bool vb) (x:=.bool vb) ?_ (.val _ _ (.bool _)) _ _ (λI2 θ2 a2 w2 h2=>?_)
  ·rw[d2]at hd;obtain rfl:=OI hd;rw[q.hn];exact b2
  ·simp only[execOp,h2,Act.eval];rw[hv]
   have:vs[0]?=some (.bool vb):=by
    rw[Mf,Array.getElem?_eq_getElem hpos,Yw]at h0';rw[Array.getElem?_eq_getElem hpos,h0']
   simp[Instr.extract,this]
  ·refine⟨_,I2,θ2,hK,Qq ?_ (q.hand hh)⟩;rw[BL (ns:=[]) st2 (some b) (.bool vb) [] rfl];rw[d2]at h2;exact h2
 rw[hl,wpOps_cons];unfold wpOp;simp only[show(#[o1,o2]:Array Oper)[0]?=some o1 from rfl,w1,G9];refine .inl ?_;have hxr:=hget x;rw[hx]at hxr;refine cC hrel (λd hd=>?_) h1 (nm:=nm) (mm:=mm) (n:=len) (s:=s) (nn:=nn) (k:=k) (l:=l) hxr ((Az b3).trans hit) ((Az b4).trans hm) hlen _ _ (λhall I' θ' a' w' hr=>?_) (λi hi hni I' θ' a' w' hr=>?_)
 ·rw[d1]at hd;obtain rfl:=OI hd;rw[q.hn];exact b1
 ·rw[d1,<- BL (ns:=[]) st (some t) (.tuple [.bool false]) [] rfl]at hr;refine hsec _ false [] I' θ' a' w' ?_ hr (hdone hall);simp[St.get,St.upd,Ea]
 ·rw[d1,<- BL (ns:=[nm]) st (some t) _ [(nm,.obj (.miter (.omap mm) len (i::s)))] (by simp[Qf,b3])]at hr;refine hsec _ true [.int k (l.getD i (0,.any)).1,(l.getD i (0,.any)).2] I' θ' a' w' ?_ hr (hmore i hi hni);simp[St.get,St.upd,Ea]
end
def Sv{S X:Type}(f:Nat->S->Option (LR S X))(g:S->Option (LR S X)):List Nat->S->Option X
 | [],s=>match g s with|some (.done x)=>some x|_=>none
 | i::l,s=>match f i s with|some (.next s')=>Sv f g l s'|some (.done x)=>some x|none=>none
open Classical in
open Classical in
def Vk{S X:Type}(eqv:X->X->Prop)(n:Nat)(f:Nat->S->Option (LR S X))(g:S->Option (LR S X))(s:S):Option X:=
 if h:∃ x,∀ τ:List Nat,τ.Perm (List.range n)->∃ x',Sv f g τ s=some x'/\eqv x' x then some (Classical.choose h) else none
theorem Zl{S X:Type}{eqv:X->X->Prop}{n:Nat}{f:Nat->S->Option (LR S X)}{g:S->Option (LR S X)}{s:S}{x:X}(h:Vk eqv n f g s=some x):∀ τ:List Nat,τ.Perm (List.range n)->∃ x',Sv f g τ s=some x'/\eqv x' x:=by
 unfold Vk at h
 split at h
 ·rename_i h0
  obtain rfl:=OI h;exact Classical.choose_spec h0
 ·cases h
theorem XM{S X:Type}{eqv:X->X->Prop}{n:Nat}{f:Nat->S->Option (LR S X)}{g:S->Option (LR S X)}{s:S}(h:∃ x,∀ τ:List Nat,τ.Perm (List.range n)->∃ x',Sv f g τ s=some x'/\eqv x' x):∃ x,Vk eqv n f g s=some x:=by
 unfold Vk;rw[dif_pos h];exact⟨_,rfl⟩
theorem DP{α:Type}[DecidableEq α]{a b:List α}(ha:a.Nodup)(hb:b.Nodup)(h:∀ x,x∈a↔x∈b):a.Perm b:=by
 refine List.perm_iff_count.2 λx=>?_;rw[ha.count,hb.count];simp only[h x]
section
variable {P:Program} {Γ:Gw}
theorem LX{S X:Type}{body:Code}(Q:X->Prop)(n:Nat)(H:List Nat->S->St)(f:Nat->S->Option (LR S X))(g:S->Option (LR S X))(KX:X->Exit->St->Prop){K:Exit->St->Prop}
  (hb:∀(z:List Nat) (s:S),((∀ i,i<n->i∈z)->∃ y,g s=some y)->(∀ i,i<n->i∉z->∃ y,f i s=some y)->
   Rp P Γ body (λe st=>(∃ y,g s=some y/\L8 Γ (H z) KX y e st/\∀ i,i<n->i∈z)\/∃ i y,f i s=some y/\L8 Γ (H (i::z)) KX y e st/\i<n/\i∉z) (H z s))
  {s:S} (hr:∀ τ:List Nat,τ.Perm (List.range n)->∃ x,Sv f g τ s=some x/\Q x) (hK:∀ x,Q x->∀ e st',KX x e st'->K e st'):Rp P Γ (.loop body) K (H [] s):=by
 intro I θ a w hrel;refine Yq (λm a w=>∃ z s I θ,m=n-z.length/\z.Nodup/\(∀ i∈z,i<n)/\(∀ τ:List Nat,(z++τ).Perm (List.range n)->∃ x,Sv f g τ s=some x/\Q x)/\Rel Γ (H z s).sto I θ a w) (λm a w ⟨z,s,I,θ,hm,hz,hzn,hruns,hrel⟩=>?_) (n:=n-0) ⟨[],s,I,θ,rfl,List.nodup_nil,(λi hi=>by cases hi),(λτ hτ=>hr τ hτ),hrel⟩
 have hall:(∀ i,i<n->i∈z)->(z++[]).Perm (List.range n):=λh=>by
  rw[List.append_nil]
  exact DP hz List.nodup_range λi=>by rw[zzL34];exact⟨hzn i,h i⟩
 have hone:∀ i,i<n->i∉z->∃ τ,(z++i::τ).Perm (List.range n):=λi hi hni=>by
  refine⟨(List.range n).filter λj=>decide (j∉i::z),DP ?_ List.nodup_range λj=>?_⟩
  ·refine List.nodup_append.2 ⟨hz,zzL74.2 ⟨by simp,List.nodup_range.filter _⟩,λp hp q hq hpq=>?_⟩;subst hpq;rcases zzL23.1 hq with rfl|hq
   ·exact hni hp
   ·have:=(zzL63.1 hq).2;simp at this;exact this.2 hp
  ·rw[zzL11,zzL23,zzL63,zzL34]
   constructor
   ·rintro(h|rfl|h)
    ·exact hzn j h
    ·exact hi
    ·exact h.1
   ·intro h
    by_cases h1:j∈z
    ·exact .inl h1
    ·by_cases h2:j=i
     ·exact .inr (.inl h2)
     ·exact .inr (.inr ⟨h,by simp[h1,h2]⟩)
 have hg:(∀ i,i<n->i∈z)->∃ y,g s=some y:=λh=>by
  obtain⟨x,this,_⟩:=hruns [] (hall h);unfold Sv at this
  cases hgs:g s with
  | none=>rw[hgs]at this;cases this
  | some y=>exact⟨y,rfl⟩
 have hf:∀ i,i<n->i∉z->∃ y,f i s=some y:=λi hi hni=>by
  obtain⟨τ,hτ⟩:=hone i hi hni;obtain⟨x,this,_⟩:=hruns _ hτ;unfold Sv at this
  cases hfs:f i s with
  | none=>rw[hfs]at this;cases this
  | some y=>exact⟨y,rfl⟩
 refine Mc (hb z s hg hf I θ a w hrel) λe a' w' ⟨st',I',θ',h1,h2⟩=>?_;rcases h1 with⟨y,hgs,hk,hal⟩|⟨i,y,hfs,hk,hi,hni⟩
 ·obtain⟨x,hx,hQ⟩:=hruns [] (hall hal);unfold Sv at hx;rw[hgs]at hx
  cases y with
  | next s'=>cases hx
  | done x'=>
   obtain rfl:=OI hx;obtain⟨hne,hkx⟩:=hk
   cases e with
   | normal=>exact(hne rfl).elim
   | _=>exact⟨st',I',θ',hK _ hQ _ _ hkx,h2⟩
 ·obtain⟨τ,hτ⟩:=hone i hi hni
  have hlen:z.length<n:=by
   have:=hτ.length_eq;rw[E6,Oj,Zx]at this;omega
  cases y with
  | next s'=>
   obtain⟨rfl,hle⟩:=hk;obtain⟨I'',θ'',h3⟩:=hle I' θ' a' w' h2;refine⟨n-(i::z).length,by simp only[Oj];omega,i::z,s',I'',θ'',rfl,zzL74.2 ⟨hni,hz⟩,?_,λρ hρ=>?_,h3⟩
   ·intro j hj;rcases zzL23.1 hj with rfl|hj
    ·exact hi
    ·exact hzn j hj
   ·obtain⟨x,this,hQ⟩:=hruns (i::ρ) (List.Perm.trans List.perm_middle hρ);unfold Sv at this;rw[hfs]at this;exact⟨x,this,hQ⟩
  | done x'=>
   obtain⟨x,hx,hQ⟩:=hruns _ hτ;unfold Sv at hx;rw[hfs]at hx;obtain rfl:=OI hx;obtain⟨hne,hkx⟩:=hk
   cases e with
   | normal=>exact(hne rfl).elim
   | _=>exact⟨st',I',θ',hK _ hQ _ _ hkx,h2⟩
end
theorem fF{V:Type}{f:V->AV}{l:List (Int×V)}{d:Int×V}{i:Nat}{k:IntKind}(h:i<(mapE f l).length):AVle (.tuple [.int k ((mapE f l).getD i (0,.any)).1,((mapE f l).getD i (0,.any)).2]) (.tuple [.int k (l.getD i d).1,f (l.getD i d).2]):=by
 have hl:i<l.length:=by simpa [mapE] using h
 have e:(mapE f l).getD i (0,.any)=((l.getD i d).1,f (l.getD i d).2):=by simp[mapE,List.getD,hl]
 rw[e];exact AVle.refl _
section
variable {P:Program} {Γ:Gw}
def AP(P:Program)(Γ:Gw)(body:Code)(K:Exit->St->Prop):Nat->St->Prop
 | 0,_=>False
 | n+1,st=>Rp P Γ body (λe st'=>(e = .normal/\AP P Γ body K n st')\/(e≠.normal/\K e st')) st
theorem QS{body:Code}{K:Exit->St->Prop}{st:St}(n:Nat)(h:AP P Γ body K n st):Rp P Γ (.loop body) K st:=by
 intro I θ a w hrel;refine Yq (λm a w=>∃ st I θ,AP P Γ body K m st/\Rel Γ st.sto I θ a w) (λm a w ⟨st,I,θ,hu,hrel⟩=>?_) (n:=n) ⟨st,I,θ,h,hrel⟩
 cases m with
 | zero=>exact hu.elim
 | succ m=>
  refine Mc (hu I θ a w hrel) λe a' w' ⟨st',I',θ',h1,h2⟩=>?_;rcases h1 with⟨rfl,h1⟩|⟨hne,h1⟩
  ·exact⟨m,Nat.lt_succ_self m,st',I',θ',h1,h2⟩
  ·cases e with
   | normal=>exact(hne rfl).elim
   | _=>exact⟨st',I',θ',h1,h2⟩
end
inductive dl where
 | nx (y:Code)
 | bl (id:Nat)
 | ag (c:Code) (n:Nat)
inductive Jv where
 | run (c:Code) (fs:List dl)
 | out (e:Exit) (fs:List dl)
def dh(P:Program)(Γ:Gw)(K:Exit->St->Prop):List dl->Exit->St->Prop
 | []=>K
 | .nx y::fs=>g5 P Γ y (dh P Γ K fs)
 | .bl id::fs=>Xu id (dh P Γ K fs)
 | .ag c n::fs=>λe st=>(e = .normal/\AP P Γ c (dh P Γ K fs) n st)\/(e≠.normal/\dh P Γ K fs e st)
def GG(P:Program)(Γ:Gw)(K:Exit->St->Prop):Jv->St->Prop
 | .run c fs,st=>Rp P Γ c (dh P Γ K fs) st
 | .out e fs,st=>dh P Γ K fs e st
def R7:Code->Nat->Nat
 | .exit i,k=>bif Nat.beq i k then 1 else 0
 | .seq a b,k=>Nat.min 2 (R7 a k+R7 b k)
 | .cond _ a b,k=>Nat.min 2 (R7 a k+R7 b k)
 | .loop c,k=>Nat.min 1 (R7 c k)
 | .scope c,k=>Nat.min 1 (R7 c k)
 | .block _ c,k=>R7 c k
 | _,_=>0
def Na:Code->Nat
 | .region _ _ _=>1
 | .skip=>1
 | .label _=>1
 | .seq a b=>bif Nat.beq (Na a) 0 then 0 else Na b
 | .cond _ a b=>Nat.min 2 (Na a+Na b)
 | .block i c=>Nat.min 2 (Na c+R7 c i)
 | .scope c=>Nat.min 2 (Na c)
 | _=>0
def bb(a:Code):Bool:=match a with | .region _ _ _=>false|a=>Nat.ble 2 (Na a)
def CY:Nat->Code ⊕ Exit->List dl->Jv
 | 0,.inl c,fs=>.run c fs
 | 0,.inr e,fs=>.out e fs
 | n+1,.inl c,fs=>
  match c with
  | .skip=>CY n (.inr .normal) fs
  | .label _=>CY n (.inr .normal) fs
  | .seq a b=>bif bb a then .run (.seq a b) fs else CY n (.inl a) (.nx b::fs)
  | .block id a=>CY n (.inl a) (.bl id::fs)
  | .exit id=>CY n (.inr (.exit id)) fs
  | .goto l=>CY n (.inr (.goto l)) fs
  | .ret=>CY n (.inr .ret) fs
  | c=>.run c fs
 | n+1,.inr e,fs=>
  match fs with
  | []=>.out e []
  | .nx y::fs=>(match e with | .normal=>CY n (.inl y) fs|e=>CY n (.inr e) fs)
  | .bl id::fs=>(match e with | .exit i=>bif Nat.beq i id then CY n (.inr .normal) fs else CY n (.inr (.exit i)) fs|e=>CY n (.inr e) fs)
  | .ag c m::fs=>(match e with | .normal=>(match m with|0=>.out .normal (.ag c 0::fs)|m+1=>CY n (.inl c) (.ag c m::fs))|e=>CY n (.inr e) fs)
section
variable {P:Program} {Γ:Gw} {K:Exit->St->Prop}
theorem Bl:∀(n:Nat) (x:Code ⊕ Exit) (fs:List dl) (st:St),GG P Γ K (CY n x fs) st->(match x with | .inl c=>Rp P Γ c (dh P Γ K fs) st | .inr e=>dh P Γ K fs e st)
 | 0,.inl c,fs,st,h=>h
 | 0,.inr e,fs,st,h=>h
 | n+1,.inl c,fs,st,h=>by
  cases c with
  | skip=>exact ah (Bl n _ fs st h)
  | label l=>exact WA (Bl n _ fs st h)
  | seq a b=>
   cases hj:bb a with
   | true=>simp only[CY,hj]at h;exact h
   | false=>simp only[CY,hj]at h;exact JI (Bl n (.inl a) _ st h)
  | block id a=>exact VZ (Bl n (.inl a) _ st h)
  | exit id=>exact aa (Bl n _ fs st h)
  | goto l=>exact ab (Bl n _ fs st h)
  | ret=>exact eG (Bl n (.inr .ret) fs st h)
  | _=>exact h
 | n+1,.inr e,[],st,h=>h
 | n+1,.inr e,.nx y::fs,st,h=>by
  cases e with
  | normal=>exact Bl n (.inl y) fs st h
  | exit i=>exact Bl n _ fs st h
  | goto l=>exact Bl n _ fs st h
  | ret=>exact Bl n (.inr .ret) fs st h
  | panic c=>exact Bl n _ fs st h
  | outgrown=>exact Bl n _ fs st h
 | n+1,.inr e,.bl id::fs,st,h=>by
  cases e with
  | normal=>exact Bl n _ fs st h
  | exit i=>
   cases hb:Nat.beq i id with
   | true=>
    obtain rfl:=Bt hb;simp only[CY,hb]at h;exact QU (Bl n _ fs st h)
   | false=>
    simp only[CY,hb]at h;exact QT hb (Bl n _ fs st h)
  | goto l=>exact Bl n _ fs st h
  | ret=>exact Bl n (.inr .ret) fs st h
  | panic c=>exact Bl n _ fs st h
  | outgrown=>exact Bl n _ fs st h
 | n+1,.inr e,.ag c m::fs,st,h=>by
  cases e with
  | normal=>
   cases m with
   | zero=>exact h
   | succ m=>exact .inl ⟨rfl,Bl n (.inl c) _ st h⟩
  | exit i=>exact .inr ⟨(by intro hh;cases hh),Bl n _ fs st h⟩
  | goto l=>exact .inr ⟨(by intro hh;cases hh),Bl n _ fs st h⟩
  | ret=>exact .inr ⟨(by intro hh;cases hh),Bl n (.inr .ret) fs st h⟩
  | panic ch=>exact .inr ⟨(by intro hh;cases hh),Bl n _ fs st h⟩
  | outgrown=>exact .inr ⟨(by intro hh;cases hh),Bl n _ fs st h⟩
theorem Hq{n:Nat}{c:Code}{fs:List dl}{st:St}(h:GG P Γ K (CY n (.inl c) fs) st):Rp P Γ c (dh P Γ K fs) st:=Bl n _ fs st h
theorem Sh{n:Nat}{e:Exit}{fs:List dl}{st:St}(h:GG P Γ K (CY n (.inr e) fs) st):dh P Γ K fs e st:=Bl n _ fs st h
def ei(c:Code)(fs:List dl):Jv:=CY 400 (.inl c) fs
def lq(e:Exit)(fs:List dl):Jv:=CY 400 (.inr e) fs
def fJ:Jv->Jv
 | .run _ fs=>lq .normal fs
 | x=>x
def fQ:Jv->Option (List Oper×Bool)
 | .run (.region _ ops draw) _=>some (ops.toList,draw)
 | _=>none
def dg(P:Program)(S:V3)(n:Nat)(cs:List (Nat×AV))(live names:List Nat)(x:Jv)(st:St)(rs:List Ry):Option (St×List Prop×Bool):=
 match fQ x with
 | some (ops,draw)=>AS P S n cs live names ops draw st rs
 | none=>none
def fL(P:Program)(S:V3)(n:Nat)(cs:List (Nat×AV))(live names:List Nat)(x:Jv)(st:St)(rs:List Ry):St:=
 match dg P S n cs live names x st rs with
 | some r=>r.1
 | none=>st
def di(r:Option (St×List Prop×Bool)):Option (Prop×Bool):=
 match r with
 | some r=>some (MG r.2.1,r.2.2)
 | none=>none
theorem gR{x:Jv}{st:St}{n:Nat}{H:List (Nat×Own)}(q:RgQ P Γ n H)(live names:List Nat)(cs:List (Nat×AV))(rs:List Ry){O:Prop}(hO:O)
  (k:GG P Γ K (fJ x) (fL P (Spec P) n cs live names x st rs))
  (h:di (dg P (Spec P) n cs live names x st rs)=some (O,true):=by kernel_rfl) (hh:(H.all λx=>Cb x.1 names)=true:=by kernel_rfl):GG P Γ K x st:=by
 unfold dg at h;unfold fL dg at k
 cases x with
 | out e fs=>simp[fQ,di]at h
 | run c fs=>
  cases c with
  | region id ops draw=>
   simp only[fQ]at h k
   cases hr:AS P _ n cs _ _ _ _ st rs with
   | none=>rw[hr]at h;simp[di]at h
   | some r=>
    obtain⟨st',obs,d⟩:=r;rw[hr]at h k;obtain⟨rfl,rfl⟩:=h;have:=QR (id:=id)  q.hn q.mix (q.hand hh) hr hO (Sh k);exact(by simpa using this:Rp P Γ _ _ st)
  | _=>simp[fQ,di]at h
theorem Ap{x:Jv}{st:St}{n:Nat}{H:List (Nat×Own)}(q:RgQ P Γ n H)(live names:List Nat)
  (k:GG P Γ K (fJ x) (fL P (Spec P) n [] live names x st []))
  (h:di (dg P (Spec P) n [] live names x st [])=some (True,true):=by kernel_rfl) (hh:(H.all λx=>Cb x.1 names)=true:=by kernel_rfl):GG P Γ K x st:=gR q _ _ [] [] trivial k h hh
def gj:Jv->Bool | .run _ _=>true|_=>false
theorem Mm{x:Jv}{st st':St}(h:Le Γ st st')
  (k:GG P Γ K x st')
  (hx:gj x=true:=by kernel_rfl):GG P Γ K x st:=by
 cases x with
 | run c fs=>exact QQ h k
 | out e fs=>cases hx
theorem Tn{x:Jv}{st:St}(st':St)
  (k:GG P Γ K x st')
  (h:st=st':=by kernel_rfl):GG P Γ K x st:=h▸k
def gW(x:Jv)(st:St):AV:=match x with | .run (.cond c _ _) _=>RC st.get c|_=>.any
def ln(b:Bool):Jv->Jv
 | .run (.cond _ c d) fs=>ei (bif b then c else d) fs
 | x=>x
theorem gC{x:Jv}{st:St}{R:Type}{b:Bool}{m1 m2:Option R}{r:R}(h:(bif b then m1 else m2)=some r)
  (kt:m1=some r->GG P Γ K (ln true x) st) (kf:m2=some r->GG P Γ K (ln false x) st)
  (hv:gW x st = .bool b:=by kernel_rfl):GG P Γ K x st:=by
 cases x with
 | out e fs=>cases hv
 | run c fs=>
  cases c with
  | cond c y z=>
   refine LW b hv (λhb=>Hq  (kt ?_)) (λhb=>Hq  (kf ?_))
   ·subst hb;exact h
   ·subst hb;exact h
  | _=>cases hv
theorem WS{x:Jv}{st:St}(b:Bool)
  (k:GG P Γ K (ln b x) st)
  (hv:gW x st = .bool b:=by kernel_rfl):GG P Γ K x st:=by
 cases x with
 | out e fs=>cases hv
 | run c fs=>
  cases c with
  | cond c y z=>
   refine LW b hv (λhb=>Hq (n:=400) ?_) (λhb=>Hq (n:=400) ?_)
   ·subst hb;exact k
   ·subst hb;exact k
  | _=>cases hv
theorem lt1{P:Nat->Prop}(h0:P 0)(i:Nat)(h:i<1):P i:=by
 grind
theorem lt2{P:Nat->Prop}(h0:P 0)(h1:P 1)(i:Nat)(h:i<2):P i:=by
 grind
theorem rk(o:Own):some o=some o:=rfl
theorem gK{x:Jv}{st:St}{e:Exit}(h:K e st)(hx:x = .out e []:=by kernel_rfl):GG P Γ K x st:=by subst hx;exact h
def aG(Γ:Gw)(e0:Exit)(og:St):Exit->St->Prop:=λe st=>e=e0/\Le Γ st og
def aR(K:Exit->St->Prop):Exit->St->Prop:=λe st=>e = .ret/\K e st
theorem Dz{e0:Exit}{og st:St}(h:Le Γ st og):aG Γ e0 og e0 st:=⟨rfl,h⟩
theorem R4{st:St}(h:K .ret st):aR K .ret st:=⟨rfl,h⟩
def mq:Exit->Bool | .normal=>true|_=>false
theorem gN{S X:Type}{x:Jv}{st:St}{H:S->St}{KX:X->Exit->St->Prop}{s':S}(h:Le Γ st (H s'))(hx:x = .out .normal []:=by kernel_rfl):GG P Γ (L8 Γ H KX (.next s')) x st:=by
 subst hx;exact⟨rfl,h⟩
theorem gO{S X:Type}{x:Jv}{st:St}{H:S->St}{KX:X->Exit->St->Prop}{y:X}{e:Exit}(h:KX y e st)(hx:x = .out e []:=by kernel_rfl)(hn:mq e=false:=by kernel_rfl):GG P Γ (L8 Γ H KX (.done y)) x st:=by
 subst hx;exact⟨(by rintro rfl;cases hn),h⟩
def fK(P:Program)(Γ:Gw)(rs:List ResultVar)(H:List (Nat×Own))(res:AV)(H':List (Nat×Own)):Exit->St->Prop:=mV Γ (kP P rs H res H')
theorem Kz{rs:List ResultVar}{H H':List (Nat×Own)}{res:AV}{st st':St}{e:Exit}(ρ:List (Nat×Nat))(hl:Le Γ st st')(hr:UU P rs ρ H st'=some (res,H'):=by kernel_rfl)
  (he:(match e with | .ret=>true | .normal=>true|_=>false)=true:=by kernel_rfl):fK P Γ rs H res H' e st:=by
 refine⟨st',hl,?_,ρ,hr⟩
 cases e with
 | ret=>exact .inl rfl
 | normal=>exact .inr rfl
 | _=>cases he
theorem De{rs:List ResultVar}{H H':List (Nat×Own)}{res:AV}{x:Jv}{st:St}(ρ:List (Nat×Nat))(hr:UU P rs ρ H st=some (res,H'):=by kernel_rfl)
  (hx:x = .out .ret []:=by kernel_rfl):GG P Γ (fK P Γ rs H res H') x st:=gK  (Kz ρ (Le.refl _ _) hr) hx
def JJ(fn:Func):Code:=match fn.body with|some c=>c|none=>.skip
theorem Yn {f : FuncId} {fn : Func} {args : List AV} {H H' : List (Nat × Own)} {res : AV} (hm : P.follows .mixedOrders = true) (hf : P.funcs[f]? = some fn)
    (k : ∀ Γ : Gw, RgQ P Γ fn.ntmps H → GG P Γ (fK P Γ fn.results.toList H res H') (ei (JJ fn) []) (X1 args H))
    (hb : fn.body.isSome = true := by kernel_rfl) (hname : (fn.name == "runtime.NumGoroutine") = false := by kernel_rfl) (hlen : Nat.ble args.length fn.ntmps = true := by kernel_rfl) (hpl : DQ H = true := by kernel_rfl) : Spec P f args H res H' := by
  obtain ⟨c, hc⟩ := zzL73.1 hb
  have e : JJ fn = c := by unfold JJ; rw [hc]
  refine OQ hf hc hname hlen (fun Γ hn hΓ => ?_) hpl; have := k Γ ⟨hn, hm, hΓ⟩; rw [e] at this; exact iQ (Hq this)
theorem bg{st st':St}(h:st=st'):Le Γ st st':=h▸Le.refl Γ st
def RH:Jv->Bool | .run (.loop _) _=>true|_=>false
def gV:Jv->Jv
 | .run (.loop c) _=>ei c []
 | x=>x
def cJ(e:Exit):Jv->Jv
 | .run _ fs=>lq e fs
 | x=>x
def kM{α:Type}(k:Nat)(x:α):List (Nat×α)->List (Nat×α)
 | []=>[(k,x)]
 | (k',y)::l=>bif Nat.beq k k' then(k,x)::l else bif Nat.blt k k' then(k,x)::(k',y)::l else(k',y)::kM k x l
def fU{α:Type}:List (Nat×α)->List (Nat×α)->List (Nat×α)
 | [],l=>l
 | (k,x)::r,l=>fU r (kM k x l)
def Fq(st:St)(ts:List (Nat×AV))(os:List (Nat×Own))(fs:List (Nat×YH):=[]):St:=⟨fU ts st.tmps,fU os st.own,fU fs st.fam⟩
def W7(live names:List Nat)(st:St)(ts:List (Nat×AV))(os:List (Nat×Own))(fs:List (Nat×YH):=[]):St:=A0 live names (Fq st ts os fs)
theorem gL{S X:Type}{x:Jv}{st:St}{n:Nat}{Hf:List (Nat×Own)}(q:RgQ P Γ n Hf){f:S->Option (LR S X)}{s0:S}{y:X}(hx:Ai f s0=some y)(live names:List Nat)(H:St->S->St)(KX:St->X->Exit->St->Prop)
  (kb:∀ s y,f s=some y->GG P Γ (L8 Γ (H (A0 live names st)) (KX (A0 live names st)) y) (gV x) (H (A0 live names st) s)) (ko:∀ e st',KX (A0 live names st) y e st'->GG P Γ K (cJ e x) st')
  (h0:A0 live names st=H (A0 live names st) s0:=by kernel_rfl) (hl:RH x=true:=by kernel_rfl) (hh:(Hf.all λx=>Cb x.1 names)=true:=by kernel_rfl):GG P Γ K x st:=by
 cases x with
 | out e fs=>cases hl
 | run c fs=>
  cases c with
  | loop c=>
   refine QQ  ?_ (af _ f _ (λs y hy=>Hq (kb s y hy)) hx λe st' hk=>Sh (ko e st' hk));rw[<- h0];exact Du _ _ q rfl hh
  | _=>cases hl
theorem gA{x:Jv}{f:Exit->Jv->Jv}{e0:Exit}{og:St}
  (k:GG P Γ K (f e0 x) og)
  (hr:gj (f e0 x)=true:=by kernel_rfl):∀ e st',aG Γ e0 og e st'->GG P Γ K (f e x) st':=by
 rintro e st' ⟨rfl,hl⟩;exact Mm hl k hr
theorem ge{x:Jv}{f:Exit->Jv->Jv}{e0:Exit}{og:St}(k:∀ st',Le Γ st' og->GG P Γ K (f e0 x) st'):∀ e st',aG Γ e0 og e st'->GG P Γ K (f e x) st':=by
 rintro e st' ⟨rfl,hl⟩;exact k st' hl
theorem Wf{x:Jv}{f:Exit->Jv->Jv}{K':Exit->St->Prop}(k:∀ st',K' .ret st'->GG P Γ K (f .ret x) st'):∀ e st',aR K' e st'->GG P Γ K (f e x) st':=by
 rintro e st' ⟨rfl,hl⟩;exact k st' hl
theorem gU{x:Jv}{st:St}(n:Nat)
  (k:GG P Γ K (match x with | .run (.loop c) fs=>ei c (.ag c n::fs)|x=>x) st)
  (hl:RH x=true:=by kernel_rfl):GG P Γ K x st:=by
 cases x with
 | out e fs=>cases hl
 | run c fs=>
  cases c with
  | loop c=>exact QS (n+1) (Hq k)
  | _=>cases hl
def kE:Jv->Bool | .run (.seq _ _) _=>true|_=>false
def kC:Jv->Jv
 | .run (.seq a _) _=>ei a []
 | x=>x
def kO(e:Exit):Jv->Jv
 | .run (.seq _ b) fs=>lq e (.nx b::fs)
 | x=>x
theorem gJ{X:Type}{x:Jv}{st:St}{m:Option X}{y:X}(hx:m=some y)(KX:X->Exit->St->Prop)
  (kb:∀ y,m=some y->GG P Γ (KX y) (kC x) st) (ko:∀ e st',KX y e st'->GG P Γ K (kO e x) st')
  (hs:kE x=true:=by kernel_rfl):GG P Γ K x st:=by
 cases x with
 | out e fs=>cases hs
 | run c fs=>
  cases c with
  | seq a b=>exact JI (ae KX hx (λy hy=>Hq (kb y hy)) λe st' hk=>Sh (ko e st' hk))
  | _=>cases hs
def en:Jv->Bool | .run (.scope _) _=>true|_=>false
def kQ:Jv->Code | .run (.scope c) _=>c|_=>.skip
def kF(c:Code)(l:Nat):Jv:=ei ((findLabel c l).getD .skip) []
theorem gS{S X:Type}{x:Jv}{st:St}{f0:Option (LR S X)}{f:S->Option (LR S X)}{y:X}(hx:O1 f0 f=some y)(lab:S->Nat)(H:S->St)(KX:X->Exit->St->Prop)
  (k0:∀ y,f0=some y->GG P Γ (CM Γ (kQ x) lab H KX y) (ei (kQ x) []) st) (kb:∀ s y,f s=some y->GG P Γ (CM Γ (kQ x) lab H KX y) (kF (kQ x) (lab s)) (H s)) (ko:∀ e st',KX y e st'->GG P Γ K (cJ e x) st')
  (hs:en x=true:=by kernel_rfl):GG P Γ K x st:=by
 cases x with
 | out e fs=>cases hs
 | run c fs=>
  cases c with
  | scope c=>
   refine WC lab H f0 f KX (λy hy=>Hq (k0 y hy)) (λs y rest hf hy=>?_) hx λe st' hk=>Sh (ko e st' hk);have:=kb s y hy;unfold kF kQ at this;rw[hf]at this;exact Hq this
  | _=>cases hs
theorem ed{S X:Type}{x:Jv}{st:St}{c:Code}{lab:S->Nat}{H:S->St}{KX:X->Exit->St->Prop}{s':S}(h:Le Γ st (H s'))(hx:x = .out (.goto (lab s')) []:=by kernel_rfl)(hf:(findLabel c (lab s')).isSome=true:=by kernel_rfl) :
  GG P Γ (CM Γ c lab H KX (.next s')) x st:=by
 subst hx;exact⟨rfl,hf,h⟩
theorem gf{S X:Type}{x:Jv}{st:St}{c:Code}{lab:S->Nat}{H:S->St}{KX:X->Exit->St->Prop}{y:X}{e:Exit}(h:KX y e st)(hx:x = .out e []:=by kernel_rfl)
  (hf:(match e with | .goto l=>(findLabel c l).isNone|_=>true)=true:=by kernel_rfl):GG P Γ (CM Γ c lab H KX (.done y)) x st:=by
 subst hx;refine⟨?_,h⟩;rintro l rfl
 simpa using hf
theorem Sd{α:Type}{st:St}(U:α->St->St){a b:α}(h:a=b)(h1:st=U a st:=by kernel_rfl):Le Γ st (U b st):=by subst h;exact bg h1
theorem ls{st:St}(F F':Bool->St->St)(g:Bool)(h1:st=F g st:=by kernel_rfl)(ht:F true st=F' true st:=by kernel_rfl)(hf:F false st=F' false st:=by kernel_rfl):Le Γ st (F' g st):=by
 refine bg (h1.trans ?_)
 cases g<;>assumption
def Own.withF(g:Nat->List AV):Own->Own
 | .arr sz e n _=>.arr sz e n g
 | o=>o
def gQ(st:St)(nm:Nat):Option (Nat×(Nat->List AV)):=match Ac st.own nm with|some (.arr _ _ n f)=>some (n,f)|_=>none
def kS(nm:Nat)(g:Nat->List AV)(st:St):St:=⟨st.tmps,(match Ac st.own nm with|some o=>Cp st.own nm (o.withF g)|none=>st.own),st.fam⟩
theorem DM{nm sz n:Nat}{e:TypeId}{f g:Nat->List AV}(hp:∀ k,k<n->AVleL (f k) (g k)):∀{l:List (Nat×Own)},Ac l nm=some (.arr sz e n f)->OwnsLe l (Cp l nm (.arr sz e n g))
 | [],h=>by cases h
 | (k,o)::l,h=>by
  simp only[Ac]at h;simp only[Cp]
  cases hb:Nat.beq k nm with
  | true=>
   obtain rfl:=Bt hb;rw[hb]at h;simp only[Ae,Af]at h;subst h;exact .arr hp (.refl _)
  | false=>
   rw[hb]at h;exact .same (DM hp h)
theorem Wj{st:St}(nm:Nat){n:Nat}{f g:Nat->List AV}(hp:∀ k,k<n->AVleL (f k) (g k))(h:gQ st nm=some (n,f):=by kernel_rfl):Le Γ st (kS nm g st):=by
 unfold gQ at h;unfold kS
 cases ho:Ac _ nm with
 | none=>rw[ho]at h;cases h
 | some o=>
  rw[ho]at h
  cases o with
  | arr sz e n' f'=>
   obtain⟨rfl,rfl⟩:=h;exact Kf (TmpsLe.refl _) (DM hp ho)
  | _=>cases h
def ax(st:St)(nm j:Nat):Option AV:=match Ac st.own nm with|some (.row _ cells)=>cells[j]? | _=>none
def Own.withC(j:Nat)(x:AV):Own->Own
 | .row e cells=>.row e (cells.set j x)
 | o=>o
def kR(nm j:Nat)(x:AV)(st:St):St:=⟨st.tmps,(match Ac st.own nm with|some o=>Cp st.own nm (o.withC j x)|none=>st.own),st.fam⟩
theorem UG{a b:AV}(h:AVle a b):∀{l:List AV} {j:Nat},l[j]?=some a->AVleL l (l.set j b)
 | [],j,h=>by simp at h
 | x::l,0,h'=>by
  simp only[List.getElem?_cons_zero,Af]at h';subst h';exact .cons h (.refl _)
 | x::l,j+1,h'=>by
  exact .cons (.refl _) (UG h h')
theorem DN{nm:Nat}{e:TypeId}{x y:List AV}(hp:AVleL x y):∀{l:List (Nat×Own)},Ac l nm=some (.row e x)->OwnsLe l (Cp l nm (.row e y))
 | [],h=>by cases h
 | (k,o)::l,h=>by
  simp only[Ac]at h;simp only[Cp]
  cases hb:Nat.beq k nm with
  | true=>
   obtain rfl:=Bt hb;rw[hb]at h;simp only[Ae,Af]at h;subst h;exact .row hp (.refl _)
  | false=>
   rw[hb]at h;exact .same (DN hp h)
theorem er{st:St}(nm j:Nat){a b:AV}(hp:AVle a b)(h:ax st nm j=some a:=by kernel_rfl):Le Γ st (kR nm j b st):=by
 unfold ax at h;unfold kR
 cases ho:Ac _ nm with
 | none=>rw[ho]at h;cases h
 | some o=>
  rw[ho]at h
  cases o with
  | row e cells=>exact Kf (TmpsLe.refl _) (DN (UG hp h) ho)
  | _=>cases h
theorem XK{V:Type}:HL ([]:List (Int×V)) []:=⟨.nil,List.nodup_nil⟩
def gx(nm:Nat)(x:AObj)(st:St):St:=⟨st.tmps,Cp st.own nm (.obj x),st.fam⟩
theorem mX{V:Type}{st:St}(nm:Nat)(nn:Bool)(k:IntKind){f:V->AV}{a b:List (Int×V)}(hp:HL a b)(h:Ac st.own nm=some (.obj (.map nn k (mapE f a))):=by kernel_rfl)(hlt:Nat.blt nm A8=true:=by kernel_rfl):Le Γ st (gx nm (.pmap nn k (mapE f b)) st):=
 JV _ h (λ_ _ _ _ h=>RS hp h) hlt
theorem mr{st:St}(nm:Nat)(k:IntKind)(l:List (Int×AV))(h:Ac st.own nm=some (.obj (.pmap true k l)):=by kernel_rfl)(hlt:Nat.blt nm A8=true:=by kernel_rfl):Le Γ st (gx nm (.pmap false k l) st):=
 JV _ h (λ_ _ _ _ h=>XH h) hlt
theorem gI(g:Bool):g=true->g=true:=id
theorem M5(c:Bool):c=true->(c==true)=true:=gT
theorem X0(c:Bool):c=false->(c==false)=true:=gF
theorem Bu{α:Type}(sz:Nat)(e:α->List AV)(d:α)(l:List α):AVle (.slice sz l.length (λi=>(l.map e).getD i []) .exact) (AV.list sz e d l .exact):=iP rfl λi h=>e9 l i h
theorem Iq{α:Type}(sz:Nat)(e:α->List AV)(d:α):AVle (.slice 0 0 (λ_=>[]) .exact) (AV.list sz e d [] .exact):=Ee
theorem Th{α:Type}(sz nm:Nat)(e:α->List AV)(d:α)(l m:List α):AVle (.slice sz (l.length+m.length) (Ja l.length (λi=>e (l.getD i d)) (λi=>e (m.getD i d))) (.own nm)) (AV.list sz e d (l++m) (.own nm)):=iO
def bn(x:Jv)(ix tx bx:Nat):Bool:=
 match x with
 | .run (.loop (.seq (.region _ ops false) _)) _=>
  match ops.toList with
  | [o1,o2]=>
   (match o1.op,o2.op with | .next (.tmp a) false,.extract (.tmp b) 0=>Nat.beq a ix&&Nat.beq b tx|_,_=>false) &&
   (match o1.dst,o2.dst,o1.guard,o2.guard with|some a,some b,none,none=>Nat.beq a tx&&Nat.beq b bx|_,_,_,_=>false)
  | _=>false
 | _=>false
def BC:Jv->Jv
 | .run (.loop (.seq _ c)) _=>ei c []
 | x=>x
theorem mo{S X:Type}{x:Jv}{st:St}{n:Nat}{Hf:List (Nat×Own)}(q:RgQ P Γ n Hf){len:Nat}{f:Nat->S->Option (LR S X)}{g:S->Option (LR S X)}{s0:S}(Q:X->Prop)(hx:∀ τ:List Nat,τ.Perm (List.range len)->∃ x,Sv f g τ s0=some x/\Q x)(live names:List Nat)(H:St->List Nat->S->St)(KX:St->X->Exit->St->Prop)
  (ix tx bx nm mm:Nat) (nn:Bool) (km:IntKind) (l:List (Int×AV)) (lv2 nm2:List Nat)
  (h0:A0 live names st=H (A0 live names st) [] s0:=by kernel_rfl) (hc:bn x ix tx bx=true:=by kernel_rfl) (hb:(Nat.blt tx n&&(Nat.blt bx n&&(Nat.blt nm A8&&Nat.blt mm A8)))=true:=by kernel_rfl)
  (hit:(λz s=>(H (A0 live names st) z s).get ix)=(λ_ _=>AV.optr nm mm):=by kernel_rfl) (hmi:(λz s=>Ac (H (A0 live names st) z s).own nm)=(λz _=>some (.obj (.miter (.omap mm) len z))):=by kernel_rfl)
  (hma:(λz s=>Ac (H (A0 live names st) z s).own mm)=(λ_ _=>some (.obj (.map nn km l))):=by kernel_rfl) (hlen:len=l.length:=by kernel_rfl) (hh:(Hf.all λx=>Cb x.1 names)=true:=by kernel_rfl) (hh2:(Hf.all λx=>Cb x.1 nm2)=true:=by kernel_rfl)
  (kd:∀ z s y,g s=some y->(∀ i,i<len->i∈z)->GG P Γ (L8 Γ (H (A0 live names st) z) (KX (A0 live names st)) y) (BC x) (A0 lv2 nm2 (((H (A0 live names st) z s).upd (some tx) (.tuple [.bool false]) []).upd (some bx) (.bool false) [])))
  (kn:∀ z s i y,f i s=some y->i<len->i∉z->GG P Γ (L8 Γ (H (A0 live names st) (i::z)) (KX (A0 live names st)) y) (BC x)
   (A0 lv2 nm2 (((H (A0 live names st) z s).upd (some tx) (.tuple [.bool true,.int km (l.getD i (0,.any)).1,(l.getD i (0,.any)).2]) [(nm,.obj (.miter (.omap mm) len (i::z)))]).upd (some bx) (.bool true) [])))
  (ko:∀ y,Q y->∀ e st',KX (A0 live names st) y e st'->GG P Γ K (cJ e x) st'):GG P Γ K x st:=by
 unfold bn at hc
 split at hc
 ·rename_i id ops rest fs
  split at hc
  ·rename_i o1 o2 hops
   obtain rfl:ops = #[o1,o2]:=by grind
   simp only[A4]at hc;obtain⟨c1,c2⟩:=hc
   split at c1
   ·rename_i a b e1 e2
    split at c2
    ·rename_i a' b' e3 e4 e5 e6
     simp only[A4]at c1 c2;obtain rfl:=Bt c1.1;obtain rfl:=Bt c1.2;obtain rfl:=Bt c2.1;obtain rfl:=Bt c2.2;refine QQ  ?_ (LX Q len (H (A0 live names st)) f g _ (λz s hg hf=>?_) hx λy hy e st' hk=>Sh (ko y hy e st' hk))
     ·rw[<- h0];exact Du _ _ q rfl hh
     refine JI (WB q lv2 nm2 e1 e3 e5 e2 e4 e6 hb (congrFun (congrFun hit z) s) (congrFun (congrFun hmi z) s) (congrFun (congrFun hma z) s) hlen hh2 (λhall=>?_) (λi hi hn=>?_))
     ·obtain⟨y,h⟩:=hg hall;exact BW (Hq (kd z s y h hall)) (λe st' hk=>.inl ⟨y,h,hk,hall⟩)
     ·obtain⟨y,h⟩:=hf i hi hn;exact BW (Hq (kn z s i y h hi hn)) (λe st' hk=>.inr ⟨i,y,h,hk,hi,hn⟩)
    ·cases c2
   ·cases c1
  ·cases hc
 ·cases hc
theorem mn{S X:Type}{x:Jv}{st:St}{n:Nat}{Hf:List (Nat×Own)}(q:RgQ P Γ n Hf){len:Nat}{f:Nat->S->Option (LR S X)}{g:S->Option (LR S X)}{s0:S}{eqv:X->X->Prop}{y:X}(hx:Vk eqv len f g s0=some y)(live names:List Nat)(H:St->List Nat->S->St)(KX:St->X->Exit->St->Prop)
  (ix tx bx nm mm:Nat) (nn:Bool) (km:IntKind) (l:List (Int×AV)) (lv2 nm2:List Nat)
  (h0:A0 live names st=H (A0 live names st) [] s0:=by kernel_rfl) (hc:bn x ix tx bx=true:=by kernel_rfl) (hb:(Nat.blt tx n&&(Nat.blt bx n&&(Nat.blt nm A8&&Nat.blt mm A8)))=true:=by kernel_rfl)
  (hit:(λz s=>(H (A0 live names st) z s).get ix)=(λ_ _=>AV.optr nm mm):=by kernel_rfl) (hmi:(λz s=>Ac (H (A0 live names st) z s).own nm)=(λz _=>some (.obj (.miter (.omap mm) len z))):=by kernel_rfl)
  (hma:(λz s=>Ac (H (A0 live names st) z s).own mm)=(λ_ _=>some (.obj (.map nn km l))):=by kernel_rfl) (hlen:len=l.length:=by kernel_rfl) (hh:(Hf.all λx=>Cb x.1 names)=true:=by kernel_rfl) (hh2:(Hf.all λx=>Cb x.1 nm2)=true:=by kernel_rfl)
  (kd:∀ z s y,g s=some y->(∀ i,i<len->i∈z)->GG P Γ (L8 Γ (H (A0 live names st) z) (KX (A0 live names st)) y) (BC x) (A0 lv2 nm2 (((H (A0 live names st) z s).upd (some tx) (.tuple [.bool false]) []).upd (some bx) (.bool false) [])))
  (kn:∀ z s i y,f i s=some y->i<len->i∉z->GG P Γ (L8 Γ (H (A0 live names st) (i::z)) (KX (A0 live names st)) y) (BC x)
   (A0 lv2 nm2 (((H (A0 live names st) z s).upd (some tx) (.tuple [.bool true,.int km (l.getD i (0,.any)).1,(l.getD i (0,.any)).2]) [(nm,.obj (.miter (.omap mm) len (i::z)))]).upd (some bx) (.bool true) [])))
  (ko:∀ y',eqv y' y->∀ e st',KX (A0 live names st) y' e st'->GG P Γ K (cJ e x) st'):GG P Γ K x st:=
 mo q _ (Zl hx) _ _ H KX ix tx bx nm mm nn km l lv2 nm2 h0 hc hb hit hmi hma hlen hh hh2 kd kn ko
theorem Mx{st st':St}(h:st=st':=by kernel_rfl):Le Γ st st':=h▸Le.refl Γ st
theorem ci{p q:Prop}(a:p)(b:q):p/\q:=⟨a,b⟩
theorem c1{p:Prop}(a:p):p/\True:=⟨a,trivial⟩
end
section
variable {P:Program} {Γ:Gw} {K:Exit->St->Prop}
theorem tB{α β:Type}{m:Option α}{f:α->Option β}{r:β}{G:Prop}(h:m.bind f=some r)(k:∀ x,m=some x->f x=some r->G):G:=have⟨x,hx,h⟩:=bind_some h;k x hx h
theorem tC{β:Type}{c:Prop}[Decidable c]{m:Option β}{r:β}{G:Prop}(h:Cw c m=some r)(k:c->m=some r->G):G:=k (M2 h).1 (M2 h).2
@[elab_as_elim] theorem tS{α:Type}{a:α}{M:α->Prop}{b:α}(h:some a=some b)(k:M a):M b:=OI h▸k
theorem tV{x:Jv}{st:St}{n:Nat}{H:List (Nat×Own)}(q:RgQ P Γ n H)(live names:List Nat){β:Type}{c:Prop}[Decidable c]{m:Option β}{r:β}(h:Cw c m=some r)
  (k:m=some r->GG P Γ K (fJ x) (fL P (Spec P) n [] live names x st []))
  (h1:di (dg P (Spec P) n [] live names x st [])=some (c/\True,true):=by kernel_rfl) (hh:(H.all λx=>Cb x.1 names)=true:=by kernel_rfl):GG P Γ K x st:=gR q live names [] [] (c1 (M2 h).1) (k (M2 h).2) h1 hh
theorem tN{S X:Type}{x:Jv}{st:St}{H:S->St}{KX:X->Exit->St->Prop}{s':S}{y:LR S X}(h:some (.next s')=some y)(h1:st=H s':=by kernel_rfl)(hx:x = .out .normal []:=by kernel_rfl):GG P Γ (L8 Γ H KX y) x st:=OI h▸gN (Mx h1) hx
theorem tL{S X α:Type}{x:Jv}{st:St}{n:Nat}{Hf:List (Nat×Own)}(q:RgQ P Γ n Hf){f:S->Option (LR S X)}{s0:S}{g:X->Option α}{r:α}(h:(Ai f s0).bind g=some r)(live names:List Nat)(H:St->S->St)(KX:St->X->Exit->St->Prop)
  (kb:∀ s y,f s=some y->GG P Γ (L8 Γ (H (A0 live names st)) (KX (A0 live names st)) y) (gV x) (H (A0 live names st) s)) (ko:∀ y,g y=some r->∀ e st',KX (A0 live names st) y e st'->GG P Γ K (cJ e x) st')
  (h0:A0 live names st=H (A0 live names st) s0:=by kernel_rfl) (hl:RH x=true:=by kernel_rfl) (hh:(Hf.all λx=>Cb x.1 names)=true:=by kernel_rfl):GG P Γ K x st:=tB h λy hy h=>gL q hy live names H KX kb (ko y h) h0 hl hh
theorem tU{x:Jv}{st:St}{n:Nat}{H:List (Nat×Own)}(q:RgQ P Γ n H)(live names:List Nat){O:Prop}(hO:O)
  (k:GG P Γ K (fJ x) (fL P (Spec P) n [] live names x st []))
  (h:di (dg P (Spec P) n [] live names x st [])=some (O,true):=by kernel_rfl) (hh:(H.all λx=>Cb x.1 names)=true:=by kernel_rfl):GG P Γ K x st:=gR q live names [] [] hO k h hh
theorem tT{x:Jv}{st:St}{n:Nat}{H:List (Nat×Own)}(q:RgQ P Γ n H)(live names:List Nat)(rs:List Ry){O:Prop}(hO:O)
  (k:GG P Γ K (fJ x) (fL P (Spec P) n [] live names x st rs))
  (h:di (dg P (Spec P) n [] live names x st rs)=some (O,true):=by kernel_rfl) (hh:(H.all λx=>Cb x.1 names)=true:=by kernel_rfl):GG P Γ K x st:=gR q live names [] rs hO k h hh
theorem tW{x:Jv}{st:St}{n:Nat}{H:List (Nat×Own)}(q:RgQ P Γ n H)(live names live2 names2:List Nat)
  (k:GG P Γ K (fJ (fJ x)) (fL P (Spec P) n [] live2 names2 (fJ x) (fL P (Spec P) n [] live names x st []) []))
  (h:di (dg P (Spec P) n [] live names x st [])=some (True,true):=by kernel_rfl) (hh:(H.all λx=>Cb x.1 names)=true:=by kernel_rfl)
  (h2:di (dg P (Spec P) n [] live2 names2 (fJ x) (fL P (Spec P) n [] live names x st []) [])=some (True,true):=by kernel_rfl) (hh2:(H.all λx=>Cb x.1 names2)=true:=by kernel_rfl):GG P Γ K x st:=Ap q live names (Ap q live2 names2 k h2 hh2) h hh
end
theorem Uj{R:Prop}(g:Bool)(r:R):(g=true->g=true)/\((g=true->g=true)/\(R)):=⟨id,⟨id,r⟩⟩
theorem bQ{R:Prop}(g:Bool)(r:R):(g=true->g=true)/\((g=true->g=true)/\((g=true->g=true)/\(R))):=⟨id,⟨id,⟨id,r⟩⟩⟩
theorem jY{R:Prop}(g:Bool)(r:R):(g=true->g=true)/\((g=true->g=true)/\((g=true->g=true)/\((g=true->g=true)/\(R)))):=⟨id,⟨id,⟨id,⟨id,r⟩⟩⟩⟩
theorem kB{R:Prop}(g:Bool)(r:R):(g=true->g=true)/\((g=true->g=true)/\((g=true->g=true)/\((g=true->g=true)/\((g=true->g=true)/\(R))))):=⟨id,⟨id,⟨id,⟨id,⟨id,r⟩⟩⟩⟩⟩
theorem mi{R:Prop}(g:Bool)(r:R):(g=true->g=true)/\((g=true->g=true)/\((g=true->g=true)/\((g=true->g=true)/\((g=true->g=true)/\((g=true->g=true)/\((g=true->g=true)/\(R))))))):=⟨id,⟨id,⟨id,⟨id,⟨id,⟨id,⟨id,r⟩⟩⟩⟩⟩⟩⟩
theorem mj{R:Prop}(g:Bool)(r:R):(g=true->g=true)/\((g=true->g=true)/\((g=true->g=true)/\((g=true->g=true)/\((g=true->g=true)/\((g=true->g=true)/\((g=true->g=true)/\((g=true->g=true)/\(R)))))))):=⟨id,⟨id,⟨id,⟨id,⟨id,⟨id,⟨id,⟨id,r⟩⟩⟩⟩⟩⟩⟩⟩
theorem ml{R:Prop}(g:Bool)(r:R):(g=true->g=true)/\((g=true->g=true)/\((g=true->g=true)/\((g=true->g=true)/\((g=true->g=true)/\((g=true->g=true)/\((g=true->g=true)/\((g=true->g=true)/\((g=true->g=true)/\(R))))))))):=⟨id,⟨id,⟨id,⟨id,⟨id,⟨id,⟨id,⟨id,⟨id,r⟩⟩⟩⟩⟩⟩⟩⟩⟩
theorem YO{p0 p1 R:Prop}(a0:p0)(a1:p1)(r:R):p0/\p1/\R:=⟨a0,a1,r⟩
theorem c2{p0 p1:Prop}(a0:p0)(a1:p1):p0/\p1/\True:=⟨a0,a1,trivial⟩
theorem lF{p0 p1 p2 R:Prop}(a0:p0)(a1:p1)(a2:p2)(r:R):p0/\p1/\p2/\R:=⟨a0,a1,a2,r⟩
theorem c3{p0 p1 p2:Prop}(a0:p0)(a1:p1)(a2:p2):p0/\p1/\p2/\True:=⟨a0,a1,a2,trivial⟩
theorem mf{p0 p1 p2 p3 R:Prop}(a0:p0)(a1:p1)(a2:p2)(a3:p3)(r:R):p0/\p1/\p2/\p3/\R:=⟨a0,a1,a2,a3,r⟩
theorem c4{p0 p1 p2 p3:Prop}(a0:p0)(a1:p1)(a2:p2)(a3:p3):p0/\p1/\p2/\p3/\True:=⟨a0,a1,a2,a3,trivial⟩
theorem c5{p0 p1 p2 p3 p4:Prop}(a0:p0)(a1:p1)(a2:p2)(a3:p3)(a4:p4):p0/\p1/\p2/\p3/\p4/\True:=⟨a0,a1,a2,a3,a4,trivial⟩
theorem c6{p0 p1 p2 p3 p4 p5:Prop}(a0:p0)(a1:p1)(a2:p2)(a3:p3)(a4:p4)(a5:p5):p0/\p1/\p2/\p3/\p4/\p5/\True:=⟨a0,a1,a2,a3,a4,a5,trivial⟩
theorem mg{p0 p1 p2 p3 p4 p5 p6 R:Prop}(a0:p0)(a1:p1)(a2:p2)(a3:p3)(a4:p4)(a5:p5)(a6:p6)(r:R):p0/\p1/\p2/\p3/\p4/\p5/\p6/\R:=⟨a0,a1,a2,a3,a4,a5,a6,r⟩
theorem c7{p0 p1 p2 p3 p4 p5 p6:Prop}(a0:p0)(a1:p1)(a2:p2)(a3:p3)(a4:p4)(a5:p5)(a6:p6):p0/\p1/\p2/\p3/\p4/\p5/\p6/\True:=⟨a0,a1,a2,a3,a4,a5,a6,trivial⟩
theorem c8{p0 p1 p2 p3 p4 p5 p6 p7:Prop}(a0:p0)(a1:p1)(a2:p2)(a3:p3)(a4:p4)(a5:p5)(a6:p6)(a7:p7):p0/\p1/\p2/\p3/\p4/\p5/\p6/\p7/\True:=⟨a0,a1,a2,a3,a4,a5,a6,a7,trivial⟩
theorem mW{p0 p1 p2 p3 p4 p5 p6 p7 p8 R:Prop}(a0:p0)(a1:p1)(a2:p2)(a3:p3)(a4:p4)(a5:p5)(a6:p6)(a7:p7)(a8:p8)(r:R):p0/\p1/\p2/\p3/\p4/\p5/\p6/\p7/\p8/\R:=⟨a0,a1,a2,a3,a4,a5,a6,a7,a8,r⟩
structure mP(c:List AV)(o N sz:Nat)(f:Nat->List AV):Prop where
 get:∀ i,i<N->(c.drop (o+i*sz)).take sz=f i
open Go.Shelf
def MT:Go.Shelf.Ren:=⟨fun|189=>157|125=>181|257=>180|128=>205|129=>206|294=>197|295=>198|296=>199|297=>200|298=>201|299=>202|216=>193|300=>203|301=>204|328=>220|329=>221|330=>222|331=>223|332=>224|215=>218|343=>230|n=>n,fun|28=>33|3=>3|46=>53|0=>0|51=>236|53=>23|4=>4|183=>231|182=>230|131=>217|5=>5|9=>9|218=>244|222=>248|228=>252|229=>133|n=>n,fun|n=>n⟩
theorem UF:Go.Proofs.Lays.n189 Tryz.prog MT:={
 mixed:=by kernel_rfl
 f125:=Tryz.func181.trans (B7 some (by kernel_rfl))
 f128:=Tryz.func205.trans (B7 some (by kernel_rfl))
 f129:=Tryz.func206.trans (B7 some (by kernel_rfl))
 f189:=Tryz.func157.trans (B7 some (by kernel_rfl))
 f215:=Tryz.func218.trans (B7 some (by kernel_rfl))
 f216:=Tryz.func193.trans (B7 some (by kernel_rfl))
 f257:=Tryz.func180.trans (B7 some (by kernel_rfl))
 f294:=Tryz.func197.trans (B7 some (by kernel_rfl))
 f295:=Tryz.func198.trans (B7 some (by kernel_rfl))
 f296:=Tryz.func199.trans (B7 some (by kernel_rfl))
 f297:=Tryz.func200.trans (B7 some (by kernel_rfl))
 f298:=Tryz.func201.trans (B7 some (by kernel_rfl))
 f299:=Tryz.func202.trans (B7 some (by kernel_rfl))
 f300:=Tryz.func203.trans (B7 some (by kernel_rfl))
 f301:=Tryz.func204.trans (B7 some (by kernel_rfl))
 f328:=Tryz.func220.trans (B7 some (by kernel_rfl))
 f329:=Tryz.func221.trans (B7 some (by kernel_rfl))
 f330:=Tryz.func222.trans (B7 some (by kernel_rfl))
 f331:=Tryz.func223.trans (B7 some (by kernel_rfl))
 f332:=Tryz.func224.trans (B7 some (by kernel_rfl))
 f343:=Tryz.func230.trans (B7 some (by kernel_rfl))
 t0:=Tryz.underlying0
 a0:=Tryz.isAgg0
 z0:=Tryz.sizeOf0
 v0:=Tryz.zeroValue0
 t3:=Tryz.underlying3
 a3:=Tryz.isAgg3
 z3:=Tryz.sizeOf3
 v3:=Tryz.zeroValue3
 t4:=Tryz.underlying4
 a4:=Tryz.isAgg4
 z4:=Tryz.sizeOf4
 v4:=Tryz.zeroValue4
 t5:=Tryz.underlying5
 a5:=Tryz.isAgg5
 z5:=Tryz.sizeOf5
 v5:=Tryz.zeroValue5
 t9:=Tryz.underlying9
 a9:=Tryz.isAgg9
 z9:=Tryz.sizeOf9
 v9:=Tryz.zeroValue9
 t28:=Tryz.underlying33
 a28:=Tryz.isAgg33
 z28:=Tryz.sizeOf33
 v28:=Tryz.zeroValue33
 t46:=Tryz.underlying53
 a46:=Tryz.isAgg53
 z46:=Tryz.sizeOf53
 v46:=Tryz.zeroValue53
 t51:=Tryz.underlying236
 a51:=Tryz.isAgg236
 z51:=Tryz.sizeOf236
 v51:=Tryz.zeroValue236
 t53:=Tryz.underlying23
 a53:=Tryz.isAgg23
 z53:=Tryz.sizeOf23
 v53:=Tryz.zeroValue23
 t131:=Tryz.underlying217
 a131:=Tryz.isAgg217
 z131:=Tryz.sizeOf217
 v131:=Tryz.zeroValue217
 t182:=Tryz.underlying230
 a182:=Tryz.isAgg230
 z182:=Tryz.sizeOf230
 v182:=Tryz.zeroValue230
 t183:=Tryz.underlying231
 a183:=Tryz.isAgg231
 z183:=Tryz.sizeOf231
 v183:=Tryz.zeroValue231
 t218:=Tryz.underlying244
 a218:=Tryz.isAgg244
 z218:=Tryz.sizeOf244
 v218:=Tryz.zeroValue244
 t222:=Tryz.underlying248
 a222:=Tryz.isAgg248
 z222:=Tryz.sizeOf248
 v222:=Tryz.zeroValue248
 t228:=Tryz.underlying252
 a228:=Tryz.isAgg252
 z228:=Tryz.sizeOf252
 v228:=Tryz.zeroValue252
 t229:=Tryz.underlying133
 a229:=Tryz.isAgg133
 z229:=Tryz.sizeOf133
 v229:=Tryz.zeroValue133 }
def FD:Go.Shelf.Ren:=⟨fun|15=>156|n=>n,fun|22=>33|3=>3|4=>4|n=>n,fun|n=>n⟩
theorem X2:Go.Proofs.Lays2.n15 Tryz.prog FD:={
 mixed:=by kernel_rfl
 f15:=Tryz.func156.trans (B7 some (by kernel_rfl))
 t3:=Tryz.underlying3
 a3:=Tryz.isAgg3
 z3:=Tryz.sizeOf3
 v3:=Tryz.zeroValue3
 t4:=Tryz.underlying4
 a4:=Tryz.isAgg4
 z4:=Tryz.sizeOf4
 v4:=Tryz.zeroValue4
 t22:=Tryz.underlying33
 a22:=Tryz.isAgg33
 z22:=Tryz.sizeOf33
 v22:=Tryz.zeroValue33
 i3:=by kernel_rfl }
def FE:Go.Shelf.Ren:=⟨fun|20=>158|n=>n,fun|22=>33|3=>3|4=>4|0=>0|n=>n,fun|n=>n⟩
theorem GU:Go.Proofs.Lays2.n20 Tryz.prog FE:={
 mixed:=by kernel_rfl
 f20:=Tryz.func158.trans (B7 some (by kernel_rfl))
 t0:=Tryz.underlying0
 a0:=Tryz.isAgg0
 z0:=Tryz.sizeOf0
 v0:=Tryz.zeroValue0
 t3:=Tryz.underlying3
 a3:=Tryz.isAgg3
 z3:=Tryz.sizeOf3
 v3:=Tryz.zeroValue3
 t4:=Tryz.underlying4
 a4:=Tryz.isAgg4
 z4:=Tryz.sizeOf4
 v4:=Tryz.zeroValue4
 t22:=Tryz.underlying33
 a22:=Tryz.isAgg33
 z22:=Tryz.sizeOf33
 v22:=Tryz.zeroValue33
 i3:=by kernel_rfl }
open Go.Sort
section
variable {I:Nat->Nat->Prop} {θ:Nat->Option (Nat×Nat)} {w w':World}
theorem SA(I:Nat->Nat->Prop)(θ:Nat->Option (Nat×Nat))(w:World):Gp I (Ac []) θ w:=
 ⟨(λ_ _ _ h=>by cases h),(λ_ _ _ _ h=>by cases h),(λ_ _ _ _ _ h=>(h rfl).elim),(λ_ _ _ _ _ h=>by cases h),(λ_ _ h=>by cases h),(λ_ _ _ h=>by cases h)⟩
theorem cQ{own:Nat->Option Own}{zs:Array Value}{x:AV}(h:RepL I own θ w zs.toList [x]):∃ v,zs = #[v]/\Rep I own θ w v x:=by
 obtain⟨l⟩:=zs
 cases h with
 | cons h1 h2=>cases h2;exact⟨_,rfl,h1⟩
theorem Uh(hb:Below w.heap.size w w')(hval:∀ b o,I b o->∃ u,w.cell? ⟨b,o,none⟩=some u){N:Nat->Nat->Prop}(hN:∀ b o,N b o->w.heap.size<=b/\∃ u,w'.cell? ⟨b,o,none⟩=some u) :
  Chg (Ac []) θ I w (Ac []) θ (λb o=>I b o\/N b o) w':=
 have hcell:∀ b o,I b o->w'.cell? ⟨b,o,none⟩=w.cell? ⟨b,o,none⟩:=λb o hi=>by
  obtain⟨u,hu⟩:=hval b o hi;exact Zu (a:=⟨b,o,none⟩) (hb.block b (Lo hu))
 {imm:=λ_ _ h=>.inl h,cell:=hcell,le:=λ_ _ h=>(by cases h),rel:=SA _ _ _,
  valid:=λb o hi=>by
   rcases hi with hi|hi
   ·obtain⟨u,hu⟩:=hval b o hi;exact⟨u,(hcell b o hi).trans hu⟩
   ·exact(hN b o hi).2,
  os:=hb.os,tape:=hb.tape,output:=hb.output,drawn:=λh=>h.elim,grow:=hb.size,frame:=λb hlt _=>hb.block b hlt,new:=λ_ _ _ h=>(h rfl).elim,
  immNew:=λb o hi=>by
   rcases hi with hi|hi
   ·exact .inl hi
   ·exact .inr (.inl (hN b o hi).1) }
end
theorem V6{w W:World}{g n:Nat}{os:Array Obj}{d:Array Int}(hb:Below w.heap.size w W)(hg:w.heap.size<=g):Below w.heap.size w (grow (putRow (Value.int .i64) (Sort.ahead W n) g 0 d) os):=by
 have k:=grownBy_sortedI (w:=W) (g:=g) (n:=n) (os:=os) d;refine hb.trans ⟨k.os,k.tape,k.output,k.size,λb hlt=>k.block b (Nat.lt_of_lt_of_le hlt hb.size) (λe=>?_)⟩;have:=OI e;omega
def IY(w W:World)(g cap n:Nat)(zs:List Int):Prop:=
 Below w.heap.size w W/\w.heap.size<=g/\∃ cur,W.heap[g]?=some (.cells cur 3 (0,0))/\n<=cap/\cap<=maxLen/\cur.size=cap/\cur.toList.take zs.length=zs.map (Value.int .i64)/\zs.length=n
theorem UR{w W:World}{v:Value}{n:Nat}{zs:List Int}(h:W.ownsRow w.heap.size 3 1 v n (zs.map (Value.int .i64)))(hne:v≠.slice none 0 0)(hb:Below w.heap.size w W):∃ g cap,v = .slice (some ⟨g,0,none⟩) n cap/\IY w W g cap n zs:=by
 have hl:zs.length=n:=by have:=h.1;simpa using this
 rcases h.2 with⟨rfl,_⟩|⟨g,cap,cur,rfl,hg,hcur,hcap,hmax,hsz,ht⟩
 ·exact(hne rfl).elim
 ·rw[Qv]at hsz ht;exact⟨g,cap,rfl,hb,hg,cur,hcur,hcap,hmax,hsz,by rw[hl];exact ht,hl⟩
theorem ao(ad:Addr)(c:Nat)(w:World):Calls Tryz.prog 156 #[.slice (some ad) 0 c] w λe W=>∃ g cap,e = .returned (.slice (some ⟨g,0,none⟩) 0 cap)/\IY w W g cap 0 []:=
 (Any.slices_Clone_int_zero X2 ad c w).mono λe W ⟨v,he,hown,hne,hb⟩=>by
  obtain⟨g,cap,rfl,h⟩:=UR (zs:=[]) hown hne hb;exact⟨g,cap,he,h⟩
theorem eK(b off n c:Nat)(zs:List Int)(w:World)(hz:zs.length=n)(hbig:n<=17592186044416)(hc:∀ j,j<n->w.cell? ⟨b,off+j,none⟩=some (.int .i64 (zs.getD j 0))) :
  Calls Tryz.prog 156 #[.slice (some ⟨b,off,none⟩) n c] w λe W=>∃ g cap,e = .returned (.slice (some ⟨g,0,none⟩) n cap)/\IY w W g cap n zs:=
 (Any.slices_Clone_int X2 b off n c zs w (by omega) (by omega) (λj hj=>hc j (by omega))).mono λe W ⟨v,he,hown,hne,hb⟩=>by
  rw[show zs.take n=zs by rw[<- hz];exact Vs ..]at hown;obtain⟨g,cap,rfl,h⟩:=UR hown hne hb;exact⟨g,cap,he,h⟩
theorem iY{w W:World}{g cap n:Nat}{zs:List Int}(h:IY w W g cap n zs)(hbig:n<=17592186044416):Calls Tryz.prog 157 #[.slice (some ⟨g,0,none⟩) n cap] W λe W2=>e = .returned (.tuple #[])/\IY w W2 g cap n (zs.mergeSort λx y=>decide (x<=y)):=by
 obtain⟨hb,hg,cur,hcur,hcap,hmax,hsz,ht,rfl⟩:=h;refine(Any.slices_Sort_int UF g 0 cap zs W (holds_of_blockI hcur ht) (Wg hcur) (by omega)).mono λe W2 ⟨he,q,os,hW⟩=>⟨he,?_⟩;subst hW;have hl:(zs.mergeSort λx y=>decide (x<=y)).length=zs.length:=List.length_mergeSort ..;have b2:=V6 (n:=q) (os:=os) (d:=(zs.mergeSort λx y=>decide (x<=y)).toArray) hb hg;exact⟨b2,hg,_,heap_sortedI _ hcur,hcap,hmax,by simp[putCells,hsz],take_putCellsI cur _ (by omega),hl⟩
theorem WG{w W:World}{g cap n:Nat}{zs:List Int}(h:IY w W g cap n zs)(hbig:n<=17592186044416):Calls Tryz.prog 158 #[.slice (some ⟨g,0,none⟩) n cap] W λe W2=>e = .returned (.slice (some ⟨g,0,none⟩) (Lib.compact zs).length cap)/\IY w W2 g cap (Lib.compact zs).length (Lib.compact zs):=by
 obtain⟨hb,hg,cur,hcur,hcap,hmax,hsz,ht,rfl⟩:=h;refine(Any.slices_Compact_int GU g 0 cap zs W (holds_of_blockI hcur ht) (by omega) hcap).mono λe W2 ⟨he,q,hW⟩=>⟨he,?_⟩;subst hW;have hcl:=Lib.compact_length_le zs
 generalize Lib.compact zs=cs at hcl ⊢
 generalize hts:cs++List.replicate (zs.length-cs.length) (0:Int)=ts
 have htl:ts.length=zs.length:=by rw[<- hts,E6,Xe];omega
 have b2:=V6 (n:=q) (os:=#[]) (d:=ts.toArray) hb hg;have h2:=heap_sortedI (n:=q) (os:=#[]) ts.toArray hcur;rw[grow_empty]at b2 h2;have h3:=take_putCellsI cur ts (by omega);refine⟨b2,hg,_,h2,by omega,hmax,by simp[putCells,hsz],?_,rfl⟩;have:=B7 (List.take cs.length) h3;rw[List.take_take,Nat.min_eq_left (by omega),<- List.map_take,<- hts,List.take_left' rfl]at this;rw[<- hts];exact this
def dm(w w':World)(v:Value)(r:List Int):Prop:=
 (v = .slice none 0 0/\r=[])\/∃ g cap,v = .slice (some ⟨g,0,none⟩) r.length cap/\IY w w' g cap r.length r
set_option maxHeartbeats 4000000 in
set_option maxRecDepth 100000 in
theorem cu(a:Option Addr)(n c:Nat)(zs:List Int)(w:World)(hz:zs.length=n)(hn:a=none->n=0)(hbig:n<=17592186044416)
  (hc:0<n->∃ b off,a=some ⟨b,off,none⟩/\∀ j,j<n->w.cell? ⟨b,off+j,none⟩=some (.int .i64 (zs.getD j 0))) :
  Calls Tryz.prog 116 #[.slice a n c] w λe w'=>∃ v,e = .returned v/\Below w.heap.size w w'/\dm w w' v (Lib.compact (zs.mergeSort λx y=>decide (x<=y))):=by
 cases a with
 | none=>
  obtain rfl:=hn rfl;obtain rfl:zs=[]:=zzL103.1 hz
  have hr:Lib.compact (([]:List Int).mergeSort λx y=>decide (x<=y))=[]:=by simp[Lib.compact,Lib.compactUpTo]
  rw[hr];have h1:Calls Tryz.prog 156 #[.slice none 0 c] w λe w'=>e = .returned (.slice none 0 0)/\w'=w:=Any.slices_Clone_int_nil X2 0 c w;have h2:Calls Tryz.prog 157 #[.slice none 0 0] w λe w'=>e = .returned (.tuple #[])/\w'=w:=Any.slices_Sort_int_none UF none 0 w;have h3:Calls Tryz.prog 158 #[.slice none 0 0] w λe w'=>e = .returned (.slice none 0 0)/\w'=w:=Any.slices_Compact_int_empty GU none 0 w
  go_enter Tryz.func116,Tryz.ntmps116
  go_wp2_with (first
   | (go_at_call 156;refine h1.mono ?_;rintro e W ⟨rfl,rfl⟩)
   | (go_at_call 157;refine h2.mono ?_;rintro e W ⟨rfl,rfl⟩)
   | (go_at_call 158;refine h3.mono ?_;rintro e W ⟨rfl,rfl⟩))
  go_ret
  exact⟨_,rfl,Below.refl _ _,.inl ⟨rfl,rfl⟩⟩
 | some ad=>
  have h1:Calls Tryz.prog 156 #[.slice (some ad) n c] w λe W=>∃ g cap,e = .returned (.slice (some ⟨g,0,none⟩) n cap)/\IY w W g cap n zs:=by
   by_cases h0:n=0
   ·subst h0;obtain rfl:zs=[]:=zzL103.1 hz;exact ao ad c w
   ·obtain⟨b,off,hab,hcell⟩:=hc (by omega);obtain rfl:=OI hab;exact eK b off n c zs w hz hbig hcell
  go_enter Tryz.func116,Tryz.ntmps116
  go_wp2_with (first
   | (go_at_call 156;refine h1.mono ?_;rintro e W ⟨g,cap,rfl,hO⟩)
   | (go_at_call 157;refine(iY hO hbig).mono ?_;rintro e W2 ⟨rfl,hO2⟩)
   | (go_at_call 158;refine(WG hO2 hbig).mono ?_;rintro e W3 ⟨rfl,hO3⟩))
  go_ret
  exact⟨_,rfl,hO3.1,.inr ⟨_,_,rfl,hO3⟩⟩
def RF(x:Int):List Int->List Int
 | []=>[x]
 | y::l=>if x<=y then x::y::l else y::RF x l
def ba:List Int->List Int
 | []=>[]
 | x::l=>RF x (ba l)
theorem insI_perm(x:Int):∀ l,(RF x l).Perm (x::l)
 | []=>.refl _
 | y::l=>by
  unfold RF
  split
  ·exact .refl _
  ·exact((insI_perm x l).cons y).trans (.swap x y l)
theorem UC{x:Int}:∀{l:List Int},l.Pairwise (·<=·)->(RF x l).Pairwise (·<=·)
 | [],_=>by simp[RF]
 | y::l,h=>by
  have h':=zzL123.1 h;unfold RF
  split
  ·rename_i hxy
   exact zzL123.2 ⟨λz hz=>by
    rcases zzL23.1 hz with rfl|hz
    ·exact hxy
    ·exact Int.le_trans hxy (h'.1 z hz),h⟩
  ·rename_i hxy
   refine zzL123.2 ⟨λz hz=>?_,UC h'.2⟩;rcases zzL23.1 ((insI_perm x l).mem_iff.1 hz) with rfl|hz
   ·omega
   ·exact h'.1 z hz
theorem GT:∀ l,(ba l).Perm l
 | []=>.refl _
 | x::l=>(insI_perm x _).trans ((GT l).cons x)
theorem UE:∀ l,(ba l).Pairwise (·<=·)
 | []=>.nil
 | x::l=>UC (UE l)
theorem UD(l:List Int):ba l=l.mergeSort λx y=>decide (x<=y):=by
 refine List.Perm.eq_of_pairwise (le:=(·<=·)) (λa b _ _ h1 h2=>Int.le_antisymm h1 h2) (UE l) ?_ ((GT l).trans (List.mergeSort_perm l _).symm);have:=List.pairwise_mergeSort (le:=λ(x y:Int)=>decide (x<=y)) (λa b c h1 h2=>by simp at *;omega) (λa b=>by simp;omega) l
 exact this.imp λh=>by simpa using h
def Xd(l:List Int):Option (List Int):=Cw (l.length<=17592186044416) (some (Lib.compact (ba l)))
theorem SU(l r:List Int)(h:Xd l=some r):Spec Tryz.prog 116 [AV.list 1 (λx=>[.int .i64 x]) (0:Int) l .none] [] (AV.list 1 (λx=>[.int .i64 x]) (0:Int) r .none) []:=by
 obtain⟨hlen,h⟩:=M2 h;rw[UD]at h;obtain rfl:=OI h;refine⟨enters_of Tryz.func116 (by kernel_rfl) rfl,λw I θ zs hargs _ hval _=>?_⟩;obtain⟨v,rfl,hv⟩:=cQ hargs;obtain⟨_,a,cap,us,rfl,hcap,hmax,hz,hnn,h1,hl,hr⟩:=hv.slice_val.slice_inv
 have hint:∀ i,i<l.length->us i = .int .i64 (l.getD i 0):=λi hi=>by
  have:=hr i 0 hi (by omega);rw[Qv,K6]at this;have h2:RepV I w (us i) (.int .i64 (l.getD i 0)):=this;exact Rep.int_inv (own:=Ac []) (θ:=θ) (.val _ _ h2)
 refine(cu a l.length cap l w rfl (λha=>by have:=hnn ha;omega) hlen (λhp=>?_)).mono λe w' ⟨v,he,hb,hout⟩=>?_
 ·obtain⟨b,rfl,hs,_,hcell⟩:=hz hp;obtain⟨blk,off,spot⟩:=b;simp only at hs hcell;subst hs;exact⟨blk,off,rfl,λj hj=>by rw[hcell j (by omega),hint j hj]⟩
 ·generalize Lib.compact (l.mergeSort λx y=>decide (x<=y))=r at hout ⊢
  rcases hout with⟨rfl,rfl⟩|⟨g,cap',rfl,_,hg,cur,hcur,hc1,hc2,hc3,htake,_⟩
  ·exact⟨_,_,θ,he,Uh hb hval (N:=λ_ _=>False) (λ_ _ h=>h.elim),.val _ _ (.slice none 0 0 1 _ (λ_=>undef) (zzL8 _) (K7 _) (λh=>by cases h) (λ_=>rfl) (λj hj=>by simp at hj) (λi hi=>by cases hi) (λi c hi=>by cases hi))⟩
  ·have hcell:∀ j,j<r.length->w'.cell? ⟨g,j,none⟩=some (.int .i64 (r.getD j 0)):=λj hj=>by
    rw[J4 _ _ _ cur 3 (0,0) hcur]
    have h2:(cur.toList.take r.length)[j]?=(r.map (Value.int .i64))[j]?:=by rw[htake]
    rw[List.getElem?_take_of_lt hj,Array.getElem?_toList]at h2;rw[h2];simp[List.getD,hj]
   refine⟨_,_,θ,he,Uh hb hval (N:=λb o=>b=g/\o<r.length) (λb o ⟨hbg,ho⟩=>⟨by omega,by subst hbg;exact⟨_,hcell o ho⟩⟩),.val _ _ (.slice (some ⟨g,0,none⟩) r.length cap' 1 _ (λj=>.int .i64 (r.getD j 0)) hc1 hc2 (λ_=>⟨⟨g,0,none⟩,rfl,rfl,λj hj=>.inr ⟨rfl,by simpa using hj⟩,λj hj=>by rw[Fs];exact hcell j (by omega)⟩) (λh=>by cases h) (λ_ _=>rfl) (λ_ _=>rfl) (λi c hi hc=>?_))⟩
   obtain rfl:c=0:=by omega
   rw[Qv,K6];exact .int _ _
abbrev A1:=List Int
abbrev Nq:=List (List Int)
def Fc:=[30000,37006,9100005]
def Ue:=[(30000,30000),(37006,37006),(9100005,9100005)]
def Fe:=[30000,37006]
def Md:=[3,30000,37006,9100005]
def J6:=[2,5,6,25,36007]
def O3:=[6,30000,37006,9100005]
def PI:=[(30000,30000),(9100000,9100000),(9100001,9100001)]
def Nt:=[3,4,6,7,5700]
def AO:=[(30000,30000),(37006,37006)]
def J7:=[2,13,21]
def Kx:=[8,30000,37006]
def H2:=[1,7,8,9]
def Rl:=[30000,37006,13000005]
def Tc:=[3,4,6,7,5700,30000]
def K8:=[2,3,4,6,7]
def Xl:=[3,5,30000,37006,9100005]
def Xm:=[0,4,6,21,22,30,31,32]
def Xn:=[4,30000,9100000,9100001]
def U3:=[2,5,6,7,26,27,28]
def Zz:=[5,30000,37006,9100005]
def VA:=[0,2,3,8,9,16,17,18,54,55,56,62,63,64]
def VB:=[0,2,3,5,16,17,18,24,25,26,31,32,33]
def IE:=[4,7,30000,9100000,9100001]
def U4:=[2,5,6,7,8,9]
def IF:=[3,9,30000,37006,9100005]
def PD:=[3,7,10,11,12,17,18,19,25]
def Td:=[2,5,6,7,8]
def Te:=[1,3,4,5,6]
def PE:=[0,2,3,16,17,18,24,25,26]
def PF:=[0,2,3,16,17,18,54,55,56]
def Hb:=[0,1]
def dI:=[(30000,30000),(37006,37006),(13000005,9200005)]
def dJ:=[(30000,30000),(37006,37006),(9300005,9200005)]
def Ol:=[10,70010]
def VC:=[3,7,10,11,12,17,18,19,24,25]
def IG:=[1,2,7,8,9,10,11]
def Xo:=[3,10,11,12]
def PG:=[3,10,11,12,17,18,19]
def Z0:=[1,7,8,9,10]
def IH:=[3,31,30000,37006]
def AA:=[1,6,7,8,9]
def VD:=[3,4,11,12,13,18,19,20]
def VE:=[0,5,12,13,14,18,19,20]
def VF:=[6,7,30000,37006,9100005]
def EW:=[1,7,8,9,16]
def U5:=[0,21,22]
def II:=[31,30000,37006]
def IJ:=[2,3,4,6,7,8]
def PH:=[0,2,3,16,17,18]
def L3:=[7,8]
def dK:=[0,4,6,21,22,30,31,32,33]
def dL:=[0,4,6,21,22,30,31,32,40]
def IK:=[0,5,8,9,10]
def dM:=[0,4,6,8,21,22,30,31,32]
def dN:=[4,6,30000,9100000,9100001]
def hY:=[(30000,30000),(37006,37006),(8,9200005)]
def U6:=[2,5,6]
def IL:=[0,16,17,18]
def VG:=[2,5,6,7,8,9,10]
def dO:=[6,8,30000,37006,9100005]
def PJ:=[3,30000,37006]
def VH:=[2,4,5,18,19,20]
def IM:=[0,1,12,13]
def AB:=[0,1,10]
def PK:=[(30000,30000)]
def Pn:=[2,3]
def Po:=[6,7]
def dP:=[2,3,4,6,7,8,11,66]
def PL:=[3,11,12,13]
def PM:=[0,12,13,14]
def PN:=[6,18,19,25]
def dQ:=[2,3,4,6,7,8,9,10]
def Rm:=[4,5]
def IP:=[2,5,6,7]
def IQ:=[18,19,20]
def VI:=[14,17,10000305]
def U7:=[2,16]
def hZ:=[2,5,6,7,9,10,26,27,28,44]
def EX:=[1,4,22]
def dR:=[30000,37006,9300005]
def dS:=[2,3,4,6,7,8,11]
def VJ:=[0,1,3,9,10]
def dT:=[0,1,5,14,15,16]
def dU:=[2,3,4,6,7,8,9]
def h9:=[2,5,6,7,9,10,26,27,28]
def iA:=[4,5,30000,9100000,9100001]
def U8:=[0,3]
def PO:=[13,14,15]
def VK:=[0,15,16,17]
def VM:=[0,21,22,23]
def dV:=[2,3,4,6,7,37]
def iB:=[2,5,6,7,26,27,28,29]
def PP:=[5,18,19]
def PQ:=[6,18,19]
def Xp:=[1,2]
def IR:=[1,2,5]
def dW:=[1,2,15,16,17]
def iC:=[2,5,6,7,9,26,27,28]
def dX:=[0,1,32,33,34]
def iD:=[10,30000,37006,9100005]
def Y0:=[2,3,4]
def Y1:=[4,5,6]
def KW:=[2,5,6,25]
def dG:=[2,5,6,7,8,9,10,60]
def dH:=[4,30000,37006,9100005]
def TB:=[0,3,4,14,15]
def TC:=[0,4,6,21,22]
def KY:=[0,2,7,8]
def TD:=[(34001,34001)]
def Y2:=[18,19]
def KZ:=[3,7,8,9]
def TE:=[2,3,4,6,19]
def LA:=[3,4,6,7]
def LB:=[6,7,5700]
def TF:=[1,23,24,25]
def EU:=[0,1,2]
def EV:=[0,1,5]
def TG:=[3,38,39,40]
def TH:=[0,37,38,39]
def TI:=[0,6,21,22]
set_option maxRecDepth 100000
set_option maxHeartbeats 2000000
def Ay(x:Int):List AV:=[(.int .i64 x)]
def lp(x:Int):List AV:=[(.int .u64 x)]
structure Ah where
 V:Int
 Scale:Int
 deriving Inhabited,DecidableEq
def Dp(x:Ah):List AV:=[(.int .i64 x.V),(.int .u64 x.Scale)]
structure Aq where
 Terms:List Ah
 Off:Int
 deriving Inhabited,DecidableEq
def RB(x:Aq):List AV:=[(AV.list 2 Dp default x.Terms .none),(.int .u64 x.Off)]
def Hy(x:A1):List AV:=[(AV.list 1 Ay 0 x .none)]
structure Ce where
 Kind:Int
 Bits:Int
 Lanes:Int
 Dst:Int
 Args:A1
 Imm:Int
 deriving Inhabited,DecidableEq
def Py(x:Ce):List AV:=[(.int .i64 x.Kind),(.int .i64 x.Bits),(.int .i64 x.Lanes),(.int .i64 x.Dst),(AV.list 1 Ay 0 x.Args .none),(.int .u64 x.Imm)]
structure F8 where
 Bits:Int
 Dst:Int
 From:A1
 Args:A1
 deriving Inhabited,DecidableEq
def Wa(x:F8):List AV:=[(.int .i64 x.Bits),(.int .i64 x.Dst),(AV.list 1 Ay 0 x.From .none),(AV.list 1 Ay 0 x.Args .none)]
structure Ip where
 Kind:Int
 Arg:Int
 To:A1
 deriving Inhabited,DecidableEq
def bG(x:Ip):List AV:=[(.int .i64 x.Kind),(.int .i64 x.Arg),(AV.list 1 Ay 0 x.To .none)]
structure Ak where
 Phis:List F8
 Ops:List Ce
 End:Ip
 deriving Inhabited,DecidableEq
def Fg(x:Ak):List AV:=[(AV.list 4 Wa default x.Phis .none),(AV.list 6 Py default x.Ops .none),(.int .i64 x.End.Kind),(.int .i64 x.End.Arg),(AV.list 1 Ay 0 x.End.To .none)]
structure Ab where
 Params:A1
 Ret:Int
 Blocks:List Ak
 deriving Inhabited,DecidableEq
def Xy(x:Ab):List AV:=[(AV.list 1 Ay 0 x.Params .none),(.int .i64 x.Ret),(AV.list 5 Fg default x.Blocks .none)]
abbrev Gm:=(Int×Int)
def Bp(x:Gm):List AV:=[(.int .i64 x.1),(.int .i64 x.2)]
structure G1 where
 block:Int
 at_:Int
 deriving Inhabited,DecidableEq
def AY(x:G1):List AV:=[(.int .i64 x.block),(.int .i64 x.at_)]
structure A7 where
 v:Int
 shape:Gm
 place:G1
 deriving Inhabited,DecidableEq
def I6(x:A7):List AV:=[(.int .i64 x.v),(.int .i64 x.shape.1),(.int .i64 x.shape.2),(.int .i64 x.place.block),(.int .i64 x.place.at_)]
structure Cz where
 Succ:Nq
 Pred:Nq
 deriving Inhabited,DecidableEq
def Px(x:Cz):List AV:=[(AV.list 1 Hy [] x.Succ .none),(AV.list 1 Hy [] x.Pred .none)]
def eB(x:Bool):List AV:=[(.bool x)]
structure Aj where
 shape:Gm
 place:G1
 deriving Inhabited,DecidableEq
def Pz(x:Aj):List AV:=[(.int .i64 x.shape.1),(.int .i64 x.shape.2),(.int .i64 x.place.block),(.int .i64 x.place.at_)]
structure mQ where
 Scale:A1
 Off:Int
 deriving Inhabited,DecidableEq
structure TDef where
 V:Int
 Block:Int
 At:Int
 Shape:Gm
 deriving Inhabited,DecidableEq
structure Mk where
 V:Int
 Block:Int
 At:Int
 Shape:Gm
 deriving Inhabited,DecidableEq
structure lB where
 Op:List Ce
 Found:List Bool
 Form:List Aq
 deriving Inhabited,DecidableEq
theorem mix:Tryz.prog.follows .mixedOrders=true:=by kernel_rfl
abbrev sP:=Spec Tryz.prog
abbrev SV:=(Nat×Own)
theorem sG {f : FuncId} {fn : Func} {args : List AV} {H H' : List SV} {res : AV} (hf : Tryz.prog.funcs[f]? = some fn) (k : ∀ Γ : Gw, RgQ Tryz.prog Γ fn.ntmps H → GG Tryz.prog Γ (fK Tryz.prog Γ fn.results.toList H res H') (ei (JJ fn) []) (X1 args H)) (hb : fn.body.isSome = true := by kernel_rfl) (hname : (fn.name == "runtime.NumGoroutine") = false := by kernel_rfl) (hlen : Nat.ble args.length fn.ntmps = true := by kernel_rfl) (hpl : DQ H = true := by kernel_rfl) : sP f args H res H' := Yn mix hf k hb hname hlen hpl
def Z1:=λza zb zc zd zf zg zm=>((30000,.row 110 [(AV.list 1 Ay 0 za .none),(.int .i64 zb),(AV.list 5 Fg default zc .none),(.int .i64 zd),(AV.list 1 Ay 0 zf .none),(.omap zg),(AV.list 5 I6 default zm (.own 37006))]):Nat×Own)
def Z2:=λza=>(⟨[],[],(.bool za),[],[],[]⟩:Ry)
def Z3:=λza zb zc zd zf zg zm=>([(30000,.row 110 [(AV.list 1 Ay 0 za .none),(.int .i64 zb),(AV.list 5 Fg default zc .none),(.int .i64 zd),(AV.list 1 Ay 0 zf .none),.nilm,(AV.list 5 I6 default zg (.own 37006))]),(37006,.tok 5 195 zm)]:List SV)
def Z4:=λza (zb:A1)=>((za,.arr 1 3 zb.length (λi=>Ay (zb.getD i 0))):Nat×Own)
def Z5:=λza=>((AV.list 2 Bp ((0:Int),(0:Int)) za .none):AV)
def Z6:=λza zb=>([(AV.list 2 Dp default za .none),(.int .u64 zb)]:List AV)
def Z7:=λza=>((.int .i64 za):AV)
def Z8:=λza=>((37006,.tok 5 195 za):Nat×Own)
def Z9:=([(.slice 0 0 (λ_=>[]) .exact),(.int .u64 (0:Int))]:List AV)
def Pp:=λza=>((AV.list 1 Ay 0 za .none):AV)
def PT:=((30000,.row 80 [(.omap 9100000),(.omap 9100001)]):Nat×Own)
def j0:=λza zb zc zd zf zg zm zn=>(⟨[(30000,30000),(37006,37006),(9100005,9100005)],[],(.tuple []),[(Z1 za zb zc zd zf 9100005 zg),(Z8 zm),(9100005,.obj (.map false .i64 zn))],[],[]⟩:Ry)
def ZF:=((AV.list 2 Dp default ([]:List Ah) .exact):AV)
def Nv:=((.int .i64 (0:Int)):AV)
def d8:=λza zb=>([(10,.arr 1 33 za (L9 1 Ay (0:Int) zb (Tag.fam 70010)))]:List SV)
def lC:=λza (zb:A1) (zc:A1)=>((.slice 1 (bif za then zb.length else zc.length) (λi=>bif za then Ay (zb.getD i 0) else Ay (zc.getD i 0)) .none):AV)
def Mu:=λza=>((.agg (RB za)):AV)
def j4:=λza zb zc zd zf zg=>((30000,.row 110 [(Pp za),(Z7 zb),(AV.list 5 Fg default zc .none),(Z7 zd),(Pp zf),(.omap 8),(AV.list 5 I6 default zg (.own 37006))]):Nat×Own)
def O6:=λza=>((.agg (Pz za)):AV)
def jV:=λza zb=>(⟨[],[],(.tuple [(.int .u64 za),(AV.list 2 Dp default zb .none)]),[],[],[]⟩:Ry)
def Vy:=((.int .u64 (0:Int)):AV)
def j5:=λza zb zc zd zf zg zm zn zp=>([(Z1 za zb zc zd zf zg zm),(Z8 zn),(zg,.obj (.map false .i64 zp))]:List SV)
def PU:=λza=>((AV.list 1 Hy [] za .none):AV)
def lg:=λza (zb:List A7) (zc:List A7)=>((.slice 5 (bif za then zb.length else zc.length) (λi=>bif za then I6 (zb.getD i default) else I6 (zc.getD i default)) (.own 37006)):AV)
def J8:=λza=>((.int .u64 za):AV)
def YK:=λza=>((AV.list 5 Fg default za .none):AV)
def gG:=λza zb=>((.agg (Pz (mget (default:Aj) za zb))):AV)
def QH:=((.slice 0 0 (λ_=>[]) .exact):AV)
def gH:=((AV.list 1 Ay 0 ([]:A1) .exact):AV)
def mR:=λza zb zc zd zf zg=>(⟨[(2,(.clo za [] [])),(3,(.ptr 3 0)),(4,(.ptr 4 0)),(6,(.ptr 6 0)),(7,(.ptr 7 0))],[(3,.row 25 (Z6 zb zc)),(4,.row 25 (Z6 zd zf)),(6,.row 25 Z9),(7,.row 25 [(AV.list 2 Dp default ([]:List Ah) (.own 5700)),(J8 zg)]),(5700,.tok 2 51 (([]:List Ah).length))],[]⟩:St)
def JD:=λza zb zc zd zf zg zm=>([(Z1 za zb zc zd zf 9100005 zg),(Z8 zm)]:List SV)
def PV:=λza zb=>((AV.list 1 Ay 0 za (.own zb)):AV)
def iJ:=((AV.list 2 Dp default ([]:List Ah) .none):AV)
def VT:=λza=>(⟨[],[],(Z5 za),[],[],[]⟩:Ry)
def jW:=λza zb=>((7,.row 25 [(AV.list 2 Dp default za (.own 5700)),(J8 zb)]):Nat×Own)
def LC:=λza=>((.int .i64 (za:Int)):AV)
def lD:=((AV.list 2 Bp ((0:Int),(0:Int)) ([]:List Gm) .exact):AV)
def VU:=λza=>(⟨[],[],(Z7 za),[],[],[]⟩:Ry)
def ZG:=λza=>(⟨[],[],(Mu za),[],[],[]⟩:Ry)
def Vz:=λza=>((.agg (Py za)):AV)
def lh:=λza zb zc zd zf zg zm zn zp=>(⟨[(30000,30000),(37006,37006),(9100005,9100005)],[],(.agg (AY za)),(j5 zb zc zd zf zg 9100005 zm zn zp),[],[]⟩:Ry)
def mS:=λza (zb:List Ak) (zc:List Ak)=>((.slice 5 (bif za then zb.length else zc.length) (λi=>bif za then Fg (zb.getD i default) else Fg (zc.getD i default)) .none):AV)
def TO:=λza=>((30000,.row 23 [(J8 za)]):Nat×Own)
def BR:=λza=>((.agg (Bp za)):AV)
def jX:=λza=>((AV.list 1 Ay 0 ([za]:A1) .exact):AV)
def YL:=((.int .i64 (1:Int)):AV)
def li:=λza zb zc zd zf zg zm zn zp=>(⟨[(30000,30000),(37006,37006),(9100005,9100005)],[],(.bool za),(j5 zb zc zd zf zg 9100005 zm zn zp),[],[]⟩:Ry)
def Xq:=((.ptr 30000 0):AV)
def YM:=λza zb=>((za,.obj (.map true .i64 zb)):Nat×Own)
def LD:=((2,(.ptr 2 0)):Nat×AV)
def mT:=λza (zb:A1) (zc:A1)=>((.slice 1 (bif (za==true) then zb.length else zc.length) (λi=>bif (za==true) then Ay (zb.getD i 0) else Ay (zc.getD i 0)) .none):AV)
def lE:=λza zb zc zd zf zg zm zn=>(⟨[(30000,30000),(37006,37006)],[],(.bool za),(Z3 zb zc zd zf zg zm zn),[],[]⟩:Ry)
def lj:=λ(za:List Gm)=>([(30,.arr 2 73 za.length (λi=>Bp (za.getD i ((0:Int),(0:Int)))))]:List SV)
def mU:=λza zb zc zd zf zg zm=>(⟨[(2,(.clo za [] [])),(3,(.ptr 3 0)),(4,(.ptr 4 0)),(6,(.ptr 6 0)),(7,(.ptr 7 0))],[(3,.row 25 (Z6 zb zc)),(4,.row 25 (Z6 zd zf)),(6,.row 25 Z9),(7,.row 25 [zg,(J8 zm)])],[]⟩:St)
abbrev g9:=(Nat×AV)
def lk:=λza zb=>([(72,(AV.list 2 Dp default za .exact)),(73,(AV.list 2 Dp default (zb++za) (.own 5700)))]:List g9)
def j6:=λ(za:A1)=>((6,.arr 1 208 64 (λi=>Ay (za.getD i 0))):Nat×Own)
def gM:=λza zb zc=>((.int .i64 (bif za then zb else zc)):AV)
def de:=((.int .i64 (2:Int)):AV)
def ZH:=((6,(.vpt 6 64 0 0)):Nat×AV)
def PW:=((6,(.ptr 6 0)):Nat×AV)
def Z61:=(⟨[(4,(AV.list 1 Ay 0 ([]:A1) (.own 6004)))],[(6004,.tok 1 3 (([]:A1).length))],[]⟩:St)
def j7:=λza=>((AV.list 2 Dp default za .none):AV)
def ll:=λza zb=>(⟨[(30000,30000),(37006,37006)],[],(Z7 za),zb,[],[]⟩:Ry)
def ZI:=((5,(.vpt 5 64 0 0)):Nat×AV)
def VV:=((4,(.ptr 4 0)):Nat×AV)
def YN:=λza=>((6,.arr 1 208 64 za):Nat×Own)
def ZJ:=λza=>((5,.arr 1 207 64 za):Nat×Own)
def LE:=λza=>((2,.row 99 za):Nat×Own)

abbrev kl:=(LR (Int×Int) Int)
def Kh(a3:Ab):Gm->Option kl:=
 λ((i1,i2):Gm)=>(bif (decide (i2<(a3.Blocks.length:Int))) then(Cw (Cd i2 a3.Blocks.length) (some (.next ((Bd (i1+(Bd ((((a3.Blocks.getD i2.toNat default).Phis).length:Int)+(((a3.Blocks.getD i2.toNat default).Ops).length:Int))))),(Bd (i2+1)))))) else(some (.done i1)))
def N5(a3:Ab):Option Int:=
 ((Ai (Kh a3) ((a3.Blocks.length:Int),(0:Int))).bind (λx5=>(some x5)))
variable{v0:Ab}{v1:Int}
theorem KB(h:N5 v0=some v1):sP 106 [(.agg (Xy v0))] [] (.int .i64 v1) []:=
 sG Tryz.func106 λΓ q=>tW q [1] [1] [1,3] [1] (Ap q Xo [] (tL q h Xo [] (λu (i1,i2)=>(Fq u [(3,(Z7 i1)),(12,(Z7 i2))] [])) (λu i3=>aG Γ (.exit 0) (⟨[(3,(Z7 i3))],[],[]⟩:St)) (λ⟨i1,i2⟩ y h=>Ap q [3,10,11,12,13] [] (gC h (λh=>tV q [3,5,10,11,12] [5] h λh=>tW q Xo [] Xo [] (tN h)) λh=>tS h (gO (Dz (Du [3] [] q))))) λx5 h=>gA (Ap q [2] [] (tS h (De [])))))
def Gi(aA:A1):Int->Option (LR Int (Unit ⊕ Bool)):=
 λ(i1:Int)=>(bif (decide (i1<(aA.length:Int))) then(Cw (Cd i1 aA.length) (bif (bif (decide ((aA.getD i1.toNat 0)<0)) then true else(decide ((2147483647:Int)<(aA.getD i1.toNat 0)))) then(some (.done (.inr false))) else(some (.next (Bd (i1+1)))))) else(some (.done (.inl ()))))
def V2(Γ:Gw)(aA:A1)(r:Bool):Exit->St->Prop:=fK Tryz.prog Γ Tryz.f107.results.toList [] (.bool r) []
def Cx(aA:A1):Option Bool:=
 ((Ai (Gi aA) (0:Int)).bind (λx3=>(match x3 with|(.inl _)=>(some true)|(.inr r5)=>(some r5))))
variable{v2:A1}{v3:Bool}
theorem Ej(h:Cx v2=some v3):sP 107 [(Pp v2)] [] (.bool v3) []:=
 sG Tryz.func107 λΓ q=>tW q [0] [] [5,6,7] [] (tL q h [5,6,7] [] (λu i1=>(Fq u [(7,(Z7 i1))] [])) (λu x_=>match x_ with|(.inl _)=>aG Γ (.exit 0) (⟨[],[],[]⟩:St)|(.inr r_)=>aR (V2 Γ v2 r_)) (λi1 y h=>Ap q [5,6,7,8] [] (gC h (λh=>tV q [4,5,6,7] [] h λh=>tU q [5,6,7,16] [] (c2 (gI ((decide ((v2.getD i1.toNat 0)<0))==false)) (X0 (decide ((v2.getD i1.toNat 0)<0)))) (gC h (λh=>Ap q [2] [] (tS h (gO (R4 (Kz [] (Le.refl _ _)))))) λh=>Ap q [5,6,7] [] (tN h))) λh=>tS h (gO (Dz (Du [] [] q))))) λx3 h=>(match x3,h with | .inl _,h=>gA (Ap q [2] [] (tS h (De []))) | .inr r5,h=>Wf (λst' hk=>tS h (gK hk))))
def E8(aA:A1):Option Bool:=
 ((bif ((decide ((aA.length:Int)<=64))==true) then Cx aA else some false).bind λx1=>(some (bif (decide ((aA.length:Int)<=64)) then x1 else false)))
theorem Iz(h:E8 v2=some v3):sP 179 [(Pp v2)] [] (.bool v3) []:=
 sG Tryz.func179 λΓ q=>Ap q [0] [] (tB h λx1 y1 h=>tT q [2] [] [(Z2 x1)] (c3 (gI ((decide ((v2.length:Int)<=64))==true)) (λ(hg:((decide ((v2.length:Int)<=64))==true)=true)=>(Ej (Bs hg y1))) (M5 (decide ((v2.length:Int)<=64)))) (tS h (De [])))
def Kj(aT:F8):Option Bool:=
 ((Cx ([aT.Bits,aT.Dst]:A1)).bind λx1=>((bif (x1==true) then E8 aT.From else some false).bind λx2=>((bif ((bif x1 then x2 else false)==true) then E8 aT.Args else some false).bind λx3=>(some (bif (bif x1 then x2 else false) then x3 else false)))))
variable{v4:F8}
theorem AH(h:Kj v4=some v3):sP 150 [(.agg (Wa v4))] [] (.bool v3) []:=
 sG Tryz.func150 λΓ q=>Ap q [1] [1] (tB h λx1 y1 h=>tB h λx2 y2 h=>tB h λx3 y3 h=>gR q [2] [] [(7,(AV.list 1 Ay 0 ([v4.Bits,v4.Dst]:A1) .exact))] [(Z2 x1),(Z2 x2),(Z2 x3)] (YO (Bu 1 Ay (0:Int) ([v4.Bits,v4.Dst]:A1)) (Ej y1) (Uj (x1==true) (YO (λ(hg:(x1==true)=true)=>(Iz (Bs hg y2))) (M5 x1) (Uj ((bif x1 then x2 else false)==true) (c2 (λ(hg:((bif x1 then x2 else false)==true)=true)=>(Iz (Bs hg y3))) (M5 (bif x1 then x2 else false))))))) (tS h (De [])))
def Er(aA:List F8):Int->Option (LR Int (Unit ⊕ Bool)):=
 λ(i1:Int)=>(bif (decide (i1<(aA.length:Int))) then(Cw (Cd i1 aA.length) ((Kj (aA.getD i1.toNat default)).bind λx3=>(bif (!x3) then(some (.done (.inr false))) else(some (.next (Bd (i1+1))))))) else(some (.done (.inl ()))))
def Ro(Γ:Gw)(aA:List F8)(r:Bool):Exit->St->Prop:=fK Tryz.prog Γ Tryz.f149.results.toList [] (.bool r) []
def F2(aA:List F8):Option Bool:=
 ((Ai (Er aA) (0:Int)).bind (λx4=>(match x4 with|(.inl _)=>(some true)|(.inr r6)=>(some r6))))
variable{v5:List F8}
theorem Qm(h:F2 v5=some v3):sP 149 [(AV.list 4 Wa default v5 .none),(.clo 150 [] [])] [] (.bool v3) []:=
 sG Tryz.func149 λΓ q=>tW q Hb [] H2 [] (tL q h H2 [] (λu i1=>(Fq u [(9,(Z7 i1))] [])) (λu x_=>match x_ with|(.inl _)=>aG Γ (.exit 0) (⟨[],[],[]⟩:St)|(.inr r_)=>aR (Ro Γ v5 r_)) (λi1 y h=>Ap q Z0 [] (gC h (λh=>tV q AA [6] h λh=>tB h λx3 y3 h=>tT q EW [] [(Z2 x3)] (c1 (AH y3)) (gC h (λh=>Ap q [4] [] (tS h (gO (R4 (Kz [] (Le.refl _ _)))))) λh=>Ap q H2 [] (tN h))) λh=>tS h (gO (Dz (Du [] [] q))))) λx4 h=>(match x4,h with | .inl _,h=>gA (Ap q [4] [] (tS h (De []))) | .inr r6,h=>Wf (λst' hk=>tS h (gK hk))))
def Lq(a1:Ce):Option Bool:=
 ((Cx ([a1.Kind,a1.Bits,a1.Lanes,a1.Dst]:A1)).bind λx1=>((bif (x1==true) then E8 a1.Args else some false).bind λx2=>(some (bif x1 then x2 else false))))
variable{v6:Ce}
theorem DC(h:Lq v6=some v3):sP 152 [(Vz v6)] [] (.bool v3) []:=
 sG Tryz.func152 λΓ q=>Ap q [1] [1] (tB h λx1 y1 h=>tB h λx2 y2 h=>gR q [2] [] [(11,(AV.list 1 Ay 0 ([v6.Kind,v6.Bits,v6.Lanes,v6.Dst]:A1) .exact))] [(Z2 x1),(Z2 x2)] (YO (Bu 1 Ay (0:Int) ([v6.Kind,v6.Bits,v6.Lanes,v6.Dst]:A1)) (Ej y1) (Uj (x1==true) (c2 (λ(hg:(x1==true)=true)=>(Iz (Bs hg y2))) (M5 x1)))) (tS h (De [])))
def E4(aA:List Ce):Int->Option (LR Int (Unit ⊕ Bool)):=
 λ(i1:Int)=>(bif (decide (i1<(aA.length:Int))) then(Cw (Cd i1 aA.length) ((Lq (aA.getD i1.toNat default)).bind λx3=>(bif (!x3) then(some (.done (.inr false))) else(some (.next (Bd (i1+1))))))) else(some (.done (.inl ()))))
def R0(Γ:Gw)(aA:List Ce)(r:Bool):Exit->St->Prop:=fK Tryz.prog Γ Tryz.f151.results.toList [] (.bool r) []
def Gh(aA:List Ce):Option Bool:=
 ((Ai (E4 aA) (0:Int)).bind (λx4=>(match x4 with|(.inl _)=>(some true)|(.inr r6)=>(some r6))))
variable{v7:List Ce}
theorem Rv(h:Gh v7=some v3):sP 151 [(AV.list 6 Py default v7 .none),(.clo 152 [] [])] [] (.bool v3) []:=
 sG Tryz.func151 λΓ q=>tW q Hb [] H2 [] (tL q h H2 [] (λu i1=>(Fq u [(9,(Z7 i1))] [])) (λu x_=>match x_ with|(.inl _)=>aG Γ (.exit 0) (⟨[],[],[]⟩:St)|(.inr r_)=>aR (R0 Γ v7 r_)) (λi1 y h=>Ap q Z0 [] (gC h (λh=>tV q AA [6] h λh=>tB h λx3 y3 h=>tT q EW [] [(Z2 x3)] (c1 (DC y3)) (gC h (λh=>Ap q [4] [] (tS h (gO (R4 (Kz [] (Le.refl _ _)))))) λh=>Ap q H2 [] (tN h))) λh=>tS h (gO (Dz (Du [] [] q))))) λx4 h=>(match x4,h with | .inl _,h=>gA (Ap q [4] [] (tS h (De []))) | .inr r6,h=>Wf (λst' hk=>tS h (gK hk))))
def Ki(aE:Ip):Option Bool:=
 ((Cx ([aE.Kind,aE.Arg]:A1)).bind λx1=>((bif (x1==true) then E8 aE.To else some false).bind λx2=>(some (bif x1 then x2 else false))))
variable{v8:Ip}
theorem AG(h:Ki v8=some v3):sP 153 [(.agg (bG v8))] [] (.bool v3) []:=
 sG Tryz.func153 λΓ q=>Ap q [1] [1] (tB h λx1 y1 h=>tB h λx2 y2 h=>gR q [2] [] [(7,(AV.list 1 Ay 0 ([v8.Kind,v8.Arg]:A1) .exact))] [(Z2 x1),(Z2 x2)] (YO (Bu 1 Ay (0:Int) ([v8.Kind,v8.Arg]:A1)) (Ej y1) (Uj (x1==true) (c2 (λ(hg:(x1==true)=true)=>(Iz (Bs hg y2))) (M5 x1)))) (tS h (De [])))
def Iv(aJ:Ak):Option Bool:=
 ((F2 aJ.Phis).bind λx1=>((bif (x1==true) then Gh aJ.Ops else some false).bind λx2=>((bif ((bif x1 then x2 else false)==true) then Ki (⟨aJ.End.Kind,aJ.End.Arg,aJ.End.To⟩:Ip) else some false).bind λx3=>(some (bif (bif x1 then x2 else false) then x3 else false)))))
variable{v9:Ak}
theorem Ww(h:Iv v9=some v3):sP 109 [(.agg (Fg v9))] [] (.bool v3) []:=
 sG Tryz.func109 λΓ q=>Ap q [1] [1] (tB h λx1 y1 h=>tB h λx2 y2 h=>tB h λx3 y3 h=>tT q [2] [] [(Z2 x1),(Z2 x2),(Z2 x3)] (ci (Qm y1) (Uj (x1==true) (YO (λ(hg:(x1==true)=true)=>(Rv (Bs hg y2))) (M5 x1) (Uj ((bif x1 then x2 else false)==true) (c2 (λ(hg:((bif x1 then x2 else false)==true)=true)=>(AG (Bs hg y3))) (M5 (bif x1 then x2 else false))))))) (tS h (De [])))
def D5(aA:List Ak):Int->Option (LR Int (Unit ⊕ Bool)):=
 λ(i1:Int)=>(bif (decide (i1<(aA.length:Int))) then(Cw (Cd i1 aA.length) ((Iv (aA.getD i1.toNat default)).bind λx3=>(bif (!x3) then(some (.done (.inr false))) else(some (.next (Bd (i1+1))))))) else(some (.done (.inl ()))))
def O5(Γ:Gw)(aA:List Ak)(r:Bool):Exit->St->Prop:=fK Tryz.prog Γ Tryz.f108.results.toList [] (.bool r) []
def E3(aA:List Ak):Option Bool:=
 ((Ai (D5 aA) (0:Int)).bind (λx4=>(match x4 with|(.inl _)=>(some true)|(.inr r6)=>(some r6))))
variable{v10:List Ak}
theorem Oz(h:E3 v10=some v3):sP 108 [(YK v10),(.clo 109 [] [])] [] (.bool v3) []:=
 sG Tryz.func108 λΓ q=>tW q Hb [] H2 [] (tL q h H2 [] (λu i1=>(Fq u [(9,(Z7 i1))] [])) (λu x_=>match x_ with|(.inl _)=>aG Γ (.exit 0) (⟨[],[],[]⟩:St)|(.inr r_)=>aR (O5 Γ v10 r_)) (λi1 y h=>Ap q Z0 [] (gC h (λh=>tV q AA [6] h λh=>tB h λx3 y3 h=>tT q EW [] [(Z2 x3)] (c1 (Ww y3)) (gC h (λh=>Ap q [4] [] (tS h (gO (R4 (Kz [] (Le.refl _ _)))))) λh=>Ap q H2 [] (tN h))) λh=>tS h (gO (Dz (Du [] [] q))))) λx4 h=>(match x4,h with | .inl _,h=>gA (Ap q [4] [] (tS h (De []))) | .inr r6,h=>Wf (λst' hk=>tS h (gK hk))))
def Q2(a3:Ab):=(decide ((a3.Blocks.length:Int)<1))
def Q1(a3:Ab):=(decide ((16:Int)<(a3.Params.length:Int)))
def Qa(a3:Ab):Option Bool:=
 (bif (bif (decide ((a3.Blocks.length:Int)<1)) then true else(decide ((64:Int)<(a3.Blocks.length:Int)))) then(some false) else((bif ((decide ((16:Int)<(a3.Params.length:Int)))==false) then N5 a3 else some (0:Int)).bind λx1=>(bif (bif (decide ((16:Int)<(a3.Params.length:Int))) then true else(decide ((512:Int)<x1))) then(some false) else((Cx a3.Params).bind λx2=>((bif (x2==true) then Cx ([a3.Ret]:A1) else some false).bind λx3=>((bif ((bif x2 then x3 else false)==true) then E3 a3.Blocks else some false).bind λx4=>(some (bif (bif x2 then x3 else false) then x4 else false))))))))
theorem NO(h:Qa v0=some v3):sP 75 [(.agg (Xy v0))] [] (.bool v3) []:=
 sG Tryz.func75 λΓ q=>Ap q [1] [1] (tU q [1,12] [1] (bQ ((Q2 v0)==false) (c1 (X0 (Q2 v0)))) (gC h (λh=>Ap q [2] [] (tS h (De []))) λh=>tB h λx1 y1 h=>tT q [1,21] [1] [(VU x1)] (c4 (gI ((Q1 v0)==false)) (λ(hg:((Q1 v0)==false)=true)=>(KB (Bs hg y1))) (gI ((Q1 v0)==false)) (X0 (Q1 v0))) (gC h (λh=>Ap q [2] [] (tS h (De []))) λh=>tB h λx2 y2 h=>tB h λx3 y3 h=>tB h λx4 y4 h=>gR q [2] [] [(28,(jX v0.Ret))] [(Z2 x2),(Z2 x3),(Z2 x4)] (ci (Ej y2) (Uj (x2==true) (mf (show((x2==true)=true->(AVle (.slice 1 1 (λi=>([[(Z7 v0.Ret)]]:List (List AV)).getD i []) .exact) (jX v0.Ret))) from(λhg=>@(Bu 1 Ay (0:Int) ([v0.Ret]:A1)))) (gI (x2==true)) (λ(hg:(x2==true)=true)=>(Ej (Bs hg y3))) (M5 x2) (Uj ((bif x2 then x3 else false)==true) (c2 (λ(hg:((bif x2 then x3 else false)==true)=true)=>(Oz (Bs hg y4))) (M5 (bif x2 then x3 else false))))))) (tS h (De [])))))
def Ia(aa8:Bool)(aE:Int):Option Int:=
 (bif aa8 then(some (0:Int)) else(some aE))
variable{v11:Int}
theorem Rd(h:Ia v3 v1=some v11):sP 122 [(.bool v3),(Z7 v1)] [] (.int .i64 v11) []:=
 sG Tryz.func122 λΓ q=>tW q Hb [] [1,5] [] (gC h (λh=>Ap q [4] [] (tS h (De []))) λh=>Ap q [4] [] (tS h (De [])))
abbrev YD:=(Int×Ab×Int×A1×List A7)
def Gf(a0:Ab)(a4:Int)(a9:A1)(a5:List A7):Option YD:=
 ((Qa a0).bind λx1=>((Ia x1 (4:Int)).bind λx2=>(some (x2,a0,a4,a9,a5))))
variable{v12:List A7}{v13:YD}
theorem Rs(h:Gf v0 v1 v2 v12=some v13):sP 91 [Xq] (Z3 v0.Params v0.Ret v0.Blocks v1 v2 v12 v12.length) (Z7 v13.1) (Z3 v13.2.1.Params v13.2.1.Ret v13.2.1.Blocks v13.2.2.1 v13.2.2.2.1 v13.2.2.2.2 v13.2.2.2.2.length):=
 sG Tryz.func91 λΓ q=>Ap q [0] Fe (tB h λx1 y1 h=>tB h λx2 y2 h=>tT q [2] Fe [(Z2 x1),(VU x2)] (c2 (NO y1) (Rd y2)) (tS h (De AO)))
def Hp(aI:Int):Option Bool:=
 (some (bif (decide ((1:Int)<=aI)) then(decide (aI<=64)) else false))
theorem Pc(h:Hp v1=some v3):sP 114 [(Z7 v1)] [] (.bool v3) []:=
 sG Tryz.func114 λΓ q=>Ap q [0] [] (tU q [2] [] (c2 (gI ((decide ((1:Int)<=v1))==true)) (M5 (decide ((1:Int)<=v1)))) (tS h (De [])))
def F6(aK:Int)(aI:Int):Option Bool:=
 (some (bif (decide ((0:Int)<=aK)) then(decide (aK<aI)) else false))
theorem Lk(h:F6 v1 v11=some v3):sP 155 [(Z7 v1),(Z7 v11)] [] (.bool v3) []:=
 sG Tryz.func155 λΓ q=>Ap q Hb [] (tU q [4] [] (Uj ((decide ((0:Int)<=v1))==true) (c1 (M5 (decide ((0:Int)<=v1))))) (tS h (De [])))
def B2(aE:Ip)(aI:Int):Int->Option (LR Int (Unit ⊕ Bool)):=
 λ(i7:Int)=>(bif (decide (i7<(aE.To.length:Int))) then(Cw (Cd i7 aE.To.length) ((bif (((aE.To.getD i7.toNat 0)==0)==false) then F6 (aE.To.getD i7.toNat 0) aI else some false).bind λx9=>(bif (bif ((aE.To.getD i7.toNat 0)==0) then true else(!x9)) then(some (.done (.inr false))) else(some (.next (Bd (i7+1))))))) else(some (.done (.inl ()))))
def Qw(Γ:Gw)(aE:Ip)(aI:Int)(r:Bool):Exit->St->Prop:=fK Tryz.prog Γ Tryz.f115.results.toList [] (.bool r) []
def Q3(aE:Ip)(i7:Int):=((aE.To.getD i7.toNat 0)==0)
def Jl(aE:Ip)(aI:Int):Option Bool:=
 (Option.bind (α:=(Int ⊕ Bool)) (Option.bind (α:=Bool) (bif (aE.Kind==0) then(some (aE.Kind==0)) else(some (aE.Kind==3))) (λx3=>(bif x3 then(some (.inl (0:Int))) else(bif (aE.Kind==1) then(some (.inl (1:Int))) else(bif (aE.Kind==2) then(some (.inl (2:Int))) else(some (.inr false))))))) (λx5=>(match x5 with|(.inl i1)=>(bif ((aE.To.length:Int)!=i1) then(some false) else((Ai (B2 aE aI) (0:Int)).bind (λx10=>(match x10 with|(.inl _)=>(some true)|(.inr r12)=>(some r12)))))|(.inr r13)=>(some r13))))
theorem Yi(h:Jl v8 v1=some v3):sP 115 [(.agg (bG v8)),(Z7 v1)] [] (.bool v3) []:=
 sG Tryz.func115 λΓ q=>tW q Xp [2] IR [2] (tB h λx5 y5 h=>gJ y5 (λx_=>match x_ with|(.inl i1)=>aG Γ .normal (⟨[(1,(Z7 v1)),LD,(5,(Z7 i1))],[(2,.row 46 [(Z7 v8.Kind),(Z7 v8.Arg),(Pp v8.To)])],[]⟩:St)|(.inr r_)=>aR (Qw Γ v8 v1 r_)) (λy h=>Ap q [1,2,5,9] [2] (tB h λx3 y3 h=>gJ y3 (λb2=>aG Γ .normal (⟨[(1,(Z7 v1)),LD,(5,Nv),(9,(Z7 v8.Kind)),(10,(.bool b2))],[(2,.row 46 [(Z7 v8.Kind),(Z7 v8.Arg),(Pp v8.To)])],[]⟩:St)) (λy h=>Ap q [1,2,5,9,10] [2] (gC h (λh=>tS h (gK (Dz Mx))) λh=>Ap q [1,2,5,9,10] [2] (tS h (gK (Dz Mx))))) (gA (gC h (λh=>tS h (gK (Dz (Du IR [2] q)))) λh=>Ap q [1,2,9,13] [2] (gC h (λh=>Ap q IR [2] (tS h (gK (Dz Mx)))) λh=>Ap q [1,2,15] [2] (gC h (λh=>Ap q IR [2] (tS h (gK (Dz Mx)))) λh=>Ap q [4] [] (tS h (gK (R4 (Kz [] (Le.refl _ _))))))))))) (match x5,h with | .inl i1,h=>gA (Ap q [1,2,21] [2] (gC h (λh=>Ap q [4] [] (tS h (De []))) λh=>Ap q TF [] (tL q h TF [] (λu i7=>(Fq u [(25,(Z7 i7))] [])) (λu x_=>match x_ with|(.inl _)=>aG Γ (.exit 1) (⟨[],[],[]⟩:St)|(.inr r_)=>aR (Qw Γ v8 v1 r_)) (λi7 y h=>Ap q [1,23,24,25,26] [] (gC h (λh=>tV q [1,7,23,24,25] [] h λh=>tB h λx9 y9 h=>tT q [1,23,24,25,36] [] [(Z2 x9)] (Uj ((Q3 v8 i7)==false) (c3 (λ(hg:((Q3 v8 i7)==false)=true)=>(Lk (Bs hg y9))) (gI ((Q3 v8 i7)==false)) (X0 (Q3 v8 i7)))) (gC h (λh=>Ap q [4] [] (tS h (gO (R4 (Kz [] (Le.refl _ _)))))) λh=>Ap q TF [] (tN h))) λh=>tS h (gO (Dz (Du [] [] q))))) λx10 h=>(match x10,h with | .inl _,h=>gA (Ap q [4] [] (tS h (De []))) | .inr r12,h=>Wf (λst' hk=>tS h (gK hk)))))) | .inr r13,h=>Wf (λst' hk=>tS h (gK hk))))
abbrev jb:=(Int×Nq)
def D6(aB:Nq)(i2:Int):jb->Option (LR (Int×Nq) Nq):=
 λ((i6,l7):jb)=>(bif (decide (i6<((aB.getD i2.toNat []).length:Int))) then(Cw (Cd i6 (aB.getD i2.toNat []).length) (Cw (Cd ((aB.getD i2.toNat []).getD i6.toNat 0) l7.length) (Cw (Cd ((aB.getD i2.toNat []).getD i6.toNat 0) l7.length) (Cw ((l7.getD ((aB.getD i2.toNat []).getD i6.toNat 0).toNat []).length+([i2]:A1).length<=room) (Cw (Cd ((aB.getD i2.toNat []).getD i6.toNat 0) l7.length) (some (.next ((Bd (i6+1)),(l7.set ((aB.getD i2.toNat []).getD i6.toNat 0).toNat ((l7.getD ((aB.getD i2.toNat []).getD i6.toNat 0).toNat [])++([i2]:A1))))))))))) else(some (.done l7)))
def D7(aB:Nq):jb->Option (LR (Int×Nq) Nq):=
 λ((i2,l3):jb)=>(bif (decide (i2<(aB.length:Int))) then(Cw (Cd i2 aB.length) ((Ai (D6 aB i2) ((0:Int),l3)).bind (λx14=>(some (.next ((Bd (i2+1)),x14)))))) else(some (.done l3)))
def Q8(i2:Int):=([i2]:A1)
def Q4(aB:Nq)(i2:Int)(i6:Int):=((aB.getD i2.toNat []).getD i6.toNat 0)
def Q9(l7:Nq)(aB:Nq)(i2:Int)(i6:Int):=(l7.getD (Q4 aB i2 i6).toNat [])
def Q5(aB:Nq):=(List.replicate (aB.length:Int).toNat ([]:A1))
def ji(l7:Nq)(aB:Nq)(i2:Int)(i6:Int):=(l7.set (Q4 aB i2 i6).toNat ((Q9 l7 aB i2 i6)++(Q8 i2)))
def Q7(aB:Nq):List g9:=[(0,(PU aB)),(3,(.vsl 10 (aB.length:Int).toNat))]
def Q6(l7:Nq)(i2:Int)(aB:Nq)(i6:Int):List g9:=[(3,(.vsl 10 l7.length)),(4,(Z7 i2)),(11,(PU aB)),(12,(LC aB.length)),(13,(Z7 i2)),(18,(AV.list 1 Ay 0 (aB.getD i2.toNat []) .none)),(19,(.int .i64 ((aB.getD i2.toNat []).length:Int))),(20,(Z7 i6))]
def lz(l7:Nq)(i2:Int)(aB:Nq)(i6:Int):List g9:=[(3,(.vsl 10 l7.length)),(4,(Z7 i2)),(7,(Z7 (Q4 aB i2 i6))),(11,(PU aB)),(12,(LC aB.length)),(13,(Z7 i2)),(18,(AV.list 1 Ay 0 (aB.getD i2.toNat []) .none)),(19,(.int .i64 ((aB.getD i2.toNat []).length:Int))),(20,(Z7 i6))]
def Ic(aB:Nq):Option Nq:=
 (Cw (0<=(aB.length:Int)/\(aB.length:Int)<=(aB.length:Int)/\(aB.length:Int)<=(room:Int)) ((Ai (D7 aB) ((0:Int),(List.replicate (aB.length:Int).toNat ([]:A1)))).bind (λx16=>(some x16))))
variable{v14:Nq}{v15:Nq}
theorem Rf(h:Ic v14=some v15):sP 117 [(PU v14)] [] (AV.list 1 Hy [] v15 (.own 20000)) [(20000,.tok 1 33 v15.length)]:=
 sG Tryz.func117 λΓ q=>have hΓ:=q.own;gR q [0] [] [(2,(AV.list 1 Hy [] ([]:Nq) .exact))] [] (c1 (Iq 1 Hy [])) (tV q U8 [10] h λh=>Tn (⟨(Q7 v14),[(10,.arr 1 33 ((v14.length:Int).toNat) (λi_=>AV.eraseAll (λn_=>Cb n_ [10]) ((λ_=>[QH]) i_)))],[]⟩:St) (Mm (Le.trans (Kf (st':=⟨(Q7 v14),[(10,.arr 1 33 ((v14.length:Int).toNat) (L9 1 Ay (0:Int) (Q5 v14) (λ_=>.exact)))],[]⟩) (TmpsLe.refl _) (.arr bJ .nil)) (Le.trans (Le.trans (bf (r:=10) (b:=70010) Ay (0:Int) (Q5 v14) 3 rfl rfl (Xe ..).symm (λh_=>absurd h_ (by decide))) (M6 (st':=⟨(Q7 v14),[(10,.arr 1 33 ((v14.length:Int).toNat) (L9 1 Ay (0:Int) (Q5 v14) (Tag.fam 70010)))],[(70010,⟨1,3,Ml (Q5 v14)⟩)]⟩) (by kernel_rfl))) (M6 (B7 (λk_:Nat=>(⟨[(0,(PU v14)),(3,(.vsl 10 k_))],(d8 k_ (Q5 v14)),[(70010,⟨1,3,Ml (Q5 v14)⟩)]⟩:St)) (show(v14.length:Int).toNat=(Q5 v14).length from(Xe ..).symm))))) (Ap q PL Ol (tL q h PL Ol (λu (i2,l3)=>(Fq u [(3,(.vsl 10 l3.length)),(13,(Z7 i2))] (d8 l3.length l3) [(70010,⟨1,3,Ml l3⟩)])) (λu l4=>aG Γ (.exit 0) (⟨[(3,(.vsl 10 l4.length))],(d8 l4.length l4),[(70010,⟨1,3,Ml l4⟩)]⟩:St)) (λ⟨i2,l3⟩ y h=>Ap q [3,11,12,13,14] Ol (gC h (λh=>tV q [3,4,5,11,12,13] Ol h λh=>Ap q VD Ol (tL q h VD Ol (λu (i6,l7)=>(Fq u [(3,(.vsl 10 l7.length)),(20,(Z7 i6))] (d8 l7.length l7) [(70010,⟨1,3,Ml l7⟩)])) (λu l8=>aG Γ (.exit 2) (W7 PL Ol u [(3,(.vsl 10 l8.length))] (d8 l8.length l8) [(70010,⟨1,3,Ml l8⟩)])) (λ⟨i6,l7⟩ y h=>Ap q [3,4,11,12,13,18,19,20,21] Ol (gC h (λh=>tV q [3,4,7,11,12,13,18,19,20] Ol h λh=>Tn (⟨(lz l7 i2 v14 i6),(d8 l7.length l7),[(70010,⟨1,3,Ml l7⟩)]⟩:St) (tC h λc10_ h=>tC h λc11_ h=>tC h λc12_ h=>tC h λc13_ h=>Mm (Le.trans (ez (r:=10) (b:=70010) (k:=60010) Ay (0:Int) l7 (Q4 v14 i2 i6).toNat 3 rfl rfl rfl rfl (N1 c10_) (by kernel_rfl) (.here .nil)) (M6 (st':=⟨(lz l7 i2 v14 i6),[(10,.arr 1 33 l7.length (L9 1 Ay (0:Int) l7 (Fh 70010 (Q4 v14 i2 i6).toNat 60010))),(60010,.tok 1 3 ((Q9 l7 v14 i2 i6).length))],[(70010,⟨1,3,Wh l7 (Q4 v14 i2 i6).toNat⟩)]⟩) (by kernel_rfl))) (gR q VD [10,60010,70010] [(29,(PV (Q9 l7 v14 i2 i6) 60010)),(31,(AV.list 1 Ay 0 (Q8 i2) .exact)),(32,(AV.list 1 Ay 0 ((Q9 l7 v14 i2 i6)++(Q8 i2)) (.own 60010)))] [] (mW c11_ (Eq.refl l7.length) (show(AVle (((L9 1 Ay (0:Int) l7 (Fh 70010 (Q4 v14 i2 i6).toNat 60010)) (Q4 v14 i2 i6).toNat).getD 0 .any) (PV (Q9 l7 v14 i2 i6) 60010)) from VX) (Bu 1 Ay (0:Int) (Q8 i2)) (Eq.refl ((Q9 l7 v14 i2 i6).length)) c12_ (Th 1 60010 Ay (0:Int) (Q9 l7 v14 i2 i6) (Q8 i2)) (Hz (Q9 l7 v14 i2 i6) (Q8 i2)) c13_ (c1 (Eq.refl l7.length))) (Tn (⟨(Q6 l7 i2 v14 i6),[(10,.arr 1 33 l7.length (λi_=>AV.eraseAll (λn_=>Cb n_ [10,60010,70010]) ((K0 (L9 1 Ay (0:Int) l7 (Fh 70010 (Q4 v14 i2 i6).toNat 60010)) (Q4 v14 i2 i6).toNat 0 [(AV.list 1 Ay 0 ((Q9 l7 v14 i2 i6)++(Q8 i2)) (.own 60010))]) i_))),(60010,.tok 1 3 (((Q9 l7 v14 i2 i6)++(Q8 i2)).length))],[(70010,⟨1,3,Wh l7 (Q4 v14 i2 i6).toNat⟩)]⟩:St) (Mm (Le.trans (Le.trans (ik (r:=10) (b:=70010) (k:=60010) Ay (0:Int) l7 (Q4 v14 i2 i6).toNat ((Q9 l7 v14 i2 i6)++(Q8 i2)) 3 rfl (cL (N1 c10_) rfl rfl) rfl rfl rfl rfl (N1 c10_) (by kernel_rfl) (.here (.tok .nil)) (by rw[hΓ];rfl)) (M6 (st':=⟨(Q6 l7 i2 v14 i6),(d8 l7.length (ji l7 v14 i2 i6)),[(70010,⟨1,3,Ml (ji l7 v14 i2 i6)⟩)]⟩) (by kernel_rfl))) (M6 (B7 (λk_:Nat=>(⟨[(3,(.vsl 10 k_)),(4,(Z7 i2)),(11,(PU v14)),(12,(LC v14.length)),(13,(Z7 i2)),(18,(AV.list 1 Ay 0 (v14.getD i2.toNat []) .none)),(19,(.int .i64 ((v14.getD i2.toNat []).length:Int))),(20,(Z7 i6))],(d8 k_ (ji l7 v14 i2 i6)),[(70010,⟨1,3,Ml (ji l7 v14 i2 i6)⟩)]⟩:St)) (show l7.length=(ji l7 v14 i2 i6).length from(Hv ..).symm)))) (Ap q VD Ol (tN h))))))) λh=>tS h (gO (Dz (Du PL Ol q))))) λx14 h=>gA (Ap q PL Ol (tN h)))) λh=>tS h (gO (Dz (Du [3] Ol q))))) λx16 h=>gA (Ap q [2] Ol (Tn (⟨[(2,(.vsl 10 x16.length))],(d8 x16.length x16),[(70010,⟨1,3,Ml x16⟩)]⟩:St) (tS h (gK (e:=.ret) (Kz [(10,20000)] (Le.trans (La (nm:=10) (sz:=1) (n:=x16.length) (e:=33) (f:=(L9 1 Ay (0:Int) x16 (Tag.fam 70010))) (g:=(λi=>Hy (x16.getD i []))) rfl ⟨rfl,trivial⟩ (λ_ _=>rfl) (by rw[hΓ];rfl)) (Du (st':=⟨[(2,(AV.list 1 Hy [] x16 (.own 10)))],[(10,.tok 1 33 x16.length)],[]⟩) [2] [10] q)))))))))))
def Et(a3:Ab):jb->Option (LR (Int×Nq) (Nq ⊕ (Cz×Int))):=
 λ((i3,l4):jb)=>(bif (decide (i3<(a3.Blocks.length:Int))) then(Cw (Cd i3 a3.Blocks.length) ((Jl (⟨(a3.Blocks.getD i3.toNat default).End.Kind,(a3.Blocks.getD i3.toNat default).End.Arg,(a3.Blocks.getD i3.toNat default).End.To⟩:Ip) (a3.Blocks.length:Int)).bind λx7=>(bif (!x7) then(some (.done (.inr ((⟨([]:Nq),([]:Nq)⟩:Cz),(5:Int))))) else((Xd ((a3.Blocks.getD i3.toNat default).End.To)).bind λx8=>(Cw (Cd i3 l4.length) (some (.next ((Bd (i3+1)),(l4.set i3.toNat x8))))))))) else(some (.done (.inl l4))))
abbrev ku:=(Cz×Int)
def QA(Γ:Gw)(a3:Ab)(r:ku):Exit->St->Prop:=fK Tryz.prog Γ Tryz.f87.results.toList [] (.tuple [(.agg (Px r.1)),(Z7 r.2)]) []
def dw:AV:=QH
def jN:List g9:=[LD,(3,(.int .i64 (5:Int)))]
def md(a3:Ab)(i3:Int):=(a3.Blocks.getD i3.toNat default)
def kw:AV:=(AV.list 1 Hy [] ([]:Nq) .none)
def lJ(a3:Ab):=(List.replicate (a3.Blocks.length:Int).toNat ([]:A1))
def f7:List AV:=[(AV.list 1 Hy [] ([]:Nq) .exact),(AV.list 1 Hy [] ([]:Nq) .exact)]
def Qc(a3:Ab):Option ku:=
 ((Hp (a3.Blocks.length:Int)).bind λx1=>(bif (!x1) then(some ((⟨([]:Nq),([]:Nq)⟩:Cz),(5:Int))) else(Cw (0<=(a3.Blocks.length:Int)/\(a3.Blocks.length:Int)<=(a3.Blocks.length:Int)/\(a3.Blocks.length:Int)<=(room:Int)) ((Ai (Et a3) ((0:Int),(List.replicate (a3.Blocks.length:Int).toNat ([]:A1)))).bind (λx10=>(match x10 with|(.inl l5)=>((Ic l5).bind λx12=>(some ((⟨l5,x12⟩:Cz),(0:Int))))|(.inr r13)=>(some r13)))))))
variable{v16:ku}
theorem NR(h:Qc v0=some v16):sP 87 [(.agg (Xy v0))] [] (.tuple [(.agg (Px v16.1)),(Z7 v16.2)]) []:=
 sG Tryz.func87 λΓ q=>have hΓ:=q.own;tW q Xp Xp [1,2,4] Xp (tB h λx1 y1 h=>tT q [1,2,4,13] Xp [(Z2 x1)] (c1 (Pc y1)) (gC h (λh=>gR q Pn [2] [(14,(.agg f7))] [] (c1 (show(AVle (.agg [dw,dw]) (.agg f7)) from(AVle.agg (.cons Ee (.cons Ee .nil))))) (Tn (⟨jN,[(LE f7)],[]⟩:St) (tS h (gK (e:=.ret) (Kz [] (show Le Γ _ (⟨jN,[(2,.row 99 [kw,kw])],[]⟩:St) from Le.trans (Du (st':=⟨jN,[(LE f7)],[]⟩) Pn [2] q) (Kf (.cons (AVle.refl _) (.cons (AVle.refl _) .nil)) (.row (.cons AVle.untag (.cons AVle.untag .nil)) .nil)))))))) λh=>tV q [1,2,4,5] [1,2,16] h λh=>by exact Mm (Le.trans (Wj 16 (show ∀ k_,k_<((v0.Blocks.length:Int).toNat)->AVleL ((λi_=>AV.eraseAll (λn_=>Cb n_ [1,2,16]) ((λ_=>[dw]) i_)) k_) ((λi=>Hy ((lJ v0).getD i [])) k_) from(λk hk=>Wn (e:=Hy) (d:=[]) (.cons (λ_ _ _ _ _ hh=>AVle.untag _ _ _ _ _ (Ee _ _ _ _ _ hh)) .nil) _ k (W5 hk)))) (Sd (λ(k_:Nat) u=>(Fq u [(5,(.vsl 16 k_))] [(16,.arr 1 33 k_ (λi=>Hy ((lJ v0).getD i [])))])) (show(v0.Blocks.length:Int).toNat=(lJ v0).length from(Xe ..).symm))) (Ap q VH U7 (tL q h VH U7 (λu (i3,l4)=>(Fq u [(5,(.vsl 16 l4.length)),(20,(Z7 i3))] [(16,.arr 1 33 l4.length (λi=>Hy (l4.getD i [])))])) (λu x_=>match x_ with|(.inl l5)=>aG Γ (.exit 0) (W7 [2,5] U7 u [(5,(.vsl 16 l5.length))] [(16,.arr 1 33 l5.length (λi=>Hy (l5.getD i [])))])|(.inr r_)=>aR (QA Γ v0 r_)) (λ⟨i3,l4⟩ y h=>Ap q [2,4,5,18,19,20,21] U7 (gC h (λh=>tV q [2,4,5,6,7,18,19,20] [2,7,16] h λh=>tB h λx7 y7 h=>tT q [2,4,5,6,7,18,19,20,29] [2,7,16] [(Z2 x7)] (c1 (Yi y7)) (gC h (λh=>gR q Pn [2] [(30,(.agg f7))] [] (c1 (show(AVle (.agg [dw,dw]) (.agg f7)) from(AVle.agg (.cons Ee (.cons Ee .nil))))) (Tn (⟨jN,[(LE f7)],[]⟩:St) (tS h (gO (R4 (Kz [] (show Le Γ _ (⟨jN,[(2,.row 99 [kw,kw])],[]⟩:St) from Le.trans (Du (st':=⟨jN,[(LE f7)],[]⟩) Pn [2] q) (Kf (.cons (AVle.refl _) (.cons (AVle.refl _) .nil)) (.row (.cons AVle.untag (.cons AVle.untag .nil)) .nil))))))))) λh=>tB h λx8 y8 h=>tC h λc9_ h=>tT q VH U7 [⟨[],[],(Pp x8),[],[],[]⟩] (c3 (SU ((md v0 i3).End.To) x8 y8) c9_ (Eq.refl l4.length)) (Mm (Le.trans (Wj 16 (show ∀ k_,k_<l4.length->AVleL ((λi_=>AV.eraseAll (λn_=>Cb n_ U7) ((K0 (λi=>Hy (l4.getD i [])) i3.toNat 0 [(Pp x8)]) i_)) k_) ((λi=>Hy ((l4.set i3.toNat x8).getD i [])) k_) from(Ci (Hv ..).symm (λk_ hk_=>(B7 (AV.eraseAll (λn_=>Cb n_ U7)) ((Ly (λ_ _=>rfl) (N2 c9_) rfl) k_ hk_)).trans rfl)))) (Sd (λ(k_:Nat) u=>(Fq u [(5,(.vsl 16 k_))] [(16,.arr 1 33 k_ (λi=>Hy ((l4.set i3.toNat x8).getD i [])))])) (show l4.length=(l4.set i3.toNat x8).length from(Hv ..).symm))) (Ap q VH U7 (tN h))))) λh=>tS h (gO (Dz (Du [2,5] U7 q))))) λx10 h=>(match x10,h with | .inl l5,h=>gA (Tn (⟨[LD,(5,(.vsl 16 l5.length))],[(2,.row 99 [dw,dw]),(16,.arr 1 33 l5.length (λi=>Hy (l5.getD i [])))],[]⟩:St) (Mm (Le.trans (La (nm:=16) (sz:=1) (n:=l5.length) (e:=33) (f:=(λi=>Hy (l5.getD i []))) (g:=(λi=>Hy (l5.getD i []))) rfl ⟨rfl,trivial⟩ (λ_ _=>rfl) (by rw[hΓ];rfl)) (M6 (st':=⟨[LD,(5,(AV.list 1 Hy [] l5 (.own 16)))],[(2,.row 99 [dw,dw]),(16,.tok 1 33 l5.length)],[]⟩) (by kernel_rfl))) (tB h λx12 y12 h=>tT q Pn [2,16,41] [⟨[],[(20000,41)],(AV.list 1 Hy [] x12 (.own 20000)),[(20000,.tok 1 33 x12.length)],[],[]⟩] (c1 (Rf y12)) (tS h (De []))))) | .inr r13,h=>Wf (λst' hk=>tS h (gK hk)))))))
abbrev mZ:=(LR (Int×Int) (Unit ⊕ Bool))
def Cl(aB:Nq)(i2:Int):Gm->Option mZ:=
 λ((i4,i5):Gm)=>(bif (decide (i5<((aB.getD i2.toNat []).length:Int))) then(Cw (Cd i5 (aB.getD i2.toNat []).length) ((bif ((decide (((aB.getD i2.toNat []).getD i5.toNat 0)<=i4))==false) then F6 ((aB.getD i2.toNat []).getD i5.toNat 0) (aB.length:Int) else some false).bind λx7=>(bif (bif (decide (((aB.getD i2.toNat []).getD i5.toNat 0)<=i4)) then true else(!x7)) then(some (.done (.inr false))) else(some (.next (((aB.getD i2.toNat []).getD i5.toNat 0),(Bd (i5+1)))))))) else(some (.done (.inl ()))))
def Cm(aB:Nq):Int->Option (LR Int (Unit ⊕ Bool)):=
 λ(i2:Int)=>(bif (decide (i2<(aB.length:Int))) then(Cw (Cd i2 aB.length) ((Ai (Cl aB i2) ((-1:Int),(0:Int))).bind (λx8=>(match x8 with|(.inl _)=>(some (.next (Bd (i2+1))))|(.inr r10)=>(some (.done (.inr r10))))))) else(some (.done (.inl ()))))
def Qx(Γ:Gw)(aB:Nq)(r:Bool):Exit->St->Prop:=fK Tryz.prog Γ Tryz.f183.results.toList [] (.bool r) []
def kx(aB:Nq)(i2:Int)(i5:Int)(i4:Int):=(decide (((aB.getD i2.toNat []).getD i5.toNat 0)<=i4))
def Jm(aB:Nq):Option Bool:=
 ((Hp (aB.length:Int)).bind λx1=>(bif (!x1) then(some false) else((Ai (Cm aB) (0:Int)).bind (λx11=>(match x11 with|(.inl _)=>(some true)|(.inr r13)=>(some r13))))))
theorem Yj(h:Jm v14=some v3):sP 183 [(PU v14)] [] (.bool v3) []:=
 sG Tryz.func183 λΓ q=>Ap q [0] [] (tB h λx1 y1 h=>tT q [0,11] [] [(Z2 x1)] (c1 (Pc y1)) (gC h (λh=>Ap q [2] [] (tS h (De []))) λh=>Ap q PM [] (tL q h PM [] (λu i2=>(Fq u [(14,(Z7 i2))] [])) (λu x_=>match x_ with|(.inl _)=>aG Γ (.exit 0) (⟨[],[],[]⟩:St)|(.inr r_)=>aR (Qx Γ v14 r_)) (λi2 y h=>Ap q [0,12,13,14,15] [] (gC h (λh=>tV q [0,4,12,13,14] [] h λh=>tW q [0,4,5,12,13,14] [] VE [] (tL q h VE [] (λu (i4,i5)=>(Fq u [(5,(Z7 i4)),(20,(Z7 i5))] [])) (λu x_=>match x_ with|(.inl _)=>aG Γ (.exit 2) (W7 PM [] u [] [])|(.inr r_)=>aR (Qx Γ v14 r_)) (λ⟨i4,i5⟩ y h=>Ap q [0,5,12,13,14,18,19,20,21] [] (gC h (λh=>tV q [0,5,7,12,13,14,18,19,20] [] h λh=>tB h λx7 y7 h=>tT q [0,7,12,13,14,18,19,20,33] [] [(Z2 x7)] (bQ ((kx v14 i2 i5 i4)==false) (c3 (λ(hg:((kx v14 i2 i5 i4)==false)=true)=>(Lk (Bs hg y7))) (gI ((kx v14 i2 i5 i4)==false)) (X0 (kx v14 i2 i5 i4)))) (gC h (λh=>Ap q [2] [] (tS h (gO (R4 (Kz [] (Le.refl _ _)))))) λh=>tW q VE [] VE [] (tN h))) λh=>tS h (gO (Dz (Du PM [] q))))) λx8 h=>(match x8,h with | .inl _,h=>gA (Ap q PM [] (tN h)) | .inr r10,h=>Wf (λst' hk=>tS h (gO (R4 hk)))))) λh=>tS h (gO (Dz (Du [] [] q))))) λx11 h=>(match x11,h with | .inl _,h=>gA (Ap q [2] [] (tS h (De []))) | .inr r13,h=>Wf (λst' hk=>tS h (gK hk))))))
def Bg(aN:A1)(aP:A1):Int->Option (LR Int (Unit ⊕ Bool)):=
 λ(i1:Int)=>(bif (decide (i1<(aN.length:Int))) then(Cw (Cd i1 aN.length) (Cw (Cd i1 aP.length) (bif ((aN.getD i1.toNat 0)!=(aP.getD i1.toNat 0)) then(some (.done (.inr false))) else(some (.next (Bd (i1+1))))))) else(some (.done (.inl ()))))
def Ps(Γ:Gw)(aN:A1)(aP:A1)(r:Bool):Exit->St->Prop:=fK Tryz.prog Γ Tryz.f119.results.toList [] (.bool r) []
def D8(aN:A1)(aP:A1):Option Bool:=
 (bif ((aN.length:Int)!=(aP.length:Int)) then(some false) else((Ai (Bg aN aP) (0:Int)).bind (λx4=>(match x4 with|(.inl _)=>(some true)|(.inr r6)=>(some r6)))))
variable{v17:A1}
theorem J0(h:D8 v2 v17=some v3):sP 119 [(Pp v2),(Pp v17)] [] (.bool v3) []:=
 sG Tryz.func119 λΓ q=>tW q Hb [] AB [] (gC h (λh=>Ap q [4] [] (tS h (De []))) λh=>Ap q IM [] (tL q h IM [] (λu i1=>(Fq u [(13,(Z7 i1))] [])) (λu x_=>match x_ with|(.inl _)=>aG Γ (.exit 0) (⟨[],[],[]⟩:St)|(.inr r_)=>aR (Ps Γ v2 v17 r_)) (λi1 y h=>Ap q [0,1,12,13,14] [] (gC h (λh=>Ap q [0,1,5,12,13] [] (tC h λc2_ h=>tC h λc3_ h=>tU q [0,1,12,13,24] [] (c2 c2_ c3_) (gC h (λh=>Ap q [4] [] (tS h (gO (R4 (Kz [] (Le.refl _ _)))))) λh=>Ap q IM [] (tN h)))) λh=>tS h (gO (Dz (Du [] [] q))))) λx4 h=>(match x4,h with | .inl _,h=>gA (Ap q [4] [] (tS h (De []))) | .inr r6,h=>Wf (λst' hk=>tS h (gK hk)))))
def As(aN:Nq)(aP:Nq):Int->Option (LR Int (Unit ⊕ Bool)):=
 λ(i1:Int)=>(bif (decide (i1<(aN.length:Int))) then(Cw (Cd i1 aN.length) (Cw (Cd i1 aP.length) ((D8 (aN.getD i1.toNat []) (aP.getD i1.toNat [])).bind λx4=>(bif (!x4) then(some (.done (.inr false))) else(some (.next (Bd (i1+1)))))))) else(some (.done (.inl ()))))
def Jn(Γ:Gw)(aN:Nq)(aP:Nq)(r:Bool):Exit->St->Prop:=fK Tryz.prog Γ Tryz.f184.results.toList [] (.bool r) []
def Co(aN:Nq)(aP:Nq):Option Bool:=
 (bif ((aN.length:Int)!=(aP.length:Int)) then(some false) else((Ai (As aN aP) (0:Int)).bind (λx5=>(match x5 with|(.inl _)=>(some true)|(.inr r7)=>(some r7)))))
theorem Je(h:Co v14 v15=some v3):sP 184 [(PU v14),(PU v15),(.clo 119 [] [])] [] (.bool v3) []:=
 sG Tryz.func184 λΓ q=>tW q EU [] [0,1,2,14] [] (gC h (λh=>Ap q [6] [] (tS h (De []))) λh=>Ap q dW [] (tL q h dW [] (λu i1=>(Fq u [(17,(Z7 i1))] [])) (λu x_=>match x_ with|(.inl _)=>aG Γ (.exit 0) (⟨[],[],[]⟩:St)|(.inr r_)=>aR (Jn Γ v14 v15 r_)) (λi1 y h=>Ap q [1,2,15,16,17,18] [] (gC h (λh=>tV q [1,2,7,8,15,16,17] [] h λh=>tV q [1,2,8,9,15,16,17] [] h λh=>tB h λx4 y4 h=>tT q [1,2,15,16,17,30] [] [(Z2 x4)] (c1 (J0 y4)) (gC h (λh=>Ap q [6] [] (tS h (gO (R4 (Kz [] (Le.refl _ _)))))) λh=>Ap q dW [] (tN h))) λh=>tS h (gO (Dz (Du [] [] q))))) λx5 h=>(match x5,h with | .inl _,h=>gA (Ap q [6] [] (tS h (De []))) | .inr r7,h=>Wf (λst' hk=>tS h (gK hk)))))
def N8(aD:Cz):Option Bool:=
 ((Jm aD.Succ).bind λx1=>((bif (x1==true) then Ic aD.Succ else some []).bind λx2=>((bif (x1==true) then Co aD.Pred x2 else some false).bind λx3=>(some (bif x1 then x3 else false)))))
variable{v18:Cz}
theorem KF(h:N8 v18=some v3):sP 160 [(.agg (Px v18))] [] (.bool v3) []:=
 sG Tryz.func160 λΓ q=>Ap q [1] [1] (tB h λx1 y1 h=>tB h λx2 y2 h=>tB h λx3 y3 h=>tT q [2] [] [(Z2 x1),⟨[],[],(PU x2),[],[],[]⟩,(Z2 x3)] (ci (Yj y1) (bQ (x1==true) (ci (show((x1==true)=true->(sP 117 [(PU v18.Succ)] [] (PU x2) [])) from(λhg=>(Spec.drop (Rf (Bs hg y2))))) (Uj (x1==true) (c2 (λ(hg:(x1==true)=true)=>(Je (Bs hg y3))) (M5 x1)))))) (tS h (De [])))
abbrev ly:=(Int×Int×A1)
def A9 :ly->Option (LR (Int×Int×A1) A1):=
 λ((i1,i2,l3):ly)=>(bif (decide (i1<i2)) then(Cw (Cd i2 l3.length) (Cw (Cd i1 l3.length) (Cw (Cd i1 l3.length) (Cw (Cd i2 l3.length) (some (.next ((Bd (i1+1)),(Bd (i2-1)),((l3.set i1.toNat (l3.getD i2.toNat 0)).set i2.toNat (l3.getD i1.toNat 0))))))))) else(some (.done l3)))
def lK(l3:A1)(i1:Int)(i2:Int):=((l3.set i1.toNat (l3.getD i2.toNat 0)).set i2.toNat (l3.getD i1.toNat 0))
def Ds(aX:A1):Option A1:=
 ((Ai (S:=ly) (X:=A1) A9 ((0:Int),(Bd ((aX.length:Int)-1)),aX)).bind (λx9=>(some x9)))
theorem I7(h:Ds v2=some v17):sP 161 [(.vsl 34000 v2.length)] [(Z4 34000 v2)] (.tuple []) [(Z4 34000 v17)]:=
 sG Tryz.func161 λΓ q=>Ap q [0,2,3] [34000] (tL q h [0,2,3] [34000] (λu (i1,i2,l3)=>(Fq u [(0,(.vsl 34000 l3.length)),(2,(Z7 i1)),(3,(Z7 i2))] [(Z4 34000 l3)])) (λu l4=>aG Γ (.exit 0) (⟨[],[(Z4 34000 l4)],[]⟩:St)) (λ⟨i1,i2,l3⟩ y h=>Ap q [0,2,3,9] [34000] (gC h (λh=>tC h λc5_ h=>tC h λc6_ h=>tC h λc7_ h=>tC h λc8_ h=>tU q [0,2,3] [34000] (c8 c5_ (Eq.refl l3.length) c6_ (Eq.refl l3.length) c7_ (Eq.refl l3.length) c8_ (Eq.refl l3.length)) (Mm (Le.trans (Wj 34000 (show ∀ k_,k_<l3.length->AVleL ((λi_=>AV.eraseAll (λn_=>Cb n_ [34000]) ((K0 (K0 (λi=>Ay (l3.getD i 0)) i1.toNat 0 [(.int .i64 (l3.getD i2.toNat 0))]) i2.toNat 0 [(.int .i64 (l3.getD i1.toNat 0))]) i_)) k_) ((λi=>Ay ((lK l3 i1 i2).getD i 0)) k_) from(Ci (Eq.trans (Hv ..).symm (Hv ..).symm) (λk_ hk_=>(B7 (AV.eraseAll (λn_=>Cb n_ [34000])) ((Ly (Ly (λ_ _=>rfl) (N2 c7_) rfl) (eh c8_) rfl) k_ hk_)).trans rfl)))) (Sd (λ(k_:Nat) u=>(Fq u [(0,(.vsl 34000 k_))] [(34000,.arr 1 3 k_ (λi=>Ay ((lK l3 i1 i2).getD i 0)))])) (show l3.length=(lK l3 i1 i2).length from(Eq.trans (Hv ..).symm (Hv ..).symm)))) (Ap q [0,2,3] [34000] (tN h)))) λh=>tS h (gO (Dz (Du [] [34000] q))))) λx9 h=>ge (λst' hl10=>tS h (gK (e:=.normal) (Kz [(34000,34000)] hl10))))
abbrev ma:=(LR A1 (A1 ⊕ (List Bool×A1×A1)))
def X4(aD:Cz)(a2:Int):A1->Option ma:=
 λ(l9:A1)=>(Cw (Cd ([a2].getD (Bd (([a2].length:Int)-1)).toNat (0:Int)) 64) (Cw (Cd ([a2].getD (Bd (([a2].length:Int)-1)).toNat (0:Int)) aD.Succ.length) (bif (decide ((l9.getD ([a2].getD (Bd (([a2].length:Int)-1)).toNat (0:Int)).toNat (0:Int))<((aD.Succ.getD ([a2].getD (Bd (([a2].length:Int)-1)).toNat (0:Int)).toNat []).length:Int))) then(Cw (Cd ([a2].getD (Bd (([a2].length:Int)-1)).toNat (0:Int)) aD.Succ.length) (Cw (Cd ([a2].getD (Bd (([a2].length:Int)-1)).toNat (0:Int)) 64) (Cw (Cd (l9.getD ([a2].getD (Bd (([a2].length:Int)-1)).toNat (0:Int)).toNat (0:Int)) (aD.Succ.getD ([a2].getD (Bd (([a2].length:Int)-1)).toNat (0:Int)).toNat []).length) (Cw (Cd ([a2].getD (Bd (([a2].length:Int)-1)).toNat (0:Int)) 64) (Cw (Cd ([a2].getD (Bd (([a2].length:Int)-1)).toNat (0:Int)) 64) (Cw (Cd ((aD.Succ.getD ([a2].getD (Bd (([a2].length:Int)-1)).toNat (0:Int)).toNat []).getD (l9.getD ([a2].getD (Bd (([a2].length:Int)-1)).toNat (0:Int)).toNat (0:Int)).toNat (0:Int)) 64) (bif (!((Ju 64 false (List.replicate 64 false) a2.toNat true).getD ((aD.Succ.getD ([a2].getD (Bd (([a2].length:Int)-1)).toNat (0:Int)).toNat []).getD (l9.getD ([a2].getD (Bd (([a2].length:Int)-1)).toNat (0:Int)).toNat (0:Int)).toNat (0:Int)).toNat false)) then(Cw (Cd ((aD.Succ.getD ([a2].getD (Bd (([a2].length:Int)-1)).toNat (0:Int)).toNat []).getD (l9.getD ([a2].getD (Bd (([a2].length:Int)-1)).toNat (0:Int)).toNat (0:Int)).toNat (0:Int)) 64) (Cw ([a2].length+([((aD.Succ.getD ([a2].getD (Bd (([a2].length:Int)-1)).toNat (0:Int)).toNat []).getD (l9.getD ([a2].getD (Bd (([a2].length:Int)-1)).toNat (0:Int)).toNat (0:Int)).toNat (0:Int))]:A1).length<=room) (some (.done (.inr ((Ju 64 false (Ju 64 false (List.replicate 64 false) a2.toNat true) ((aD.Succ.getD ([a2].getD (Bd (([a2].length:Int)-1)).toNat (0:Int)).toNat []).getD (l9.getD ([a2].getD (Bd (([a2].length:Int)-1)).toNat (0:Int)).toNat (0:Int)).toNat (0:Int)).toNat true),(Ju 64 (0:Int) l9 ([a2].getD (Bd (([a2].length:Int)-1)).toNat (0:Int)).toNat (Bd ((l9.getD ([a2].getD (Bd (([a2].length:Int)-1)).toNat (0:Int)).toNat (0:Int))+1))),([a2]++([((aD.Succ.getD ([a2].getD (Bd (([a2].length:Int)-1)).toNat (0:Int)).toNat []).getD (l9.getD ([a2].getD (Bd (([a2].length:Int)-1)).toNat (0:Int)).toNat (0:Int)).toNat (0:Int))]:A1)))))))) else(some (.next (Ju 64 (0:Int) l9 ([a2].getD (Bd (([a2].length:Int)-1)).toNat (0:Int)).toNat (Bd ((l9.getD ([a2].getD (Bd (([a2].length:Int)-1)).toNat (0:Int)).toNat (0:Int))+1)))))))))))) else(some (.done (.inl l9))))))
def Ft(aD:Cz)(l1:List Bool)(l3:A1):A1->Option ma:=
 λ(l32:A1)=>(Cw (Cd (l3.getD (Bd ((l3.length:Int)-1)).toNat (0:Int)) 64) (Cw (Cd (l3.getD (Bd ((l3.length:Int)-1)).toNat (0:Int)) aD.Succ.length) (bif (decide ((l32.getD (l3.getD (Bd ((l3.length:Int)-1)).toNat (0:Int)).toNat (0:Int))<((aD.Succ.getD (l3.getD (Bd ((l3.length:Int)-1)).toNat (0:Int)).toNat []).length:Int))) then(Cw (Cd (l3.getD (Bd ((l3.length:Int)-1)).toNat (0:Int)) aD.Succ.length) (Cw (Cd (l3.getD (Bd ((l3.length:Int)-1)).toNat (0:Int)) 64) (Cw (Cd (l32.getD (l3.getD (Bd ((l3.length:Int)-1)).toNat (0:Int)).toNat (0:Int)) (aD.Succ.getD (l3.getD (Bd ((l3.length:Int)-1)).toNat (0:Int)).toNat []).length) (Cw (Cd (l3.getD (Bd ((l3.length:Int)-1)).toNat (0:Int)) 64) (Cw (Cd (l3.getD (Bd ((l3.length:Int)-1)).toNat (0:Int)) 64) (Cw (Cd ((aD.Succ.getD (l3.getD (Bd ((l3.length:Int)-1)).toNat (0:Int)).toNat []).getD (l32.getD (l3.getD (Bd ((l3.length:Int)-1)).toNat (0:Int)).toNat (0:Int)).toNat (0:Int)) 64) (bif (!(l1.getD ((aD.Succ.getD (l3.getD (Bd ((l3.length:Int)-1)).toNat (0:Int)).toNat []).getD (l32.getD (l3.getD (Bd ((l3.length:Int)-1)).toNat (0:Int)).toNat (0:Int)).toNat (0:Int)).toNat false)) then(Cw (Cd ((aD.Succ.getD (l3.getD (Bd ((l3.length:Int)-1)).toNat (0:Int)).toNat []).getD (l32.getD (l3.getD (Bd ((l3.length:Int)-1)).toNat (0:Int)).toNat (0:Int)).toNat (0:Int)) 64) (Cw (l3.length+([((aD.Succ.getD (l3.getD (Bd ((l3.length:Int)-1)).toNat (0:Int)).toNat []).getD (l32.getD (l3.getD (Bd ((l3.length:Int)-1)).toNat (0:Int)).toNat (0:Int)).toNat (0:Int))]:A1).length<=room) (some (.done (.inr ((Ju 64 false l1 ((aD.Succ.getD (l3.getD (Bd ((l3.length:Int)-1)).toNat (0:Int)).toNat []).getD (l32.getD (l3.getD (Bd ((l3.length:Int)-1)).toNat (0:Int)).toNat (0:Int)).toNat (0:Int)).toNat true),(Ju 64 (0:Int) l32 (l3.getD (Bd ((l3.length:Int)-1)).toNat (0:Int)).toNat (Bd ((l32.getD (l3.getD (Bd ((l3.length:Int)-1)).toNat (0:Int)).toNat (0:Int))+1))),(l3++([((aD.Succ.getD (l3.getD (Bd ((l3.length:Int)-1)).toNat (0:Int)).toNat []).getD (l32.getD (l3.getD (Bd ((l3.length:Int)-1)).toNat (0:Int)).toNat (0:Int)).toNat (0:Int))]:A1)))))))) else(some (.next (Ju 64 (0:Int) l32 (l3.getD (Bd ((l3.length:Int)-1)).toNat (0:Int)).toNat (Bd ((l32.getD (l3.getD (Bd ((l3.length:Int)-1)).toNat (0:Int)).toNat (0:Int))+1)))))))))))) else(some (.done (.inl l32))))))
abbrev dB:=(List Bool×A1×A1×A1)
def Ct(aD:Cz):dB->Option (LR (List Bool×A1×A1×A1) A1):=
 λ(s_:dB)=>match s_ with|(l1,l2,l3,l4)=>(Cw (Cd (Bd ((l3.length:Int)-1)) l3.length) ((Ai (Ft aD l1 l3) l2).bind (λx47=>(match x47 with|(.inl l33)=>(Cw (l4.length+([(l3.getD (Bd ((l3.length:Int)-1)).toNat (0:Int))]:A1).length<=room) (Cw (0<=(Bd ((l3.length:Int)-1))/\0+(Bd ((l3.length:Int)-1)).toNat<=l3.length) (bif (decide ((0:Int)<((l3.take (Bd ((l3.length:Int)-1)).toNat).length:Int))) then(some (.next (l1,l33,(l3.take (Bd ((l3.length:Int)-1)).toNat),(l4++([(l3.getD (Bd ((l3.length:Int)-1)).toNat (0:Int))]:A1))))) else((Ds (l4++([(l3.getD (Bd ((l3.length:Int)-1)).toNat (0:Int))]:A1))).bind λx51=>(Cw ((l4++([(l3.getD (Bd ((l3.length:Int)-1)).toNat (0:Int))]:A1)).length=x51.length) (some (.done x51)))))))|(.inr (l34,l35,l36))=>(some (.next (l34,l35,l36,l4)))))))
def EY(Γ:Gw)(aD:Cz)(a2:Int)(r:A1):Exit->St->Prop:=fK Tryz.prog Γ Tryz.f123.results.toList [] (PV r 20000) [(20000,.tok 1 3 r.length)]
def jQ(l1:List Bool):=(λi=>eB (l1.getD i false))
def YI(l3:A1):=(l3.getD (Bd ((l3.length:Int)-1)).toNat (0:Int))
def YY(l4:A1)(l3:A1):=(l4++([(YI l3)]:A1))
def js(l10:A1):=(λi=>Ay (l10.getD i 0))
def jv(l33:A1):=(λi=>Ay (l33.getD i 0))
def PR:=(λn_=>Cb n_ [2,5,6,25,36007])
def iH(a2:Int):=(λi=>Ay ([a2].getD i 0))
def TM(a2:Int):=([a2].getD (Bd (([a2].length:Int)-1)).toNat (0:Int))
def db(a2:Int):=(([]:A1)++([(TM a2)]:A1))
def jS(a2:Int):=(λi=>Ay ((db a2).getD i 0))
def jR(l4:A1)(l3:A1):=(λi=>Ay ((YY l4 l3).getD i 0))
def jP:AV:=gH
def ky:=(λi=>Ay (([]:A1).getD i 0))
def iG(l3:A1):=(0+(Bd ((l3.length:Int)-1)).toNat)
def jO(a2:Int):=(0+(Bd (([a2].length:Int)-1)).toNat)
def lM(a2:Int):=([a2].take (Bd (([a2].length:Int)-1)).toNat)
def lL:=(λi=>Ay ((List.replicate 64 (0:Int)).getD i 0))
def YW(aD:Cz):List AV:=[(PU aD.Succ),(PU aD.Pred)]
def f8(a2:Int):=(λi=>eB ((Ju 64 false (List.replicate 64 false) a2.toNat true).getD i false))
def da(aD:Cz)(l3:A1)(l32:A1):=((aD.Succ.getD (YI l3).toNat []).getD (l32.getD (YI l3).toNat (0:Int)).toNat (0:Int))
def dZ(aD:Cz)(a2:Int)(l9:A1):=((aD.Succ.getD (TM a2).toNat []).getD (l9.getD (TM a2).toNat (0:Int)).toNat (0:Int))
def mB:=(Z61:St)
def mC(a2:Int):List g9:=[LD,ZI,ZH,(7,(.vsl 36007 (db a2).length)),(8,(.vsl 25 (jO a2)))]
def mA(a2:Int)(aD:Cz):=(⟨[LD,ZI,ZH,(7,(.vsl 36007 ([]:A1).length)),(8,(.vsl 25 [a2].length)),(9,(Z7 (TM a2)))],[(LE (YW aD)),(ZJ (f8 a2)),(YN lL),(25,.arr 1 3 ([a2].length) (iH a2)),(36007,.arr 1 3 (([]:A1).length) ky)],[]⟩:St)
def Gs(aD:Cz)(a2:Int):Option A1:=
 ((O1 (S:=dB) (X:=A1) ((N8 aD).bind λx5=>((bif ((!x5)==false) then F6 a2 (aD.Succ.length:Int) else some false).bind λx6=>(bif (bif (!x5) then true else(!x6)) then(some (.done ([]:A1))) else(Cw (Cd a2 64) (Cw (Cd (Bd (([a2].length:Int)-1)) [a2].length) ((Ai (X4 aD a2) (List.replicate 64 (0:Int))).bind (λx24=>(match x24 with|(.inl l10)=>(Cw (([]:A1).length+([([a2].getD (Bd (([a2].length:Int)-1)).toNat (0:Int))]:A1).length<=room) (Cw (0<=(Bd (([a2].length:Int)-1))/\0+(Bd (([a2].length:Int)-1)).toNat<=[a2].length) (bif (decide ((0:Int)<(([a2].take (Bd (([a2].length:Int)-1)).toNat).length:Int))) then(some (.next ((Ju 64 false (List.replicate 64 false) a2.toNat true),l10,([a2].take (Bd (([a2].length:Int)-1)).toNat),(([]:A1)++([([a2].getD (Bd (([a2].length:Int)-1)).toNat (0:Int))]:A1))))) else((Ds (([]:A1)++([([a2].getD (Bd (([a2].length:Int)-1)).toNat (0:Int))]:A1))).bind λx28=>(Cw ((([]:A1)++([([a2].getD (Bd (([a2].length:Int)-1)).toNat (0:Int))]:A1)).length=x28.length) (some (.done x28)))))))|(.inr (l11,l12,l13))=>(some (.next (l11,l12,l13,([]:A1)))))))))))) (Ct aD)).bind (λx54=>(some x54)))
theorem Sn(h:Gs v18 v1=some v2):sP 123 [(.agg (Px v18)),(Z7 v1)] [] (PV v2 20000) [(20000,.tok 1 3 v2.length)]:=
 sG Tryz.func123 λΓ q=>have hΓ:=q.own;gR q Xp [2] [(4,jP)] [] (c1 (Iq 1 Ay (0:Int))) (tB h λx54 y54 h=>gS y54 (λ(s_:dB)=>match s_ with|(l1,l2,l3,l4)=>0) (λ(s_:dB)=>match s_ with|(l1,l2,l3,l4)=>(⟨[LD,ZI,ZH,(7,(.vsl 36007 l4.length)),(8,(.vsl 25 l3.length))],[(LE (YW v18)),(ZJ (jQ l1)),(j6 l2),(Z4 25 l3),(Z4 36007 l4)],[]⟩:St)) (λr_=>aR (EY Γ v18 v1 r_)) (λy h=>tB h λx5 y5 h=>tB h λx6 y6 h=>tT q [1,2,21] [2] [(Z2 x5),(Z2 x6)] (ci (KF y5) (jY ((!x5)==false) (c3 (λ(hg:((!x5)==false)=true)=>(Lk (Bs hg y6))) (gI ((!x5)==false)) (X0 (!x5))))) (gC h (λh=>gR q [4] [] [(4,jP)] [] (c1 (Iq 1 Ay (0:Int))) (Tn (⟨[(4,jP)],[],[]⟩:St) (tS h (gf (R4 (Kz [(6004,20000)] (show Le Γ _ mB from Le.trans (Du (st':=⟨[(4,jP)],[],[]⟩) [4] [] q) (Le.trans (RM (t:=4) (nm:=6004) (sz':=1) ky 3 rfl rfl (.inl ⟨rfl,rfl⟩) (λh_=>absurd h_ (by decide))) (Du (st':=mB) [4] [6004] q))))))))) λh=>gR q IR [2,5] [ZI] [] trivial (Mm (Wj 5 (show ∀ k_,k_<64->AVleL ((λi_=>AV.eraseAll (λn_=>Cb n_ [2,5]) ((λi=>(((List.replicate 64 [(.bool false)]).flatten).drop (i*1)).take 1) i_)) k_) ((λi=>eB ((List.replicate 64 false).getD i false)) k_) from(GE (e:=eB) (d:=false) (z:=[(.bool false)]) rfl rfl rfl))) (gR q [1,2,5,6] U6 [ZH] [] trivial (Mm (Wj 6 (show ∀ k_,k_<64->AVleL ((λi_=>AV.eraseAll (λn_=>Cb n_ U6) ((λi=>(((List.replicate 64 [Nv]).flatten).drop (i*1)).take 1) i_)) k_) (lL k_) from(GE (e:=Ay) (d:=(0:Int)) (z:=[Nv]) rfl rfl rfl))) (gR q [1,2,5,6,7] U6 [(7,jP)] [] (c1 (Iq 1 Ay (0:Int))) (tC h λc7_ h=>tU q [1,2,5,6,7] U6 (c2 c7_ (Eq.refl 64)) (Mm (Wj 5 (show ∀ k_,k_<64->AVleL ((λi_=>AV.eraseAll (λn_=>Cb n_ U6) ((K0 (λi=>eB ((List.replicate 64 false).getD i false)) v1.toNat 0 [(.bool true)]) i_)) k_) ((f8 v1) k_) from(Ci rfl (λk_ hk_=>(B7 (AV.eraseAll (λn_=>Cb n_ U6)) ((Pe (λ_ _=>rfl) (N1 c7_) rfl) k_ hk_)).trans rfl)))) (gR q Td KW [(25,(.vsl 25 1))] [] trivial (Mm (Le.trans (Wj 25 (show ∀ k_,k_<1->AVleL ((λi_=>AV.eraseAll (λn_=>Cb n_ KW) ((λi_=>([(Z7 v1)].drop (i_*1)).take 1) i_)) k_) ((iH v1) k_) from(Ci rfl (fV (n:=0) jB rfl)))) (Sd (λ(k_:Nat) u=>(Fq u [(8,(.vsl 25 k_))] [(25,.arr 1 3 k_ (iH v1))])) (show 1=[v1].length from rfl))) (tC h λc8_ h=>tU q U4 KW (c2 c8_ (Eq.refl ([v1].length))) (Mm (st':=(mA v1 v18)) (Le.trans (Du (st':=⟨[LD,ZI,ZH,(7,jP),(8,(.vsl 25 [v1].length)),(9,(Z7 (TM v1)))],[(LE (YW v18)),(ZJ (f8 v1)),(YN lL),(25,.arr 1 3 ([v1].length) (iH v1))],[]⟩) U4 KW q) (Le.trans (ij (t:=7) (nm:=36007) (sz':=1) ky 3 rfl rfl) (Du (st':=(mA v1 v18)) U4 J6 q))) (tL q h U4 J6 (λu l9=>(Fq u [] [(j6 l9)])) (λu x_=>match x_ with|(.inl l10)=>aG Γ (.exit 0) (Fq u [] [(YN (js l10))])|(.inr (l11,l12,l13))=>aG Γ (.goto 0) (W7 Td J6 u [(8,(.vsl 25 l13.length))] [(5,.arr 1 207 64 (λi=>eB (l11.getD i false))),(j6 l12),(Z4 25 l13)])) (λl9 y h=>tC h λc14_ h=>tC h λc15_ h=>tU q [2,5,6,7,8,9,41] J6 (c3 c14_ (Eq.refl 64) c15_) (gC h (λh=>tC h λc16_ h=>tC h λc17_ h=>tC h λc18_ h=>tU q VG J6 (c4 c16_ c17_ (Eq.refl 64) c18_) (tC h λc19_ h=>tC h λc20_ h=>tU q VG J6 (c4 c19_ (Eq.refl 64) c20_ (Eq.refl 64)) (Mm (Wj 6 (show ∀ k_,k_<64->AVleL ((λi_=>AV.eraseAll PR ((K0 (λi=>Ay (l9.getD i 0)) (TM v1).toNat 0 [(.int .i64 (Bd ((l9.getD (TM v1).toNat (0:Int))+1)))]) i_)) k_) ((λi=>Ay ((Ju 64 (0:Int) l9 (TM v1).toNat (Bd ((l9.getD (TM v1).toNat (0:Int))+1))).getD i 0)) k_) from(Ci rfl (λk_ hk_=>(B7 (AV.eraseAll PR) ((Pe (λ_ _=>rfl) (N1 c20_) rfl) k_ hk_)).trans rfl)))) (tC h λc21_ h=>tU q dG J6 (c2 c21_ (Eq.refl 64)) (gC h (λh=>tC h λc22_ h=>tU q [2,5,6,7,8,10] J6 (c2 c22_ (Eq.refl 64)) (Mm (Wj 5 (show ∀ k_,k_<64->AVleL ((λi_=>AV.eraseAll PR ((K0 (f8 v1) (dZ v18 v1 l9).toNat 0 [(.bool true)]) i_)) k_) ((λi=>eB ((Ju 64 false (Ju 64 false (List.replicate 64 false) v1.toNat true) (dZ v18 v1 l9).toNat true).getD i false)) k_) from(Ci rfl (λk_ hk_=>(B7 (AV.eraseAll PR) ((Pe (λ_ _=>rfl) (N1 c22_) rfl) k_ hk_)).trans rfl)))) (tC h λc23_ h=>gR q Td J6 [(65,(jX (dZ v18 v1 l9)))] [] (c3 (Bu 1 Ay (0:Int) ([(dZ v18 v1 l9)]:A1)) (Eq.refl ([v1].length)) c23_) (tS h (gO (Dz (Le.trans (Le.trans (Wj 25 (show ∀ k_,k_<([v1].length+([(dZ v18 v1 l9)]:A1).length)->AVleL ((λi_=>AV.eraseAll PR ((Ja ([v1].length) (iH v1) (λi=>Ay (([(dZ v18 v1 l9)]:A1).getD i 0))) i_)) k_) ((λi=>Ay (([v1]++([(dZ v18 v1 l9)]:A1)).getD i 0)) k_) from(Ci (Hz _ _) (λk_ hk_=>(B7 (AV.eraseAll PR) ((V5 (λ_ _=>rfl) (λ_ _=>rfl)) k_ hk_)).trans rfl)))) (Sd (λ(k_:Nat) u=>(Fq u [(8,(.vsl 25 k_))] [(25,.arr 1 3 k_ (λi=>Ay (([v1]++([(dZ v18 v1 l9)]:A1)).getD i 0)))])) (show([v1].length+([(dZ v18 v1 l9)]:A1).length)=([v1]++([(dZ v18 v1 l9)]:A1)).length from(Hz _ _)))) Mx))))))) λh=>tS h (gN (Du U4 J6 q))))))) λh=>tS h (gO (Dz (Du U4 J6 q))))) λx24 h=>(match x24,h with | .inl l10,h=>gA (tC h λc26_ h=>gR q Td J6 [(69,(jX (TM v1)))] [] (c3 (Bu 1 Ay (0:Int) ([(TM v1)]:A1)) (Eq.refl (([]:A1).length)) c26_) (Mm (Le.trans (Wj 36007 (show ∀ k_,k_<(([]:A1).length+([(TM v1)]:A1).length)->AVleL ((λi_=>AV.eraseAll PR ((Ja (([]:A1).length) ky (λi=>Ay (([(TM v1)]:A1).getD i 0))) i_)) k_) ((jS v1) k_) from(Ci (Hz _ _) (λk_ hk_=>(B7 (AV.eraseAll PR) ((V5 (λ_ _=>rfl) (λ_ _=>rfl)) k_ hk_)).trans rfl)))) (Sd (λ(k_:Nat) u=>(Fq u [(7,(.vsl 36007 k_))] [(36007,.arr 1 3 k_ (jS v1))])) (show(([]:A1).length+([(TM v1)]:A1).length)=(db v1).length from(Hz _ _)))) (tC h λc27_ h=>tU q Td J6 (c1 c27_) (Tn (⟨[LD,ZI,ZH,(7,(.vsl 36007 (db v1).length)),(8,(.vsub 25 [v1].length 0 (jO v1)))],[(LE (YW v18)),(ZJ (f8 v1)),(YN (js l10)),(25,.arr 1 3 ([v1].length) (iH v1)),(36007,.arr 1 3 ((db v1).length) (jS v1))],[]⟩:St) (Mm (Le.trans (Le.trans (MV (t:=8) (r:=25) (k:=(jO v1)) rfl rfl c27_.2 (by kernel_rfl) (.row (by kernel_rfl) (.arr (λ_=>by kernel_rfl) (.arr (λ_=>by kernel_rfl) (.arr (λ_=>by kernel_rfl) (.arr (λ_=>by kernel_rfl) .nil))))) (by rw[hΓ];rfl)) (M6 (st':=⟨(mC v1),[(LE (YW v18)),(ZJ (f8 v1)),(YN (js l10)),(25,.arr 1 3 (jO v1) (iH v1)),(36007,.arr 1 3 ((db v1).length) (jS v1))],[]⟩) (by kernel_rfl))) (Le.trans (Kf (st':=⟨(mC v1),[(LE (YW v18)),(ZJ (f8 v1)),(YN (js l10)),(25,.arr 1 3 (jO v1) (λi=>Ay ((lM v1).getD i 0))),(36007,.arr 1 3 ((db v1).length) (jS v1))],[]⟩) (TmpsLe.refl _) (.same (.same (.same (.arr (UV (e:=Ay) (d:=(0:Int))) (.same .nil)))))) (M6 (B7 (λk_:Nat=>(⟨[LD,ZI,ZH,(7,(.vsl 36007 (db v1).length)),(8,(.vsl 25 k_))],[(LE (YW v18)),(ZJ (f8 v1)),(YN (js l10)),(25,.arr 1 3 k_ (λi=>Ay ((lM v1).getD i 0))),(36007,.arr 1 3 ((db v1).length) (jS v1))],[]⟩:St)) (show(jO v1)=(lM v1).length from OT c27_.2))))) (Ap q [2,5,6,7,8,78] J6 (gC h (λh=>tS h (ed (Du Td J6 q))) λh=>tB h λx28 y28 h=>tC h λc29_ h=>tT q [7] [36007] [⟨[(36007,34000)],[],(.tuple []),[(Z4 34000 x28)],[],[]⟩] (c1 (I7 y28)) (Mm (Sd (λ(k_:Nat) u=>(Fq u [(7,(.vsl 36007 k_))] [])) (show(db v1).length=x28.length from c29_)) (Ap q [4] [36007] (Tn (⟨[(4,(.vsl 36007 x28.length))],[(Z4 36007 x28)],[]⟩:St) (tS h (gf (R4 (Kz [(36007,20000)] (Le.trans (La (nm:=36007) (sz:=1) (n:=x28.length) (e:=3) (f:=(λi=>Ay (x28.getD i 0))) (g:=(λi=>Ay (x28.getD i 0))) rfl ⟨rfl,trivial⟩ (λ_ _=>rfl) (by rw[hΓ];rfl)) (M6 (st':=⟨[(4,(PV x28 36007))],[(36007,.tok 1 3 x28.length)],[]⟩) (by kernel_rfl))))))))))))))))) | .inr ⟨l11,l12,l13⟩,h=>ge (λst' hl30=>tS h (ed (Le.trans hl30 Mx))))))))))))))))) (λ⟨l1,l2,l3,l4⟩ y h=>tC h λc31_ h=>tU q U4 J6 (c2 c31_ (Eq.refl l3.length)) (tL q h U4 J6 (λu l32=>(Fq u [] [(j6 l32)])) (λu x_=>match x_ with|(.inl l33)=>aG Γ (.exit 0) (Fq u [] [(YN (jv l33))])|(.inr (l34,l35,l36))=>aG Γ (.goto 0) (W7 Td J6 u [(8,(.vsl 25 l36.length))] [(5,.arr 1 207 64 (λi=>eB (l34.getD i false))),(j6 l35),(Z4 25 l36)])) (λl32 y h=>tC h λc37_ h=>tC h λc38_ h=>tU q [2,5,6,7,8,9,41] J6 (c3 c37_ (Eq.refl 64) c38_) (gC h (λh=>tC h λc39_ h=>tC h λc40_ h=>tC h λc41_ h=>tU q VG J6 (c4 c39_ c40_ (Eq.refl 64) c41_) (tC h λc42_ h=>tC h λc43_ h=>tU q VG J6 (c4 c42_ (Eq.refl 64) c43_ (Eq.refl 64)) (Mm (Wj 6 (show ∀ k_,k_<64->AVleL ((λi_=>AV.eraseAll PR ((K0 (λi=>Ay (l32.getD i 0)) (YI l3).toNat 0 [(.int .i64 (Bd ((l32.getD (YI l3).toNat (0:Int))+1)))]) i_)) k_) ((λi=>Ay ((Ju 64 (0:Int) l32 (YI l3).toNat (Bd ((l32.getD (YI l3).toNat (0:Int))+1))).getD i 0)) k_) from(Ci rfl (λk_ hk_=>(B7 (AV.eraseAll PR) ((Pe (λ_ _=>rfl) (N1 c43_) rfl) k_ hk_)).trans rfl)))) (tC h λc44_ h=>tU q dG J6 (c2 c44_ (Eq.refl 64)) (gC h (λh=>tC h λc45_ h=>tU q [2,5,6,7,8,10] J6 (c2 c45_ (Eq.refl 64)) (Mm (Wj 5 (show ∀ k_,k_<64->AVleL ((λi_=>AV.eraseAll PR ((K0 (jQ l1) (da v18 l3 l32).toNat 0 [(.bool true)]) i_)) k_) ((λi=>eB ((Ju 64 false l1 (da v18 l3 l32).toNat true).getD i false)) k_) from(Ci rfl (λk_ hk_=>(B7 (AV.eraseAll PR) ((Pe (λ_ _=>rfl) (N1 c45_) rfl) k_ hk_)).trans rfl)))) (tC h λc46_ h=>gR q Td J6 [(65,(jX (da v18 l3 l32)))] [] (c3 (Bu 1 Ay (0:Int) ([(da v18 l3 l32)]:A1)) (Eq.refl l3.length) c46_) (tS h (gO (Dz (Le.trans (Le.trans (Wj 25 (show ∀ k_,k_<(l3.length+([(da v18 l3 l32)]:A1).length)->AVleL ((λi_=>AV.eraseAll PR ((Ja l3.length (λi=>Ay (l3.getD i 0)) (λi=>Ay (([(da v18 l3 l32)]:A1).getD i 0))) i_)) k_) ((λi=>Ay ((l3++([(da v18 l3 l32)]:A1)).getD i 0)) k_) from(Ci (Hz _ _) (λk_ hk_=>(B7 (AV.eraseAll PR) ((V5 (λ_ _=>rfl) (λ_ _=>rfl)) k_ hk_)).trans rfl)))) (Sd (λ(k_:Nat) u=>(Fq u [(8,(.vsl 25 k_))] [(25,.arr 1 3 k_ (λi=>Ay ((l3++([(da v18 l3 l32)]:A1)).getD i 0)))])) (show(l3.length+([(da v18 l3 l32)]:A1).length)=(l3++([(da v18 l3 l32)]:A1)).length from(Hz _ _)))) Mx))))))) λh=>tS h (gN (Du U4 J6 q))))))) λh=>tS h (gO (Dz (Du U4 J6 q))))) λx47 h=>(match x47,h with | .inl l33,h=>gA (tC h λc49_ h=>gR q Td J6 [(69,(jX (YI l3)))] [] (c3 (Bu 1 Ay (0:Int) ([(YI l3)]:A1)) (Eq.refl l4.length) c49_) (Mm (Le.trans (Wj 36007 (show ∀ k_,k_<(l4.length+([(YI l3)]:A1).length)->AVleL ((λi_=>AV.eraseAll PR ((Ja l4.length (λi=>Ay (l4.getD i 0)) (λi=>Ay (([(YI l3)]:A1).getD i 0))) i_)) k_) ((jR l4 l3) k_) from(Ci (Hz _ _) (λk_ hk_=>(B7 (AV.eraseAll PR) ((V5 (λ_ _=>rfl) (λ_ _=>rfl)) k_ hk_)).trans rfl)))) (Sd (λ(k_:Nat) u=>(Fq u [(7,(.vsl 36007 k_))] [(36007,.arr 1 3 k_ (jR l4 l3))])) (show(l4.length+([(YI l3)]:A1).length)=(YY l4 l3).length from(Hz _ _)))) (tC h λc50_ h=>tU q Td J6 (c1 c50_) (Tn (⟨[LD,ZI,ZH,(7,(.vsl 36007 (YY l4 l3).length)),(8,(.vsub 25 l3.length 0 (iG l3)))],[(LE (YW v18)),(ZJ (jQ l1)),(YN (jv l33)),(Z4 25 l3),(36007,.arr 1 3 ((YY l4 l3).length) (jR l4 l3))],[]⟩:St) (Mm (Le.trans (Le.trans (MV (t:=8) (r:=25) (k:=(iG l3)) rfl rfl c50_.2 (by kernel_rfl) (.row (by kernel_rfl) (.arr (λ_=>by kernel_rfl) (.arr (λ_=>by kernel_rfl) (.arr (λ_=>by kernel_rfl) (.arr (λ_=>by kernel_rfl) .nil))))) (by rw[hΓ];rfl)) (M6 (st':=⟨[LD,ZI,ZH,(7,(.vsl 36007 (YY l4 l3).length)),(8,(.vsl 25 (iG l3)))],[(LE (YW v18)),(ZJ (jQ l1)),(YN (jv l33)),(25,.arr 1 3 (iG l3) (λi=>Ay (l3.getD i 0))),(36007,.arr 1 3 ((YY l4 l3).length) (jR l4 l3))],[]⟩) (by kernel_rfl))) (Le.trans (Kf (st':=⟨[LD,ZI,ZH,(7,(.vsl 36007 (YY l4 l3).length)),(8,(.vsl 25 (iG l3)))],[(LE (YW v18)),(ZJ (jQ l1)),(YN (jv l33)),(25,.arr 1 3 (iG l3) (λi=>Ay ((l3.take (Bd ((l3.length:Int)-1)).toNat).getD i 0))),(36007,.arr 1 3 ((YY l4 l3).length) (jR l4 l3))],[]⟩) (TmpsLe.refl _) (.same (.same (.same (.arr (UV (e:=Ay) (d:=(0:Int))) (.same .nil)))))) (M6 (B7 (λk_:Nat=>(⟨[LD,ZI,ZH,(7,(.vsl 36007 (YY l4 l3).length)),(8,(.vsl 25 k_))],[(LE (YW v18)),(ZJ (jQ l1)),(YN (jv l33)),(25,.arr 1 3 k_ (λi=>Ay ((l3.take (Bd ((l3.length:Int)-1)).toNat).getD i 0))),(36007,.arr 1 3 ((YY l4 l3).length) (jR l4 l3))],[]⟩:St)) (show(iG l3)=(l3.take (Bd ((l3.length:Int)-1)).toNat).length from OT c50_.2))))) (Ap q [2,5,6,7,8,78] J6 (gC h (λh=>tS h (ed (Du Td J6 q))) λh=>tB h λx51 y51 h=>tC h λc52_ h=>tT q [7] [36007] [⟨[(36007,34000)],[],(.tuple []),[(Z4 34000 x51)],[],[]⟩] (c1 (I7 y51)) (Mm (Sd (λ(k_:Nat) u=>(Fq u [(7,(.vsl 36007 k_))] [])) (show(YY l4 l3).length=x51.length from c52_)) (Ap q [4] [36007] (Tn (⟨[(4,(.vsl 36007 x51.length))],[(Z4 36007 x51)],[]⟩:St) (tS h (gf (R4 (Kz [(36007,20000)] (Le.trans (La (nm:=36007) (sz:=1) (n:=x51.length) (e:=3) (f:=(λi=>Ay (x51.getD i 0))) (g:=(λi=>Ay (x51.getD i 0))) rfl ⟨rfl,trivial⟩ (λ_ _=>rfl) (by rw[hΓ];rfl)) (M6 (st':=⟨[(4,(PV x51 36007))],[(36007,.tok 1 3 x51.length)],[]⟩) (by kernel_rfl))))))))))))))))) | .inr ⟨l34,l35,l36⟩,h=>ge (λst' hl53=>tS h (ed (Le.trans hl53 Mx)))))) (Wf (λst' hk=>tS h (gK hk))))
def Wm(a6:Int)(aM:Int):Option Gm:=
 (some ((Dt ((Dt ((Dt ((W9 .u64 a6 (32:Int))*(W9 .u64 aM (32:Int))))+(W9 .u64 (Dt ((Dt ((W9 .u64 a6 (32:Int))*(Nz .and .u64 aM (4294967295:Int))))+(W9 .u64 (Dt ((Nz .and .u64 a6 (4294967295:Int))*(Nz .and .u64 aM (4294967295:Int)))) (32:Int)))) (32:Int))))+(W9 .u64 (Dt ((Nz .and .u64 (Dt ((Dt ((W9 .u64 a6 (32:Int))*(Nz .and .u64 aM (4294967295:Int))))+(W9 .u64 (Dt ((Nz .and .u64 a6 (4294967295:Int))*(Nz .and .u64 aM (4294967295:Int)))) (32:Int)))) (4294967295:Int))+(Dt ((Nz .and .u64 a6 (4294967295:Int))*(W9 .u64 aM (32:Int)))))) (32:Int)))),(Dt (a6*aM))))
variable{v19:Gm}
theorem FH(h:Wm v1 v11=some v19):sP 208 [(J8 v1),(J8 v11)] [] (.tuple [(J8 v19.1),(J8 v19.2)]) []:=
 sG Tryz.func208 λΓ q=>tW q Hb [] [0,1,6] [] (tU q [0,1,6,7] [] (c1 (show(0<=(32:Int)) from(by decide))) (Ap q [0,1,6,7,8] [] (tU q [0,1,6,7,8,9] [] (c1 (show(0<=(32:Int)) from(by decide))) (Ap q [0,1,6,7,8,9,10] [] (tU q [0,1,6,7,9,11] [] (c1 (show(0<=(32:Int)) from(by decide))) (Ap q [0,1,6,7,9,11,12] [] (tU q [0,1,6,7,9,12,13] [] (c1 (show(0<=(32:Int)) from(by decide))) (Ap q [0,1,7,9,12,13] [] (tU q [0,1,4] [] (c1 (show(0<=(32:Int)) from(by decide))) (Ap q Rm [] (tS h (De []))))))))))))
def Lc(a6:Int)(aM:Int):Option Gm:=
 ((Wm a6 aM).bind λx1=>(some (x1.1,x1.2)))
theorem Zh(h:Lc v1 v11=some v19):sP 185 [(J8 v1),(J8 v11)] [] (.tuple [(J8 v19.1),(J8 v19.2)]) []:=
 sG Tryz.func185 λΓ q=>Ap q Hb [] (WS false (tB h λx1 y1 h=>tT q [8,9] [] [⟨[],[],(.tuple [(J8 x1.1),(J8 x1.2)]),[],[],[]⟩] (c1 (FH y1)) (Ap q Rm [] (tS h (De [])))))
abbrev SW:=(Int×A1)
def Ca :SW->Option (LR (Int×A1) A1):=
 λ((i7,l8):SW)=>(bif (decide (i7<(l8.length:Int))) then(Cw (0<=i7/\0+i7.toNat<=l8.length) (Cw (0<=i7/\0+i7.toNat<=l8.length) (some (.next ((Bd (i7+((Nat.min ((0+i7.toNat)-0) (l8.length-(0+i7.toNat))):Int))),(QY l8 (0+i7.toNat) (Nat.min ((0+i7.toNat)-0) (l8.length-(0+i7.toNat))) (λi=>l8.getD (0+i) 0))))))) else(some (.done l8)))
def YZ(x3:Gm):=(List.replicate (Bd x3.2).toNat (0:Int))
def lO(x3:Gm)(a6:A1):=(QY (YZ x3) 0 (Nat.min a6.length ((YZ x3).length-0)) (λi=>a6.getD i 0))
def lN(l8:A1)(i7:Int):=(QY l8 (0+i7.toNat) (Nat.min ((0+i7.toNat)-0) (l8.length-(0+i7.toNat))) (λi=>l8.getD (0+i) 0))
def E5(a6:A1)(aY:Int):Option A1:=
 (Option.bind (α:=Unit) (bif (decide (aY<0)) then none else(some ())) (λx1=>(match x1 with|_=>((Lc (Dt (a6.length:Int)) (Dt aY)).bind λx3=>(Option.bind (α:=Unit) (bif (bif (decide ((0:Int)<x3.1)) then true else(decide ((9223372036854775807:Int)<x3.2))) then none else(some ())) (λx4=>(match x4 with|_=>(Cw (0<=(Bd x3.2)/\(Bd x3.2)<=(Bd x3.2)/\(Bd x3.2)<=(room:Int)) ((Ai (S:=SW) (X:=A1) Ca (((Nat.min a6.length ((List.replicate (Bd x3.2).toNat (0:Int)).length-0)):Int),(QY (List.replicate (Bd x3.2).toNat (0:Int)) 0 (Nat.min a6.length ((List.replicate (Bd x3.2).toNat (0:Int)).length-0)) (λi=>a6.getD i 0)))).bind (λx12=>(some x12)))))))))))
theorem O0(h:E5 v2 v1=some v17):sP 162 [(Pp v2),(Z7 v1)] [] (.vsl 20000 v17.length) [(Z4 20000 v17)]:=
 sG Tryz.func162 λΓ q=>gR q Hb [] [(4,gH)] [] (c1 (Iq 1 Ay (0:Int))) (tB h λx1 y1 h=>gJ y1 (λ_=>aG Γ .normal (⟨[(0,(Pp v2)),(1,(Z7 v1))],[],[]⟩:St)) (λy h=>Ap q AB [] (gC h (λh=>nomatch h) λh=>tS h (gK (Dz (Du Hb [] q))))) (gA (tB h λx3 y3 h=>tT q [0,5,6] [] [⟨[],[],(.tuple [(J8 x3.1),(J8 x3.2)]),[],[],[]⟩] (c1 (Zh y3)) (tB h λx4 y4 h=>gJ y4 (λ_=>aG Γ .normal (⟨[(0,(Pp v2)),(6,(J8 x3.2))],[],[]⟩:St)) (λy h=>tU q [0,6,26] [] (c2 (gI ((decide ((0:Int)<x3.1))==false)) (X0 (decide ((0:Int)<x3.1)))) (gC h (λh=>nomatch h) λh=>tS h (gK (Dz (Du [0,6] [] q))))) (gA (tV q [0,7] [30] h λh=>by exact Mm (Le.trans (Wj 30 (show ∀ k_,k_<((Bd x3.2).toNat)->AVleL ((λi_=>AV.eraseAll (λn_=>Cb n_ [30]) ((λ_=>[Nv]) i_)) k_) ((λi=>Ay ((YZ x3).getD i 0)) k_) from(λk hk=>Wn (e:=Ay) (d:=(0:Int)) (.cons (AVle.refl _) .nil) _ k (W5 hk)))) (Sd (λ(k_:Nat) u=>(Fq u [(7,(.vsl 30 k_))] [(30,.arr 1 3 k_ (λi=>Ay ((YZ x3).getD i 0)))])) (show(Bd x3.2).toNat=(YZ x3).length from(Xe ..).symm))) (tU q L3 [30] (c1 (Eq.refl ((YZ x3).length))) (Mm (Le.trans (Wj 30 (show ∀ k_,k_<((YZ x3).length)->AVleL ((λi_=>AV.eraseAll (λn_=>Cb n_ [30]) ((MH (λi=>Ay ((YZ x3).getD i 0)) 0 (Nat.min v2.length ((YZ x3).length-0)) (λi=>Ay (v2.getD i 0))) i_)) k_) ((λi=>Ay ((lO x3 v2).getD i 0)) k_) from(Ci (Fu ..) (λk_ hk_=>(B7 (AV.eraseAll (λn_=>Cb n_ [30])) ((AW (e:=Ay) (d:=(0:Int)) (l:=(YZ x3)) (s:=(λi=>v2.getD i 0)) (λ_ _=>rfl) (λ_ _=>rfl)) k_ hk_)).trans rfl)))) (Sd (λ(k_:Nat) u=>(Fq u [(7,(.vsl 30 k_))] [(30,.arr 1 3 k_ (λi=>Ay ((lO x3 v2).getD i 0)))])) (show(YZ x3).length=(lO x3 v2).length from(Fu ..)))) (tL q h L3 [30] (λu (i7,l8)=>(Fq u [(7,(.vsl 30 l8.length)),(8,(Z7 i7))] [(Z4 30 l8)])) (λu l9=>aG Γ (.exit 0) (⟨[(7,(.vsl 30 l9.length))],[(Z4 30 l9)],[]⟩:St)) (λ⟨i7,l8⟩ y h=>Ap q [7,8,37] [30] (gC h (λh=>tC h λc10_ h=>tC h λc11_ h=>tU q L3 [30] (c4 c10_ c11_ (Eq.refl l8.length) (Eq.refl l8.length)) (tS h (gN (Le.trans (Le.trans (Wj 30 (show ∀ k_,k_<l8.length->AVleL ((λi_=>AV.eraseAll (λn_=>Cb n_ [30]) ((MH (λi=>Ay (l8.getD i 0)) (0+i7.toNat) (Nat.min ((0+i7.toNat)-0) (l8.length-(0+i7.toNat))) (λi=>(λi=>Ay (l8.getD i 0)) (0+i))) i_)) k_) ((λi=>Ay ((lN l8 i7).getD i 0)) k_) from(Ci (Fu ..) (λk_ hk_=>(B7 (AV.eraseAll (λn_=>Cb n_ [30])) ((AW (e:=Ay) (d:=(0:Int)) (l:=l8) (s:=(λi=>l8.getD (0+i) 0)) (λ_ _=>rfl) (λ_ _=>rfl)) k_ hk_)).trans rfl)))) (Sd (λ(k_:Nat) u=>(Fq u [(7,(.vsl 30 k_))] [(30,.arr 1 3 k_ (λi=>Ay ((lN l8 i7).getD i 0)))])) (show l8.length=(lN l8 i7).length from(Fu ..)))) Mx)))) λh=>tS h (gO (Dz (Du [7] [30] q))))) λx12 h=>gA (Ap q [4] [30] (tS h (De [(30,20000)]))))))))))))
def Fm(aC:A1):(Int×List Bool)->Option (LR (Int×List Bool) (List Bool)):=
 λ((i2,l3):(Int×List Bool))=>(bif (i2 !=-1) then(Cw (Cd i2 l3.length) (Cw (Cd i2 aC.length) (some (.next ((aC.getD i2.toNat 0),(l3.set i2.toNat true)))))) else(some (.done l3)))
def Fn(aC:A1)(l4:List Bool):Int->Option (LR Int Int):=
 λ(i9:Int)=>(Cw (Cd i9 l4.length) (bif (!(l4.getD i9.toNat false)) then(Cw (Cd i9 aC.length) (some (.next (aC.getD i9.toNat 0)))) else(some (.done i9))))
def Lg(aC:A1)(aF:Int)(aH:Int):Option Int:=
 (Cw (0<=(aC.length:Int)/\(aC.length:Int)<=(aC.length:Int)/\(aC.length:Int)<=(room:Int)) ((Ai (Fm aC) (aF,(List.replicate (aC.length:Int).toNat false))).bind (λx7=>((Ai (Fn aC x7) aH).bind (λx13=>(some x13))))))
variable{v20:Int}
theorem Zi(h:Lg v2 v1 v11=some v20):sP 186 [(Pp v2),(Z7 v1),(Z7 v11)] [] (.int .i64 v20) []:=
 sG Tryz.func186 λΓ q=>Ap q EU [] (tV q [0,1,2,7] [11] h λh=>by exact Mm (Le.trans (Wj 11 (show ∀ k_,k_<((v2.length:Int).toNat)->AVleL ((λi_=>AV.eraseAll (λn_=>Cb n_ [11]) ((λ_=>[(.bool false)]) i_)) k_) ((λi=>eB ((List.replicate (v2.length:Int).toNat false).getD i false)) k_) from(λk hk=>Wn (e:=eB) (d:=false) (.cons (AVle.refl _) .nil) _ k (W5 hk)))) (Sd (λ(k_:Nat) u=>(Fq u [(7,(.vsl 11 k_))] [(11,.arr 1 4 k_ (λi=>eB ((List.replicate (v2.length:Int).toNat false).getD i false)))])) (show(v2.length:Int).toNat=(List.replicate (v2.length:Int).toNat false).length from(Xe ..).symm))) (Ap q KY [11] (tL q h KY [11] (λu (i2,l3)=>(Fq u [(7,(.vsl 11 l3.length)),(8,(Z7 i2))] [(11,.arr 1 4 l3.length (λi=>eB (l3.getD i false)))])) (λu l4=>aG Γ (.exit 0) (W7 [0,2,7] [11] u [(7,(.vsl 11 l4.length))] [(11,.arr 1 4 l4.length (λi=>eB (l4.getD i false)))])) (λ⟨i2,l3⟩ y h=>Ap q [0,2,7,8,14] [11] (gC h (λh=>tC h λc5_ h=>tU q KY [11] (c2 c5_ (Eq.refl l3.length)) (Mm (Le.trans (Wj 11 (show ∀ k_,k_<l3.length->AVleL ((λi_=>AV.eraseAll (λn_=>Cb n_ [11]) ((K0 (λi=>eB (l3.getD i false)) i2.toNat 0 [(.bool true)]) i_)) k_) ((λi=>eB ((l3.set i2.toNat true).getD i false)) k_) from(Ci (Hv ..).symm (λk_ hk_=>(B7 (AV.eraseAll (λn_=>Cb n_ [11])) ((Ly (λ_ _=>rfl) (N2 c5_) rfl) k_ hk_)).trans rfl)))) (Sd (λ(k_:Nat) u=>(Fq u [(7,(.vsl 11 k_))] [(11,.arr 1 4 k_ (λi=>eB ((l3.set i2.toNat true).getD i false)))])) (show l3.length=(l3.set i2.toNat true).length from(Hv ..).symm))) (tV q KY [11] h λh=>tN h))) λh=>tS h (gO (Dz (Du [0,2,7] [11] q))))) λx7 h=>gA (tL q h [0,2,7] [11] (λu i9=>(Fq u [(2,(Z7 i9))] [])) (λu i10=>aG Γ (.exit 2) (⟨[(2,(Z7 i10))],[],[]⟩:St)) (λi9 y h=>tC h λc11_ h=>tU q [0,2,7,26] [11] (c2 c11_ (Eq.refl x7.length)) (gC h (λh=>tV q [0,2,7] [11] h λh=>tN h) λh=>tS h (gO (Dz (Du [2] [] q))))) λx13 h=>gA (Ap q [6] [] (tS h (De [])))))))
def Dx(aC:A1)(aA:A1):Gm->Option kl:=
 λ((i1,i2):Gm)=>(bif (decide (i2<(aA.length:Int))) then(Option.bind (α:=Int) (Cw (Cd i2 aA.length) (Cw (Cd (aA.getD i2.toNat 0) aC.length) (bif ((aC.getD (aA.getD i2.toNat 0).toNat (0:Int))==-2) then(some i1) else(bif (i1==-2) then(some (aA.getD i2.toNat 0)) else((Lg aC i1 (aA.getD i2.toNat 0)).bind λx7=>(some x7)))))) (λx8=>(some (.next (x8,(Bd (i2+1))))))) else(some (.done i1)))
def Hx(aC:A1)(aA:A1):Option Int:=
 ((Ai (Dx aC aA) ((-2:Int),(0:Int))).bind (λx10=>(some x10)))
theorem Sl(h:Hx v2 v17=some v1):sP 163 [(Pp v2),(Pp v17)] [] (.int .i64 v1) []:=
 sG Tryz.func163 λΓ q=>tW q Hb [] EV [] (Ap q IK [] (tL q h IK [] (λu (i1,i2)=>(Fq u [(5,(Z7 i1)),(10,(Z7 i2))] [])) (λu i3=>aG Γ (.exit 0) (⟨[(5,(Z7 i3))],[],[]⟩:St)) (λ⟨i1,i2⟩ y h=>Ap q [0,5,8,9,10,11] [] (gC h (λh=>tB h λx8 y8 h=>gJ y8 (λi4=>aG Γ .normal (⟨[(0,(Pp v2)),(5,(Z7 i4)),(8,(Pp v17)),(9,(LC v17.length)),(10,(Z7 i2))],[],[]⟩:St)) (λy h=>tV q [0,5,7,8,9,10] [] h λh=>tV q [0,5,7,8,9,10,18] [] h λh=>gC h (λh=>tS h (gK (Dz (Du IK [] q)))) λh=>Ap q [0,5,7,8,9,10,24] [] (gC h (λh=>Ap q IK [] (tS h (gK (Dz Mx)))) λh=>tB h λx7 y7 h=>tT q IK [] [(VU x7)] (c1 (Zi y7)) (tS h (gK (Dz Mx))))) (gA (Ap q IK [] (tN h)))) λh=>tS h (gO (Dz (Du [5] [] q))))) λx10 h=>gA (Ap q [4] [] (tS h (De [])))))
set_option maxRecDepth 100000
set_option maxHeartbeats 2000000
abbrev fu:=(Bool×Int×A1)
abbrev kZ:=(LR (Bool×Int×A1) (Bool×A1))
abbrev dC:=(Bool×A1)
def Dr(aD:Cz)(x3:A1):fu->Option kZ:=
 λ((b7,i8,l9):fu)=>(bif (decide (i8<((x3.drop (1:Int).toNat).length:Int))) then(Option.bind (α:=dC) (Cw (Cd i8 (x3.drop (1:Int).toNat).length) (Cw (Cd ((x3.drop (1:Int).toNat).getD i8.toNat 0) aD.Pred.length) ((Hx l9 (aD.Pred.getD ((x3.drop (1:Int).toNat).getD i8.toNat 0).toNat [])).bind λx16=>(Cw (Cd ((x3.drop (1:Int).toNat).getD i8.toNat 0) l9.length) (bif (x16 !=(l9.getD ((x3.drop (1:Int).toNat).getD i8.toNat 0).toNat (0:Int))) then(Cw (Cd ((x3.drop (1:Int).toNat).getD i8.toNat 0) l9.length) (some (true,(l9.set ((x3.drop (1:Int).toNat).getD i8.toNat 0).toNat x16)))) else(some (b7,l9))))))) (λ(b12,l13)=>(some (.next (b12,(Bd (i8+1)),l13))))) else(some (.done (b7,l9))))
def Oo(aD:Cz)(l1:A1):fu->Option kZ:=
 λ((b24,i25,l26):fu)=>(bif (decide (i25<((l1.drop (1:Int).toNat).length:Int))) then(Option.bind (α:=dC) (Cw (Cd i25 (l1.drop (1:Int).toNat).length) (Cw (Cd ((l1.drop (1:Int).toNat).getD i25.toNat 0) aD.Pred.length) ((Hx l26 (aD.Pred.getD ((l1.drop (1:Int).toNat).getD i25.toNat 0).toNat [])).bind λx33=>(Cw (Cd ((l1.drop (1:Int).toNat).getD i25.toNat 0) l26.length) (bif (x33 !=(l26.getD ((l1.drop (1:Int).toNat).getD i25.toNat 0).toNat (0:Int))) then(Cw (Cd ((l1.drop (1:Int).toNat).getD i25.toNat 0) l26.length) (some (true,(l26.set ((l1.drop (1:Int).toNat).getD i25.toNat 0).toNat x33)))) else(some (b24,l26))))))) (λ(b29,l30)=>(some (.next (b29,(Bd (i25+1)),l30))))) else(some (.done (b24,l26))))
abbrev dD:=(A1×A1)
def Es(aD:Cz):dD->Option (LR (A1×A1) A1):=
 λ(s_:dD)=>match s_ with|(l1,l2)=>(Cw (0<=(1:Int)/\(1:Int)<=(l1.length:Int)) ((Ai (Oo aD l1) (false,(0:Int),l2)).bind (λx38=>(match x38 with|(b27,l28)=>(bif b27 then(some (.next (l1,l28))) else(some (.done l28)))))))
def PZ(Γ:Gw)(aD:Cz)(aS:Int)(r:A1):Exit->St->Prop:=fK Tryz.prog Γ Tryz.f124.results.toList [] (PV r 20000) [(20000,.tok 1 3 r.length)]
def jT:=(λn_=>Cb n_ [2,13,21])
def k5:List g9:=[(4,gH)]
def k4(x3:A1)(i8:Int):=((x3.drop (1:Int).toNat).getD i8.toNat 0)
def kz(l1:A1)(i25:Int):=((l1.drop (1:Int).toNat).getD i25.toNat 0)
def lP(aD:Cz):List AV:=[(PU aD.Succ),(PU aD.Pred)]
def mD:=(Z61:St)
def M8(aD:Cz)(aS:Int):Option A1:=
 ((O1 (S:=dD) (X:=A1) ((Gs aD aS).bind λx3=>(bif ((x3.length:Int)==0) then(some (.done ([]:A1))) else((E5 ([(-2:Int)]:A1) (aD.Succ.length:Int)).bind λx4=>(Cw (Cd aS x4.length) (Cw (0<=(1:Int)/\(1:Int)<=(x3.length:Int)) ((Ai (Dr aD x3) (false,(0:Int),(x4.set aS.toNat (-1:Int)))).bind (λ(b10,l11)=>(bif b10 then(some (.next (x3,l11))) else(some (.done l11)))))))))) (Es aD)).bind (λx40=>(some x40)))
theorem NQ(h:M8 v18 v1=some v2):sP 124 [(.agg (Px v18)),(Z7 v1)] [] (PV v2 20000) [(20000,.tok 1 3 v2.length)]:=
 sG Tryz.func124 λΓ q=>have hΓ:=q.own;gR q Xp [2] k5 [] (c1 (Iq 1 Ay (0:Int))) (tB h λx40 y40 h=>gS y40 (λ(s_:dD)=>match s_ with|(l1,l2)=>0) (λ(s_:dD)=>match s_ with|(l1,l2)=>(⟨[LD,(5,(PV l1 13)),(6,(.vsl 21 l2.length))],[(LE (lP v18)),(13,.tok 1 3 l1.length),(Z4 21 l2)],[]⟩:St)) (λr_=>aR (PZ Γ v18 v1 r_)) (λy h=>tB h λx3 y3 h=>tT q IR [2,13] [⟨[],[(20000,13)],(PV x3 20000),[(20000,.tok 1 3 x3.length)],[],[]⟩] (c1 (Sn y3)) (Ap q [1,2,5,16] [2,13] (gC h (λh=>gR q [4] [] k5 [] (c1 (Iq 1 Ay (0:Int))) (Tn (⟨k5,[],[]⟩:St) (tS h (gf (R4 (Kz [(6004,20000)] (show Le Γ _ mD from Le.trans (Du (st':=⟨k5,[],[]⟩) [4] [] q) (Le.trans (RM (t:=4) (nm:=6004) (sz':=1) (λi=>Ay (([]:A1).getD i 0)) 3 rfl rfl (.inl ⟨rfl,rfl⟩) (λh_=>absurd h_ (by decide))) (Du (st':=mD) [4] [6004] q))))))))) λh=>tB h λx4 y4 h=>gR q [1,2,5,6] J7 [(17,(AV.list 1 Ay 0 ([(-2:Int)]:A1) .exact))] [⟨[],[(20000,21)],(.vsl 20000 x4.length),[(Z4 20000 x4)],[],[]⟩] (c2 (Bu 1 Ay (0:Int) ([(-2:Int)]:A1)) (O0 y4)) (tC h λc5_ h=>tU q U6 J7 (c2 c5_ (Eq.refl x4.length)) (Mm (Le.trans (Wj 21 (show ∀ k_,k_<x4.length->AVleL ((λi_=>AV.eraseAll jT ((K0 (λi=>Ay (x4.getD i 0)) v1.toNat 0 [(.int .i64 (-1:Int))]) i_)) k_) ((λi=>Ay ((x4.set v1.toNat (-1:Int)).getD i 0)) k_) from(Ci (Hv ..).symm (λk_ hk_=>(B7 (AV.eraseAll jT) ((Ly (λ_ _=>rfl) (N2 c5_) rfl) k_ hk_)).trans rfl)))) (Sd (λ(k_:Nat) u=>(Fq u [(6,(.vsl 21 k_))] [(21,.arr 1 3 k_ (λi=>Ay ((x4.set v1.toNat (-1:Int)).getD i 0)))])) (show x4.length=(x4.set v1.toNat (-1:Int)).length from(Hv ..).symm))) (Ap q IP J7 (tC h λc6_ h=>gR q U3 J7 [(26,(AV.list 1 Ay 0 (x3.drop (1:Int).toNat) .none))] [] (c2 c6_ (show(AVle (.slice 1 (x3.length-(1:Int).toNat) (λi=>Ay (x3.getD ((1:Int).toNat+i) 0)) .none) (AV.list 1 Ay 0 (x3.drop (1:Int).toNat) .none)) from JH)) (tL q h U3 J7 (λu (b7,i8,l9)=>(Fq u [(6,(.vsl 21 l9.length)),(7,(.bool b7)),(28,(Z7 i8))] [(Z4 21 l9)])) (λu (b10,l11)=>aG Γ (.exit 0) (W7 IP J7 u [(6,(.vsl 21 l11.length)),(7,(.bool b10))] [(Z4 21 l11)])) (λ⟨b7,i8,l9⟩ y h=>Ap q iB J7 (gC h (λh=>tB h λx19 y19 h=>gJ y19 (λ(b12,l13)=>aG Γ .normal (⟨[LD,(5,(PV x3 13)),(6,(.vsl 21 l13.length)),(7,(.bool b12)),(26,(AV.list 1 Ay 0 (x3.drop (1:Int).toNat) .none)),(27,(.int .i64 ((x3.drop (1:Int).toNat).length:Int))),(28,(Z7 i8))],[(LE (lP v18)),(13,.tok 1 3 x3.length),(Z4 21 l13)],[]⟩:St)) (λy h=>tV q iC J7 h λh=>tC h λc15_ h=>tB h λx16 y16 h=>tT q h9 J7 [⟨[],[],(Z7 x16),[],[21],[]⟩] (c4 c15_ (Sl y16) (show(CH []) from trivial) (Eq.refl l9.length)) (tC h λc17_ h=>tU q hZ J7 (c2 c17_ (Eq.refl l9.length)) (gC h (λh=>tC h λc18_ h=>tU q U3 J7 (c2 c18_ (Eq.refl l9.length)) (tS h (gK (Dz (Le.trans (Le.trans (Wj 21 (show ∀ k_,k_<l9.length->AVleL ((λi_=>AV.eraseAll jT ((K0 (λi=>Ay (l9.getD i 0)) (k4 x3 i8).toNat 0 [(Z7 x16)]) i_)) k_) ((λi=>Ay ((l9.set (k4 x3 i8).toNat x16).getD i 0)) k_) from(Ci (Hv ..).symm (λk_ hk_=>(B7 (AV.eraseAll jT) ((Ly (λ_ _=>rfl) (N2 c18_) rfl) k_ hk_)).trans rfl)))) (Sd (λ(k_:Nat) u=>(Fq u [(6,(.vsl 21 k_))] [(21,.arr 1 3 k_ (λi=>Ay ((l9.set (k4 x3 i8).toNat x16).getD i 0)))])) (show l9.length=(l9.set (k4 x3 i8).toNat x16).length from(Hv ..).symm))) Mx))))) λh=>tS h (gK (Dz (Du U3 J7 q)))))) (match x19,h with|⟨b12,l13⟩,h=>gA (Ap q U3 J7 (tN h)))) λh=>tS h (gO (Dz (Du IP J7 q))))) λx21 h=>(match x21,h with|⟨b10,l11⟩,h=>gA (Ap q [2,5,6,50] J7 (gC h (λh=>tS h (ed (Du U6 J7 q))) λh=>Ap q [4] [21] (Tn (⟨[(4,(.vsl 21 l11.length))],[(Z4 21 l11)],[]⟩:St) (tS h (gf (R4 (Kz [(21,20000)] (Le.trans (La (nm:=21) (sz:=1) (n:=l11.length) (e:=3) (f:=(λi=>Ay (l11.getD i 0))) (g:=(λi=>Ay (l11.getD i 0))) rfl ⟨rfl,trivial⟩ (λ_ _=>rfl) (by rw[hΓ];rfl)) (M6 (st':=⟨[(4,(PV l11 21))],[(21,.tok 1 3 l11.length)],[]⟩) (by kernel_rfl))))))))))))))))))) (λ⟨l1,l2⟩ y h=>Ap q IP J7 (tC h λc23_ h=>gR q U3 J7 [(26,(AV.list 1 Ay 0 (l1.drop (1:Int).toNat) .none))] [] (c2 c23_ (show(AVle (.slice 1 (l1.length-(1:Int).toNat) (λi=>Ay (l1.getD ((1:Int).toNat+i) 0)) .none) (AV.list 1 Ay 0 (l1.drop (1:Int).toNat) .none)) from JH)) (tL q h U3 J7 (λu (b24,i25,l26)=>(Fq u [(6,(.vsl 21 l26.length)),(7,(.bool b24)),(28,(Z7 i25))] [(Z4 21 l26)])) (λu (b27,l28)=>aG Γ (.exit 0) (W7 IP J7 u [(6,(.vsl 21 l28.length)),(7,(.bool b27))] [(Z4 21 l28)])) (λ⟨b24,i25,l26⟩ y h=>Ap q iB J7 (gC h (λh=>tB h λx36 y36 h=>gJ y36 (λ(b29,l30)=>aG Γ .normal (⟨[LD,(5,(PV l1 13)),(6,(.vsl 21 l30.length)),(7,(.bool b29)),(26,(AV.list 1 Ay 0 (l1.drop (1:Int).toNat) .none)),(27,(.int .i64 ((l1.drop (1:Int).toNat).length:Int))),(28,(Z7 i25))],[(LE (lP v18)),(13,.tok 1 3 l1.length),(Z4 21 l30)],[]⟩:St)) (λy h=>tV q iC J7 h λh=>tC h λc32_ h=>tB h λx33 y33 h=>tT q h9 J7 [⟨[],[],(Z7 x33),[],[21],[]⟩] (c4 c32_ (Sl y33) (show(CH []) from trivial) (Eq.refl l26.length)) (tC h λc34_ h=>tU q hZ J7 (c2 c34_ (Eq.refl l26.length)) (gC h (λh=>tC h λc35_ h=>tU q U3 J7 (c2 c35_ (Eq.refl l26.length)) (tS h (gK (Dz (Le.trans (Le.trans (Wj 21 (show ∀ k_,k_<l26.length->AVleL ((λi_=>AV.eraseAll jT ((K0 (λi=>Ay (l26.getD i 0)) (kz l1 i25).toNat 0 [(Z7 x33)]) i_)) k_) ((λi=>Ay ((l26.set (kz l1 i25).toNat x33).getD i 0)) k_) from(Ci (Hv ..).symm (λk_ hk_=>(B7 (AV.eraseAll jT) ((Ly (λ_ _=>rfl) (N2 c35_) rfl) k_ hk_)).trans rfl)))) (Sd (λ(k_:Nat) u=>(Fq u [(6,(.vsl 21 k_))] [(21,.arr 1 3 k_ (λi=>Ay ((l26.set (kz l1 i25).toNat x33).getD i 0)))])) (show l26.length=(l26.set (kz l1 i25).toNat x33).length from(Hv ..).symm))) Mx))))) λh=>tS h (gK (Dz (Du U3 J7 q)))))) (match x36,h with|⟨b29,l30⟩,h=>gA (Ap q U3 J7 (tN h)))) λh=>tS h (gO (Dz (Du IP J7 q))))) λx38 h=>(match x38,h with|⟨b27,l28⟩,h=>gA (Ap q [2,5,6,50] J7 (gC h (λh=>tS h (ed (Du U6 J7 q))) λh=>Ap q [4] [21] (Tn (⟨[(4,(.vsl 21 l28.length))],[(Z4 21 l28)],[]⟩:St) (tS h (gf (R4 (Kz [(21,20000)] (Le.trans (La (nm:=21) (sz:=1) (n:=l28.length) (e:=3) (f:=(λi=>Ay (l28.getD i 0))) (g:=(λi=>Ay (l28.getD i 0))) rfl ⟨rfl,trivial⟩ (λ_ _=>rfl) (by rw[hΓ];rfl)) (M6 (st':=⟨[(4,(PV l28 21))],[(21,.tok 1 3 l28.length)],[]⟩) (by kernel_rfl)))))))))))))) (Wf (λst' hk=>tS h (gK hk))))
def Hj(aa2:List F8)(aa4:A1):Int->Option (LR Int (Unit ⊕ Bool)):=
 λ(i1:Int)=>(bif (decide (i1<(aa2.length:Int))) then(Cw (Cd i1 aa2.length) ((D8 ((aa2.getD i1.toNat default).From) aa4).bind λx3=>(bif (bif (!x3) then true else((((aa2.getD i1.toNat default).Args).length:Int)!=(aa4.length:Int))) then(some (.done (.inr false))) else(some (.next (Bd (i1+1))))))) else(some (.done (.inl ()))))
def AD(Γ:Gw)(aa2:List F8)(aa4:A1)(r:Bool):Exit->St->Prop:=fK Tryz.prog Γ Tryz.f125.results.toList [] (.bool r) []
def Jk(aa2:List F8)(aa4:A1):Option Bool:=
 ((Ai (Hj aa2 aa4) (0:Int)).bind (λx4=>(match x4 with|(.inl _)=>(some true)|(.inr r6)=>(some r6))))
theorem Yf(h:Jk v5 v2=some v3):sP 125 [(AV.list 4 Wa default v5 .none),(Pp v2)] [] (.bool v3) []:=
 sG Tryz.func125 λΓ q=>tW q Hb [] H2 [] (tL q h H2 [] (λu i1=>(Fq u [(9,(Z7 i1))] [])) (λu x_=>match x_ with|(.inl _)=>aG Γ (.exit 0) (⟨[],[],[]⟩:St)|(.inr r_)=>aR (AD Γ v5 v2 r_)) (λi1 y h=>Ap q Z0 [] (gC h (λh=>tV q AA [6] h λh=>tB h λx3 y3 h=>tT q [1,7,8,9,25] [] [(Z2 x3)] (ci (J0 y3) (kB ((!x3)==false) (c1 (X0 (!x3))))) (gC h (λh=>Ap q [4] [] (tS h (gO (R4 (Kz [] (Le.refl _ _)))))) λh=>Ap q H2 [] (tN h))) λh=>tS h (gO (Dz (Du [] [] q))))) λx4 h=>(match x4,h with | .inl _,h=>gA (Ap q [4] [] (tS h (De []))) | .inr r6,h=>Wf (λst' hk=>tS h (gK hk))))
def mE(aE:Ip):=(bif (aE.Kind==0) then true else(aE.Kind==2))
def Ho(aE:Ip):Option Bool:=
 (some (bif (bif (aE.Kind==0) then true else(aE.Kind==2)) then true else(aE.Arg==0)))
theorem Ye(h:Ho v8=some v3):sP 126 [(.agg (bG v8))] [] (.bool v3) []:=
 sG Tryz.func126 λΓ q=>Ap q [1] [1] (tU q [2] [] (Uj ((v8.Kind==0)==false) (ci (X0 (v8.Kind==0)) (Uj ((mE v8)==false) (c1 (X0 (mE v8)))))) (tS h (De [])))
def Cj(a0:Ab)(a4:Int)(a5:List A7)(x1:ku)(x3:A1):Int->Option (LR Int (Unit ⊕ (Int×Ab×Int×A1×List A7))):=
 λ(i4:Int)=>(bif (decide (i4<(a0.Blocks.length:Int))) then(Cw (Cd i4 a0.Blocks.length) (Cw (Cd i4 x1.1.Pred.length) ((Jk ((a0.Blocks.getD i4.toNat default).Phis) (x1.1.Pred.getD i4.toNat [])).bind λx7=>((bif ((!x7)==false) then Ho (⟨(a0.Blocks.getD i4.toNat default).End.Kind,(a0.Blocks.getD i4.toNat default).End.Arg,(a0.Blocks.getD i4.toNat default).End.To⟩:Ip) else some false).bind λx8=>(bif (bif (!x7) then true else(!x8)) then(some (.done (.inr ((5:Int),a0,a4,x3,a5)))) else(some (.next (Bd (i4+1))))))))) else(some (.done (.inl ()))))
def Pr(Γ:Gw)(a0:Ab)(a4:Int)(a9:A1)(a5:List A7)(r:YD):Exit->St->Prop:=fK Tryz.prog Γ Tryz.f92.results.toList (Z3 a0.Params a0.Ret a0.Blocks a4 a9 a5 a5.length) (Z7 r.1) (Z3 r.2.1.Params r.2.1.Ret r.2.1.Blocks r.2.2.1 r.2.2.2.1 r.2.2.2.2 r.2.2.2.2.length)
def lQ(x1:ku):=((x1.2 !=0)==false)
def mF(x3:A1)(a0:Ab)(a4:Int)(a5:List A7):List SV:=[(31,.tok 1 3 x3.length),(30000,.row 110 [(Pp a0.Params),(Z7 a0.Ret),(YK a0.Blocks),(Z7 a4),(Pp x3),.nilm,(AV.list 5 I6 default a5 (.own 37006))]),(Z8 a5.length)]
def k6(x3:A1)(a0:Ab)(a4:Int)(a5:List A7):List SV:=[(31,.tok 1 3 x3.length),(30000,.row 110 [(Pp a0.Params),(Z7 a0.Ret),(YK a0.Blocks),(Z7 a4),(PV x3 31),.nilm,(AV.list 5 I6 default a5 (.own 37006))]),(Z8 a5.length)]
def Fj(a0:Ab)(a4:Int)(a9:A1)(a5:List A7):Option YD:=
 ((Qc a0).bind λx1=>((bif ((x1.2 !=0)==false) then Gs x1.1 (0:Int) else some []).bind λx2=>(bif (bif (x1.2 !=0) then true else(decide ((x2.length:Int)<(a0.Blocks.length:Int)))) then(some ((5:Int),a0,a4,a9,a5)) else((M8 x1.1 (0:Int)).bind λx3=>((Ai (Cj a0 a4 a5 x1 x3) (0:Int)).bind (λx9=>(match x9 with|(.inl _)=>(some ((0:Int),a0,a4,x3,a5))|(.inr r11)=>(some r11))))))))
theorem Pb(h:Fj v0 v1 v2 v12=some v13):sP 92 [Xq] (Z3 v0.Params v0.Ret v0.Blocks v1 v2 v12 v12.length) (Z7 v13.1) (Z3 v13.2.1.Params v13.2.1.Ret v13.2.1.Blocks v13.2.2.1 v13.2.2.2.1 v13.2.2.2.2 v13.2.2.2.2.length):=
 sG Tryz.func92 λΓ q=>Ap q [0] Fe (tB h λx1 y1 h=>tT q [0,3,4] PJ [⟨[],[],(.tuple [(.agg (Px x1.1)),(Z7 x1.2)]),[],[],[]⟩] (c1 (NR y1)) (tB h λx2 y2 h=>tT q [0,3,28] PJ [⟨[],[],(Pp x2),[],[],[]⟩] (YO (gI (lQ x1)) (show((lQ x1)=true->(sP 123 [(.agg (Px x1.1)),Nv] [] (Pp x2) [])) from(λhg=>(Spec.drop (Sn (Bs hg y2))))) (mj (lQ x1) (c1 (X0 (x1.2 !=0))))) (gC h (λh=>Ap q [2] Fe (tS h (De AO))) λh=>tB h λx3 y3 h=>tT q U8 IH [⟨[],[(20000,31)],(PV x3 20000),[(20000,.tok 1 3 x3.length)],[],[]⟩] (c1 (NQ y3)) (Ap q TG IH (tL q h TG IH (λu i4=>(Fq u [(40,(Z7 i4))] [])) (λu x_=>match x_ with|(.inl _)=>aG Γ (.exit 0) (W7 [] II u [] [])|(.inr r_)=>aR (Pr Γ v0 v1 v2 v12 r_)) (λi4 y h=>Ap q [3,38,39,40,41] IH (gC h (λh=>tV q [3,5,6,38,39,40] [3,6,31,30000,37006] h λh=>tC h λc6_ h=>tB h λx7 y7 h=>tB h λx8 y8 h=>tT q [3,38,39,40,59] IH [(Z2 x7),(Z2 x8)] (YO c6_ (Yf y7) (Uj ((!x7)==false) (c3 (λ(hg:((!x7)==false)=true)=>(Ye (Bs hg y8))) (gI ((!x7)==false)) (X0 (!x7))))) (gC h (λh=>Ap q [2] II (Tn (⟨[(2,(.int .i64 (5:Int)))],(k6 x3 v0 v1 v12),[]⟩:St) (tS h (gO (R4 (Kz AO (show Le Γ _ (⟨[(2,(.int .i64 (5:Int)))],(mF x3 v0 v1 v12),[]⟩:St) from Le.trans (Du (st':=⟨[(2,(.int .i64 (5:Int)))],(k6 x3 v0 v1 v12),[]⟩) [2] II q) (Kf (.cons (AVle.refl _) .nil) (.same (.row (.cons (AVle.refl _) (.cons (AVle.refl _) (.cons (AVle.refl _) (.cons (AVle.refl _) (.cons AVle.untag (.cons (AVle.refl _) (.cons (AVle.refl _) .nil))))))) (.same .nil))))))))))) λh=>Ap q TG IH (tN h))) λh=>tS h (gO (Dz (Du [] II q))))) λx9 h=>(match x9,h with | .inl _,h=>gA (Ap q [2] II (Tn (⟨[(2,Nv)],(k6 x3 v0 v1 v12),[]⟩:St) (tS h (gK (e:=.ret) (Kz AO (show Le Γ _ (⟨[(2,Nv)],(mF x3 v0 v1 v12),[]⟩:St) from Le.trans (Du (st':=⟨[(2,Nv)],(k6 x3 v0 v1 v12),[]⟩) [2] II q) (Kf (.cons (AVle.refl _) .nil) (.same (.row (.cons (AVle.refl _) (.cons (AVle.refl _) (.cons (AVle.refl _) (.cons (AVle.refl _) (.cons AVle.untag (.cons (AVle.refl _) (.cons (AVle.refl _) .nil))))))) (.same .nil)))))))))) | .inr r11,h=>Wf (λst' hk=>tS h (gK hk))))))))
def Gt(aL:Int):Option Bool:=
 (Option.bind (α:=Bool) (bif (aL==1) then(some (aL==1)) else(bif (aL==8) then(some (aL==8)) else(bif (aL==16) then(some (aL==16)) else(bif (aL==32) then(some (aL==32)) else(some (aL==64)))))) (λx2=>(bif x2 then(some true) else(some false))))
theorem Ii(h:Gt v1=some v3):sP 128 [(Z7 v1)] [] (.bool v3) []:=
 sG Tryz.func128 λΓ q=>tW q [0] [] [3] [] (tB h λx2 y2 h=>gJ y2 (λb1=>aG Γ .normal (⟨[(4,(.bool b1))],[],[]⟩:St)) (λy h=>Ap q [3,4] [] (gC h (λh=>tS h (gK (Dz (Du [4] [] q)))) λh=>Ap q [3,4] [] (gC h (λh=>tS h (gK (Dz (Du [4] [] q)))) λh=>Ap q [3,4] [] (gC h (λh=>tS h (gK (Dz (Du [4] [] q)))) λh=>Ap q [3,4] [] (gC h (λh=>tS h (gK (Dz (Du [4] [] q)))) λh=>Ap q [4] [] (tS h (gK (Dz Mx)))))))) (gA (gC h (λh=>Ap q [2] [] (tS h (De []))) λh=>Ap q [2] [] (tS h (De [])))))
def Hi(aA:A1):Int->Option (LR Int (Unit ⊕ Bool)):=
 λ(i1:Int)=>(bif (decide (i1<(aA.length:Int))) then(Cw (Cd i1 aA.length) ((Gt (aA.getD i1.toNat 0)).bind λx3=>(bif (!x3) then(some (.done (.inr false))) else(some (.next (Bd (i1+1))))))) else(some (.done (.inl ()))))
def AC(Γ:Gw)(aA:A1)(r:Bool):Exit->St->Prop:=fK Tryz.prog Γ Tryz.f127.results.toList [] (.bool r) []
def Jj(aA:A1):Option Bool:=
 ((Ai (Hi aA) (0:Int)).bind (λx4=>(match x4 with|(.inl _)=>(some true)|(.inr r6)=>(some r6))))
theorem Yd(h:Jj v2=some v3):sP 127 [(Pp v2),(.clo 128 [] [])] [] (.bool v3) []:=
 sG Tryz.func127 λΓ q=>tW q Hb [] H2 [] (tL q h H2 [] (λu i1=>(Fq u [(9,(Z7 i1))] [])) (λu x_=>match x_ with|(.inl _)=>aG Γ (.exit 0) (⟨[],[],[]⟩:St)|(.inr r_)=>aR (AC Γ v2 r_)) (λi1 y h=>Ap q Z0 [] (gC h (λh=>tV q AA [] h λh=>tB h λx3 y3 h=>tT q EW [] [(Z2 x3)] (c1 (Ii y3)) (gC h (λh=>Ap q [4] [] (tS h (gO (R4 (Kz [] (Le.refl _ _)))))) λh=>Ap q H2 [] (tN h))) λh=>tS h (gO (Dz (Du [] [] q))))) λx4 h=>(match x4,h with | .inl _,h=>gA (Ap q [4] [] (tS h (De []))) | .inr r6,h=>Wf (λst' hk=>tS h (gK hk))))
def Ld(aT:F8):Option Bool:=
 ((Gt aT.Bits).bind λx1=>(some x1))
theorem Wv(h:Ld v4=some v3):sP 165 [(.agg (Wa v4))] [] (.bool v3) []:=
 sG Tryz.func165 λΓ q=>Ap q [1] [1] (tB h λx1 y1 h=>tT q [2] [] [(Z2 x1)] (c1 (Ii y1)) (tS h (De [])))
def Fi(aA:List F8):Int->Option (LR Int (Unit ⊕ Bool)):=
 λ(i1:Int)=>(bif (decide (i1<(aA.length:Int))) then(Cw (Cd i1 aA.length) ((Ld (aA.getD i1.toNat default)).bind λx3=>(bif (!x3) then(some (.done (.inr false))) else(some (.next (Bd (i1+1))))))) else(some (.done (.inl ()))))
def T9(Γ:Gw)(aA:List F8)(r:Bool):Exit->St->Prop:=fK Tryz.prog Γ Tryz.f164.results.toList [] (.bool r) []
def Gz(aA:List F8):Option Bool:=
 ((Ai (Fi aA) (0:Int)).bind (λx4=>(match x4 with|(.inl _)=>(some true)|(.inr r6)=>(some r6))))
theorem Sj(h:Gz v5=some v3):sP 164 [(AV.list 4 Wa default v5 .none),(.clo 165 [] [])] [] (.bool v3) []:=
 sG Tryz.func164 λΓ q=>tW q Hb [] H2 [] (tL q h H2 [] (λu i1=>(Fq u [(9,(Z7 i1))] [])) (λu x_=>match x_ with|(.inl _)=>aG Γ (.exit 0) (⟨[],[],[]⟩:St)|(.inr r_)=>aR (T9 Γ v5 r_)) (λi1 y h=>Ap q Z0 [] (gC h (λh=>tV q AA [6] h λh=>tB h λx3 y3 h=>tT q EW [] [(Z2 x3)] (c1 (Wv y3)) (gC h (λh=>Ap q [4] [] (tS h (gO (R4 (Kz [] (Le.refl _ _)))))) λh=>Ap q H2 [] (tN h))) λh=>tS h (gO (Dz (Du [] [] q))))) λx4 h=>(match x4,h with | .inl _,h=>gA (Ap q [4] [] (tS h (De []))) | .inr r6,h=>Wf (λst' hk=>tS h (gK hk))))
def Lr(aQ:Int):Option Bool:=
 (some (bif (decide ((0:Int)<=aQ)) then(decide (aQ<=22)) else false))
theorem DH(h:Lr v1=some v3):sP 192 [(Z7 v1)] [] (.bool v3) []:=
 sG Tryz.func192 λΓ q=>Ap q [0] [] (tU q [2] [] (c2 (gI ((decide ((0:Int)<=v1))==true)) (M5 (decide ((0:Int)<=v1)))) (tS h (De [])))
def mG(x5:Bool)(aL:Int):=(bif x5 then(decide ((8:Int)<=aL)) else false)
def Mp(aL:Int)(aa1:Int):Option Bool:=
 (bif (aa1==1) then((Gt aL).bind λx1=>(some x1)) else(Option.bind (α:=Bool) (bif (aa1==2) then(some (aa1==2)) else(bif (aa1==4) then(some (aa1==4)) else(bif (aa1==8) then(some (aa1==8)) else(some (aa1==16))))) (λx3=>(bif x3 then((Gt aL).bind λx5=>(some (bif (bif x5 then(decide ((8:Int)<=aL)) else false) then(decide (((Bd (aL*aa1)):Int)<=128)) else false))) else(some false)))))
theorem FO(h:Mp v1 v11=some v3):sP 209 [(Z7 v1),(Z7 v11)] [] (.bool v3) []:=
 sG Tryz.func209 λΓ q=>tW q Hb [] EV [] (Ap q [0,1,5,6] [] (gC h (λh=>tB h λx1 y1 h=>tT q [4] [] [(Z2 x1)] (c1 (Ii y1)) (tS h (De []))) λh=>tB h λx3 y3 h=>gJ y3 (λb2=>aG Γ .normal (⟨[(0,(Z7 v1)),(1,(Z7 v11)),(10,(.bool b2))],[],[]⟩:St)) (λy h=>Ap q [0,1,5,10] [] (gC h (λh=>tS h (gK (Dz (Du AB [] q)))) λh=>Ap q [0,1,5,10] [] (gC h (λh=>tS h (gK (Dz (Du AB [] q)))) λh=>Ap q [0,1,5,10] [] (gC h (λh=>tS h (gK (Dz (Du AB [] q)))) λh=>Ap q AB [] (tS h (gK (Dz Mx))))))) (gA (gC h (λh=>tB h λx5 y5 h=>tT q [4] [] [(Z2 x5)] (lF (Ii y5) (gI (x5==true)) (M5 x5) (bQ ((mG x5 v1)==true) (c1 (M5 (mG x5 v1))))) (tS h (De []))) λh=>Ap q [4] [] (tS h (De []))))))
def k7(a1:Ce):List SV:=[(1,.row 43 [(Z7 a1.Kind),(Z7 a1.Bits),(Z7 a1.Lanes),(Z7 a1.Dst),(Pp a1.Args),(J8 a1.Imm)])]
def Iw(a1:Ce):Option Bool:=
 (Option.bind (α:=Bool) (bif (a1.Kind==16) then(some (a1.Kind==16)) else(some (a1.Kind==17))) (λx2=>(bif x2 then(some (decide ((8:Int)<=a1.Bits))) else(Option.bind (α:=Bool) (bif (a1.Kind==18) then(some (a1.Kind==18)) else(some (a1.Kind==19))) (λx5=>(bif x5 then(some (bif (decide ((8:Int)<=a1.Bits)) then(a1.Lanes==1) else false)) else(Option.bind (α:=Bool) (bif (a1.Kind==4) then(some (a1.Kind==4)) else(bif (a1.Kind==10) then(some (a1.Kind==10)) else(bif (a1.Kind==11) then(some (a1.Kind==11)) else(bif (a1.Kind==12) then(some (a1.Kind==12)) else(bif (a1.Kind==14) then(some (a1.Kind==14)) else(bif (a1.Kind==15) then(some (a1.Kind==15)) else(some (a1.Kind==20)))))))) (λx8=>(bif x8 then(some (a1.Lanes==1)) else(Option.bind (α:=Bool) (bif (a1.Kind==21) then(some (a1.Kind==21)) else(some (a1.Kind==22))) (λx11=>(bif x11 then(some (decide ((1:Int)<a1.Lanes))) else(some true)))))))))))))
theorem Wy(h:Iw v6=some v3):sP 210 [(Vz v6)] [] (.bool v3) []:=
 sG Tryz.func210 λΓ q=>tW q [1] [1] [1,4] [1] (tB h λx2 y2 h=>gJ y2 (λb1=>aG Γ .normal (⟨[(1,(.ptr 1 0)),(4,(Z7 v6.Kind)),(5,(.bool b1))],(k7 v6),[]⟩:St)) (λy h=>Ap q [1,4,5] [1] (gC h (λh=>tS h (gK (Dz Mx))) λh=>Ap q [1,4,5] [1] (tS h (gK (Dz Mx))))) (gA (gC h (λh=>Ap q [2] [] (tS h (De []))) λh=>tB h λx5 y5 h=>gJ y5 (λb4=>aG Γ .normal (⟨[(1,(.ptr 1 0)),(4,(Z7 v6.Kind)),(11,(.bool b4))],(k7 v6),[]⟩:St)) (λy h=>Ap q [1,4,11] [1] (gC h (λh=>tS h (gK (Dz Mx))) λh=>Ap q [1,4,11] [1] (tS h (gK (Dz Mx))))) (gA (gC h (λh=>tU q [2] [] (Uj ((decide ((8:Int)<=v6.Bits))==true) (c1 (M5 (decide ((8:Int)<=v6.Bits))))) (tS h (De []))) λh=>tB h λx8 y8 h=>gJ y8 (λb7=>aG Γ .normal (⟨[(1,(.ptr 1 0)),(4,(Z7 v6.Kind)),(22,(.bool b7))],(k7 v6),[]⟩:St)) (λy h=>Ap q EX [1] (gC h (λh=>tS h (gK (Dz Mx))) λh=>Ap q EX [1] (gC h (λh=>tS h (gK (Dz Mx))) λh=>Ap q EX [1] (gC h (λh=>tS h (gK (Dz Mx))) λh=>Ap q EX [1] (gC h (λh=>tS h (gK (Dz Mx))) λh=>Ap q EX [1] (gC h (λh=>tS h (gK (Dz Mx))) λh=>Ap q EX [1] (gC h (λh=>tS h (gK (Dz Mx))) λh=>Ap q EX [1] (tS h (gK (Dz Mx)))))))))) (gA (gC h (λh=>Ap q [2] [] (tS h (De []))) λh=>tB h λx11 y11 h=>gJ y11 (λb10=>aG Γ .normal (⟨[(1,(.ptr 1 0)),(33,(.bool b10))],(k7 v6),[]⟩:St)) (λy h=>Ap q [1,4,33] [1] (gC h (λh=>tS h (gK (Dz (Du [1,33] [1] q)))) λh=>Ap q [1,33] [1] (tS h (gK (Dz Mx))))) (gA (gC h (λh=>Ap q [2] [] (tS h (De []))) λh=>Ap q [2] [] (tS h (De [])))))))))))
def Qd(a8:Int)(aL:Int):Option Int:=
 ((Gt aL).bind λx1=>(bif (!x1) then(some (0:Int)) else(Cw (0<=(Bd ((64:Int)-aL))) (Cw (0<=(Bd ((64:Int)-aL))) (some (W9 .u64 (SL .u64 a8 (Bd ((64:Int)-aL))) (Bd ((64:Int)-aL))))))))
theorem NT(h:Qd v1 v11=some v20):sP 225 [(J8 v1),(Z7 v11)] [] (.int .u64 v20) []:=
 sG Tryz.func225 λΓ q=>Ap q Hb [] (tB h λx1 y1 h=>tT q [0,1,7] [] [(Z2 x1)] (c1 (Ii y1)) (gC h (λh=>Ap q [4] [] (tS h (De []))) λh=>tC h λc2_ h=>tC h λc3_ h=>tU q [4] [] (c2 c2_ c3_) (tS h (De []))))
def Ig(aa5:Int):Option Bool:=
 ((bif ((decide (aa5<=64))==true) then Gt (Bd aa5) else some false).bind λx1=>(some (bif (decide (aa5<=64)) then x1 else false)))
theorem Rh(h:Ig v1=some v3):sP 226 [(J8 v1)] [] (.bool v3) []:=
 sG Tryz.func226 λΓ q=>Ap q [0] [] (tB h λx1 y1 h=>tT q [2] [] [(Z2 x1)] (Uj ((decide (v1<=64))==true) (c2 (λ(hg:((decide (v1<=64))==true)=true)=>(Ii (Bs hg y1))) (M5 (decide (v1<=64))))) (tS h (De [])))
def Kp(a1:Ce):Option Bool:=
 (bif (a1.Kind==0) then((Qd a1.Imm a1.Bits).bind λx1=>(some (x1==a1.Imm))) else(bif (a1.Kind==14) then((Ig a1.Imm).bind λx2=>(some (bif x2 then(decide (a1.Imm<(Dt a1.Bits))) else false))) else(bif (a1.Kind==15) then((Ig a1.Imm).bind λx3=>(some (bif x3 then(decide (((Dt a1.Bits):Int)<a1.Imm)) else false))) else(bif (a1.Kind==22) then(some (decide (a1.Imm<(Dt a1.Lanes)))) else(some (a1.Imm==0))))))
theorem AL(h:Kp v6=some v3):sP 211 [(Vz v6)] [] (.bool v3) []:=
 sG Tryz.func211 λΓ q=>tW q [1] [1] [1,4] [1] (Ap q [1,4,5] [1] (gC h (λh=>tB h λx1 y1 h=>tT q [2] [] [⟨[],[],(J8 x1),[],[],[]⟩] (c1 (NT y1)) (tS h (De []))) λh=>Ap q [1,4,15] [1] (gC h (λh=>tB h λx2 y2 h=>tT q [2] [] [(Z2 x2)] (ci (Rh y2) (kB (x2==true) (c1 (M5 x2)))) (tS h (De []))) λh=>Ap q [1,4,28] [1] (gC h (λh=>tB h λx3 y3 h=>tT q [2] [] [(Z2 x3)] (ci (Rh y3) (kB (x3==true) (c1 (M5 x3)))) (tS h (De []))) λh=>Ap q [1,41] [1] (gC h (λh=>Ap q [2] [] (tS h (De []))) λh=>Ap q [2] [] (tS h (De [])))))))
abbrev PA:=((Int×Int))
abbrev fw:=(List (Int×Int))
def E9(aa9:List PA):Option fw:=
 (some aa9)
variable{v21:List PA}{v22:List PA}
theorem Fo(h:E9 v21=some v22):sP 214 [(Z5 v21)] [] (Z5 v22) []:=
 sG Tryz.func214 λΓ q=>gR q [0] [] [(2,lD)] [] (c1 (Iq 2 Bp ((0:Int),(0:Int)))) (Ap q [2] [] (tS h (De [])))
abbrev jK:=(Int×List (Int×Int))
def B9 :jK->Option (LR (Int×List (Int×Int)) (List (Int×Int))):=
 λ((i7,l8):jK)=>(bif (decide (i7<(l8.length:Int))) then(Cw (0<=i7/\0+i7.toNat<=l8.length) (Cw (0<=i7/\0+i7.toNat<=l8.length) (some (.next ((Bd (i7+((Nat.min ((0+i7.toNat)-0) (l8.length-(0+i7.toNat))):Int))),(QY l8 (0+i7.toNat) (Nat.min ((0+i7.toNat)-0) (l8.length-(0+i7.toNat))) (λi=>l8.getD (0+i) ((0:Int),(0:Int))))))))) else(some (.done l8)))
def ZA(x3:Gm):=(List.replicate (Bd x3.2).toNat ((0:Int),(0:Int)))
def lS(x3:Gm)(a6:List PA):=(QY (ZA x3) 0 (Nat.min a6.length ((ZA x3).length-0)) (λi=>a6.getD i ((0:Int),(0:Int))))
def lR(l8:List PA)(i7:Int):=(QY l8 (0+i7.toNat) (Nat.min ((0+i7.toNat)-0) (l8.length-(0+i7.toNat))) (λi=>l8.getD (0+i) ((0:Int),(0:Int))))
def Bm(a6:List PA)(aY:Int):Option fw:=
 (Option.bind (α:=Unit) (bif (decide (aY<0)) then none else(some ())) (λx1=>(match x1 with|_=>((Lc (Dt (a6.length:Int)) (Dt aY)).bind λx3=>(Option.bind (α:=Unit) (bif (bif (decide ((0:Int)<x3.1)) then true else(decide ((9223372036854775807:Int)<x3.2))) then none else(some ())) (λx4=>(match x4 with|_=>(Cw (0<=(Bd x3.2)/\(Bd x3.2)<=(Bd x3.2)/\(Bd x3.2)<=(room:Int)) ((Ai (S:=jK) (X:=List Gm) B9 (((Nat.min a6.length ((List.replicate (Bd x3.2).toNat ((0:Int),(0:Int))).length-0)):Int),(QY (List.replicate (Bd x3.2).toNat ((0:Int),(0:Int))) 0 (Nat.min a6.length ((List.replicate (Bd x3.2).toNat ((0:Int),(0:Int))).length-0)) (λi=>a6.getD i ((0:Int),(0:Int)))))).bind (λx12=>(some x12)))))))))))
theorem L7(h:Bm v21 v1=some v22):sP 215 [(Z5 v21),(Z7 v1)] [] (AV.list 2 Bp ((0:Int),(0:Int)) v22 (.own 20000)) [(20000,.tok 2 73 v22.length)]:=
 sG Tryz.func215 λΓ q=>have hΓ:=q.own;gR q Hb [] [(4,lD)] [] (c1 (Iq 2 Bp ((0:Int),(0:Int)))) (tB h λx1 y1 h=>gJ y1 (λ_=>aG Γ .normal (⟨[(0,(Z5 v21)),(1,(Z7 v1))],[],[]⟩:St)) (λy h=>Ap q AB [] (gC h (λh=>nomatch h) λh=>tS h (gK (Dz (Du Hb [] q))))) (gA (tB h λx3 y3 h=>tT q [0,5,6] [] [⟨[],[],(.tuple [(J8 x3.1),(J8 x3.2)]),[],[],[]⟩] (c1 (Zh y3)) (tB h λx4 y4 h=>gJ y4 (λ_=>aG Γ .normal (⟨[(0,(Z5 v21)),(6,(J8 x3.2))],[],[]⟩:St)) (λy h=>tU q [0,6,26] [] (c2 (gI ((decide ((0:Int)<x3.1))==false)) (X0 (decide ((0:Int)<x3.1)))) (gC h (λh=>nomatch h) λh=>tS h (gK (Dz (Du [0,6] [] q))))) (gA (tV q [0,7] [30] h λh=>by exact Mm (Le.trans (Wj 30 (show ∀ k_,k_<((Bd x3.2).toNat)->AVleL ((λi_=>AV.eraseAll (λn_=>Cb n_ [30]) ((λ_=>[Nv,Nv]) i_)) k_) ((λi=>Bp ((ZA x3).getD i ((0:Int),(0:Int)))) k_) from(λk hk=>Wn (e:=Bp) (d:=((0:Int),(0:Int))) (.cons (AVle.refl _) (.cons (AVle.refl _) .nil)) _ k (W5 hk)))) (Sd (λ(k_:Nat) u=>(Fq u [(7,(.vsl 30 k_))] [(30,.arr 2 73 k_ (λi=>Bp ((ZA x3).getD i ((0:Int),(0:Int)))))])) (show(Bd x3.2).toNat=(ZA x3).length from(Xe ..).symm))) (tU q L3 [30] (c1 (Eq.refl ((ZA x3).length))) (Mm (Le.trans (Wj 30 (show ∀ k_,k_<((ZA x3).length)->AVleL ((λi_=>AV.eraseAll (λn_=>Cb n_ [30]) ((MH (λi=>Bp ((ZA x3).getD i ((0:Int),(0:Int)))) 0 (Nat.min v21.length ((ZA x3).length-0)) (λi=>Bp (v21.getD i ((0:Int),(0:Int))))) i_)) k_) ((λi=>Bp ((lS x3 v21).getD i ((0:Int),(0:Int)))) k_) from(Ci (Fu ..) (λk_ hk_=>(B7 (AV.eraseAll (λn_=>Cb n_ [30])) ((AW (e:=Bp) (d:=((0:Int),(0:Int))) (l:=(ZA x3)) (s:=(λi=>v21.getD i ((0:Int),(0:Int)))) (λ_ _=>rfl) (λ_ _=>rfl)) k_ hk_)).trans rfl)))) (Sd (λ(k_:Nat) u=>(Fq u [(7,(.vsl 30 k_))] [(30,.arr 2 73 k_ (λi=>Bp ((lS x3 v21).getD i ((0:Int),(0:Int)))))])) (show(ZA x3).length=(lS x3 v21).length from(Fu ..)))) (tL q h L3 [30] (λu (i7,l8)=>(Fq u [(7,(.vsl 30 l8.length)),(8,(Z7 i7))] (lj l8))) (λu l9=>aG Γ (.exit 0) (⟨[(7,(.vsl 30 l9.length))],(lj l9),[]⟩:St)) (λ⟨i7,l8⟩ y h=>Ap q [7,8,37] [30] (gC h (λh=>tC h λc10_ h=>tC h λc11_ h=>tU q L3 [30] (c4 c10_ c11_ (Eq.refl l8.length) (Eq.refl l8.length)) (tS h (gN (Le.trans (Le.trans (Wj 30 (show ∀ k_,k_<l8.length->AVleL ((λi_=>AV.eraseAll (λn_=>Cb n_ [30]) ((MH (λi=>Bp (l8.getD i ((0:Int),(0:Int)))) (0+i7.toNat) (Nat.min ((0+i7.toNat)-0) (l8.length-(0+i7.toNat))) (λi=>(λi=>Bp (l8.getD i ((0:Int),(0:Int)))) (0+i))) i_)) k_) ((λi=>Bp ((lR l8 i7).getD i ((0:Int),(0:Int)))) k_) from(Ci (Fu ..) (λk_ hk_=>(B7 (AV.eraseAll (λn_=>Cb n_ [30])) ((AW (e:=Bp) (d:=((0:Int),(0:Int))) (l:=l8) (s:=(λi=>l8.getD (0+i) ((0:Int),(0:Int)))) (λ_ _=>rfl) (λ_ _=>rfl)) k_ hk_)).trans rfl)))) (Sd (λ(k_:Nat) u=>(Fq u [(7,(.vsl 30 k_))] [(30,.arr 2 73 k_ (λi=>Bp ((lR l8 i7).getD i ((0:Int),(0:Int)))))])) (show l8.length=(lR l8 i7).length from(Fu ..)))) Mx)))) λh=>tS h (gO (Dz (Du [7] [30] q))))) λx12 h=>gA (Ap q [4] [30] (Tn (⟨[(4,(.vsl 30 x12.length))],(lj x12),[]⟩:St) (tS h (gK (e:=.ret) (Kz [(30,20000)] (Le.trans (La (nm:=30) (sz:=2) (n:=x12.length) (e:=73) (f:=(λi=>Bp (x12.getD i ((0:Int),(0:Int))))) (g:=(λi=>Bp (x12.getD i ((0:Int),(0:Int))))) rfl ⟨rfl,trivial⟩ (λ_ _=>rfl) (by rw[hΓ];rfl)) (M6 (st':=⟨[(4,(AV.list 2 Bp ((0:Int),(0:Int)) x12 (.own 30)))],[(30,.tok 2 73 x12.length)],[]⟩) (by kernel_rfl)))))))))))))))))
def mH(a1:Ce):List SV:=[(1,.row 43 [(Z7 a1.Kind),(Z7 a1.Bits),(Z7 a1.Lanes),(Z7 a1.Dst),(Pp a1.Args),(J8 a1.Imm)]),(3,.row 73 [YL,YL]),(4,.row 73 [(LC 64),YL]),(5,.row 73 [(Z7 a1.Bits),(Z7 a1.Lanes)]),(6,.row 73 [(Z7 a1.Bits),YL])]
def Kq(a1:Ce):Option fw:=
 (bif (a1.Kind==0) then((E9 ([]:List Gm)).bind λx1=>(some x1)) else(bif (a1.Kind==13) then((E9 ([((1:Int),(1:Int)),(a1.Bits,a1.Lanes),(a1.Bits,a1.Lanes)]:List Gm)).bind λx2=>(some x2)) else(Option.bind (α:=Bool) (bif (a1.Kind==14) then(some (a1.Kind==14)) else(some (a1.Kind==15))) (λx4=>(bif x4 then((E9 ([((Bd a1.Imm),(1:Int))]:List Gm)).bind λx6=>(some x6)) else(bif (a1.Kind==16) then((E9 ([((64:Int),(1:Int))]:List Gm)).bind λx7=>(some x7)) else(bif (a1.Kind==17) then((E9 ([((64:Int),(1:Int)),(a1.Bits,a1.Lanes)]:List Gm)).bind λx8=>(some x8)) else(Option.bind (α:=Bool) (bif (a1.Kind==18) then(some (a1.Kind==18)) else(some (a1.Kind==19))) (λx10=>(bif x10 then((E9 ([((1:Int),(1:Int)),((64:Int),(1:Int)),(a1.Bits,(1:Int))]:List Gm)).bind λx12=>(some x12)) else(bif (a1.Kind==20) then((E9 ([((1:Int),(1:Int)),(a1.Bits,(1:Int)),(a1.Bits,(1:Int)),(a1.Bits,(1:Int))]:List Gm)).bind λx13=>(some x13)) else(bif (a1.Kind==21) then((Bm ([(a1.Bits,(1:Int))]:List Gm) a1.Lanes).bind λx14=>((E9 x14).bind λx15=>(some x15))) else(bif (a1.Kind==22) then((E9 ([(a1.Bits,a1.Lanes)]:List Gm)).bind λx16=>(some x16)) else((E9 ([(a1.Bits,a1.Lanes),(a1.Bits,a1.Lanes)]:List Gm)).bind λx17=>(some x17)))))))))))))))
theorem Uq(h:Kq v6=some v21):sP 190 [(Vz v6)] [] (Z5 v21) []:=
 sG Tryz.func190 λΓ q=>gR q [1] [1] [(2,lD)] [] (c1 (Iq 2 Bp ((0:Int),(0:Int)))) (tW q [1,3,4] [1,3,4] Te Te (tW q [1,3,4,5,6,18] Te [1,3,4,5,6,18,19] Te (gC h (λh=>tB h λx1 y1 h=>tT q [2] [] [(VT x1)] (c1 (show(sP 214 [QH] [] (Z5 x1) []) from(Spec.args (.cons eE .nil) (Fo y1)))) (tS h (De []))) λh=>Ap q [1,3,4,5,6,18,22] Te (gC h (λh=>tB h λx2 y2 h=>gR q [2] [] [(27,(AV.list 2 Bp ((0:Int),(0:Int)) ([((1:Int),(1:Int)),(v6.Bits,v6.Lanes),(v6.Bits,v6.Lanes)]:List Gm) .exact))] [(VT x2)] (c2 (Bu 2 Bp ((0:Int),(0:Int)) ([((1:Int),(1:Int)),(v6.Bits,v6.Lanes),(v6.Bits,v6.Lanes)]:List Gm)) (Fo y2)) (tS h (De []))) λh=>tB h λx4 y4 h=>gJ y4 (λb3=>aG Γ .normal (⟨[(1,(.ptr 1 0)),(3,(.ptr 3 0)),VV,(5,(.ptr 5 0)),PW,(18,(Z7 v6.Kind)),(29,(.bool b3))],(mH v6),[]⟩:St)) (λy h=>Ap q [1,3,4,5,6,18,29] Te (gC h (λh=>tS h (gK (Dz Mx))) λh=>Ap q [1,3,4,5,6,18,29] Te (tS h (gK (Dz Mx))))) (gA (gC h (λh=>tB h λx6 y6 h=>gR q [2] [] [(36,(AV.list 2 Bp ((0:Int),(0:Int)) ([((Bd v6.Imm),(1:Int))]:List Gm) .exact))] [(VT x6)] (c2 (Bu 2 Bp ((0:Int),(0:Int)) ([((Bd v6.Imm),(1:Int))]:List Gm)) (Fo y6)) (tS h (De []))) λh=>Ap q [1,3,4,5,6,18,38] Te (gC h (λh=>tB h λx7 y7 h=>gR q [2] [] [(41,(AV.list 2 Bp ((0:Int),(0:Int)) ([((64:Int),(1:Int))]:List Gm) .exact))] [(VT x7)] (c2 (Bu 2 Bp ((0:Int),(0:Int)) ([((64:Int),(1:Int))]:List Gm)) (Fo y7)) (tS h (De []))) λh=>Ap q [1,3,4,5,6,18,43] Te (gC h (λh=>tB h λx8 y8 h=>gR q [2] [] [(47,(AV.list 2 Bp ((0:Int),(0:Int)) ([((64:Int),(1:Int)),(v6.Bits,v6.Lanes)]:List Gm) .exact))] [(VT x8)] (c2 (Bu 2 Bp ((0:Int),(0:Int)) ([((64:Int),(1:Int)),(v6.Bits,v6.Lanes)]:List Gm)) (Fo y8)) (tS h (De []))) λh=>tB h λx10 y10 h=>gJ y10 (λb9=>aG Γ .normal (⟨[(1,(.ptr 1 0)),(3,(.ptr 3 0)),VV,(5,(.ptr 5 0)),PW,(18,(Z7 v6.Kind)),(49,(.bool b9))],(mH v6),[]⟩:St)) (λy h=>Ap q [1,3,4,5,6,18,49] Te (gC h (λh=>tS h (gK (Dz Mx))) λh=>Ap q [1,3,4,5,6,18,49] Te (tS h (gK (Dz Mx))))) (gA (gC h (λh=>tB h λx12 y12 h=>gR q [2] [] [(55,(AV.list 2 Bp ((0:Int),(0:Int)) ([((1:Int),(1:Int)),((64:Int),(1:Int)),(v6.Bits,(1:Int))]:List Gm) .exact))] [(VT x12)] (c2 (Bu 2 Bp ((0:Int),(0:Int)) ([((1:Int),(1:Int)),((64:Int),(1:Int)),(v6.Bits,(1:Int))]:List Gm)) (Fo y12)) (tS h (De []))) λh=>Ap q [1,3,5,6,18,57] [1,3,5,6] (gC h (λh=>tB h λx13 y13 h=>gR q [2] [] [(63,(AV.list 2 Bp ((0:Int),(0:Int)) ([((1:Int),(1:Int)),(v6.Bits,(1:Int)),(v6.Bits,(1:Int)),(v6.Bits,(1:Int))]:List Gm) .exact))] [(VT x13)] (c2 (Bu 2 Bp ((0:Int),(0:Int)) ([((1:Int),(1:Int)),(v6.Bits,(1:Int)),(v6.Bits,(1:Int)),(v6.Bits,(1:Int))]:List Gm)) (Fo y13)) (tS h (De []))) λh=>Ap q [1,5,6,18,65] [1,5,6] (gC h (λh=>tB h λx14 y14 h=>tB h λx15 y15 h=>gR q [2] [] [(68,(AV.list 2 Bp ((0:Int),(0:Int)) ([(v6.Bits,(1:Int))]:List Gm) .exact))] [⟨[],[(20000,71)],(AV.list 2 Bp ((0:Int),(0:Int)) x14 (.own 20000)),[(20000,.tok 2 73 x14.length)],[],[]⟩,(VT x15)] (c3 (Bu 2 Bp ((0:Int),(0:Int)) ([(v6.Bits,(1:Int))]:List Gm)) (L7 y14) (Fo y15)) (tS h (De []))) λh=>Ap q [5,73] [5] (gC h (λh=>tB h λx16 y16 h=>gR q [2] [] [(76,(AV.list 2 Bp ((0:Int),(0:Int)) ([(v6.Bits,v6.Lanes)]:List Gm) .exact))] [(VT x16)] (c2 (Bu 2 Bp ((0:Int),(0:Int)) ([(v6.Bits,v6.Lanes)]:List Gm)) (Fo y16)) (tS h (De []))) λh=>tB h λx17 y17 h=>gR q [2] [] [(80,(AV.list 2 Bp ((0:Int),(0:Int)) ([(v6.Bits,v6.Lanes),(v6.Bits,v6.Lanes)]:List Gm) .exact))] [(VT x17)] (c2 (Bu 2 Bp ((0:Int),(0:Int)) ([(v6.Bits,v6.Lanes),(v6.Bits,v6.Lanes)]:List Gm)) (Fo y17)) (tS h (De [])))))))))))))))
def Ie(a8:Int):Option Bool:=
 (some (bif (decide ((1:Int)<=a8)) then(decide (a8<=1023)) else false))
theorem Rg(h:Ie v1=some v3):sP 227 [(Z7 v1)] [] (.bool v3) []:=
 sG Tryz.func227 λΓ q=>Ap q [0] [] (tU q [2] [] (c2 (gI ((decide ((1:Int)<=v1))==true)) (M5 (decide ((1:Int)<=v1)))) (tS h (De [])))
def Gj(a1:Ce):Int->Option (LR Int (Unit ⊕ Bool)):=
 λ(i2:Int)=>(bif (decide (i2<(a1.Args.length:Int))) then(Cw (Cd i2 a1.Args.length) ((Ie (a1.Args.getD i2.toNat 0)).bind λx4=>(bif (!x4) then(some (.done (.inr false))) else(some (.next (Bd (i2+1))))))) else(some (.done (.inl ()))))
def BO(Γ:Gw)(a1:Ce)(r:Bool):Exit->St->Prop:=fK Tryz.prog Γ Tryz.f212.results.toList [] (.bool r) []
def Km(a1:Ce):Option Bool:=
 ((Kq a1).bind λx1=>(bif ((a1.Args.length:Int)!=(x1.length:Int)) then(some false) else((Ai (Gj a1) (0:Int)).bind (λx5=>(match x5 with|(.inl _)=>(some true)|(.inr r7)=>(some r7))))))
theorem AJ(h:Km v6=some v3):sP 212 [(Vz v6)] [] (.bool v3) []:=
 sG Tryz.func212 λΓ q=>Ap q [1] [1] (tB h λx1 y1 h=>tT q [1,11] [1] [(VT x1)] (c1 (Uq y1)) (gC h (λh=>Ap q [2] [] (tS h (De []))) λh=>Ap q PO [] (tL q h PO [] (λu i2=>(Fq u [(15,(Z7 i2))] [])) (λu x_=>match x_ with|(.inl _)=>aG Γ (.exit 0) (⟨[],[],[]⟩:St)|(.inr r_)=>aR (BO Γ v6 r_)) (λi2 y h=>Ap q [13,14,15,16] [] (gC h (λh=>tV q [4,13,14,15] [] h λh=>tB h λx4 y4 h=>tT q [13,14,15,21] [] [(Z2 x4)] (c1 (Rg y4)) (gC h (λh=>Ap q [2] [] (tS h (gO (R4 (Kz [] (Le.refl _ _)))))) λh=>Ap q PO [] (tN h))) λh=>tS h (gO (Dz (Du [] [] q))))) λx5 h=>(match x5,h with | .inl _,h=>gA (Ap q [2] [] (tS h (De []))) | .inr r7,h=>Wf (λst' hk=>tS h (gK hk))))))
def mI(a1:Ce):List SV:=[(1,.row 43 [(Z7 a1.Kind),(Z7 a1.Bits),(Z7 a1.Lanes),(Z7 a1.Dst),(Pp a1.Args),(J8 a1.Imm)])]
def Ko(a1:Ce):Option Gm:=
 (Option.bind (α:=Bool) (bif (a1.Kind==17) then(some (a1.Kind==17)) else(some (a1.Kind==19))) (λx2=>(bif x2 then(some ((0:Int),(0:Int))) else(Option.bind (α:=Bool) (bif (a1.Kind==10) then(some (a1.Kind==10)) else(bif (a1.Kind==11) then(some (a1.Kind==11)) else(some (a1.Kind==12)))) (λx5=>(bif x5 then(some ((1:Int),(1:Int))) else(bif (a1.Kind==22) then(some (a1.Bits,(1:Int))) else(some (a1.Bits,a1.Lanes)))))))))
theorem Up(h:Ko v6=some v19):sP 189 [(Vz v6)] [] (.tuple [(Z7 v19.1),(Z7 v19.2)]) []:=
 sG Tryz.func189 λΓ q=>tW q [1] [1] [1,5] [1] (tB h λx2 y2 h=>gJ y2 (λb1=>aG Γ .normal (⟨[(1,(.ptr 1 0)),(5,(Z7 v6.Kind)),(6,(.bool b1))],(mI v6),[]⟩:St)) (λy h=>Ap q [1,5,6] [1] (gC h (λh=>tS h (gK (Dz Mx))) λh=>Ap q [1,5,6] [1] (tS h (gK (Dz Mx))))) (gA (gC h (λh=>Ap q Pn [] (tS h (De []))) λh=>tB h λx5 y5 h=>gJ y5 (λb4=>aG Γ .normal (⟨[(1,(.ptr 1 0)),(5,(Z7 v6.Kind)),(9,(.bool b4))],(mI v6),[]⟩:St)) (λy h=>Ap q [1,5,9] [1] (gC h (λh=>tS h (gK (Dz Mx))) λh=>Ap q [1,5,9] [1] (gC h (λh=>tS h (gK (Dz Mx))) λh=>Ap q [1,5,9] [1] (tS h (gK (Dz Mx)))))) (gA (gC h (λh=>Ap q Pn [] (tS h (De []))) λh=>Ap q [1,13] [1] (gC h (λh=>Ap q Pn [] (tS h (De []))) λh=>Ap q Pn [] (tS h (De []))))))))
def Kn(a1:Ce):Option Bool:=
 ((Ko a1).bind λx1=>(bif (x1.1==0) then(some (a1.Dst==0)) else((Ie a1.Dst).bind λx2=>(some x2))))
theorem AK(h:Kn v6=some v3):sP 213 [(Vz v6)] [] (.bool v3) []:=
 sG Tryz.func213 λΓ q=>Ap q [1] [1] (tB h λx1 y1 h=>tT q [1,3] [1] [⟨[],[],(.tuple [(Z7 x1.1),(Z7 x1.2)]),[],[],[]⟩] (c1 (Up y1)) (Ap q [1,11] [1] (gC h (λh=>Ap q [2] [] (tS h (De []))) λh=>tB h λx2 y2 h=>tT q [2] [] [(Z2 x2)] (c1 (Rg y2)) (tS h (De [])))))
def f9(x1:Bool)(x2:Bool):=(bif (!x1) then true else(!x2))
def Lh(a1:Ce):Option Bool:=
 ((Lr a1.Kind).bind λx1=>((bif ((!x1)==false) then Mp a1.Bits a1.Lanes else some false).bind λx2=>((bif ((bif (!x1) then true else(!x2))==false) then Iw a1 else some false).bind λx3=>((bif ((bif (bif (!x1) then true else(!x2)) then true else(!x3))==false) then Kp a1 else some false).bind λx4=>(bif (bif (bif (bif (!x1) then true else(!x2)) then true else(!x3)) then true else(!x4)) then(some false) else((Km a1).bind λx5=>((bif (x5==true) then Kn a1 else some false).bind λx6=>(some (bif x5 then x6 else false)))))))))
theorem Sp(h:Lh v6=some v3):sP 187 [(Vz v6)] [] (.bool v3) []:=
 sG Tryz.func187 λΓ q=>Ap q [1] [1] (tB h λx1 y1 h=>tB h λx2 y2 h=>tB h λx3 y3 h=>tB h λx4 y4 h=>tT q [1,24] [1] [(Z2 x1),(Z2 x2),(Z2 x3),(Z2 x4)] (ci (DH y1) (jY ((!x1)==false) (mW (λ(hg:((!x1)==false)=true)=>(FO (Bs hg y2))) (gI ((!x1)==false)) (X0 (!x1)) (gI ((f9 x1 x2)==false)) (λ(hg:((f9 x1 x2)==false)=true)=>(Wy (Bs hg y3))) (gI ((f9 x1 x2)==false)) (X0 (f9 x1 x2)) (gI ((bif (f9 x1 x2) then true else(!x3))==false)) (λ(hg:((bif (f9 x1 x2) then true else(!x3))==false)=true)=>(AL (Bs hg y4))) (c2 (gI ((bif (f9 x1 x2) then true else(!x3))==false)) (X0 (bif (f9 x1 x2) then true else(!x3))))))) (gC h (λh=>Ap q [2] [] (tS h (De []))) λh=>tB h λx5 y5 h=>tB h λx6 y6 h=>tT q [2] [] [(Z2 x5),(Z2 x6)] (c4 (AJ y5) (gI (x5==true)) (λ(hg:(x5==true)=true)=>(AK (Bs hg y6))) (M5 x5)) (tS h (De []))))
def Mn(a1:Ce)(aa7:Int):Option Bool:=
 (bif (aa7==0) then(some (bif (decide (a1.Kind<=17)) then(a1.Lanes==1) else false)) else(bif (aa7==1) then(some (bif (decide (a1.Kind<=20)) then(a1.Lanes==1) else false)) else(some true)))
theorem FJ(h:Mn v6 v1=some v3):sP 188 [(Vz v6),(Z7 v1)] [] (.bool v3) []:=
 sG Tryz.func188 λΓ q=>tW q Xp [2] [2,5] [2] (Ap q U6 [2] (gC h (λh=>tU q [4] [] (Uj ((decide (v6.Kind<=17))==true) (c1 (M5 (decide (v6.Kind<=17))))) (tS h (De []))) λh=>Ap q U7 [2] (gC h (λh=>tU q [4] [] (Uj ((decide (v6.Kind<=20))==true) (c1 (M5 (decide (v6.Kind<=20))))) (tS h (De []))) λh=>Ap q [4] [] (tS h (De [])))))
abbrev S6:=(Bool×Ab×Int×A1×List A7)
def E2(a1:Ce)(a0:Ab)(a4:Int)(a9:A1)(a5:List A7):Option S6:=
 ((Lh a1).bind λx1=>((bif (x1==true) then Mn a1 a4 else some false).bind λx2=>(some ((bif x1 then x2 else false),a0,a4,a9,a5))))
variable{v23:S6}
theorem Oy(h:E2 v6 v0 v1 v2 v12=some v23):sP 167 [Xq,(Vz v6)] (Z3 v0.Params v0.Ret v0.Blocks v1 v2 v12 v12.length) (.bool v23.1) (Z3 v23.2.1.Params v23.2.1.Ret v23.2.1.Blocks v23.2.2.1 v23.2.2.2.1 v23.2.2.2.2 v23.2.2.2.2.length):=
 sG Tryz.func167 λΓ q=>Ap q U8 PJ (tB h λx1 y1 h=>tB h λx2 y2 h=>tT q [4] Fe [(Z2 x1),(Z2 x2)] (ci (Sp y1) (kB (x1==true) (c2 (λ(hg:(x1==true)=true)=>(FJ (Bs hg y2))) (M5 x1)))) (tS h (De AO)))
abbrev Mb:=(Int×A1×Int×List Ak×Int×A1×List A7)
abbrev ka:=(LR (Int×A1×Int×List Ak×Int×A1×List A7) ((A1×Int×List Ak×Int×A1×List A7) ⊕ (Bool×Ab×Int×A1×List A7)))
def Eg(aA:List Ce):Mb->Option ka:=
 λ((i1,l2,i3,l4,i5,l6,l7):Mb)=>(bif (decide (i1<(aA.length:Int))) then(Cw (Cd i1 aA.length) ((E2 (aA.getD i1.toNat default) (⟨l2,i3,l4⟩:Ab) i5 l6 l7).bind λx15=>(bif (!x15.1) then(some (.done (.inr (false,x15.2.1,x15.2.2.1,x15.2.2.2.1,x15.2.2.2.2)))) else(some (.next ((Bd (i1+1)),x15.2.1.Params,x15.2.1.Ret,x15.2.1.Blocks,x15.2.2.1,x15.2.2.2.1,x15.2.2.2.2)))))) else(some (.done (.inl (l2,i3,l4,i5,l6,l7)))))
def U9(Γ:Gw)(aA:List Ce)(a0:Ab)(a4:Int)(a9:A1)(a5:List A7)(r:S6):Exit->St->Prop:=fK Tryz.prog Γ Tryz.f166.results.toList (Z3 a0.Params a0.Ret a0.Blocks a4 a9 a5 a5.length) (.bool r.1) (Z3 r.2.1.Params r.2.1.Ret r.2.1.Blocks r.2.2.1 r.2.2.2.1 r.2.2.2.2 r.2.2.2.2.length)
def Hh(aA:List Ce)(a0:Ab)(a4:Int)(a9:A1)(a5:List A7):Option S6:=
 ((Ai (Eg aA) ((0:Int),a0.Params,a0.Ret,a0.Blocks,a4,a9,a5)).bind (λx16=>(match x16 with|(.inl (l8,i9,l10,i11,l12,l13))=>(some (true,(⟨l8,i9,l10⟩:Ab),i11,l12,l13))|(.inr r18)=>(some r18))))
theorem Ud(h:Hh v7 v0 v1 v2 v12=some v23):sP 166 [(AV.list 6 Py default v7 .none),(.clo 167 [Xq] [])] (Z3 v0.Params v0.Ret v0.Blocks v1 v2 v12 v12.length) (.bool v23.1) (Z3 v23.2.1.Params v23.2.1.Ret v23.2.1.Blocks v23.2.2.1 v23.2.2.2.1 v23.2.2.2.2 v23.2.2.2.2.length):=
 sG Tryz.func166 λΓ q=>tW q Hb Fe H2 Fe (tL q h H2 Fe (λu (i1,l2,i3,l4,i5,l6,l7)=>(Fq u [(9,(Z7 i1))] (Z3 l2 i3 l4 i5 l6 l7 l7.length))) (λu x_=>match x_ with|(.inl (l8,i9,l10,i11,l12,l13))=>aG Γ (.exit 0) (⟨[],(Z3 l8 i9 l10 i11 l12 l13 l13.length),[]⟩:St)|(.inr r_)=>aR (U9 Γ v7 v0 v1 v2 v12 r_)) (λ⟨i1,l2,i3,l4,i5,l6,l7⟩ y h=>Ap q Z0 Fe (gC h (λh=>tV q AA [6,30000,37006] h λh=>tB h λx15 y15 h=>tT q EW Fe [(lE x15.1 x15.2.1.Params x15.2.1.Ret x15.2.1.Blocks x15.2.2.1 x15.2.2.2.1 x15.2.2.2.2 x15.2.2.2.2.length)] (c1 (Oy y15)) (gC h (λh=>Ap q [4] Fe (tS h (gO (R4 (Kz AO (Le.refl _ _)))))) λh=>Ap q H2 Fe (tN h))) λh=>tS h (gO (Dz (Du [] Fe q))))) λx16 h=>(match x16,h with | .inl ⟨l8,i9,l10,i11,l12,l13⟩,h=>gA (Ap q [4] Fe (tS h (De AO))) | .inr r18,h=>Wf (λst' hk=>tS h (gK hk))))
def lV(x1:Bool)(x2:S6)(a9:A1):AV:=(mT x1 x2.2.2.2.1 a9)
def lU(x1:Bool)(x2:S6)(a0:Ab):AV:=(mT x1 x2.2.1.Params a0.Params)
def lT(x1:Bool)(x2:S6)(a0:Ab):AV:=(.slice 5 (bif (x1==true) then x2.2.1.Blocks.length else a0.Blocks.length) (λi=>bif (x1==true) then Fg (x2.2.1.Blocks.getD i default) else Fg (a0.Blocks.getD i default)) .none)
def D2(aJ:Ak)(a0:Ab)(a4:Int)(a9:A1)(a5:List A7):Option S6:=
 ((Gz aJ.Phis).bind λx1=>((bif (x1==true) then Hh aJ.Ops a0 a4 a9 a5 else some (false,(default:Ab),(0:Int),[],[])).bind λx2=>(some ((bif x1 then x2.1 else false),(⟨(bif (x1==true) then x2.2.1.Params else a0.Params),(bif (x1==true) then x2.2.1.Ret else a0.Ret),(bif (x1==true) then x2.2.1.Blocks else a0.Blocks)⟩:Ab),(bif (x1==true) then x2.2.2.1 else a4),(bif (x1==true) then x2.2.2.2.1 else a9),(bif (x1==true) then x2.2.2.2.2 else a5)))))
theorem Mq(h:D2 v9 v0 v1 v2 v12=some v23):sP 130 [Xq,(.agg (Fg v9))] (Z3 v0.Params v0.Ret v0.Blocks v1 v2 v12 v12.length) (.bool v23.1) (Z3 v23.2.1.Params v23.2.1.Ret v23.2.1.Blocks v23.2.2.1 v23.2.2.2.1 v23.2.2.2.2 v23.2.2.2.2.length):=
 sG Tryz.func130 λΓ q=>Ap q U8 PJ (tB h λx1 y1 h=>tB h λx2 y2 h=>tT q [4] Fe [(Z2 x1),(lE x2.1 x2.2.1.Params x2.2.1.Ret x2.2.1.Blocks x2.2.2.1 x2.2.2.2.1 x2.2.2.2.2 x2.2.2.2.2.length)] (ci (Sj y1) (jY (x1==true) (c2 (λ(hg:(x1==true)=true)=>(Ud (Bs hg y2))) (M5 x1)))) (tS h (gK (e:=.ret) (Kz AO (Le.trans (ls (λg_ u=>(Fq u [] [(30000,.row 110 [(lU x1 x2 v0),(.int .i64 (bif (x1==true) then x2.2.1.Ret else v0.Ret)),(lT x1 x2 v0),(.int .i64 (bif (x1==true) then x2.2.2.1 else v1)),(lV x1 x2 v2),.nilm,(lg g_ x2.2.2.2.2 v12)]),(37006,.tok 5 195 (bif g_ then x2.2.2.2.2.length else v12.length))])) (λg_ u=>(Fq u [] [(30000,.row 110 [(lU x1 x2 v0),(.int .i64 (bif (x1==true) then x2.2.1.Ret else v0.Ret)),(lT x1 x2 v0),(.int .i64 (bif (x1==true) then x2.2.2.1 else v1)),(lV x1 x2 v2),.nilm,(AV.list 5 I6 default (bif g_ then x2.2.2.2.2 else v12) (.own 37006))]),(37006,.tok 5 195 ((bif g_ then x2.2.2.2.2 else v12).length))])) (x1==true)) (Le.trans (er 30000 0 (show AVle (lU x1 x2 v0) (AV.list 1 Ay 0 (bif (x1==true) then x2.2.1.Params else v0.Params) .none) from F9)) (Le.trans (er 30000 2 (show AVle (lT x1 x2 v0) (AV.list 5 Fg default (bif (x1==true) then x2.2.1.Blocks else v0.Blocks) .none) from F9)) (er 30000 4 (show AVle (lV x1 x2 v2) (AV.list 1 Ay 0 (bif (x1==true) then x2.2.2.2.1 else v2) .none) from F9)))))))))
def Dq(aA:List Ak):Mb->Option ka:=
 λ((i1,l2,i3,l4,i5,l6,l7):Mb)=>(bif (decide (i1<(aA.length:Int))) then(Cw (Cd i1 aA.length) ((D2 (aA.getD i1.toNat default) (⟨l2,i3,l4⟩:Ab) i5 l6 l7).bind λx15=>(bif (!x15.1) then(some (.done (.inr (false,x15.2.1,x15.2.2.1,x15.2.2.2.1,x15.2.2.2.2)))) else(some (.next ((Bd (i1+1)),x15.2.1.Params,x15.2.1.Ret,x15.2.1.Blocks,x15.2.2.1,x15.2.2.2.1,x15.2.2.2.2)))))) else(some (.done (.inl (l2,i3,l4,i5,l6,l7)))))
def Rn(Γ:Gw)(aA:List Ak)(a0:Ab)(a4:Int)(a9:A1)(a5:List A7)(r:S6):Exit->St->Prop:=fK Tryz.prog Γ Tryz.f129.results.toList (Z3 a0.Params a0.Ret a0.Blocks a4 a9 a5 a5.length) (.bool r.1) (Z3 r.2.1.Params r.2.1.Ret r.2.1.Blocks r.2.2.1 r.2.2.2.1 r.2.2.2.2 r.2.2.2.2.length)
def Fz(aA:List Ak)(a0:Ab)(a4:Int)(a9:A1)(a5:List A7):Option S6:=
 ((Ai (Dq aA) ((0:Int),a0.Params,a0.Ret,a0.Blocks,a4,a9,a5)).bind (λx16=>(match x16 with|(.inl (l8,i9,l10,i11,l12,l13))=>(some (true,(⟨l8,i9,l10⟩:Ab),i11,l12,l13))|(.inr r18)=>(some r18))))
theorem Qj(h:Fz v10 v0 v1 v2 v12=some v23):sP 129 [(YK v10),(.clo 130 [Xq] [])] (Z3 v0.Params v0.Ret v0.Blocks v1 v2 v12 v12.length) (.bool v23.1) (Z3 v23.2.1.Params v23.2.1.Ret v23.2.1.Blocks v23.2.2.1 v23.2.2.2.1 v23.2.2.2.2 v23.2.2.2.2.length):=
 sG Tryz.func129 λΓ q=>tW q Hb Fe H2 Fe (tL q h H2 Fe (λu (i1,l2,i3,l4,i5,l6,l7)=>(Fq u [(9,(Z7 i1))] (Z3 l2 i3 l4 i5 l6 l7 l7.length))) (λu x_=>match x_ with|(.inl (l8,i9,l10,i11,l12,l13))=>aG Γ (.exit 0) (⟨[],(Z3 l8 i9 l10 i11 l12 l13 l13.length),[]⟩:St)|(.inr r_)=>aR (Rn Γ v10 v0 v1 v2 v12 r_)) (λ⟨i1,l2,i3,l4,i5,l6,l7⟩ y h=>Ap q Z0 Fe (gC h (λh=>tV q AA [6,30000,37006] h λh=>tB h λx15 y15 h=>tT q EW Fe [(lE x15.1 x15.2.1.Params x15.2.1.Ret x15.2.1.Blocks x15.2.2.1 x15.2.2.2.1 x15.2.2.2.2 x15.2.2.2.2.length)] (c1 (Mq y15)) (gC h (λh=>Ap q [4] Fe (tS h (gO (R4 (Kz AO (Le.refl _ _)))))) λh=>Ap q H2 Fe (tN h))) λh=>tS h (gO (Dz (Du [] Fe q))))) λx16 h=>(match x16,h with | .inl ⟨l8,i9,l10,i11,l12,l13⟩,h=>gA (Ap q [4] Fe (tS h (De AO))) | .inr r18,h=>Wf (λst' hk=>tS h (gK hk))))
def VS(x1:Bool)(x2:Bool):=((bif x1 then x2 else false)==true)
def lY(x1:Bool)(x2:Bool)(x3:S6)(a9:A1):AV:=(lC (VS x1 x2) x3.2.2.2.1 a9)
def lX(x1:Bool)(x2:Bool)(x3:S6)(a0:Ab):AV:=(lC (VS x1 x2) x3.2.1.Params a0.Params)
def lW(x1:Bool)(x2:Bool)(x3:S6)(a0:Ab):AV:=(mS (VS x1 x2) x3.2.1.Blocks a0.Blocks)
def F0(a0:Ab)(a4:Int)(a9:A1)(a5:List A7):Option YD:=
 ((Jj a0.Params).bind λx1=>((bif (x1==true) then Gt a0.Ret else some false).bind λx2=>((bif ((bif x1 then x2 else false)==true) then Fz a0.Blocks a0 a4 a9 a5 else some (false,(default:Ab),(0:Int),[],[])).bind λx3=>((Ia (bif (bif x1 then x2 else false) then x3.1 else false) (6:Int)).bind λx4=>(some (x4,(⟨(bif ((bif x1 then x2 else false)==true) then x3.2.1.Params else a0.Params),(bif ((bif x1 then x2 else false)==true) then x3.2.1.Ret else a0.Ret),(bif ((bif x1 then x2 else false)==true) then x3.2.1.Blocks else a0.Blocks)⟩:Ab),(bif ((bif x1 then x2 else false)==true) then x3.2.2.1 else a4),(bif ((bif x1 then x2 else false)==true) then x3.2.2.2.1 else a9),(bif ((bif x1 then x2 else false)==true) then x3.2.2.2.2 else a5)))))))
theorem Qk(h:F0 v0 v1 v2 v12=some v13):sP 93 [Xq] (Z3 v0.Params v0.Ret v0.Blocks v1 v2 v12 v12.length) (Z7 v13.1) (Z3 v13.2.1.Params v13.2.1.Ret v13.2.1.Blocks v13.2.2.1 v13.2.2.2.1 v13.2.2.2.2 v13.2.2.2.2.length):=
 sG Tryz.func93 λΓ q=>Ap q [0] Fe (tB h λx1 y1 h=>tB h λx2 y2 h=>tB h λx3 y3 h=>tT q [3] Fe [(Z2 x1),(Z2 x2),(lE x3.1 x3.2.1.Params x3.2.1.Ret x3.2.1.Blocks x3.2.2.1 x3.2.2.2.1 x3.2.2.2.2 x3.2.2.2.2.length)] (ci (Yd y1) (kB (x1==true) (YO (λ(hg:(x1==true)=true)=>(Ii (Bs hg y2))) (M5 x1) (mi (VS x1 x2) (c2 (λ(hg:(VS x1 x2)=true)=>(Qj (Bs hg y3))) (M5 (bif x1 then x2 else false))))))) (Mm (Le.trans (ls (λg_ u=>(Fq u [] [(30000,.row 110 [(lX x1 x2 x3 v0),(gM (VS x1 x2) x3.2.1.Ret v0.Ret),(lW x1 x2 x3 v0),(gM (VS x1 x2) x3.2.2.1 v1),(lY x1 x2 x3 v2),.nilm,(lg g_ x3.2.2.2.2 v12)]),(37006,.tok 5 195 (bif g_ then x3.2.2.2.2.length else v12.length))])) (λg_ u=>(Fq u [] [(30000,.row 110 [(lX x1 x2 x3 v0),(gM (VS x1 x2) x3.2.1.Ret v0.Ret),(lW x1 x2 x3 v0),(gM (VS x1 x2) x3.2.2.1 v1),(lY x1 x2 x3 v2),.nilm,(AV.list 5 I6 default (bif g_ then x3.2.2.2.2 else v12) (.own 37006))]),(37006,.tok 5 195 ((bif g_ then x3.2.2.2.2 else v12).length))])) (VS x1 x2)) (Le.trans (er 30000 0 (show AVle (lX x1 x2 x3 v0) (AV.list 1 Ay 0 (bif (VS x1 x2) then x3.2.1.Params else v0.Params) .none) from F9)) (Le.trans (er 30000 2 (show AVle (lW x1 x2 x3 v0) (AV.list 5 Fg default (bif (VS x1 x2) then x3.2.1.Blocks else v0.Blocks) .none) from F9)) (er 30000 4 (show AVle (lY x1 x2 x3 v2) (AV.list 1 Ay 0 (bif (VS x1 x2) then x3.2.2.2.1 else v2) .none) from F9))))) (tB h λx4 y4 h=>tT q [2] Fe [(VU x4)] (c1 (Rd y4)) (tS h (De AO)))))
def Db(aL:Int):Option Gm:=
 (some (aL,(1:Int)))
theorem Hs(h:Db v1=some v19):sP 131 [(Z7 v1)] [] (BR v19) []:=
 sG Tryz.func131 λΓ q=>tW q [0,2] [2] [2] [2] (tS h (De []))
def jU:=(λ(v_:Aj)=>((O6 v_):AV))
abbrev Jh:=(Int×Aj)
abbrev PB:=(Bool×Ab×Int×A1×List A7×List (Int×Aj))
def D3(a8:Int)(aW:Gm)(aK:G1)(a0:Ab)(a4:Int)(a9:A1)(a7:List Jh)(a5:List A7):Option PB:=
 (bif (bif (bif (Bz a7 a8) then true else(decide (a8<1))) then true else(decide ((1023:Int)<a8))) then(some (false,a0,a4,a9,a5,a7)) else(some (true,a0,a4,a9,a5,(Eh a7 a8 (⟨aW,aK⟩:Aj)))))
variable{v24:G1}{v25:List Jh}{v26:PB}
abbrev FW:=(Int×AV)
theorem Jz(h:D3 v1 v19 v24 v0 v11 v2 v25 v12=some v26):sP 168 [Xq,(Z7 v1),(BR v19),(.agg (AY v24))] [(Z1 v0.Params v0.Ret v0.Blocks v11 v2 9100005 v12),(Z8 v12.length),(9100005,.obj (.map true .i64 (mapE (λ(v_:Aj)=>((O6 v_):AV)) v25)))] (.bool v26.1) [(Z1 v26.2.1.Params v26.2.1.Ret v26.2.1.Blocks v26.2.2.1 v26.2.2.2.1 9100005 v26.2.2.2.2.1),(Z8 v26.2.2.2.2.1.length),(9100005,.obj (.map true .i64 (mapE (λ(v_:Aj)=>((O6 v_):AV)) v26.2.2.2.2.2)))]:=
 sG Tryz.func168 λΓ q=>Ap q [0,1,6,7] VF (gR q [0,1,6,7,10] VF [(17,(.tuple [(gG v25 v1),(.bool (Bz v25 v1))]))] [] (c1 (show(AVle (.tuple [mget (.agg [Nv,Nv,Nv,Nv]) (mapE jU v25) v1,.bool (Bz (mapE jU v25) v1)]) (.tuple [(gG v25 v1),(.bool (Bz v25 v1))])) from(Wr (f:=jU) (l:=v25) (AVle.refl _) rfl))) (tU q [0,1,6,7,28] VF (c4 (gI ((Bz v25 v1)==false)) (X0 (Bz v25 v1)) (gI ((bif (Bz v25 v1) then true else(decide (v1<1)))==false)) (X0 (bif (Bz v25 v1) then true else(decide (v1<1))))) (gC h (λh=>Ap q [8] Fc (tS h (De Ue))) λh=>Ap q [] Fc (Mm (Sd (λ(k_:List FW) u=>Fq u [] [(YM 9100005 k_)]) (show(Eh (mapE jU v25) v1 (.agg [(Z7 v19.1),(Z7 v19.2),(Z7 v24.block),(Z7 v24.at_)]))=(mapE jU (Eh v25 v1 (⟨v19,v24⟩:Aj))) from(Ws (f:=jU) (l:=v25) (v:=(⟨v19,v24⟩:Aj)) rfl rfl))) (Ap q [8] Fc (tS h (De Ue)))))))
def Kk(a1:Ce):Option Gm:=
 ((Lh a1).bind λx1=>(bif (!x1) then(some ((0:Int),(0:Int))) else((Ko a1).bind λx2=>(some (x2.1,x2.2)))))
theorem FN(h:Kk v6=some v19):sP 169 [(Vz v6)] [] (.tuple [(Z7 v19.1),(Z7 v19.2)]) []:=
 sG Tryz.func169 λΓ q=>Ap q [1] [1] (tB h λx1 y1 h=>tT q [1,6] [1] [(Z2 x1)] (c1 (Sp y1)) (gC h (λh=>Ap q Pn [] (tS h (De []))) λh=>tB h λx2 y2 h=>tT q Pn [] [⟨[],[],(.tuple [(Z7 x2.1),(Z7 x2.2)]),[],[],[]⟩] (c1 (Up y2)) (tS h (De []))))
set_option maxRecDepth 100000
set_option maxHeartbeats 2000000
abbrev fx:=(Int×A1×Int×List Ak×Int×A1×List A7×List (Int×Aj))
abbrev kg:=(LR (Int×A1×Int×List Ak×Int×A1×List A7×List (Int×Aj)) ((A1×Int×List Ak×Int×A1×List A7×List (Int×Aj)) ⊕ (Bool×Ab×Int×A1×List A7×List (Int×Aj))))
def Cr(aU:Int)(aJ:Ak):fx->Option kg:=
 λ((i1,l2,i3,l4,i5,l6,l7,l8):fx)=>(bif (decide (i1<(aJ.Phis.length:Int))) then(Cw (Cd i1 aJ.Phis.length) ((Db ((aJ.Phis.getD i1.toNat default).Bits)).bind λx17=>((D3 ((aJ.Phis.getD i1.toNat default).Dst) x17 (⟨aU,(-1:Int)⟩:G1) (⟨l2,i3,l4⟩:Ab) i5 l6 l8 l7).bind λx18=>(bif (!x18.1) then(some (.done (.inr (false,x18.2.1,x18.2.2.1,x18.2.2.2.1,x18.2.2.2.2.1,x18.2.2.2.2.2)))) else(some (.next ((Bd (i1+1)),x18.2.1.Params,x18.2.1.Ret,x18.2.1.Blocks,x18.2.2.1,x18.2.2.2.1,x18.2.2.2.2.1,x18.2.2.2.2.2))))))) else(some (.done (.inl (l2,i3,l4,i5,l6,l7,l8)))))
def Bx(aU:Int)(aJ:Ak):fx->Option kg:=
 λ((i21,l22,i23,l24,i25,l26,l27,l28):fx)=>(bif (decide (i21<(aJ.Ops.length:Int))) then(Cw (Cd i21 aJ.Ops.length) ((Kk (aJ.Ops.getD i21.toNat default)).bind λx37=>((bif ((decide ((0:Int)<x37.1))==true) then D3 ((aJ.Ops.getD i21.toNat default).Dst) (x37.1,x37.2) (⟨aU,i21⟩:G1) (⟨l22,i23,l24⟩:Ab) i25 l26 l28 l27 else some (false,(default:Ab),(0:Int),[],[],[])).bind λx38=>(bif (bif (decide ((0:Int)<x37.1)) then(!x38.1) else false) then(some (.done (.inr (false,(⟨(bif ((decide ((0:Int)<x37.1))==true) then x38.2.1.Params else l22),(bif ((decide ((0:Int)<x37.1))==true) then x38.2.1.Ret else i23),(bif ((decide ((0:Int)<x37.1))==true) then x38.2.1.Blocks else l24)⟩:Ab),(bif ((decide ((0:Int)<x37.1))==true) then x38.2.2.1 else i25),(bif ((decide ((0:Int)<x37.1))==true) then x38.2.2.2.1 else l26),(bif ((decide ((0:Int)<x37.1))==true) then x38.2.2.2.2.1 else l27),(bif ((decide ((0:Int)<x37.1))==true) then x38.2.2.2.2.2 else l28))))) else(some (.next ((Bd (i21+1)),(bif ((decide ((0:Int)<x37.1))==true) then x38.2.1.Params else l22),(bif ((decide ((0:Int)<x37.1))==true) then x38.2.1.Ret else i23),(bif ((decide ((0:Int)<x37.1))==true) then x38.2.1.Blocks else l24),(bif ((decide ((0:Int)<x37.1))==true) then x38.2.2.1 else i25),(bif ((decide ((0:Int)<x37.1))==true) then x38.2.2.2.1 else l26),(bif ((decide ((0:Int)<x37.1))==true) then x38.2.2.2.2.1 else l27),(bif ((decide ((0:Int)<x37.1))==true) then x38.2.2.2.2.2 else l28)))))))) else(some (.done (.inl (l22,i23,l24,i25,l26,l27,l28)))))
def I5(Γ:Gw)(aU:Int)(aJ:Ak)(a0:Ab)(a4:Int)(a9:A1)(a7:List Jh)(a5:List A7)(r:PB):Exit->St->Prop:=fK Tryz.prog Γ Tryz.f132.results.toList [(Z1 a0.Params a0.Ret a0.Blocks a4 a9 9100005 a5),(Z8 a5.length),(9100005,.obj (.map true .i64 (mapE (λ(v_:Aj)=>((O6 v_):AV)) a7)))] (.bool r.1) [(Z1 r.2.1.Params r.2.1.Ret r.2.1.Blocks r.2.2.1 r.2.2.2.1 9100005 r.2.2.2.2.1),(Z8 r.2.2.2.2.1.length),(9100005,.obj (.map true .i64 (mapE (λ(v_:Aj)=>((O6 v_):AV)) r.2.2.2.2.2)))]
def PS(x37:Gm):=((decide ((0:Int)<x37.1))==true)
def d7:=(λ(v_:Aj)=>((O6 v_):AV))
def lc(x37:Gm)(x38:PB)(l26:A1):AV:=(lC (PS x37) x38.2.2.2.1 l26)
def ld(x37:Gm)(x38:PB)(l24:List Ak):AV:=(mS (PS x37) x38.2.1.Blocks l24)
def lZ(x37:Gm)(x38:PB)(l22:A1):AV:=(lC (PS x37) x38.2.1.Params l22)
def Ef(aU:Int)(aJ:Ak)(a0:Ab)(a4:Int)(a9:A1)(a7:List Jh)(a5:List A7):Option PB:=
 ((Ai (Cr aU aJ) ((0:Int),a0.Params,a0.Ret,a0.Blocks,a4,a9,a5,a7)).bind (λx19=>(match x19 with|(.inl (l9,i10,l11,i12,l13,l14,l15))=>((Ai (Bx aU aJ) ((0:Int),l9,i10,l11,i12,l13,l14,l15)).bind (λx39=>(match x39 with|(.inl (l29,i30,l31,i32,l33,l34,l35))=>(some (true,(⟨l29,i30,l31⟩:Ab),i32,l33,l34,l35))|(.inr r41)=>(some r41))))|(.inr r42)=>(some r42))))
theorem Nc(h:Ef v1 v9 v0 v11 v2 v25 v12=some v26):sP 132 [Xq,(Z7 v1),(.agg (Fg v9))] [(Z1 v0.Params v0.Ret v0.Blocks v11 v2 9100005 v12),(Z8 v12.length),(9100005,.obj (.map true .i64 (mapE (λ(v_:Aj)=>((O6 v_):AV)) v25)))] (.bool v26.1) [(Z1 v26.2.1.Params v26.2.1.Ret v26.2.1.Blocks v26.2.2.1 v26.2.2.2.1 9100005 v26.2.2.2.2.1),(Z8 v26.2.2.2.2.1.length),(9100005,.obj (.map true .i64 (mapE (λ(v_:Aj)=>((O6 v_):AV)) v26.2.2.2.2.2)))]:=
 sG Tryz.func132 λΓ q=>tW q EV Zz dT Zz (tL q h dT Zz (λu (i1,l2,i3,l4,i5,l6,l7,l8)=>(Fq u [(16,(Z7 i1))] [(Z1 l2 i3 l4 i5 l6 9100005 l7),(Z8 l7.length),(9100005,.obj (.map true .i64 (mapE d7 l8)))])) (λu x_=>match x_ with|(.inl (l9,i10,l11,i12,l13,l14,l15))=>aG Γ (.exit 0) (W7 EV Zz u [] [(Z1 l9 i10 l11 i12 l13 9100005 l14),(Z8 l14.length),(9100005,.obj (.map true .i64 (mapE d7 l15)))])|(.inr r_)=>aR (I5 Γ v1 v9 v0 v11 v2 v25 v12 r_)) (λ⟨i1,l2,i3,l4,i5,l6,l7,l8⟩ y h=>Ap q [0,1,5,14,15,16,17] Zz (gC h (λh=>tV q [0,1,5,8,14,15,16] [5,8,30000,37006,9100005] h λh=>tB h λx17 y17 h=>tB h λx18 y18 h=>tT q [0,1,5,14,15,16,29] Zz [⟨[],[],(BR x17),[],[],[]⟩,⟨Ue,[],(.bool x18.1),[(Z1 x18.2.1.Params x18.2.1.Ret x18.2.1.Blocks x18.2.2.1 x18.2.2.2.1 9100005 x18.2.2.2.2.1),(Z8 x18.2.2.2.2.1.length),(9100005,.obj (.map true .i64 (mapE d7 x18.2.2.2.2.2)))],[],[]⟩] (c2 (Hs y17) (Jz y18)) (gC h (λh=>Ap q [6] Fc (tS h (gO (R4 (Kz Ue (Le.refl _ _)))))) λh=>Ap q dT Zz (tN h))) λh=>tS h (gO (Dz (Du EV Zz q))))) λx19 h=>(match x19,h with | .inl ⟨l9,i10,l11,i12,l13,l14,l15⟩,h=>gA (Ap q dX Fc (tL q h dX Fc (λu (i21,l22,i23,l24,i25,l26,l27,l28)=>(Fq u [(34,(Z7 i21))] [(Z1 l22 i23 l24 i25 l26 9100005 l27),(Z8 l27.length),(9100005,.obj (.map true .i64 (mapE d7 l28)))])) (λu x_=>match x_ with|(.inl (l29,i30,l31,i32,l33,l34,l35))=>aG Γ (.exit 2) (⟨[],[(Z1 l29 i30 l31 i32 l33 9100005 l34),(Z8 l34.length),(9100005,.obj (.map true .i64 (mapE d7 l35)))],[]⟩:St)|(.inr r_)=>aR (I5 Γ v1 v9 v0 v11 v2 v25 v12 r_)) (λ⟨i21,l22,i23,l24,i25,l26,l27,l28⟩ y h=>Ap q [0,1,32,33,34,35] Fc (gC h (λh=>tV q [0,1,9,10,32,33,34] iD h λh=>tB h λx37 y37 h=>tT q [0,1,9,10,11,12,32,33,34] iD [⟨[],[],(.tuple [(Z7 x37.1),(Z7 x37.2)]),[],[],[]⟩] (c1 (FN y37)) (tB h λx38 y38 h=>tT q [0,1,32,33,34,58] Fc [⟨Ue,[],(.bool x38.1),[(Z1 x38.2.1.Params x38.2.1.Ret x38.2.1.Blocks x38.2.2.1 x38.2.2.2.1 9100005 x38.2.2.2.2.1),(Z8 x38.2.2.2.2.1.length),(9100005,.obj (.map true .i64 (mapE d7 x38.2.2.2.2.2)))],[],[]⟩] (ml (PS x37) (c3 (λ(hg:(PS x37)=true)=>(Jz (Bs hg y38))) (gI (PS x37)) (M5 (decide ((0:Int)<x37.1))))) (Mm (Le.trans (Sd (λ(k_:List FW) u=>Fq u [] [(YM 9100005 k_)]) (show(bif (PS x37) then(mapE d7 x38.2.2.2.2.2) else(mapE d7 l28))=(mapE d7 (bif (PS x37) then x38.2.2.2.2.2 else l28)) from(ai rfl rfl))) (Le.trans (ls (λg_ u=>(Fq u [] [(30000,.row 110 [(lZ x37 x38 l22),(gM (PS x37) x38.2.1.Ret i23),(ld x37 x38 l24),(gM (PS x37) x38.2.2.1 i25),(lc x37 x38 l26),(.omap 9100005),(lg g_ x38.2.2.2.2.1 l27)]),(37006,.tok 5 195 (bif g_ then x38.2.2.2.2.1.length else l27.length))])) (λg_ u=>(Fq u [] [(30000,.row 110 [(lZ x37 x38 l22),(gM (PS x37) x38.2.1.Ret i23),(ld x37 x38 l24),(gM (PS x37) x38.2.2.1 i25),(lc x37 x38 l26),(.omap 9100005),(AV.list 5 I6 default (bif g_ then x38.2.2.2.2.1 else l27) (.own 37006))]),(37006,.tok 5 195 ((bif g_ then x38.2.2.2.2.1 else l27).length))])) (PS x37)) (Le.trans (er 30000 0 (show AVle (lZ x37 x38 l22) (AV.list 1 Ay 0 (bif (PS x37) then x38.2.1.Params else l22) .none) from F9)) (Le.trans (er 30000 2 (show AVle (ld x37 x38 l24) (AV.list 5 Fg default (bif (PS x37) then x38.2.1.Blocks else l24) .none) from F9)) (er 30000 4 (show AVle (lc x37 x38 l26) (AV.list 1 Ay 0 (bif (PS x37) then x38.2.2.2.1 else l26) .none) from F9)))))) (gC h (λh=>Ap q [6] Fc (tS h (gO (R4 (Kz Ue (Le.refl _ _)))))) λh=>Ap q dX Fc (tN h))))) λh=>tS h (gO (Dz (Du [] Fc q))))) λx39 h=>(match x39,h with | .inl ⟨l29,i30,l31,i32,l33,l34,l35⟩,h=>gA (Ap q [6] Fc (tS h (De Ue))) | .inr r41,h=>Wf (λst' hk=>tS h (gK hk))))) | .inr r42,h=>Wf (λst' hk=>tS h (gK hk))))
abbrev kh:=(Int×List (Int×Aj))
def D4(a0:Ab):kh->Option (LR (Int×List (Int×Aj)) (List (Int×Aj))):=
 λ((i1,l2):kh)=>(bif (decide (i1<(a0.Params.length:Int))) then(Cw (Cd i1 a0.Params.length) ((Db (a0.Params.getD i1.toNat 0)).bind λx5=>(some (.next ((Bd (i1+1)),(Eh l2 (Bd (i1+1)) (⟨x5,(⟨(0:Int),(-1:Int)⟩:G1)⟩:Aj))))))) else(some (.done l2)))
abbrev kj:=(Int×List (Int×Aj)×A1×Int×List Ak×Int×A1×List A7)
def Da(a0:Ab):kj->Option (LR (Int×List (Int×Aj)×A1×Int×List Ak×Int×A1×List A7) ((List (Int×Aj)×A1×Int×List Ak×Int×A1×List A7) ⊕ (Int×Ab×Int×A1×List A7×List (Int×Aj)))):=
 λ((i8,l9,l10,i11,l12,i13,l14,l15):kj)=>(bif (decide (i8<(a0.Blocks.length:Int))) then(Cw (Cd i8 a0.Blocks.length) ((Ef i8 (a0.Blocks.getD i8.toNat default) (⟨l10,i11,l12⟩:Ab) i13 l14 l9 l15).bind λx24=>(bif (!x24.1) then(some (.done (.inr ((7:Int),x24.2.1,x24.2.2.1,x24.2.2.2.1,x24.2.2.2.2.1,x24.2.2.2.2.2)))) else(some (.next ((Bd (i8+1)),x24.2.2.2.2.2,x24.2.1.Params,x24.2.1.Ret,x24.2.1.Blocks,x24.2.2.1,x24.2.2.2.1,x24.2.2.2.2.1)))))) else(some (.done (.inl (l9,l10,i11,l12,i13,l14,l15)))))
abbrev SX:=(Int×Ab×Int×A1×List A7×List (Int×Aj))
def O4(Γ:Gw)(a0:Ab)(a4:Int)(a9:A1)(a5:List A7)(r:SX):Exit->St->Prop:=fK Tryz.prog Γ Tryz.f94.results.toList (Z3 a0.Params a0.Ret a0.Blocks a4 a9 a5 a5.length) (Z7 r.1) [(Z1 r.2.1.Params r.2.1.Ret r.2.1.Blocks r.2.2.1 r.2.2.2.1 9200005 r.2.2.2.2.1),(Z8 r.2.2.2.2.1.length),(9200005,.obj (.map false .i64 (mapE (λ(v_:Aj)=>((O6 v_):AV)) r.2.2.2.2.2)))]
def TN:=(λ(v_:Aj)=>((O6 v_):AV))
def mJ(l16:List Jh)(l17:A1)(i18:Int)(l19:List Ak)(i20:Int)(l21:A1)(l22:List A7):List SV:=[(8,.obj (.map true .i64 (mapE TN l16))),(j4 l17 i18 l19 i20 l21 l22),(Z8 l22.length)]
def E0(a0:Ab)(a4:Int)(a9:A1)(a5:List A7):Option SX:=
 ((Ai (D4 a0) ((0:Int),([]:List Jh))).bind (λx6=>((Ai (Da a0) ((0:Int),x6,a0.Params,a0.Ret,a0.Blocks,a4,a9,a5)).bind (λx25=>(match x25 with|(.inl (l16,l17,i18,l19,i20,l21,l22))=>(some ((0:Int),(⟨l17,i18,l19⟩:Ab),i20,l21,l22,l16))|(.inr r27)=>(some r27))))))
variable{v27:SX}
theorem Ov(h:E0 v0 v1 v2 v12=some v27):sP 94 [Xq] (Z3 v0.Params v0.Ret v0.Blocks v1 v2 v12 v12.length) (Z7 v27.1) [(Z1 v27.2.1.Params v27.2.1.Ret v27.2.1.Blocks v27.2.2.1 v27.2.2.2.1 9200005 v27.2.2.2.2.1),(Z8 v27.2.2.2.2.1.length),(9200005,.obj (.map false .i64 (mapE (λ(v_:Aj)=>((O6 v_):AV)) v27.2.2.2.2.2)))]:=
 sG Tryz.func94 λΓ q=>tW q [0] Fe [0] Kx (Mm (Sd (λ(k_:List FW) u=>Fq u [] [(8,.obj (.map true .i64 k_))]) (show[]=(mapE TN ([]:List Jh)) from rfl)) (Ap q VK Kx (tL q h VK Kx (λu (i1,l2)=>(Fq u [(17,(Z7 i1))] [(8,.obj (.map true .i64 (mapE TN l2)))])) (λu l3=>aG Γ (.exit 0) (W7 [0] Kx u [] [(8,.obj (.map true .i64 (mapE TN l3)))])) (λ⟨i1,l2⟩ y h=>Ap q [0,15,16,17,18] Kx (gC h (λh=>tV q [0,3,4,15,16,17] Kx h λh=>tB h λx5 y5 h=>tT q VK Kx [⟨[],[],(BR x5),[],[],[]⟩] (c1 (Hs y5)) (Mm (Sd (λ(k_:List FW) u=>Fq u [] [(8,.obj (.map true .i64 k_))]) (show(Eh (mapE TN l2) (Bd (i1+1)) (.agg [(Z7 x5.1),(Z7 x5.2),Nv,(.int .i64 (-1:Int))]))=(mapE TN (Eh l2 (Bd (i1+1)) (⟨x5,(⟨(0:Int),(-1:Int)⟩:G1)⟩:Aj))) from(Ws (f:=TN) (l:=l2) (v:=(⟨x5,(⟨(0:Int),(-1:Int)⟩:G1)⟩:Aj)) rfl rfl))) (Ap q VK Kx (tN h)))) λh=>tS h (gO (Dz (Du [0] Kx q))))) λx6 h=>gA (Ap q TH Kx (tL q h TH Kx (λu (i8,l9,l10,i11,l12,i13,l14,l15)=>(Fq u [(39,(Z7 i8))] [(8,.obj (.map true .i64 (mapE TN l9))),(j4 l10 i11 l12 i13 l14 l15),(Z8 l15.length)])) (λu x_=>match x_ with|(.inl (l16,l17,i18,l19,i20,l21,l22))=>aG Γ (.exit 2) (⟨[],(mJ l16 l17 i18 l19 i20 l21 l22),[]⟩:St)|(.inr r_)=>aR (O4 Γ v0 v1 v2 v12 r_)) (λ⟨i8,l9,l10,i11,l12,i13,l14,l15⟩ y h=>Ap q [0,37,38,39,40] Kx (gC h (λh=>tV q [0,5,6,37,38,39] [6,8,30000,37006] h λh=>tB h λx24 y24 h=>tT q [0,37,38,39,48] Kx [⟨[(30000,30000),(37006,37006),(8,9100005)],[],(.bool x24.1),[(Z1 x24.2.1.Params x24.2.1.Ret x24.2.1.Blocks x24.2.2.1 x24.2.2.2.1 9100005 x24.2.2.2.2.1),(Z8 x24.2.2.2.2.1.length),(9100005,.obj (.map true .i64 (mapE TN x24.2.2.2.2.2)))],[],[]⟩] (c1 (Nc y24)) (gC h (λh=>Ap q [2] Kx (Tn (⟨[(2,(.int .i64 (7:Int)))],[(8,.obj (.map true .i64 (mapE TN x24.2.2.2.2.2))),(j4 x24.2.1.Params x24.2.1.Ret x24.2.1.Blocks x24.2.2.1 x24.2.2.2.1 x24.2.2.2.2.1),(Z8 x24.2.2.2.2.1.length)],[]⟩:St) (tS h (gO (R4 (Kz hY (Le.trans (JV (nm:=8) (.map false .i64 (mapE TN x24.2.2.2.2.2)) rfl (λ_ _ _ _ h_=>NK h_)) (Du (st':=⟨[(2,(.int .i64 (7:Int)))],[(8,.obj (.map false .i64 (mapE TN x24.2.2.2.2.2))),(j4 x24.2.1.Params x24.2.1.Ret x24.2.1.Blocks x24.2.2.1 x24.2.2.2.1 x24.2.2.2.2.1),(Z8 x24.2.2.2.2.1.length)],[]⟩) [2] Kx q)))))))) λh=>Ap q TH Kx (tN h))) λh=>tS h (gO (Dz (Du [] Kx q))))) λx25 h=>(match x25,h with | .inl ⟨l16,l17,i18,l19,i20,l21,l22⟩,h=>gA (Ap q [2] Kx (Tn (⟨[(2,Nv)],(mJ l16 l17 i18 l19 i20 l21 l22),[]⟩:St) (tS h (gK (e:=.ret) (Kz hY (Le.trans (JV (nm:=8) (.map false .i64 (mapE TN l16)) rfl (λ_ _ _ _ h_=>NK h_)) (Du (st':=⟨[(2,Nv)],[(8,.obj (.map false .i64 (mapE TN l16))),(j4 l17 i18 l19 i20 l21 l22),(Z8 l22.length)],[]⟩) [2] Kx q))))))) | .inr r27,h=>Wf (λst' hk=>tS h (gK hk))))))))
abbrev kp:=(G1×Ab×Int×A1×List A7)
def Eb(aU:Int)(a0:Ab)(a4:Int)(a9:A1)(a7:List Jh)(a5:List A7):Option kp:=
 (Cw (Cd aU a0.Blocks.length) (some ((⟨aU,(((a0.Blocks.getD aU.toNat default).Ops).length:Int)⟩:G1),a0,a4,a9,a5)))
variable{v28:kp}
theorem Ih(h:Eb v1 v0 v11 v2 v25 v12=some v28):sP 171 [Xq,(Z7 v1)] [(Z1 v0.Params v0.Ret v0.Blocks v11 v2 9100005 v12),(Z8 v12.length),(9100005,.obj (.map false .i64 (mapE (λ(v_:Aj)=>((O6 v_):AV)) v25)))] (.agg (AY v28.1)) [(Z1 v28.2.1.Params v28.2.1.Ret v28.2.1.Blocks v28.2.2.1 v28.2.2.2.1 9100005 v28.2.2.2.2),(Z8 v28.2.2.2.2.length),(9100005,.obj (.map false .i64 (mapE (λ(v_:Aj)=>((O6 v_):AV)) v25)))]:=
 sG Tryz.func171 λΓ q=>Ap q [0,1,4] dH (tV q [4] dH h λh=>tS h (De Ue))
abbrev fy:=(Ab×Int×A1×List A7)
def Dj(a8:Int)(aW:Gm)(aK:G1)(a0:Ab)(a4:Int)(a9:A1)(a7:List Jh)(a5:List A7):Option fy:=
 (Cw (a5.length+([(⟨a8,aW,aK⟩:A7)]:List A7).length<=room) (some (a0,a4,a9,(a5++([(⟨a8,aW,aK⟩:A7)]:List A7)))))
variable{v29:fy}
theorem Gk(h:Dj v1 v19 v24 v0 v11 v2 v25 v12=some v29):sP 170 [Xq,(Z7 v1),(BR v19),(.agg (AY v24))] [(Z1 v0.Params v0.Ret v0.Blocks v11 v2 9100005 v12),(Z8 v12.length),(9100005,.obj (.map false .i64 (mapE (λ(v_:Aj)=>((O6 v_):AV)) v25)))] (.tuple []) [(Z1 v29.1.Params v29.1.Ret v29.1.Blocks v29.2.1 v29.2.2.1 9100005 v29.2.2.2),(Z8 v29.2.2.2.length),(9100005,.obj (.map false .i64 (mapE (λ(v_:Aj)=>((O6 v_):AV)) v25)))]:=
 sG Tryz.func170 λΓ q=>Ap q [0,1,6,7] VF (tC h λc1_ h=>gR q [] Fc [(17,(AV.list 5 I6 default ([(⟨v1,v19,v24⟩:A7)]:List A7) .exact)),(18,(AV.list 5 I6 default (v12++([(⟨v1,v19,v24⟩:A7)]:List A7)) (.own 37006)))] [] (c5 (Bu 5 I6 (default:A7) ([(⟨v1,v19,v24⟩:A7)]:List A7)) (Eq.refl v12.length) c1_ (Th 5 37006 I6 (default:A7) v12 ([(⟨v1,v19,v24⟩:A7)]:List A7)) (Hz v12 ([(⟨v1,v19,v24⟩:A7)]:List A7))) (tS h (gK (e:=.normal) (Kz Ue (Le.refl _ _)))))
def k9:List g9:=[(2,lD)]
def Kl(a1:Ce):Option fw:=
 ((Lh a1).bind λx1=>(bif (!x1) then(some ([]:List Gm)) else((Kq a1).bind λx2=>(some x2))))
theorem FP(h:Kl v6=some v21):sP 172 [(Vz v6)] [] (Z5 v21) []:=
 sG Tryz.func172 λΓ q=>gR q [1] [1] k9 [] (c1 (Iq 2 Bp ((0:Int),(0:Int)))) (tB h λx1 y1 h=>tT q [1,5] [1] [(Z2 x1)] (c1 (Sp y1)) (gC h (λh=>gR q [2] [] k9 [] (c1 (Iq 2 Bp ((0:Int),(0:Int)))) (Tn (⟨k9,[],[]⟩:St) (tS h (gK (e:=.ret) (Kz [] (show Le Γ _ (⟨[(2,(AV.list 2 Bp ((0:Int),(0:Int)) ([]:List Gm) .none))],[],[]⟩:St) from Le.trans (Du (st':=⟨k9,[],[]⟩) [2] [] q) (Kf (.cons AVle.untag .nil) .nil))))))) λh=>tB h λx2 y2 h=>tT q [2] [] [(VT x2)] (c1 (Uq y2)) (tS h (De []))))
abbrev dE:=(LR (Int×A1×Int×List Ak×Int×A1×List A7) (A1×Int×List Ak×Int×A1×List A7))
def C5(a0:Ab)(a7:List Jh)(i1:Int)(i21:Int):Mb->Option dE:=
 λ((i35,l36,i37,l38,i39,l40,l41):Mb)=>(bif (decide (i35<(((((a0.Blocks.getD i1.toNat default).Phis).getD i21.toNat default).Args).length:Int))) then(Cw (Cd i35 ((((a0.Blocks.getD i1.toNat default).Phis).getD i21.toNat default).Args).length) ((Db ((((a0.Blocks.getD i1.toNat default).Phis).getD i21.toNat default).Bits)).bind λx49=>(Cw (Cd i35 ((((a0.Blocks.getD i1.toNat default).Phis).getD i21.toNat default).From).length) ((Eb (((((a0.Blocks.getD i1.toNat default).Phis).getD i21.toNat default).From).getD i35.toNat 0) (⟨l36,i37,l38⟩:Ab) i39 l40 a7 l41).bind λx51=>((Dj (((((a0.Blocks.getD i1.toNat default).Phis).getD i21.toNat default).Args).getD i35.toNat 0) x49 x51.1 x51.2.1 x51.2.2.1 x51.2.2.2.1 a7 x51.2.2.2.2).bind λx52=>(some (.next ((Bd (i35+1)),x52.1.Params,x52.1.Ret,x52.1.Blocks,x52.2.1,x52.2.2.1,x52.2.2.2)))))))) else(some (.done (l36,i37,l38,i39,l40,l41))))
def C6(a0:Ab)(a7:List Jh)(i1:Int):Mb->Option dE:=
 λ((i21,l22,i23,l24,i25,l26,l27):Mb)=>(bif (decide (i21<(((a0.Blocks.getD i1.toNat default).Phis).length:Int))) then(Cw (Cd i21 ((a0.Blocks.getD i1.toNat default).Phis).length) ((Ai (C5 a0 a7 i1 i21) ((0:Int),l22,i23,l24,i25,l26,l27)).bind (λ(l42,i43,l44,i45,l46,l47)=>(some (.next ((Bd (i21+1)),l42,i43,l44,i45,l46,l47)))))) else(some (.done (l22,i23,l24,i25,l26,l27))))
def C7(a0:Ab)(a7:List Jh)(i1:Int)(i57:Int)(x71:List PA):Mb->Option dE:=
 λ((i72,l73,i74,l75,i76,l77,l78):Mb)=>(bif (decide (i72<(x71.length:Int))) then(Cw (Cd i72 x71.length) (Cw (Cd i72 ((((a0.Blocks.getD i1.toNat default).Ops).getD i57.toNat default).Args).length) ((Dj (((((a0.Blocks.getD i1.toNat default).Ops).getD i57.toNat default).Args).getD i72.toNat 0) (x71.getD i72.toNat ((0:Int),(0:Int))) (⟨i1,i57⟩:G1) (⟨l73,i74,l75⟩:Ab) i76 l77 a7 l78).bind λx87=>(some (.next ((Bd (i72+1)),x87.1.Params,x87.1.Ret,x87.1.Blocks,x87.2.1,x87.2.2.1,x87.2.2.2)))))) else(some (.done (l73,i74,l75,i76,l77,l78))))
def C8(a0:Ab)(a7:List Jh)(i1:Int):Mb->Option dE:=
 λ((i57,l58,i59,l60,i61,l62,l63):Mb)=>(bif (decide (i57<(((a0.Blocks.getD i1.toNat default).Ops).length:Int))) then(Cw (Cd i57 ((a0.Blocks.getD i1.toNat default).Ops).length) ((Kl (((a0.Blocks.getD i1.toNat default).Ops).getD i57.toNat default)).bind λx71=>((Ai (C7 a0 a7 i1 i57 x71) ((0:Int),l58,i59,l60,i61,l62,l63)).bind (λ(l79,i80,l81,i82,l83,l84)=>(some (.next ((Bd (i57+1)),l79,i80,l81,i82,l83,l84))))))) else(some (.done (l58,i59,l60,i61,l62,l63))))
def C9(a0:Ab)(a7:List Jh):Mb->Option dE:=
 λ((i1,l2,i3,l4,i5,l6,l7):Mb)=>(bif (decide (i1<(a0.Blocks.length:Int))) then(Option.bind (α:=(A1×Int×List Ak×Int×A1×List A7)) (Cw (Cd i1 a0.Blocks.length) ((Ai (C6 a0 a7 i1) ((0:Int),l2,i3,l4,i5,l6,l7)).bind (λx55=>(match x55 with|(l28,i29,l30,i31,l32,l33)=>((Ai (C8 a0 a7 i1) ((0:Int),l28,i29,l30,i31,l32,l33)).bind (λx90=>(match x90 with|(l64,i65,l66,i67,l68,l69)=>(bif (((a0.Blocks.getD i1.toNat default).End.Kind:Int)==0) then((Db i65).bind λx92=>((Eb i1 (⟨l64,i65,l66⟩:Ab) i67 l68 a7 l69).bind λx93=>((Dj ((a0.Blocks.getD i1.toNat default).End.Arg) x92 x93.1 x93.2.1 x93.2.2.1 x93.2.2.2.1 a7 x93.2.2.2.2).bind λx94=>(some (x94.1.Params,x94.1.Ret,x94.1.Blocks,x94.2.1,x94.2.2.1,x94.2.2.2))))) else(bif (((a0.Blocks.getD i1.toNat default).End.Kind:Int)==2) then((Db (1:Int)).bind λx95=>((Eb i1 (⟨l64,i65,l66⟩:Ab) i67 l68 a7 l69).bind λx96=>((Dj ((a0.Blocks.getD i1.toNat default).End.Arg) x95 x96.1 x96.2.1 x96.2.2.1 x96.2.2.2.1 a7 x96.2.2.2.2).bind λx97=>(some (x97.1.Params,x97.1.Ret,x97.1.Blocks,x97.2.1,x97.2.2.1,x97.2.2.2))))) else(some (l64,i65,l66,i67,l68,l69))))))))))) (λx98=>(match x98 with|(l14,i15,l16,i17,l18,l19)=>(some (.next ((Bd (i1+1)),l14,i15,l16,i17,l18,l19)))))) else(some (.done (l2,i3,l4,i5,l6,l7))))
def mv(a0:Ab)(i1:Int):=(a0.Blocks.getD i1.toNat default)
def gB(a7:List Jh):=(mapE (λ(v_:Aj)=>((O6 v_):AV)) a7)
def Ez(a0:Ab)(a4:Int)(a9:A1)(a7:List Jh)(a5:List A7):Option fy:=
 ((Ai (C9 a0 a7) ((0:Int),a0.Params,a0.Ret,a0.Blocks,a4,a9,a5)).bind (λ(l8,i9,l10,i11,l12,l13)=>(some ((⟨l8,i9,l10⟩:Ab),i11,l12,l13))))
theorem Ou(h:Ez v0 v1 v2 v25 v12=some v29):sP 133 [Xq] [(Z1 v0.Params v0.Ret v0.Blocks v1 v2 9100005 v12),(Z8 v12.length),(9100005,.obj (.map false .i64 (mapE (λ(v_:Aj)=>((O6 v_):AV)) v25)))] (.tuple []) [(Z1 v29.1.Params v29.1.Ret v29.1.Blocks v29.2.1 v29.2.2.1 9100005 v29.2.2.2),(Z8 v29.2.2.2.length),(9100005,.obj (.map false .i64 (mapE (λ(v_:Aj)=>((O6 v_):AV)) v25)))]:=
 sG Tryz.func133 λΓ q=>Ap q IL Fc (tL q h IL Fc (λu (i1,l2,i3,l4,i5,l6,l7)=>(Fq u [(18,(Z7 i1))] (JD l2 i3 l4 i5 l6 l7 l7.length))) (λu (l8,i9,l10,i11,l12,l13)=>aG Γ (.exit 0) (W7 [] Fc u [] (JD l8 i9 l10 i11 l12 l13 l13.length))) (λ⟨i1,l2,i3,l4,i5,l6,l7⟩ y h=>Ap q [0,16,17,18,19] Fc (gC h (λh=>tB h λx98 y98 h=>gJ y98 (λ(l14,i15,l16,i17,l18,l19)=>aG Γ .normal (⟨[(0,Xq),(16,(YK v0.Blocks)),(17,(LC v0.Blocks.length)),(18,(Z7 i1))],(j5 l14 i15 l16 i17 l18 9100005 l19 l19.length (gB v25)),[]⟩:St)) (λy h=>tV q PH Md h λh=>Ap q PE Md (tL q h PE Md (λu (i21,l22,i23,l24,i25,l26,l27)=>(Fq u [(26,(Z7 i21))] (JD l22 i23 l24 i25 l26 l27 l27.length))) (λu (l28,i29,l30,i31,l32,l33)=>aG Γ (.exit 2) (W7 PH Md u [] (JD l28 i29 l30 i31 l32 l33 l33.length))) (λ⟨i21,l22,i23,l24,i25,l26,l27⟩ y h=>Ap q [0,2,3,16,17,18,24,25,26,27] Md (gC h (λh=>tV q [0,2,3,5,16,17,18,24,25,26] Xl h λh=>Ap q VB Xl (tL q h VB Xl (λu (i35,l36,i37,l38,i39,l40,l41)=>(Fq u [(33,(Z7 i35))] (JD l36 i37 l38 i39 l40 l41 l41.length))) (λu (l42,i43,l44,i45,l46,l47)=>aG Γ (.exit 4) (W7 PE Md u [] (JD l42 i43 l44 i45 l46 l47 l47.length))) (λ⟨i35,l36,i37,l38,i39,l40,l41⟩ y h=>Ap q [0,2,3,5,16,17,18,24,25,26,31,32,33,34] Xl (gC h (λh=>tV q [0,2,3,5,6,7,16,17,18,24,25,26,31,32,33] Xl h λh=>tB h λx49 y49 h=>tC h λc50_ h=>tB h λx51 y51 h=>tB h λx52 y52 h=>tT q VB Xl [⟨[],[],(BR x49),[],[],[]⟩,(lh x51.1 x51.2.1.Params x51.2.1.Ret x51.2.1.Blocks x51.2.2.1 x51.2.2.2.1 x51.2.2.2.2 x51.2.2.2.2.length (gB v25)),(j0 x52.1.Params x52.1.Ret x52.1.Blocks x52.2.1 x52.2.2.1 x52.2.2.2 x52.2.2.2.length (gB v25))] (c4 (Hs y49) c50_ (Ih y51) (Gk y52)) (Ap q VB Xl (tN h))) λh=>tS h (gO (Dz (Du PE Md q))))) λx53 h=>(match x53,h with|⟨l42,i43,l44,i45,l46,l47⟩,h=>gA (Ap q PE Md (tN h))))) λh=>tS h (gO (Dz (Du PH Md q))))) λx55 h=>(match x55,h with|⟨l28,i29,l30,i31,l32,l33⟩,h=>gA (Ap q PF Md (tL q h PF Md (λu (i57,l58,i59,l60,i61,l62,l63)=>(Fq u [(56,(Z7 i57))] (JD l58 i59 l60 i61 l62 l63 l63.length))) (λu (l64,i65,l66,i67,l68,l69)=>aG Γ (.exit 6) (W7 PH Md u [] (JD l64 i65 l66 i67 l68 l69 l69.length))) (λ⟨i57,l58,i59,l60,i61,l62,l63⟩ y h=>Ap q [0,2,3,16,17,18,54,55,56,57] Md (gC h (λh=>tV q [0,2,3,8,9,16,17,18,54,55,56] IF h λh=>tB h λx71 y71 h=>tT q VA IF [(VT x71)] (c1 (FP y71)) (tL q h VA IF (λu (i72,l73,i74,l75,i76,l77,l78)=>(Fq u [(64,(Z7 i72))] (JD l73 i74 l75 i76 l77 l78 l78.length))) (λu (l79,i80,l81,i82,l83,l84)=>aG Γ (.exit 8) (W7 PF Md u [] (JD l79 i80 l81 i82 l83 l84 l84.length))) (λ⟨i72,l73,i74,l75,i76,l77,l78⟩ y h=>Ap q [0,2,3,8,9,16,17,18,54,55,56,62,63,64,65] IF (gC h (λh=>tV q [0,2,3,8,9,10,11,16,17,18,54,55,56,62,63,64] [3,9,11,30000,37006,9100005] h λh=>tC h λc86_ h=>tB h λx87 y87 h=>tT q VA IF [(j0 x87.1.Params x87.1.Ret x87.1.Blocks x87.2.1 x87.2.2.1 x87.2.2.2 x87.2.2.2.length (gB v25))] (c2 c86_ (Gk y87)) (Ap q VA IF (tN h))) λh=>tS h (gO (Dz (Du PF Md q))))) λx88 h=>(match x88,h with|⟨l79,i80,l81,i82,l83,l84⟩,h=>gA (Ap q PF Md (tN h))))) λh=>tS h (gO (Dz (Du PH Md q))))) λx90 h=>(match x90,h with|⟨l64,i65,l66,i67,l68,l69⟩,h=>gA (tW q [0,2,3,16,17,18,84] Md [0,2,3,16,17,18,84,85] Md (gC h (λh=>tB h λx92 y92 h=>tB h λx93 y93 h=>tB h λx94 y94 h=>tT q IL Fc [⟨[],[],(BR x92),[],[],[]⟩,(lh x93.1 x93.2.1.Params x93.2.1.Ret x93.2.1.Blocks x93.2.2.1 x93.2.2.2.1 x93.2.2.2.2 x93.2.2.2.2.length (gB v25)),(j0 x94.1.Params x94.1.Ret x94.1.Blocks x94.2.1 x94.2.2.1 x94.2.2.2 x94.2.2.2.length (gB v25))] (c3 (Hs y92) (Ih y93) (Gk y94)) (tS h (gK (Dz Mx)))) λh=>Ap q [0,2,3,16,17,18,101] Md (gC h (λh=>tB h λx95 y95 h=>tB h λx96 y96 h=>tB h λx97 y97 h=>tT q IL Fc [⟨[],[],(BR x95),[],[],[]⟩,(lh x96.1 x96.2.1.Params x96.2.1.Ret x96.2.1.Blocks x96.2.2.1 x96.2.2.2.1 x96.2.2.2.2 x96.2.2.2.2.length (gB v25)),(j0 x97.1.Params x97.1.Ret x97.1.Blocks x97.2.1 x97.2.2.1 x97.2.2.2 x97.2.2.2.length (gB v25))] (c3 (Hs y95) (Ih y96) (Gk y97)) (tS h (gK (Dz Mx)))) λh=>tS h (gK (Dz (Du IL Fc q)))))))))))) (match x98,h with|⟨l14,i15,l16,i17,l18,l19⟩,h=>gA (Ap q IL Fc (tN h)))) λh=>tS h (gO (Dz (Du [] Fc q))))) λx100 h=>(match x100,h with|⟨l8,i9,l10,i11,l12,l13⟩,h=>ge (λst' hl101=>tS h (gK (e:=.normal) (Kz Ue hl101)))))
def G4(aO:A7)(a0:Ab)(a4:Int)(a9:A1)(a7:List Jh)(a5:List A7):Option S6:=
 (some ((Bz a7 aO.v),a0,a4,a9,a5))
variable{v30:A7}
theorem Ox(h:G4 v30 v0 v1 v2 v25 v12=some v23):sP 134 [Xq,(.agg (I6 v30))] [(Z1 v0.Params v0.Ret v0.Blocks v1 v2 9100005 v12),(Z8 v12.length),(9100005,.obj (.map false .i64 (mapE (λ(v_:Aj)=>((O6 v_):AV)) v25)))] (.bool v23.1) [(Z1 v23.2.1.Params v23.2.1.Ret v23.2.1.Blocks v23.2.2.1 v23.2.2.2.1 9100005 v23.2.2.2.2),(Z8 v23.2.2.2.2.length),(9100005,.obj (.map false .i64 (mapE (λ(v_:Aj)=>((O6 v_):AV)) v25)))]:=
 sG Tryz.func134 λΓ q=>Ap q U8 Md (gR q [6] Fc [(14,(.tuple [(gG v25 v30.v),(.bool (Bz v25 v30.v))]))] [] (c1 (show(AVle (.tuple [mget (.agg [Nv,Nv,Nv,Nv]) (mapE (λ(v_:Aj)=>((O6 v_):AV)) v25) v30.v,.bool (Bz (mapE (λ(v_:Aj)=>((O6 v_):AV)) v25) v30.v)]) (.tuple [(gG v25 v30.v),(.bool (Bz v25 v30.v))])) from(Wr (f:=(λ(v_:Aj)=>((O6 v_):AV))) (l:=v25) (AVle.refl _) rfl))) (Ap q [4] Fc (tS h (De Ue))))
def H9(aO:A7)(a0:Ab)(a4:Int)(a9:A1)(a7:List Jh)(a5:List A7):Option S6:=
 (some (((((mget (default:Aj) a7 aO.v).shape.1:Int)==aO.shape.1)&&((((mget (default:Aj) a7 aO.v).shape.2:Int)==aO.shape.2)&&true)),a0,a4,a9,a5))
theorem Rr(h:H9 v30 v0 v1 v2 v25 v12=some v23):sP 135 [Xq,(.agg (I6 v30))] [(Z1 v0.Params v0.Ret v0.Blocks v1 v2 9100005 v12),(Z8 v12.length),(9100005,.obj (.map false .i64 (mapE (λ(v_:Aj)=>((O6 v_):AV)) v25)))] (.bool v23.1) [(Z1 v23.2.1.Params v23.2.1.Ret v23.2.1.Blocks v23.2.2.1 v23.2.2.2.1 9100005 v23.2.2.2.2),(Z8 v23.2.2.2.2.length),(9100005,.obj (.map false .i64 (mapE (λ(v_:Aj)=>((O6 v_):AV)) v25)))]:=
 sG Tryz.func135 λΓ q=>Ap q U8 Md (gR q [4] Fc [(11,(gG v25 v30.v))] [] (c1 (show(AVle (mget (.agg [Nv,Nv,Nv,Nv]) (mapE (λ(v_:Aj)=>((O6 v_):AV)) v25) v30.v) (gG v25 v30.v)) from(BE (f:=(λ(v_:Aj)=>((O6 v_):AV))) (l:=v25) (AVle.refl _) rfl))) (tS h (De Ue)))
def Bv(aX:A1)(a8:Int):Int->Option (LR Int (Unit ⊕ Int)):=
 λ(i1:Int)=>(bif (decide (i1<(aX.length:Int))) then(Cw (Cd i1 aX.length) (bif (a8==(aX.getD i1.toNat 0)) then(some (.done (.inr i1))) else(some (.next (Bd (i1+1)))))) else(some (.done (.inl ()))))
def Pt(Γ:Gw)(aX:A1)(a8:Int)(r:Int):Exit->St->Prop:=fK Tryz.prog Γ Tryz.f176.results.toList [] (.int .i64 r) []
def D9(aX:A1)(a8:Int):Option Int:=
 ((Ai (Bv aX a8) (0:Int)).bind (λx3=>(match x3 with|(.inl _)=>(some (-1:Int))|(.inr r5)=>(some r5))))
theorem Pd(h:D9 v2 v1=some v11):sP 176 [(Pp v2),(Z7 v1)] [] (.int .i64 v11) []:=
 sG Tryz.func176 λΓ q=>tW q Hb [] [0,1,7,8] [] (tL q h [0,1,7,8] [] (λu i1=>(Fq u [(8,(Z7 i1))] [])) (λu x_=>match x_ with|(.inl _)=>aG Γ (.exit 0) (⟨[],[],[]⟩:St)|(.inr r_)=>aR (Pt Γ v2 v1 r_)) (λi1 y h=>Ap q [0,1,7,8,9] [] (gC h (λh=>Ap q [0,1,5,7,8] [] (tV q [0,1,5,7,8,16] [] h λh=>gC h (λh=>Ap q [4] [] (tS h (gO (R4 (Kz [] (Le.refl _ _)))))) λh=>Ap q [0,1,7,8] [] (tN h))) λh=>tS h (gO (Dz (Du [] [] q))))) λx3 h=>(match x3,h with | .inl _,h=>gA (Ap q [4] [] (tS h (De []))) | .inr r5,h=>Wf (λst' hk=>tS h (gK hk))))
def Hw(aC:A1)(aK:Int):Option Bool:=
 (some (bif (decide ((0:Int)<=aK)) then(decide (aK<(aC.length:Int))) else false))
theorem Sk(h:Hw v2 v1=some v3):sP 229 [(Pp v2),(Z7 v1)] [] (.bool v3) []:=
 sG Tryz.func229 λΓ q=>Ap q Hb [] (tU q [4] [] (bQ ((decide ((0:Int)<=v1))==true) (c1 (M5 (decide ((0:Int)<=v1))))) (tS h (De [])))
def Cs(aC:A1)(aa0:Int)(aS:Int):SW->Option (LR (Int×A1) (A1 ⊕ (Bool×A1))):=
 λ((i1,l2):SW)=>(bif (i1 !=aS) then(Cw (Cd i1 l2.length) (bif ((l2.getD i1.toNat 0)!=0) then(Cw (Cd i1 l2.length) (some (.done (.inr (((l2.getD i1.toNat 0)!=(Bd (aa0+1))),l2))))) else(Cw (Cd i1 aC.length) ((Hw aC (aC.getD i1.toNat 0)).bind λx7=>(bif (!x7) then(some (.done (.inr (false,l2)))) else(Cw (Cd i1 l2.length) (Cw (Cd i1 aC.length) (some (.next ((aC.getD i1.toNat 0),(l2.set i1.toNat (Bd (aa0+1))))))))))))) else(some (.done (.inl l2))))
def LI(Γ:Gw)(aC:A1)(aa6:A1)(aa0:Int)(aS:Int)(r:dC):Exit->St->Prop:=fK Tryz.prog Γ Tryz.f228.results.toList [(Z4 34001 aa6)] (.bool r.1) [(Z4 34001 r.2)]
def N7(aC:A1)(aa6:A1)(aa0:Int)(aS:Int):Option dC:=
 ((Ai (Cs aC aa0 aS) (aa0,aa6)).bind (λx10=>(match x10 with|(.inl l3)=>(some (true,l3))|(.inr r12)=>(some r12))))
variable{v31:dC}
theorem KD(h:N7 v2 v17 v1 v11=some v31):sP 228 [(Pp v2),(.vsl 34001 v17.length),(Z7 v1),(Z7 v11)] [(Z4 34001 v17)] (.bool v31.1) [(Z4 34001 v31.2)]:=
 sG Tryz.func228 λΓ q=>tW q [0,1,2,3] [34001] [0,1,2,3,9] [34001] (Ap q VJ [34001] (tL q h VJ [34001] (λu (i1,l2)=>(Fq u [(1,(.vsl 34001 l2.length)),(10,(Z7 i1))] [(Z4 34001 l2)])) (λu x_=>match x_ with|(.inl l3)=>aG Γ (.exit 0) (⟨[],[(Z4 34001 l3)],[]⟩:St)|(.inr r_)=>aR (LI Γ v2 v17 v1 v11 r_)) (λ⟨i1,l2⟩ y h=>Ap q [0,1,3,9,10,16] [34001] (gC h (λh=>tC h λc4_ h=>tU q [0,1,3,9,10,25] [34001] (c2 c4_ (Eq.refl l2.length)) (gC h (λh=>tC h λc5_ h=>tU q [8] [34001] (c2 c5_ (Eq.refl l2.length)) (tS h (gO (R4 (Kz TD (Le.refl _ _)))))) λh=>tC h λc6_ h=>tB h λx7 y7 h=>tT q [0,1,3,9,10,38] [34001] [(Z2 x7)] (c2 c6_ (Sk y7)) (gC h (λh=>Ap q [8] [34001] (tS h (gO (R4 (Kz TD (Le.refl _ _)))))) λh=>tC h λc8_ h=>tU q VJ [34001] (c2 c8_ (Eq.refl l2.length)) (Mm (Le.trans (Wj 34001 (show ∀ k_,k_<l2.length->AVleL ((λi_=>AV.eraseAll (λn_=>Cb n_ [34001]) ((K0 (λi=>Ay (l2.getD i 0)) i1.toNat 0 [(.int .i64 (Bd (v1+1)))]) i_)) k_) ((λi=>Ay ((l2.set i1.toNat (Bd (v1+1))).getD i 0)) k_) from(Ci (Hv ..).symm (λk_ hk_=>(B7 (AV.eraseAll (λn_=>Cb n_ [34001])) ((Ly (λ_ _=>rfl) (N2 c8_) rfl) k_ hk_)).trans rfl)))) (Sd (λ(k_:Nat) u=>(Fq u [(1,(.vsl 34001 k_))] [(34001,.arr 1 3 k_ (λi=>Ay ((l2.set i1.toNat (Bd (v1+1))).getD i 0)))])) (show l2.length=(l2.set i1.toNat (Bd (v1+1))).length from(Hv ..).symm))) (tV q VJ [34001] h λh=>tN h))))) λh=>tS h (gO (Dz (Du [] [34001] q))))) λx10 h=>(match x10,h with | .inl l3,h=>gA (Ap q [8] [34001] (tS h (De TD))) | .inr r12,h=>Wf (λst' hk=>tS h (gK hk)))))
def Ec(aC:A1)(x1:Int):SW->Option (LR (Int×A1) (Unit ⊕ Bool)):=
 λ((i3,l4):SW)=>(bif (decide (i3<(aC.length:Int))) then(Cw (Cd i3 aC.length) ((bif (((aC.getD i3.toNat 0)!=-2)==true) then N7 aC l4 i3 x1 else some (false,[])).bind λx6=>(Cw ((((aC.getD i3.toNat 0)!=-2)==true)=true->(l4.length=x6.2.length)) (bif (bif ((aC.getD i3.toNat 0)!=-2) then(!x6.1) else false) then(some (.done (.inr false))) else(some (.next ((Bd (i3+1)),(bif (((aC.getD i3.toNat 0)!=-2)==true) then x6.2 else l4)))))))) else(some (.done (.inl ()))))
def IX(Γ:Gw)(aC:A1)(r:Bool):Exit->St->Prop:=fK Tryz.prog Γ Tryz.f216.results.toList [] (.bool r) []
def dc(aC:A1)(i3:Int):=(((aC.getD i3.toNat 0)!=-2)==true)
def Mo(aC:A1):Option Bool:=
 ((D9 aC (-1:Int)).bind λx1=>(bif (decide (x1<0)) then(some false) else(Cw (0<=(aC.length:Int)/\(aC.length:Int)<=(aC.length:Int)/\(aC.length:Int)<=(room:Int)) ((Ai (Ec aC x1) ((0:Int),(List.replicate (aC.length:Int).toNat (0:Int)))).bind (λx8=>(match x8 with|(.inl _)=>(some true)|(.inr r10)=>(some r10)))))))
theorem FK(h:Mo v2=some v3):sP 216 [(Pp v2)] [] (.bool v3) []:=
 sG Tryz.func216 λΓ q=>Ap q [0] [] (tB h λx1 y1 h=>tT q U8 [] [(VU x1)] (c1 (Pd y1)) (Ap q [0,3,9] [] (gC h (λh=>Ap q [2] [] (tS h (De []))) λh=>tV q [0,3,4] [12] h λh=>by exact Mm (Le.trans (Wj 12 (show ∀ k_,k_<((v2.length:Int).toNat)->AVleL ((λi_=>AV.eraseAll (λn_=>Cb n_ [12]) ((λ_=>[Nv]) i_)) k_) ((λi=>Ay ((List.replicate (v2.length:Int).toNat (0:Int)).getD i 0)) k_) from(λk hk=>Wn (e:=Ay) (d:=(0:Int)) (.cons (AVle.refl _) .nil) _ k (W5 hk)))) (Sd (λ(k_:Nat) u=>(Fq u [(4,(.vsl 12 k_))] [(12,.arr 1 3 k_ (λi=>Ay ((List.replicate (v2.length:Int).toNat (0:Int)).getD i 0)))])) (show(v2.length:Int).toNat=(List.replicate (v2.length:Int).toNat (0:Int)).length from(Xe ..).symm))) (Ap q TB [12] (tL q h TB [12] (λu (i3,l4)=>(Fq u [(4,(.vsl 12 l4.length)),(15,(Z7 i3))] [(Z4 12 l4)])) (λu x_=>match x_ with|(.inl _)=>aG Γ (.exit 0) (⟨[],[],[]⟩:St)|(.inr r_)=>aR (IX Γ v2 r_)) (λ⟨i3,l4⟩ y h=>Ap q [0,3,4,14,15,16] [12] (gC h (λh=>Ap q [0,3,4,5,14,15] [12] (tC h λc5_ h=>tB h λx6 y6 h=>tC h λc7_ h=>tT q [0,3,4,14,15,30] [12] [⟨[(12,34001)],[],(.bool x6.1),[(Z4 34001 x6.2)],[],[]⟩] (ci c5_ (jY (dc v2 i3) (c3 (λ(hg:(dc v2 i3)=true)=>(KD (Bs hg y6))) (gI (dc v2 i3)) (M5 ((v2.getD i3.toNat 0)!=-2))))) (Mm (Le.trans (Wj 12 (show ∀ k_,k_<(bif (dc v2 i3) then x6.2.length else l4.length)->AVleL ((λi_=>AV.eraseAll (λn_=>Cb n_ [12]) ((λi=>bif (dc v2 i3) then(λi=>Ay (x6.2.getD i 0)) i else(λi=>Ay (l4.getD i 0)) i) i_)) k_) ((λi=>Ay ((bif (dc v2 i3) then x6.2 else l4).getD i 0)) k_) from(Ci TU (λk_ hk_=>(B7 (AV.eraseAll (λn_=>Cb n_ [12])) ((λ_ _=>eH) k_ hk_)).trans rfl)))) (Le.trans (Sd (λ(k_:Nat) u=>(Fq u [] [(12,.arr 1 3 k_ (λi=>Ay ((bif (dc v2 i3) then x6.2 else l4).getD i 0)))])) (show(bif (dc v2 i3) then x6.2.length else l4.length)=(bif (dc v2 i3) then x6.2 else l4).length from TU)) (Sd (λ(k_:Nat) u=>(Fq u [(4,(.vsl 12 k_))] [])) (show l4.length=(bif (dc v2 i3) then x6.2 else l4).length from(eI c7_))))) (gC h (λh=>Ap q [2] [] (tS h (gO (R4 (Kz [] (Le.refl _ _)))))) λh=>Ap q TB [12] (tN h))))) λh=>tS h (gO (Dz (Du [] [] q))))) λx8 h=>(match x8,h with | .inl _,h=>gA (Ap q [2] [] (tS h (De []))) | .inr r10,h=>Wf (λst' hk=>tS h (gK hk))))))))
def Ib(aC:A1)(aK:Int):Option Bool:=
 ((Hw aC aK).bind λx1=>(Cw ((x1==true)=true->(Cd aK aC.length)) (some (bif x1 then((aC.getD aK.toNat 0)!=-2) else false))))
theorem Re(h:Ib v2 v1=some v3):sP 217 [(Pp v2),(Z7 v1)] [] (.bool v3) []:=
 sG Tryz.func217 λΓ q=>Ap q Hb [] (tB h λx1 y1 h=>tC h λc2_ h=>tT q [4] [] [(Z2 x1)] (ci (Sk y1) (Uj (x1==true) (ci c2_ (Uj (x1==true) (c1 (M5 x1)))))) (tS h (De [])))
def N6(aC:A1)(aF:Int)(aH:Int):Option Bool:=
 ((Mo aC).bind λx1=>((bif (x1==true) then Ib aC aF else some false).bind λx2=>((bif ((bif x1 then x2 else false)==true) then Ib aC aH else some false).bind λx3=>(some (bif (bif x1 then x2 else false) then x3 else false)))))
theorem KC(h:N6 v2 v1 v11=some v3):sP 191 [(Pp v2),(Z7 v1),(Z7 v11)] [] (.bool v3) []:=
 sG Tryz.func191 λΓ q=>Ap q EU [] (tB h λx1 y1 h=>tB h λx2 y2 h=>tB h λx3 y3 h=>tT q [6] [] [(Z2 x1),(Z2 x2),(Z2 x3)] (ci (FK y1) (Uj (x1==true) (YO (λ(hg:(x1==true)=true)=>(Re (Bs hg y2))) (M5 x1) (Uj ((bif x1 then x2 else false)==true) (c2 (λ(hg:((bif x1 then x2 else false)==true)=true)=>(Re (Bs hg y3))) (M5 (bif x1 then x2 else false))))))) (tS h (De [])))
def Qb(aC:A1)(aF:Int)(aH:Int):Option Bool:=
 ((N6 aC aF aH).bind λx1=>((bif (x1==true) then Lg aC aF aH else some (0:Int)).bind λx2=>(some (bif x1 then(x2==aF) else false))))
theorem NP(h:Qb v2 v1 v11=some v3):sP 173 [(Pp v2),(Z7 v1),(Z7 v11)] [] (.bool v3) []:=
 sG Tryz.func173 λΓ q=>Ap q EU [] (tB h λx1 y1 h=>tB h λx2 y2 h=>tT q [6] [] [(Z2 x1),(VU x2)] (ci (KC y1) (bQ (x1==true) (ci (λ(hg:(x1==true)=true)=>(Zi (Bs hg y2))) (Uj (x1==true) (c1 (M5 x1)))))) (tS h (De [])))
def E1(aO:A7)(a0:Ab)(a4:Int)(a9:A1)(a7:List Jh)(a5:List A7):Option S6:=
 (bif (((mget (default:Aj) a7 aO.v).place.block:Int)==aO.place.block) then(some ((decide (((mget (default:Aj) a7 aO.v).place.at_:Int)<aO.place.at_)),a0,a4,a9,a5)) else((Qb a9 ((mget (default:Aj) a7 aO.v).place.block) aO.place.block).bind λx1=>(some (x1,a0,a4,a9,a5))))
theorem Ow(h:E1 v30 v0 v1 v2 v25 v12=some v23):sP 136 [Xq,(.agg (I6 v30))] [(Z1 v0.Params v0.Ret v0.Blocks v1 v2 9100005 v12),(Z8 v12.length),(9100005,.obj (.map false .i64 (mapE (λ(v_:Aj)=>((O6 v_):AV)) v25)))] (.bool v23.1) [(Z1 v23.2.1.Params v23.2.1.Ret v23.2.1.Blocks v23.2.2.1 v23.2.2.2.1 9100005 v23.2.2.2.2),(Z8 v23.2.2.2.2.length),(9100005,.obj (.map false .i64 (mapE (λ(v_:Aj)=>((O6 v_):AV)) v25)))]:=
 sG Tryz.func136 λΓ q=>Ap q U8 Md (gR q [0,3,5] Xl [(12,(gG v25 v30.v))] [] (c1 (show(AVle (mget (.agg [Nv,Nv,Nv,Nv]) (mapE (λ(v_:Aj)=>((O6 v_):AV)) v25) v30.v) (gG v25 v30.v)) from(BE (f:=(λ(v_:Aj)=>((O6 v_):AV))) (l:=v25) (AVle.refl _) rfl))) (Ap q [0,3,5,19] Xl (gC h (λh=>Ap q [4] Fc (tS h (De Ue))) λh=>tB h λx1 y1 h=>tT q [4] Fc [(Z2 x1)] (c1 (NP y1)) (tS h (De Ue)))))
abbrev jL:=(LR (Int×A1×Int×List Ak×Int×A1×List A7) ((A1×Int×List Ak×Int×A1×List A7) ⊕ (A1×Int×List Ak×Int×A1×List A7)))
def C1(a7:List Jh)(x8:fy):Mb->Option jL:=
 λ((i9,l10,i11,l12,i13,l14,l15):Mb)=>(bif (decide (i9<(x8.2.2.2.length:Int))) then(Cw (Cd i9 x8.2.2.2.length) ((G4 (x8.2.2.2.getD i9.toNat default) (⟨l10,i11,l12⟩:Ab) i13 l14 a7 l15).bind λx29=>(bif (!x29.1) then(some (.done (.inr (x29.2.1.Params,x29.2.1.Ret,x29.2.1.Blocks,x29.2.2.1,x29.2.2.2.1,x29.2.2.2.2)))) else(some (.next ((Bd (i9+1)),x29.2.1.Params,x29.2.1.Ret,x29.2.1.Blocks,x29.2.2.1,x29.2.2.2.1,x29.2.2.2.2)))))) else(some (.done (.inl (l10,i11,l12,i13,l14,l15)))))
def C2(a7:List Jh)(l21:List A7):Mb->Option jL:=
 λ((i32,l33,i34,l35,i36,l37,l38):Mb)=>(bif (decide (i32<(l21.length:Int))) then(Cw (Cd i32 l21.length) ((H9 (l21.getD i32.toNat default) (⟨l33,i34,l35⟩:Ab) i36 l37 a7 l38).bind λx52=>(bif (!x52.1) then(some (.done (.inr (x52.2.1.Params,x52.2.1.Ret,x52.2.1.Blocks,x52.2.2.1,x52.2.2.2.1,x52.2.2.2.2)))) else(some (.next ((Bd (i32+1)),x52.2.1.Params,x52.2.1.Ret,x52.2.1.Blocks,x52.2.2.1,x52.2.2.2.1,x52.2.2.2.2)))))) else(some (.done (.inl (l33,i34,l35,i36,l37,l38)))))
def C3(a7:List Jh)(l44:List A7):Mb->Option jL:=
 λ((i55,l56,i57,l58,i59,l60,l61):Mb)=>(bif (decide (i55<(l44.length:Int))) then(Cw (Cd i55 l44.length) ((E1 (l44.getD i55.toNat default) (⟨l56,i57,l58⟩:Ab) i59 l60 a7 l61).bind λx75=>(bif (!x75.1) then(some (.done (.inr (x75.2.1.Params,x75.2.1.Ret,x75.2.1.Blocks,x75.2.2.1,x75.2.2.2.1,x75.2.2.2.2)))) else(some (.next ((Bd (i55+1)),x75.2.1.Params,x75.2.1.Ret,x75.2.1.Blocks,x75.2.2.1,x75.2.2.2.1,x75.2.2.2.2)))))) else(some (.done (.inl (l56,i57,l58,i59,l60,l61)))))
def Jy :Mb->Option (LR (Int×A1×Int×List Ak×Int×A1×List A7) (Int×Ab×Int×A1×List A7)):=
 λ(s_:Mb)=>match s_ with|(i1,l2,i3,l4,i5,l6,l7)=>(some (.done (i1,(⟨l2,i3,l4⟩:Ab),i5,l6,l7)))
def Rz(Γ:Gw)(a0:Ab)(a4:Int)(a9:A1)(a7:List Jh)(a5:List A7)(r:YD):Exit->St->Prop:=fK Tryz.prog Γ Tryz.f95.results.toList [(Z1 a0.Params a0.Ret a0.Blocks a4 a9 9100005 a5),(Z8 a5.length),(9100005,.obj (.map false .i64 (mapE (λ(v_:Aj)=>((O6 v_):AV)) a7)))] (Z7 r.1) [(Z1 r.2.1.Params r.2.1.Ret r.2.1.Blocks r.2.2.1 r.2.2.2.1 9100005 r.2.2.2.2),(Z8 r.2.2.2.2.length),(9100005,.obj (.map false .i64 (mapE (λ(v_:Aj)=>((O6 v_):AV)) a7)))]
def jx(a7:List Jh):=(mapE (λ(v_:Aj)=>((O6 v_):AV)) a7)
def Gg(a0:Ab)(a4:Int)(a9:A1)(a7:List Jh)(a5:List A7):Option YD:=
 ((O1 (S:=Mb) (X:=YD) ((Ez a0 a4 a9 a7 a5).bind λx8=>((Ai (C1 a7 x8) ((0:Int),x8.1.Params,x8.1.Ret,x8.1.Blocks,x8.2.1,x8.2.2.1,x8.2.2.2)).bind (λx30=>(match x30 with|(.inl (l16,i17,l18,i19,l20,l21))=>((Ai (C2 a7 l21) ((0:Int),l16,i17,l18,i19,l20,l21)).bind (λx53=>(match x53 with|(.inl (l39,i40,l41,i42,l43,l44))=>((Ai (C3 a7 l44) ((0:Int),l39,i40,l41,i42,l43,l44)).bind (λx76=>(match x76 with|(.inl (l62,i63,l64,i65,l66,l67))=>(some (.done ((0:Int),(⟨l62,i63,l64⟩:Ab),i65,l66,l67)))|(.inr (l68,i69,l70,i71,l72,l73))=>(some (.next ((7:Int),l68,i69,l70,i71,l72,l73))))))|(.inr (l45,i46,l47,i48,l49,l50))=>(some (.next ((6:Int),l45,i46,l47,i48,l49,l50))))))|(.inr (l22,i23,l24,i25,l26,l27))=>(some (.next ((7:Int),l22,i23,l24,i25,l26,l27))))))) Jy).bind (λx81=>(some x81)))
theorem Ru(h:Gg v0 v1 v2 v25 v12=some v13):sP 95 [Xq] [(Z1 v0.Params v0.Ret v0.Blocks v1 v2 9100005 v12),(Z8 v12.length),(9100005,.obj (.map false .i64 (mapE (λ(v_:Aj)=>((O6 v_):AV)) v25)))] (Z7 v13.1) [(Z1 v13.2.1.Params v13.2.1.Ret v13.2.1.Blocks v13.2.2.1 v13.2.2.2.1 9100005 v13.2.2.2.2),(Z8 v13.2.2.2.2.length),(9100005,.obj (.map false .i64 (mapE (λ(v_:Aj)=>((O6 v_):AV)) v25)))]:=
 sG Tryz.func95 λΓ q=>Ap q [0] Fc (tB h λx81 y81 h=>gS y81 (λ(s_:Mb)=>match s_ with|(i1,l2,i3,l4,i5,l6,l7)=>0) (λ(s_:Mb)=>match s_ with|(i1,l2,i3,l4,i5,l6,l7)=>(⟨[(4,(Z7 i1))],(j5 l2 i3 l4 i5 l6 9100005 l7 l7.length (jx v25)),[]⟩:St)) (λr_=>aR (Rz Γ v0 v1 v2 v25 v12 r_)) (λy h=>tB h λx8 y8 h=>tT q [0] Fc [(j0 x8.1.Params x8.1.Ret x8.1.Blocks x8.2.1 x8.2.2.1 x8.2.2.2 x8.2.2.2.length (jx v25))] (c1 (Ou y8)) (tW q U8 Md U8 Md (Ap q U5 Fc (gU 3 (Ap q VM Fc (WS true (tU q TI O3 (c1 (show(Cd (0:Int) 3) from(by decide))) (tW q TC O3 Xm O3 (tL q h Xm O3 (λu (i9,l10,i11,l12,i13,l14,l15)=>(Fq u [(32,(Z7 i9))] (JD l10 i11 l12 i13 l14 l15 l15.length))) (λu x_=>match x_ with|(.inl (l16,i17,l18,i19,l20,l21))=>aG Γ (.exit 2) (W7 U5 Fc u [] (JD l16 i17 l18 i19 l20 l21 l21.length))|(.inr (l22,i23,l24,i25,l26,l27))=>aG Γ (.goto 0) (W7 [4] Fc u [] (JD l22 i23 l24 i25 l26 l27 l27.length))) (λ⟨i9,l10,i11,l12,i13,l14,l15⟩ y h=>Ap q dK O3 (gC h (λh=>tV q dM dO h λh=>tB h λx29 y29 h=>tT q dL O3 [(li x29.1 x29.2.1.Params x29.2.1.Ret x29.2.1.Blocks x29.2.2.1 x29.2.2.2.1 x29.2.2.2.2 x29.2.2.2.2.length (jx v25))] (c1 (Ox y29)) (gC h (λh=>tS h (gO (Dz (Du [4] Fc q)))) λh=>Ap q Xm O3 (tN h))) λh=>tS h (gO (Dz (Du U5 Fc q))))) λx30 h=>(match x30,h with | .inl ⟨l16,i17,l18,i19,l20,l21⟩,h=>gA (tW q U5 Fc VM Fc (WS true (tU q TI O3 (c1 (show(Cd (1:Int) 3) from(by decide))) (tW q TC O3 Xm O3 (tL q h Xm O3 (λu (i32,l33,i34,l35,i36,l37,l38)=>(Fq u [(32,(Z7 i32))] (JD l33 i34 l35 i36 l37 l38 l38.length))) (λu x_=>match x_ with|(.inl (l39,i40,l41,i42,l43,l44))=>aG Γ (.exit 2) (W7 U5 Fc u [] (JD l39 i40 l41 i42 l43 l44 l44.length))|(.inr (l45,i46,l47,i48,l49,l50))=>aG Γ (.goto 0) (W7 [4] Fc u [] (JD l45 i46 l47 i48 l49 l50 l50.length))) (λ⟨i32,l33,i34,l35,i36,l37,l38⟩ y h=>Ap q dK O3 (gC h (λh=>tV q dM dO h λh=>tB h λx52 y52 h=>tT q dL O3 [(li x52.1 x52.2.1.Params x52.2.1.Ret x52.2.1.Blocks x52.2.2.1 x52.2.2.2.1 x52.2.2.2.2 x52.2.2.2.2.length (jx v25))] (c1 (Rr y52)) (gC h (λh=>tS h (gO (Dz (Du [4] Fc q)))) λh=>Ap q Xm O3 (tN h))) λh=>tS h (gO (Dz (Du U5 Fc q))))) λx53 h=>(match x53,h with | .inl ⟨l39,i40,l41,i42,l43,l44⟩,h=>gA (tW q U5 Fc VM Fc (WS true (tU q TI O3 (c1 (show(Cd (2:Int) 3) from(by decide))) (tW q TC O3 Xm O3 (tL q h Xm O3 (λu (i55,l56,i57,l58,i59,l60,l61)=>(Fq u [(32,(Z7 i55))] (JD l56 i57 l58 i59 l60 l61 l61.length))) (λu x_=>match x_ with|(.inl (l62,i63,l64,i65,l66,l67))=>aG Γ (.exit 2) (W7 U5 Fc u [] (JD l62 i63 l64 i65 l66 l67 l67.length))|(.inr (l68,i69,l70,i71,l72,l73))=>aG Γ (.goto 0) (W7 [4] Fc u [] (JD l68 i69 l70 i71 l72 l73 l73.length))) (λ⟨i55,l56,i57,l58,i59,l60,l61⟩ y h=>Ap q dK O3 (gC h (λh=>tV q dM dO h λh=>tB h λx75 y75 h=>tT q dL O3 [(li x75.1 x75.2.1.Params x75.2.1.Ret x75.2.1.Blocks x75.2.2.1 x75.2.2.2.1 x75.2.2.2.2 x75.2.2.2.2.length (jx v25))] (c1 (Ow y75)) (gC h (λh=>tS h (gO (Dz (Du [4] Fc q)))) λh=>Ap q Xm O3 (tN h))) λh=>tS h (gO (Dz (Du U5 Fc q))))) λx76 h=>(match x76,h with | .inl ⟨l62,i63,l64,i65,l66,l67⟩,h=>gA (tW q U5 Fc VM Fc (WS false (Ap q [2] Fc (tS h (gf (R4 (Kz Ue (Le.refl _ _)))))))) | .inr ⟨l68,i69,l70,i71,l72,l73⟩,h=>ge (λst' hl78=>tS h (ed (Le.trans hl78 Mx))))))))) | .inr ⟨l45,i46,l47,i48,l49,l50⟩,h=>ge (λst' hl79=>tS h (ed (Le.trans hl79 Mx))))))))) | .inr ⟨l22,i23,l24,i25,l26,l27⟩,h=>ge (λst' hl80=>tS h (ed (Le.trans hl80 Mx))))))))))))) (λ⟨i1,l2,i3,l4,i5,l6,l7⟩ y h=>Ap q [2] Fc (tS h (gf (R4 (Kz Ue (Le.refl _ _)))))) (Wf (λst' hk=>tS h (gK hk))))
def jy:=(λ(v_:Aj)=>((O6 v_):AV))
def mK(x1:YD):List SV:=(Z3 x1.2.1.Params x1.2.1.Ret x1.2.1.Blocks x1.2.2.1 x1.2.2.2.1 x1.2.2.2.2 x1.2.2.2.2.length)
def mL(x2:YD):List SV:=(Z3 x2.2.1.Params x2.2.1.Ret x2.2.1.Blocks x2.2.2.1 x2.2.2.2.1 x2.2.2.2.2 x2.2.2.2.2.length)
def mM(x3:YD):List SV:=(Z3 x3.2.1.Params x3.2.1.Ret x3.2.1.Blocks x3.2.2.1 x3.2.2.2.1 x3.2.2.2.2 x3.2.2.2.2.length)
def F1(a0:Ab)(a4:Int)(a9:A1)(a5:List A7):Option SX:=
 ((Gf a0 a4 a9 a5).bind λx1=>(bif (x1.1 !=0) then(some (x1.1,x1.2.1,x1.2.2.1,x1.2.2.2.1,x1.2.2.2.2,([]:List Jh))) else((Fj x1.2.1 x1.2.2.1 x1.2.2.2.1 x1.2.2.2.2).bind λx2=>(bif (x2.1 !=0) then(some (x2.1,x2.2.1,x2.2.2.1,x2.2.2.2.1,x2.2.2.2.2,([]:List Jh))) else((F0 x2.2.1 x2.2.2.1 x2.2.2.2.1 x2.2.2.2.2).bind λx3=>(bif (x3.1 !=0) then(some (x3.1,x3.2.1,x3.2.2.1,x3.2.2.2.1,x3.2.2.2.2,([]:List Jh))) else((E0 x3.2.1 x3.2.2.1 x3.2.2.2.1 x3.2.2.2.2).bind λx4=>(bif (x4.1 !=0) then(some (x4.1,x4.2.1,x4.2.2.1,x4.2.2.2.1,x4.2.2.2.2.1,x4.2.2.2.2.2)) else((Gg x4.2.1 x4.2.2.1 x4.2.2.2.1 x4.2.2.2.2.2 x4.2.2.2.2.1).bind λx5=>(bif (x5.1 !=0) then(some (x5.1,x5.2.1,x5.2.2.1,x5.2.2.2.1,x5.2.2.2.2,x4.2.2.2.2.2)) else(some ((0:Int),x5.2.1,x5.2.2.1,x5.2.2.2.1,x5.2.2.2.2,x4.2.2.2.2.2))))))))))))
theorem Ql(h:F1 v0 v1 v2 v12=some v27):sP 56 [Xq] (Z3 v0.Params v0.Ret v0.Blocks v1 v2 v12 v12.length) (Z7 v27.1) [(Z1 v27.2.1.Params v27.2.1.Ret v27.2.1.Blocks v27.2.2.1 v27.2.2.2.1 9200005 v27.2.2.2.2.1),(Z8 v27.2.2.2.2.1.length),(9200005,.obj (.map false .i64 (mapE (λ(v_:Aj)=>((O6 v_):AV)) v27.2.2.2.2.2)))]:=
 sG Tryz.func56 λΓ q=>tW q [0] Fe [3] PJ (Ap q Y2 Fe (gU 5 (Ap q IQ Fe (WS true (tU q PP Fe (c1 (show(Cd (0:Int) 5) from(by decide))) (tB h λx1 y1 h=>tT q PQ Fe [(ll x1.1 (mK x1))] (c1 (Rs y1)) (Ap q PN Fe (gC h (λh=>Ap q [2] Fe (Tn (⟨[(2,(Z7 x1.1))],(mK x1),[]⟩:St) (tS h (gK (e:=.ret) (Kz dJ (Le.trans (P8 (r:=30000) (j:=5) (nm:=9300005) .i64 rfl rfl (nl rfl) rfl) (Du (st':=⟨[(2,(Z7 x1.1))],[(Z1 x1.2.1.Params x1.2.1.Ret x1.2.1.Blocks x1.2.2.1 x1.2.2.2.1 9300005 x1.2.2.2.2),(Z8 x1.2.2.2.2.length),(9300005,.obj (.map false .i64 (mapE jy ([]:List Jh))))],[]⟩) [2] dR q))))))) λh=>tW q Y2 Fe IQ Fe (WS true (tU q PP Fe (c1 (show(Cd (1:Int) 5) from(by decide))) (tB h λx2 y2 h=>tT q PQ Fe [(ll x2.1 (mL x2))] (c1 (Pb y2)) (Ap q PN Fe (gC h (λh=>Ap q [2] Fe (Tn (⟨[(2,(Z7 x2.1))],(mL x2),[]⟩:St) (tS h (gK (e:=.ret) (Kz dJ (Le.trans (P8 (r:=30000) (j:=5) (nm:=9300005) .i64 rfl rfl (nl rfl) rfl) (Du (st':=⟨[(2,(Z7 x2.1))],[(Z1 x2.2.1.Params x2.2.1.Ret x2.2.1.Blocks x2.2.2.1 x2.2.2.2.1 9300005 x2.2.2.2.2),(Z8 x2.2.2.2.2.length),(9300005,.obj (.map false .i64 (mapE jy ([]:List Jh))))],[]⟩) [2] dR q))))))) λh=>tW q Y2 Fe IQ Fe (WS true (tU q PP Fe (c1 (show(Cd (2:Int) 5) from(by decide))) (tB h λx3 y3 h=>tT q PQ Fe [(ll x3.1 (mM x3))] (c1 (Qk y3)) (Ap q PN Fe (gC h (λh=>Ap q [2] Fe (Tn (⟨[(2,(Z7 x3.1))],(mM x3),[]⟩:St) (tS h (gK (e:=.ret) (Kz dJ (Le.trans (P8 (r:=30000) (j:=5) (nm:=9300005) .i64 rfl rfl (nl rfl) rfl) (Du (st':=⟨[(2,(Z7 x3.1))],[(Z1 x3.2.1.Params x3.2.1.Ret x3.2.1.Blocks x3.2.2.1 x3.2.2.2.1 9300005 x3.2.2.2.2),(Z8 x3.2.2.2.2.length),(9300005,.obj (.map false .i64 (mapE jy ([]:List Jh))))],[]⟩) [2] dR q))))))) λh=>tW q Y2 Fe IQ Fe (WS true (tU q PP Fe (c1 (show(Cd (3:Int) 5) from(by decide))) (tB h λx4 y4 h=>tT q PQ Rl [⟨AO,[(9200005,13000005)],(Z7 x4.1),[(Z1 x4.2.1.Params x4.2.1.Ret x4.2.1.Blocks x4.2.2.1 x4.2.2.2.1 9200005 x4.2.2.2.2.1),(Z8 x4.2.2.2.2.1.length),(9200005,.obj (.map false .i64 (mapE jy x4.2.2.2.2.2)))],[],[]⟩] (c1 (Ov y4)) (Ap q PN Rl (gC h (λh=>Ap q [2] Rl (tS h (De dI))) λh=>tW q Y2 Rl IQ Rl (WS true (tU q PP Rl (c1 (show(Cd (4:Int) 5) from(by decide))) (tB h λx5 y5 h=>tT q PQ Rl [⟨[(30000,30000),(37006,37006),(13000005,9100005)],[],(Z7 x5.1),[(Z1 x5.2.1.Params x5.2.1.Ret x5.2.1.Blocks x5.2.2.1 x5.2.2.2.1 9100005 x5.2.2.2.2),(Z8 x5.2.2.2.2.length),(9100005,.obj (.map false .i64 (mapE jy x4.2.2.2.2.2)))],[],[]⟩] (c1 (Ru y5)) (Ap q PN Rl (gC h (λh=>Ap q [2] Rl (tS h (De dI))) λh=>tW q Y2 Rl IQ Rl (WS false (Ap q [2] Rl (tS h (De dI))))))))))))))))))))))))))))))))
end
end Go.Proofs.YtiendmljhgbjoaaGreat
