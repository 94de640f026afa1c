/-
  The machine, the program's functions and the laws' arithmetic: part 3 of 5.
-/
import Derived.Test.YtjpnobeadcdnoaaGreatPk2
import Derived.BigCall
import Derived.Lib.RowBridge
import Derived.Shelf.Slices.Clone
import Derived.Shelf.Slices.CompactI
import Derived.Shelf.Slices.In.SortNone
import Derived.Shelf.Sort.Plain
import Derived.Sort.OwnSortedInts
import Derived.Test.YtjpnobeadcdnoaaGreatProg
set_option linter.unusedSectionVars false
set_option linter.unusedVariables false
set_option linter.unusedSimpArgs false
namespace Go.Proofs.YtjpnobeadcdnoaaGreat
noncomputable section
open Go Go.RowKit
section
variable {P:Program} {Γ:G0} {σ:Sto} {I:Nat->Nat->Prop} {θ:Nat->Option (Nat×Nat)} {a:Act} {w:World} {o:Oper}
theorem RD{g bm since:Nat}{seen:Array Nat}{es:Array MapEntry}(hg:w.heap[g]?=some (.mapIter (some bm) since seen since))(hb:w.heap[bm]?=some (.map es since))(hold:∀ x∈es.toList,x.born<since)(ty:TypeId) :
  ((∀ e∈es.toList,e.born∈seen.toList)/\(Instr.next (.pointer (some ⟨g,0,none⟩)) false ty).run P w = .ok (.tuple #[.bool false]) w) \/
  ∃ e∈es.toList,e.born∉seen.toList/\((Instr.next (.pointer (some ⟨g,0,none⟩)) false ty).run P w = .ok (.tuple #[.bool true,e.key,e.val]) (On w g (.mapIter (some bm) since (seen.push e.born) since)) \/
   (Instr.next (.pointer (some ⟨g,0,none⟩)) false ty).run P w = .ok (.tuple #[.bool true,e.key,e.val]) (On w.drew g (.mapIter (some bm) since (seen.push e.born) since))):=by
 simp only[Instr.next,getObj,C2,Sem.run,hg,hb,Result.andThen,next_test_false seen es since since hold (zzL7 _),Yl,E0]
 have hmem:∀ x∈(Array.filter (λe=>!seen.contains e.born) es).toList,x∈es.toList/\x.born∉seen.toList:=λx hx=>by
  simp only[Array.toList_filter,zzL66,Ph,Array.contains_eq_mem,KK]at hx;exact⟨hx.1,by simpa using hx.2⟩
 have hall:(Array.filter (λe=>!seen.contains e.born) es).size=0->∀ e∈es.toList,e.born∈seen.toList:=λh0 e he=>by
  by_cases hc:e.born∈seen.toList
  ·exact hc
  ·have:e∈(Array.filter (λe=>!seen.contains e.born) es).toList:=by
    simp only[Array.toList_filter,zzL66,Ph,Array.contains_eq_mem,KK];exact⟨he,by simpa using hc⟩
   have h1:0<(Array.filter (λe=>!seen.contains e.born) es).toList.length:=List.length_pos_of_mem this;rw[Z0]at h1;omega
 generalize Array.filter (λe=>!seen.contains e.born) es=L at hmem hall ⊢
 have e1:L.filter (λx=>decide (x.born<since))=L:=Array.filter_eq_self.2 (λx hx=>by simpa using hold x (hmem x (by simpa using hx)).1)
 have e2:L.filter (λx=>decide (x.born>=since)) = #[]:=by
  rw[Array.filter_eq_empty_iff];intro x hx;have:=hold x (hmem x (by simpa using hx)).1
  simp
  omega
 simp only[e1,e2,Array.append_empty]
 by_cases h0:L.size=0
 ·left
  have:L = #[]:=Array.eq_empty_of_size_eq_zero h0;subst this;refine⟨hall rfl,?_⟩;simp[choose,Sem.run,Question.forced]
 ·right
  have hne:L.isEmpty=false:=by simp[Array.isEmpty,h0]
  simp only[hne,Yl,E0,Array.empty_append,Array.size_map];have hgl:g<w.heap.size:=(Array.getElem?_eq_some_iff.1 hg).1
  have hch:∃(j:Nat) (w1:World),j<L.size/\(w1=w\/w1=w.drew)/\(choose (Question.mapNext L.size)).run P w = .ok j w1:=by
   by_cases hf:L.size<=1
   ·exact⟨0,w,by omega,.inl rfl,by simp[choose,Sem.run,Question.forced,hf]⟩
   ·exact⟨_,w.drew,Nat.mod_lt _ (by omega),.inr rfl,by
     simp only[choose,Sem.run,Question.forced,Du,hf,E0,Question.cut]
     rfl⟩
  obtain⟨j,w1,hj,hw,hrun⟩:=hch
  have hLj:L[j]∈L.toList:=by simp
  refine⟨L[j],(hmem _ hLj).1,(hmem _ hLj).2,?_⟩
  have hset:∀ o',(setObj g o').run P w1 = .ok () (On w1 g o'):=λo'=>by
   have hh:w1.heap[g]?=some (.mapIter (some bm) since seen since):=by rcases hw with rfl|rfl<;>exact hg
   simp[setObj,Sem.run,hh,On]
  simp only[hrun,Array.getElem?_map,Array.getElem?_eq_getElem hj,W1,C2,hset,Result.andThen];rcases hw with rfl|rfl
  ·exact .inl rfl
  ·exact .inr rfl
theorem d9(h:Rel Γ σ I θ a w)(hd:∀ d,o.dst=some d->d<Γ.n){x:Operand}(ho:o.op = .next x false){nm mm n:Nat}{s:List Nat}{nn:Bool}{k:IntKind}{l:List (Int×AV)}(hx:Rep I σ.own θ w (a.eval x) (.optr nm mm))
  (hit:σ.own nm=some (.obj (.miter (.omap mm) n s))) (hown:σ.own mm=some (.obj (.map nn k l))) (hn:n=l.length) (K:Act->World->Prop) (Q:Exit->Act->World->Prop)
  (hdone:(∀ i,i<n->i∈s)->∀ I' θ' a' w',Rel Γ (σ.upd o.dst (.tuple [.bool false]) []) I' θ' a' w'->K a' w')
  (hmore:∀ i,i<n->i∉s->∀ I' θ' a' w',Rel Γ (σ.upd o.dst (.tuple [.bool true,.int k (l.getD i (0,.any)).1,(l.getD i (0,.any)).2]) [(nm,.obj (.miter (.omap mm) n (i::s)))]) I' θ' a' w'->K a' w'):o.wp P a w K Q:=by
 obtain⟨_,g,c,ho',hg,hv⟩:=hx.optr_inv
 obtain⟨ob,h2,h3⟩:∃ ob,w.heap[g]?=some ob/\ObjR I σ.own θ w ob (.miter (.omap mm) n s):=by
  rcases h.chg.rel.obj nm _ hit with⟨g',c',ob,h1,h2,h3,h4⟩|⟨h1,_⟩
  ·rw[hg]at h1;simp only[Af,Ii]at h1;obtain⟨rfl,rfl⟩:=h1;exact⟨ob,h2,h3⟩
  ·rw[hg]at h1;cases h1
 obtain⟨r,cc,seen,rfl,hseen,rfl,hr⟩:=JK h3;obtain⟨_,_,hxm⟩:=hr.omap_inv;simp only[Value.map.injEq]at hxm
 have hfalse:∀(hrun:(execOp a.eval o).run P w = .ok (.value (.tuple #[.bool false])) w),(∀ i,i<cc->i∈s)->o.wp P a w K Q:=λhrun hall=>
  Ak (x:=.tuple [.bool false]) h hd hrun (.tuple _ _ rfl (λj hj=>by
   obtain rfl:j=0:=by simp at hj;omega
   exact .val _ _ (.bool _))) K Q (hdone hall)
 rcases map_at h hown with⟨gm,c',es',h4,h5,h6⟩|⟨h4,_,h7⟩
 ·rw[h4]at hxm;obtain rfl:r=some gm:=hxm;obtain⟨hlen,hent⟩:=Uy l es'.toList 0 h6
  have hmem:∀ e∈es'.toList,∃ i,i<l.length/\es'.toList[i]?=some e/\e.born=i/\e.key = .int k (l.getD i (0,.any)).1/\LG I w e.val (l.getD i (0,.any)).2:=λe he=>by
   obtain⟨i,hi,rfl⟩:=List.mem_iff_getElem.1 he;obtain⟨v,e1,e2⟩:=hent i (by omega);rw[Sj hi]at e1;have e3:=OI e1;exact⟨i,by omega,Sj hi,by rw[e3];simp,by rw[e3],by rw[e3];exact e2⟩
  rw[<- hn]at h5;have hnx:=RD (P:=P) h2 h5 (λe he=>by obtain⟨i,hi,_,hb,_⟩:=hmem e he;omega) (ty:=0);have hty:∀ ty,Instr.next (.pointer (some ⟨g,0,none⟩)) false ty=Instr.next (.pointer (some ⟨g,0,none⟩)) false 0:=λ_=>rfl;rcases hnx with⟨hall,hrun⟩|⟨e,he,hns,hrun⟩
  ·refine hfalse ?_ (λi hi=>?_)
   ·simp only[execOp,ho,hv,hty];simp[hrun]
   ·obtain⟨v,e1,e2⟩:=hent i (by omega);have:=hall _ (List.mem_of_getElem? e1);rw[<- hseen,zzL96]
    simpa using this
  ·obtain⟨i,hi,_,hb,hkey,hval⟩:=hmem e he
   have his:i∉s:=by rw[<- hseen,zzL96,<- hb];exact hns
   have hrev:(seen.push e.born).toList.reverse=i::s:=by rw[Array.toList_push,List.reverse_append,hseen,hb];rfl
   have step:∀ w1:World,Rel Γ σ I θ a w1->w1.heap=w.heap->(execOp a.eval o).run P w = .ok (.value (.tuple #[.bool true,e.key,e.val])) (On w1 g (.mapIter (some gm) cc (seen.push e.born) cc))->o.wp P a w K Q:=λw1 hr1 hh hrun=>by
    have hcell:∀ b j,I b j->w1.cell? ⟨b,j,none⟩=w.cell? ⟨b,j,none⟩:=λb j _=>by simp only[World.cell?,hh]
    have hr':Rep I σ.own θ w1 (.map (some gm)) (.omap mm):=hr.mono (λ_ _ h=>h) hcell (λ_ o ho=>⟨o,ho,.refl _ _⟩)
    have hc:ObjR I σ.own θ w1 (.mapIter (some gm) cc (seen.push e.born) cc) (.miter (.omap mm) cc (i::s)):=by
     have:=ObjR.miter (I:=I) (own:=σ.own) (θ:=θ) (w:=w1) (some gm) (.omap mm) cc cc (seen.push e.born) rfl hr';rwa[hrev]at this
    have kc:=Nx hr1.chg.rel hr1.chg.valid hit hg hc;have hval':RepV I (On w1 g (.mapIter (some gm) cc (seen.push e.born) cc)) e.val (l.getD i (0,.any)).2:=hval.1.mono (λ_ _ h=>h) (λb j hj=>by rw[kc.cell b j hj,hcell b j hj])
    have k2:Chg σ.own θ I w1 (σ.upd o.dst (.tuple [.bool true,.int k (l.getD i (0,.any)).1,(l.getD i (0,.any)).2]) [(nm,.obj (.miter (.omap mm) cc (i::s)))]).own θ I (On w1 g (.mapIter (some gm) cc (seen.push e.born) cc)):=by rw[Bk];exact kc
    have hput:=U2 (v:=.tuple #[.bool true,e.key,e.val]) (x:=.tuple [.bool true,.int k (l.getD i (0,.any)).1,(l.getD i (0,.any)).2]) hr1 k2 (.tuple _ _ rfl (λj hj=>by
     have hj:j=0\/j=1\/j=2:=by simp at hj;omega
     rcases hj with rfl|rfl|rfl
     ·exact .val _ _ (.bool _)
     ·rw[show(#[Value.bool true,e.key,e.val].getD 1 Go.undef)=e.key from rfl,hkey];exact .val _ _ (.int _ _)
     ·exact .val _ _ hval')) hd
    unfold Oper.wp;rw[hrun];exact hmore i (by omega) his _ _ _ _ hput
   rcases hrun with hrun|hrun
   ·refine step w h rfl ?_;simp only[execOp,ho,hv,hty];simp[hrun]
   ·refine step w.drew (QV h) rfl ?_;simp only[execOp,ho,hv,hty];simp[hrun]
 ·rw[h4]at hxm;obtain rfl:r=none:=hxm;subst h7;refine hfalse ?_ (λi hi=>by simp at hn;omega);simp only[execOp,ho,hv];simp[Instr.next,getObj,Sem.run,h2]
theorem ZD{id:Nat}{o1 o2:Oper}{K:Exit->St->Prop}{st:St}{n:Nat}{H:List (Nat×Own)}{x t b nm mm len:Nat}{s:List Nat}{nn:Bool}{k:IntKind}{l:List (Int×AV)}(q:RgQ P Γ n H)(live names:List Nat)
  (h1:o1.op = .next (.tmp x) false) (d1:o1.dst=some t) (g1:o1.guard=none) (h2:o2.op = .extract (.tmp t) 0) (d2:o2.dst=some b) (g2:o2.guard=none) (hb:(Nat.blt t n&&(Nat.blt b n&&(Nat.blt nm A9&&Nat.blt mm A9)))=true)
  (hx:st.get x = .optr nm mm) (hit:Ad st.own nm=some (.obj (.miter (.omap mm) len s))) (hm:Ad st.own mm=some (.obj (.map nn k l))) (hlen:len=l.length) (hh:(H.all λx=>Cj x.1 names)=true)
  (hdone:(∀ i,i<len->i∈s)->K .normal (A3 live names ((st.upd (some t) (.tuple [.bool false]) []).upd (some b) (.bool false) [])))
  (hmore:∀ i,i<len->i∉s->K .normal (A3 live names ((st.upd (some t) (.tuple [.bool true,.int k (l.getD i (0,.any)).1,(l.getD i (0,.any)).2]) [(nm,.obj (.miter (.omap mm) len (i::s)))]).upd (some b) (.bool true) []))):Ss P Γ (.region id #[o1,o2] false) K st:=by
 simp only[A6,Gz]at hb;obtain⟨b1,b2,b3,b4⟩:=hb;intro I θ a w hrel;refine wp_region ?_;have hget:∀ t,Rep I st.sto.own θ w (a.tmps.getD t undef) (st.get t):=hrel.slots
 have w1:∀ tm,Region.wanted o1 tm=true:=λtm=>by simp[Region.wanted,g1]
 have w2:∀ tm,Region.wanted o2 tm=true:=λtm=>by simp[Region.wanted,g2]
 have hl:(List.range (#[o1,o2]:Array Oper).size)=[0,1]:=rfl;have hsec:∀(st2:St) (vb:Bool) (r:List AV) (I':Nat->Nat->Prop) (θ':Nat->Option (Nat×Nat)) (a':Act) (w':World),st2.get t = .tuple (.bool vb::r)->Rel Γ st2.sto I' θ' a' w'->K .normal (A3 live names (st2.upd (some b) (.bool vb) []))->
   wpOps P #[o1,o2] (λe a' w'=>∃ st' I' θ',K e st'/\Rel Γ st'.sto I' θ' a' w') [1] a' w':=λst2 vb r I' θ' a' w' hgt hr hK=>by
  rw[wpOps_cons]
  show wpOp P #[o1,o2] _ 1 _ a' w'
  unfold wpOp;simp only[show(#[o1,o2]:Array Oper)[1]?=some o2 from rfl,w2,Hj];refine .inl ?_;have ht:=hr.slots t;rw[show st2.sto.tmp t=st2.get t from rfl,hgt]at ht;obtain⟨vs,hv,hsz,hvr⟩:=ht.tuple_inv;have h0:=hvr 0 (by simp);have h0':vs.getD 0 Go.undef = .bool vb:=Rep.bool_inv h0
  have hpos:0<vs.size:=by rw[hsz];simp
  refine Ak hr (λd hd=>?_) (v:=.bool vb) (x:=.bool vb) ?_ (.val _ _ (.bool _)) _ _ (λI2 θ2 a2 w2 h2=>?_)
  ·rw[d2]at hd;obtain rfl:=OI hd;rw[q.hn];exact b2
  ·simp only[execOp,h2,Act.eval];rw[hv]
   have:vs[0]?=some (.bool vb):=by
    rw[Nb,Array.getElem?_eq_getElem hpos,AB]at h0';rw[Array.getElem?_eq_getElem hpos,h0']
   simp[Instr.extract,this]
  ·refine⟨_,I2,θ2,hK,Rv ?_ (q.hand hh)⟩;rw[DB (ns:=[]) st2 (some b) (.bool vb) [] rfl];rw[d2]at h2;exact h2
 rw[hl,wpOps_cons];unfold wpOp;simp only[show(#[o1,o2]:Array Oper)[0]?=some o1 from rfl,w1,Hj];refine .inl ?_;have hxr:=hget x;rw[hx]at hxr;refine d9 hrel (λd hd=>?_) h1 (nm:=nm) (mm:=mm) (n:=len) (s:=s) (nn:=nn) (k:=k) (l:=l) hxr ((A2 b3).trans hit) ((A2 b4).trans hm) hlen _ _ (λhall I' θ' a' w' hr=>?_) (λi hi hni I' θ' a' w' hr=>?_)
 ·rw[d1]at hd;obtain rfl:=OI hd;rw[q.hn];exact b1
 ·rw[d1,<- DB (ns:=[]) st (some t) (.tuple [.bool false]) [] rfl]at hr;refine hsec _ false [] I' θ' a' w' ?_ hr (hdone hall);simp[St.get,St.upd,Ej]
 ·rw[d1,<- DB (ns:=[nm]) st (some t) _ [(nm,.obj (.miter (.omap mm) len (i::s)))] (by simp[Rl,b3])]at hr;refine hsec _ true [.int k (l.getD i (0,.any)).1,(l.getD i (0,.any)).2] I' θ' a' w' ?_ hr (hmore i hi hni);simp[St.get,St.upd,Ej]
end
def T0{S X:Type}(f:Nat->S->Option (LR S X))(g:S->Option (LR S X)):List Nat->S->Option X
 | [],s=>match g s with|some (.done x)=>some x|_=>none
 | i::l,s=>match f i s with|some (.next s')=>T0 f g l s'|some (.done x)=>some x|none=>none
open Classical in
open Classical in
def Wr{S X:Type}(eqv:X->X->Prop)(n:Nat)(f:Nat->S->Option (LR S X))(g:S->Option (LR S X))(s:S):Option X:=
 if h:∃ x,∀ τ:List Nat,τ.Perm (List.range n)->∃ x',T0 f g τ s=some x'/\eqv x' x then some (Classical.choose h) else none
theorem BE{S X:Type}{eqv:X->X->Prop}{n:Nat}{f:Nat->S->Option (LR S X)}{g:S->Option (LR S X)}{s:S}{x:X}(h:Wr eqv n f g s=some x):∀ τ:List Nat,τ.Perm (List.range n)->∃ x',T0 f g τ s=some x'/\eqv x' x:=by
 unfold Wr at h
 split at h
 ·rename_i h0
  obtain rfl:=OI h;exact Classical.choose_spec h0
 ·cases h
theorem bB{S X:Type}{eqv:X->X->Prop}{n:Nat}{f:Nat->S->Option (LR S X)}{g:S->Option (LR S X)}{s:S}(h:∃ x,∀ τ:List Nat,τ.Perm (List.range n)->∃ x',T0 f g τ s=some x'/\eqv x' x):∃ x,Wr eqv n f g s=some x:=by
 unfold Wr;rw[dif_pos h];exact⟨_,rfl⟩
theorem FJ{α:Type}[DecidableEq α]{a b:List α}(ha:a.Nodup)(hb:b.Nodup)(h:∀ x,x∈a↔x∈b):a.Perm b:=by
 refine List.perm_iff_count.2 λx=>?_;rw[ha.count,hb.count];simp only[h x]
section
variable {P:Program} {Γ:G0}
theorem OP{S X:Type}{body:Code}(Q:X->Prop)(n:Nat)(H:List Nat->S->St)(f:Nat->S->Option (LR S X))(g:S->Option (LR S X))(KX:X->Exit->St->Prop){K:Exit->St->Prop}
  (hb:∀(z:List Nat) (s:S),((∀ i,i<n->i∈z)->∃ y,g s=some y)->(∀ i,i<n->i∉z->∃ y,f i s=some y)->
   Ss P Γ body (λe st=>(∃ y,g s=some y/\M5 Γ (H z) KX y e st/\∀ i,i<n->i∈z)\/∃ i y,f i s=some y/\M5 Γ (H (i::z)) KX y e st/\i<n/\i∉z) (H z s))
  {s:S} (hr:∀ τ:List Nat,τ.Perm (List.range n)->∃ x,T0 f g τ s=some x/\Q x) (hK:∀ x,Q x->∀ e st',KX x e st'->K e st'):Ss P Γ (.loop body) K (H [] s):=by
 intro I θ a w hrel;refine Zw (λm a w=>∃ z s I θ,m=n-z.length/\z.Nodup/\(∀ i∈z,i<n)/\(∀ τ:List Nat,(z++τ).Perm (List.range n)->∃ x,T0 f g τ s=some x/\Q x)/\Rel Γ (H z s).sto I θ a w) (λm a w ⟨z,s,I,θ,hm,hz,hzn,hruns,hrel⟩=>?_) (n:=n-0) ⟨[],s,I,θ,rfl,List.nodup_nil,(λi hi=>by cases hi),(λτ hτ=>hr τ hτ),hrel⟩
 have hall:(∀ i,i<n->i∈z)->(z++[]).Perm (List.range n):=λh=>by
  rw[List.append_nil]
  exact FJ hz List.nodup_range λi=>by rw[zzL35];exact⟨hzn i,h i⟩
 have hone:∀ i,i<n->i∉z->∃ τ,(z++i::τ).Perm (List.range n):=λi hi hni=>by
  refine⟨(List.range n).filter λj=>decide (j∉i::z),FJ ?_ List.nodup_range λj=>?_⟩
  ·refine List.nodup_append.2 ⟨hz,zzL77.2 ⟨by simp,List.nodup_range.filter _⟩,λp hp q hq hpq=>?_⟩;subst hpq;rcases zzL24.1 hq with rfl|hq
   ·exact hni hp
   ·have:=(zzL66.1 hq).2;simp at this;exact this.2 hp
  ·rw[zzL11,zzL24,zzL66,zzL35]
   constructor
   ·rintro(h|rfl|h)
    ·exact hzn j h
    ·exact hi
    ·exact h.1
   ·intro h
    by_cases h1:j∈z
    ·exact .inl h1
    ·by_cases h2:j=i
     ·exact .inr (.inl h2)
     ·exact .inr (.inr ⟨h,by simp[h1,h2]⟩)
 have hg:(∀ i,i<n->i∈z)->∃ y,g s=some y:=λh=>by
  obtain⟨x,this,_⟩:=hruns [] (hall h);unfold T0 at this
  cases hgs:g s with
  | none=>rw[hgs]at this;cases this
  | some y=>exact⟨y,rfl⟩
 have hf:∀ i,i<n->i∉z->∃ y,f i s=some y:=λi hi hni=>by
  obtain⟨τ,hτ⟩:=hone i hi hni;obtain⟨x,this,_⟩:=hruns _ hτ;unfold T0 at this
  cases hfs:f i s with
  | none=>rw[hfs]at this;cases this
  | some y=>exact⟨y,rfl⟩
 refine M9 (hb z s hg hf I θ a w hrel) λe a' w' ⟨st',I',θ',h1,h2⟩=>?_;rcases h1 with⟨y,hgs,hk,hal⟩|⟨i,y,hfs,hk,hi,hni⟩
 ·obtain⟨x,hx,hQ⟩:=hruns [] (hall hal);unfold T0 at hx;rw[hgs]at hx
  cases y with
  | next s'=>cases hx
  | done x'=>
   obtain rfl:=OI hx;obtain⟨hne,hkx⟩:=hk
   cases e with
   | normal=>exact(hne rfl).elim
   | _=>exact⟨st',I',θ',hK _ hQ _ _ hkx,h2⟩
 ·obtain⟨τ,hτ⟩:=hone i hi hni
  have hlen:z.length<n:=by
   have:=hτ.length_eq;rw[Em,Nc,V1]at this;omega
  cases y with
  | next s'=>
   obtain⟨rfl,hle⟩:=hk;obtain⟨I'',θ'',h3⟩:=hle I' θ' a' w' h2;refine⟨n-(i::z).length,by simp only[Nc];omega,i::z,s',I'',θ'',rfl,zzL77.2 ⟨hni,hz⟩,?_,λρ hρ=>?_,h3⟩
   ·intro j hj;rcases zzL24.1 hj with rfl|hj
    ·exact hi
    ·exact hzn j hj
   ·obtain⟨x,this,hQ⟩:=hruns (i::ρ) (List.Perm.trans List.perm_middle hρ);unfold T0 at this;rw[hfs]at this;exact⟨x,this,hQ⟩
  | done x'=>
   obtain⟨x,hx,hQ⟩:=hruns _ hτ;unfold T0 at hx;rw[hfs]at hx;obtain rfl:=OI hx;obtain⟨hne,hkx⟩:=hk
   cases e with
   | normal=>exact(hne rfl).elim
   | _=>exact⟨st',I',θ',hK _ hQ _ _ hkx,h2⟩
end
theorem iY{V:Type}{f:V->AV}{l:List (Int×V)}{d:Int×V}{i:Nat}{k:IntKind}(h:i<(mapE f l).length):AVle (.tuple [.int k ((mapE f l).getD i (0,.any)).1,((mapE f l).getD i (0,.any)).2]) (.tuple [.int k (l.getD i d).1,f (l.getD i d).2]):=by
 have hl:i<l.length:=by simpa [mapE] using h
 have e:(mapE f l).getD i (0,.any)=((l.getD i d).1,f (l.getD i d).2):=by simp[mapE,List.getD,hl]
 rw[e];exact AVle.refl _
section
variable {P:Program} {Γ:G0}
def CI(P:Program)(Γ:G0)(body:Code)(K:Exit->St->Prop):Nat->St->Prop
 | 0,_=>False
 | n+1,st=>Ss P Γ body (λe st'=>(e = .normal/\CI P Γ body K n st')\/(e≠.normal/\K e st')) st
theorem TH{body:Code}{K:Exit->St->Prop}{st:St}(n:Nat)(h:CI P Γ body K n st):Ss P Γ (.loop body) K st:=by
 intro I θ a w hrel;refine Zw (λm a w=>∃ st I θ,CI P Γ body K m st/\Rel Γ st.sto I θ a w) (λm a w ⟨st,I,θ,hu,hrel⟩=>?_) (n:=n) ⟨st,I,θ,h,hrel⟩
 cases m with
 | zero=>exact hu.elim
 | succ m=>
  refine M9 (hu I θ a w hrel) λe a' w' ⟨st',I',θ',h1,h2⟩=>?_;rcases h1 with⟨rfl,h1⟩|⟨hne,h1⟩
  ·exact⟨m,Nat.lt_succ_self m,st',I',θ',h1,h2⟩
  ·cases e with
   | normal=>exact(hne rfl).elim
   | _=>exact⟨st',I',θ',h1,h2⟩
end
inductive f5 where
 | nx (y:Code)
 | bl (id:Nat)
 | ag (c:Code) (n:Nat)
inductive Kd where
 | run (c:Code) (fs:List f5)
 | out (e:Exit) (fs:List f5)
def fu(P:Program)(Γ:G0)(K:Exit->St->Prop):List f5->Exit->St->Prop
 | []=>K
 | .nx y::fs=>j5 P Γ y (fu P Γ K fs)
 | .bl id::fs=>Yy id (fu P Γ K fs)
 | .ag c n::fs=>λe st=>(e = .normal/\CI P Γ c (fu P Γ K fs) n st)\/(e≠.normal/\fu P Γ K fs e st)
def GG(P:Program)(Γ:G0)(K:Exit->St->Prop):Kd->St->Prop
 | .run c fs,st=>Ss P Γ c (fu P Γ K fs) st
 | .out e fs,st=>fu P Γ K fs e st
def Tb:Code->Nat->Nat
 | .exit i,k=>bif Nat.beq i k then 1 else 0
 | .seq a b,k=>Nat.min 2 (Tb a k+Tb b k)
 | .cond _ a b,k=>Nat.min 2 (Tb a k+Tb b k)
 | .loop c,k=>Nat.min 1 (Tb c k)
 | .scope c,k=>Nat.min 1 (Tb c k)
 | .block _ c,k=>Tb c k
 | _,_=>0
def N6:Code->Nat
 | .region _ _ _=>1
 | .skip=>1
 | .label _=>1
 | .seq a b=>bif Nat.beq (N6 a) 0 then 0 else N6 b
 | .cond _ a b=>Nat.min 2 (N6 a+N6 b)
 | .block i c=>Nat.min 2 (N6 c+Tb c i)
 | .scope c=>Nat.min 2 (N6 c)
 | _=>0
def db(a:Code):Bool:=match a with | .region _ _ _=>false|a=>Nat.ble 2 (N6 a)
def ER:Nat->Code ⊕ Exit->List f5->Kd
 | 0,.inl c,fs=>.run c fs
 | 0,.inr e,fs=>.out e fs
 | n+1,.inl c,fs=>
  match c with
  | .skip=>ER n (.inr .normal) fs
  | .label _=>ER n (.inr .normal) fs
  | .seq a b=>bif db a then .run (.seq a b) fs else ER n (.inl a) (.nx b::fs)
  | .block id a=>ER n (.inl a) (.bl id::fs)
  | .exit id=>ER n (.inr (.exit id)) fs
  | .goto l=>ER n (.inr (.goto l)) fs
  | .ret=>ER n (.inr .ret) fs
  | c=>.run c fs
 | n+1,.inr e,fs=>
  match fs with
  | []=>.out e []
  | .nx y::fs=>(match e with | .normal=>ER n (.inl y) fs|e=>ER n (.inr e) fs)
  | .bl id::fs=>(match e with | .exit i=>bif Nat.beq i id then ER n (.inr .normal) fs else ER n (.inr (.exit i)) fs|e=>ER n (.inr e) fs)
  | .ag c m::fs=>(match e with | .normal=>(match m with|0=>.out .normal (.ag c 0::fs)|m+1=>ER n (.inl c) (.ag c m::fs))|e=>ER n (.inr e) fs)
section
variable {P:Program} {Γ:G0} {K:Exit->St->Prop}
theorem Bp:∀(n:Nat) (x:Code ⊕ Exit) (fs:List f5) (st:St),GG P Γ K (ER n x fs) st->(match x with | .inl c=>Ss P Γ c (fu P Γ K fs) st | .inr e=>fu P Γ K fs e st)
 | 0,.inl c,fs,st,h=>h
 | 0,.inr e,fs,st,h=>h
 | n+1,.inl c,fs,st,h=>by
  cases c with
  | skip=>exact ca (Bp n _ fs st h)
  | label l=>exact ZC (Bp n _ fs st h)
  | seq a b=>
   cases hj:db a with
   | true=>simp only[ER,hj]at h;exact h
   | false=>simp only[ER,hj]at h;exact LP (Bp n (.inl a) _ st h)
  | block id a=>exact ZB (Bp n (.inl a) _ st h)
  | exit id=>exact cW (Bp n _ fs st h)
  | goto l=>exact cX (Bp n _ fs st h)
  | ret=>exact gp (Bp n (.inr .ret) fs st h)
  | _=>exact h
 | n+1,.inr e,[],st,h=>h
 | n+1,.inr e,.nx y::fs,st,h=>by
  cases e with
  | normal=>exact Bp n (.inl y) fs st h
  | exit i=>exact Bp n _ fs st h
  | goto l=>exact Bp n _ fs st h
  | ret=>exact Bp n (.inr .ret) fs st h
  | panic c=>exact Bp n _ fs st h
  | outgrown=>exact Bp n _ fs st h
 | n+1,.inr e,.bl id::fs,st,h=>by
  cases e with
  | normal=>exact Bp n _ fs st h
  | exit i=>
   cases hb:Nat.beq i id with
   | true=>
    obtain rfl:=B2 hb;simp only[ER,hb]at h;exact TJ (Bp n _ fs st h)
   | false=>
    simp only[ER,hb]at h;exact TI hb (Bp n _ fs st h)
  | goto l=>exact Bp n _ fs st h
  | ret=>exact Bp n (.inr .ret) fs st h
  | panic c=>exact Bp n _ fs st h
  | outgrown=>exact Bp n _ fs st h
 | n+1,.inr e,.ag c m::fs,st,h=>by
  cases e with
  | normal=>
   cases m with
   | zero=>exact h
   | succ m=>exact .inl ⟨rfl,Bp n (.inl c) _ st h⟩
  | exit i=>exact .inr ⟨(by intro hh;cases hh),Bp n _ fs st h⟩
  | goto l=>exact .inr ⟨(by intro hh;cases hh),Bp n _ fs st h⟩
  | ret=>exact .inr ⟨(by intro hh;cases hh),Bp n (.inr .ret) fs st h⟩
  | panic ch=>exact .inr ⟨(by intro hh;cases hh),Bp n _ fs st h⟩
  | outgrown=>exact .inr ⟨(by intro hh;cases hh),Bp n _ fs st h⟩
theorem H3{n:Nat}{c:Code}{fs:List f5}{st:St}(h:GG P Γ K (ER n (.inl c) fs) st):Ss P Γ c (fu P Γ K fs) st:=Bp n _ fs st h
theorem Tm{n:Nat}{e:Exit}{fs:List f5}{st:St}(h:GG P Γ K (ER n (.inr e) fs) st):fu P Γ K fs e st:=Bp n _ fs st h
def iL(c:Code)(fs:List f5):Kd:=ER 400 (.inl c) fs
def oV(e:Exit)(fs:List f5):Kd:=ER 400 (.inr e) fs
def ie:Kd->Kd
 | .run _ fs=>oV .normal fs
 | x=>x
def im:Kd->Option (List Oper×Bool)
 | .run (.region _ ops draw) _=>some (ops.toList,draw)
 | _=>none
def ft(P:Program)(S:W9)(n:Nat)(cs:List (Nat×AV))(live names:List Nat)(x:Kd)(st:St)(rs:List R7):Option (St×List Prop×Bool):=
 match im x with
 | some (ops,draw)=>CL P S n cs live names ops draw st rs
 | none=>none
def ig(P:Program)(S:W9)(n:Nat)(cs:List (Nat×AV))(live names:List Nat)(x:Kd)(st:St)(rs:List R7):St:=
 match ft P S n cs live names x st rs with
 | some r=>r.1
 | none=>st
def fw(r:Option (St×List Prop×Bool)):Option (Prop×Bool):=
 match r with
 | some r=>some (OX r.2.1,r.2.2)
 | none=>none
theorem gR{x:Kd}{st:St}{n:Nat}{H:List (Nat×Own)}(q:RgQ P Γ n H)(live names:List Nat)(cs:List (Nat×AV))(rs:List R7){O:Prop}(hO:O)
  (k:GG P Γ K (ie x) (ig P (Spec P) n cs live names x st rs))
  (h:fw (ft P (Spec P) n cs live names x st rs)=some (O,true):=by kernel_rfl) (hh:(H.all λx=>Cj x.1 names)=true:=by kernel_rfl):GG P Γ K x st:=by
 unfold ft at h;unfold ig ft at k
 cases x with
 | out e fs=>simp[im,fw]at h
 | run c fs=>
  cases c with
  | region id ops draw=>
   simp only[im]at h k
   cases hr:CL P _ n cs _ _ _ _ st rs with
   | none=>rw[hr]at h;simp[fw]at h
   | some r=>
    obtain⟨st',obs,d⟩:=r;rw[hr]at h k;obtain⟨rfl,rfl⟩:=h;have:=TG (id:=id)  q.hn q.mix (q.hand hh) hr hO (Tm k);exact(by simpa using this:Ss P Γ _ _ st)
  | _=>simp[im,fw]at h
theorem Am{x:Kd}{st:St}{n:Nat}{H:List (Nat×Own)}(q:RgQ P Γ n H)(live names:List Nat)
  (k:GG P Γ K (ie x) (ig P (Spec P) n [] live names x st []))
  (h:fw (ft P (Spec P) n [] live names x st [])=some (True,true):=by kernel_rfl) (hh:(H.all λx=>Cj x.1 names)=true:=by kernel_rfl):GG P Γ K x st:=gR q _ _ [] [] trivial k h hh
def jq:Kd->Bool | .run _ _=>true|_=>false
theorem Mv{x:Kd}{st st':St}(h:Le Γ st st')
  (k:GG P Γ K x st')
  (hx:jq x=true:=by kernel_rfl):GG P Γ K x st:=by
 cases x with
 | run c fs=>exact TF h k
 | out e fs=>cases hx
theorem Sb{x:Kd}{st:St}(st':St)
  (k:GG P Γ K x st')
  (h:st=st':=by kernel_rfl):GG P Γ K x st:=h▸k
def jh(x:Kd)(st:St):AV:=match x with | .run (.cond c _ _) _=>TR st.get c|_=>.any
def oT(b:Bool):Kd->Kd
 | .run (.cond _ c d) fs=>iL (bif b then c else d) fs
 | x=>x
theorem gC{x:Kd}{st:St}{R:Type}{b:Bool}{m1 m2:Option R}{r:R}(h:(bif b then m1 else m2)=some r)
  (kt:m1=some r->GG P Γ K (oT true x) st) (kf:m2=some r->GG P Γ K (oT false x) st)
  (hv:jh x st = .bool b:=by kernel_rfl):GG P Γ K x st:=by
 cases x with
 | out e fs=>cases hv
 | run c fs=>
  cases c with
  | cond c y z=>
   refine OO b hv (λhb=>H3  (kt ?_)) (λhb=>H3  (kf ?_))
   ·subst hb;exact h
   ·subst hb;exact h
  | _=>cases hv
theorem ZV{x:Kd}{st:St}(b:Bool)
  (k:GG P Γ K (oT b x) st)
  (hv:jh x st = .bool b:=by kernel_rfl):GG P Γ K x st:=by
 cases x with
 | out e fs=>cases hv
 | run c fs=>
  cases c with
  | cond c y z=>
   refine OO b hv (λhb=>H3 (n:=400) ?_) (λhb=>H3 (n:=400) ?_)
   ·subst hb;exact k
   ·subst hb;exact k
  | _=>cases hv
theorem lt1{P:Nat->Prop}(h0:P 0)(i:Nat)(h:i<1):P i:=by
 grind
theorem lt2{P:Nat->Prop}(h0:P 0)(h1:P 1)(i:Nat)(h:i<2):P i:=by
 grind
theorem rk(o:Own):some o=some o:=rfl
theorem gK{x:Kd}{st:St}{e:Exit}(h:K e st)(hx:x = .out e []:=by kernel_rfl):GG P Γ K x st:=by subst hx;exact h
def aG(Γ:G0)(e0:Exit)(og:St):Exit->St->Prop:=λe st=>e=e0/\Le Γ st og
def aR(K:Exit->St->Prop):Exit->St->Prop:=λe st=>e = .ret/\K e st
theorem D1{e0:Exit}{og st:St}(h:Le Γ st og):aG Γ e0 og e0 st:=⟨rfl,h⟩
theorem Sr{st:St}(h:K .ret st):aR K .ret st:=⟨rfl,h⟩
def pd:Exit->Bool | .normal=>true|_=>false
theorem gN{S X:Type}{x:Kd}{st:St}{H:S->St}{KX:X->Exit->St->Prop}{s':S}(h:Le Γ st (H s'))(hx:x = .out .normal []:=by kernel_rfl):GG P Γ (M5 Γ H KX (.next s')) x st:=by
 subst hx;exact⟨rfl,h⟩
theorem gO{S X:Type}{x:Kd}{st:St}{H:S->St}{KX:X->Exit->St->Prop}{y:X}{e:Exit}(h:KX y e st)(hx:x = .out e []:=by kernel_rfl)(hn:pd e=false:=by kernel_rfl):GG P Γ (M5 Γ H KX (.done y)) x st:=by
 subst hx;exact⟨(by rintro rfl;cases hn),h⟩
def fK(P:Program)(Γ:G0)(rs:List ResultVar)(H:List (Nat×Own))(res:AV)(H':List (Nat×Own)):Exit->St->Prop:=pG Γ (mq P rs H res H')
theorem Kp{rs:List ResultVar}{H H':List (Nat×Own)}{res:AV}{st st':St}{e:Exit}(ρ:List (Nat×Nat))(hl:Le Γ st st')(hr:XU P rs ρ H st'=some (res,H'):=by kernel_rfl)
  (he:(match e with | .ret=>true | .normal=>true|_=>false)=true:=by kernel_rfl):fK P Γ rs H res H' e st:=by
 refine⟨st',hl,?_,ρ,hr⟩
 cases e with
 | ret=>exact .inl rfl
 | normal=>exact .inr rfl
 | _=>cases he
theorem Ck{rs:List ResultVar}{H H':List (Nat×Own)}{res:AV}{x:Kd}{st:St}(ρ:List (Nat×Nat))(hr:XU P rs ρ H st=some (res,H'):=by kernel_rfl)
  (hx:x = .out .ret []:=by kernel_rfl):GG P Γ (fK P Γ rs H res H') x st:=gK  (Kp ρ (Le.refl _ _) hr) hx
def LQ(fn:Func):Code:=match fn.body with|some c=>c|none=>.skip
theorem Zt {f : FuncId} {fn : Func} {args : List AV} {H H' : List (Nat × Own)} {res : AV} (hm : P.follows .mixedOrders = true) (hf : P.funcs[f]? = some fn)
    (k : ∀ Γ : G0, RgQ P Γ fn.ntmps H → GG P Γ (fK P Γ fn.results.toList H res H') (iL (LQ fn) []) (Y4 args H))
    (hb : fn.body.isSome = true := by kernel_rfl) (hname : (fn.name == "runtime.NumGoroutine") = false := by kernel_rfl) (hlen : Nat.ble args.length fn.ntmps = true := by kernel_rfl) (hpl : FK H = true := by kernel_rfl) : Spec P f args H res H' := by
  obtain ⟨c, hc⟩ := zzL76.1 hb
  have e : LQ fn = c := by unfold LQ; rw [hc]
  refine RH hf hc hname hlen (fun Γ hn hΓ => ?_) hpl; have := k Γ ⟨hn, hm, hΓ⟩; rw [e] at this; exact kV (H3 this)
theorem dg{st st':St}(h:st=st'):Le Γ st st':=h▸Le.refl Γ st
def TW:Kd->Bool | .run (.loop _) _=>true|_=>false
def jg:Kd->Kd
 | .run (.loop c) _=>iL c []
 | x=>x
def eH(e:Exit):Kd->Kd
 | .run _ fs=>oV e fs
 | x=>x
def ml{α:Type}(k:Nat)(x:α):List (Nat×α)->List (Nat×α)
 | []=>[(k,x)]
 | (k',y)::l=>bif Nat.beq k k' then(k,x)::l else bif Nat.blt k k' then(k,x)::(k',y)::l else(k',y)::ml k x l
def iv{α:Type}:List (Nat×α)->List (Nat×α)->List (Nat×α)
 | [],l=>l
 | (k,x)::r,l=>iv r (ml k x l)
def Fo(st:St)(ts:List (Nat×AV))(os:List (Nat×Own))(fs:List (Nat×bY):=[]):St:=⟨iv ts st.tmps,iv os st.own,iv fs st.fam⟩
def W5(live names:List Nat)(st:St)(ts:List (Nat×AV))(os:List (Nat×Own))(fs:List (Nat×bY):=[]):St:=A3 live names (Fo st ts os fs)
theorem gL{S X:Type}{x:Kd}{st:St}{n:Nat}{Hf:List (Nat×Own)}(q:RgQ P Γ n Hf){f:S->Option (LR S X)}{s0:S}{y:X}(hx:Ah f s0=some y)(live names:List Nat)(H:St->S->St)(KX:St->X->Exit->St->Prop)
  (kb:∀ s y,f s=some y->GG P Γ (M5 Γ (H (A3 live names st)) (KX (A3 live names st)) y) (jg x) (H (A3 live names st) s)) (ko:∀ e st',KX (A3 live names st) y e st'->GG P Γ K (eH e x) st')
  (h0:A3 live names st=H (A3 live names st) s0:=by kernel_rfl) (hl:TW x=true:=by kernel_rfl) (hh:(Hf.all λx=>Cj x.1 names)=true:=by kernel_rfl):GG P Γ K x st:=by
 cases x with
 | out e fs=>cases hl
 | run c fs=>
  cases c with
  | loop c=>
   refine TF  ?_ (cZ _ f _ (λs y hy=>H3 (kb s y hy)) hx λe st' hk=>Tm (ko e st' hk));rw[<- h0];exact Db _ _ q rfl hh
  | _=>cases hl
theorem gA{x:Kd}{f:Exit->Kd->Kd}{e0:Exit}{og:St}
  (k:GG P Γ K (f e0 x) og)
  (hr:jq (f e0 x)=true:=by kernel_rfl):∀ e st',aG Γ e0 og e st'->GG P Γ K (f e x) st':=by
 rintro e st' ⟨rfl,hl⟩;exact Mv hl k hr
theorem jm{x:Kd}{f:Exit->Kd->Kd}{e0:Exit}{og:St}(k:∀ st',Le Γ st' og->GG P Γ K (f e0 x) st'):∀ e st',aG Γ e0 og e st'->GG P Γ K (f e x) st':=by
 rintro e st' ⟨rfl,hl⟩;exact k st' hl
theorem Wj{x:Kd}{f:Exit->Kd->Kd}{K':Exit->St->Prop}(k:∀ st',K' .ret st'->GG P Γ K (f .ret x) st'):∀ e st',aR K' e st'->GG P Γ K (f e x) st':=by
 rintro e st' ⟨rfl,hl⟩;exact k st' hl
theorem gU{x:Kd}{st:St}(n:Nat)
  (k:GG P Γ K (match x with | .run (.loop c) fs=>iL c (.ag c n::fs)|x=>x) st)
  (hl:TW x=true:=by kernel_rfl):GG P Γ K x st:=by
 cases x with
 | out e fs=>cases hl
 | run c fs=>
  cases c with
  | loop c=>exact TH (n+1) (H3 k)
  | _=>cases hl
def mf:Kd->Bool | .run (.seq _ _) _=>true|_=>false
def md:Kd->Kd
 | .run (.seq a _) _=>iL a []
 | x=>x
def mo(e:Exit):Kd->Kd
 | .run (.seq _ b) fs=>oV e (.nx b::fs)
 | x=>x
theorem gJ{X:Type}{x:Kd}{st:St}{m:Option X}{y:X}(hx:m=some y)(KX:X->Exit->St->Prop)
  (kb:∀ y,m=some y->GG P Γ (KX y) (md x) st) (ko:∀ e st',KX y e st'->GG P Γ K (mo e x) st')
  (hs:mf x=true:=by kernel_rfl):GG P Γ K x st:=by
 cases x with
 | out e fs=>cases hs
 | run c fs=>
  cases c with
  | seq a b=>exact LP (cY KX hx (λy hy=>H3 (kb y hy)) λe st' hk=>Tm (ko e st' hk))
  | _=>cases hs
def iN:Kd->Bool | .run (.scope _) _=>true|_=>false
def mu:Kd->Code | .run (.scope c) _=>c|_=>.skip
def mg(c:Code)(l:Nat):Kd:=iL ((findLabel c l).getD .skip) []
theorem gS{S X:Type}{x:Kd}{st:St}{f0:Option (LR S X)}{f:S->Option (LR S X)}{y:X}(hx:Px f0 f=some y)(lab:S->Nat)(H:S->St)(KX:X->Exit->St->Prop)
  (k0:∀ y,f0=some y->GG P Γ (EE Γ (mu x) lab H KX y) (iL (mu x) []) st) (kb:∀ s y,f s=some y->GG P Γ (EE Γ (mu x) lab H KX y) (mg (mu x) (lab s)) (H s)) (ko:∀ e st',KX y e st'->GG P Γ K (eH e x) st')
  (hs:iN x=true:=by kernel_rfl):GG P Γ K x st:=by
 cases x with
 | out e fs=>cases hs
 | run c fs=>
  cases c with
  | scope c=>
   refine ZE lab H f0 f KX (λy hy=>H3 (k0 y hy)) (λs y rest hf hy=>?_) hx λe st' hk=>Tm (ko e st' hk);have:=kb s y hy;unfold mg mu at this;rw[hf]at this;exact H3 this
  | _=>cases hs
theorem iH{S X:Type}{x:Kd}{st:St}{c:Code}{lab:S->Nat}{H:S->St}{KX:X->Exit->St->Prop}{s':S}(h:Le Γ st (H s'))(hx:x = .out (.goto (lab s')) []:=by kernel_rfl)(hf:(findLabel c (lab s')).isSome=true:=by kernel_rfl) :
  GG P Γ (EE Γ c lab H KX (.next s')) x st:=by
 subst hx;exact⟨rfl,hf,h⟩
theorem jn{S X:Type}{x:Kd}{st:St}{c:Code}{lab:S->Nat}{H:S->St}{KX:X->Exit->St->Prop}{y:X}{e:Exit}(h:KX y e st)(hx:x = .out e []:=by kernel_rfl)
  (hf:(match e with | .goto l=>(findLabel c l).isNone|_=>true)=true:=by kernel_rfl):GG P Γ (EE Γ c lab H KX (.done y)) x st:=by
 subst hx;refine⟨?_,h⟩;rintro l rfl
 simpa using hf
theorem Th{α:Type}{st:St}(U:α->St->St){a b:α}(h:a=b)(h1:st=U a st:=by kernel_rfl):Le Γ st (U b st):=by subst h;exact dg h1
theorem oX{st:St}(F F':Bool->St->St)(g:Bool)(h1:st=F g st:=by kernel_rfl)(ht:F true st=F' true st:=by kernel_rfl)(hf:F false st=F' false st:=by kernel_rfl):Le Γ st (F' g st):=by
 refine dg (h1.trans ?_)
 cases g<;>assumption
def Own.withF(g:Nat->List AV):Own->Own
 | .arr sz e n _=>.arr sz e n g
 | o=>o
def jf(st:St)(nm:Nat):Option (Nat×(Nat->List AV)):=match Ad st.own nm with|some (.arr _ _ n f)=>some (n,f)|_=>none
def mw(nm:Nat)(g:Nat->List AV)(st:St):St:=⟨st.tmps,(match Ad st.own nm with|some o=>Cw st.own nm (o.withF g)|none=>st.own),st.fam⟩
theorem FG{nm sz n:Nat}{e:TypeId}{f g:Nat->List AV}(hp:∀ k,k<n->AVleL (f k) (g k)):∀{l:List (Nat×Own)},Ad l nm=some (.arr sz e n f)->OwnsLe l (Cw l nm (.arr sz e n g))
 | [],h=>by cases h
 | (k,o)::l,h=>by
  simp only[Ad]at h;simp only[Cw]
  cases hb:Nat.beq k nm with
  | true=>
   obtain rfl:=B2 hb;rw[hb]at h;simp only[Ae,Af]at h;subst h;exact .arr hp (.refl _)
  | false=>
   rw[hb]at h;exact .same (FG hp h)
theorem Xq{st:St}(nm:Nat){n:Nat}{f g:Nat->List AV}(hp:∀ k,k<n->AVleL (f k) (g k))(h:jf st nm=some (n,f):=by kernel_rfl):Le Γ st (mw nm g st):=by
 unfold jf at h;unfold mw
 cases ho:Ad _ nm with
 | none=>rw[ho]at h;cases h
 | some o=>
  rw[ho]at h
  cases o with
  | arr sz e n' f'=>
   obtain⟨rfl,rfl⟩:=h;exact Jl (TmpsLe.refl _) (FG hp ho)
  | _=>cases h
def cr(st:St)(nm j:Nat):Option AV:=match Ad st.own nm with|some (.row _ cells)=>cells[j]? | _=>none
def Own.withC(j:Nat)(x:AV):Own->Own
 | .row e cells=>.row e (cells.set j x)
 | o=>o
def mv(nm j:Nat)(x:AV)(st:St):St:=⟨st.tmps,(match Ad st.own nm with|some o=>Cw st.own nm (o.withC j x)|none=>st.own),st.fam⟩
theorem XH{a b:AV}(h:AVle a b):∀{l:List AV} {j:Nat},l[j]?=some a->AVleL l (l.set j b)
 | [],j,h=>by simp at h
 | x::l,0,h'=>by
  simp only[List.getElem?_cons_zero,Af]at h';subst h';exact .cons h (.refl _)
 | x::l,j+1,h'=>by
  exact .cons (.refl _) (XH h h')
theorem FH{nm:Nat}{e:TypeId}{x y:List AV}(hp:AVleL x y):∀{l:List (Nat×Own)},Ad l nm=some (.row e x)->OwnsLe l (Cw l nm (.row e y))
 | [],h=>by cases h
 | (k,o)::l,h=>by
  simp only[Ad]at h;simp only[Cw]
  cases hb:Nat.beq k nm with
  | true=>
   obtain rfl:=B2 hb;rw[hb]at h;simp only[Ae,Af]at h;subst h;exact .row hp (.refl _)
  | false=>
   rw[hb]at h;exact .same (FH hp h)
theorem iP{st:St}(nm j:Nat){a b:AV}(hp:AVle a b)(h:cr st nm j=some a:=by kernel_rfl):Le Γ st (mv nm j b st):=by
 unfold cr at h;unfold mv
 cases ho:Ad _ nm with
 | none=>rw[ho]at h;cases h
 | some o=>
  rw[ho]at h
  cases o with
  | row e cells=>exact Jl (TmpsLe.refl _) (FH (XH hp h) ho)
  | _=>cases h
theorem aw{V:Type}:JR ([]:List (Int×V)) []:=⟨.nil,List.nodup_nil⟩
def jy(nm:Nat)(x:AObj)(st:St):St:=⟨st.tmps,Cw st.own nm (.obj x),st.fam⟩
theorem pI{V:Type}{st:St}(nm:Nat)(nn:Bool)(k:IntKind){f:V->AV}{a b:List (Int×V)}(hp:JR a b)(h:Ad st.own nm=some (.obj (.map nn k (mapE f a))):=by kernel_rfl)(hlt:Nat.blt nm A9=true:=by kernel_rfl):Le Γ st (jy nm (.pmap nn k (mapE f b)) st):=
 MH _ h (λ_ _ _ _ h=>UG hp h) hlt
theorem pe{st:St}(nm:Nat)(k:IntKind)(l:List (Int×AV))(h:Ad st.own nm=some (.obj (.pmap true k l)):=by kernel_rfl)(hlt:Nat.blt nm A9=true:=by kernel_rfl):Le Γ st (jy nm (.pmap false k l) st):=
 MH _ h (λ_ _ _ _ h=>aq h) hlt
theorem gI(g:Bool):g=true->g=true:=id
theorem Nt(c:Bool):c=true->(c==true)=true:=gT
theorem S3(c:Bool):c=false->(c==false)=true:=gF
theorem Bn{α:Type}(sz:Nat)(e:α->List AV)(d:α)(l:List α):AVle (.slice sz l.length (λi=>(l.map e).getD i []) .exact) (AV.list sz e d l .exact):=kU rfl λi h=>iU l i h
theorem Gj{α:Type}(sz:Nat)(e:α->List AV)(d:α):AVle (.slice 0 0 (λ_=>[]) .exact) (AV.list sz e d [] .exact):=D6
theorem Ng{α:Type}(sz nm:Nat)(e:α->List AV)(d:α)(l m:List α):AVle (.slice sz (l.length+m.length) (Jq l.length (λi=>e (l.getD i d)) (λi=>e (m.getD i d))) (.own nm)) (AV.list sz e d (l++m) (.own nm)):=kT
def dk(x:Kd)(ix tx bx:Nat):Bool:=
 match x with
 | .run (.loop (.seq (.region _ ops false) _)) _=>
  match ops.toList with
  | [o1,o2]=>
   (match o1.op,o2.op with | .next (.tmp a) false,.extract (.tmp b) 0=>Nat.beq a ix&&Nat.beq b tx|_,_=>false) &&
   (match o1.dst,o2.dst,o1.guard,o2.guard with|some a,some b,none,none=>Nat.beq a tx&&Nat.beq b bx|_,_,_,_=>false)
  | _=>false
 | _=>false
def CT:Kd->Kd
 | .run (.loop (.seq _ c)) _=>iL c []
 | x=>x
theorem pc{S X:Type}{x:Kd}{st:St}{n:Nat}{Hf:List (Nat×Own)}(q:RgQ P Γ n Hf){len:Nat}{f:Nat->S->Option (LR S X)}{g:S->Option (LR S X)}{s0:S}(Q:X->Prop)(hx:∀ τ:List Nat,τ.Perm (List.range len)->∃ x,T0 f g τ s0=some x/\Q x)(live names:List Nat)(H:St->List Nat->S->St)(KX:St->X->Exit->St->Prop)
  (ix tx bx nm mm:Nat) (nn:Bool) (km:IntKind) (l:List (Int×AV)) (lv2 nm2:List Nat)
  (h0:A3 live names st=H (A3 live names st) [] s0:=by kernel_rfl) (hc:dk x ix tx bx=true:=by kernel_rfl) (hb:(Nat.blt tx n&&(Nat.blt bx n&&(Nat.blt nm A9&&Nat.blt mm A9)))=true:=by kernel_rfl)
  (hit:(λz s=>(H (A3 live names st) z s).get ix)=(λ_ _=>AV.optr nm mm):=by kernel_rfl) (hmi:(λz s=>Ad (H (A3 live names st) z s).own nm)=(λz _=>some (.obj (.miter (.omap mm) len z))):=by kernel_rfl)
  (hma:(λz s=>Ad (H (A3 live names st) z s).own mm)=(λ_ _=>some (.obj (.map nn km l))):=by kernel_rfl) (hlen:len=l.length:=by kernel_rfl) (hh:(Hf.all λx=>Cj x.1 names)=true:=by kernel_rfl) (hh2:(Hf.all λx=>Cj x.1 nm2)=true:=by kernel_rfl)
  (kd:∀ z s y,g s=some y->(∀ i,i<len->i∈z)->GG P Γ (M5 Γ (H (A3 live names st) z) (KX (A3 live names st)) y) (CT x) (A3 lv2 nm2 (((H (A3 live names st) z s).upd (some tx) (.tuple [.bool false]) []).upd (some bx) (.bool false) [])))
  (kn:∀ z s i y,f i s=some y->i<len->i∉z->GG P Γ (M5 Γ (H (A3 live names st) (i::z)) (KX (A3 live names st)) y) (CT x)
   (A3 lv2 nm2 (((H (A3 live names st) z s).upd (some tx) (.tuple [.bool true,.int km (l.getD i (0,.any)).1,(l.getD i (0,.any)).2]) [(nm,.obj (.miter (.omap mm) len (i::z)))]).upd (some bx) (.bool true) [])))
  (ko:∀ y,Q y->∀ e st',KX (A3 live names st) y e st'->GG P Γ K (eH e x) st'):GG P Γ K x st:=by
 unfold dk at hc
 split at hc
 ·rename_i id ops rest fs
  split at hc
  ·rename_i o1 o2 hops
   obtain rfl:ops = #[o1,o2]:=by grind
   simp only[A6]at hc;obtain⟨c1,c2⟩:=hc
   split at c1
   ·rename_i a b e1 e2
    split at c2
    ·rename_i a' b' e3 e4 e5 e6
     simp only[A6]at c1 c2;obtain rfl:=B2 c1.1;obtain rfl:=B2 c1.2;obtain rfl:=B2 c2.1;obtain rfl:=B2 c2.2;refine TF  ?_ (OP Q len (H (A3 live names st)) f g _ (λz s hg hf=>?_) hx λy hy e st' hk=>Tm (ko y hy e st' hk))
     ·rw[<- h0];exact Db _ _ q rfl hh
     refine LP (ZD q lv2 nm2 e1 e3 e5 e2 e4 e6 hb (congrFun (congrFun hit z) s) (congrFun (congrFun hmi z) s) (congrFun (congrFun hma z) s) hlen hh2 (λhall=>?_) (λi hi hn=>?_))
     ·obtain⟨y,h⟩:=hg hall;exact DO (H3 (kd z s y h hall)) (λe st' hk=>.inl ⟨y,h,hk,hall⟩)
     ·obtain⟨y,h⟩:=hf i hi hn;exact DO (H3 (kn z s i y h hi hn)) (λe st' hk=>.inr ⟨i,y,h,hk,hi,hn⟩)
    ·cases c2
   ·cases c1
  ·cases hc
 ·cases hc
theorem pZ{S X:Type}{x:Kd}{st:St}{n:Nat}{Hf:List (Nat×Own)}(q:RgQ P Γ n Hf){len:Nat}{f:Nat->S->Option (LR S X)}{g:S->Option (LR S X)}{s0:S}{eqv:X->X->Prop}{y:X}(hx:Wr eqv len f g s0=some y)(live names:List Nat)(H:St->List Nat->S->St)(KX:St->X->Exit->St->Prop)
  (ix tx bx nm mm:Nat) (nn:Bool) (km:IntKind) (l:List (Int×AV)) (lv2 nm2:List Nat)
  (h0:A3 live names st=H (A3 live names st) [] s0:=by kernel_rfl) (hc:dk x ix tx bx=true:=by kernel_rfl) (hb:(Nat.blt tx n&&(Nat.blt bx n&&(Nat.blt nm A9&&Nat.blt mm A9)))=true:=by kernel_rfl)
  (hit:(λz s=>(H (A3 live names st) z s).get ix)=(λ_ _=>AV.optr nm mm):=by kernel_rfl) (hmi:(λz s=>Ad (H (A3 live names st) z s).own nm)=(λz _=>some (.obj (.miter (.omap mm) len z))):=by kernel_rfl)
  (hma:(λz s=>Ad (H (A3 live names st) z s).own mm)=(λ_ _=>some (.obj (.map nn km l))):=by kernel_rfl) (hlen:len=l.length:=by kernel_rfl) (hh:(Hf.all λx=>Cj x.1 names)=true:=by kernel_rfl) (hh2:(Hf.all λx=>Cj x.1 nm2)=true:=by kernel_rfl)
  (kd:∀ z s y,g s=some y->(∀ i,i<len->i∈z)->GG P Γ (M5 Γ (H (A3 live names st) z) (KX (A3 live names st)) y) (CT x) (A3 lv2 nm2 (((H (A3 live names st) z s).upd (some tx) (.tuple [.bool false]) []).upd (some bx) (.bool false) [])))
  (kn:∀ z s i y,f i s=some y->i<len->i∉z->GG P Γ (M5 Γ (H (A3 live names st) (i::z)) (KX (A3 live names st)) y) (CT x)
   (A3 lv2 nm2 (((H (A3 live names st) z s).upd (some tx) (.tuple [.bool true,.int km (l.getD i (0,.any)).1,(l.getD i (0,.any)).2]) [(nm,.obj (.miter (.omap mm) len (i::z)))]).upd (some bx) (.bool true) [])))
  (ko:∀ y',eqv y' y->∀ e st',KX (A3 live names st) y' e st'->GG P Γ K (eH e x) st'):GG P Γ K x st:=
 pc q _ (BE hx) _ _ H KX ix tx bx nm mm nn km l lv2 nm2 h0 hc hb hit hmi hma hlen hh hh2 kd kn ko
theorem Mw{st st':St}(h:st=st':=by kernel_rfl):Le Γ st st':=h▸Le.refl Γ st
theorem ci{p q:Prop}(a:p)(b:q):p/\q:=⟨a,b⟩
theorem c1{p:Prop}(a:p):p/\True:=⟨a,trivial⟩
end
section
variable {P:Program} {Γ:G0} {K:Exit->St->Prop}
theorem tB{α β:Type}{m:Option α}{f:α->Option β}{r:β}{G:Prop}(h:m.bind f=some r)(k:∀ x,m=some x->f x=some r->G):G:=have⟨x,hx,h⟩:=bind_some h;k x hx h
theorem tC{β:Type}{c:Prop}[Decidable c]{m:Option β}{r:β}{G:Prop}(h:Cd c m=some r)(k:c->m=some r->G):G:=k (Ny h).1 (Ny h).2
@[elab_as_elim] theorem tS{α:Type}{a:α}{M:α->Prop}{b:α}(h:some a=some b)(k:M a):M b:=OI h▸k
theorem tV{x:Kd}{st:St}{n:Nat}{H:List (Nat×Own)}(q:RgQ P Γ n H)(live names:List Nat){β:Type}{c:Prop}[Decidable c]{m:Option β}{r:β}(h:Cd c m=some r)
  (k:m=some r->GG P Γ K (ie x) (ig P (Spec P) n [] live names x st []))
  (h1:fw (ft P (Spec P) n [] live names x st [])=some (c/\True,true):=by kernel_rfl) (hh:(H.all λx=>Cj x.1 names)=true:=by kernel_rfl):GG P Γ K x st:=gR q live names [] [] (c1 (Ny h).1) (k (Ny h).2) h1 hh
theorem tN{S X:Type}{x:Kd}{st:St}{H:S->St}{KX:X->Exit->St->Prop}{s':S}{y:LR S X}(h:some (.next s')=some y)(h1:st=H s':=by kernel_rfl)(hx:x = .out .normal []:=by kernel_rfl):GG P Γ (M5 Γ H KX y) x st:=OI h▸gN (Mw h1) hx
theorem tL{S X α:Type}{x:Kd}{st:St}{n:Nat}{Hf:List (Nat×Own)}(q:RgQ P Γ n Hf){f:S->Option (LR S X)}{s0:S}{g:X->Option α}{r:α}(h:(Ah f s0).bind g=some r)(live names:List Nat)(H:St->S->St)(KX:St->X->Exit->St->Prop)
  (kb:∀ s y,f s=some y->GG P Γ (M5 Γ (H (A3 live names st)) (KX (A3 live names st)) y) (jg x) (H (A3 live names st) s)) (ko:∀ y,g y=some r->∀ e st',KX (A3 live names st) y e st'->GG P Γ K (eH e x) st')
  (h0:A3 live names st=H (A3 live names st) s0:=by kernel_rfl) (hl:TW x=true:=by kernel_rfl) (hh:(Hf.all λx=>Cj x.1 names)=true:=by kernel_rfl):GG P Γ K x st:=tB h λy hy h=>gL q hy live names H KX kb (ko y h) h0 hl hh
theorem tU{x:Kd}{st:St}{n:Nat}{H:List (Nat×Own)}(q:RgQ P Γ n H)(live names:List Nat){O:Prop}(hO:O)
  (k:GG P Γ K (ie x) (ig P (Spec P) n [] live names x st []))
  (h:fw (ft P (Spec P) n [] live names x st [])=some (O,true):=by kernel_rfl) (hh:(H.all λx=>Cj x.1 names)=true:=by kernel_rfl):GG P Γ K x st:=gR q live names [] [] hO k h hh
theorem tT{x:Kd}{st:St}{n:Nat}{H:List (Nat×Own)}(q:RgQ P Γ n H)(live names:List Nat)(rs:List R7){O:Prop}(hO:O)
  (k:GG P Γ K (ie x) (ig P (Spec P) n [] live names x st rs))
  (h:fw (ft P (Spec P) n [] live names x st rs)=some (O,true):=by kernel_rfl) (hh:(H.all λx=>Cj x.1 names)=true:=by kernel_rfl):GG P Γ K x st:=gR q live names [] rs hO k h hh
theorem tW{x:Kd}{st:St}{n:Nat}{H:List (Nat×Own)}(q:RgQ P Γ n H)(live names live2 names2:List Nat)
  (k:GG P Γ K (ie (ie x)) (ig P (Spec P) n [] live2 names2 (ie x) (ig P (Spec P) n [] live names x st []) []))
  (h:fw (ft P (Spec P) n [] live names x st [])=some (True,true):=by kernel_rfl) (hh:(H.all λx=>Cj x.1 names)=true:=by kernel_rfl)
  (h2:fw (ft P (Spec P) n [] live2 names2 (ie x) (ig P (Spec P) n [] live names x st []) [])=some (True,true):=by kernel_rfl) (hh2:(H.all λx=>Cj x.1 names2)=true:=by kernel_rfl):GG P Γ K x st:=Am q live names (Am q live2 names2 k h2 hh2) h hh
end
theorem Xn{R:Prop}(g:Bool)(r:R):(g=true->g=true)/\((g=true->g=true)/\(R)):=⟨id,⟨id,r⟩⟩
theorem XB{R:Prop}(g:Bool)(r:R):(g=true->g=true)/\((g=true->g=true)/\((g=true->g=true)/\(R))):=⟨id,⟨id,⟨id,r⟩⟩⟩
theorem iG{R:Prop}(g:Bool)(r:R):(g=true->g=true)/\((g=true->g=true)/\((g=true->g=true)/\((g=true->g=true)/\(R)))):=⟨id,⟨id,⟨id,⟨id,r⟩⟩⟩⟩
theorem kx{R:Prop}(g:Bool)(r:R):(g=true->g=true)/\((g=true->g=true)/\((g=true->g=true)/\((g=true->g=true)/\((g=true->g=true)/\(R))))):=⟨id,⟨id,⟨id,⟨id,⟨id,r⟩⟩⟩⟩⟩
theorem pW{R:Prop}(g:Bool)(r:R):(g=true->g=true)/\((g=true->g=true)/\((g=true->g=true)/\((g=true->g=true)/\((g=true->g=true)/\((g=true->g=true)/\((g=true->g=true)/\(R))))))):=⟨id,⟨id,⟨id,⟨id,⟨id,⟨id,⟨id,r⟩⟩⟩⟩⟩⟩⟩
theorem pX{R:Prop}(g:Bool)(r:R):(g=true->g=true)/\((g=true->g=true)/\((g=true->g=true)/\((g=true->g=true)/\((g=true->g=true)/\((g=true->g=true)/\((g=true->g=true)/\((g=true->g=true)/\(R)))))))):=⟨id,⟨id,⟨id,⟨id,⟨id,⟨id,⟨id,⟨id,r⟩⟩⟩⟩⟩⟩⟩⟩
theorem pY{R:Prop}(g:Bool)(r:R):(g=true->g=true)/\((g=true->g=true)/\((g=true->g=true)/\((g=true->g=true)/\((g=true->g=true)/\((g=true->g=true)/\((g=true->g=true)/\((g=true->g=true)/\((g=true->g=true)/\(R))))))))):=⟨id,⟨id,⟨id,⟨id,⟨id,⟨id,⟨id,⟨id,⟨id,r⟩⟩⟩⟩⟩⟩⟩⟩⟩
theorem hZ{p0 p1 R:Prop}(a0:p0)(a1:p1)(r:R):p0/\p1/\R:=⟨a0,a1,r⟩
theorem c2{p0 p1:Prop}(a0:p0)(a1:p1):p0/\p1/\True:=⟨a0,a1,trivial⟩
theorem pH{p0 p1 p2 R:Prop}(a0:p0)(a1:p1)(a2:p2)(r:R):p0/\p1/\p2/\R:=⟨a0,a1,a2,r⟩
theorem c3{p0 p1 p2:Prop}(a0:p0)(a1:p1)(a2:p2):p0/\p1/\p2/\True:=⟨a0,a1,a2,trivial⟩
theorem pR{p0 p1 p2 p3 R:Prop}(a0:p0)(a1:p1)(a2:p2)(a3:p3)(r:R):p0/\p1/\p2/\p3/\R:=⟨a0,a1,a2,a3,r⟩
theorem c4{p0 p1 p2 p3:Prop}(a0:p0)(a1:p1)(a2:p2)(a3:p3):p0/\p1/\p2/\p3/\True:=⟨a0,a1,a2,a3,trivial⟩
theorem c5{p0 p1 p2 p3 p4:Prop}(a0:p0)(a1:p1)(a2:p2)(a3:p3)(a4:p4):p0/\p1/\p2/\p3/\p4/\True:=⟨a0,a1,a2,a3,a4,trivial⟩
theorem pS{p0 p1 p2 p3 p4 p5 R:Prop}(a0:p0)(a1:p1)(a2:p2)(a3:p3)(a4:p4)(a5:p5)(r:R):p0/\p1/\p2/\p3/\p4/\p5/\R:=⟨a0,a1,a2,a3,a4,a5,r⟩
theorem c6{p0 p1 p2 p3 p4 p5:Prop}(a0:p0)(a1:p1)(a2:p2)(a3:p3)(a4:p4)(a5:p5):p0/\p1/\p2/\p3/\p4/\p5/\True:=⟨a0,a1,a2,a3,a4,a5,trivial⟩
theorem c7{p0 p1 p2 p3 p4 p5 p6:Prop}(a0:p0)(a1:p1)(a2:p2)(a3:p3)(a4:p4)(a5:p5)(a6:p6):p0/\p1/\p2/\p3/\p4/\p5/\p6/\True:=⟨a0,a1,a2,a3,a4,a5,a6,trivial⟩
theorem c8{p0 p1 p2 p3 p4 p5 p6 p7:Prop}(a0:p0)(a1:p1)(a2:p2)(a3:p3)(a4:p4)(a5:p5)(a6:p6)(a7:p7):p0/\p1/\p2/\p3/\p4/\p5/\p6/\p7/\True:=⟨a0,a1,a2,a3,a4,a5,a6,a7,trivial⟩
theorem nk{p0 p1 p2 p3 p4 p5 p6 p7 p8 R:Prop}(a0:p0)(a1:p1)(a2:p2)(a3:p3)(a4:p4)(a5:p5)(a6:p6)(a7:p7)(a8:p8)(r:R):p0/\p1/\p2/\p3/\p4/\p5/\p6/\p7/\p8/\R:=⟨a0,a1,a2,a3,a4,a5,a6,a7,a8,r⟩
theorem c9{p0 p1 p2 p3 p4 p5 p6 p7 p8:Prop}(a0:p0)(a1:p1)(a2:p2)(a3:p3)(a4:p4)(a5:p5)(a6:p6)(a7:p7)(a8:p8):p0/\p1/\p2/\p3/\p4/\p5/\p6/\p7/\p8/\True:=⟨a0,a1,a2,a3,a4,a5,a6,a7,a8,trivial⟩
structure o9(c:List AV)(o N sz:Nat)(f:Nat->List AV):Prop where
 get:∀ i,i<N->(c.drop (o+i*sz)).take sz=f i
open Go.Shelf
def PJ:Go.Shelf.Ren:=⟨fun|189=>134|125=>147|257=>146|128=>169|129=>170|294=>160|295=>161|296=>162|297=>163|298=>164|299=>165|216=>166|300=>167|301=>168|328=>177|329=>178|330=>179|331=>180|332=>181|215=>182|343=>183|n=>n,fun|28=>22|3=>3|46=>177|0=>0|51=>185|53=>32|4=>4|183=>194|182=>193|131=>197|5=>5|9=>9|218=>204|222=>208|228=>210|229=>117|n=>n,fun|n=>n⟩
theorem XG:Go.Proofs.Lays.n189 Tryz.prog PJ:={
 mixed:=by kernel_rfl
 f125:=Tryz.func147.trans (Cg some (by kernel_rfl))
 f128:=Tryz.func169.trans (Cg some (by kernel_rfl))
 f129:=Tryz.func170.trans (Cg some (by kernel_rfl))
 f189:=Tryz.func134.trans (Cg some (by kernel_rfl))
 f215:=Tryz.func182.trans (Cg some (by kernel_rfl))
 f216:=Tryz.func166.trans (Cg some (by kernel_rfl))
 f257:=Tryz.func146.trans (Cg some (by kernel_rfl))
 f294:=Tryz.func160.trans (Cg some (by kernel_rfl))
 f295:=Tryz.func161.trans (Cg some (by kernel_rfl))
 f296:=Tryz.func162.trans (Cg some (by kernel_rfl))
 f297:=Tryz.func163.trans (Cg some (by kernel_rfl))
 f298:=Tryz.func164.trans (Cg some (by kernel_rfl))
 f299:=Tryz.func165.trans (Cg some (by kernel_rfl))
 f300:=Tryz.func167.trans (Cg some (by kernel_rfl))
 f301:=Tryz.func168.trans (Cg some (by kernel_rfl))
 f328:=Tryz.func177.trans (Cg some (by kernel_rfl))
 f329:=Tryz.func178.trans (Cg some (by kernel_rfl))
 f330:=Tryz.func179.trans (Cg some (by kernel_rfl))
 f331:=Tryz.func180.trans (Cg some (by kernel_rfl))
 f332:=Tryz.func181.trans (Cg some (by kernel_rfl))
 f343:=Tryz.func183.trans (Cg some (by kernel_rfl))
 t0:=Tryz.underlying0
 a0:=Tryz.isAgg0
 z0:=Tryz.sizeOf0
 v0:=Tryz.zeroValue0
 t3:=Tryz.underlying3
 a3:=Tryz.isAgg3
 z3:=Tryz.sizeOf3
 v3:=Tryz.zeroValue3
 t4:=Tryz.underlying4
 a4:=Tryz.isAgg4
 z4:=Tryz.sizeOf4
 v4:=Tryz.zeroValue4
 t5:=Tryz.underlying5
 a5:=Tryz.isAgg5
 z5:=Tryz.sizeOf5
 v5:=Tryz.zeroValue5
 t9:=Tryz.underlying9
 a9:=Tryz.isAgg9
 z9:=Tryz.sizeOf9
 v9:=Tryz.zeroValue9
 t28:=Tryz.underlying22
 a28:=Tryz.isAgg22
 z28:=Tryz.sizeOf22
 v28:=Tryz.zeroValue22
 t46:=Tryz.underlying177
 a46:=Tryz.isAgg177
 z46:=Tryz.sizeOf177
 v46:=Tryz.zeroValue177
 t51:=Tryz.underlying185
 a51:=Tryz.isAgg185
 z51:=Tryz.sizeOf185
 v51:=Tryz.zeroValue185
 t53:=Tryz.underlying32
 a53:=Tryz.isAgg32
 z53:=Tryz.sizeOf32
 v53:=Tryz.zeroValue32
 t131:=Tryz.underlying197
 a131:=Tryz.isAgg197
 z131:=Tryz.sizeOf197
 v131:=Tryz.zeroValue197
 t182:=Tryz.underlying193
 a182:=Tryz.isAgg193
 z182:=Tryz.sizeOf193
 v182:=Tryz.zeroValue193
 t183:=Tryz.underlying194
 a183:=Tryz.isAgg194
 z183:=Tryz.sizeOf194
 v183:=Tryz.zeroValue194
 t218:=Tryz.underlying204
 a218:=Tryz.isAgg204
 z218:=Tryz.sizeOf204
 v218:=Tryz.zeroValue204
 t222:=Tryz.underlying208
 a222:=Tryz.isAgg208
 z222:=Tryz.sizeOf208
 v222:=Tryz.zeroValue208
 t228:=Tryz.underlying210
 a228:=Tryz.isAgg210
 z228:=Tryz.sizeOf210
 v228:=Tryz.zeroValue210
 t229:=Tryz.underlying117
 a229:=Tryz.isAgg117
 z229:=Tryz.sizeOf117
 v229:=Tryz.zeroValue117 }
def HF:Go.Shelf.Ren:=⟨fun|15=>133|n=>n,fun|22=>22|3=>3|4=>4|n=>n,fun|n=>n⟩
theorem Y5:Go.Proofs.Lays2.n15 Tryz.prog HF:={
 mixed:=by kernel_rfl
 f15:=Tryz.func133.trans (Cg some (by kernel_rfl))
 t3:=Tryz.underlying3
 a3:=Tryz.isAgg3
 z3:=Tryz.sizeOf3
 v3:=Tryz.zeroValue3
 t4:=Tryz.underlying4
 a4:=Tryz.isAgg4
 z4:=Tryz.sizeOf4
 v4:=Tryz.zeroValue4
 t22:=Tryz.underlying22
 a22:=Tryz.isAgg22
 z22:=Tryz.sizeOf22
 v22:=Tryz.zeroValue22
 i3:=by kernel_rfl }
def HG:Go.Shelf.Ren:=⟨fun|20=>135|n=>n,fun|22=>22|3=>3|4=>4|0=>0|n=>n,fun|n=>n⟩
theorem JA:Go.Proofs.Lays2.n20 Tryz.prog HG:={
 mixed:=by kernel_rfl
 f20:=Tryz.func135.trans (Cg some (by kernel_rfl))
 t0:=Tryz.underlying0
 a0:=Tryz.isAgg0
 z0:=Tryz.sizeOf0
 v0:=Tryz.zeroValue0
 t3:=Tryz.underlying3
 a3:=Tryz.isAgg3
 z3:=Tryz.sizeOf3
 v3:=Tryz.zeroValue3
 t4:=Tryz.underlying4
 a4:=Tryz.isAgg4
 z4:=Tryz.sizeOf4
 v4:=Tryz.zeroValue4
 t22:=Tryz.underlying22
 a22:=Tryz.isAgg22
 z22:=Tryz.sizeOf22
 v22:=Tryz.zeroValue22
 i3:=by kernel_rfl }
open Go.Sort
section
variable {I:Nat->Nat->Prop} {θ:Nat->Option (Nat×Nat)} {w w':World}
theorem UO(I:Nat->Nat->Prop)(θ:Nat->Option (Nat×Nat))(w:World):G1 I (Ad []) θ w:=
 ⟨(λ_ _ _ h=>by cases h),(λ_ _ _ _ h=>by cases h),(λ_ _ _ _ _ h=>(h rfl).elim),(λ_ _ _ _ _ h=>by cases h),(λ_ _ h=>by cases h),(λ_ _ _ h=>by cases h)⟩
theorem eQ{own:Nat->Option Own}{zs:Array Value}{x:AV}(h:RepL I own θ w zs.toList [x]):∃ v,zs = #[v]/\Rep I own θ w v x:=by
 obtain⟨l⟩:=zs
 cases h with
 | cons h1 h2=>cases h2;exact⟨_,rfl,h1⟩
theorem Vi(hb:Below w.heap.size w w')(hval:∀ b o,I b o->∃ u,w.cell? ⟨b,o,none⟩=some u){N:Nat->Nat->Prop}(hN:∀ b o,N b o->w.heap.size<=b/\∃ u,w'.cell? ⟨b,o,none⟩=some u) :
  Chg (Ad []) θ I w (Ad []) θ (λb o=>I b o\/N b o) w':=
 have hcell:∀ b o,I b o->w'.cell? ⟨b,o,none⟩=w.cell? ⟨b,o,none⟩:=λb o hi=>by
  obtain⟨u,hu⟩:=hval b o hi;exact BM (a:=⟨b,o,none⟩) (hb.block b (L8 hu))
 {imm:=λ_ _ h=>.inl h,cell:=hcell,le:=λ_ _ h=>(by cases h),rel:=UO _ _ _,
  valid:=λb o hi=>by
   rcases hi with hi|hi
   ·obtain⟨u,hu⟩:=hval b o hi;exact⟨u,(hcell b o hi).trans hu⟩
   ·exact(hN b o hi).2,
  os:=hb.os,tape:=hb.tape,output:=hb.output,drawn:=λh=>h.elim,grow:=hb.size,frame:=λb hlt _=>hb.block b hlt,new:=λ_ _ _ h=>(h rfl).elim,
  immNew:=λb o hi=>by
   rcases hi with hi|hi
   ·exact .inl hi
   ·exact .inr (.inl (hN b o hi).1) }
end
theorem Xc{w W:World}{g n:Nat}{os:Array Obj}{d:Array Int}(hb:Below w.heap.size w W)(hg:w.heap.size<=g):Below w.heap.size w (grow (putRow (Value.int .i64) (Sort.ahead W n) g 0 d) os):=by
 have k:=grownBy_sortedI (w:=W) (g:=g) (n:=n) (os:=os) d;refine hb.trans ⟨k.os,k.tape,k.output,k.size,λb hlt=>k.block b (Nat.lt_of_lt_of_le hlt hb.size) (λe=>?_)⟩;have:=OI e;omega
def LC(w W:World)(g cap n:Nat)(zs:List Int):Prop:=
 Below w.heap.size w W/\w.heap.size<=g/\∃ cur,W.heap[g]?=some (.cells cur 3 (0,0))/\n<=cap/\cap<=maxLen/\cur.size=cap/\cur.toList.take zs.length=zs.map (Value.int .i64)/\zs.length=n
theorem XR{w W:World}{v:Value}{n:Nat}{zs:List Int}(h:W.ownsRow w.heap.size 3 1 v n (zs.map (Value.int .i64)))(hne:v≠.slice none 0 0)(hb:Below w.heap.size w W):∃ g cap,v = .slice (some ⟨g,0,none⟩) n cap/\LC w W g cap n zs:=by
 have hl:zs.length=n:=by have:=h.1;simpa using this
 rcases h.2 with⟨rfl,_⟩|⟨g,cap,cur,rfl,hg,hcur,hcap,hmax,hsz,ht⟩
 ·exact(hne rfl).elim
 ·rw[R3]at hsz ht;exact⟨g,cap,rfl,hb,hg,cur,hcur,hcap,hmax,hsz,by rw[hl];exact ht,hl⟩
theorem ck(ad:Addr)(c:Nat)(w:World):Calls Tryz.prog 133 #[.slice (some ad) 0 c] w λe W=>∃ g cap,e = .returned (.slice (some ⟨g,0,none⟩) 0 cap)/\LC w W g cap 0 []:=
 (Any.slices_Clone_int_zero Y5 ad c w).mono λe W ⟨v,he,hown,hne,hb⟩=>by
  obtain⟨g,cap,rfl,h⟩:=XR (zs:=[]) hown hne hb;exact⟨g,cap,he,h⟩
theorem gw(b off n c:Nat)(zs:List Int)(w:World)(hz:zs.length=n)(hbig:n<=17592186044416)(hc:∀ j,j<n->w.cell? ⟨b,off+j,none⟩=some (.int .i64 (zs.getD j 0))) :
  Calls Tryz.prog 133 #[.slice (some ⟨b,off,none⟩) n c] w λe W=>∃ g cap,e = .returned (.slice (some ⟨g,0,none⟩) n cap)/\LC w W g cap n zs:=
 (Any.slices_Clone_int Y5 b off n c zs w (by omega) (by omega) (λj hj=>hc j (by omega))).mono λe W ⟨v,he,hown,hne,hb⟩=>by
  rw[show zs.take n=zs by rw[<- hz];exact W0 ..]at hown;obtain⟨g,cap,rfl,h⟩:=XR hown hne hb;exact⟨g,cap,he,h⟩
theorem kp{w W:World}{g cap n:Nat}{zs:List Int}(h:LC w W g cap n zs)(hbig:n<=17592186044416):Calls Tryz.prog 134 #[.slice (some ⟨g,0,none⟩) n cap] W λe W2=>e = .returned (.tuple #[])/\LC w W2 g cap n (zs.mergeSort λx y=>decide (x<=y)):=by
 obtain⟨hb,hg,cur,hcur,hcap,hmax,hsz,ht,rfl⟩:=h;refine(Any.slices_Sort_int XG g 0 cap zs W (holds_of_blockI hcur ht) (Xo hcur) (by omega)).mono λe W2 ⟨he,q,os,hW⟩=>⟨he,?_⟩;subst hW;have hl:(zs.mergeSort λx y=>decide (x<=y)).length=zs.length:=List.length_mergeSort ..;have b2:=Xc (n:=q) (os:=os) (d:=(zs.mergeSort λx y=>decide (x<=y)).toArray) hb hg;exact⟨b2,hg,_,heap_sortedI _ hcur,hcap,hmax,by simp[putCells,hsz],take_putCellsI cur _ (by omega),hl⟩
theorem ZI{w W:World}{g cap n:Nat}{zs:List Int}(h:LC w W g cap n zs)(hbig:n<=17592186044416):Calls Tryz.prog 135 #[.slice (some ⟨g,0,none⟩) n cap] W λe W2=>e = .returned (.slice (some ⟨g,0,none⟩) (Lib.compact zs).length cap)/\LC w W2 g cap (Lib.compact zs).length (Lib.compact zs):=by
 obtain⟨hb,hg,cur,hcur,hcap,hmax,hsz,ht,rfl⟩:=h;refine(Any.slices_Compact_int JA g 0 cap zs W (holds_of_blockI hcur ht) (by omega) hcap).mono λe W2 ⟨he,q,hW⟩=>⟨he,?_⟩;subst hW;have hcl:=Lib.compact_length_le zs
 generalize Lib.compact zs=cs at hcl ⊢
 generalize hts:cs++List.replicate (zs.length-cs.length) (0:Int)=ts
 have htl:ts.length=zs.length:=by rw[<- hts,Em,Yk];omega
 have b2:=Xc (n:=q) (os:=#[]) (d:=ts.toArray) hb hg;have h2:=heap_sortedI (n:=q) (os:=#[]) ts.toArray hcur;rw[grow_empty]at b2 h2;have h3:=take_putCellsI cur ts (by omega);refine⟨b2,hg,_,h2,by omega,hmax,by simp[putCells,hsz],?_,rfl⟩;have:=Cg (List.take cs.length) h3;rw[List.take_take,Nat.min_eq_left (by omega),<- List.map_take,<- hts,List.take_left' rfl]at this;rw[<- hts];exact this
def f6(w w':World)(v:Value)(r:List Int):Prop:=
 (v = .slice none 0 0/\r=[])\/∃ g cap,v = .slice (some ⟨g,0,none⟩) r.length cap/\LC w w' g cap r.length r
set_option maxHeartbeats 4000000 in
set_option maxRecDepth 100000 in
theorem e9(a:Option Addr)(n c:Nat)(zs:List Int)(w:World)(hz:zs.length=n)(hn:a=none->n=0)(hbig:n<=17592186044416)
  (hc:0<n->∃ b off,a=some ⟨b,off,none⟩/\∀ j,j<n->w.cell? ⟨b,off+j,none⟩=some (.int .i64 (zs.getD j 0))) :
  Calls Tryz.prog 108 #[.slice a n c] w λe w'=>∃ v,e = .returned v/\Below w.heap.size w w'/\f6 w w' v (Lib.compact (zs.mergeSort λx y=>decide (x<=y))):=by
 cases a with
 | none=>
  obtain rfl:=hn rfl;obtain rfl:zs=[]:=zzL106.1 hz
  have hr:Lib.compact (([]:List Int).mergeSort λx y=>decide (x<=y))=[]:=by simp[Lib.compact,Lib.compactUpTo]
  rw[hr];have h1:Calls Tryz.prog 133 #[.slice none 0 c] w λe w'=>e = .returned (.slice none 0 0)/\w'=w:=Any.slices_Clone_int_nil Y5 0 c w;have h2:Calls Tryz.prog 134 #[.slice none 0 0] w λe w'=>e = .returned (.tuple #[])/\w'=w:=Any.slices_Sort_int_none XG none 0 w;have h3:Calls Tryz.prog 135 #[.slice none 0 0] w λe w'=>e = .returned (.slice none 0 0)/\w'=w:=Any.slices_Compact_int_empty JA none 0 w
  go_enter Tryz.func108,Tryz.ntmps108
  go_wp2_with (first
   | (go_at_call 133;refine h1.mono ?_;rintro e W ⟨rfl,rfl⟩)
   | (go_at_call 134;refine h2.mono ?_;rintro e W ⟨rfl,rfl⟩)
   | (go_at_call 135;refine h3.mono ?_;rintro e W ⟨rfl,rfl⟩))
  go_ret
  exact⟨_,rfl,Below.refl _ _,.inl ⟨rfl,rfl⟩⟩
 | some ad=>
  have h1:Calls Tryz.prog 133 #[.slice (some ad) n c] w λe W=>∃ g cap,e = .returned (.slice (some ⟨g,0,none⟩) n cap)/\LC w W g cap n zs:=by
   by_cases h0:n=0
   ·subst h0;obtain rfl:zs=[]:=zzL106.1 hz;exact ck ad c w
   ·obtain⟨b,off,hab,hcell⟩:=hc (by omega);obtain rfl:=OI hab;exact gw b off n c zs w hz hbig hcell
  go_enter Tryz.func108,Tryz.ntmps108
  go_wp2_with (first
   | (go_at_call 133;refine h1.mono ?_;rintro e W ⟨g,cap,rfl,hO⟩)
   | (go_at_call 134;refine(kp hO hbig).mono ?_;rintro e W2 ⟨rfl,hO2⟩)
   | (go_at_call 135;refine(ZI hO2 hbig).mono ?_;rintro e W3 ⟨rfl,hO3⟩))
  go_ret
  exact⟨_,rfl,hO3.1,.inr ⟨_,_,rfl,hO3⟩⟩
def TU(x:Int):List Int->List Int
 | []=>[x]
 | y::l=>if x<=y then x::y::l else y::TU x l
def da:List Int->List Int
 | []=>[]
 | x::l=>TU x (da l)
theorem insI_perm(x:Int):∀ l,(TU x l).Perm (x::l)
 | []=>.refl _
 | y::l=>by
  unfold TU
  split
  ·exact .refl _
  ·exact((insI_perm x l).cons y).trans (.swap x y l)
theorem XD{x:Int}:∀{l:List Int},l.Pairwise (·<=·)->(TU x l).Pairwise (·<=·)
 | [],_=>by simp[TU]
 | y::l,h=>by
  have h':=zzL122.1 h;unfold TU
  split
  ·rename_i hxy
   exact zzL122.2 ⟨λz hz=>by
    rcases zzL24.1 hz with rfl|hz
    ·exact hxy
    ·exact Int.le_trans hxy (h'.1 z hz),h⟩
  ·rename_i hxy
   refine zzL122.2 ⟨λz hz=>?_,XD h'.2⟩;rcases zzL24.1 ((insI_perm x l).mem_iff.1 hz) with rfl|hz
   ·omega
   ·exact h'.1 z hz
theorem IZ:∀ l,(da l).Perm l
 | []=>.refl _
 | x::l=>(insI_perm x _).trans ((IZ l).cons x)
theorem XF:∀ l,(da l).Pairwise (·<=·)
 | []=>.nil
 | x::l=>XD (XF l)
theorem XE(l:List Int):da l=l.mergeSort λx y=>decide (x<=y):=by
 refine List.Perm.eq_of_pairwise (le:=(·<=·)) (λa b _ _ h1 h2=>Int.le_antisymm h1 h2) (XF l) ?_ ((IZ l).trans (List.mergeSort_perm l _).symm);have:=List.pairwise_mergeSort (le:=λ(x y:Int)=>decide (x<=y)) (λa b c h1 h2=>by simp at *;omega) (λa b=>by simp;omega) l
 exact this.imp λh=>by simpa using h
def Yj(l:List Int):Option (List Int):=Cd (l.length<=17592186044416) (some (Lib.compact (da l)))
theorem VJ(l r:List Int)(h:Yj l=some r):Spec Tryz.prog 108 [AV.list 1 (λx=>[.int .i64 x]) (0:Int) l .none] [] (AV.list 1 (λx=>[.int .i64 x]) (0:Int) r .none) []:=by
 obtain⟨hlen,h⟩:=Ny h;rw[XE]at h;obtain rfl:=OI h;refine⟨enters_of Tryz.func108 (by kernel_rfl) rfl,λw I θ zs hargs _ hval _=>?_⟩;obtain⟨v,rfl,hv⟩:=eQ hargs;obtain⟨_,a,cap,us,rfl,hcap,hmax,hz,hnn,h1,hl,hr⟩:=hv.slice_val.slice_inv
 have hint:∀ i,i<l.length->us i = .int .i64 (l.getD i 0):=λi hi=>by
  have:=hr i 0 hi (by omega);rw[R3,Ls]at this;have h2:RepV I w (us i) (.int .i64 (l.getD i 0)):=this;exact Rep.int_inv (own:=Ad []) (θ:=θ) (.val _ _ h2)
 refine(e9 a l.length cap l w rfl (λha=>by have:=hnn ha;omega) hlen (λhp=>?_)).mono λe w' ⟨v,he,hb,hout⟩=>?_
 ·obtain⟨b,rfl,hs,_,hcell⟩:=hz hp;obtain⟨blk,off,spot⟩:=b;simp only at hs hcell;subst hs;exact⟨blk,off,rfl,λj hj=>by rw[hcell j (by omega),hint j hj]⟩
 ·generalize Lib.compact (l.mergeSort λx y=>decide (x<=y))=r at hout ⊢
  rcases hout with⟨rfl,rfl⟩|⟨g,cap',rfl,_,hg,cur,hcur,hc1,hc2,hc3,htake,_⟩
  ·exact⟨_,_,θ,he,Vi hb hval (N:=λ_ _=>False) (λ_ _ h=>h.elim),.val _ _ (.slice none 0 0 1 _ (λ_=>undef) (zzL7 _) (Li _) (λh=>by cases h) (λ_=>rfl) (λj hj=>by simp at hj) (λi hi=>by cases hi) (λi c hi=>by cases hi))⟩
  ·have hcell:∀ j,j<r.length->w'.cell? ⟨g,j,none⟩=some (.int .i64 (r.getD j 0)):=λj hj=>by
    rw[Ko _ _ _ cur 3 (0,0) hcur]
    have h2:(cur.toList.take r.length)[j]?=(r.map (Value.int .i64))[j]?:=by rw[htake]
    rw[List.getElem?_take_of_lt hj,Array.getElem?_toList]at h2;rw[h2];simp[List.getD,hj]
   refine⟨_,_,θ,he,Vi hb hval (N:=λb o=>b=g/\o<r.length) (λb o ⟨hbg,ho⟩=>⟨by omega,by subst hbg;exact⟨_,hcell o ho⟩⟩),.val _ _ (.slice (some ⟨g,0,none⟩) r.length cap' 1 _ (λj=>.int .i64 (r.getD j 0)) hc1 hc2 (λ_=>⟨⟨g,0,none⟩,rfl,rfl,λj hj=>.inr ⟨rfl,by simpa using hj⟩,λj hj=>by rw[Fp];exact hcell j (by omega)⟩) (λh=>by cases h) (λ_ _=>rfl) (λ_ _=>rfl) (λi c hi hc=>?_))⟩
   obtain rfl:c=0:=by omega
   rw[R3,Ls];exact .int _ _
abbrev Aq:=List Int
abbrev Ok:=List (List Int)
def Fn:=[30000,37006,9100005]
def Vf:=[(30000,30000),(37006,37006),(9100005,9100005)]
def Fq:=[30000,37006]
def Na:=[3,30000,37006,9100005]
def Kq:=[2,5,6,25,36007]
def P0:=[6,30000,37006,9100005]
def RZ:=[(30000,30000),(9100000,9100000),(9100001,9100001)]
def Oo:=[3,4,6,7,5700]
def CH:=[(30000,30000),(37006,37006)]
def Kr:=[2,13,21]
def Lj:=[8,30000,37006]
def Ij:=[1,7,8,9]
def Sn:=[30000,37006,13000005]
def Ui:=[3,4,6,7,5700,30000]
def Lt:=[2,3,4,6,7]
def Yp:=[3,5,30000,37006,9100005]
def Yq:=[0,4,6,21,22,30,31,32]
def Yr:=[4,30000,9100000,9100001]
def V7:=[2,5,6,7,26,27,28]
def BP:=[5,30000,37006,9100005]
def YE:=[0,2,3,8,9,16,17,18,54,55,56,62,63,64]
def YF:=[0,2,3,5,16,17,18,24,25,26,31,32,33]
def KM:=[4,7,30000,9100000,9100001]
def V8:=[2,5,6,7,8,9]
def KN:=[3,9,30000,37006,9100005]
def RU:=[3,7,10,11,12,17,18,19,25]
def G7:=[0,1]
def Uj:=[2,5,6,7,8]
def Uk:=[1,3,4,5,6]
def RV:=[0,2,3,16,17,18,24,25,26]
def RW:=[0,2,3,16,17,18,54,55,56]
def fQ:=[(30000,30000),(37006,37006),(13000005,9200005)]
def fR:=[(30000,30000),(37006,37006),(9300005,9200005)]
def Pj:=[10,70010]
def YG:=[3,7,10,11,12,17,18,19,24,25]
def Ys:=[3,10,11,12]
def RX:=[3,10,11,12,17,18,19]
def BQ:=[1,7,8,9,10]
def KO:=[3,31,30000,37006]
def BR:=[1,6,7,8,9]
def YH:=[3,4,11,12,13,18,19,20]
def YI:=[0,5,12,13,14,18,19,20]
def KP:=[2,7,8,9,10,11]
def YJ:=[6,7,30000,37006,9100005]
def GS:=[1,7,8,9,16]
def Pk:=[12,84]
def V9:=[0,21,22]
def KQ:=[31,30000,37006]
def KR:=[2,3,4,6,7,8]
def RY:=[0,2,3,16,17,18]
def GT:=[5,27,28,29]
def Mu:=[7,8]
def fS:=[0,4,6,21,22,30,31,32,33]
def fT:=[0,4,6,21,22,30,31,32,40]
def KS:=[0,5,8,9,10]
def fU:=[0,4,6,8,21,22,30,31,32]
def fX:=[4,6,30000,9100000,9100001]
def kB:=[(30000,30000),(37006,37006),(8,9200005)]
def Wa:=[2,5,6]
def KT:=[0,16,17,18]
def SA:=[7,8,12,13,14]
def YK:=[2,5,6,7,8,9,10]
def fY:=[6,8,30000,37006,9100005]
def SB:=[3,30000,37006]
def YL:=[2,4,5,18,19,20]
def BS:=[0,1,10]
def SC:=[(30000,30000)]
def Qm:=[6,7]
def fZ:=[2,3,4,6,7,8,11,66]
def SD:=[3,11,12,13]
def SE:=[0,12,13,14]
def SF:=[6,18,19,25]
def fa:=[2,3,4,6,7,8,9,10]
def So:=[4,5]
def BT:=[0,1,5]
def KU:=[2,5,6,7]
def KV:=[18,19,20]
def YM:=[14,17,10000305]
def Wb:=[2,16]
def kC:=[2,5,6,7,9,10,26,27,28,44]
def GU:=[1,4,22]
def fb:=[30000,37006,9300005]
def Ul:=[2,3]
def fc:=[2,3,4,6,7,8,11]
def fe:=[7,8,12,13,14,15]
def YN:=[0,1,3,9,10]
def GV:=[1,2,5]
def ff:=[0,1,5,14,15,16]
def fg:=[2,3,4,6,7,8,9]
def kD:=[2,5,6,7,9,10,26,27,28]
def kE:=[4,5,30000,9100000,9100001]
def Wc:=[1,2]
def Wd:=[0,3]
def YO:=[0,15,16,17]
def YP:=[0,21,22,23]
def fh:=[2,3,4,6,7,37]
def kF:=[2,5,6,7,26,27,28,29]
def SG:=[5,18,19]
def SH:=[6,18,19]
def KW:=[0,1,2]
def VR:=[1,2,15,16,17]
def fM:=[2,5,6,7,9,26,27,28]
def VS:=[0,1,32,33,34]
def fN:=[10,30000,37006,9100005]
def AF:=[2,3,4]
def AG:=[4,5,6]
def NM:=[2,5,6,25]
def fO:=[2,5,6,7,8,9,10,60]
def fP:=[4,30000,37006,9100005]
def VT:=[0,3,4,14,15]
def VU:=[0,4,6,21,22]
def NN:=[0,2,7,8]
def VV:=[(34001,34001)]
def AH:=[18,19]
def NO:=[3,7,8,9]
def VW:=[2,3,4,6,19]
def NP:=[3,4,6,7]
def NQ:=[6,7,5700]
def NR:=[1,2,3,4]
def VX:=[2,7,8,9,11]
def VY:=[1,23,24,25]
def VZ:=[(6004,20000)]
def WA:=[3,38,39,40]
def WB:=[0,37,38,39]
def WC:=[0,1,12,13]
def WD:=[0,6,21,22]
set_option maxRecDepth 100000
set_option maxHeartbeats 2000000
def As(x:Int):List AV:=[(.int .i64 x)]
def Ie(x:Aq):List AV:=[(AV.list 1 As 0 x .none)]
structure E1 where
 Bits:Int
 Dst:Int
 From:Aq
 Args:Aq
 deriving Inhabited,DecidableEq
def Xg(x:E1):List AV:=[(.int .i64 x.Bits),(.int .i64 x.Dst),(AV.list 1 As 0 x.From .none),(AV.list 1 As 0 x.Args .none)]
def oU(x:Int):List AV:=[(.int .u64 x)]
structure Bl where
 Kind:Int
 Bits:Int
 Lanes:Int
 Dst:Int
 Args:Aq
 Imm:Int
 deriving Inhabited,DecidableEq
def Js(x:Bl):List AV:=[(.int .i64 x.Kind),(.int .i64 x.Bits),(.int .i64 x.Lanes),(.int .i64 x.Dst),(AV.list 1 As 0 x.Args .none),(.int .u64 x.Imm)]
structure Gh where
 Kind:Int
 Arg:Int
 To:Aq
 deriving Inhabited,DecidableEq
def dC(x:Gh):List AV:=[(.int .i64 x.Kind),(.int .i64 x.Arg),(AV.list 1 As 0 x.To .none)]
structure Ag where
 Phis:List E1
 Ops:List Bl
 End:Gh
 deriving Inhabited,DecidableEq
def F6(x:Ag):List AV:=[(AV.list 4 Xg default x.Phis .none),(AV.list 6 Js default x.Ops .none),(.int .i64 x.End.Kind),(.int .i64 x.End.Arg),(AV.list 1 As 0 x.End.To .none)]
structure Aa where
 Params:Aq
 Ret:Int
 Blocks:List Ag
 deriving Inhabited,DecidableEq
def kv(x:Aa):List AV:=[(AV.list 1 As 0 x.Params .none),(.int .i64 x.Ret),(AV.list 5 F6 default x.Blocks .none)]
structure oJ where
 Block:Int
 A:Int
 B:Int
 deriving Inhabited,DecidableEq
abbrev Gy:=(Int×Int)
def Bx(x:Gy):List AV:=[(.int .i64 x.1),(.int .i64 x.2)]
structure Ha where
 block:Int
 at_:Int
 deriving Inhabited,DecidableEq
def CP(x:Ha):List AV:=[(.int .i64 x.block),(.int .i64 x.at_)]
structure A8 where
 v:Int
 shape:Gy
 place:Ha
 deriving Inhabited,DecidableEq
def Jt(x:A8):List AV:=[(.int .i64 x.v),(.int .i64 x.shape.1),(.int .i64 x.shape.2),(.int .i64 x.place.block),(.int .i64 x.place.at_)]
structure C6 where
 Succ:Ok
 Pred:Ok
 deriving Inhabited,DecidableEq
def Qt(x:C6):List AV:=[(AV.list 1 Ie [] x.Succ .none),(AV.list 1 Ie [] x.Pred .none)]
def eB(x:Bool):List AV:=[(.bool x)]
structure Aj where
 shape:Gy
 place:Ha
 deriving Inhabited,DecidableEq
def Qu(x:Aj):List AV:=[(.int .i64 x.shape.1),(.int .i64 x.shape.2),(.int .i64 x.place.block),(.int .i64 x.place.at_)]
structure Ax where
 V:Int
 Scale:Int
 deriving Inhabited,DecidableEq
def Ea(x:Ax):List AV:=[(.int .i64 x.V),(.int .u64 x.Scale)]
structure A1 where
 Terms:List Ax
 Off:Int
 deriving Inhabited,DecidableEq
def TQ(x:A1):List AV:=[(AV.list 2 Ea default x.Terms .none),(.int .u64 x.Off)]
structure TDef where
 V:Int
 Block:Int
 At:Int
 Shape:Gy
 deriving Inhabited,DecidableEq
structure Mx where
 V:Int
 Block:Int
 At:Int
 Shape:Gy
 deriving Inhabited,DecidableEq
structure nX where
 Op:List Bl
 Found:List Bool
 Form:List A1
 deriving Inhabited,DecidableEq
structure pA where
 Scale:Aq
 Off:Int
 deriving Inhabited,DecidableEq
theorem mix:Tryz.prog.follows .mixedOrders=true:=by kernel_rfl
abbrev sP:=Spec Tryz.prog
abbrev SN:=(Nat×Own)
theorem sG {f : FuncId} {fn : Func} {args : List AV} {H H' : List SN} {res : AV} (hf : Tryz.prog.funcs[f]? = some fn) (k : ∀ Γ : G0, RgQ Tryz.prog Γ fn.ntmps H → GG Tryz.prog Γ (fK Tryz.prog Γ fn.results.toList H res H') (iL (LQ fn) []) (Y4 args H)) (hb : fn.body.isSome = true := by kernel_rfl) (hname : (fn.name == "runtime.NumGoroutine") = false := by kernel_rfl) (hlen : Nat.ble args.length fn.ntmps = true := by kernel_rfl) (hpl : FK H = true := by kernel_rfl) : sP f args H res H' := Zt mix hf k hb hname hlen hpl
def Z1:=λza zb zc zd zf zg zm=>((30000,.row 110 [(AV.list 1 As 0 za .none),(.int .i64 zb),(AV.list 5 F6 default zc .none),(.int .i64 zd),(AV.list 1 As 0 zf .none),(.omap zg),(AV.list 5 Jt default zm (.own 37006))]):Nat×Own)
def Z2:=λza=>(⟨[],[],(.bool za),[],[],[]⟩:R7)
def Z3:=λza zb zc zd zf zg zm=>([(30000,.row 110 [(AV.list 1 As 0 za .none),(.int .i64 zb),(AV.list 5 F6 default zc .none),(.int .i64 zd),(AV.list 1 As 0 zf .none),.nilm,(AV.list 5 Jt default zg (.own 37006))]),(37006,.tok 5 158 zm)]:List SN)
def Z4:=λza (zb:Aq)=>((za,.arr 1 3 zb.length (λi=>As (zb.getD i 0))):Nat×Own)
def Z5:=((.slice 0 0 (λ_=>[]) .exact):AV)
def Z6:=λza=>((.int .i64 za):AV)
def Z7:=λza=>((AV.list 1 As 0 za .none):AV)
def Z8:=λza=>((AV.list 2 Bx ((0:Int),(0:Int)) za .none):AV)
def Z9:=λza zb=>([(AV.list 2 Ea default za .none),(.int .u64 zb)]:List AV)
def Nr:=λza=>((37006,.tok 5 158 za):Nat×Own)
def SK:=((30000,.row 93 [(.omap 9100000),(.omap 9100001)]):Nat×Own)
def OC:=((AV.list 1 As 0 ([]:Aq) .exact):AV)
def Ke:=((.int .i64 (0:Int)):AV)
def mT:=λza zb zc zd zf zg zm zn=>(⟨[(30000,30000),(37006,37006),(9100005,9100005)],[],(.tuple []),[(Z1 za zb zc zd zf 9100005 zg),(Nr zm),(9100005,.obj (.map false .i64 zn))],[],[]⟩:R7)
def gZ:=λza zb=>([(10,.arr 1 22 za (M6 1 As (0:Int) zb (Tag.fam 70010)))]:List SN)
def Ot:=((.int .u64 (0:Int)):AV)
def LI:=λza=>((AV.list 5 F6 default za .none):AV)
def nY:=λza (zb:Aq) (zc:Aq)=>((.slice 1 (bif za then zb.length else zc.length) (λi=>bif za then As (zb.getD i 0) else As (zc.getD i 0)) .none):AV)
def Kf:=λza=>((.int .u64 za):AV)
def P1:=λza=>((.agg (Qu za)):AV)
def mU:=λza zb zc zd zf zg=>((30000,.row 110 [(Z7 za),(Z6 zb),(LI zc),(Z6 zd),(Z7 zf),(.omap 8),(AV.list 5 Jt default zg (.own 37006))]):Nat×Own)
def SL:=λza=>((AV.list 1 Ie [] za .none):AV)
def Ol:=λza=>((.agg (TQ za)):AV)
def LJ:=λza zb=>((AV.list 1 As 0 za (.own zb)):AV)
def lj:=λza zb=>(⟨[],[],(.tuple [(Kf za),(AV.list 2 Ea default zb .none)]),[],[],[]⟩:R7)
def mV:=λza zb zc zd zf zg zm zn zp=>([(Z1 za zb zc zd zf zg zm),(Nr zn),(zg,.obj (.map false .i64 zp))]:List SN)
def oK:=λza (zb:List A8) (zc:List A8)=>((.slice 5 (bif za then zb.length else zc.length) (λi=>bif za then Jt (zb.getD i default) else Jt (zc.getD i default)) (.own 37006)):AV)
def DH:=λza=>(⟨[],[],(Z6 za),[],[],[]⟩:R7)
def pB:=λza zb zc zd zf zg=>(⟨[(2,(.clo za [] [])),(3,(.ptr 3 0)),(4,(.ptr 4 0)),(6,(.ptr 6 0)),(7,(.ptr 7 0))],[(3,.row 57 (Z9 zb zc)),(4,.row 57 (Z9 zd zf)),(6,.row 57 [Z5,Ot]),(7,.row 57 [(AV.list 2 Ea default ([]:List Ax) (.own 5700)),(Kf zg)]),(5700,.tok 2 134 (([]:List Ax).length))],[]⟩:St)
def LK:=λza zb zc zd zf zg zm=>([(Z1 za zb zc zd zf 9100005 zg),(Nr zm)]:List SN)
def ja:=λza zb=>((.agg (Qu (mget (default:Aj) za zb))):AV)
def ga:=((AV.list 2 Ea default ([]:List Ax) .exact):AV)
def kN:=((AV.list 2 Ea default ([]:List Ax) .none):AV)
def YW:=λza=>(⟨[],[],(Z8 za),[],[],[]⟩:R7)
def kO:=λza=>((AV.list 1 As 0 ([za]:Aq) .exact):AV)
def Z36:=(⟨[(4,(AV.list 1 As 0 ([]:Aq) (.own 6004)))],[(6004,.tok 1 3 (([]:Aq).length))],[]⟩:St)
def lk:=λza zb=>((7,.row 57 [(AV.list 2 Ea default za (.own 5700)),(Kf zb)]):Nat×Own)
def HB:=λza=>((.int .i64 (za:Int)):AV)
def nZ:=((AV.list 2 Bx ((0:Int),(0:Int)) ([]:List Gy) .exact):AV)
def S2:=λza=>((.agg (Js za)):AV)
def WK:=λza=>((30000,.row 32 [(Kf za)]):Nat×Own)
def oL:=λza zb zc zd zf zg zm zn zp=>(⟨[(30000,30000),(37006,37006),(9100005,9100005)],[],(.agg (CP za)),(mV zb zc zd zf zg 9100005 zm zn zp),[],[]⟩:R7)
def pC:=λza (zb:List Ag) (zc:List Ag)=>((.slice 5 (bif za then zb.length else zc.length) (λi=>bif za then F6 (zb.getD i default) else F6 (zc.getD i default)) .none):AV)
def NS:=((2,(.ptr 2 0)):Nat×AV)
def oM:=λza zb zc zd zf zg zm zn zp=>(⟨[(30000,30000),(37006,37006),(9100005,9100005)],[],(.bool za),(mV zb zc zd zf zg 9100005 zm zn zp),[],[]⟩:R7)
def Yt:=((.ptr 30000 0):AV)
def bb:=λza zb=>((za,.obj (.map true .i64 zb)):Nat×Own)
def mW:=λ(za:Aq)=>((6,.arr 1 166 64 (λi=>As (za.getD i 0))):Nat×Own)
def pD:=λza (zb:Aq) (zc:Aq)=>((.slice 1 (bif (za==true) then zb.length else zc.length) (λi=>bif (za==true) then As (zb.getD i 0) else As (zc.getD i 0)) .none):AV)
def jb:=λza=>(⟨[],[],(Ol za),[],[],[]⟩:R7)
def pE:=λza zb zc zd zf zg zm=>(⟨[(2,(.clo za [] [])),(3,(.ptr 3 0)),(4,(.ptr 4 0)),(6,(.ptr 6 0)),(7,(.ptr 7 0))],[(3,.row 57 (Z9 zb zc)),(4,.row 57 (Z9 zd zf)),(6,.row 57 [Z5,Ot]),(7,.row 57 [zg,(Kf zm)])],[]⟩:St)
def na:=λza zb zc zd zf zg zm zn=>(⟨[(30000,30000),(37006,37006)],[],(.bool za),(Z3 zb zc zd zf zg zm zn),[],[]⟩:R7)
abbrev kA:=(Nat×AV)
def oO:=λza zb=>([(72,(AV.list 2 Ea default za .exact)),(73,(AV.list 2 Ea default (zb++za) (.own 5700)))]:List kA)
def DI:=λza=>((.agg (Bx za)):AV)
def b8:=((6,(.vpt 6 64 0 0)):Nat×AV)
def oP:=λ(za:List Gy)=>([(30,.arr 2 73 za.length (λi=>Bx (za.getD i ((0:Int),(0:Int)))))]:List SN)
def fp:=((.int .i64 (5:Int)):AV)
def nb:=((AV.list 5 Jt default ([]:List A8) .exact):AV)
def NT:=((6,(.ptr 6 0)):Nat×AV)
def cA:=((5,(.vpt 5 64 0 0)):Nat×AV)
def jd:=λza zb zc=>((.int .i64 (bif za then zb else zc)):AV)
def SM:=λza=>((.agg (kv za)):AV)
def nd:=λza=>((AV.list 5 Jt default ([]:List A8) (.own za)):AV)
def gb:=((.int .i64 (1:Int)):AV)
def bc:=λza=>((6,.arr 1 166 64 za):Nat×Own)
def ge:=((.int .i64 (2:Int)):AV)
def YX:=((4,(.ptr 4 0)):Nat×AV)
def nf:=λza zb zc zd zf zg=>((1,.row 46 [(Z6 za),(Z6 zb),(Z6 zc),(Z6 zd),(Z7 zf),(Kf zg)]):Nat×Own)
def pF:=λza zb zc zd=>((.int .u64 (C1 (za+(C1 (Ap (Int.tdiv (Ap (zb*(List.getD zc (Int.tmod (Ap zd) (4:Int)).toNat (0:Int)))) (8:Int))))))):AV)
def oQ:=λza zb=>(⟨[(30000,30000),(37006,37006)],[],(Z6 za),zb,[],[]⟩:R7)
def ng:=λza zb=>(⟨[],[],(.tuple [(Kf za),(.bool zb)]),[],[],[]⟩:R7)
def cB:=λza=>((5,.arr 1 165 64 za):Nat×Own)
def nh:=λza=>((za,.tok 5 158 (([]:List A8).length)):Nat×Own)
def oR:=λza zb zc=>(⟨[],[(20000,za)],(LJ zb 20000),[(20000,.tok 1 3 zc)],[],[]⟩:R7)
def NU:=λza=>((2,.row 82 za):Nat×Own)

def Q4(aA:Int):=((decide (aA<0))==false)
def Q1:List AV:=[Ke,Ke,Ke,Ke,OC,Ot]
def Q5:=(⟨[NT],[(6,.row 46 Q1)],[]⟩:St)
def Q3:AV:=(.agg [Ke,Ke,Ke,Ke,Z5,Ot])
def Q2:=(⟨[NT],[(6,.row 46 [Ke,Ke,Ke,Ke,(AV.list 1 As 0 ([]:Aq) .none),Ot])],[]⟩:St)
def C4(a3:Aa)(aA:Int)(aJ:Int):Option Bl:=
 (bif (bif (decide (aA<0)) then true else(decide ((a3.Blocks.length:Int)<=aA))) then(some (⟨(0:Int),(0:Int),(0:Int),(0:Int),([]:Aq),(0:Int)⟩:Bl)) else(Cd (Bv aA a3.Blocks.length) (bif (bif (decide (aJ<0)) then true else(decide ((((a3.Blocks.getD aA.toNat default).Ops).length:Int)<=aJ))) then(some (⟨(0:Int),(0:Int),(0:Int),(0:Int),([]:Aq),(0:Int)⟩:Bl)) else(Cd (Bv aJ ((a3.Blocks.getD aA.toNat default).Ops).length) (some (((a3.Blocks.getD aA.toNat default).Ops).getD aJ.toNat default))))))
variable{v0:Aa}{v1:Int}{v2:Int}{v3:Bl}
theorem Ka(h:C4 v0 v1 v2=some v3):sP 19 [(SM v0),(Z6 v1),(Z6 v2)] [] (S2 v3) []:=
 sG Tryz.func19 λΓ q=>Am q [1,2,3,6] [3,6] (tU q [1,2,3,6,16] [3,6] (iG (Q4 v1) (c1 (S3 (decide (v1<0))))) (gC h (λh=>gR q [6] [6] [(17,(.agg Q1))] [] (c1 (show(AVle Q3 (.agg Q1)) from(AVle.agg (.cons (AVle.refl _) (.cons (AVle.refl _) (.cons (AVle.refl _) (.cons (AVle.refl _) (.cons D6 (.cons (AVle.refl _) .nil))))))))) (Sb Q5 (tS h (gK (e:=.ret) (Kp [] (show Le Γ _ Q2 from Le.trans (Db (st':=Q5) [6] [6] q) (Jl (.cons (AVle.refl _) .nil) (.row (.cons (AVle.refl _) (.cons (AVle.refl _) (.cons (AVle.refl _) (.cons (AVle.refl _) (.cons AVle.untag (.cons (AVle.refl _) .nil)))))) .nil)))))))) λh=>tV q [2,6,7] [6] h λh=>tU q [2,6,7,31] [6] (XB ((decide (v2<0))==false) (c1 (S3 (decide (v2<0))))) (gC h (λh=>gR q [6] [6] [(32,(.agg Q1))] [] (c1 (show(AVle Q3 (.agg Q1)) from(AVle.agg (.cons (AVle.refl _) (.cons (AVle.refl _) (.cons (AVle.refl _) (.cons (AVle.refl _) (.cons D6 (.cons (AVle.refl _) .nil))))))))) (Sb Q5 (tS h (gK (e:=.ret) (Kp [] (show Le Γ _ Q2 from Le.trans (Db (st':=Q5) [6] [6] q) (Jl (.cons (AVle.refl _) .nil) (.row (.cons (AVle.refl _) (.cons (AVle.refl _) (.cons (AVle.refl _) (.cons (AVle.refl _) (.cons AVle.untag (.cons (AVle.refl _) .nil)))))) .nil)))))))) λh=>tV q [6] [6] h λh=>tS h (Ck []))))
def Q6(a1:Bl):List SN:=[(nf a1.Kind a1.Bits a1.Lanes a1.Dst a1.Args a1.Imm)]
def D2(a1:Bl):Option Int:=
 (Option.bind (α:=Int) (Option.bind (α:=Bool) (bif (a1.Kind==16) then(some (a1.Kind==16)) else(some (a1.Kind==17))) (λx3=>(bif x3 then(some (0:Int)) else(Option.bind (α:=Bool) (bif (a1.Kind==18) then(some (a1.Kind==18)) else(some (a1.Kind==19))) (λx6=>(bif x6 then(some (1:Int)) else(some (a1.Args.length:Int)))))))) (λx8=>(bif (decide ((a1.Args.length:Int)<=x8)) then(some (0:Int)) else(Cd (Bv x8 a1.Args.length) (some (a1.Args.getD x8.toNat 0))))))
theorem Jg(h:D2 v3=some v1):sP 20 [(S2 v3)] [] (.int .i64 v1) []:=
 sG Tryz.func20 λΓ q=>tW q [1] [1] [1,3] [1] (tB h λx8 y8 h=>gJ y8 (λi1=>aG Γ .normal (⟨[(1,(.ptr 1 0)),(3,(Z6 i1))],(Q6 v3),[]⟩:St)) (λy h=>Am q [1,3,8] [1] (tB h λx3 y3 h=>gJ y3 (λb2=>aG Γ .normal (⟨[(1,(.ptr 1 0)),(3,(HB v3.Args.length)),(8,(Z6 v3.Kind)),(9,(.bool b2))],(Q6 v3),[]⟩:St)) (λy h=>Am q [1,3,8,9] [1] (gC h (λh=>tS h (gK (D1 Mw))) λh=>Am q [1,3,8,9] [1] (tS h (gK (D1 Mw))))) (gA (gC h (λh=>Am q [1,3] [1] (tS h (gK (D1 Mw)))) λh=>tB h λx6 y6 h=>gJ y6 (λb5=>aG Γ .normal (⟨[(1,(.ptr 1 0)),(3,(HB v3.Args.length)),(12,(.bool b5))],(Q6 v3),[]⟩:St)) (λy h=>Am q [1,3,8,12] [1] (gC h (λh=>tS h (gK (D1 (Db [1,3,12] [1] q)))) λh=>Am q [1,3,12] [1] (tS h (gK (D1 Mw))))) (gA (gC h (λh=>Am q [1,3] [1] (tS h (gK (D1 Mw)))) λh=>tS h (gK (D1 (Db [1,3] [1] q))))))))) (gA (Am q [1,3,19] [1] (gC h (λh=>Am q [2] [] (tS h (Ck []))) λh=>tV q [2] [] h λh=>tS h (Ck [])))))
abbrev nH:=(LR (Int×Int) Int)
def Kx(a3:Aa):Gy->Option nH:=
 λ((i1,i2):Gy)=>(bif (decide (i2<(a3.Blocks.length:Int))) then(Cd (Bv i2 a3.Blocks.length) (some (.next ((Ap (i1+(Ap ((((a3.Blocks.getD i2.toNat default).Phis).length:Int)+(((a3.Blocks.getD i2.toNat default).Ops).length:Int))))),(Ap (i2+1)))))) else(some (.done i1)))
def O4(a3:Aa):Option Int:=
 ((Ah (Kx a3) ((a3.Blocks.length:Int),(0:Int))).bind (λx5=>(some x5)))
theorem MO(h:O4 v0=some v1):sP 102 [(SM v0)] [] (.int .i64 v1) []:=
 sG Tryz.func102 λΓ q=>tW q [1] [1] [1,3] [1] (Am q Ys [] (tL q h Ys [] (λu (i1,i2)=>(Fo u [(3,(Z6 i1)),(12,(Z6 i2))] [])) (λu i3=>aG Γ (.exit 0) (⟨[(3,(Z6 i3))],[],[]⟩:St)) (λ⟨i1,i2⟩ y h=>Am q [3,10,11,12,13] [] (gC h (λh=>tV q [3,5,10,11,12] [5] h λh=>tW q Ys [] Ys [] (tN h)) λh=>tS h (gO (D1 (Db [3] [] q))))) λx5 h=>gA (Am q [2] [] (tS h (Ck [])))))
def Gt(aB:Aq):Int->Option (LR Int (Unit ⊕ Bool)):=
 λ(i1:Int)=>(bif (decide (i1<(aB.length:Int))) then(Cd (Bv i1 aB.length) (bif (bif (decide ((aB.getD i1.toNat 0)<0)) then true else(decide ((2147483647:Int)<(aB.getD i1.toNat 0)))) then(some (.done (.inr false))) else(some (.next (Ap (i1+1)))))) else(some (.done (.inl ()))))
def W8(Γ:G0)(aB:Aq)(r:Bool):Exit->St->Prop:=fK Tryz.prog Γ Tryz.f103.results.toList [] (.bool r) []
def C5(aB:Aq):Option Bool:=
 ((Ah (Gt aB) (0:Int)).bind (λx3=>(match x3 with|(.inl _)=>(some true)|(.inr r5)=>(some r5))))
variable{v4:Aq}{v5:Bool}
theorem Ex(h:C5 v4=some v5):sP 103 [(Z7 v4)] [] (.bool v5) []:=
 sG Tryz.func103 λΓ q=>tW q [0] [] [5,6,7] [] (tL q h [5,6,7] [] (λu i1=>(Fo u [(7,(Z6 i1))] [])) (λu x_=>match x_ with|(.inl _)=>aG Γ (.exit 0) (⟨[],[],[]⟩:St)|(.inr r_)=>aR (W8 Γ v4 r_)) (λi1 y h=>Am q [5,6,7,8] [] (gC h (λh=>tV q [4,5,6,7] [] h λh=>tU q [5,6,7,16] [] (c2 (gI ((decide ((v4.getD i1.toNat 0)<0))==false)) (S3 (decide ((v4.getD i1.toNat 0)<0)))) (gC h (λh=>Am q [2] [] (tS h (gO (Sr (Kp [] (Le.refl _ _)))))) λh=>Am q [5,6,7] [] (tN h))) λh=>tS h (gO (D1 (Db [] [] q))))) λx3 h=>(match x3,h with | .inl _,h=>gA (Am q [2] [] (tS h (Ck []))) | .inr r5,h=>Wj (λst' hk=>tS h (gK hk))))
def Fj(aB:Aq):Option Bool:=
 ((bif ((decide ((aB.length:Int)<=64))==true) then C5 aB else some false).bind λx1=>(some (bif (decide ((aB.length:Int)<=64)) then x1 else false)))
theorem Jh(h:Fj v4=some v5):sP 145 [(Z7 v4)] [] (.bool v5) []:=
 sG Tryz.func145 λΓ q=>Am q [0] [] (tB h λx1 y1 h=>tT q [2] [] [(Z2 x1)] (c3 (gI ((decide ((v4.length:Int)<=64))==true)) (λ(hg:((decide ((v4.length:Int)<=64))==true)=true)=>(Ex (Bz hg y1))) (Nt (decide ((v4.length:Int)<=64)))) (tS h (Ck [])))
def Kz(aW:E1):Option Bool:=
 ((C5 ([aW.Bits,aW.Dst]:Aq)).bind λx1=>((bif (x1==true) then Fj aW.From else some false).bind λx2=>((bif ((bif x1 then x2 else false)==true) then Fj aW.Args else some false).bind λx3=>(some (bif (bif x1 then x2 else false) then x3 else false)))))
variable{v6:E1}
theorem CB(h:Kz v6=some v5):sP 129 [(.agg (Xg v6))] [] (.bool v5) []:=
 sG Tryz.func129 λΓ q=>Am q [1] [1] (tB h λx1 y1 h=>tB h λx2 y2 h=>tB h λx3 y3 h=>gR q [2] [] [(7,(AV.list 1 As 0 ([v6.Bits,v6.Dst]:Aq) .exact))] [(Z2 x1),(Z2 x2),(Z2 x3)] (hZ (Bn 1 As (0:Int) ([v6.Bits,v6.Dst]:Aq)) (Ex y1) (Xn (x1==true) (hZ (λ(hg:(x1==true)=true)=>(Jh (Bz hg y2))) (Nt x1) (Xn ((bif x1 then x2 else false)==true) (c2 (λ(hg:((bif x1 then x2 else false)==true)=true)=>(Jh (Bz hg y3))) (Nt (bif x1 then x2 else false))))))) (tS h (Ck [])))
def E3(aB:List E1):Int->Option (LR Int (Unit ⊕ Bool)):=
 λ(i1:Int)=>(bif (decide (i1<(aB.length:Int))) then(Cd (Bv i1 aB.length) ((Kz (aB.getD i1.toNat default)).bind λx3=>(bif (!x3) then(some (.done (.inr false))) else(some (.next (Ap (i1+1))))))) else(some (.done (.inl ()))))
def Sq(Γ:G0)(aB:List E1)(r:Bool):Exit->St->Prop:=fK Tryz.prog Γ Tryz.f128.results.toList [] (.bool r) []
def F9(aB:List E1):Option Bool:=
 ((Ah (E3 aB) (0:Int)).bind (λx4=>(match x4 with|(.inl _)=>(some true)|(.inr r6)=>(some r6))))
variable{v7:List E1}
theorem Rq(h:F9 v7=some v5):sP 128 [(AV.list 4 Xg default v7 .none),(.clo 129 [] [])] [] (.bool v5) []:=
 sG Tryz.func128 λΓ q=>tW q G7 [] Ij [] (tL q h Ij [] (λu i1=>(Fo u [(9,(Z6 i1))] [])) (λu x_=>match x_ with|(.inl _)=>aG Γ (.exit 0) (⟨[],[],[]⟩:St)|(.inr r_)=>aR (Sq Γ v7 r_)) (λi1 y h=>Am q BQ [] (gC h (λh=>tV q BR [6] h λh=>tB h λx3 y3 h=>tT q GS [] [(Z2 x3)] (c1 (CB y3)) (gC h (λh=>Am q [4] [] (tS h (gO (Sr (Kp [] (Le.refl _ _)))))) λh=>Am q Ij [] (tN h))) λh=>tS h (gO (D1 (Db [] [] q))))) λx4 h=>(match x4,h with | .inl _,h=>gA (Am q [4] [] (tS h (Ck []))) | .inr r6,h=>Wj (λst' hk=>tS h (gK hk))))
def Mc(a1:Bl):Option Bool:=
 ((C5 ([a1.Kind,a1.Bits,a1.Lanes,a1.Dst]:Aq)).bind λx1=>((bif (x1==true) then Fj a1.Args else some false).bind λx2=>(some (bif x1 then x2 else false))))
theorem EX(h:Mc v3=some v5):sP 131 [(S2 v3)] [] (.bool v5) []:=
 sG Tryz.func131 λΓ q=>Am q [1] [1] (tB h λx1 y1 h=>tB h λx2 y2 h=>gR q [2] [] [(11,(AV.list 1 As 0 ([v3.Kind,v3.Bits,v3.Lanes,v3.Dst]:Aq) .exact))] [(Z2 x1),(Z2 x2)] (hZ (Bn 1 As (0:Int) ([v3.Kind,v3.Bits,v3.Lanes,v3.Dst]:Aq)) (Ex y1) (Xn (x1==true) (c2 (λ(hg:(x1==true)=true)=>(Jh (Bz hg y2))) (Nt x1)))) (tS h (Ck [])))
def Ff(aB:List Bl):Int->Option (LR Int (Unit ⊕ Bool)):=
 λ(i1:Int)=>(bif (decide (i1<(aB.length:Int))) then(Cd (Bv i1 aB.length) ((Mc (aB.getD i1.toNat default)).bind λx3=>(bif (!x3) then(some (.done (.inr false))) else(some (.next (Ap (i1+1))))))) else(some (.done (.inl ()))))
def S5(Γ:G0)(aB:List Bl)(r:Bool):Exit->St->Prop:=fK Tryz.prog Γ Tryz.f130.results.toList [] (.bool r) []
def Gs(aB:List Bl):Option Bool:=
 ((Ah (Ff aB) (0:Int)).bind (λx4=>(match x4 with|(.inl _)=>(some true)|(.inr r6)=>(some r6))))
variable{v8:List Bl}
theorem Sy(h:Gs v8=some v5):sP 130 [(AV.list 6 Js default v8 .none),(.clo 131 [] [])] [] (.bool v5) []:=
 sG Tryz.func130 λΓ q=>tW q G7 [] Ij [] (tL q h Ij [] (λu i1=>(Fo u [(9,(Z6 i1))] [])) (λu x_=>match x_ with|(.inl _)=>aG Γ (.exit 0) (⟨[],[],[]⟩:St)|(.inr r_)=>aR (S5 Γ v8 r_)) (λi1 y h=>Am q BQ [] (gC h (λh=>tV q BR [6] h λh=>tB h λx3 y3 h=>tT q GS [] [(Z2 x3)] (c1 (EX y3)) (gC h (λh=>Am q [4] [] (tS h (gO (Sr (Kp [] (Le.refl _ _)))))) λh=>Am q Ij [] (tN h))) λh=>tS h (gO (D1 (Db [] [] q))))) λx4 h=>(match x4,h with | .inl _,h=>gA (Am q [4] [] (tS h (Ck []))) | .inr r6,h=>Wj (λst' hk=>tS h (gK hk))))
def Ky(aI:Gh):Option Bool:=
 ((C5 ([aI.Kind,aI.Arg]:Aq)).bind λx1=>((bif (x1==true) then Fj aI.To else some false).bind λx2=>(some (bif x1 then x2 else false))))
variable{v9:Gh}
theorem CA(h:Ky v9=some v5):sP 132 [(.agg (dC v9))] [] (.bool v5) []:=
 sG Tryz.func132 λΓ q=>Am q [1] [1] (tB h λx1 y1 h=>tB h λx2 y2 h=>gR q [2] [] [(7,(AV.list 1 As 0 ([v9.Kind,v9.Arg]:Aq) .exact))] [(Z2 x1),(Z2 x2)] (hZ (Bn 1 As (0:Int) ([v9.Kind,v9.Arg]:Aq)) (Ex y1) (Xn (x1==true) (c2 (λ(hg:(x1==true)=true)=>(Jh (Bz hg y2))) (Nt x1)))) (tS h (Ck [])))
def Jc(aL:Ag):Option Bool:=
 ((F9 aL.Phis).bind λx1=>((bif (x1==true) then Gs aL.Ops else some false).bind λx2=>((bif ((bif x1 then x2 else false)==true) then Ky (⟨aL.End.Kind,aL.End.Arg,aL.End.To⟩:Gh) else some false).bind λx3=>(some (bif (bif x1 then x2 else false) then x3 else false)))))
variable{v10:Ag}
theorem X4(h:Jc v10=some v5):sP 105 [(.agg (F6 v10))] [] (.bool v5) []:=
 sG Tryz.func105 λΓ q=>Am q [1] [1] (tB h λx1 y1 h=>tB h λx2 y2 h=>tB h λx3 y3 h=>tT q [2] [] [(Z2 x1),(Z2 x2),(Z2 x3)] (ci (Rq y1) (Xn (x1==true) (hZ (λ(hg:(x1==true)=true)=>(Sy (Bz hg y2))) (Nt x1) (Xn ((bif x1 then x2 else false)==true) (c2 (λ(hg:((bif x1 then x2 else false)==true)=true)=>(CA (Bz hg y3))) (Nt (bif x1 then x2 else false))))))) (tS h (Ck [])))
def Ee(aB:List Ag):Int->Option (LR Int (Unit ⊕ Bool)):=
 λ(i1:Int)=>(bif (decide (i1<(aB.length:Int))) then(Cd (Bv i1 aB.length) ((Jc (aB.getD i1.toNat default)).bind λx3=>(bif (!x3) then(some (.done (.inr false))) else(some (.next (Ap (i1+1))))))) else(some (.done (.inl ()))))
def P3(Γ:G0)(aB:List Ag)(r:Bool):Exit->St->Prop:=fK Tryz.prog Γ Tryz.f104.results.toList [] (.bool r) []
def Fe(aB:List Ag):Option Bool:=
 ((Ah (Ee aB) (0:Int)).bind (λx4=>(match x4 with|(.inl _)=>(some true)|(.inr r6)=>(some r6))))
variable{v11:List Ag}
theorem Pv(h:Fe v11=some v5):sP 104 [(LI v11),(.clo 105 [] [])] [] (.bool v5) []:=
 sG Tryz.func104 λΓ q=>tW q G7 [] Ij [] (tL q h Ij [] (λu i1=>(Fo u [(9,(Z6 i1))] [])) (λu x_=>match x_ with|(.inl _)=>aG Γ (.exit 0) (⟨[],[],[]⟩:St)|(.inr r_)=>aR (P3 Γ v11 r_)) (λi1 y h=>Am q BQ [] (gC h (λh=>tV q BR [6] h λh=>tB h λx3 y3 h=>tT q GS [] [(Z2 x3)] (c1 (X4 y3)) (gC h (λh=>Am q [4] [] (tS h (gO (Sr (Kp [] (Le.refl _ _)))))) λh=>Am q Ij [] (tN h))) λh=>tS h (gO (D1 (Db [] [] q))))) λx4 h=>(match x4,h with | .inl _,h=>gA (Am q [4] [] (tS h (Ck []))) | .inr r6,h=>Wj (λst' hk=>tS h (gK hk))))
def Q8(a3:Aa):=(decide ((a3.Blocks.length:Int)<1))
def Q7(a3:Aa):=(decide ((16:Int)<(a3.Params.length:Int)))
def Rg(a3:Aa):Option Bool:=
 (bif (bif (decide ((a3.Blocks.length:Int)<1)) then true else(decide ((64:Int)<(a3.Blocks.length:Int)))) then(some false) else((bif ((decide ((16:Int)<(a3.Params.length:Int)))==false) then O4 a3 else some (0:Int)).bind λx1=>(bif (bif (decide ((16:Int)<(a3.Params.length:Int))) then true else(decide ((512:Int)<x1))) then(some false) else((C5 a3.Params).bind λx2=>((bif (x2==true) then C5 ([a3.Ret]:Aq) else some false).bind λx3=>((bif ((bif x2 then x3 else false)==true) then Fe a3.Blocks else some false).bind λx4=>(some (bif (bif x2 then x3 else false) then x4 else false))))))))
theorem QF(h:Rg v0=some v5):sP 82 [(SM v0)] [] (.bool v5) []:=
 sG Tryz.func82 λΓ q=>Am q [1] [1] (tU q [1,12] [1] (XB ((Q8 v0)==false) (c1 (S3 (Q8 v0)))) (gC h (λh=>Am q [2] [] (tS h (Ck []))) λh=>tB h λx1 y1 h=>tT q [1,21] [1] [(DH x1)] (c4 (gI ((Q7 v0)==false)) (λ(hg:((Q7 v0)==false)=true)=>(MO (Bz hg y1))) (gI ((Q7 v0)==false)) (S3 (Q7 v0))) (gC h (λh=>Am q [2] [] (tS h (Ck []))) λh=>tB h λx2 y2 h=>tB h λx3 y3 h=>tB h λx4 y4 h=>gR q [2] [] [(28,(kO v0.Ret))] [(Z2 x2),(Z2 x3),(Z2 x4)] (ci (Ex y2) (Xn (x2==true) (pR (show((x2==true)=true->(AVle (.slice 1 1 (λi=>([[(Z6 v0.Ret)]]:List (List AV)).getD i []) .exact) (kO v0.Ret))) from(λhg=>@(Bn 1 As (0:Int) ([v0.Ret]:Aq)))) (gI (x2==true)) (λ(hg:(x2==true)=true)=>(Ex (Bz hg y3))) (Nt x2) (Xn ((bif x2 then x3 else false)==true) (c2 (λ(hg:((bif x2 then x3 else false)==true)=true)=>(Pv (Bz hg y4))) (Nt (bif x2 then x3 else false))))))) (tS h (Ck [])))))
def Ir(aaB:Bool)(aI:Int):Option Int:=
 (bif aaB then(some (0:Int)) else(some aI))
theorem Sd(h:Ir v5 v1=some v2):sP 81 [(.bool v5),(Z6 v1)] [] (.int .i64 v2) []:=
 sG Tryz.func81 λΓ q=>tW q G7 [] [1,5] [] (gC h (λh=>Am q [4] [] (tS h (Ck []))) λh=>Am q [4] [] (tS h (Ck [])))
abbrev bU:=(Int×Aa×Int×Aq×List A8)
def Gq(a0:Aa)(a4:Int)(a9:Aq)(a5:List A8):Option bU:=
 ((Rg a0).bind λx1=>((Ir x1 (4:Int)).bind λx2=>(some (x2,a0,a4,a9,a5))))
variable{v12:List A8}{v13:bU}
theorem Sw(h:Gq v0 v1 v4 v12=some v13):sP 71 [Yt] (Z3 v0.Params v0.Ret v0.Blocks v1 v4 v12 v12.length) (Z6 v13.1) (Z3 v13.2.1.Params v13.2.1.Ret v13.2.1.Blocks v13.2.2.1 v13.2.2.2.1 v13.2.2.2.2 v13.2.2.2.2.length):=
 sG Tryz.func71 λΓ q=>Am q [0] Fq (tB h λx1 y1 h=>tB h λx2 y2 h=>tT q [2] Fq [(Z2 x1),(DH x2)] (c2 (QF y1) (Sd y2)) (tS h (Ck CH)))
def H2(aK:Int):Option Bool:=
 (some (bif (decide ((1:Int)<=aK)) then(decide (aK<=64)) else false))
theorem Qc(h:H2 v1=some v5):sP 106 [(Z6 v1)] [] (.bool v5) []:=
 sG Tryz.func106 λΓ q=>Am q [0] [] (tU q [2] [] (c2 (gI ((decide ((1:Int)<=v1))==true)) (Nt (decide ((1:Int)<=v1)))) (tS h (Ck [])))
def Gf(aJ:Int)(aK:Int):Option Bool:=
 (some (bif (decide ((0:Int)<=aJ)) then(decide (aJ<aK)) else false))
theorem L5(h:Gf v1 v2=some v5):sP 111 [(Z6 v1),(Z6 v2)] [] (.bool v5) []:=
 sG Tryz.func111 λΓ q=>Am q G7 [] (tU q [4] [] (Xn ((decide ((0:Int)<=v1))==true) (c1 (Nt (decide ((0:Int)<=v1))))) (tS h (Ck [])))
def B9(aI:Gh)(aK:Int):Int->Option (LR Int (Unit ⊕ Bool)):=
 λ(i7:Int)=>(bif (decide (i7<(aI.To.length:Int))) then(Cd (Bv i7 aI.To.length) ((bif (((aI.To.getD i7.toNat 0)==0)==false) then Gf (aI.To.getD i7.toNat 0) aK else some false).bind λx9=>(bif (bif ((aI.To.getD i7.toNat 0)==0) then true else(!x9)) then(some (.done (.inr false))) else(some (.next (Ap (i7+1))))))) else(some (.done (.inl ()))))
def R4(Γ:G0)(aI:Gh)(aK:Int)(r:Bool):Exit->St->Prop:=fK Tryz.prog Γ Tryz.f107.results.toList [] (.bool r) []
def Q9(aI:Gh)(i7:Int):=((aI.To.getD i7.toNat 0)==0)
def J2(aI:Gh)(aK:Int):Option Bool:=
 (Option.bind (α:=(Int ⊕ Bool)) (Option.bind (α:=Bool) (bif (aI.Kind==0) then(some (aI.Kind==0)) else(some (aI.Kind==3))) (λx3=>(bif x3 then(some (.inl (0:Int))) else(bif (aI.Kind==1) then(some (.inl (1:Int))) else(bif (aI.Kind==2) then(some (.inl (2:Int))) else(some (.inr false))))))) (λx5=>(match x5 with|(.inl i1)=>(bif ((aI.To.length:Int)!=i1) then(some false) else((Ah (B9 aI aK) (0:Int)).bind (λx10=>(match x10 with|(.inl _)=>(some true)|(.inr r12)=>(some r12)))))|(.inr r13)=>(some r13))))
theorem Zo(h:J2 v9 v1=some v5):sP 107 [(.agg (dC v9)),(Z6 v1)] [] (.bool v5) []:=
 sG Tryz.func107 λΓ q=>tW q Wc [2] GV [2] (tB h λx5 y5 h=>gJ y5 (λx_=>match x_ with|(.inl i1)=>aG Γ .normal (⟨[(1,(Z6 v1)),NS,(5,(Z6 i1))],[(2,.row 39 [(Z6 v9.Kind),(Z6 v9.Arg),(Z7 v9.To)])],[]⟩:St)|(.inr r_)=>aR (R4 Γ v9 v1 r_)) (λy h=>Am q [1,2,5,9] [2] (tB h λx3 y3 h=>gJ y3 (λb2=>aG Γ .normal (⟨[(1,(Z6 v1)),NS,(5,Ke),(9,(Z6 v9.Kind)),(10,(.bool b2))],[(2,.row 39 [(Z6 v9.Kind),(Z6 v9.Arg),(Z7 v9.To)])],[]⟩:St)) (λy h=>Am q [1,2,5,9,10] [2] (gC h (λh=>tS h (gK (D1 Mw))) λh=>Am q [1,2,5,9,10] [2] (tS h (gK (D1 Mw))))) (gA (gC h (λh=>tS h (gK (D1 (Db GV [2] q)))) λh=>Am q [1,2,9,13] [2] (gC h (λh=>Am q GV [2] (tS h (gK (D1 Mw)))) λh=>Am q [1,2,15] [2] (gC h (λh=>Am q GV [2] (tS h (gK (D1 Mw)))) λh=>Am q [4] [] (tS h (gK (Sr (Kp [] (Le.refl _ _))))))))))) (match x5,h with | .inl i1,h=>gA (Am q [1,2,21] [2] (gC h (λh=>Am q [4] [] (tS h (Ck []))) λh=>Am q VY [] (tL q h VY [] (λu i7=>(Fo u [(25,(Z6 i7))] [])) (λu x_=>match x_ with|(.inl _)=>aG Γ (.exit 1) (⟨[],[],[]⟩:St)|(.inr r_)=>aR (R4 Γ v9 v1 r_)) (λi7 y h=>Am q [1,23,24,25,26] [] (gC h (λh=>tV q [1,7,23,24,25] [] h λh=>tB h λx9 y9 h=>tT q [1,23,24,25,36] [] [(Z2 x9)] (Xn ((Q9 v9 i7)==false) (c3 (λ(hg:((Q9 v9 i7)==false)=true)=>(L5 (Bz hg y9))) (gI ((Q9 v9 i7)==false)) (S3 (Q9 v9 i7)))) (gC h (λh=>Am q [4] [] (tS h (gO (Sr (Kp [] (Le.refl _ _)))))) λh=>Am q VY [] (tN h))) λh=>tS h (gO (D1 (Db [] [] q))))) λx10 h=>(match x10,h with | .inl _,h=>gA (Am q [4] [] (tS h (Ck []))) | .inr r12,h=>Wj (λst' hk=>tS h (gK hk)))))) | .inr r13,h=>Wj (λst' hk=>tS h (gK hk))))
abbrev lq:=(Int×Ok)
def Ef(aC:Ok)(i2:Int):lq->Option (LR (Int×Ok) Ok):=
 λ((i6,l7):lq)=>(bif (decide (i6<((aC.getD i2.toNat []).length:Int))) then(Cd (Bv i6 (aC.getD i2.toNat []).length) (Cd (Bv ((aC.getD i2.toNat []).getD i6.toNat 0) l7.length) (Cd (Bv ((aC.getD i2.toNat []).getD i6.toNat 0) l7.length) (Cd ((l7.getD ((aC.getD i2.toNat []).getD i6.toNat 0).toNat []).length+([i2]:Aq).length<=room) (Cd (Bv ((aC.getD i2.toNat []).getD i6.toNat 0) l7.length) (some (.next ((Ap (i6+1)),(l7.set ((aC.getD i2.toNat []).getD i6.toNat 0).toNat ((l7.getD ((aC.getD i2.toNat []).getD i6.toNat 0).toNat [])++([i2]:Aq))))))))))) else(some (.done l7)))
def Eg(aC:Ok):lq->Option (LR (Int×Ok) Ok):=
 λ((i2,l3):lq)=>(bif (decide (i2<(aC.length:Int))) then(Cd (Bv i2 aC.length) ((Ah (Ef aC i2) ((0:Int),l3)).bind (λx14=>(some (.next ((Ap (i2+1)),x14)))))) else(some (.done l3)))
def gH(i2:Int):=([i2]:Aq)
def bZ(aC:Ok)(i2:Int)(i6:Int):=((aC.getD i2.toNat []).getD i6.toNat 0)
def bo(l7:Ok)(aC:Ok)(i2:Int)(i6:Int):=(l7.getD (bZ aC i2 i6).toNat [])
def kK(aC:Ok):=(List.replicate (aC.length:Int).toNat ([]:Aq))
def mI(l7:Ok)(aC:Ok)(i2:Int)(i6:Int):=(l7.set (bZ aC i2 i6).toNat ((bo l7 aC i2 i6)++(gH i2)))
def nr(aC:Ok):List kA:=[(0,(SL aC)),(3,(.vsl 10 (aC.length:Int).toNat))]
def oh(l7:Ok)(i2:Int)(aC:Ok)(i6:Int):List kA:=[(3,(.vsl 10 l7.length)),(4,(Z6 i2)),(11,(SL aC)),(12,(HB aC.length)),(13,(Z6 i2)),(18,(AV.list 1 As 0 (aC.getD i2.toNat []) .none)),(19,(.int .i64 ((aC.getD i2.toNat []).length:Int))),(20,(Z6 i6))]
def oi(l7:Ok)(i2:Int)(aC:Ok)(i6:Int):List kA:=[(3,(.vsl 10 l7.length)),(4,(Z6 i2)),(7,(Z6 (bZ aC i2 i6))),(11,(SL aC)),(12,(HB aC.length)),(13,(Z6 i2)),(18,(AV.list 1 As 0 (aC.getD i2.toNat []) .none)),(19,(.int .i64 ((aC.getD i2.toNat []).length:Int))),(20,(Z6 i6))]
def Iu(aC:Ok):Option Ok:=
 (Cd (0<=(aC.length:Int)/\(aC.length:Int)<=(aC.length:Int)/\(aC.length:Int)<=(room:Int)) ((Ah (Eg aC) ((0:Int),(List.replicate (aC.length:Int).toNat ([]:Aq)))).bind (λx16=>(some x16))))
variable{v14:Ok}{v15:Ok}
theorem Sf(h:Iu v14=some v15):sP 109 [(SL v14)] [] (AV.list 1 Ie [] v15 (.own 20000)) [(20000,.tok 1 22 v15.length)]:=
 sG Tryz.func109 λΓ q=>have hΓ:=q.own;gR q [0] [] [(2,(AV.list 1 Ie [] ([]:Ok) .exact))] [] (c1 (Gj 1 Ie [])) (tV q Wd [10] h λh=>Sb (⟨(nr v14),[(10,.arr 1 22 ((v14.length:Int).toNat) (λi_=>AV.eraseAll (λn_=>Cj n_ [10]) ((λ_=>[Z5]) i_)))],[]⟩:St) (Mv (Le.trans (Jl (st':=⟨(nr v14),[(10,.arr 1 22 ((v14.length:Int).toNat) (M6 1 As (0:Int) (kK v14) (λ_=>.exact)))],[]⟩) (TmpsLe.refl _) (.arr dG .nil)) (Le.trans (Le.trans (df (r:=10) (b:=70010) As (0:Int) (kK v14) 3 rfl rfl (Yk ..).symm (λh_=>absurd h_ (by decide))) (N1 (st':=⟨(nr v14),[(10,.arr 1 22 ((v14.length:Int).toNat) (M6 1 As (0:Int) (kK v14) (Tag.fam 70010)))],[(70010,⟨1,3,Nh (kK v14)⟩)]⟩) (by kernel_rfl))) (N1 (Cg (λk_:Nat=>(⟨[(0,(SL v14)),(3,(.vsl 10 k_))],(gZ k_ (kK v14)),[(70010,⟨1,3,Nh (kK v14)⟩)]⟩:St)) (show(v14.length:Int).toNat=(kK v14).length from(Yk ..).symm))))) (Am q SD Pj (tL q h SD Pj (λu (i2,l3)=>(Fo u [(3,(.vsl 10 l3.length)),(13,(Z6 i2))] (gZ l3.length l3) [(70010,⟨1,3,Nh l3⟩)])) (λu l4=>aG Γ (.exit 0) (⟨[(3,(.vsl 10 l4.length))],(gZ l4.length l4),[(70010,⟨1,3,Nh l4⟩)]⟩:St)) (λ⟨i2,l3⟩ y h=>Am q [3,11,12,13,14] Pj (gC h (λh=>tV q [3,4,5,11,12,13] Pj h λh=>Am q YH Pj (tL q h YH Pj (λu (i6,l7)=>(Fo u [(3,(.vsl 10 l7.length)),(20,(Z6 i6))] (gZ l7.length l7) [(70010,⟨1,3,Nh l7⟩)])) (λu l8=>aG Γ (.exit 2) (W5 SD Pj u [(3,(.vsl 10 l8.length))] (gZ l8.length l8) [(70010,⟨1,3,Nh l8⟩)])) (λ⟨i6,l7⟩ y h=>Am q [3,4,11,12,13,18,19,20,21] Pj (gC h (λh=>tV q [3,4,7,11,12,13,18,19,20] Pj h λh=>Sb (⟨(oi l7 i2 v14 i6),(gZ l7.length l7),[(70010,⟨1,3,Nh l7⟩)]⟩:St) (tC h λc10_ h=>tC h λc11_ h=>tC h λc12_ h=>tC h λc13_ h=>Mv (Le.trans (iR (r:=10) (b:=70010) (k:=60010) As (0:Int) l7 (bZ v14 i2 i6).toNat 3 rfl rfl rfl rfl (O0 c10_) (by kernel_rfl) (.here .nil)) (N1 (st':=⟨(oi l7 i2 v14 i6),[(10,.arr 1 22 l7.length (M6 1 As (0:Int) l7 (Ft 70010 (bZ v14 i2 i6).toNat 60010))),(60010,.tok 1 3 ((bo l7 v14 i2 i6).length))],[(70010,⟨1,3,Xp l7 (bZ v14 i2 i6).toNat⟩)]⟩) (by kernel_rfl))) (gR q YH [10,60010,70010] [(29,(LJ (bo l7 v14 i2 i6) 60010)),(31,(AV.list 1 As 0 (gH i2) .exact)),(32,(AV.list 1 As 0 ((bo l7 v14 i2 i6)++(gH i2)) (.own 60010)))] [] (nk c11_ (Eq.refl l7.length) (show(AVle (((M6 1 As (0:Int) l7 (Ft 70010 (bZ v14 i2 i6).toNat 60010)) (bZ v14 i2 i6).toNat).getD 0 .any) (LJ (bo l7 v14 i2 i6) 60010)) from YZ) (Bn 1 As (0:Int) (gH i2)) (Eq.refl ((bo l7 v14 i2 i6).length)) c12_ (Ng 1 60010 As (0:Int) (bo l7 v14 i2 i6) (gH i2)) (Gl (bo l7 v14 i2 i6) (gH i2)) c13_ (c1 (Eq.refl l7.length))) (Sb (⟨(oh l7 i2 v14 i6),[(10,.arr 1 22 l7.length (λi_=>AV.eraseAll (λn_=>Cj n_ [10,60010,70010]) ((Ll (M6 1 As (0:Int) l7 (Ft 70010 (bZ v14 i2 i6).toNat 60010)) (bZ v14 i2 i6).toNat 0 [(AV.list 1 As 0 ((bo l7 v14 i2 i6)++(gH i2)) (.own 60010))]) i_))),(60010,.tok 1 3 (((bo l7 v14 i2 i6)++(gH i2)).length))],[(70010,⟨1,3,Xp l7 (bZ v14 i2 i6).toNat⟩)]⟩:St) (Mv (Le.trans (Le.trans (k5 (r:=10) (b:=70010) (k:=60010) As (0:Int) l7 (bZ v14 i2 i6).toNat ((bo l7 v14 i2 i6)++(gH i2)) 3 rfl (eK (O0 c10_) rfl rfl) rfl rfl rfl rfl (O0 c10_) (by kernel_rfl) (.here (.tok .nil)) (by rw[hΓ];rfl)) (N1 (st':=⟨(oh l7 i2 v14 i6),(gZ l7.length (mI l7 v14 i2 i6)),[(70010,⟨1,3,Nh (mI l7 v14 i2 i6)⟩)]⟩) (by kernel_rfl))) (N1 (Cg (λk_:Nat=>(⟨[(3,(.vsl 10 k_)),(4,(Z6 i2)),(11,(SL v14)),(12,(HB v14.length)),(13,(Z6 i2)),(18,(AV.list 1 As 0 (v14.getD i2.toNat []) .none)),(19,(.int .i64 ((v14.getD i2.toNat []).length:Int))),(20,(Z6 i6))],(gZ k_ (mI l7 v14 i2 i6)),[(70010,⟨1,3,Nh (mI l7 v14 i2 i6)⟩)]⟩:St)) (show l7.length=(mI l7 v14 i2 i6).length from(H8 ..).symm)))) (Am q YH Pj (tN h))))))) λh=>tS h (gO (D1 (Db SD Pj q))))) λx14 h=>gA (Am q SD Pj (tN h)))) λh=>tS h (gO (D1 (Db [3] Pj q))))) λx16 h=>gA (Am q [2] Pj (Sb (⟨[(2,(.vsl 10 x16.length))],(gZ x16.length x16),[(70010,⟨1,3,Nh x16⟩)]⟩:St) (tS h (gK (e:=.ret) (Kp [(10,20000)] (Le.trans (Lv (nm:=10) (sz:=1) (n:=x16.length) (e:=22) (f:=(M6 1 As (0:Int) x16 (Tag.fam 70010))) (g:=(λi=>Ie (x16.getD i []))) rfl ⟨rfl,trivial⟩ (λ_ _=>rfl) (by rw[hΓ];rfl)) (Db (st':=⟨[(2,(AV.list 1 Ie [] x16 (.own 10)))],[(10,.tok 1 22 x16.length)],[]⟩) [2] [10] q)))))))))))
def E5(a3:Aa):lq->Option (LR (Int×Ok) (Ok ⊕ (C6×Int))):=
 λ((i3,l4):lq)=>(bif (decide (i3<(a3.Blocks.length:Int))) then(Cd (Bv i3 a3.Blocks.length) ((J2 (⟨(a3.Blocks.getD i3.toNat default).End.Kind,(a3.Blocks.getD i3.toNat default).End.Arg,(a3.Blocks.getD i3.toNat default).End.To⟩:Gh) (a3.Blocks.length:Int)).bind λx7=>(bif (!x7) then(some (.done (.inr ((⟨([]:Ok),([]:Ok)⟩:C6),(5:Int))))) else((Yj ((a3.Blocks.getD i3.toNat default).End.To)).bind λx8=>(Cd (Bv i3 l4.length) (some (.next ((Ap (i3+1)),(l4.set i3.toNat x8))))))))) else(some (.done (.inl l4))))
abbrev nM:=(C6×Int)
def SR(Γ:G0)(a3:Aa)(r:nM):Exit->St->Prop:=fK Tryz.prog Γ Tryz.f83.results.toList [] (.tuple [(.agg (Qt r.1)),(Z6 r.2)]) []
def gW:AV:=Z5
def lY:List kA:=[NS,(3,fp)]
def pO(a3:Aa)(i3:Int):=(a3.Blocks.getD i3.toNat default)
def nO:AV:=(AV.list 1 Ie [] ([]:Ok) .none)
def nu(a3:Aa):=(List.replicate (a3.Blocks.length:Int).toNat ([]:Aq))
def jV:List AV:=[(AV.list 1 Ie [] ([]:Ok) .exact),(AV.list 1 Ie [] ([]:Ok) .exact)]
def Ri(a3:Aa):Option nM:=
 ((H2 (a3.Blocks.length:Int)).bind λx1=>(bif (!x1) then(some ((⟨([]:Ok),([]:Ok)⟩:C6),(5:Int))) else(Cd (0<=(a3.Blocks.length:Int)/\(a3.Blocks.length:Int)<=(a3.Blocks.length:Int)/\(a3.Blocks.length:Int)<=(room:Int)) ((Ah (E5 a3) ((0:Int),(List.replicate (a3.Blocks.length:Int).toNat ([]:Aq)))).bind (λx10=>(match x10 with|(.inl l5)=>((Iu l5).bind λx12=>(some ((⟨l5,x12⟩:C6),(0:Int))))|(.inr r13)=>(some r13)))))))
variable{v16:nM}
theorem QI(h:Ri v0=some v16):sP 83 [(SM v0)] [] (.tuple [(.agg (Qt v16.1)),(Z6 v16.2)]) []:=
 sG Tryz.func83 λΓ q=>have hΓ:=q.own;tW q Wc Wc [1,2,4] Wc (tB h λx1 y1 h=>tT q [1,2,4,13] Wc [(Z2 x1)] (c1 (Qc y1)) (gC h (λh=>gR q Ul [2] [(14,(.agg jV))] [] (c1 (show(AVle (.agg [gW,gW]) (.agg jV)) from(AVle.agg (.cons D6 (.cons D6 .nil))))) (Sb (⟨lY,[(NU jV)],[]⟩:St) (tS h (gK (e:=.ret) (Kp [] (show Le Γ _ (⟨lY,[(2,.row 82 [nO,nO])],[]⟩:St) from Le.trans (Db (st':=⟨lY,[(NU jV)],[]⟩) Ul [2] q) (Jl (.cons (AVle.refl _) (.cons (AVle.refl _) .nil)) (.row (.cons AVle.untag (.cons AVle.untag .nil)) .nil)))))))) λh=>tV q [1,2,4,5] [1,2,16] h λh=>by exact Mv (Le.trans (Xq 16 (show ∀ k_,k_<((v0.Blocks.length:Int).toNat)->AVleL ((λi_=>AV.eraseAll (λn_=>Cj n_ [1,2,16]) ((λ_=>[gW]) i_)) k_) ((λi=>Ie ((nu v0).getD i [])) k_) from(λk hk=>Xt (e:=Ie) (d:=[]) (.cons (λ_ _ _ _ _ hh=>AVle.untag _ _ _ _ _ (D6 _ _ _ _ _ hh)) .nil) _ k (Yc hk)))) (Th (λ(k_:Nat) u=>(Fo u [(5,(.vsl 16 k_))] [(16,.arr 1 22 k_ (λi=>Ie ((nu v0).getD i [])))])) (show(v0.Blocks.length:Int).toNat=(nu v0).length from(Yk ..).symm))) (Am q YL Wb (tL q h YL Wb (λu (i3,l4)=>(Fo u [(5,(.vsl 16 l4.length)),(20,(Z6 i3))] [(16,.arr 1 22 l4.length (λi=>Ie (l4.getD i [])))])) (λu x_=>match x_ with|(.inl l5)=>aG Γ (.exit 0) (W5 [2,5] Wb u [(5,(.vsl 16 l5.length))] [(16,.arr 1 22 l5.length (λi=>Ie (l5.getD i [])))])|(.inr r_)=>aR (SR Γ v0 r_)) (λ⟨i3,l4⟩ y h=>Am q [2,4,5,18,19,20,21] Wb (gC h (λh=>tV q [2,4,5,6,7,18,19,20] [2,7,16] h λh=>tB h λx7 y7 h=>tT q [2,4,5,6,7,18,19,20,29] [2,7,16] [(Z2 x7)] (c1 (Zo y7)) (gC h (λh=>gR q Ul [2] [(30,(.agg jV))] [] (c1 (show(AVle (.agg [gW,gW]) (.agg jV)) from(AVle.agg (.cons D6 (.cons D6 .nil))))) (Sb (⟨lY,[(NU jV)],[]⟩:St) (tS h (gO (Sr (Kp [] (show Le Γ _ (⟨lY,[(2,.row 82 [nO,nO])],[]⟩:St) from Le.trans (Db (st':=⟨lY,[(NU jV)],[]⟩) Ul [2] q) (Jl (.cons (AVle.refl _) (.cons (AVle.refl _) .nil)) (.row (.cons AVle.untag (.cons AVle.untag .nil)) .nil))))))))) λh=>tB h λx8 y8 h=>tC h λc9_ h=>tT q YL Wb [⟨[],[],(Z7 x8),[],[],[]⟩] (c3 (VJ ((pO v0 i3).End.To) x8 y8) c9_ (Eq.refl l4.length)) (Mv (Le.trans (Xq 16 (show ∀ k_,k_<l4.length->AVleL ((λi_=>AV.eraseAll (λn_=>Cj n_ Wb) ((Ll (λi=>Ie (l4.getD i [])) i3.toNat 0 [(Z7 x8)]) i_)) k_) ((λi=>Ie ((l4.set i3.toNat x8).getD i [])) k_) from(Cp (H8 ..).symm (λk_ hk_=>(Cg (AV.eraseAll (λn_=>Cj n_ Wb)) ((Mm (λ_ _=>rfl) (O1 c9_) rfl) k_ hk_)).trans rfl)))) (Th (λ(k_:Nat) u=>(Fo u [(5,(.vsl 16 k_))] [(16,.arr 1 22 k_ (λi=>Ie ((l4.set i3.toNat x8).getD i [])))])) (show l4.length=(l4.set i3.toNat x8).length from(H8 ..).symm))) (Am q YL Wb (tN h))))) λh=>tS h (gO (D1 (Db [2,5] Wb q))))) λx10 h=>(match x10,h with | .inl l5,h=>gA (Sb (⟨[NS,(5,(.vsl 16 l5.length))],[(2,.row 82 [gW,gW]),(16,.arr 1 22 l5.length (λi=>Ie (l5.getD i [])))],[]⟩:St) (Mv (Le.trans (Lv (nm:=16) (sz:=1) (n:=l5.length) (e:=22) (f:=(λi=>Ie (l5.getD i []))) (g:=(λi=>Ie (l5.getD i []))) rfl ⟨rfl,trivial⟩ (λ_ _=>rfl) (by rw[hΓ];rfl)) (N1 (st':=⟨[NS,(5,(AV.list 1 Ie [] l5 (.own 16)))],[(2,.row 82 [gW,gW]),(16,.tok 1 22 l5.length)],[]⟩) (by kernel_rfl))) (tB h λx12 y12 h=>tT q Ul [2,16,41] [⟨[],[(20000,41)],(AV.list 1 Ie [] x12 (.own 20000)),[(20000,.tok 1 22 x12.length)],[],[]⟩] (c1 (Sf y12)) (tS h (Ck []))))) | .inr r13,h=>Wj (λst' hk=>tS h (gK hk)))))))
abbrev pK:=(LR (Int×Int) (Unit ⊕ Bool))
def Ct(aC:Ok)(i2:Int):Gy->Option pK:=
 λ((i4,i5):Gy)=>(bif (decide (i5<((aC.getD i2.toNat []).length:Int))) then(Cd (Bv i5 (aC.getD i2.toNat []).length) ((bif ((decide (((aC.getD i2.toNat []).getD i5.toNat 0)<=i4))==false) then Gf ((aC.getD i2.toNat []).getD i5.toNat 0) (aC.length:Int) else some false).bind λx7=>(bif (bif (decide (((aC.getD i2.toNat []).getD i5.toNat 0)<=i4)) then true else(!x7)) then(some (.done (.inr false))) else(some (.next (((aC.getD i2.toNat []).getD i5.toNat 0),(Ap (i5+1)))))))) else(some (.done (.inl ()))))
def Cu(aC:Ok):Int->Option (LR Int (Unit ⊕ Bool)):=
 λ(i2:Int)=>(bif (decide (i2<(aC.length:Int))) then(Cd (Bv i2 aC.length) ((Ah (Ct aC i2) ((-1:Int),(0:Int))).bind (λx8=>(match x8 with|(.inl _)=>(some (.next (Ap (i2+1))))|(.inr r10)=>(some (.done (.inr r10))))))) else(some (.done (.inl ()))))
def R5(Γ:G0)(aC:Ok)(r:Bool):Exit->St->Prop:=fK Tryz.prog Γ Tryz.f136.results.toList [] (.bool r) []
def nP(aC:Ok)(i2:Int)(i5:Int)(i4:Int):=(decide (((aC.getD i2.toNat []).getD i5.toNat 0)<=i4))
def J3(aC:Ok):Option Bool:=
 ((H2 (aC.length:Int)).bind λx1=>(bif (!x1) then(some false) else((Ah (Cu aC) (0:Int)).bind (λx11=>(match x11 with|(.inl _)=>(some true)|(.inr r13)=>(some r13))))))
theorem Zp(h:J3 v14=some v5):sP 136 [(SL v14)] [] (.bool v5) []:=
 sG Tryz.func136 λΓ q=>Am q [0] [] (tB h λx1 y1 h=>tT q [0,11] [] [(Z2 x1)] (c1 (Qc y1)) (gC h (λh=>Am q [2] [] (tS h (Ck []))) λh=>Am q SE [] (tL q h SE [] (λu i2=>(Fo u [(14,(Z6 i2))] [])) (λu x_=>match x_ with|(.inl _)=>aG Γ (.exit 0) (⟨[],[],[]⟩:St)|(.inr r_)=>aR (R5 Γ v14 r_)) (λi2 y h=>Am q [0,12,13,14,15] [] (gC h (λh=>tV q [0,4,12,13,14] [] h λh=>tW q [0,4,5,12,13,14] [] YI [] (tL q h YI [] (λu (i4,i5)=>(Fo u [(5,(Z6 i4)),(20,(Z6 i5))] [])) (λu x_=>match x_ with|(.inl _)=>aG Γ (.exit 2) (W5 SE [] u [] [])|(.inr r_)=>aR (R5 Γ v14 r_)) (λ⟨i4,i5⟩ y h=>Am q [0,5,12,13,14,18,19,20,21] [] (gC h (λh=>tV q [0,5,7,12,13,14,18,19,20] [] h λh=>tB h λx7 y7 h=>tT q [0,7,12,13,14,18,19,20,33] [] [(Z2 x7)] (XB ((nP v14 i2 i5 i4)==false) (c3 (λ(hg:((nP v14 i2 i5 i4)==false)=true)=>(L5 (Bz hg y7))) (gI ((nP v14 i2 i5 i4)==false)) (S3 (nP v14 i2 i5 i4)))) (gC h (λh=>Am q [2] [] (tS h (gO (Sr (Kp [] (Le.refl _ _)))))) λh=>tW q YI [] YI [] (tN h))) λh=>tS h (gO (D1 (Db SE [] q))))) λx8 h=>(match x8,h with | .inl _,h=>gA (Am q SE [] (tN h)) | .inr r10,h=>Wj (λst' hk=>tS h (gO (Sr hk)))))) λh=>tS h (gO (D1 (Db [] [] q))))) λx11 h=>(match x11,h with | .inl _,h=>gA (Am q [2] [] (tS h (Ck []))) | .inr r13,h=>Wj (λst' hk=>tS h (gK hk))))))
def Bh(aT:Aq)(aU:Aq):Int->Option (LR Int (Unit ⊕ Bool)):=
 λ(i1:Int)=>(bif (decide (i1<(aT.length:Int))) then(Cd (Bv i1 aT.length) (Cd (Bv i1 aU.length) (bif ((aT.getD i1.toNat 0)!=(aU.getD i1.toNat 0)) then(some (.done (.inr false))) else(some (.next (Ap (i1+1))))))) else(some (.done (.inl ()))))
def Qo(Γ:G0)(aT:Aq)(aU:Aq)(r:Bool):Exit->St->Prop:=fK Tryz.prog Γ Tryz.f115.results.toList [] (.bool r) []
def Eh(aT:Aq)(aU:Aq):Option Bool:=
 (bif ((aT.length:Int)!=(aU.length:Int)) then(some false) else((Ah (Bh aT aU) (0:Int)).bind (λx4=>(match x4 with|(.inl _)=>(some true)|(.inr r6)=>(some r6)))))
variable{v17:Aq}
theorem Kk(h:Eh v4 v17=some v5):sP 115 [(Z7 v4),(Z7 v17)] [] (.bool v5) []:=
 sG Tryz.func115 λΓ q=>tW q G7 [] BS [] (gC h (λh=>Am q [4] [] (tS h (Ck []))) λh=>Am q WC [] (tL q h WC [] (λu i1=>(Fo u [(13,(Z6 i1))] [])) (λu x_=>match x_ with|(.inl _)=>aG Γ (.exit 0) (⟨[],[],[]⟩:St)|(.inr r_)=>aR (Qo Γ v4 v17 r_)) (λi1 y h=>Am q [0,1,12,13,14] [] (gC h (λh=>Am q [0,1,5,12,13] [] (tC h λc2_ h=>tC h λc3_ h=>tU q [0,1,12,13,24] [] (c2 c2_ c3_) (gC h (λh=>Am q [4] [] (tS h (gO (Sr (Kp [] (Le.refl _ _)))))) λh=>Am q WC [] (tN h)))) λh=>tS h (gO (D1 (Db [] [] q))))) λx4 h=>(match x4,h with | .inl _,h=>gA (Am q [4] [] (tS h (Ck []))) | .inr r6,h=>Wj (λst' hk=>tS h (gK hk)))))
def Aw(aT:Ok)(aU:Ok):Int->Option (LR Int (Unit ⊕ Bool)):=
 λ(i1:Int)=>(bif (decide (i1<(aT.length:Int))) then(Cd (Bv i1 aT.length) (Cd (Bv i1 aU.length) ((Eh (aT.getD i1.toNat []) (aU.getD i1.toNat [])).bind λx4=>(bif (!x4) then(some (.done (.inr false))) else(some (.next (Ap (i1+1)))))))) else(some (.done (.inl ()))))
def J4(Γ:G0)(aT:Ok)(aU:Ok)(r:Bool):Exit->St->Prop:=fK Tryz.prog Γ Tryz.f137.results.toList [] (.bool r) []
def Cv(aT:Ok)(aU:Ok):Option Bool:=
 (bif ((aT.length:Int)!=(aU.length:Int)) then(some false) else((Ah (Aw aT aU) (0:Int)).bind (λx5=>(match x5 with|(.inl _)=>(some true)|(.inr r7)=>(some r7)))))
theorem Jv(h:Cv v14 v15=some v5):sP 137 [(SL v14),(SL v15),(.clo 115 [] [])] [] (.bool v5) []:=
 sG Tryz.func137 λΓ q=>tW q KW [] [0,1,2,14] [] (gC h (λh=>Am q [6] [] (tS h (Ck []))) λh=>Am q VR [] (tL q h VR [] (λu i1=>(Fo u [(17,(Z6 i1))] [])) (λu x_=>match x_ with|(.inl _)=>aG Γ (.exit 0) (⟨[],[],[]⟩:St)|(.inr r_)=>aR (J4 Γ v14 v15 r_)) (λi1 y h=>Am q [1,2,15,16,17,18] [] (gC h (λh=>tV q [1,2,7,8,15,16,17] [] h λh=>tV q [1,2,8,9,15,16,17] [] h λh=>tB h λx4 y4 h=>tT q [1,2,15,16,17,30] [] [(Z2 x4)] (c1 (Kk y4)) (gC h (λh=>Am q [6] [] (tS h (gO (Sr (Kp [] (Le.refl _ _)))))) λh=>Am q VR [] (tN h))) λh=>tS h (gO (D1 (Db [] [] q))))) λx5 h=>(match x5,h with | .inl _,h=>gA (Am q [6] [] (tS h (Ck []))) | .inr r7,h=>Wj (λst' hk=>tS h (gK hk)))))
def O7(aE:C6):Option Bool:=
 ((J3 aE.Succ).bind λx1=>((bif (x1==true) then Iu aE.Succ else some []).bind λx2=>((bif (x1==true) then Cv aE.Pred x2 else some false).bind λx3=>(some (bif x1 then x3 else false)))))
variable{v18:C6}
theorem MS(h:O7 v18=some v5):sP 110 [(.agg (Qt v18))] [] (.bool v5) []:=
 sG Tryz.func110 λΓ q=>Am q [1] [1] (tB h λx1 y1 h=>tB h λx2 y2 h=>tB h λx3 y3 h=>tT q [2] [] [(Z2 x1),⟨[],[],(SL x2),[],[],[]⟩,(Z2 x3)] (ci (Zp y1) (XB (x1==true) (ci (show((x1==true)=true->(sP 109 [(SL v18.Succ)] [] (SL x2) [])) from(λhg=>(Spec.drop (Sf (Bz hg y2))))) (Xn (x1==true) (c2 (λ(hg:(x1==true)=true)=>(Jv (Bz hg y3))) (Nt x1)))))) (tS h (Ck [])))
abbrev oe:=(Int×Int×Aq)
def Bb :oe->Option (LR (Int×Int×Aq) Aq):=
 λ((i1,i2,l3):oe)=>(bif (decide (i1<i2)) then(Cd (Bv i2 l3.length) (Cd (Bv i1 l3.length) (Cd (Bv i1 l3.length) (Cd (Bv i2 l3.length) (some (.next ((Ap (i1+1)),(Ap (i2-1)),((l3.set i1.toNat (l3.getD i2.toNat 0)).set i2.toNat (l3.getD i1.toNat 0))))))))) else(some (.done l3)))
def nv(l3:Aq)(i1:Int)(i2:Int):=((l3.set i1.toNat (l3.getD i2.toNat 0)).set i2.toNat (l3.getD i1.toNat 0))
def Dz(aZ:Aq):Option Aq:=
 ((Ah (S:=oe) (X:=Aq) Bb ((0:Int),(Ap ((aZ.length:Int)-1)),aZ)).bind (λx9=>(some x9)))
theorem Jm(h:Dz v4=some v17):sP 112 [(.vsl 34000 v4.length)] [(Z4 34000 v4)] (.tuple []) [(Z4 34000 v17)]:=
 sG Tryz.func112 λΓ q=>Am q [0,2,3] [34000] (tL q h [0,2,3] [34000] (λu (i1,i2,l3)=>(Fo u [(0,(.vsl 34000 l3.length)),(2,(Z6 i1)),(3,(Z6 i2))] [(Z4 34000 l3)])) (λu l4=>aG Γ (.exit 0) (⟨[],[(Z4 34000 l4)],[]⟩:St)) (λ⟨i1,i2,l3⟩ y h=>Am q [0,2,3,9] [34000] (gC h (λh=>tC h λc5_ h=>tC h λc6_ h=>tC h λc7_ h=>tC h λc8_ h=>tU q [0,2,3] [34000] (c8 c5_ (Eq.refl l3.length) c6_ (Eq.refl l3.length) c7_ (Eq.refl l3.length) c8_ (Eq.refl l3.length)) (Mv (Le.trans (Xq 34000 (show ∀ k_,k_<l3.length->AVleL ((λi_=>AV.eraseAll (λn_=>Cj n_ [34000]) ((Ll (Ll (λi=>As (l3.getD i 0)) i1.toNat 0 [(.int .i64 (l3.getD i2.toNat 0))]) i2.toNat 0 [(.int .i64 (l3.getD i1.toNat 0))]) i_)) k_) ((λi=>As ((nv l3 i1 i2).getD i 0)) k_) from(Cp (Eq.trans (H8 ..).symm (H8 ..).symm) (λk_ hk_=>(Cg (AV.eraseAll (λn_=>Cj n_ [34000])) ((Mm (Mm (λ_ _=>rfl) (O1 c7_) rfl) (iK c8_) rfl) k_ hk_)).trans rfl)))) (Th (λ(k_:Nat) u=>(Fo u [(0,(.vsl 34000 k_))] [(34000,.arr 1 3 k_ (λi=>As ((nv l3 i1 i2).getD i 0)))])) (show l3.length=(nv l3 i1 i2).length from(Eq.trans (H8 ..).symm (H8 ..).symm)))) (Am q [0,2,3] [34000] (tN h)))) λh=>tS h (gO (D1 (Db [] [34000] q))))) λx9 h=>jm (λst' hl10=>tS h (gK (e:=.normal) (Kp [(34000,34000)] hl10))))
abbrev pL:=(LR Aq (Aq ⊕ (List Bool×Aq×Aq)))
def Y7(aE:C6)(a2:Int):Aq->Option pL:=
 λ(l9:Aq)=>(Cd (Bv ([a2].getD (Ap (([a2].length:Int)-1)).toNat (0:Int)) 64) (Cd (Bv ([a2].getD (Ap (([a2].length:Int)-1)).toNat (0:Int)) aE.Succ.length) (bif (decide ((l9.getD ([a2].getD (Ap (([a2].length:Int)-1)).toNat (0:Int)).toNat (0:Int))<((aE.Succ.getD ([a2].getD (Ap (([a2].length:Int)-1)).toNat (0:Int)).toNat []).length:Int))) then(Cd (Bv ([a2].getD (Ap (([a2].length:Int)-1)).toNat (0:Int)) aE.Succ.length) (Cd (Bv ([a2].getD (Ap (([a2].length:Int)-1)).toNat (0:Int)) 64) (Cd (Bv (l9.getD ([a2].getD (Ap (([a2].length:Int)-1)).toNat (0:Int)).toNat (0:Int)) (aE.Succ.getD ([a2].getD (Ap (([a2].length:Int)-1)).toNat (0:Int)).toNat []).length) (Cd (Bv ([a2].getD (Ap (([a2].length:Int)-1)).toNat (0:Int)) 64) (Cd (Bv ([a2].getD (Ap (([a2].length:Int)-1)).toNat (0:Int)) 64) (Cd (Bv ((aE.Succ.getD ([a2].getD (Ap (([a2].length:Int)-1)).toNat (0:Int)).toNat []).getD (l9.getD ([a2].getD (Ap (([a2].length:Int)-1)).toNat (0:Int)).toNat (0:Int)).toNat (0:Int)) 64) (bif (!((Kc 64 false (List.replicate 64 false) a2.toNat true).getD ((aE.Succ.getD ([a2].getD (Ap (([a2].length:Int)-1)).toNat (0:Int)).toNat []).getD (l9.getD ([a2].getD (Ap (([a2].length:Int)-1)).toNat (0:Int)).toNat (0:Int)).toNat (0:Int)).toNat false)) then(Cd (Bv ((aE.Succ.getD ([a2].getD (Ap (([a2].length:Int)-1)).toNat (0:Int)).toNat []).getD (l9.getD ([a2].getD (Ap (([a2].length:Int)-1)).toNat (0:Int)).toNat (0:Int)).toNat (0:Int)) 64) (Cd ([a2].length+([((aE.Succ.getD ([a2].getD (Ap (([a2].length:Int)-1)).toNat (0:Int)).toNat []).getD (l9.getD ([a2].getD (Ap (([a2].length:Int)-1)).toNat (0:Int)).toNat (0:Int)).toNat (0:Int))]:Aq).length<=room) (some (.done (.inr ((Kc 64 false (Kc 64 false (List.replicate 64 false) a2.toNat true) ((aE.Succ.getD ([a2].getD (Ap (([a2].length:Int)-1)).toNat (0:Int)).toNat []).getD (l9.getD ([a2].getD (Ap (([a2].length:Int)-1)).toNat (0:Int)).toNat (0:Int)).toNat (0:Int)).toNat true),(Kc 64 (0:Int) l9 ([a2].getD (Ap (([a2].length:Int)-1)).toNat (0:Int)).toNat (Ap ((l9.getD ([a2].getD (Ap (([a2].length:Int)-1)).toNat (0:Int)).toNat (0:Int))+1))),([a2]++([((aE.Succ.getD ([a2].getD (Ap (([a2].length:Int)-1)).toNat (0:Int)).toNat []).getD (l9.getD ([a2].getD (Ap (([a2].length:Int)-1)).toNat (0:Int)).toNat (0:Int)).toNat (0:Int))]:Aq)))))))) else(some (.next (Kc 64 (0:Int) l9 ([a2].getD (Ap (([a2].length:Int)-1)).toNat (0:Int)).toNat (Ap ((l9.getD ([a2].getD (Ap (([a2].length:Int)-1)).toNat (0:Int)).toNat (0:Int))+1)))))))))))) else(some (.done (.inl l9))))))
def F3(aE:C6)(l1:List Bool)(l3:Aq):Aq->Option pL:=
 λ(l32:Aq)=>(Cd (Bv (l3.getD (Ap ((l3.length:Int)-1)).toNat (0:Int)) 64) (Cd (Bv (l3.getD (Ap ((l3.length:Int)-1)).toNat (0:Int)) aE.Succ.length) (bif (decide ((l32.getD (l3.getD (Ap ((l3.length:Int)-1)).toNat (0:Int)).toNat (0:Int))<((aE.Succ.getD (l3.getD (Ap ((l3.length:Int)-1)).toNat (0:Int)).toNat []).length:Int))) then(Cd (Bv (l3.getD (Ap ((l3.length:Int)-1)).toNat (0:Int)) aE.Succ.length) (Cd (Bv (l3.getD (Ap ((l3.length:Int)-1)).toNat (0:Int)) 64) (Cd (Bv (l32.getD (l3.getD (Ap ((l3.length:Int)-1)).toNat (0:Int)).toNat (0:Int)) (aE.Succ.getD (l3.getD (Ap ((l3.length:Int)-1)).toNat (0:Int)).toNat []).length) (Cd (Bv (l3.getD (Ap ((l3.length:Int)-1)).toNat (0:Int)) 64) (Cd (Bv (l3.getD (Ap ((l3.length:Int)-1)).toNat (0:Int)) 64) (Cd (Bv ((aE.Succ.getD (l3.getD (Ap ((l3.length:Int)-1)).toNat (0:Int)).toNat []).getD (l32.getD (l3.getD (Ap ((l3.length:Int)-1)).toNat (0:Int)).toNat (0:Int)).toNat (0:Int)) 64) (bif (!(l1.getD ((aE.Succ.getD (l3.getD (Ap ((l3.length:Int)-1)).toNat (0:Int)).toNat []).getD (l32.getD (l3.getD (Ap ((l3.length:Int)-1)).toNat (0:Int)).toNat (0:Int)).toNat (0:Int)).toNat false)) then(Cd (Bv ((aE.Succ.getD (l3.getD (Ap ((l3.length:Int)-1)).toNat (0:Int)).toNat []).getD (l32.getD (l3.getD (Ap ((l3.length:Int)-1)).toNat (0:Int)).toNat (0:Int)).toNat (0:Int)) 64) (Cd (l3.length+([((aE.Succ.getD (l3.getD (Ap ((l3.length:Int)-1)).toNat (0:Int)).toNat []).getD (l32.getD (l3.getD (Ap ((l3.length:Int)-1)).toNat (0:Int)).toNat (0:Int)).toNat (0:Int))]:Aq).length<=room) (some (.done (.inr ((Kc 64 false l1 ((aE.Succ.getD (l3.getD (Ap ((l3.length:Int)-1)).toNat (0:Int)).toNat []).getD (l32.getD (l3.getD (Ap ((l3.length:Int)-1)).toNat (0:Int)).toNat (0:Int)).toNat (0:Int)).toNat true),(Kc 64 (0:Int) l32 (l3.getD (Ap ((l3.length:Int)-1)).toNat (0:Int)).toNat (Ap ((l32.getD (l3.getD (Ap ((l3.length:Int)-1)).toNat (0:Int)).toNat (0:Int))+1))),(l3++([((aE.Succ.getD (l3.getD (Ap ((l3.length:Int)-1)).toNat (0:Int)).toNat []).getD (l32.getD (l3.getD (Ap ((l3.length:Int)-1)).toNat (0:Int)).toNat (0:Int)).toNat (0:Int))]:Aq)))))))) else(some (.next (Kc 64 (0:Int) l32 (l3.getD (Ap ((l3.length:Int)-1)).toNat (0:Int)).toNat (Ap ((l32.getD (l3.getD (Ap ((l3.length:Int)-1)).toNat (0:Int)).toNat (0:Int))+1)))))))))))) else(some (.done (.inl l32))))))
abbrev fF:=(List Bool×Aq×Aq×Aq)
def C0(aE:C6):fF->Option (LR (List Bool×Aq×Aq×Aq) Aq):=
 λ(s_:fF)=>match s_ with|(l1,l2,l3,l4)=>(Cd (Bv (Ap ((l3.length:Int)-1)) l3.length) ((Ah (F3 aE l1 l3) l2).bind (λx47=>(match x47 with|(.inl l33)=>(Cd (l4.length+([(l3.getD (Ap ((l3.length:Int)-1)).toNat (0:Int))]:Aq).length<=room) (Cd (0<=(Ap ((l3.length:Int)-1))/\0+(Ap ((l3.length:Int)-1)).toNat<=l3.length) (bif (decide ((0:Int)<((l3.take (Ap ((l3.length:Int)-1)).toNat).length:Int))) then(some (.next (l1,l33,(l3.take (Ap ((l3.length:Int)-1)).toNat),(l4++([(l3.getD (Ap ((l3.length:Int)-1)).toNat (0:Int))]:Aq))))) else((Dz (l4++([(l3.getD (Ap ((l3.length:Int)-1)).toNat (0:Int))]:Aq))).bind λx51=>(Cd ((l4++([(l3.getD (Ap ((l3.length:Int)-1)).toNat (0:Int))]:Aq)).length=x51.length) (some (.done x51)))))))|(.inr (l34,l35,l36))=>(some (.next (l34,l35,l36,l4)))))))
def GW(Γ:G0)(aE:C6)(a2:Int)(r:Aq):Exit->St->Prop:=fK Tryz.prog Γ Tryz.f84.results.toList [] (LJ r 20000) [(20000,.tok 1 3 r.length)]
def ld(l1:List Bool):=(λi=>eB (l1.getD i false))
def ba(l3:Aq):=(l3.getD (Ap ((l3.length:Int)-1)).toNat (0:Int))
def bt(l4:Aq)(l3:Aq):=(l4++([(ba l3)]:Aq))
def mN(l10:Aq):=(λi=>As (l10.getD i 0))
def mO(l33:Aq):=(λi=>As (l33.getD i 0))
def SI:=(λn_=>Cj n_ [2,5,6,25,36007])
def kM(a2:Int):=(λi=>As ([a2].getD i 0))
def WI(a2:Int):=([a2].getD (Ap (([a2].length:Int)-1)).toNat (0:Int))
def fm(a2:Int):=(([]:Aq)++([(WI a2)]:Aq))
def lg(a2:Int):=(λi=>As ((fm a2).getD i 0))
def lf(l4:Aq)(l3:Aq):=(λi=>As ((bt l4 l3).getD i 0))
def lc:AV:=OC
def nQ:=(λi=>As (([]:Aq).getD i 0))
def kL(l3:Aq):=(0+(Ap ((l3.length:Int)-1)).toNat)
def lZ(a2:Int):=(0+(Ap (([a2].length:Int)-1)).toNat)
def ny(a2:Int):=([a2].take (Ap (([a2].length:Int)-1)).toNat)
def nw:=(λi=>As ((List.replicate 64 (0:Int)).getD i 0))
def bp(aE:C6):List AV:=[(SL aE.Succ),(SL aE.Pred)]
def jW(a2:Int):=(λi=>eB ((Kc 64 false (List.replicate 64 false) a2.toNat true).getD i false))
def fk(aE:C6)(l3:Aq)(l32:Aq):=((aE.Succ.getD (ba l3).toNat []).getD (l32.getD (ba l3).toNat (0:Int)).toNat (0:Int))
def fj(aE:C6)(a2:Int)(l9:Aq):=((aE.Succ.getD (WI a2).toNat []).getD (l9.getD (WI a2).toNat (0:Int)).toNat (0:Int))
def om:=(Z36:St)
def oq(a2:Int):List kA:=[NS,cA,b8,(7,(.vsl 36007 (fm a2).length)),(8,(.vsl 25 (lZ a2)))]
def ol(a2:Int)(aE:C6):=(⟨[NS,cA,b8,(7,(.vsl 36007 ([]:Aq).length)),(8,(.vsl 25 [a2].length)),(9,(Z6 (WI a2)))],[(NU (bp aE)),(cB (jW a2)),(bc nw),(25,.arr 1 3 ([a2].length) (kM a2)),(36007,.arr 1 3 (([]:Aq).length) nQ)],[]⟩:St)
def G3(aE:C6)(a2:Int):Option Aq:=
 ((Px (S:=fF) (X:=Aq) ((O7 aE).bind λx5=>((bif ((!x5)==false) then Gf a2 (aE.Succ.length:Int) else some false).bind λx6=>(bif (bif (!x5) then true else(!x6)) then(some (.done ([]:Aq))) else(Cd (Bv a2 64) (Cd (Bv (Ap (([a2].length:Int)-1)) [a2].length) ((Ah (Y7 aE a2) (List.replicate 64 (0:Int))).bind (λx24=>(match x24 with|(.inl l10)=>(Cd (([]:Aq).length+([([a2].getD (Ap (([a2].length:Int)-1)).toNat (0:Int))]:Aq).length<=room) (Cd (0<=(Ap (([a2].length:Int)-1))/\0+(Ap (([a2].length:Int)-1)).toNat<=[a2].length) (bif (decide ((0:Int)<(([a2].take (Ap (([a2].length:Int)-1)).toNat).length:Int))) then(some (.next ((Kc 64 false (List.replicate 64 false) a2.toNat true),l10,([a2].take (Ap (([a2].length:Int)-1)).toNat),(([]:Aq)++([([a2].getD (Ap (([a2].length:Int)-1)).toNat (0:Int))]:Aq))))) else((Dz (([]:Aq)++([([a2].getD (Ap (([a2].length:Int)-1)).toNat (0:Int))]:Aq))).bind λx28=>(Cd ((([]:Aq)++([([a2].getD (Ap (([a2].length:Int)-1)).toNat (0:Int))]:Aq)).length=x28.length) (some (.done x28)))))))|(.inr (l11,l12,l13))=>(some (.next (l11,l12,l13,([]:Aq)))))))))))) (C0 aE)).bind (λx54=>(some x54)))
theorem Tt(h:G3 v18 v1=some v4):sP 84 [(.agg (Qt v18)),(Z6 v1)] [] (LJ v4 20000) [(20000,.tok 1 3 v4.length)]:=
 sG Tryz.func84 λΓ q=>have hΓ:=q.own;gR q Wc [2] [(4,lc)] [] (c1 (Gj 1 As (0:Int))) (tB h λx54 y54 h=>gS y54 (λ(s_:fF)=>match s_ with|(l1,l2,l3,l4)=>0) (λ(s_:fF)=>match s_ with|(l1,l2,l3,l4)=>(⟨[NS,cA,b8,(7,(.vsl 36007 l4.length)),(8,(.vsl 25 l3.length))],[(NU (bp v18)),(cB (ld l1)),(mW l2),(Z4 25 l3),(Z4 36007 l4)],[]⟩:St)) (λr_=>aR (GW Γ v18 v1 r_)) (λy h=>tB h λx5 y5 h=>tB h λx6 y6 h=>tT q [1,2,21] [2] [(Z2 x5),(Z2 x6)] (ci (MS y5) (iG ((!x5)==false) (c3 (λ(hg:((!x5)==false)=true)=>(L5 (Bz hg y6))) (gI ((!x5)==false)) (S3 (!x5))))) (gC h (λh=>gR q [4] [] [(4,lc)] [] (c1 (Gj 1 As (0:Int))) (Sb (⟨[(4,lc)],[],[]⟩:St) (tS h (jn (Sr (Kp VZ (show Le Γ _ om from Le.trans (Db (st':=⟨[(4,lc)],[],[]⟩) [4] [] q) (Le.trans (EK (t:=4) (nm:=6004) (sz':=1) nQ 3 rfl rfl (.inl ⟨rfl,rfl⟩) (λh_=>absurd h_ (by decide))) (Db (st':=om) [4] [6004] q))))))))) λh=>gR q GV [2,5] [cA] [] trivial (Mv (Xq 5 (show ∀ k_,k_<64->AVleL ((λi_=>AV.eraseAll (λn_=>Cj n_ [2,5]) ((λi=>(((List.replicate 64 [(.bool false)]).flatten).drop (i*1)).take 1) i_)) k_) ((λi=>eB ((List.replicate 64 false).getD i false)) k_) from(IG (e:=eB) (d:=false) (z:=[(.bool false)]) rfl rfl rfl))) (gR q [1,2,5,6] Wa [b8] [] trivial (Mv (Xq 6 (show ∀ k_,k_<64->AVleL ((λi_=>AV.eraseAll (λn_=>Cj n_ Wa) ((λi=>(((List.replicate 64 [Ke]).flatten).drop (i*1)).take 1) i_)) k_) (nw k_) from(IG (e:=As) (d:=(0:Int)) (z:=[Ke]) rfl rfl rfl))) (gR q [1,2,5,6,7] Wa [(7,lc)] [] (c1 (Gj 1 As (0:Int))) (tC h λc7_ h=>tU q [1,2,5,6,7] Wa (c2 c7_ (Eq.refl 64)) (Mv (Xq 5 (show ∀ k_,k_<64->AVleL ((λi_=>AV.eraseAll (λn_=>Cj n_ Wa) ((Ll (λi=>eB ((List.replicate 64 false).getD i false)) v1.toNat 0 [(.bool true)]) i_)) k_) ((jW v1) k_) from(Cp rfl (λk_ hk_=>(Cg (AV.eraseAll (λn_=>Cj n_ Wa)) ((Qe (λ_ _=>rfl) (O0 c7_) rfl) k_ hk_)).trans rfl)))) (gR q Uj NM [(25,(.vsl 25 1))] [] trivial (Mv (Le.trans (Xq 25 (show ∀ k_,k_<1->AVleL ((λi_=>AV.eraseAll (λn_=>Cj n_ NM) ((λi_=>([(Z6 v1)].drop (i_*1)).take 1) i_)) k_) ((kM v1) k_) from(Cp rfl (iw (n:=0) lL rfl)))) (Th (λ(k_:Nat) u=>(Fo u [(8,(.vsl 25 k_))] [(25,.arr 1 3 k_ (kM v1))])) (show 1=[v1].length from rfl))) (tC h λc8_ h=>tU q V8 NM (c2 c8_ (Eq.refl ([v1].length))) (Mv (st':=(ol v1 v18)) (Le.trans (Db (st':=⟨[NS,cA,b8,(7,lc),(8,(.vsl 25 [v1].length)),(9,(Z6 (WI v1)))],[(NU (bp v18)),(cB (jW v1)),(bc nw),(25,.arr 1 3 ([v1].length) (kM v1))],[]⟩) V8 NM q) (Le.trans (k4 (t:=7) (nm:=36007) (sz':=1) nQ 3 rfl rfl) (Db (st':=(ol v1 v18)) V8 Kq q))) (tL q h V8 Kq (λu l9=>(Fo u [] [(mW l9)])) (λu x_=>match x_ with|(.inl l10)=>aG Γ (.exit 0) (Fo u [] [(bc (mN l10))])|(.inr (l11,l12,l13))=>aG Γ (.goto 0) (W5 Uj Kq u [(8,(.vsl 25 l13.length))] [(5,.arr 1 165 64 (λi=>eB (l11.getD i false))),(mW l12),(Z4 25 l13)])) (λl9 y h=>tC h λc14_ h=>tC h λc15_ h=>tU q [2,5,6,7,8,9,41] Kq (c3 c14_ (Eq.refl 64) c15_) (gC h (λh=>tC h λc16_ h=>tC h λc17_ h=>tC h λc18_ h=>tU q YK Kq (c4 c16_ c17_ (Eq.refl 64) c18_) (tC h λc19_ h=>tC h λc20_ h=>tU q YK Kq (c4 c19_ (Eq.refl 64) c20_ (Eq.refl 64)) (Mv (Xq 6 (show ∀ k_,k_<64->AVleL ((λi_=>AV.eraseAll SI ((Ll (λi=>As (l9.getD i 0)) (WI v1).toNat 0 [(.int .i64 (Ap ((l9.getD (WI v1).toNat (0:Int))+1)))]) i_)) k_) ((λi=>As ((Kc 64 (0:Int) l9 (WI v1).toNat (Ap ((l9.getD (WI v1).toNat (0:Int))+1))).getD i 0)) k_) from(Cp rfl (λk_ hk_=>(Cg (AV.eraseAll SI) ((Qe (λ_ _=>rfl) (O0 c20_) rfl) k_ hk_)).trans rfl)))) (tC h λc21_ h=>tU q fO Kq (c2 c21_ (Eq.refl 64)) (gC h (λh=>tC h λc22_ h=>tU q [2,5,6,7,8,10] Kq (c2 c22_ (Eq.refl 64)) (Mv (Xq 5 (show ∀ k_,k_<64->AVleL ((λi_=>AV.eraseAll SI ((Ll (jW v1) (fj v18 v1 l9).toNat 0 [(.bool true)]) i_)) k_) ((λi=>eB ((Kc 64 false (Kc 64 false (List.replicate 64 false) v1.toNat true) (fj v18 v1 l9).toNat true).getD i false)) k_) from(Cp rfl (λk_ hk_=>(Cg (AV.eraseAll SI) ((Qe (λ_ _=>rfl) (O0 c22_) rfl) k_ hk_)).trans rfl)))) (tC h λc23_ h=>gR q Uj Kq [(65,(kO (fj v18 v1 l9)))] [] (c3 (Bn 1 As (0:Int) ([(fj v18 v1 l9)]:Aq)) (Eq.refl ([v1].length)) c23_) (tS h (gO (D1 (Le.trans (Le.trans (Xq 25 (show ∀ k_,k_<([v1].length+([(fj v18 v1 l9)]:Aq).length)->AVleL ((λi_=>AV.eraseAll SI ((Jq ([v1].length) (kM v1) (λi=>As (([(fj v18 v1 l9)]:Aq).getD i 0))) i_)) k_) ((λi=>As (([v1]++([(fj v18 v1 l9)]:Aq)).getD i 0)) k_) from(Cp (Gl _ _) (λk_ hk_=>(Cg (AV.eraseAll SI) ((Xb (λ_ _=>rfl) (λ_ _=>rfl)) k_ hk_)).trans rfl)))) (Th (λ(k_:Nat) u=>(Fo u [(8,(.vsl 25 k_))] [(25,.arr 1 3 k_ (λi=>As (([v1]++([(fj v18 v1 l9)]:Aq)).getD i 0)))])) (show([v1].length+([(fj v18 v1 l9)]:Aq).length)=([v1]++([(fj v18 v1 l9)]:Aq)).length from(Gl _ _)))) Mw))))))) λh=>tS h (gN (Db V8 Kq q))))))) λh=>tS h (gO (D1 (Db V8 Kq q))))) λx24 h=>(match x24,h with | .inl l10,h=>gA (tC h λc26_ h=>gR q Uj Kq [(69,(kO (WI v1)))] [] (c3 (Bn 1 As (0:Int) ([(WI v1)]:Aq)) (Eq.refl (([]:Aq).length)) c26_) (Mv (Le.trans (Xq 36007 (show ∀ k_,k_<(([]:Aq).length+([(WI v1)]:Aq).length)->AVleL ((λi_=>AV.eraseAll SI ((Jq (([]:Aq).length) nQ (λi=>As (([(WI v1)]:Aq).getD i 0))) i_)) k_) ((lg v1) k_) from(Cp (Gl _ _) (λk_ hk_=>(Cg (AV.eraseAll SI) ((Xb (λ_ _=>rfl) (λ_ _=>rfl)) k_ hk_)).trans rfl)))) (Th (λ(k_:Nat) u=>(Fo u [(7,(.vsl 36007 k_))] [(36007,.arr 1 3 k_ (lg v1))])) (show(([]:Aq).length+([(WI v1)]:Aq).length)=(fm v1).length from(Gl _ _)))) (tC h λc27_ h=>tU q Uj Kq (c1 c27_) (Sb (⟨[NS,cA,b8,(7,(.vsl 36007 (fm v1).length)),(8,(.vsub 25 [v1].length 0 (lZ v1)))],[(NU (bp v18)),(cB (jW v1)),(bc (mN l10)),(25,.arr 1 3 ([v1].length) (kM v1)),(36007,.arr 1 3 ((fm v1).length) (lg v1))],[]⟩:St) (Mv (Le.trans (Le.trans (PL (t:=8) (r:=25) (k:=(lZ v1)) rfl rfl c27_.2 (by kernel_rfl) (.row (by kernel_rfl) (.arr (λ_=>by kernel_rfl) (.arr (λ_=>by kernel_rfl) (.arr (λ_=>by kernel_rfl) (.arr (λ_=>by kernel_rfl) .nil))))) (by rw[hΓ];rfl)) (N1 (st':=⟨(oq v1),[(NU (bp v18)),(cB (jW v1)),(bc (mN l10)),(25,.arr 1 3 (lZ v1) (kM v1)),(36007,.arr 1 3 ((fm v1).length) (lg v1))],[]⟩) (by kernel_rfl))) (Le.trans (Jl (st':=⟨(oq v1),[(NU (bp v18)),(cB (jW v1)),(bc (mN l10)),(25,.arr 1 3 (lZ v1) (λi=>As ((ny v1).getD i 0))),(36007,.arr 1 3 ((fm v1).length) (lg v1))],[]⟩) (TmpsLe.refl _) (.same (.same (.same (.arr (XY (e:=As) (d:=(0:Int))) (.same .nil)))))) (N1 (Cg (λk_:Nat=>(⟨[NS,cA,b8,(7,(.vsl 36007 (fm v1).length)),(8,(.vsl 25 k_))],[(NU (bp v18)),(cB (jW v1)),(bc (mN l10)),(25,.arr 1 3 k_ (λi=>As ((ny v1).getD i 0))),(36007,.arr 1 3 ((fm v1).length) (lg v1))],[]⟩:St)) (show(lZ v1)=(ny v1).length from RK c27_.2))))) (Am q [2,5,6,7,8,78] Kq (gC h (λh=>tS h (iH (Db Uj Kq q))) λh=>tB h λx28 y28 h=>tC h λc29_ h=>tT q [7] [36007] [⟨[(36007,34000)],[],(.tuple []),[(Z4 34000 x28)],[],[]⟩] (c1 (Jm y28)) (Mv (Th (λ(k_:Nat) u=>(Fo u [(7,(.vsl 36007 k_))] [])) (show(fm v1).length=x28.length from c29_)) (Am q [4] [36007] (Sb (⟨[(4,(.vsl 36007 x28.length))],[(Z4 36007 x28)],[]⟩:St) (tS h (jn (Sr (Kp [(36007,20000)] (Le.trans (Lv (nm:=36007) (sz:=1) (n:=x28.length) (e:=3) (f:=(λi=>As (x28.getD i 0))) (g:=(λi=>As (x28.getD i 0))) rfl ⟨rfl,trivial⟩ (λ_ _=>rfl) (by rw[hΓ];rfl)) (N1 (st':=⟨[(4,(LJ x28 36007))],[(36007,.tok 1 3 x28.length)],[]⟩) (by kernel_rfl))))))))))))))))) | .inr ⟨l11,l12,l13⟩,h=>jm (λst' hl30=>tS h (iH (Le.trans hl30 Mw))))))))))))))))) (λ⟨l1,l2,l3,l4⟩ y h=>tC h λc31_ h=>tU q V8 Kq (c2 c31_ (Eq.refl l3.length)) (tL q h V8 Kq (λu l32=>(Fo u [] [(mW l32)])) (λu x_=>match x_ with|(.inl l33)=>aG Γ (.exit 0) (Fo u [] [(bc (mO l33))])|(.inr (l34,l35,l36))=>aG Γ (.goto 0) (W5 Uj Kq u [(8,(.vsl 25 l36.length))] [(5,.arr 1 165 64 (λi=>eB (l34.getD i false))),(mW l35),(Z4 25 l36)])) (λl32 y h=>tC h λc37_ h=>tC h λc38_ h=>tU q [2,5,6,7,8,9,41] Kq (c3 c37_ (Eq.refl 64) c38_) (gC h (λh=>tC h λc39_ h=>tC h λc40_ h=>tC h λc41_ h=>tU q YK Kq (c4 c39_ c40_ (Eq.refl 64) c41_) (tC h λc42_ h=>tC h λc43_ h=>tU q YK Kq (c4 c42_ (Eq.refl 64) c43_ (Eq.refl 64)) (Mv (Xq 6 (show ∀ k_,k_<64->AVleL ((λi_=>AV.eraseAll SI ((Ll (λi=>As (l32.getD i 0)) (ba l3).toNat 0 [(.int .i64 (Ap ((l32.getD (ba l3).toNat (0:Int))+1)))]) i_)) k_) ((λi=>As ((Kc 64 (0:Int) l32 (ba l3).toNat (Ap ((l32.getD (ba l3).toNat (0:Int))+1))).getD i 0)) k_) from(Cp rfl (λk_ hk_=>(Cg (AV.eraseAll SI) ((Qe (λ_ _=>rfl) (O0 c43_) rfl) k_ hk_)).trans rfl)))) (tC h λc44_ h=>tU q fO Kq (c2 c44_ (Eq.refl 64)) (gC h (λh=>tC h λc45_ h=>tU q [2,5,6,7,8,10] Kq (c2 c45_ (Eq.refl 64)) (Mv (Xq 5 (show ∀ k_,k_<64->AVleL ((λi_=>AV.eraseAll SI ((Ll (ld l1) (fk v18 l3 l32).toNat 0 [(.bool true)]) i_)) k_) ((λi=>eB ((Kc 64 false l1 (fk v18 l3 l32).toNat true).getD i false)) k_) from(Cp rfl (λk_ hk_=>(Cg (AV.eraseAll SI) ((Qe (λ_ _=>rfl) (O0 c45_) rfl) k_ hk_)).trans rfl)))) (tC h λc46_ h=>gR q Uj Kq [(65,(kO (fk v18 l3 l32)))] [] (c3 (Bn 1 As (0:Int) ([(fk v18 l3 l32)]:Aq)) (Eq.refl l3.length) c46_) (tS h (gO (D1 (Le.trans (Le.trans (Xq 25 (show ∀ k_,k_<(l3.length+([(fk v18 l3 l32)]:Aq).length)->AVleL ((λi_=>AV.eraseAll SI ((Jq l3.length (λi=>As (l3.getD i 0)) (λi=>As (([(fk v18 l3 l32)]:Aq).getD i 0))) i_)) k_) ((λi=>As ((l3++([(fk v18 l3 l32)]:Aq)).getD i 0)) k_) from(Cp (Gl _ _) (λk_ hk_=>(Cg (AV.eraseAll SI) ((Xb (λ_ _=>rfl) (λ_ _=>rfl)) k_ hk_)).trans rfl)))) (Th (λ(k_:Nat) u=>(Fo u [(8,(.vsl 25 k_))] [(25,.arr 1 3 k_ (λi=>As ((l3++([(fk v18 l3 l32)]:Aq)).getD i 0)))])) (show(l3.length+([(fk v18 l3 l32)]:Aq).length)=(l3++([(fk v18 l3 l32)]:Aq)).length from(Gl _ _)))) Mw))))))) λh=>tS h (gN (Db V8 Kq q))))))) λh=>tS h (gO (D1 (Db V8 Kq q))))) λx47 h=>(match x47,h with | .inl l33,h=>gA (tC h λc49_ h=>gR q Uj Kq [(69,(kO (ba l3)))] [] (c3 (Bn 1 As (0:Int) ([(ba l3)]:Aq)) (Eq.refl l4.length) c49_) (Mv (Le.trans (Xq 36007 (show ∀ k_,k_<(l4.length+([(ba l3)]:Aq).length)->AVleL ((λi_=>AV.eraseAll SI ((Jq l4.length (λi=>As (l4.getD i 0)) (λi=>As (([(ba l3)]:Aq).getD i 0))) i_)) k_) ((lf l4 l3) k_) from(Cp (Gl _ _) (λk_ hk_=>(Cg (AV.eraseAll SI) ((Xb (λ_ _=>rfl) (λ_ _=>rfl)) k_ hk_)).trans rfl)))) (Th (λ(k_:Nat) u=>(Fo u [(7,(.vsl 36007 k_))] [(36007,.arr 1 3 k_ (lf l4 l3))])) (show(l4.length+([(ba l3)]:Aq).length)=(bt l4 l3).length from(Gl _ _)))) (tC h λc50_ h=>tU q Uj Kq (c1 c50_) (Sb (⟨[NS,cA,b8,(7,(.vsl 36007 (bt l4 l3).length)),(8,(.vsub 25 l3.length 0 (kL l3)))],[(NU (bp v18)),(cB (ld l1)),(bc (mO l33)),(Z4 25 l3),(36007,.arr 1 3 ((bt l4 l3).length) (lf l4 l3))],[]⟩:St) (Mv (Le.trans (Le.trans (PL (t:=8) (r:=25) (k:=(kL l3)) rfl rfl c50_.2 (by kernel_rfl) (.row (by kernel_rfl) (.arr (λ_=>by kernel_rfl) (.arr (λ_=>by kernel_rfl) (.arr (λ_=>by kernel_rfl) (.arr (λ_=>by kernel_rfl) .nil))))) (by rw[hΓ];rfl)) (N1 (st':=⟨[NS,cA,b8,(7,(.vsl 36007 (bt l4 l3).length)),(8,(.vsl 25 (kL l3)))],[(NU (bp v18)),(cB (ld l1)),(bc (mO l33)),(25,.arr 1 3 (kL l3) (λi=>As (l3.getD i 0))),(36007,.arr 1 3 ((bt l4 l3).length) (lf l4 l3))],[]⟩) (by kernel_rfl))) (Le.trans (Jl (st':=⟨[NS,cA,b8,(7,(.vsl 36007 (bt l4 l3).length)),(8,(.vsl 25 (kL l3)))],[(NU (bp v18)),(cB (ld l1)),(bc (mO l33)),(25,.arr 1 3 (kL l3) (λi=>As ((l3.take (Ap ((l3.length:Int)-1)).toNat).getD i 0))),(36007,.arr 1 3 ((bt l4 l3).length) (lf l4 l3))],[]⟩) (TmpsLe.refl _) (.same (.same (.same (.arr (XY (e:=As) (d:=(0:Int))) (.same .nil)))))) (N1 (Cg (λk_:Nat=>(⟨[NS,cA,b8,(7,(.vsl 36007 (bt l4 l3).length)),(8,(.vsl 25 k_))],[(NU (bp v18)),(cB (ld l1)),(bc (mO l33)),(25,.arr 1 3 k_ (λi=>As ((l3.take (Ap ((l3.length:Int)-1)).toNat).getD i 0))),(36007,.arr 1 3 ((bt l4 l3).length) (lf l4 l3))],[]⟩:St)) (show(kL l3)=(l3.take (Ap ((l3.length:Int)-1)).toNat).length from RK c50_.2))))) (Am q [2,5,6,7,8,78] Kq (gC h (λh=>tS h (iH (Db Uj Kq q))) λh=>tB h λx51 y51 h=>tC h λc52_ h=>tT q [7] [36007] [⟨[(36007,34000)],[],(.tuple []),[(Z4 34000 x51)],[],[]⟩] (c1 (Jm y51)) (Mv (Th (λ(k_:Nat) u=>(Fo u [(7,(.vsl 36007 k_))] [])) (show(bt l4 l3).length=x51.length from c52_)) (Am q [4] [36007] (Sb (⟨[(4,(.vsl 36007 x51.length))],[(Z4 36007 x51)],[]⟩:St) (tS h (jn (Sr (Kp [(36007,20000)] (Le.trans (Lv (nm:=36007) (sz:=1) (n:=x51.length) (e:=3) (f:=(λi=>As (x51.getD i 0))) (g:=(λi=>As (x51.getD i 0))) rfl ⟨rfl,trivial⟩ (λ_ _=>rfl) (by rw[hΓ];rfl)) (N1 (st':=⟨[(4,(LJ x51 36007))],[(36007,.tok 1 3 x51.length)],[]⟩) (by kernel_rfl))))))))))))))))) | .inr ⟨l34,l35,l36⟩,h=>jm (λst' hl53=>tS h (iH (Le.trans hl53 Mw)))))) (Wj (λst' hk=>tS h (gK hk))))
def Xs(a6:Int)(aS:Int):Option Gy:=
 (some ((C1 ((C1 ((C1 ((Yf .u64 a6 (32:Int))*(Yf .u64 aS (32:Int))))+(Yf .u64 (C1 ((C1 ((Yf .u64 a6 (32:Int))*(Ox .and .u64 aS (4294967295:Int))))+(Yf .u64 (C1 ((Ox .and .u64 a6 (4294967295:Int))*(Ox .and .u64 aS (4294967295:Int)))) (32:Int)))) (32:Int))))+(Yf .u64 (C1 ((Ox .and .u64 (C1 ((C1 ((Yf .u64 a6 (32:Int))*(Ox .and .u64 aS (4294967295:Int))))+(Yf .u64 (C1 ((Ox .and .u64 a6 (4294967295:Int))*(Ox .and .u64 aS (4294967295:Int)))) (32:Int)))) (4294967295:Int))+(C1 ((Ox .and .u64 a6 (4294967295:Int))*(Yf .u64 aS (32:Int)))))) (32:Int)))),(C1 (a6*aS))))
variable{v19:Gy}
theorem HK(h:Xs v1 v2=some v19):sP 149 [(Kf v1),(Kf v2)] [] (.tuple [(Kf v19.1),(Kf v19.2)]) []:=
 sG Tryz.func149 λΓ q=>tW q G7 [] [0,1,6] [] (tU q [0,1,6,7] [] (c1 (show(0<=(32:Int)) from(by decide))) (Am q [0,1,6,7,8] [] (tU q [0,1,6,7,8,9] [] (c1 (show(0<=(32:Int)) from(by decide))) (Am q [0,1,6,7,8,9,10] [] (tU q [0,1,6,7,9,11] [] (c1 (show(0<=(32:Int)) from(by decide))) (Am q [0,1,6,7,9,11,12] [] (tU q [0,1,6,7,9,12,13] [] (c1 (show(0<=(32:Int)) from(by decide))) (Am q [0,1,7,9,12,13] [] (tU q [0,1,4] [] (c1 (show(0<=(32:Int)) from(by decide))) (Am q So [] (tS h (Ck []))))))))))))
def Ly(a6:Int)(aS:Int):Option Gy:=
 ((Xs a6 aS).bind λx1=>(some (x1.1,x1.2)))
theorem BA(h:Ly v1 v2=some v19):sP 138 [(Kf v1),(Kf v2)] [] (.tuple [(Kf v19.1),(Kf v19.2)]) []:=
 sG Tryz.func138 λΓ q=>Am q G7 [] (ZV false (tB h λx1 y1 h=>tT q [8,9] [] [⟨[],[],(.tuple [(Kf x1.1),(Kf x1.2)]),[],[],[]⟩] (c1 (HK y1)) (Am q So [] (tS h (Ck [])))))
abbrev VK:=(Int×Aq)
def Ci :VK->Option (LR (Int×Aq) Aq):=
 λ((i7,l8):VK)=>(bif (decide (i7<(l8.length:Int))) then(Cd (0<=i7/\0+i7.toNat<=l8.length) (Cd (0<=i7/\0+i7.toNat<=l8.length) (some (.next ((Ap (i7+((Nat.min ((0+i7.toNat)-0) (l8.length-(0+i7.toNat))):Int))),(TN l8 (0+i7.toNat) (Nat.min ((0+i7.toNat)-0) (l8.length-(0+i7.toNat))) (λi=>l8.getD (0+i) 0))))))) else(some (.done l8)))
def bu(x3:Gy):=(List.replicate (Ap x3.2).toNat (0:Int))
def n4(x3:Gy)(a6:Aq):=(TN (bu x3) 0 (Nat.min a6.length ((bu x3).length-0)) (λi=>a6.getD i 0))
def nz(l8:Aq)(i7:Int):=(TN l8 (0+i7.toNat) (Nat.min ((0+i7.toNat)-0) (l8.length-(0+i7.toNat))) (λi=>l8.getD (0+i) 0))
def Fg(a6:Aq)(aa0:Int):Option Aq:=
 (Option.bind (α:=Unit) (bif (decide (aa0<0)) then none else(some ())) (λx1=>(match x1 with|_=>((Ly (C1 (a6.length:Int)) (C1 aa0)).bind λx3=>(Option.bind (α:=Unit) (bif (bif (decide ((0:Int)<x3.1)) then true else(decide ((9223372036854775807:Int)<x3.2))) then none else(some ())) (λx4=>(match x4 with|_=>(Cd (0<=(Ap x3.2)/\(Ap x3.2)<=(Ap x3.2)/\(Ap x3.2)<=(room:Int)) ((Ah (S:=VK) (X:=Aq) Ci (((Nat.min a6.length ((List.replicate (Ap x3.2).toNat (0:Int)).length-0)):Int),(TN (List.replicate (Ap x3.2).toNat (0:Int)) 0 (Nat.min a6.length ((List.replicate (Ap x3.2).toNat (0:Int)).length-0)) (λi=>a6.getD i 0)))).bind (λx12=>(some x12)))))))))))
theorem Pw(h:Fg v4 v1=some v17):sP 113 [(Z7 v4),(Z6 v1)] [] (.vsl 20000 v17.length) [(Z4 20000 v17)]:=
 sG Tryz.func113 λΓ q=>gR q G7 [] [(4,OC)] [] (c1 (Gj 1 As (0:Int))) (tB h λx1 y1 h=>gJ y1 (λ_=>aG Γ .normal (⟨[(0,(Z7 v4)),(1,(Z6 v1))],[],[]⟩:St)) (λy h=>Am q BS [] (gC h (λh=>nomatch h) λh=>tS h (gK (D1 (Db G7 [] q))))) (gA (tB h λx3 y3 h=>tT q [0,5,6] [] [⟨[],[],(.tuple [(Kf x3.1),(Kf x3.2)]),[],[],[]⟩] (c1 (BA y3)) (tB h λx4 y4 h=>gJ y4 (λ_=>aG Γ .normal (⟨[(0,(Z7 v4)),(6,(Kf x3.2))],[],[]⟩:St)) (λy h=>tU q [0,6,26] [] (c2 (gI ((decide ((0:Int)<x3.1))==false)) (S3 (decide ((0:Int)<x3.1)))) (gC h (λh=>nomatch h) λh=>tS h (gK (D1 (Db [0,6] [] q))))) (gA (tV q [0,7] [30] h λh=>by exact Mv (Le.trans (Xq 30 (show ∀ k_,k_<((Ap x3.2).toNat)->AVleL ((λi_=>AV.eraseAll (λn_=>Cj n_ [30]) ((λ_=>[Ke]) i_)) k_) ((λi=>As ((bu x3).getD i 0)) k_) from(λk hk=>Xt (e:=As) (d:=(0:Int)) (.cons (AVle.refl _) .nil) _ k (Yc hk)))) (Th (λ(k_:Nat) u=>(Fo u [(7,(.vsl 30 k_))] [(30,.arr 1 3 k_ (λi=>As ((bu x3).getD i 0)))])) (show(Ap x3.2).toNat=(bu x3).length from(Yk ..).symm))) (tU q Mu [30] (c1 (Eq.refl ((bu x3).length))) (Mv (Le.trans (Xq 30 (show ∀ k_,k_<((bu x3).length)->AVleL ((λi_=>AV.eraseAll (λn_=>Cj n_ [30]) ((OY (λi=>As ((bu x3).getD i 0)) 0 (Nat.min v4.length ((bu x3).length-0)) (λi=>As (v4.getD i 0))) i_)) k_) ((λi=>As ((n4 x3 v4).getD i 0)) k_) from(Cp (F4 ..) (λk_ hk_=>(Cg (AV.eraseAll (λn_=>Cj n_ [30])) ((CN (e:=As) (d:=(0:Int)) (l:=(bu x3)) (s:=(λi=>v4.getD i 0)) (λ_ _=>rfl) (λ_ _=>rfl)) k_ hk_)).trans rfl)))) (Th (λ(k_:Nat) u=>(Fo u [(7,(.vsl 30 k_))] [(30,.arr 1 3 k_ (λi=>As ((n4 x3 v4).getD i 0)))])) (show(bu x3).length=(n4 x3 v4).length from(F4 ..)))) (tL q h Mu [30] (λu (i7,l8)=>(Fo u [(7,(.vsl 30 l8.length)),(8,(Z6 i7))] [(Z4 30 l8)])) (λu l9=>aG Γ (.exit 0) (⟨[(7,(.vsl 30 l9.length))],[(Z4 30 l9)],[]⟩:St)) (λ⟨i7,l8⟩ y h=>Am q [7,8,37] [30] (gC h (λh=>tC h λc10_ h=>tC h λc11_ h=>tU q Mu [30] (c4 c10_ c11_ (Eq.refl l8.length) (Eq.refl l8.length)) (tS h (gN (Le.trans (Le.trans (Xq 30 (show ∀ k_,k_<l8.length->AVleL ((λi_=>AV.eraseAll (λn_=>Cj n_ [30]) ((OY (λi=>As (l8.getD i 0)) (0+i7.toNat) (Nat.min ((0+i7.toNat)-0) (l8.length-(0+i7.toNat))) (λi=>(λi=>As (l8.getD i 0)) (0+i))) i_)) k_) ((λi=>As ((nz l8 i7).getD i 0)) k_) from(Cp (F4 ..) (λk_ hk_=>(Cg (AV.eraseAll (λn_=>Cj n_ [30])) ((CN (e:=As) (d:=(0:Int)) (l:=l8) (s:=(λi=>l8.getD (0+i) 0)) (λ_ _=>rfl) (λ_ _=>rfl)) k_ hk_)).trans rfl)))) (Th (λ(k_:Nat) u=>(Fo u [(7,(.vsl 30 k_))] [(30,.arr 1 3 k_ (λi=>As ((nz l8 i7).getD i 0)))])) (show l8.length=(nz l8 i7).length from(F4 ..)))) Mw)))) λh=>tS h (gO (D1 (Db [7] [30] q))))) λx12 h=>gA (Am q [4] [30] (tS h (Ck [(30,20000)]))))))))))))
set_option maxRecDepth 100000
set_option maxHeartbeats 2000000
def Fz(aD:Aq):(Int×List Bool)->Option (LR (Int×List Bool) (List Bool)):=
 λ((i2,l3):(Int×List Bool))=>(bif (i2 !=-1) then(Cd (Bv i2 l3.length) (Cd (Bv i2 aD.length) (some (.next ((aD.getD i2.toNat 0),(l3.set i2.toNat true)))))) else(some (.done l3)))
def F0(aD:Aq)(l4:List Bool):Int->Option (LR Int Int):=
 λ(i9:Int)=>(Cd (Bv i9 l4.length) (bif (!(l4.getD i9.toNat false)) then(Cd (Bv i9 aD.length) (some (.next (aD.getD i9.toNat 0)))) else(some (.done i9))))
def L0(aD:Aq)(aF:Int)(aH:Int):Option Int:=
 (Cd (0<=(aD.length:Int)/\(aD.length:Int)<=(aD.length:Int)/\(aD.length:Int)<=(room:Int)) ((Ah (Fz aD) (aF,(List.replicate (aD.length:Int).toNat false))).bind (λx7=>((Ah (F0 aD x7) aH).bind (λx13=>(some x13))))))
variable{v20:Int}
theorem BB(h:L0 v4 v1 v2=some v20):sP 139 [(Z7 v4),(Z6 v1),(Z6 v2)] [] (.int .i64 v20) []:=
 sG Tryz.func139 λΓ q=>Am q KW [] (tV q [0,1,2,7] [11] h λh=>by exact Mv (Le.trans (Xq 11 (show ∀ k_,k_<((v4.length:Int).toNat)->AVleL ((λi_=>AV.eraseAll (λn_=>Cj n_ [11]) ((λ_=>[(.bool false)]) i_)) k_) ((λi=>eB ((List.replicate (v4.length:Int).toNat false).getD i false)) k_) from(λk hk=>Xt (e:=eB) (d:=false) (.cons (AVle.refl _) .nil) _ k (Yc hk)))) (Th (λ(k_:Nat) u=>(Fo u [(7,(.vsl 11 k_))] [(11,.arr 1 4 k_ (λi=>eB ((List.replicate (v4.length:Int).toNat false).getD i false)))])) (show(v4.length:Int).toNat=(List.replicate (v4.length:Int).toNat false).length from(Yk ..).symm))) (Am q NN [11] (tL q h NN [11] (λu (i2,l3)=>(Fo u [(7,(.vsl 11 l3.length)),(8,(Z6 i2))] [(11,.arr 1 4 l3.length (λi=>eB (l3.getD i false)))])) (λu l4=>aG Γ (.exit 0) (W5 [0,2,7] [11] u [(7,(.vsl 11 l4.length))] [(11,.arr 1 4 l4.length (λi=>eB (l4.getD i false)))])) (λ⟨i2,l3⟩ y h=>Am q [0,2,7,8,14] [11] (gC h (λh=>tC h λc5_ h=>tU q NN [11] (c2 c5_ (Eq.refl l3.length)) (Mv (Le.trans (Xq 11 (show ∀ k_,k_<l3.length->AVleL ((λi_=>AV.eraseAll (λn_=>Cj n_ [11]) ((Ll (λi=>eB (l3.getD i false)) i2.toNat 0 [(.bool true)]) i_)) k_) ((λi=>eB ((l3.set i2.toNat true).getD i false)) k_) from(Cp (H8 ..).symm (λk_ hk_=>(Cg (AV.eraseAll (λn_=>Cj n_ [11])) ((Mm (λ_ _=>rfl) (O1 c5_) rfl) k_ hk_)).trans rfl)))) (Th (λ(k_:Nat) u=>(Fo u [(7,(.vsl 11 k_))] [(11,.arr 1 4 k_ (λi=>eB ((l3.set i2.toNat true).getD i false)))])) (show l3.length=(l3.set i2.toNat true).length from(H8 ..).symm))) (tV q NN [11] h λh=>tN h))) λh=>tS h (gO (D1 (Db [0,2,7] [11] q))))) λx7 h=>gA (tL q h [0,2,7] [11] (λu i9=>(Fo u [(2,(Z6 i9))] [])) (λu i10=>aG Γ (.exit 2) (⟨[(2,(Z6 i10))],[],[]⟩:St)) (λi9 y h=>tC h λc11_ h=>tU q [0,2,7,26] [11] (c2 c11_ (Eq.refl x7.length)) (gC h (λh=>tV q [0,2,7] [11] h λh=>tN h) λh=>tS h (gO (D1 (Db [2] [] q))))) λx13 h=>gA (Am q [6] [] (tS h (Ck [])))))))
def D8(aD:Aq)(aB:Aq):Gy->Option nH:=
 λ((i1,i2):Gy)=>(bif (decide (i2<(aB.length:Int))) then(Option.bind (α:=Int) (Cd (Bv i2 aB.length) (Cd (Bv (aB.getD i2.toNat 0) aD.length) (bif ((aD.getD (aB.getD i2.toNat 0).toNat (0:Int))==-2) then(some i1) else(bif (i1==-2) then(some (aB.getD i2.toNat 0)) else((L0 aD i1 (aB.getD i2.toNat 0)).bind λx7=>(some x7)))))) (λx8=>(some (.next (x8,(Ap (i2+1))))))) else(some (.done i1)))
def Ib(aD:Aq)(aB:Aq):Option Int:=
 ((Ah (D8 aD aB) ((-2:Int),(0:Int))).bind (λx10=>(some x10)))
theorem Ts(h:Ib v4 v17=some v1):sP 114 [(Z7 v4),(Z7 v17)] [] (.int .i64 v1) []:=
 sG Tryz.func114 λΓ q=>tW q G7 [] BT [] (Am q KS [] (tL q h KS [] (λu (i1,i2)=>(Fo u [(5,(Z6 i1)),(10,(Z6 i2))] [])) (λu i3=>aG Γ (.exit 0) (⟨[(5,(Z6 i3))],[],[]⟩:St)) (λ⟨i1,i2⟩ y h=>Am q [0,5,8,9,10,11] [] (gC h (λh=>tB h λx8 y8 h=>gJ y8 (λi4=>aG Γ .normal (⟨[(0,(Z7 v4)),(5,(Z6 i4)),(8,(Z7 v17)),(9,(HB v17.length)),(10,(Z6 i2))],[],[]⟩:St)) (λy h=>tV q [0,5,7,8,9,10] [] h λh=>tV q [0,5,7,8,9,10,18] [] h λh=>gC h (λh=>tS h (gK (D1 (Db KS [] q)))) λh=>Am q [0,5,7,8,9,10,24] [] (gC h (λh=>Am q KS [] (tS h (gK (D1 Mw)))) λh=>tB h λx7 y7 h=>tT q KS [] [(DH x7)] (c1 (BB y7)) (tS h (gK (D1 Mw))))) (gA (Am q KS [] (tN h)))) λh=>tS h (gO (D1 (Db [5] [] q))))) λx10 h=>gA (Am q [4] [] (tS h (Ck [])))))
abbrev jP:=(Bool×Int×Aq)
abbrev nC:=(LR (Bool×Int×Aq) (Bool×Aq))
abbrev fG:=(Bool×Aq)
def Dy(aE:C6)(x3:Aq):jP->Option nC:=
 λ((b7,i8,l9):jP)=>(bif (decide (i8<((x3.drop (1:Int).toNat).length:Int))) then(Option.bind (α:=fG) (Cd (Bv i8 (x3.drop (1:Int).toNat).length) (Cd (Bv ((x3.drop (1:Int).toNat).getD i8.toNat 0) aE.Pred.length) ((Ib l9 (aE.Pred.getD ((x3.drop (1:Int).toNat).getD i8.toNat 0).toNat [])).bind λx16=>(Cd (Bv ((x3.drop (1:Int).toNat).getD i8.toNat 0) l9.length) (bif (x16 !=(l9.getD ((x3.drop (1:Int).toNat).getD i8.toNat 0).toNat (0:Int))) then(Cd (Bv ((x3.drop (1:Int).toNat).getD i8.toNat 0) l9.length) (some (true,(l9.set ((x3.drop (1:Int).toNat).getD i8.toNat 0).toNat x16)))) else(some (b7,l9))))))) (λ(b12,l13)=>(some (.next (b12,(Ap (i8+1)),l13))))) else(some (.done (b7,l9))))
def Pn(aE:C6)(l1:Aq):jP->Option nC:=
 λ((b24,i25,l26):jP)=>(bif (decide (i25<((l1.drop (1:Int).toNat).length:Int))) then(Option.bind (α:=fG) (Cd (Bv i25 (l1.drop (1:Int).toNat).length) (Cd (Bv ((l1.drop (1:Int).toNat).getD i25.toNat 0) aE.Pred.length) ((Ib l26 (aE.Pred.getD ((l1.drop (1:Int).toNat).getD i25.toNat 0).toNat [])).bind λx33=>(Cd (Bv ((l1.drop (1:Int).toNat).getD i25.toNat 0) l26.length) (bif (x33 !=(l26.getD ((l1.drop (1:Int).toNat).getD i25.toNat 0).toNat (0:Int))) then(Cd (Bv ((l1.drop (1:Int).toNat).getD i25.toNat 0) l26.length) (some (true,(l26.set ((l1.drop (1:Int).toNat).getD i25.toNat 0).toNat x33)))) else(some (b24,l26))))))) (λ(b29,l30)=>(some (.next (b29,(Ap (i25+1)),l30))))) else(some (.done (b24,l26))))
abbrev fH:=(Aq×Aq)
def E4(aE:C6):fH->Option (LR (Aq×Aq) Aq):=
 λ(s_:fH)=>match s_ with|(l1,l2)=>(Cd (0<=(1:Int)/\(1:Int)<=(l1.length:Int)) ((Ah (Pn aE l1) (false,(0:Int),l2)).bind (λx38=>(match x38 with|(b27,l28)=>(bif b27 then(some (.next (l1,l28))) else(some (.done l28)))))))
def SQ(Γ:G0)(aE:C6)(aV:Int)(r:Aq):Exit->St->Prop:=fK Tryz.prog Γ Tryz.f85.results.toList [] (LJ r 20000) [(20000,.tok 1 3 r.length)]
def lh:=(λn_=>Cj n_ [2,13,21])
def nT:List kA:=[(4,OC)]
def nS(x3:Aq)(i8:Int):=((x3.drop (1:Int).toNat).getD i8.toNat 0)
def nR(l1:Aq)(i25:Int):=((l1.drop (1:Int).toNat).getD i25.toNat 0)
def n5(aE:C6):List AV:=[(SL aE.Succ),(SL aE.Pred)]
def ot:=(Z36:St)
def N4(aE:C6)(aV:Int):Option Aq:=
 ((Px (S:=fH) (X:=Aq) ((G3 aE aV).bind λx3=>(bif ((x3.length:Int)==0) then(some (.done ([]:Aq))) else((Fg ([(-2:Int)]:Aq) (aE.Succ.length:Int)).bind λx4=>(Cd (Bv aV x4.length) (Cd (0<=(1:Int)/\(1:Int)<=(x3.length:Int)) ((Ah (Dy aE x3) (false,(0:Int),(x4.set aV.toNat (-1:Int)))).bind (λ(b10,l11)=>(bif b10 then(some (.next (x3,l11))) else(some (.done l11)))))))))) (E4 aE)).bind (λx40=>(some x40)))
theorem QH(h:N4 v18 v1=some v4):sP 85 [(.agg (Qt v18)),(Z6 v1)] [] (LJ v4 20000) [(20000,.tok 1 3 v4.length)]:=
 sG Tryz.func85 λΓ q=>have hΓ:=q.own;gR q Wc [2] nT [] (c1 (Gj 1 As (0:Int))) (tB h λx40 y40 h=>gS y40 (λ(s_:fH)=>match s_ with|(l1,l2)=>0) (λ(s_:fH)=>match s_ with|(l1,l2)=>(⟨[NS,(5,(LJ l1 13)),(6,(.vsl 21 l2.length))],[(NU (n5 v18)),(13,.tok 1 3 l1.length),(Z4 21 l2)],[]⟩:St)) (λr_=>aR (SQ Γ v18 v1 r_)) (λy h=>tB h λx3 y3 h=>tT q GV [2,13] [(oR 13 x3 x3.length)] (c1 (Tt y3)) (Am q [1,2,5,16] [2,13] (gC h (λh=>gR q [4] [] nT [] (c1 (Gj 1 As (0:Int))) (Sb (⟨nT,[],[]⟩:St) (tS h (jn (Sr (Kp VZ (show Le Γ _ ot from Le.trans (Db (st':=⟨nT,[],[]⟩) [4] [] q) (Le.trans (EK (t:=4) (nm:=6004) (sz':=1) (λi=>As (([]:Aq).getD i 0)) 3 rfl rfl (.inl ⟨rfl,rfl⟩) (λh_=>absurd h_ (by decide))) (Db (st':=ot) [4] [6004] q))))))))) λh=>tB h λx4 y4 h=>gR q [1,2,5,6] Kr [(17,(AV.list 1 As 0 ([(-2:Int)]:Aq) .exact))] [⟨[],[(20000,21)],(.vsl 20000 x4.length),[(Z4 20000 x4)],[],[]⟩] (c2 (Bn 1 As (0:Int) ([(-2:Int)]:Aq)) (Pw y4)) (tC h λc5_ h=>tU q Wa Kr (c2 c5_ (Eq.refl x4.length)) (Mv (Le.trans (Xq 21 (show ∀ k_,k_<x4.length->AVleL ((λi_=>AV.eraseAll lh ((Ll (λi=>As (x4.getD i 0)) v1.toNat 0 [(.int .i64 (-1:Int))]) i_)) k_) ((λi=>As ((x4.set v1.toNat (-1:Int)).getD i 0)) k_) from(Cp (H8 ..).symm (λk_ hk_=>(Cg (AV.eraseAll lh) ((Mm (λ_ _=>rfl) (O1 c5_) rfl) k_ hk_)).trans rfl)))) (Th (λ(k_:Nat) u=>(Fo u [(6,(.vsl 21 k_))] [(21,.arr 1 3 k_ (λi=>As ((x4.set v1.toNat (-1:Int)).getD i 0)))])) (show x4.length=(x4.set v1.toNat (-1:Int)).length from(H8 ..).symm))) (Am q KU Kr (tC h λc6_ h=>gR q V7 Kr [(26,(AV.list 1 As 0 (x3.drop (1:Int).toNat) .none))] [] (c2 c6_ (show(AVle (.slice 1 (x3.length-(1:Int).toNat) (λi=>As (x3.getD ((1:Int).toNat+i) 0)) .none) (AV.list 1 As 0 (x3.drop (1:Int).toNat) .none)) from LO)) (tL q h V7 Kr (λu (b7,i8,l9)=>(Fo u [(6,(.vsl 21 l9.length)),(7,(.bool b7)),(28,(Z6 i8))] [(Z4 21 l9)])) (λu (b10,l11)=>aG Γ (.exit 0) (W5 KU Kr u [(6,(.vsl 21 l11.length)),(7,(.bool b10))] [(Z4 21 l11)])) (λ⟨b7,i8,l9⟩ y h=>Am q kF Kr (gC h (λh=>tB h λx19 y19 h=>gJ y19 (λ(b12,l13)=>aG Γ .normal (⟨[NS,(5,(LJ x3 13)),(6,(.vsl 21 l13.length)),(7,(.bool b12)),(26,(AV.list 1 As 0 (x3.drop (1:Int).toNat) .none)),(27,(.int .i64 ((x3.drop (1:Int).toNat).length:Int))),(28,(Z6 i8))],[(NU (n5 v18)),(13,.tok 1 3 x3.length),(Z4 21 l13)],[]⟩:St)) (λy h=>tV q fM Kr h λh=>tC h λc15_ h=>tB h λx16 y16 h=>tT q kD Kr [⟨[],[],(Z6 x16),[],[21],[]⟩] (c4 c15_ (Ts y16) (show(DY []) from trivial) (Eq.refl l9.length)) (tC h λc17_ h=>tU q kC Kr (c2 c17_ (Eq.refl l9.length)) (gC h (λh=>tC h λc18_ h=>tU q V7 Kr (c2 c18_ (Eq.refl l9.length)) (tS h (gK (D1 (Le.trans (Le.trans (Xq 21 (show ∀ k_,k_<l9.length->AVleL ((λi_=>AV.eraseAll lh ((Ll (λi=>As (l9.getD i 0)) (nS x3 i8).toNat 0 [(Z6 x16)]) i_)) k_) ((λi=>As ((l9.set (nS x3 i8).toNat x16).getD i 0)) k_) from(Cp (H8 ..).symm (λk_ hk_=>(Cg (AV.eraseAll lh) ((Mm (λ_ _=>rfl) (O1 c18_) rfl) k_ hk_)).trans rfl)))) (Th (λ(k_:Nat) u=>(Fo u [(6,(.vsl 21 k_))] [(21,.arr 1 3 k_ (λi=>As ((l9.set (nS x3 i8).toNat x16).getD i 0)))])) (show l9.length=(l9.set (nS x3 i8).toNat x16).length from(H8 ..).symm))) Mw))))) λh=>tS h (gK (D1 (Db V7 Kr q)))))) (match x19,h with|⟨b12,l13⟩,h=>gA (Am q V7 Kr (tN h)))) λh=>tS h (gO (D1 (Db KU Kr q))))) λx21 h=>(match x21,h with|⟨b10,l11⟩,h=>gA (Am q [2,5,6,50] Kr (gC h (λh=>tS h (iH (Db Wa Kr q))) λh=>Am q [4] [21] (Sb (⟨[(4,(.vsl 21 l11.length))],[(Z4 21 l11)],[]⟩:St) (tS h (jn (Sr (Kp [(21,20000)] (Le.trans (Lv (nm:=21) (sz:=1) (n:=l11.length) (e:=3) (f:=(λi=>As (l11.getD i 0))) (g:=(λi=>As (l11.getD i 0))) rfl ⟨rfl,trivial⟩ (λ_ _=>rfl) (by rw[hΓ];rfl)) (N1 (st':=⟨[(4,(LJ l11 21))],[(21,.tok 1 3 l11.length)],[]⟩) (by kernel_rfl))))))))))))))))))) (λ⟨l1,l2⟩ y h=>Am q KU Kr (tC h λc23_ h=>gR q V7 Kr [(26,(AV.list 1 As 0 (l1.drop (1:Int).toNat) .none))] [] (c2 c23_ (show(AVle (.slice 1 (l1.length-(1:Int).toNat) (λi=>As (l1.getD ((1:Int).toNat+i) 0)) .none) (AV.list 1 As 0 (l1.drop (1:Int).toNat) .none)) from LO)) (tL q h V7 Kr (λu (b24,i25,l26)=>(Fo u [(6,(.vsl 21 l26.length)),(7,(.bool b24)),(28,(Z6 i25))] [(Z4 21 l26)])) (λu (b27,l28)=>aG Γ (.exit 0) (W5 KU Kr u [(6,(.vsl 21 l28.length)),(7,(.bool b27))] [(Z4 21 l28)])) (λ⟨b24,i25,l26⟩ y h=>Am q kF Kr (gC h (λh=>tB h λx36 y36 h=>gJ y36 (λ(b29,l30)=>aG Γ .normal (⟨[NS,(5,(LJ l1 13)),(6,(.vsl 21 l30.length)),(7,(.bool b29)),(26,(AV.list 1 As 0 (l1.drop (1:Int).toNat) .none)),(27,(.int .i64 ((l1.drop (1:Int).toNat).length:Int))),(28,(Z6 i25))],[(NU (n5 v18)),(13,.tok 1 3 l1.length),(Z4 21 l30)],[]⟩:St)) (λy h=>tV q fM Kr h λh=>tC h λc32_ h=>tB h λx33 y33 h=>tT q kD Kr [⟨[],[],(Z6 x33),[],[21],[]⟩] (c4 c32_ (Ts y33) (show(DY []) from trivial) (Eq.refl l26.length)) (tC h λc34_ h=>tU q kC Kr (c2 c34_ (Eq.refl l26.length)) (gC h (λh=>tC h λc35_ h=>tU q V7 Kr (c2 c35_ (Eq.refl l26.length)) (tS h (gK (D1 (Le.trans (Le.trans (Xq 21 (show ∀ k_,k_<l26.length->AVleL ((λi_=>AV.eraseAll lh ((Ll (λi=>As (l26.getD i 0)) (nR l1 i25).toNat 0 [(Z6 x33)]) i_)) k_) ((λi=>As ((l26.set (nR l1 i25).toNat x33).getD i 0)) k_) from(Cp (H8 ..).symm (λk_ hk_=>(Cg (AV.eraseAll lh) ((Mm (λ_ _=>rfl) (O1 c35_) rfl) k_ hk_)).trans rfl)))) (Th (λ(k_:Nat) u=>(Fo u [(6,(.vsl 21 k_))] [(21,.arr 1 3 k_ (λi=>As ((l26.set (nR l1 i25).toNat x33).getD i 0)))])) (show l26.length=(l26.set (nR l1 i25).toNat x33).length from(H8 ..).symm))) Mw))))) λh=>tS h (gK (D1 (Db V7 Kr q)))))) (match x36,h with|⟨b29,l30⟩,h=>gA (Am q V7 Kr (tN h)))) λh=>tS h (gO (D1 (Db KU Kr q))))) λx38 h=>(match x38,h with|⟨b27,l28⟩,h=>gA (Am q [2,5,6,50] Kr (gC h (λh=>tS h (iH (Db Wa Kr q))) λh=>Am q [4] [21] (Sb (⟨[(4,(.vsl 21 l28.length))],[(Z4 21 l28)],[]⟩:St) (tS h (jn (Sr (Kp [(21,20000)] (Le.trans (Lv (nm:=21) (sz:=1) (n:=l28.length) (e:=3) (f:=(λi=>As (l28.getD i 0))) (g:=(λi=>As (l28.getD i 0))) rfl ⟨rfl,trivial⟩ (λ_ _=>rfl) (by rw[hΓ];rfl)) (N1 (st':=⟨[(4,(LJ l28 21))],[(21,.tok 1 3 l28.length)],[]⟩) (by kernel_rfl)))))))))))))) (Wj (λst' hk=>tS h (gK hk))))
def Hu(aa4:List E1)(aa7:Aq):Int->Option (LR Int (Unit ⊕ Bool)):=
 λ(i1:Int)=>(bif (decide (i1<(aa4.length:Int))) then(Cd (Bv i1 aa4.length) ((Eh ((aa4.getD i1.toNat default).From) aa7).bind λx3=>(bif (bif (!x3) then true else((((aa4.getD i1.toNat default).Args).length:Int)!=(aa7.length:Int))) then(some (.done (.inr false))) else(some (.next (Ap (i1+1))))))) else(some (.done (.inl ()))))
def BV(Γ:G0)(aa4:List E1)(aa7:Aq)(r:Bool):Exit->St->Prop:=fK Tryz.prog Γ Tryz.f86.results.toList [] (.bool r) []
def J1(aa4:List E1)(aa7:Aq):Option Bool:=
 ((Ah (Hu aa4 aa7) (0:Int)).bind (λx4=>(match x4 with|(.inl _)=>(some true)|(.inr r6)=>(some r6))))
theorem Zl(h:J1 v7 v4=some v5):sP 86 [(AV.list 4 Xg default v7 .none),(Z7 v4)] [] (.bool v5) []:=
 sG Tryz.func86 λΓ q=>tW q G7 [] Ij [] (tL q h Ij [] (λu i1=>(Fo u [(9,(Z6 i1))] [])) (λu x_=>match x_ with|(.inl _)=>aG Γ (.exit 0) (⟨[],[],[]⟩:St)|(.inr r_)=>aR (BV Γ v7 v4 r_)) (λi1 y h=>Am q BQ [] (gC h (λh=>tV q BR [6] h λh=>tB h λx3 y3 h=>tT q [1,7,8,9,25] [] [(Z2 x3)] (ci (Kk y3) (kx ((!x3)==false) (c1 (S3 (!x3))))) (gC h (λh=>Am q [4] [] (tS h (gO (Sr (Kp [] (Le.refl _ _)))))) λh=>Am q Ij [] (tN h))) λh=>tS h (gO (D1 (Db [] [] q))))) λx4 h=>(match x4,h with | .inl _,h=>gA (Am q [4] [] (tS h (Ck []))) | .inr r6,h=>Wj (λst' hk=>tS h (gK hk))))
def ou(aI:Gh):=(bif (aI.Kind==0) then true else(aI.Kind==2))
def H1(aI:Gh):Option Bool:=
 (some (bif (bif (aI.Kind==0) then true else(aI.Kind==2)) then true else(aI.Arg==0)))
theorem Zk(h:H1 v9=some v5):sP 87 [(.agg (dC v9))] [] (.bool v5) []:=
 sG Tryz.func87 λΓ q=>Am q [1] [1] (tU q [2] [] (Xn ((v9.Kind==0)==false) (ci (S3 (v9.Kind==0)) (Xn ((ou v9)==false) (c1 (S3 (ou v9)))))) (tS h (Ck [])))
def Cq(a0:Aa)(a4:Int)(a5:List A8)(x1:nM)(x3:Aq):Int->Option (LR Int (Unit ⊕ (Int×Aa×Int×Aq×List A8))):=
 λ(i4:Int)=>(bif (decide (i4<(a0.Blocks.length:Int))) then(Cd (Bv i4 a0.Blocks.length) (Cd (Bv i4 x1.1.Pred.length) ((J1 ((a0.Blocks.getD i4.toNat default).Phis) (x1.1.Pred.getD i4.toNat [])).bind λx7=>((bif ((!x7)==false) then H1 (⟨(a0.Blocks.getD i4.toNat default).End.Kind,(a0.Blocks.getD i4.toNat default).End.Arg,(a0.Blocks.getD i4.toNat default).End.To⟩:Gh) else some false).bind λx8=>(bif (bif (!x7) then true else(!x8)) then(some (.done (.inr ((5:Int),a0,a4,x3,a5)))) else(some (.next (Ap (i4+1))))))))) else(some (.done (.inl ()))))
def Qn(Γ:G0)(a0:Aa)(a4:Int)(a9:Aq)(a5:List A8)(r:bU):Exit->St->Prop:=fK Tryz.prog Γ Tryz.f72.results.toList (Z3 a0.Params a0.Ret a0.Blocks a4 a9 a5 a5.length) (Z6 r.1) (Z3 r.2.1.Params r.2.1.Ret r.2.1.Blocks r.2.2.1 r.2.2.2.1 r.2.2.2.2 r.2.2.2.2.length)
def n6(x1:nM):=((x1.2 !=0)==false)
def ov(x3:Aq)(a0:Aa)(a4:Int)(a5:List A8):List SN:=[(31,.tok 1 3 x3.length),(30000,.row 110 [(Z7 a0.Params),(Z6 a0.Ret),(LI a0.Blocks),(Z6 a4),(Z7 x3),.nilm,(AV.list 5 Jt default a5 (.own 37006))]),(Nr a5.length)]
def nU(x3:Aq)(a0:Aa)(a4:Int)(a5:List A8):List SN:=[(31,.tok 1 3 x3.length),(30000,.row 110 [(Z7 a0.Params),(Z6 a0.Ret),(LI a0.Blocks),(Z6 a4),(LJ x3 31),.nilm,(AV.list 5 Jt default a5 (.own 37006))]),(Nr a5.length)]
def Fx(a0:Aa)(a4:Int)(a9:Aq)(a5:List A8):Option bU:=
 ((Ri a0).bind λx1=>((bif ((x1.2 !=0)==false) then G3 x1.1 (0:Int) else some []).bind λx2=>(bif (bif (x1.2 !=0) then true else(decide ((x2.length:Int)<(a0.Blocks.length:Int)))) then(some ((5:Int),a0,a4,a9,a5)) else((N4 x1.1 (0:Int)).bind λx3=>((Ah (Cq a0 a4 a5 x1 x3) (0:Int)).bind (λx9=>(match x9 with|(.inl _)=>(some ((0:Int),a0,a4,x3,a5))|(.inr r11)=>(some r11))))))))
theorem Qb(h:Fx v0 v1 v4 v12=some v13):sP 72 [Yt] (Z3 v0.Params v0.Ret v0.Blocks v1 v4 v12 v12.length) (Z6 v13.1) (Z3 v13.2.1.Params v13.2.1.Ret v13.2.1.Blocks v13.2.2.1 v13.2.2.2.1 v13.2.2.2.2 v13.2.2.2.2.length):=
 sG Tryz.func72 λΓ q=>Am q [0] Fq (tB h λx1 y1 h=>tT q [0,3,4] SB [⟨[],[],(.tuple [(.agg (Qt x1.1)),(Z6 x1.2)]),[],[],[]⟩] (c1 (QI y1)) (tB h λx2 y2 h=>tT q [0,3,28] SB [⟨[],[],(Z7 x2),[],[],[]⟩] (hZ (gI (n6 x1)) (show((n6 x1)=true->(sP 84 [(.agg (Qt x1.1)),Ke] [] (Z7 x2) [])) from(λhg=>(Spec.drop (Tt (Bz hg y2))))) (pX (n6 x1) (c1 (S3 (x1.2 !=0))))) (gC h (λh=>Am q [2] Fq (tS h (Ck CH))) λh=>tB h λx3 y3 h=>tT q Wd KO [(oR 31 x3 x3.length)] (c1 (QH y3)) (Am q WA KO (tL q h WA KO (λu i4=>(Fo u [(40,(Z6 i4))] [])) (λu x_=>match x_ with|(.inl _)=>aG Γ (.exit 0) (W5 [] KQ u [] [])|(.inr r_)=>aR (Qn Γ v0 v1 v4 v12 r_)) (λi4 y h=>Am q [3,38,39,40,41] KO (gC h (λh=>tV q [3,5,6,38,39,40] [3,6,31,30000,37006] h λh=>tC h λc6_ h=>tB h λx7 y7 h=>tB h λx8 y8 h=>tT q [3,38,39,40,59] KO [(Z2 x7),(Z2 x8)] (hZ c6_ (Zl y7) (Xn ((!x7)==false) (c3 (λ(hg:((!x7)==false)=true)=>(Zk (Bz hg y8))) (gI ((!x7)==false)) (S3 (!x7))))) (gC h (λh=>Am q [2] KQ (Sb (⟨[(2,fp)],(nU x3 v0 v1 v12),[]⟩:St) (tS h (gO (Sr (Kp CH (show Le Γ _ (⟨[(2,fp)],(ov x3 v0 v1 v12),[]⟩:St) from Le.trans (Db (st':=⟨[(2,fp)],(nU x3 v0 v1 v12),[]⟩) [2] KQ q) (Jl (.cons (AVle.refl _) .nil) (.same (.row (.cons (AVle.refl _) (.cons (AVle.refl _) (.cons (AVle.refl _) (.cons (AVle.refl _) (.cons AVle.untag (.cons (AVle.refl _) (.cons (AVle.refl _) .nil))))))) (.same .nil))))))))))) λh=>Am q WA KO (tN h))) λh=>tS h (gO (D1 (Db [] KQ q))))) λx9 h=>(match x9,h with | .inl _,h=>gA (Am q [2] KQ (Sb (⟨[(2,Ke)],(nU x3 v0 v1 v12),[]⟩:St) (tS h (gK (e:=.ret) (Kp CH (show Le Γ _ (⟨[(2,Ke)],(ov x3 v0 v1 v12),[]⟩:St) from Le.trans (Db (st':=⟨[(2,Ke)],(nU x3 v0 v1 v12),[]⟩) [2] KQ q) (Jl (.cons (AVle.refl _) .nil) (.same (.row (.cons (AVle.refl _) (.cons (AVle.refl _) (.cons (AVle.refl _) (.cons (AVle.refl _) (.cons AVle.untag (.cons (AVle.refl _) (.cons (AVle.refl _) .nil))))))) (.same .nil)))))))))) | .inr r11,h=>Wj (λst' hk=>tS h (gK hk))))))))
def G5(aM:Int):Option Bool:=
 (Option.bind (α:=Bool) (bif (aM==1) then(some (aM==1)) else(bif (aM==8) then(some (aM==8)) else(bif (aM==16) then(some (aM==16)) else(bif (aM==32) then(some (aM==32)) else(some (aM==64)))))) (λx2=>(bif x2 then(some true) else(some false))))
theorem Iy(h:G5 v1=some v5):sP 89 [(Z6 v1)] [] (.bool v5) []:=
 sG Tryz.func89 λΓ q=>tW q [0] [] [3] [] (tB h λx2 y2 h=>gJ y2 (λb1=>aG Γ .normal (⟨[(4,(.bool b1))],[],[]⟩:St)) (λy h=>Am q [3,4] [] (gC h (λh=>tS h (gK (D1 (Db [4] [] q)))) λh=>Am q [3,4] [] (gC h (λh=>tS h (gK (D1 (Db [4] [] q)))) λh=>Am q [3,4] [] (gC h (λh=>tS h (gK (D1 (Db [4] [] q)))) λh=>Am q [3,4] [] (gC h (λh=>tS h (gK (D1 (Db [4] [] q)))) λh=>Am q [4] [] (tS h (gK (D1 Mw)))))))) (gA (gC h (λh=>Am q [2] [] (tS h (Ck []))) λh=>Am q [2] [] (tS h (Ck [])))))
def Ht(aB:Aq):Int->Option (LR Int (Unit ⊕ Bool)):=
 λ(i1:Int)=>(bif (decide (i1<(aB.length:Int))) then(Cd (Bv i1 aB.length) ((G5 (aB.getD i1.toNat 0)).bind λx3=>(bif (!x3) then(some (.done (.inr false))) else(some (.next (Ap (i1+1))))))) else(some (.done (.inl ()))))
def BU(Γ:G0)(aB:Aq)(r:Bool):Exit->St->Prop:=fK Tryz.prog Γ Tryz.f88.results.toList [] (.bool r) []
def J0(aB:Aq):Option Bool:=
 ((Ah (Ht aB) (0:Int)).bind (λx4=>(match x4 with|(.inl _)=>(some true)|(.inr r6)=>(some r6))))
theorem Zj(h:J0 v4=some v5):sP 88 [(Z7 v4),(.clo 89 [] [])] [] (.bool v5) []:=
 sG Tryz.func88 λΓ q=>tW q G7 [] Ij [] (tL q h Ij [] (λu i1=>(Fo u [(9,(Z6 i1))] [])) (λu x_=>match x_ with|(.inl _)=>aG Γ (.exit 0) (⟨[],[],[]⟩:St)|(.inr r_)=>aR (BU Γ v4 r_)) (λi1 y h=>Am q BQ [] (gC h (λh=>tV q BR [] h λh=>tB h λx3 y3 h=>tT q GS [] [(Z2 x3)] (c1 (Iy y3)) (gC h (λh=>Am q [4] [] (tS h (gO (Sr (Kp [] (Le.refl _ _)))))) λh=>Am q Ij [] (tN h))) λh=>tS h (gO (D1 (Db [] [] q))))) λx4 h=>(match x4,h with | .inl _,h=>gA (Am q [4] [] (tS h (Ck []))) | .inr r6,h=>Wj (λst' hk=>tS h (gK hk))))
def Lz(aW:E1):Option Bool:=
 ((G5 aW.Bits).bind λx1=>(some x1))
theorem X3(h:Lz v6=some v5):sP 117 [(.agg (Xg v6))] [] (.bool v5) []:=
 sG Tryz.func117 λΓ q=>Am q [1] [1] (tB h λx1 y1 h=>tT q [2] [] [(Z2 x1)] (c1 (Iy y1)) (tS h (Ck [])))
def Fv(aB:List E1):Int->Option (LR Int (Unit ⊕ Bool)):=
 λ(i1:Int)=>(bif (decide (i1<(aB.length:Int))) then(Cd (Bv i1 aB.length) ((Lz (aB.getD i1.toNat default)).bind λx3=>(bif (!x3) then(some (.done (.inr false))) else(some (.next (Ap (i1+1))))))) else(some (.done (.inl ()))))
def U9(Γ:G0)(aB:List E1)(r:Bool):Exit->St->Prop:=fK Tryz.prog Γ Tryz.f116.results.toList [] (.bool r) []
def G8(aB:List E1):Option Bool:=
 ((Ah (Fv aB) (0:Int)).bind (λx4=>(match x4 with|(.inl _)=>(some true)|(.inr r6)=>(some r6))))
theorem Tn(h:G8 v7=some v5):sP 116 [(AV.list 4 Xg default v7 .none),(.clo 117 [] [])] [] (.bool v5) []:=
 sG Tryz.func116 λΓ q=>tW q G7 [] Ij [] (tL q h Ij [] (λu i1=>(Fo u [(9,(Z6 i1))] [])) (λu x_=>match x_ with|(.inl _)=>aG Γ (.exit 0) (⟨[],[],[]⟩:St)|(.inr r_)=>aR (U9 Γ v7 r_)) (λi1 y h=>Am q BQ [] (gC h (λh=>tV q BR [6] h λh=>tB h λx3 y3 h=>tT q GS [] [(Z2 x3)] (c1 (X3 y3)) (gC h (λh=>Am q [4] [] (tS h (gO (Sr (Kp [] (Le.refl _ _)))))) λh=>Am q Ij [] (tN h))) λh=>tS h (gO (D1 (Db [] [] q))))) λx4 h=>(match x4,h with | .inl _,h=>gA (Am q [4] [] (tS h (Ck []))) | .inr r6,h=>Wj (λst' hk=>tS h (gK hk))))
def Md(aP:Int):Option Bool:=
 (some (bif (decide ((0:Int)<=aP)) then(decide (aP<=22)) else false))
theorem FC(h:Md v1=some v5):sP 150 [(Z6 v1)] [] (.bool v5) []:=
 sG Tryz.func150 λΓ q=>Am q [0] [] (tU q [2] [] (c2 (gI ((decide ((0:Int)<=v1))==true)) (Nt (decide ((0:Int)<=v1)))) (tS h (Ck [])))
def ow(x5:Bool)(aM:Int):=(bif x5 then(decide ((8:Int)<=aM)) else false)
def Nk(aM:Int)(aa3:Int):Option Bool:=
 (bif (aa3==1) then((G5 aM).bind λx1=>(some x1)) else(Option.bind (α:=Bool) (bif (aa3==2) then(some (aa3==2)) else(bif (aa3==4) then(some (aa3==4)) else(bif (aa3==8) then(some (aa3==8)) else(some (aa3==16))))) (λx3=>(bif x3 then((G5 aM).bind λx5=>(some (bif (bif x5 then(decide ((8:Int)<=aM)) else false) then(decide (((Ap (aM*aa3)):Int)<=128)) else false))) else(some false)))))
theorem HR(h:Nk v1 v2=some v5):sP 151 [(Z6 v1),(Z6 v2)] [] (.bool v5) []:=
 sG Tryz.func151 λΓ q=>tW q G7 [] BT [] (Am q [0,1,5,6] [] (gC h (λh=>tB h λx1 y1 h=>tT q [4] [] [(Z2 x1)] (c1 (Iy y1)) (tS h (Ck []))) λh=>tB h λx3 y3 h=>gJ y3 (λb2=>aG Γ .normal (⟨[(0,(Z6 v1)),(1,(Z6 v2)),(10,(.bool b2))],[],[]⟩:St)) (λy h=>Am q [0,1,5,10] [] (gC h (λh=>tS h (gK (D1 (Db BS [] q)))) λh=>Am q [0,1,5,10] [] (gC h (λh=>tS h (gK (D1 (Db BS [] q)))) λh=>Am q [0,1,5,10] [] (gC h (λh=>tS h (gK (D1 (Db BS [] q)))) λh=>Am q BS [] (tS h (gK (D1 Mw))))))) (gA (gC h (λh=>tB h λx5 y5 h=>tT q [4] [] [(Z2 x5)] (pH (Iy y5) (gI (x5==true)) (Nt x5) (XB ((ow x5 v1)==true) (c1 (Nt (ow x5 v1))))) (tS h (Ck []))) λh=>Am q [4] [] (tS h (Ck []))))))
def nV(a1:Bl):List SN:=[(nf a1.Kind a1.Bits a1.Lanes a1.Dst a1.Args a1.Imm)]
def Jd(a1:Bl):Option Bool:=
 (Option.bind (α:=Bool) (bif (a1.Kind==16) then(some (a1.Kind==16)) else(some (a1.Kind==17))) (λx2=>(bif x2 then(some (decide ((8:Int)<=a1.Bits))) else(Option.bind (α:=Bool) (bif (a1.Kind==18) then(some (a1.Kind==18)) else(some (a1.Kind==19))) (λx5=>(bif x5 then(some (bif (decide ((8:Int)<=a1.Bits)) then(a1.Lanes==1) else false)) else(Option.bind (α:=Bool) (bif (a1.Kind==4) then(some (a1.Kind==4)) else(bif (a1.Kind==10) then(some (a1.Kind==10)) else(bif (a1.Kind==11) then(some (a1.Kind==11)) else(bif (a1.Kind==12) then(some (a1.Kind==12)) else(bif (a1.Kind==14) then(some (a1.Kind==14)) else(bif (a1.Kind==15) then(some (a1.Kind==15)) else(some (a1.Kind==20)))))))) (λx8=>(bif x8 then(some (a1.Lanes==1)) else(Option.bind (α:=Bool) (bif (a1.Kind==21) then(some (a1.Kind==21)) else(some (a1.Kind==22))) (λx11=>(bif x11 then(some (decide ((1:Int)<a1.Lanes))) else(some true)))))))))))))
theorem X6(h:Jd v3=some v5):sP 152 [(S2 v3)] [] (.bool v5) []:=
 sG Tryz.func152 λΓ q=>tW q [1] [1] [1,4] [1] (tB h λx2 y2 h=>gJ y2 (λb1=>aG Γ .normal (⟨[(1,(.ptr 1 0)),(4,(Z6 v3.Kind)),(5,(.bool b1))],(nV v3),[]⟩:St)) (λy h=>Am q [1,4,5] [1] (gC h (λh=>tS h (gK (D1 Mw))) λh=>Am q [1,4,5] [1] (tS h (gK (D1 Mw))))) (gA (gC h (λh=>Am q [2] [] (tS h (Ck []))) λh=>tB h λx5 y5 h=>gJ y5 (λb4=>aG Γ .normal (⟨[(1,(.ptr 1 0)),(4,(Z6 v3.Kind)),(11,(.bool b4))],(nV v3),[]⟩:St)) (λy h=>Am q [1,4,11] [1] (gC h (λh=>tS h (gK (D1 Mw))) λh=>Am q [1,4,11] [1] (tS h (gK (D1 Mw))))) (gA (gC h (λh=>tU q [2] [] (Xn ((decide ((8:Int)<=v3.Bits))==true) (c1 (Nt (decide ((8:Int)<=v3.Bits))))) (tS h (Ck []))) λh=>tB h λx8 y8 h=>gJ y8 (λb7=>aG Γ .normal (⟨[(1,(.ptr 1 0)),(4,(Z6 v3.Kind)),(22,(.bool b7))],(nV v3),[]⟩:St)) (λy h=>Am q GU [1] (gC h (λh=>tS h (gK (D1 Mw))) λh=>Am q GU [1] (gC h (λh=>tS h (gK (D1 Mw))) λh=>Am q GU [1] (gC h (λh=>tS h (gK (D1 Mw))) λh=>Am q GU [1] (gC h (λh=>tS h (gK (D1 Mw))) λh=>Am q GU [1] (gC h (λh=>tS h (gK (D1 Mw))) λh=>Am q GU [1] (gC h (λh=>tS h (gK (D1 Mw))) λh=>Am q GU [1] (tS h (gK (D1 Mw)))))))))) (gA (gC h (λh=>Am q [2] [] (tS h (Ck []))) λh=>tB h λx11 y11 h=>gJ y11 (λb10=>aG Γ .normal (⟨[(1,(.ptr 1 0)),(33,(.bool b10))],(nV v3),[]⟩:St)) (λy h=>Am q [1,4,33] [1] (gC h (λh=>tS h (gK (D1 (Db [1,33] [1] q)))) λh=>Am q [1,33] [1] (tS h (gK (D1 Mw))))) (gA (gC h (λh=>Am q [2] [] (tS h (Ck []))) λh=>Am q [2] [] (tS h (Ck [])))))))))))
def Rj(a8:Int)(aM:Int):Option Int:=
 ((G5 aM).bind λx1=>(bif (!x1) then(some (0:Int)) else(Cd (0<=(Ap ((64:Int)-aM))) (Cd (0<=(Ap ((64:Int)-aM))) (some (Yf .u64 (UZ .u64 a8 (Ap ((64:Int)-aM))) (Ap ((64:Int)-aM))))))))
theorem QK(h:Rj v1 v2=some v20):sP 171 [(Kf v1),(Z6 v2)] [] (.int .u64 v20) []:=
 sG Tryz.func171 λΓ q=>Am q G7 [] (tB h λx1 y1 h=>tT q [0,1,7] [] [(Z2 x1)] (c1 (Iy y1)) (gC h (λh=>Am q [4] [] (tS h (Ck []))) λh=>tC h λc2_ h=>tC h λc3_ h=>tU q [4] [] (c2 c2_ c3_) (tS h (Ck []))))
def Iw(aa8:Int):Option Bool:=
 ((bif ((decide (aa8<=64))==true) then G5 (Ap aa8) else some false).bind λx1=>(some (bif (decide (aa8<=64)) then x1 else false)))
theorem Sh(h:Iw v1=some v5):sP 172 [(Kf v1)] [] (.bool v5) []:=
 sG Tryz.func172 λΓ q=>Am q [0] [] (tB h λx1 y1 h=>tT q [2] [] [(Z2 x1)] (Xn ((decide (v1<=64))==true) (c2 (λ(hg:((decide (v1<=64))==true)=true)=>(Iy (Bz hg y1))) (Nt (decide (v1<=64))))) (tS h (Ck [])))
def K5(a1:Bl):Option Bool:=
 (bif (a1.Kind==0) then((Rj a1.Imm a1.Bits).bind λx1=>(some (x1==a1.Imm))) else(bif (a1.Kind==14) then((Iw a1.Imm).bind λx2=>(some (bif x2 then(decide (a1.Imm<(C1 a1.Bits))) else false))) else(bif (a1.Kind==15) then((Iw a1.Imm).bind λx3=>(some (bif x3 then(decide (((C1 a1.Bits):Int)<a1.Imm)) else false))) else(bif (a1.Kind==22) then(some (decide (a1.Imm<(C1 a1.Lanes)))) else(some (a1.Imm==0))))))
theorem CE(h:K5 v3=some v5):sP 153 [(S2 v3)] [] (.bool v5) []:=
 sG Tryz.func153 λΓ q=>tW q [1] [1] [1,4] [1] (Am q [1,4,5] [1] (gC h (λh=>tB h λx1 y1 h=>tT q [2] [] [⟨[],[],(Kf x1),[],[],[]⟩] (c1 (QK y1)) (tS h (Ck []))) λh=>Am q [1,4,15] [1] (gC h (λh=>tB h λx2 y2 h=>tT q [2] [] [(Z2 x2)] (ci (Sh y2) (kx (x2==true) (c1 (Nt x2)))) (tS h (Ck []))) λh=>Am q [1,4,28] [1] (gC h (λh=>tB h λx3 y3 h=>tT q [2] [] [(Z2 x3)] (ci (Sh y3) (kx (x3==true) (c1 (Nt x3)))) (tS h (Ck []))) λh=>Am q [1,41] [1] (gC h (λh=>Am q [2] [] (tS h (Ck []))) λh=>Am q [2] [] (tS h (Ck [])))))))
abbrev RS:=((Int×Int))
abbrev jQ:=(List (Int×Int))
def Fk(aaC:List RS):Option jQ:=
 (some aaC)
variable{v21:List RS}{v22:List RS}
theorem F1(h:Fk v21=some v22):sP 156 [(Z8 v21)] [] (Z8 v22) []:=
 sG Tryz.func156 λΓ q=>gR q [0] [] [(2,nZ)] [] (c1 (Gj 2 Bx ((0:Int),(0:Int)))) (Am q [2] [] (tS h (Ck [])))
abbrev lU:=(Int×List (Int×Int))
def Ch :lU->Option (LR (Int×List (Int×Int)) (List (Int×Int))):=
 λ((i7,l8):lU)=>(bif (decide (i7<(l8.length:Int))) then(Cd (0<=i7/\0+i7.toNat<=l8.length) (Cd (0<=i7/\0+i7.toNat<=l8.length) (some (.next ((Ap (i7+((Nat.min ((0+i7.toNat)-0) (l8.length-(0+i7.toNat))):Int))),(TN l8 (0+i7.toNat) (Nat.min ((0+i7.toNat)-0) (l8.length-(0+i7.toNat))) (λi=>l8.getD (0+i) ((0:Int),(0:Int))))))))) else(some (.done l8)))
def bv(x3:Gy):=(List.replicate (Ap x3.2).toNat ((0:Int),(0:Int)))
def n8(x3:Gy)(a6:List RS):=(TN (bv x3) 0 (Nat.min a6.length ((bv x3).length-0)) (λi=>a6.getD i ((0:Int),(0:Int))))
def n7(l8:List RS)(i7:Int):=(TN l8 (0+i7.toNat) (Nat.min ((0+i7.toNat)-0) (l8.length-(0+i7.toNat))) (λi=>l8.getD (0+i) ((0:Int),(0:Int))))
def Bt(a6:List RS)(aa0:Int):Option jQ:=
 (Option.bind (α:=Unit) (bif (decide (aa0<0)) then none else(some ())) (λx1=>(match x1 with|_=>((Ly (C1 (a6.length:Int)) (C1 aa0)).bind λx3=>(Option.bind (α:=Unit) (bif (bif (decide ((0:Int)<x3.1)) then true else(decide ((9223372036854775807:Int)<x3.2))) then none else(some ())) (λx4=>(match x4 with|_=>(Cd (0<=(Ap x3.2)/\(Ap x3.2)<=(Ap x3.2)/\(Ap x3.2)<=(room:Int)) ((Ah (S:=lU) (X:=List Gy) Ch (((Nat.min a6.length ((List.replicate (Ap x3.2).toNat ((0:Int),(0:Int))).length-0)):Int),(TN (List.replicate (Ap x3.2).toNat ((0:Int),(0:Int))) 0 (Nat.min a6.length ((List.replicate (Ap x3.2).toNat ((0:Int),(0:Int))).length-0)) (λi=>a6.getD i ((0:Int),(0:Int)))))).bind (λx12=>(some x12)))))))))))
theorem M4(h:Bt v21 v1=some v22):sP 157 [(Z8 v21),(Z6 v1)] [] (AV.list 2 Bx ((0:Int),(0:Int)) v22 (.own 20000)) [(20000,.tok 2 73 v22.length)]:=
 sG Tryz.func157 λΓ q=>have hΓ:=q.own;gR q G7 [] [(4,nZ)] [] (c1 (Gj 2 Bx ((0:Int),(0:Int)))) (tB h λx1 y1 h=>gJ y1 (λ_=>aG Γ .normal (⟨[(0,(Z8 v21)),(1,(Z6 v1))],[],[]⟩:St)) (λy h=>Am q BS [] (gC h (λh=>nomatch h) λh=>tS h (gK (D1 (Db G7 [] q))))) (gA (tB h λx3 y3 h=>tT q [0,5,6] [] [⟨[],[],(.tuple [(Kf x3.1),(Kf x3.2)]),[],[],[]⟩] (c1 (BA y3)) (tB h λx4 y4 h=>gJ y4 (λ_=>aG Γ .normal (⟨[(0,(Z8 v21)),(6,(Kf x3.2))],[],[]⟩:St)) (λy h=>tU q [0,6,26] [] (c2 (gI ((decide ((0:Int)<x3.1))==false)) (S3 (decide ((0:Int)<x3.1)))) (gC h (λh=>nomatch h) λh=>tS h (gK (D1 (Db [0,6] [] q))))) (gA (tV q [0,7] [30] h λh=>by exact Mv (Le.trans (Xq 30 (show ∀ k_,k_<((Ap x3.2).toNat)->AVleL ((λi_=>AV.eraseAll (λn_=>Cj n_ [30]) ((λ_=>[Ke,Ke]) i_)) k_) ((λi=>Bx ((bv x3).getD i ((0:Int),(0:Int)))) k_) from(λk hk=>Xt (e:=Bx) (d:=((0:Int),(0:Int))) (.cons (AVle.refl _) (.cons (AVle.refl _) .nil)) _ k (Yc hk)))) (Th (λ(k_:Nat) u=>(Fo u [(7,(.vsl 30 k_))] [(30,.arr 2 73 k_ (λi=>Bx ((bv x3).getD i ((0:Int),(0:Int)))))])) (show(Ap x3.2).toNat=(bv x3).length from(Yk ..).symm))) (tU q Mu [30] (c1 (Eq.refl ((bv x3).length))) (Mv (Le.trans (Xq 30 (show ∀ k_,k_<((bv x3).length)->AVleL ((λi_=>AV.eraseAll (λn_=>Cj n_ [30]) ((OY (λi=>Bx ((bv x3).getD i ((0:Int),(0:Int)))) 0 (Nat.min v21.length ((bv x3).length-0)) (λi=>Bx (v21.getD i ((0:Int),(0:Int))))) i_)) k_) ((λi=>Bx ((n8 x3 v21).getD i ((0:Int),(0:Int)))) k_) from(Cp (F4 ..) (λk_ hk_=>(Cg (AV.eraseAll (λn_=>Cj n_ [30])) ((CN (e:=Bx) (d:=((0:Int),(0:Int))) (l:=(bv x3)) (s:=(λi=>v21.getD i ((0:Int),(0:Int)))) (λ_ _=>rfl) (λ_ _=>rfl)) k_ hk_)).trans rfl)))) (Th (λ(k_:Nat) u=>(Fo u [(7,(.vsl 30 k_))] [(30,.arr 2 73 k_ (λi=>Bx ((n8 x3 v21).getD i ((0:Int),(0:Int)))))])) (show(bv x3).length=(n8 x3 v21).length from(F4 ..)))) (tL q h Mu [30] (λu (i7,l8)=>(Fo u [(7,(.vsl 30 l8.length)),(8,(Z6 i7))] (oP l8))) (λu l9=>aG Γ (.exit 0) (⟨[(7,(.vsl 30 l9.length))],(oP l9),[]⟩:St)) (λ⟨i7,l8⟩ y h=>Am q [7,8,37] [30] (gC h (λh=>tC h λc10_ h=>tC h λc11_ h=>tU q Mu [30] (c4 c10_ c11_ (Eq.refl l8.length) (Eq.refl l8.length)) (tS h (gN (Le.trans (Le.trans (Xq 30 (show ∀ k_,k_<l8.length->AVleL ((λi_=>AV.eraseAll (λn_=>Cj n_ [30]) ((OY (λi=>Bx (l8.getD i ((0:Int),(0:Int)))) (0+i7.toNat) (Nat.min ((0+i7.toNat)-0) (l8.length-(0+i7.toNat))) (λi=>(λi=>Bx (l8.getD i ((0:Int),(0:Int)))) (0+i))) i_)) k_) ((λi=>Bx ((n7 l8 i7).getD i ((0:Int),(0:Int)))) k_) from(Cp (F4 ..) (λk_ hk_=>(Cg (AV.eraseAll (λn_=>Cj n_ [30])) ((CN (e:=Bx) (d:=((0:Int),(0:Int))) (l:=l8) (s:=(λi=>l8.getD (0+i) ((0:Int),(0:Int)))) (λ_ _=>rfl) (λ_ _=>rfl)) k_ hk_)).trans rfl)))) (Th (λ(k_:Nat) u=>(Fo u [(7,(.vsl 30 k_))] [(30,.arr 2 73 k_ (λi=>Bx ((n7 l8 i7).getD i ((0:Int),(0:Int)))))])) (show l8.length=(n7 l8 i7).length from(F4 ..)))) Mw)))) λh=>tS h (gO (D1 (Db [7] [30] q))))) λx12 h=>gA (Am q [4] [30] (Sb (⟨[(4,(.vsl 30 x12.length))],(oP x12),[]⟩:St) (tS h (gK (e:=.ret) (Kp [(30,20000)] (Le.trans (Lv (nm:=30) (sz:=2) (n:=x12.length) (e:=73) (f:=(λi=>Bx (x12.getD i ((0:Int),(0:Int))))) (g:=(λi=>Bx (x12.getD i ((0:Int),(0:Int))))) rfl ⟨rfl,trivial⟩ (λ_ _=>rfl) (by rw[hΓ];rfl)) (N1 (st':=⟨[(4,(AV.list 2 Bx ((0:Int),(0:Int)) x12 (.own 30)))],[(30,.tok 2 73 x12.length)],[]⟩) (by kernel_rfl)))))))))))))))))
def oz(a1:Bl):List SN:=[(nf a1.Kind a1.Bits a1.Lanes a1.Dst a1.Args a1.Imm),(3,.row 73 [gb,gb]),(4,.row 73 [(HB 64),gb]),(5,.row 73 [(Z6 a1.Bits),(Z6 a1.Lanes)]),(6,.row 73 [(Z6 a1.Bits),gb])]
def K6(a1:Bl):Option jQ:=
 (bif (a1.Kind==0) then((Fk ([]:List Gy)).bind λx1=>(some x1)) else(bif (a1.Kind==13) then((Fk ([((1:Int),(1:Int)),(a1.Bits,a1.Lanes),(a1.Bits,a1.Lanes)]:List Gy)).bind λx2=>(some x2)) else(Option.bind (α:=Bool) (bif (a1.Kind==14) then(some (a1.Kind==14)) else(some (a1.Kind==15))) (λx4=>(bif x4 then((Fk ([((Ap a1.Imm),(1:Int))]:List Gy)).bind λx6=>(some x6)) else(bif (a1.Kind==16) then((Fk ([((64:Int),(1:Int))]:List Gy)).bind λx7=>(some x7)) else(bif (a1.Kind==17) then((Fk ([((64:Int),(1:Int)),(a1.Bits,a1.Lanes)]:List Gy)).bind λx8=>(some x8)) else(Option.bind (α:=Bool) (bif (a1.Kind==18) then(some (a1.Kind==18)) else(some (a1.Kind==19))) (λx10=>(bif x10 then((Fk ([((1:Int),(1:Int)),((64:Int),(1:Int)),(a1.Bits,(1:Int))]:List Gy)).bind λx12=>(some x12)) else(bif (a1.Kind==20) then((Fk ([((1:Int),(1:Int)),(a1.Bits,(1:Int)),(a1.Bits,(1:Int)),(a1.Bits,(1:Int))]:List Gy)).bind λx13=>(some x13)) else(bif (a1.Kind==21) then((Bt ([(a1.Bits,(1:Int))]:List Gy) a1.Lanes).bind λx14=>((Fk x14).bind λx15=>(some x15))) else(bif (a1.Kind==22) then((Fk ([(a1.Bits,a1.Lanes)]:List Gy)).bind λx16=>(some x16)) else((Fk ([(a1.Bits,a1.Lanes),(a1.Bits,a1.Lanes)]:List Gy)).bind λx17=>(some x17)))))))))))))))
theorem Vq(h:K6 v3=some v21):sP 143 [(S2 v3)] [] (Z8 v21) []:=
 sG Tryz.func143 λΓ q=>gR q [1] [1] [(2,nZ)] [] (c1 (Gj 2 Bx ((0:Int),(0:Int)))) (tW q [1,3,4] [1,3,4] Uk Uk (tW q [1,3,4,5,6,18] Uk [1,3,4,5,6,18,19] Uk (gC h (λh=>tB h λx1 y1 h=>tT q [2] [] [(YW x1)] (c1 (show(sP 156 [Z5] [] (Z8 x1) []) from(Spec.args (.cons gk .nil) (F1 y1)))) (tS h (Ck []))) λh=>Am q [1,3,4,5,6,18,22] Uk (gC h (λh=>tB h λx2 y2 h=>gR q [2] [] [(27,(AV.list 2 Bx ((0:Int),(0:Int)) ([((1:Int),(1:Int)),(v3.Bits,v3.Lanes),(v3.Bits,v3.Lanes)]:List Gy) .exact))] [(YW x2)] (c2 (Bn 2 Bx ((0:Int),(0:Int)) ([((1:Int),(1:Int)),(v3.Bits,v3.Lanes),(v3.Bits,v3.Lanes)]:List Gy)) (F1 y2)) (tS h (Ck []))) λh=>tB h λx4 y4 h=>gJ y4 (λb3=>aG Γ .normal (⟨[(1,(.ptr 1 0)),(3,(.ptr 3 0)),YX,(5,(.ptr 5 0)),NT,(18,(Z6 v3.Kind)),(29,(.bool b3))],(oz v3),[]⟩:St)) (λy h=>Am q [1,3,4,5,6,18,29] Uk (gC h (λh=>tS h (gK (D1 Mw))) λh=>Am q [1,3,4,5,6,18,29] Uk (tS h (gK (D1 Mw))))) (gA (gC h (λh=>tB h λx6 y6 h=>gR q [2] [] [(36,(AV.list 2 Bx ((0:Int),(0:Int)) ([((Ap v3.Imm),(1:Int))]:List Gy) .exact))] [(YW x6)] (c2 (Bn 2 Bx ((0:Int),(0:Int)) ([((Ap v3.Imm),(1:Int))]:List Gy)) (F1 y6)) (tS h (Ck []))) λh=>Am q [1,3,4,5,6,18,38] Uk (gC h (λh=>tB h λx7 y7 h=>gR q [2] [] [(41,(AV.list 2 Bx ((0:Int),(0:Int)) ([((64:Int),(1:Int))]:List Gy) .exact))] [(YW x7)] (c2 (Bn 2 Bx ((0:Int),(0:Int)) ([((64:Int),(1:Int))]:List Gy)) (F1 y7)) (tS h (Ck []))) λh=>Am q [1,3,4,5,6,18,43] Uk (gC h (λh=>tB h λx8 y8 h=>gR q [2] [] [(47,(AV.list 2 Bx ((0:Int),(0:Int)) ([((64:Int),(1:Int)),(v3.Bits,v3.Lanes)]:List Gy) .exact))] [(YW x8)] (c2 (Bn 2 Bx ((0:Int),(0:Int)) ([((64:Int),(1:Int)),(v3.Bits,v3.Lanes)]:List Gy)) (F1 y8)) (tS h (Ck []))) λh=>tB h λx10 y10 h=>gJ y10 (λb9=>aG Γ .normal (⟨[(1,(.ptr 1 0)),(3,(.ptr 3 0)),YX,(5,(.ptr 5 0)),NT,(18,(Z6 v3.Kind)),(49,(.bool b9))],(oz v3),[]⟩:St)) (λy h=>Am q [1,3,4,5,6,18,49] Uk (gC h (λh=>tS h (gK (D1 Mw))) λh=>Am q [1,3,4,5,6,18,49] Uk (tS h (gK (D1 Mw))))) (gA (gC h (λh=>tB h λx12 y12 h=>gR q [2] [] [(55,(AV.list 2 Bx ((0:Int),(0:Int)) ([((1:Int),(1:Int)),((64:Int),(1:Int)),(v3.Bits,(1:Int))]:List Gy) .exact))] [(YW x12)] (c2 (Bn 2 Bx ((0:Int),(0:Int)) ([((1:Int),(1:Int)),((64:Int),(1:Int)),(v3.Bits,(1:Int))]:List Gy)) (F1 y12)) (tS h (Ck []))) λh=>Am q [1,3,5,6,18,57] [1,3,5,6] (gC h (λh=>tB h λx13 y13 h=>gR q [2] [] [(63,(AV.list 2 Bx ((0:Int),(0:Int)) ([((1:Int),(1:Int)),(v3.Bits,(1:Int)),(v3.Bits,(1:Int)),(v3.Bits,(1:Int))]:List Gy) .exact))] [(YW x13)] (c2 (Bn 2 Bx ((0:Int),(0:Int)) ([((1:Int),(1:Int)),(v3.Bits,(1:Int)),(v3.Bits,(1:Int)),(v3.Bits,(1:Int))]:List Gy)) (F1 y13)) (tS h (Ck []))) λh=>Am q [1,5,6,18,65] [1,5,6] (gC h (λh=>tB h λx14 y14 h=>tB h λx15 y15 h=>gR q [2] [] [(68,(AV.list 2 Bx ((0:Int),(0:Int)) ([(v3.Bits,(1:Int))]:List Gy) .exact))] [⟨[],[(20000,71)],(AV.list 2 Bx ((0:Int),(0:Int)) x14 (.own 20000)),[(20000,.tok 2 73 x14.length)],[],[]⟩,(YW x15)] (c3 (Bn 2 Bx ((0:Int),(0:Int)) ([(v3.Bits,(1:Int))]:List Gy)) (M4 y14) (F1 y15)) (tS h (Ck []))) λh=>Am q [5,73] [5] (gC h (λh=>tB h λx16 y16 h=>gR q [2] [] [(76,(AV.list 2 Bx ((0:Int),(0:Int)) ([(v3.Bits,v3.Lanes)]:List Gy) .exact))] [(YW x16)] (c2 (Bn 2 Bx ((0:Int),(0:Int)) ([(v3.Bits,v3.Lanes)]:List Gy)) (F1 y16)) (tS h (Ck []))) λh=>tB h λx17 y17 h=>gR q [2] [] [(80,(AV.list 2 Bx ((0:Int),(0:Int)) ([(v3.Bits,v3.Lanes),(v3.Bits,v3.Lanes)]:List Gy) .exact))] [(YW x17)] (c2 (Bn 2 Bx ((0:Int),(0:Int)) ([(v3.Bits,v3.Lanes),(v3.Bits,v3.Lanes)]:List Gy)) (F1 y17)) (tS h (Ck [])))))))))))))))
def Iv(a8:Int):Option Bool:=
 (some (bif (decide ((1:Int)<=a8)) then(decide (a8<=1023)) else false))
theorem Sg(h:Iv v1=some v5):sP 173 [(Z6 v1)] [] (.bool v5) []:=
 sG Tryz.func173 λΓ q=>Am q [0] [] (tU q [2] [] (c2 (gI ((decide ((1:Int)<=v1))==true)) (Nt (decide ((1:Int)<=v1)))) (tS h (Ck [])))
def Gu(a1:Bl):Int->Option (LR Int (Unit ⊕ Bool)):=
 λ(i2:Int)=>(bif (decide (i2<(a1.Args.length:Int))) then(Cd (Bv i2 a1.Args.length) ((Iv (a1.Args.getD i2.toNat 0)).bind λx4=>(bif (!x4) then(some (.done (.inr false))) else(some (.next (Ap (i2+1))))))) else(some (.done (.inl ()))))
def DE(Γ:G0)(a1:Bl)(r:Bool):Exit->St->Prop:=fK Tryz.prog Γ Tryz.f154.results.toList [] (.bool r) []
def K2(a1:Bl):Option Bool:=
 ((K6 a1).bind λx1=>(bif ((a1.Args.length:Int)!=(x1.length:Int)) then(some false) else((Ah (Gu a1) (0:Int)).bind (λx5=>(match x5 with|(.inl _)=>(some true)|(.inr r7)=>(some r7))))))
theorem CC(h:K2 v3=some v5):sP 154 [(S2 v3)] [] (.bool v5) []:=
 sG Tryz.func154 λΓ q=>Am q [1] [1] (tB h λx1 y1 h=>tT q [1,11] [1] [(YW x1)] (c1 (Vq y1)) (gC h (λh=>Am q [2] [] (tS h (Ck []))) λh=>Am q [13,14,15] [] (tL q h [13,14,15] [] (λu i2=>(Fo u [(15,(Z6 i2))] [])) (λu x_=>match x_ with|(.inl _)=>aG Γ (.exit 0) (⟨[],[],[]⟩:St)|(.inr r_)=>aR (DE Γ v3 r_)) (λi2 y h=>Am q [13,14,15,16] [] (gC h (λh=>tV q [4,13,14,15] [] h λh=>tB h λx4 y4 h=>tT q [13,14,15,21] [] [(Z2 x4)] (c1 (Sg y4)) (gC h (λh=>Am q [2] [] (tS h (gO (Sr (Kp [] (Le.refl _ _)))))) λh=>Am q [13,14,15] [] (tN h))) λh=>tS h (gO (D1 (Db [] [] q))))) λx5 h=>(match x5,h with | .inl _,h=>gA (Am q [2] [] (tS h (Ck []))) | .inr r7,h=>Wj (λst' hk=>tS h (gK hk))))))
def o4(a1:Bl):List SN:=[(nf a1.Kind a1.Bits a1.Lanes a1.Dst a1.Args a1.Imm)]
def K4(a1:Bl):Option Gy:=
 (Option.bind (α:=Bool) (bif (a1.Kind==17) then(some (a1.Kind==17)) else(some (a1.Kind==19))) (λx2=>(bif x2 then(some ((0:Int),(0:Int))) else(Option.bind (α:=Bool) (bif (a1.Kind==10) then(some (a1.Kind==10)) else(bif (a1.Kind==11) then(some (a1.Kind==11)) else(some (a1.Kind==12)))) (λx5=>(bif x5 then(some ((1:Int),(1:Int))) else(bif (a1.Kind==22) then(some (a1.Bits,(1:Int))) else(some (a1.Bits,a1.Lanes)))))))))
theorem Vp(h:K4 v3=some v19):sP 142 [(S2 v3)] [] (.tuple [(Z6 v19.1),(Z6 v19.2)]) []:=
 sG Tryz.func142 λΓ q=>tW q [1] [1] [1,5] [1] (tB h λx2 y2 h=>gJ y2 (λb1=>aG Γ .normal (⟨[(1,(.ptr 1 0)),(5,(Z6 v3.Kind)),(6,(.bool b1))],(o4 v3),[]⟩:St)) (λy h=>Am q [1,5,6] [1] (gC h (λh=>tS h (gK (D1 Mw))) λh=>Am q [1,5,6] [1] (tS h (gK (D1 Mw))))) (gA (gC h (λh=>Am q Ul [] (tS h (Ck []))) λh=>tB h λx5 y5 h=>gJ y5 (λb4=>aG Γ .normal (⟨[(1,(.ptr 1 0)),(5,(Z6 v3.Kind)),(9,(.bool b4))],(o4 v3),[]⟩:St)) (λy h=>Am q [1,5,9] [1] (gC h (λh=>tS h (gK (D1 Mw))) λh=>Am q [1,5,9] [1] (gC h (λh=>tS h (gK (D1 Mw))) λh=>Am q [1,5,9] [1] (tS h (gK (D1 Mw)))))) (gA (gC h (λh=>Am q Ul [] (tS h (Ck []))) λh=>Am q [1,13] [1] (gC h (λh=>Am q Ul [] (tS h (Ck []))) λh=>Am q Ul [] (tS h (Ck []))))))))
def K3(a1:Bl):Option Bool:=
 ((K4 a1).bind λx1=>(bif (x1.1==0) then(some (a1.Dst==0)) else((Iv a1.Dst).bind λx2=>(some x2))))
theorem CD(h:K3 v3=some v5):sP 155 [(S2 v3)] [] (.bool v5) []:=
 sG Tryz.func155 λΓ q=>Am q [1] [1] (tB h λx1 y1 h=>tT q [1,3] [1] [⟨[],[],(.tuple [(Z6 x1.1),(Z6 x1.2)]),[],[],[]⟩] (c1 (Vp y1)) (Am q [1,11] [1] (gC h (λh=>Am q [2] [] (tS h (Ck []))) λh=>tB h λx2 y2 h=>tT q [2] [] [(Z2 x2)] (c1 (Sg y2)) (tS h (Ck [])))))
def jX(x1:Bool)(x2:Bool):=(bif (!x1) then true else(!x2))
def L1(a1:Bl):Option Bool:=
 ((Md a1.Kind).bind λx1=>((bif ((!x1)==false) then Nk a1.Bits a1.Lanes else some false).bind λx2=>((bif ((bif (!x1) then true else(!x2))==false) then Jd a1 else some false).bind λx3=>((bif ((bif (bif (!x1) then true else(!x2)) then true else(!x3))==false) then K5 a1 else some false).bind λx4=>(bif (bif (bif (bif (!x1) then true else(!x2)) then true else(!x3)) then true else(!x4)) then(some false) else((K2 a1).bind λx5=>((bif (x5==true) then K3 a1 else some false).bind λx6=>(some (bif x5 then x6 else false)))))))))
theorem Tv(h:L1 v3=some v5):sP 140 [(S2 v3)] [] (.bool v5) []:=
 sG Tryz.func140 λΓ q=>Am q [1] [1] (tB h λx1 y1 h=>tB h λx2 y2 h=>tB h λx3 y3 h=>tB h λx4 y4 h=>tT q [1,24] [1] [(Z2 x1),(Z2 x2),(Z2 x3),(Z2 x4)] (ci (FC y1) (iG ((!x1)==false) (nk (λ(hg:((!x1)==false)=true)=>(HR (Bz hg y2))) (gI ((!x1)==false)) (S3 (!x1)) (gI ((jX x1 x2)==false)) (λ(hg:((jX x1 x2)==false)=true)=>(X6 (Bz hg y3))) (gI ((jX x1 x2)==false)) (S3 (jX x1 x2)) (gI ((bif (jX x1 x2) then true else(!x3))==false)) (λ(hg:((bif (jX x1 x2) then true else(!x3))==false)=true)=>(CE (Bz hg y4))) (c2 (gI ((bif (jX x1 x2) then true else(!x3))==false)) (S3 (bif (jX x1 x2) then true else(!x3))))))) (gC h (λh=>Am q [2] [] (tS h (Ck []))) λh=>tB h λx5 y5 h=>tB h λx6 y6 h=>tT q [2] [] [(Z2 x5),(Z2 x6)] (c4 (CC y5) (gI (x5==true)) (λ(hg:(x5==true)=true)=>(CD (Bz hg y6))) (Nt x5)) (tS h (Ck []))))
def Ni(a1:Bl)(aQ:Int):Option Bool:=
 (bif (aQ==0) then(some (bif (decide (a1.Kind<=17)) then(a1.Lanes==1) else false)) else(bif (aQ==1) then(some (bif (decide (a1.Kind<=20)) then(a1.Lanes==1) else false)) else(some true)))
theorem HM(h:Ni v3 v1=some v5):sP 141 [(S2 v3),(Z6 v1)] [] (.bool v5) []:=
 sG Tryz.func141 λΓ q=>tW q Wc [2] [2,5] [2] (Am q Wa [2] (gC h (λh=>tU q [4] [] (Xn ((decide (v3.Kind<=17))==true) (c1 (Nt (decide (v3.Kind<=17))))) (tS h (Ck []))) λh=>Am q Wb [2] (gC h (λh=>tU q [4] [] (Xn ((decide (v3.Kind<=20))==true) (c1 (Nt (decide (v3.Kind<=20))))) (tS h (Ck []))) λh=>Am q [4] [] (tS h (Ck [])))))
abbrev Ub:=(Bool×Aa×Int×Aq×List A8)
def Fd(a1:Bl)(a0:Aa)(a4:Int)(a9:Aq)(a5:List A8):Option Ub:=
 ((L1 a1).bind λx1=>((bif (x1==true) then Ni a1 a4 else some false).bind λx2=>(some ((bif x1 then x2 else false),a0,a4,a9,a5))))
variable{v23:Ub}
theorem Pu(h:Fd v3 v0 v1 v4 v12=some v23):sP 119 [Yt,(S2 v3)] (Z3 v0.Params v0.Ret v0.Blocks v1 v4 v12 v12.length) (.bool v23.1) (Z3 v23.2.1.Params v23.2.1.Ret v23.2.1.Blocks v23.2.2.1 v23.2.2.2.1 v23.2.2.2.2 v23.2.2.2.2.length):=
 sG Tryz.func119 λΓ q=>Am q Wd SB (tB h λx1 y1 h=>tB h λx2 y2 h=>tT q [4] Fq [(Z2 x1),(Z2 x2)] (ci (Tv y1) (kx (x1==true) (c2 (λ(hg:(x1==true)=true)=>(HM (Bz hg y2))) (Nt x1)))) (tS h (Ck CH)))
abbrev M8:=(Int×Aq×Int×List Ag×Int×Aq×List A8)
abbrev nD:=(LR (Int×Aq×Int×List Ag×Int×Aq×List A8) ((Aq×Int×List Ag×Int×Aq×List A8) ⊕ (Bool×Aa×Int×Aq×List A8)))
def Ep(aB:List Bl):M8->Option nD:=
 λ((i1,l2,i3,l4,i5,l6,l7):M8)=>(bif (decide (i1<(aB.length:Int))) then(Cd (Bv i1 aB.length) ((Fd (aB.getD i1.toNat default) (⟨l2,i3,l4⟩:Aa) i5 l6 l7).bind λx15=>(bif (!x15.1) then(some (.done (.inr (false,x15.2.1,x15.2.2.1,x15.2.2.2.1,x15.2.2.2.2)))) else(some (.next ((Ap (i1+1)),x15.2.1.Params,x15.2.1.Ret,x15.2.1.Blocks,x15.2.2.1,x15.2.2.2.1,x15.2.2.2.2)))))) else(some (.done (.inl (l2,i3,l4,i5,l6,l7)))))
def We(Γ:G0)(aB:List Bl)(a0:Aa)(a4:Int)(a9:Aq)(a5:List A8)(r:Ub):Exit->St->Prop:=fK Tryz.prog Γ Tryz.f118.results.toList (Z3 a0.Params a0.Ret a0.Blocks a4 a9 a5 a5.length) (.bool r.1) (Z3 r.2.1.Params r.2.1.Ret r.2.1.Blocks r.2.2.1 r.2.2.2.1 r.2.2.2.2 r.2.2.2.2.length)
def Hs(aB:List Bl)(a0:Aa)(a4:Int)(a9:Aq)(a5:List A8):Option Ub:=
 ((Ah (Ep aB) ((0:Int),a0.Params,a0.Ret,a0.Blocks,a4,a9,a5)).bind (λx16=>(match x16 with|(.inl (l8,i9,l10,i11,l12,l13))=>(some (true,(⟨l8,i9,l10⟩:Aa),i11,l12,l13))|(.inr r18)=>(some r18))))
theorem Ve(h:Hs v8 v0 v1 v4 v12=some v23):sP 118 [(AV.list 6 Js default v8 .none),(.clo 119 [Yt] [])] (Z3 v0.Params v0.Ret v0.Blocks v1 v4 v12 v12.length) (.bool v23.1) (Z3 v23.2.1.Params v23.2.1.Ret v23.2.1.Blocks v23.2.2.1 v23.2.2.2.1 v23.2.2.2.2 v23.2.2.2.2.length):=
 sG Tryz.func118 λΓ q=>tW q G7 Fq Ij Fq (tL q h Ij Fq (λu (i1,l2,i3,l4,i5,l6,l7)=>(Fo u [(9,(Z6 i1))] (Z3 l2 i3 l4 i5 l6 l7 l7.length))) (λu x_=>match x_ with|(.inl (l8,i9,l10,i11,l12,l13))=>aG Γ (.exit 0) (⟨[],(Z3 l8 i9 l10 i11 l12 l13 l13.length),[]⟩:St)|(.inr r_)=>aR (We Γ v8 v0 v1 v4 v12 r_)) (λ⟨i1,l2,i3,l4,i5,l6,l7⟩ y h=>Am q BQ Fq (gC h (λh=>tV q BR [6,30000,37006] h λh=>tB h λx15 y15 h=>tT q GS Fq [(na x15.1 x15.2.1.Params x15.2.1.Ret x15.2.1.Blocks x15.2.2.1 x15.2.2.2.1 x15.2.2.2.2 x15.2.2.2.2.length)] (c1 (Pu y15)) (gC h (λh=>Am q [4] Fq (tS h (gO (Sr (Kp CH (Le.refl _ _)))))) λh=>Am q Ij Fq (tN h))) λh=>tS h (gO (D1 (Db [] Fq q))))) λx16 h=>(match x16,h with | .inl ⟨l8,i9,l10,i11,l12,l13⟩,h=>gA (Am q [4] Fq (tS h (Ck CH))) | .inr r18,h=>Wj (λst' hk=>tS h (gK hk))))
def oB(x1:Bool)(x2:Ub)(a9:Aq):AV:=(pD x1 x2.2.2.2.1 a9)
def oA(x1:Bool)(x2:Ub)(a0:Aa):AV:=(pD x1 x2.2.1.Params a0.Params)
def n9(x1:Bool)(x2:Ub)(a0:Aa):AV:=(.slice 5 (bif (x1==true) then x2.2.1.Blocks.length else a0.Blocks.length) (λi=>bif (x1==true) then F6 (x2.2.1.Blocks.getD i default) else F6 (a0.Blocks.getD i default)) .none)
def Eb(aL:Ag)(a0:Aa)(a4:Int)(a9:Aq)(a5:List A8):Option Ub:=
 ((G8 aL.Phis).bind λx1=>((bif (x1==true) then Hs aL.Ops a0 a4 a9 a5 else some (false,(default:Aa),(0:Int),[],[])).bind λx2=>(some ((bif x1 then x2.1 else false),(⟨(bif (x1==true) then x2.2.1.Params else a0.Params),(bif (x1==true) then x2.2.1.Ret else a0.Ret),(bif (x1==true) then x2.2.1.Blocks else a0.Blocks)⟩:Aa),(bif (x1==true) then x2.2.2.1 else a4),(bif (x1==true) then x2.2.2.2.1 else a9),(bif (x1==true) then x2.2.2.2.2 else a5)))))
theorem Nm(h:Eb v10 v0 v1 v4 v12=some v23):sP 91 [Yt,(.agg (F6 v10))] (Z3 v0.Params v0.Ret v0.Blocks v1 v4 v12 v12.length) (.bool v23.1) (Z3 v23.2.1.Params v23.2.1.Ret v23.2.1.Blocks v23.2.2.1 v23.2.2.2.1 v23.2.2.2.2 v23.2.2.2.2.length):=
 sG Tryz.func91 λΓ q=>Am q Wd SB (tB h λx1 y1 h=>tB h λx2 y2 h=>tT q [4] Fq [(Z2 x1),(na x2.1 x2.2.1.Params x2.2.1.Ret x2.2.1.Blocks x2.2.2.1 x2.2.2.2.1 x2.2.2.2.2 x2.2.2.2.2.length)] (ci (Tn y1) (iG (x1==true) (c2 (λ(hg:(x1==true)=true)=>(Ve (Bz hg y2))) (Nt x1)))) (tS h (gK (e:=.ret) (Kp CH (Le.trans (oX (λg_ u=>(Fo u [] [(30000,.row 110 [(oA x1 x2 v0),(.int .i64 (bif (x1==true) then x2.2.1.Ret else v0.Ret)),(n9 x1 x2 v0),(.int .i64 (bif (x1==true) then x2.2.2.1 else v1)),(oB x1 x2 v4),.nilm,(oK g_ x2.2.2.2.2 v12)]),(37006,.tok 5 158 (bif g_ then x2.2.2.2.2.length else v12.length))])) (λg_ u=>(Fo u [] [(30000,.row 110 [(oA x1 x2 v0),(.int .i64 (bif (x1==true) then x2.2.1.Ret else v0.Ret)),(n9 x1 x2 v0),(.int .i64 (bif (x1==true) then x2.2.2.1 else v1)),(oB x1 x2 v4),.nilm,(AV.list 5 Jt default (bif g_ then x2.2.2.2.2 else v12) (.own 37006))]),(37006,.tok 5 158 ((bif g_ then x2.2.2.2.2 else v12).length))])) (x1==true)) (Le.trans (iP 30000 0 (show AVle (oA x1 x2 v0) (AV.list 1 As 0 (bif (x1==true) then x2.2.1.Params else v0.Params) .none) from Gi)) (Le.trans (iP 30000 2 (show AVle (n9 x1 x2 v0) (AV.list 5 F6 default (bif (x1==true) then x2.2.1.Blocks else v0.Blocks) .none) from Gi)) (iP 30000 4 (show AVle (oB x1 x2 v4) (AV.list 1 As 0 (bif (x1==true) then x2.2.2.2.1 else v4) .none) from Gi)))))))))
def Dx(aB:List Ag):M8->Option nD:=
 λ((i1,l2,i3,l4,i5,l6,l7):M8)=>(bif (decide (i1<(aB.length:Int))) then(Cd (Bv i1 aB.length) ((Eb (aB.getD i1.toNat default) (⟨l2,i3,l4⟩:Aa) i5 l6 l7).bind λx15=>(bif (!x15.1) then(some (.done (.inr (false,x15.2.1,x15.2.2.1,x15.2.2.2.1,x15.2.2.2.2)))) else(some (.next ((Ap (i1+1)),x15.2.1.Params,x15.2.1.Ret,x15.2.1.Blocks,x15.2.2.1,x15.2.2.2.1,x15.2.2.2.2)))))) else(some (.done (.inl (l2,i3,l4,i5,l6,l7)))))
def Sp(Γ:G0)(aB:List Ag)(a0:Aa)(a4:Int)(a9:Aq)(a5:List A8)(r:Ub):Exit->St->Prop:=fK Tryz.prog Γ Tryz.f90.results.toList (Z3 a0.Params a0.Ret a0.Blocks a4 a9 a5 a5.length) (.bool r.1) (Z3 r.2.1.Params r.2.1.Ret r.2.1.Blocks r.2.2.1 r.2.2.2.1 r.2.2.2.2 r.2.2.2.2.length)
def F7(aB:List Ag)(a0:Aa)(a4:Int)(a9:Aq)(a5:List A8):Option Ub:=
 ((Ah (Dx aB) ((0:Int),a0.Params,a0.Ret,a0.Blocks,a4,a9,a5)).bind (λx16=>(match x16 with|(.inl (l8,i9,l10,i11,l12,l13))=>(some (true,(⟨l8,i9,l10⟩:Aa),i11,l12,l13))|(.inr r18)=>(some r18))))
theorem Ro(h:F7 v11 v0 v1 v4 v12=some v23):sP 90 [(LI v11),(.clo 91 [Yt] [])] (Z3 v0.Params v0.Ret v0.Blocks v1 v4 v12 v12.length) (.bool v23.1) (Z3 v23.2.1.Params v23.2.1.Ret v23.2.1.Blocks v23.2.2.1 v23.2.2.2.1 v23.2.2.2.2 v23.2.2.2.2.length):=
 sG Tryz.func90 λΓ q=>tW q G7 Fq Ij Fq (tL q h Ij Fq (λu (i1,l2,i3,l4,i5,l6,l7)=>(Fo u [(9,(Z6 i1))] (Z3 l2 i3 l4 i5 l6 l7 l7.length))) (λu x_=>match x_ with|(.inl (l8,i9,l10,i11,l12,l13))=>aG Γ (.exit 0) (⟨[],(Z3 l8 i9 l10 i11 l12 l13 l13.length),[]⟩:St)|(.inr r_)=>aR (Sp Γ v11 v0 v1 v4 v12 r_)) (λ⟨i1,l2,i3,l4,i5,l6,l7⟩ y h=>Am q BQ Fq (gC h (λh=>tV q BR [6,30000,37006] h λh=>tB h λx15 y15 h=>tT q GS Fq [(na x15.1 x15.2.1.Params x15.2.1.Ret x15.2.1.Blocks x15.2.2.1 x15.2.2.2.1 x15.2.2.2.2 x15.2.2.2.2.length)] (c1 (Nm y15)) (gC h (λh=>Am q [4] Fq (tS h (gO (Sr (Kp CH (Le.refl _ _)))))) λh=>Am q Ij Fq (tN h))) λh=>tS h (gO (D1 (Db [] Fq q))))) λx16 h=>(match x16,h with | .inl ⟨l8,i9,l10,i11,l12,l13⟩,h=>gA (Am q [4] Fq (tS h (Ck CH))) | .inr r18,h=>Wj (λst' hk=>tS h (gK hk))))
def YV(x1:Bool)(x2:Bool):=((bif x1 then x2 else false)==true)
def oE(x1:Bool)(x2:Bool)(x3:Ub)(a9:Aq):AV:=(nY (YV x1 x2) x3.2.2.2.1 a9)
def oD(x1:Bool)(x2:Bool)(x3:Ub)(a0:Aa):AV:=(nY (YV x1 x2) x3.2.1.Params a0.Params)
def oC(x1:Bool)(x2:Bool)(x3:Ub)(a0:Aa):AV:=(pC (YV x1 x2) x3.2.1.Blocks a0.Blocks)
def F8(a0:Aa)(a4:Int)(a9:Aq)(a5:List A8):Option bU:=
 ((J0 a0.Params).bind λx1=>((bif (x1==true) then G5 a0.Ret else some false).bind λx2=>((bif ((bif x1 then x2 else false)==true) then F7 a0.Blocks a0 a4 a9 a5 else some (false,(default:Aa),(0:Int),[],[])).bind λx3=>((Ir (bif (bif x1 then x2 else false) then x3.1 else false) (6:Int)).bind λx4=>(some (x4,(⟨(bif ((bif x1 then x2 else false)==true) then x3.2.1.Params else a0.Params),(bif ((bif x1 then x2 else false)==true) then x3.2.1.Ret else a0.Ret),(bif ((bif x1 then x2 else false)==true) then x3.2.1.Blocks else a0.Blocks)⟩:Aa),(bif ((bif x1 then x2 else false)==true) then x3.2.2.1 else a4),(bif ((bif x1 then x2 else false)==true) then x3.2.2.2.1 else a9),(bif ((bif x1 then x2 else false)==true) then x3.2.2.2.2 else a5)))))))
theorem Rp(h:F8 v0 v1 v4 v12=some v13):sP 73 [Yt] (Z3 v0.Params v0.Ret v0.Blocks v1 v4 v12 v12.length) (Z6 v13.1) (Z3 v13.2.1.Params v13.2.1.Ret v13.2.1.Blocks v13.2.2.1 v13.2.2.2.1 v13.2.2.2.2 v13.2.2.2.2.length):=
 sG Tryz.func73 λΓ q=>Am q [0] Fq (tB h λx1 y1 h=>tB h λx2 y2 h=>tB h λx3 y3 h=>tT q [3] Fq [(Z2 x1),(Z2 x2),(na x3.1 x3.2.1.Params x3.2.1.Ret x3.2.1.Blocks x3.2.2.1 x3.2.2.2.1 x3.2.2.2.2 x3.2.2.2.2.length)] (ci (Zj y1) (kx (x1==true) (hZ (λ(hg:(x1==true)=true)=>(Iy (Bz hg y2))) (Nt x1) (pW (YV x1 x2) (c2 (λ(hg:(YV x1 x2)=true)=>(Ro (Bz hg y3))) (Nt (bif x1 then x2 else false))))))) (Mv (Le.trans (oX (λg_ u=>(Fo u [] [(30000,.row 110 [(oD x1 x2 x3 v0),(jd (YV x1 x2) x3.2.1.Ret v0.Ret),(oC x1 x2 x3 v0),(jd (YV x1 x2) x3.2.2.1 v1),(oE x1 x2 x3 v4),.nilm,(oK g_ x3.2.2.2.2 v12)]),(37006,.tok 5 158 (bif g_ then x3.2.2.2.2.length else v12.length))])) (λg_ u=>(Fo u [] [(30000,.row 110 [(oD x1 x2 x3 v0),(jd (YV x1 x2) x3.2.1.Ret v0.Ret),(oC x1 x2 x3 v0),(jd (YV x1 x2) x3.2.2.1 v1),(oE x1 x2 x3 v4),.nilm,(AV.list 5 Jt default (bif g_ then x3.2.2.2.2 else v12) (.own 37006))]),(37006,.tok 5 158 ((bif g_ then x3.2.2.2.2 else v12).length))])) (YV x1 x2)) (Le.trans (iP 30000 0 (show AVle (oD x1 x2 x3 v0) (AV.list 1 As 0 (bif (YV x1 x2) then x3.2.1.Params else v0.Params) .none) from Gi)) (Le.trans (iP 30000 2 (show AVle (oC x1 x2 x3 v0) (AV.list 5 F6 default (bif (YV x1 x2) then x3.2.1.Blocks else v0.Blocks) .none) from Gi)) (iP 30000 4 (show AVle (oE x1 x2 x3 v4) (AV.list 1 As 0 (bif (YV x1 x2) then x3.2.2.2.1 else v4) .none) from Gi))))) (tB h λx4 y4 h=>tT q [2] Fq [(DH x4)] (c1 (Sd y4)) (tS h (Ck CH)))))
def Dj(aM:Int):Option Gy:=
 (some (aM,(1:Int)))
theorem H5(h:Dj v1=some v19):sP 92 [(Z6 v1)] [] (DI v19) []:=
 sG Tryz.func92 λΓ q=>tW q [0,2] [2] [2] [2] (tS h (Ck []))
def li:=(λ(v_:Aj)=>((P1 v_):AV))
abbrev Jx:=(Int×Aj)
abbrev RT:=(Bool×Aa×Int×Aq×List A8×List (Int×Aj))
def Ec(a8:Int)(aY:Gy)(aJ:Ha)(a0:Aa)(a4:Int)(a9:Aq)(a7:List Jx)(a5:List A8):Option RT:=
 (bif (bif (bif (B6 a7 a8) then true else(decide (a8<1))) then true else(decide ((1023:Int)<a8))) then(some (false,a0,a4,a9,a5,a7)) else(some (true,a0,a4,a9,a5,(Et a7 a8 (⟨aY,aJ⟩:Aj)))))
variable{v24:Ha}{v25:List Jx}{v26:RT}
abbrev HZ:=(Int×AV)
theorem Kj(h:Ec v1 v19 v24 v0 v2 v4 v25 v12=some v26):sP 120 [Yt,(Z6 v1),(DI v19),(.agg (CP v24))] [(Z1 v0.Params v0.Ret v0.Blocks v2 v4 9100005 v12),(Nr v12.length),(9100005,.obj (.map true .i64 (mapE (λ(v_:Aj)=>((P1 v_):AV)) v25)))] (.bool v26.1) [(Z1 v26.2.1.Params v26.2.1.Ret v26.2.1.Blocks v26.2.2.1 v26.2.2.2.1 9100005 v26.2.2.2.2.1),(Nr v26.2.2.2.2.1.length),(9100005,.obj (.map true .i64 (mapE (λ(v_:Aj)=>((P1 v_):AV)) v26.2.2.2.2.2)))]:=
 sG Tryz.func120 λΓ q=>Am q [0,1,6,7] YJ (gR q [0,1,6,7,10] YJ [(17,(.tuple [(ja v25 v1),(.bool (B6 v25 v1))]))] [] (c1 (show(AVle (.tuple [mget (.agg [Ke,Ke,Ke,Ke]) (mapE li v25) v1,.bool (B6 (mapE li v25) v1)]) (.tuple [(ja v25 v1),(.bool (B6 v25 v1))])) from(Xy (f:=li) (l:=v25) (AVle.refl _) rfl))) (tU q [0,1,6,7,28] YJ (c4 (gI ((B6 v25 v1)==false)) (S3 (B6 v25 v1)) (gI ((bif (B6 v25 v1) then true else(decide (v1<1)))==false)) (S3 (bif (B6 v25 v1) then true else(decide (v1<1))))) (gC h (λh=>Am q [8] Fn (tS h (Ck Vf))) λh=>Am q [] Fn (Mv (Th (λ(k_:List HZ) u=>Fo u [] [(bb 9100005 k_)]) (show(Et (mapE li v25) v1 (.agg [(Z6 v19.1),(Z6 v19.2),(Z6 v24.block),(Z6 v24.at_)]))=(mapE li (Et v25 v1 (⟨v19,v24⟩:Aj))) from(Xz (f:=li) (l:=v25) (v:=(⟨v19,v24⟩:Aj)) rfl rfl))) (Am q [8] Fn (tS h (Ck Vf)))))))
def K0(a1:Bl):Option Gy:=
 ((L1 a1).bind λx1=>(bif (!x1) then(some ((0:Int),(0:Int))) else((K4 a1).bind λx2=>(some (x2.1,x2.2)))))
theorem HQ(h:K0 v3=some v19):sP 121 [(S2 v3)] [] (.tuple [(Z6 v19.1),(Z6 v19.2)]) []:=
 sG Tryz.func121 λΓ q=>Am q [1] [1] (tB h λx1 y1 h=>tT q [1,6] [1] [(Z2 x1)] (c1 (Tv y1)) (gC h (λh=>Am q Ul [] (tS h (Ck []))) λh=>tB h λx2 y2 h=>tT q Ul [] [⟨[],[],(.tuple [(Z6 x2.1),(Z6 x2.2)]),[],[],[]⟩] (c1 (Vp y2)) (tS h (Ck []))))
set_option maxRecDepth 100000
set_option maxHeartbeats 2000000
abbrev jR:=(Int×Aq×Int×List Ag×Int×Aq×List A8×List (Int×Aj))
abbrev nE:=(LR (Int×Aq×Int×List Ag×Int×Aq×List A8×List (Int×Aj)) ((Aq×Int×List Ag×Int×Aq×List A8×List (Int×Aj)) ⊕ (Bool×Aa×Int×Aq×List A8×List (Int×Aj))))
def Cy(aA:Int)(aL:Ag):jR->Option nE:=
 λ((i1,l2,i3,l4,i5,l6,l7,l8):jR)=>(bif (decide (i1<(aL.Phis.length:Int))) then(Cd (Bv i1 aL.Phis.length) ((Dj ((aL.Phis.getD i1.toNat default).Bits)).bind λx17=>((Ec ((aL.Phis.getD i1.toNat default).Dst) x17 (⟨aA,(-1:Int)⟩:Ha) (⟨l2,i3,l4⟩:Aa) i5 l6 l8 l7).bind λx18=>(bif (!x18.1) then(some (.done (.inr (false,x18.2.1,x18.2.2.1,x18.2.2.2.1,x18.2.2.2.2.1,x18.2.2.2.2.2)))) else(some (.next ((Ap (i1+1)),x18.2.1.Params,x18.2.1.Ret,x18.2.1.Blocks,x18.2.2.1,x18.2.2.2.1,x18.2.2.2.2.1,x18.2.2.2.2.2))))))) else(some (.done (.inl (l2,i3,l4,i5,l6,l7,l8)))))
def B5(aA:Int)(aL:Ag):jR->Option nE:=
 λ((i21,l22,i23,l24,i25,l26,l27,l28):jR)=>(bif (decide (i21<(aL.Ops.length:Int))) then(Cd (Bv i21 aL.Ops.length) ((K0 (aL.Ops.getD i21.toNat default)).bind λx37=>((bif ((decide ((0:Int)<x37.1))==true) then Ec ((aL.Ops.getD i21.toNat default).Dst) (x37.1,x37.2) (⟨aA,i21⟩:Ha) (⟨l22,i23,l24⟩:Aa) i25 l26 l28 l27 else some (false,(default:Aa),(0:Int),[],[],[])).bind λx38=>(bif (bif (decide ((0:Int)<x37.1)) then(!x38.1) else false) then(some (.done (.inr (false,(⟨(bif ((decide ((0:Int)<x37.1))==true) then x38.2.1.Params else l22),(bif ((decide ((0:Int)<x37.1))==true) then x38.2.1.Ret else i23),(bif ((decide ((0:Int)<x37.1))==true) then x38.2.1.Blocks else l24)⟩:Aa),(bif ((decide ((0:Int)<x37.1))==true) then x38.2.2.1 else i25),(bif ((decide ((0:Int)<x37.1))==true) then x38.2.2.2.1 else l26),(bif ((decide ((0:Int)<x37.1))==true) then x38.2.2.2.2.1 else l27),(bif ((decide ((0:Int)<x37.1))==true) then x38.2.2.2.2.2 else l28))))) else(some (.next ((Ap (i21+1)),(bif ((decide ((0:Int)<x37.1))==true) then x38.2.1.Params else l22),(bif ((decide ((0:Int)<x37.1))==true) then x38.2.1.Ret else i23),(bif ((decide ((0:Int)<x37.1))==true) then x38.2.1.Blocks else l24),(bif ((decide ((0:Int)<x37.1))==true) then x38.2.2.1 else i25),(bif ((decide ((0:Int)<x37.1))==true) then x38.2.2.2.1 else l26),(bif ((decide ((0:Int)<x37.1))==true) then x38.2.2.2.2.1 else l27),(bif ((decide ((0:Int)<x37.1))==true) then x38.2.2.2.2.2 else l28)))))))) else(some (.done (.inl (l22,i23,l24,i25,l26,l27,l28)))))
def Jj(Γ:G0)(aA:Int)(aL:Ag)(a0:Aa)(a4:Int)(a9:Aq)(a7:List Jx)(a5:List A8)(r:RT):Exit->St->Prop:=fK Tryz.prog Γ Tryz.f93.results.toList [(Z1 a0.Params a0.Ret a0.Blocks a4 a9 9100005 a5),(Nr a5.length),(9100005,.obj (.map true .i64 (mapE (λ(v_:Aj)=>((P1 v_):AV)) a7)))] (.bool r.1) [(Z1 r.2.1.Params r.2.1.Ret r.2.1.Blocks r.2.2.1 r.2.2.2.1 9100005 r.2.2.2.2.1),(Nr r.2.2.2.2.1.length),(9100005,.obj (.map true .i64 (mapE (λ(v_:Aj)=>((P1 v_):AV)) r.2.2.2.2.2)))]
def SJ(x37:Gy):=((decide ((0:Int)<x37.1))==true)
def gY:=(λ(v_:Aj)=>((P1 v_):AV))
def oH(x37:Gy)(x38:RT)(l26:Aq):AV:=(nY (SJ x37) x38.2.2.2.1 l26)
def oI(x37:Gy)(x38:RT)(l24:List Ag):AV:=(pC (SJ x37) x38.2.1.Blocks l24)
def oF(x37:Gy)(x38:RT)(l22:Aq):AV:=(nY (SJ x37) x38.2.1.Params l22)
def Eo(aA:Int)(aL:Ag)(a0:Aa)(a4:Int)(a9:Aq)(a7:List Jx)(a5:List A8):Option RT:=
 ((Ah (Cy aA aL) ((0:Int),a0.Params,a0.Ret,a0.Blocks,a4,a9,a5,a7)).bind (λx19=>(match x19 with|(.inl (l9,i10,l11,i12,l13,l14,l15))=>((Ah (B5 aA aL) ((0:Int),l9,i10,l11,i12,l13,l14,l15)).bind (λx39=>(match x39 with|(.inl (l29,i30,l31,i32,l33,l34,l35))=>(some (true,(⟨l29,i30,l31⟩:Aa),i32,l33,l34,l35))|(.inr r41)=>(some r41))))|(.inr r42)=>(some r42))))
theorem N8(h:Eo v1 v10 v0 v2 v4 v25 v12=some v26):sP 93 [Yt,(Z6 v1),(.agg (F6 v10))] [(Z1 v0.Params v0.Ret v0.Blocks v2 v4 9100005 v12),(Nr v12.length),(9100005,.obj (.map true .i64 (mapE (λ(v_:Aj)=>((P1 v_):AV)) v25)))] (.bool v26.1) [(Z1 v26.2.1.Params v26.2.1.Ret v26.2.1.Blocks v26.2.2.1 v26.2.2.2.1 9100005 v26.2.2.2.2.1),(Nr v26.2.2.2.2.1.length),(9100005,.obj (.map true .i64 (mapE (λ(v_:Aj)=>((P1 v_):AV)) v26.2.2.2.2.2)))]:=
 sG Tryz.func93 λΓ q=>tW q BT BP ff BP (tL q h ff BP (λu (i1,l2,i3,l4,i5,l6,l7,l8)=>(Fo u [(16,(Z6 i1))] [(Z1 l2 i3 l4 i5 l6 9100005 l7),(Nr l7.length),(9100005,.obj (.map true .i64 (mapE gY l8)))])) (λu x_=>match x_ with|(.inl (l9,i10,l11,i12,l13,l14,l15))=>aG Γ (.exit 0) (W5 BT BP u [] [(Z1 l9 i10 l11 i12 l13 9100005 l14),(Nr l14.length),(9100005,.obj (.map true .i64 (mapE gY l15)))])|(.inr r_)=>aR (Jj Γ v1 v10 v0 v2 v4 v25 v12 r_)) (λ⟨i1,l2,i3,l4,i5,l6,l7,l8⟩ y h=>Am q [0,1,5,14,15,16,17] BP (gC h (λh=>tV q [0,1,5,8,14,15,16] [5,8,30000,37006,9100005] h λh=>tB h λx17 y17 h=>tB h λx18 y18 h=>tT q [0,1,5,14,15,16,29] BP [⟨[],[],(DI x17),[],[],[]⟩,⟨Vf,[],(.bool x18.1),[(Z1 x18.2.1.Params x18.2.1.Ret x18.2.1.Blocks x18.2.2.1 x18.2.2.2.1 9100005 x18.2.2.2.2.1),(Nr x18.2.2.2.2.1.length),(9100005,.obj (.map true .i64 (mapE gY x18.2.2.2.2.2)))],[],[]⟩] (c2 (H5 y17) (Kj y18)) (gC h (λh=>Am q [6] Fn (tS h (gO (Sr (Kp Vf (Le.refl _ _)))))) λh=>Am q ff BP (tN h))) λh=>tS h (gO (D1 (Db BT BP q))))) λx19 h=>(match x19,h with | .inl ⟨l9,i10,l11,i12,l13,l14,l15⟩,h=>gA (Am q VS Fn (tL q h VS Fn (λu (i21,l22,i23,l24,i25,l26,l27,l28)=>(Fo u [(34,(Z6 i21))] [(Z1 l22 i23 l24 i25 l26 9100005 l27),(Nr l27.length),(9100005,.obj (.map true .i64 (mapE gY l28)))])) (λu x_=>match x_ with|(.inl (l29,i30,l31,i32,l33,l34,l35))=>aG Γ (.exit 2) (⟨[],[(Z1 l29 i30 l31 i32 l33 9100005 l34),(Nr l34.length),(9100005,.obj (.map true .i64 (mapE gY l35)))],[]⟩:St)|(.inr r_)=>aR (Jj Γ v1 v10 v0 v2 v4 v25 v12 r_)) (λ⟨i21,l22,i23,l24,i25,l26,l27,l28⟩ y h=>Am q [0,1,32,33,34,35] Fn (gC h (λh=>tV q [0,1,9,10,32,33,34] fN h λh=>tB h λx37 y37 h=>tT q [0,1,9,10,11,12,32,33,34] fN [⟨[],[],(.tuple [(Z6 x37.1),(Z6 x37.2)]),[],[],[]⟩] (c1 (HQ y37)) (tB h λx38 y38 h=>tT q [0,1,32,33,34,58] Fn [⟨Vf,[],(.bool x38.1),[(Z1 x38.2.1.Params x38.2.1.Ret x38.2.1.Blocks x38.2.2.1 x38.2.2.2.1 9100005 x38.2.2.2.2.1),(Nr x38.2.2.2.2.1.length),(9100005,.obj (.map true .i64 (mapE gY x38.2.2.2.2.2)))],[],[]⟩] (pY (SJ x37) (c3 (λ(hg:(SJ x37)=true)=>(Kj (Bz hg y38))) (gI (SJ x37)) (Nt (decide ((0:Int)<x37.1))))) (Mv (Le.trans (Th (λ(k_:List HZ) u=>Fo u [] [(bb 9100005 k_)]) (show(bif (SJ x37) then(mapE gY x38.2.2.2.2.2) else(mapE gY l28))=(mapE gY (bif (SJ x37) then x38.2.2.2.2.2 else l28)) from(cd rfl rfl))) (Le.trans (oX (λg_ u=>(Fo u [] [(30000,.row 110 [(oF x37 x38 l22),(jd (SJ x37) x38.2.1.Ret i23),(oI x37 x38 l24),(jd (SJ x37) x38.2.2.1 i25),(oH x37 x38 l26),(.omap 9100005),(oK g_ x38.2.2.2.2.1 l27)]),(37006,.tok 5 158 (bif g_ then x38.2.2.2.2.1.length else l27.length))])) (λg_ u=>(Fo u [] [(30000,.row 110 [(oF x37 x38 l22),(jd (SJ x37) x38.2.1.Ret i23),(oI x37 x38 l24),(jd (SJ x37) x38.2.2.1 i25),(oH x37 x38 l26),(.omap 9100005),(AV.list 5 Jt default (bif g_ then x38.2.2.2.2.1 else l27) (.own 37006))]),(37006,.tok 5 158 ((bif g_ then x38.2.2.2.2.1 else l27).length))])) (SJ x37)) (Le.trans (iP 30000 0 (show AVle (oF x37 x38 l22) (AV.list 1 As 0 (bif (SJ x37) then x38.2.1.Params else l22) .none) from Gi)) (Le.trans (iP 30000 2 (show AVle (oI x37 x38 l24) (AV.list 5 F6 default (bif (SJ x37) then x38.2.1.Blocks else l24) .none) from Gi)) (iP 30000 4 (show AVle (oH x37 x38 l26) (AV.list 1 As 0 (bif (SJ x37) then x38.2.2.2.1 else l26) .none) from Gi)))))) (gC h (λh=>Am q [6] Fn (tS h (gO (Sr (Kp Vf (Le.refl _ _)))))) λh=>Am q VS Fn (tN h))))) λh=>tS h (gO (D1 (Db [] Fn q))))) λx39 h=>(match x39,h with | .inl ⟨l29,i30,l31,i32,l33,l34,l35⟩,h=>gA (Am q [6] Fn (tS h (Ck Vf))) | .inr r41,h=>Wj (λst' hk=>tS h (gK hk))))) | .inr r42,h=>Wj (λst' hk=>tS h (gK hk))))
abbrev nF:=(Int×List (Int×Aj))
def Ed(a0:Aa):nF->Option (LR (Int×List (Int×Aj)) (List (Int×Aj))):=
 λ((i1,l2):nF)=>(bif (decide (i1<(a0.Params.length:Int))) then(Cd (Bv i1 a0.Params.length) ((Dj (a0.Params.getD i1.toNat 0)).bind λx5=>(some (.next ((Ap (i1+1)),(Et l2 (Ap (i1+1)) (⟨x5,(⟨(0:Int),(-1:Int)⟩:Ha)⟩:Aj))))))) else(some (.done l2)))
abbrev nG:=(Int×List (Int×Aj)×Aq×Int×List Ag×Int×Aq×List A8)
def Di(a0:Aa):nG->Option (LR (Int×List (Int×Aj)×Aq×Int×List Ag×Int×Aq×List A8) ((List (Int×Aj)×Aq×Int×List Ag×Int×Aq×List A8) ⊕ (Int×Aa×Int×Aq×List A8×List (Int×Aj)))):=
 λ((i8,l9,l10,i11,l12,i13,l14,l15):nG)=>(bif (decide (i8<(a0.Blocks.length:Int))) then(Cd (Bv i8 a0.Blocks.length) ((Eo i8 (a0.Blocks.getD i8.toNat default) (⟨l10,i11,l12⟩:Aa) i13 l14 l9 l15).bind λx24=>(bif (!x24.1) then(some (.done (.inr ((7:Int),x24.2.1,x24.2.2.1,x24.2.2.2.1,x24.2.2.2.2.1,x24.2.2.2.2.2)))) else(some (.next ((Ap (i8+1)),x24.2.2.2.2.2,x24.2.1.Params,x24.2.1.Ret,x24.2.1.Blocks,x24.2.2.1,x24.2.2.2.1,x24.2.2.2.2.1)))))) else(some (.done (.inl (l9,l10,i11,l12,i13,l14,l15)))))
abbrev VM:=(Int×Aa×Int×Aq×List A8×List (Int×Aj))
def P2(Γ:G0)(a0:Aa)(a4:Int)(a9:Aq)(a5:List A8)(r:VM):Exit->St->Prop:=fK Tryz.prog Γ Tryz.f74.results.toList (Z3 a0.Params a0.Ret a0.Blocks a4 a9 a5 a5.length) (Z6 r.1) [(Z1 r.2.1.Params r.2.1.Ret r.2.1.Blocks r.2.2.1 r.2.2.2.1 9200005 r.2.2.2.2.1),(Nr r.2.2.2.2.1.length),(9200005,.obj (.map false .i64 (mapE (λ(v_:Aj)=>((P1 v_):AV)) r.2.2.2.2.2)))]
def WJ:=(λ(v_:Aj)=>((P1 v_):AV))
def o5(l16:List Jx)(l17:Aq)(i18:Int)(l19:List Ag)(i20:Int)(l21:Aq)(l22:List A8):List SN:=[(8,.obj (.map true .i64 (mapE WJ l16))),(mU l17 i18 l19 i20 l21 l22),(Nr l22.length)]
def Fb(a0:Aa)(a4:Int)(a9:Aq)(a5:List A8):Option VM:=
 ((Ah (Ed a0) ((0:Int),([]:List Jx))).bind (λx6=>((Ah (Di a0) ((0:Int),x6,a0.Params,a0.Ret,a0.Blocks,a4,a9,a5)).bind (λx25=>(match x25 with|(.inl (l16,l17,i18,l19,i20,l21,l22))=>(some ((0:Int),(⟨l17,i18,l19⟩:Aa),i20,l21,l22,l16))|(.inr r27)=>(some r27))))))
variable{v27:VM}
theorem Pr(h:Fb v0 v1 v4 v12=some v27):sP 74 [Yt] (Z3 v0.Params v0.Ret v0.Blocks v1 v4 v12 v12.length) (Z6 v27.1) [(Z1 v27.2.1.Params v27.2.1.Ret v27.2.1.Blocks v27.2.2.1 v27.2.2.2.1 9200005 v27.2.2.2.2.1),(Nr v27.2.2.2.2.1.length),(9200005,.obj (.map false .i64 (mapE (λ(v_:Aj)=>((P1 v_):AV)) v27.2.2.2.2.2)))]:=
 sG Tryz.func74 λΓ q=>tW q [0] Fq [0] Lj (Mv (Th (λ(k_:List HZ) u=>Fo u [] [(8,.obj (.map true .i64 k_))]) (show[]=(mapE WJ ([]:List Jx)) from rfl)) (Am q YO Lj (tL q h YO Lj (λu (i1,l2)=>(Fo u [(17,(Z6 i1))] [(8,.obj (.map true .i64 (mapE WJ l2)))])) (λu l3=>aG Γ (.exit 0) (W5 [0] Lj u [] [(8,.obj (.map true .i64 (mapE WJ l3)))])) (λ⟨i1,l2⟩ y h=>Am q [0,15,16,17,18] Lj (gC h (λh=>tV q [0,3,4,15,16,17] Lj h λh=>tB h λx5 y5 h=>tT q YO Lj [⟨[],[],(DI x5),[],[],[]⟩] (c1 (H5 y5)) (Mv (Th (λ(k_:List HZ) u=>Fo u [] [(8,.obj (.map true .i64 k_))]) (show(Et (mapE WJ l2) (Ap (i1+1)) (.agg [(Z6 x5.1),(Z6 x5.2),Ke,(.int .i64 (-1:Int))]))=(mapE WJ (Et l2 (Ap (i1+1)) (⟨x5,(⟨(0:Int),(-1:Int)⟩:Ha)⟩:Aj))) from(Xz (f:=WJ) (l:=l2) (v:=(⟨x5,(⟨(0:Int),(-1:Int)⟩:Ha)⟩:Aj)) rfl rfl))) (Am q YO Lj (tN h)))) λh=>tS h (gO (D1 (Db [0] Lj q))))) λx6 h=>gA (Am q WB Lj (tL q h WB Lj (λu (i8,l9,l10,i11,l12,i13,l14,l15)=>(Fo u [(39,(Z6 i8))] [(8,.obj (.map true .i64 (mapE WJ l9))),(mU l10 i11 l12 i13 l14 l15),(Nr l15.length)])) (λu x_=>match x_ with|(.inl (l16,l17,i18,l19,i20,l21,l22))=>aG Γ (.exit 2) (⟨[],(o5 l16 l17 i18 l19 i20 l21 l22),[]⟩:St)|(.inr r_)=>aR (P2 Γ v0 v1 v4 v12 r_)) (λ⟨i8,l9,l10,i11,l12,i13,l14,l15⟩ y h=>Am q [0,37,38,39,40] Lj (gC h (λh=>tV q [0,5,6,37,38,39] [6,8,30000,37006] h λh=>tB h λx24 y24 h=>tT q [0,37,38,39,48] Lj [⟨[(30000,30000),(37006,37006),(8,9100005)],[],(.bool x24.1),[(Z1 x24.2.1.Params x24.2.1.Ret x24.2.1.Blocks x24.2.2.1 x24.2.2.2.1 9100005 x24.2.2.2.2.1),(Nr x24.2.2.2.2.1.length),(9100005,.obj (.map true .i64 (mapE WJ x24.2.2.2.2.2)))],[],[]⟩] (c1 (N8 y24)) (gC h (λh=>Am q [2] Lj (Sb (⟨[(2,(.int .i64 (7:Int)))],[(8,.obj (.map true .i64 (mapE WJ x24.2.2.2.2.2))),(mU x24.2.1.Params x24.2.1.Ret x24.2.1.Blocks x24.2.2.1 x24.2.2.2.1 x24.2.2.2.2.1),(Nr x24.2.2.2.2.1.length)],[]⟩:St) (tS h (gO (Sr (Kp kB (Le.trans (MH (nm:=8) (.map false .i64 (mapE WJ x24.2.2.2.2.2)) rfl (λ_ _ _ _ h_=>QA h_)) (Db (st':=⟨[(2,(.int .i64 (7:Int)))],[(8,.obj (.map false .i64 (mapE WJ x24.2.2.2.2.2))),(mU x24.2.1.Params x24.2.1.Ret x24.2.1.Blocks x24.2.2.1 x24.2.2.2.1 x24.2.2.2.2.1),(Nr x24.2.2.2.2.1.length)],[]⟩) [2] Lj q)))))))) λh=>Am q WB Lj (tN h))) λh=>tS h (gO (D1 (Db [] Lj q))))) λx25 h=>(match x25,h with | .inl ⟨l16,l17,i18,l19,i20,l21,l22⟩,h=>gA (Am q [2] Lj (Sb (⟨[(2,Ke)],(o5 l16 l17 i18 l19 i20 l21 l22),[]⟩:St) (tS h (gK (e:=.ret) (Kp kB (Le.trans (MH (nm:=8) (.map false .i64 (mapE WJ l16)) rfl (λ_ _ _ _ h_=>QA h_)) (Db (st':=⟨[(2,Ke)],[(8,.obj (.map false .i64 (mapE WJ l16))),(mU l17 i18 l19 i20 l21 l22),(Nr l22.length)],[]⟩) [2] Lj q))))))) | .inr r27,h=>Wj (λst' hk=>tS h (gK hk))))))))
abbrev nI:=(Ha×Aa×Int×Aq×List A8)
def Ek(aA:Int)(a0:Aa)(a4:Int)(a9:Aq)(a7:List Jx)(a5:List A8):Option nI:=
 (Cd (Bv aA a0.Blocks.length) (some ((⟨aA,(((a0.Blocks.getD aA.toNat default).Ops).length:Int)⟩:Ha),a0,a4,a9,a5)))
variable{v28:nI}
theorem Ix(h:Ek v1 v0 v2 v4 v25 v12=some v28):sP 123 [Yt,(Z6 v1)] [(Z1 v0.Params v0.Ret v0.Blocks v2 v4 9100005 v12),(Nr v12.length),(9100005,.obj (.map false .i64 (mapE (λ(v_:Aj)=>((P1 v_):AV)) v25)))] (.agg (CP v28.1)) [(Z1 v28.2.1.Params v28.2.1.Ret v28.2.1.Blocks v28.2.2.1 v28.2.2.2.1 9100005 v28.2.2.2.2),(Nr v28.2.2.2.2.length),(9100005,.obj (.map false .i64 (mapE (λ(v_:Aj)=>((P1 v_):AV)) v25)))]:=
 sG Tryz.func123 λΓ q=>Am q [0,1,4] fP (tV q [4] fP h λh=>tS h (Ck Vf))
abbrev jS:=(Aa×Int×Aq×List A8)
def Dq(a8:Int)(aY:Gy)(aJ:Ha)(a0:Aa)(a4:Int)(a9:Aq)(a7:List Jx)(a5:List A8):Option jS:=
 (Cd (a5.length+([(⟨a8,aY,aJ⟩:A8)]:List A8).length<=room) (some (a0,a4,a9,(a5++([(⟨a8,aY,aJ⟩:A8)]:List A8)))))
variable{v29:jS}
theorem Gw(h:Dq v1 v19 v24 v0 v2 v4 v25 v12=some v29):sP 122 [Yt,(Z6 v1),(DI v19),(.agg (CP v24))] [(Z1 v0.Params v0.Ret v0.Blocks v2 v4 9100005 v12),(Nr v12.length),(9100005,.obj (.map false .i64 (mapE (λ(v_:Aj)=>((P1 v_):AV)) v25)))] (.tuple []) [(Z1 v29.1.Params v29.1.Ret v29.1.Blocks v29.2.1 v29.2.2.1 9100005 v29.2.2.2),(Nr v29.2.2.2.length),(9100005,.obj (.map false .i64 (mapE (λ(v_:Aj)=>((P1 v_):AV)) v25)))]:=
 sG Tryz.func122 λΓ q=>Am q [0,1,6,7] YJ (tC h λc1_ h=>gR q [] Fn [(17,(AV.list 5 Jt default ([(⟨v1,v19,v24⟩:A8)]:List A8) .exact)),(18,(AV.list 5 Jt default (v12++([(⟨v1,v19,v24⟩:A8)]:List A8)) (.own 37006)))] [] (c5 (Bn 5 Jt (default:A8) ([(⟨v1,v19,v24⟩:A8)]:List A8)) (Eq.refl v12.length) c1_ (Ng 5 37006 Jt (default:A8) v12 ([(⟨v1,v19,v24⟩:A8)]:List A8)) (Gl v12 ([(⟨v1,v19,v24⟩:A8)]:List A8))) (tS h (gK (e:=.normal) (Kp Vf (Le.refl _ _)))))
def nW:List kA:=[(2,nZ)]
def K1(a1:Bl):Option jQ:=
 ((L1 a1).bind λx1=>(bif (!x1) then(some ([]:List Gy)) else((K6 a1).bind λx2=>(some x2))))
theorem HS(h:K1 v3=some v21):sP 124 [(S2 v3)] [] (Z8 v21) []:=
 sG Tryz.func124 λΓ q=>gR q [1] [1] nW [] (c1 (Gj 2 Bx ((0:Int),(0:Int)))) (tB h λx1 y1 h=>tT q [1,5] [1] [(Z2 x1)] (c1 (Tv y1)) (gC h (λh=>gR q [2] [] nW [] (c1 (Gj 2 Bx ((0:Int),(0:Int)))) (Sb (⟨nW,[],[]⟩:St) (tS h (gK (e:=.ret) (Kp [] (show Le Γ _ (⟨[(2,(AV.list 2 Bx ((0:Int),(0:Int)) ([]:List Gy) .none))],[],[]⟩:St) from Le.trans (Db (st':=⟨nW,[],[]⟩) [2] [] q) (Jl (.cons AVle.untag .nil) .nil))))))) λh=>tB h λx2 y2 h=>tT q [2] [] [(YW x2)] (c1 (Vq y2)) (tS h (Ck []))))
abbrev fI:=(LR (Int×Aq×Int×List Ag×Int×Aq×List A8) (Aq×Int×List Ag×Int×Aq×List A8))
def Dd(a0:Aa)(a7:List Jx)(i1:Int)(i21:Int):M8->Option fI:=
 λ((i35,l36,i37,l38,i39,l40,l41):M8)=>(bif (decide (i35<(((((a0.Blocks.getD i1.toNat default).Phis).getD i21.toNat default).Args).length:Int))) then(Cd (Bv i35 ((((a0.Blocks.getD i1.toNat default).Phis).getD i21.toNat default).Args).length) ((Dj ((((a0.Blocks.getD i1.toNat default).Phis).getD i21.toNat default).Bits)).bind λx49=>(Cd (Bv i35 ((((a0.Blocks.getD i1.toNat default).Phis).getD i21.toNat default).From).length) ((Ek (((((a0.Blocks.getD i1.toNat default).Phis).getD i21.toNat default).From).getD i35.toNat 0) (⟨l36,i37,l38⟩:Aa) i39 l40 a7 l41).bind λx51=>((Dq (((((a0.Blocks.getD i1.toNat default).Phis).getD i21.toNat default).Args).getD i35.toNat 0) x49 x51.1 x51.2.1 x51.2.2.1 x51.2.2.2.1 a7 x51.2.2.2.2).bind λx52=>(some (.next ((Ap (i35+1)),x52.1.Params,x52.1.Ret,x52.1.Blocks,x52.2.1,x52.2.2.1,x52.2.2.2)))))))) else(some (.done (l36,i37,l38,i39,l40,l41))))
def De(a0:Aa)(a7:List Jx)(i1:Int):M8->Option fI:=
 λ((i21,l22,i23,l24,i25,l26,l27):M8)=>(bif (decide (i21<(((a0.Blocks.getD i1.toNat default).Phis).length:Int))) then(Cd (Bv i21 ((a0.Blocks.getD i1.toNat default).Phis).length) ((Ah (Dd a0 a7 i1 i21) ((0:Int),l22,i23,l24,i25,l26,l27)).bind (λ(l42,i43,l44,i45,l46,l47)=>(some (.next ((Ap (i21+1)),l42,i43,l44,i45,l46,l47)))))) else(some (.done (l22,i23,l24,i25,l26,l27))))
def Df(a0:Aa)(a7:List Jx)(i1:Int)(i57:Int)(x71:List RS):M8->Option fI:=
 λ((i72,l73,i74,l75,i76,l77,l78):M8)=>(bif (decide (i72<(x71.length:Int))) then(Cd (Bv i72 x71.length) (Cd (Bv i72 ((((a0.Blocks.getD i1.toNat default).Ops).getD i57.toNat default).Args).length) ((Dq (((((a0.Blocks.getD i1.toNat default).Ops).getD i57.toNat default).Args).getD i72.toNat 0) (x71.getD i72.toNat ((0:Int),(0:Int))) (⟨i1,i57⟩:Ha) (⟨l73,i74,l75⟩:Aa) i76 l77 a7 l78).bind λx87=>(some (.next ((Ap (i72+1)),x87.1.Params,x87.1.Ret,x87.1.Blocks,x87.2.1,x87.2.2.1,x87.2.2.2)))))) else(some (.done (l73,i74,l75,i76,l77,l78))))
def Dg(a0:Aa)(a7:List Jx)(i1:Int):M8->Option fI:=
 λ((i57,l58,i59,l60,i61,l62,l63):M8)=>(bif (decide (i57<(((a0.Blocks.getD i1.toNat default).Ops).length:Int))) then(Cd (Bv i57 ((a0.Blocks.getD i1.toNat default).Ops).length) ((K1 (((a0.Blocks.getD i1.toNat default).Ops).getD i57.toNat default)).bind λx71=>((Ah (Df a0 a7 i1 i57 x71) ((0:Int),l58,i59,l60,i61,l62,l63)).bind (λ(l79,i80,l81,i82,l83,l84)=>(some (.next ((Ap (i57+1)),l79,i80,l81,i82,l83,l84))))))) else(some (.done (l58,i59,l60,i61,l62,l63))))
def Dh(a0:Aa)(a7:List Jx):M8->Option fI:=
 λ((i1,l2,i3,l4,i5,l6,l7):M8)=>(bif (decide (i1<(a0.Blocks.length:Int))) then(Option.bind (α:=(Aq×Int×List Ag×Int×Aq×List A8)) (Cd (Bv i1 a0.Blocks.length) ((Ah (De a0 a7 i1) ((0:Int),l2,i3,l4,i5,l6,l7)).bind (λx55=>(match x55 with|(l28,i29,l30,i31,l32,l33)=>((Ah (Dg a0 a7 i1) ((0:Int),l28,i29,l30,i31,l32,l33)).bind (λx90=>(match x90 with|(l64,i65,l66,i67,l68,l69)=>(bif (((a0.Blocks.getD i1.toNat default).End.Kind:Int)==0) then((Dj i65).bind λx92=>((Ek i1 (⟨l64,i65,l66⟩:Aa) i67 l68 a7 l69).bind λx93=>((Dq ((a0.Blocks.getD i1.toNat default).End.Arg) x92 x93.1 x93.2.1 x93.2.2.1 x93.2.2.2.1 a7 x93.2.2.2.2).bind λx94=>(some (x94.1.Params,x94.1.Ret,x94.1.Blocks,x94.2.1,x94.2.2.1,x94.2.2.2))))) else(bif (((a0.Blocks.getD i1.toNat default).End.Kind:Int)==2) then((Dj (1:Int)).bind λx95=>((Ek i1 (⟨l64,i65,l66⟩:Aa) i67 l68 a7 l69).bind λx96=>((Dq ((a0.Blocks.getD i1.toNat default).End.Arg) x95 x96.1 x96.2.1 x96.2.2.1 x96.2.2.2.1 a7 x96.2.2.2.2).bind λx97=>(some (x97.1.Params,x97.1.Ret,x97.1.Blocks,x97.2.1,x97.2.2.1,x97.2.2.2))))) else(some (l64,i65,l66,i67,l68,l69))))))))))) (λx98=>(match x98 with|(l14,i15,l16,i17,l18,l19)=>(some (.next ((Ap (i1+1)),l14,i15,l16,i17,l18,l19)))))) else(some (.done (l2,i3,l4,i5,l6,l7))))
def ph(a0:Aa)(i1:Int):=(a0.Blocks.getD i1.toNat default)
def jY(a7:List Jx):=(mapE (λ(v_:Aj)=>((P1 v_):AV)) a7)
def Fa(a0:Aa)(a4:Int)(a9:Aq)(a7:List Jx)(a5:List A8):Option jS:=
 ((Ah (Dh a0 a7) ((0:Int),a0.Params,a0.Ret,a0.Blocks,a4,a9,a5)).bind (λ(l8,i9,l10,i11,l12,l13)=>(some ((⟨l8,i9,l10⟩:Aa),i11,l12,l13))))
theorem Pq(h:Fa v0 v1 v4 v25 v12=some v29):sP 94 [Yt] [(Z1 v0.Params v0.Ret v0.Blocks v1 v4 9100005 v12),(Nr v12.length),(9100005,.obj (.map false .i64 (mapE (λ(v_:Aj)=>((P1 v_):AV)) v25)))] (.tuple []) [(Z1 v29.1.Params v29.1.Ret v29.1.Blocks v29.2.1 v29.2.2.1 9100005 v29.2.2.2),(Nr v29.2.2.2.length),(9100005,.obj (.map false .i64 (mapE (λ(v_:Aj)=>((P1 v_):AV)) v25)))]:=
 sG Tryz.func94 λΓ q=>Am q KT Fn (tL q h KT Fn (λu (i1,l2,i3,l4,i5,l6,l7)=>(Fo u [(18,(Z6 i1))] (LK l2 i3 l4 i5 l6 l7 l7.length))) (λu (l8,i9,l10,i11,l12,l13)=>aG Γ (.exit 0) (W5 [] Fn u [] (LK l8 i9 l10 i11 l12 l13 l13.length))) (λ⟨i1,l2,i3,l4,i5,l6,l7⟩ y h=>Am q [0,16,17,18,19] Fn (gC h (λh=>tB h λx98 y98 h=>gJ y98 (λ(l14,i15,l16,i17,l18,l19)=>aG Γ .normal (⟨[(0,Yt),(16,(LI v0.Blocks)),(17,(HB v0.Blocks.length)),(18,(Z6 i1))],(mV l14 i15 l16 i17 l18 9100005 l19 l19.length (jY v25)),[]⟩:St)) (λy h=>tV q RY Na h λh=>Am q RV Na (tL q h RV Na (λu (i21,l22,i23,l24,i25,l26,l27)=>(Fo u [(26,(Z6 i21))] (LK l22 i23 l24 i25 l26 l27 l27.length))) (λu (l28,i29,l30,i31,l32,l33)=>aG Γ (.exit 2) (W5 RY Na u [] (LK l28 i29 l30 i31 l32 l33 l33.length))) (λ⟨i21,l22,i23,l24,i25,l26,l27⟩ y h=>Am q [0,2,3,16,17,18,24,25,26,27] Na (gC h (λh=>tV q [0,2,3,5,16,17,18,24,25,26] Yp h λh=>Am q YF Yp (tL q h YF Yp (λu (i35,l36,i37,l38,i39,l40,l41)=>(Fo u [(33,(Z6 i35))] (LK l36 i37 l38 i39 l40 l41 l41.length))) (λu (l42,i43,l44,i45,l46,l47)=>aG Γ (.exit 4) (W5 RV Na u [] (LK l42 i43 l44 i45 l46 l47 l47.length))) (λ⟨i35,l36,i37,l38,i39,l40,l41⟩ y h=>Am q [0,2,3,5,16,17,18,24,25,26,31,32,33,34] Yp (gC h (λh=>tV q [0,2,3,5,6,7,16,17,18,24,25,26,31,32,33] Yp h λh=>tB h λx49 y49 h=>tC h λc50_ h=>tB h λx51 y51 h=>tB h λx52 y52 h=>tT q YF Yp [⟨[],[],(DI x49),[],[],[]⟩,(oL x51.1 x51.2.1.Params x51.2.1.Ret x51.2.1.Blocks x51.2.2.1 x51.2.2.2.1 x51.2.2.2.2 x51.2.2.2.2.length (jY v25)),(mT x52.1.Params x52.1.Ret x52.1.Blocks x52.2.1 x52.2.2.1 x52.2.2.2 x52.2.2.2.length (jY v25))] (c4 (H5 y49) c50_ (Ix y51) (Gw y52)) (Am q YF Yp (tN h))) λh=>tS h (gO (D1 (Db RV Na q))))) λx53 h=>(match x53,h with|⟨l42,i43,l44,i45,l46,l47⟩,h=>gA (Am q RV Na (tN h))))) λh=>tS h (gO (D1 (Db RY Na q))))) λx55 h=>(match x55,h with|⟨l28,i29,l30,i31,l32,l33⟩,h=>gA (Am q RW Na (tL q h RW Na (λu (i57,l58,i59,l60,i61,l62,l63)=>(Fo u [(56,(Z6 i57))] (LK l58 i59 l60 i61 l62 l63 l63.length))) (λu (l64,i65,l66,i67,l68,l69)=>aG Γ (.exit 6) (W5 RY Na u [] (LK l64 i65 l66 i67 l68 l69 l69.length))) (λ⟨i57,l58,i59,l60,i61,l62,l63⟩ y h=>Am q [0,2,3,16,17,18,54,55,56,57] Na (gC h (λh=>tV q [0,2,3,8,9,16,17,18,54,55,56] KN h λh=>tB h λx71 y71 h=>tT q YE KN [(YW x71)] (c1 (HS y71)) (tL q h YE KN (λu (i72,l73,i74,l75,i76,l77,l78)=>(Fo u [(64,(Z6 i72))] (LK l73 i74 l75 i76 l77 l78 l78.length))) (λu (l79,i80,l81,i82,l83,l84)=>aG Γ (.exit 8) (W5 RW Na u [] (LK l79 i80 l81 i82 l83 l84 l84.length))) (λ⟨i72,l73,i74,l75,i76,l77,l78⟩ y h=>Am q [0,2,3,8,9,16,17,18,54,55,56,62,63,64,65] KN (gC h (λh=>tV q [0,2,3,8,9,10,11,16,17,18,54,55,56,62,63,64] [3,9,11,30000,37006,9100005] h λh=>tC h λc86_ h=>tB h λx87 y87 h=>tT q YE KN [(mT x87.1.Params x87.1.Ret x87.1.Blocks x87.2.1 x87.2.2.1 x87.2.2.2 x87.2.2.2.length (jY v25))] (c2 c86_ (Gw y87)) (Am q YE KN (tN h))) λh=>tS h (gO (D1 (Db RW Na q))))) λx88 h=>(match x88,h with|⟨l79,i80,l81,i82,l83,l84⟩,h=>gA (Am q RW Na (tN h))))) λh=>tS h (gO (D1 (Db RY Na q))))) λx90 h=>(match x90,h with|⟨l64,i65,l66,i67,l68,l69⟩,h=>gA (tW q [0,2,3,16,17,18,84] Na [0,2,3,16,17,18,84,85] Na (gC h (λh=>tB h λx92 y92 h=>tB h λx93 y93 h=>tB h λx94 y94 h=>tT q KT Fn [⟨[],[],(DI x92),[],[],[]⟩,(oL x93.1 x93.2.1.Params x93.2.1.Ret x93.2.1.Blocks x93.2.2.1 x93.2.2.2.1 x93.2.2.2.2 x93.2.2.2.2.length (jY v25)),(mT x94.1.Params x94.1.Ret x94.1.Blocks x94.2.1 x94.2.2.1 x94.2.2.2 x94.2.2.2.length (jY v25))] (c3 (H5 y92) (Ix y93) (Gw y94)) (tS h (gK (D1 Mw)))) λh=>Am q [0,2,3,16,17,18,101] Na (gC h (λh=>tB h λx95 y95 h=>tB h λx96 y96 h=>tB h λx97 y97 h=>tT q KT Fn [⟨[],[],(DI x95),[],[],[]⟩,(oL x96.1 x96.2.1.Params x96.2.1.Ret x96.2.1.Blocks x96.2.2.1 x96.2.2.2.1 x96.2.2.2.2 x96.2.2.2.2.length (jY v25)),(mT x97.1.Params x97.1.Ret x97.1.Blocks x97.2.1 x97.2.2.1 x97.2.2.2 x97.2.2.2.length (jY v25))] (c3 (H5 y95) (Ix y96) (Gw y97)) (tS h (gK (D1 Mw)))) λh=>tS h (gK (D1 (Db KT Fn q)))))))))))) (match x98,h with|⟨l14,i15,l16,i17,l18,l19⟩,h=>gA (Am q KT Fn (tN h)))) λh=>tS h (gO (D1 (Db [] Fn q))))) λx100 h=>(match x100,h with|⟨l8,i9,l10,i11,l12,l13⟩,h=>jm (λst' hl101=>tS h (gK (e:=.normal) (Kp Vf hl101)))))
def He(aO:A8)(a0:Aa)(a4:Int)(a9:Aq)(a7:List Jx)(a5:List A8):Option Ub:=
 (some ((B6 a7 aO.v),a0,a4,a9,a5))
variable{v30:A8}
theorem Pt(h:He v30 v0 v1 v4 v25 v12=some v23):sP 95 [Yt,(.agg (Jt v30))] [(Z1 v0.Params v0.Ret v0.Blocks v1 v4 9100005 v12),(Nr v12.length),(9100005,.obj (.map false .i64 (mapE (λ(v_:Aj)=>((P1 v_):AV)) v25)))] (.bool v23.1) [(Z1 v23.2.1.Params v23.2.1.Ret v23.2.1.Blocks v23.2.2.1 v23.2.2.2.1 9100005 v23.2.2.2.2),(Nr v23.2.2.2.2.length),(9100005,.obj (.map false .i64 (mapE (λ(v_:Aj)=>((P1 v_):AV)) v25)))]:=
 sG Tryz.func95 λΓ q=>Am q Wd Na (gR q [6] Fn [(14,(.tuple [(ja v25 v30.v),(.bool (B6 v25 v30.v))]))] [] (c1 (show(AVle (.tuple [mget (.agg [Ke,Ke,Ke,Ke]) (mapE (λ(v_:Aj)=>((P1 v_):AV)) v25) v30.v,.bool (B6 (mapE (λ(v_:Aj)=>((P1 v_):AV)) v25) v30.v)]) (.tuple [(ja v25 v30.v),(.bool (B6 v25 v30.v))])) from(Xy (f:=(λ(v_:Aj)=>((P1 v_):AV))) (l:=v25) (AVle.refl _) rfl))) (Am q [4] Fn (tS h (Ck Vf))))
def Iq(aO:A8)(a0:Aa)(a4:Int)(a9:Aq)(a7:List Jx)(a5:List A8):Option Ub:=
 (some (((((mget (default:Aj) a7 aO.v).shape.1:Int)==aO.shape.1)&&((((mget (default:Aj) a7 aO.v).shape.2:Int)==aO.shape.2)&&true)),a0,a4,a9,a5))
theorem Sv(h:Iq v30 v0 v1 v4 v25 v12=some v23):sP 96 [Yt,(.agg (Jt v30))] [(Z1 v0.Params v0.Ret v0.Blocks v1 v4 9100005 v12),(Nr v12.length),(9100005,.obj (.map false .i64 (mapE (λ(v_:Aj)=>((P1 v_):AV)) v25)))] (.bool v23.1) [(Z1 v23.2.1.Params v23.2.1.Ret v23.2.1.Blocks v23.2.2.1 v23.2.2.2.1 9100005 v23.2.2.2.2),(Nr v23.2.2.2.2.length),(9100005,.obj (.map false .i64 (mapE (λ(v_:Aj)=>((P1 v_):AV)) v25)))]:=
 sG Tryz.func96 λΓ q=>Am q Wd Na (gR q [4] Fn [(11,(ja v25 v30.v))] [] (c1 (show(AVle (mget (.agg [Ke,Ke,Ke,Ke]) (mapE (λ(v_:Aj)=>((P1 v_):AV)) v25) v30.v) (ja v25 v30.v)) from(CU (f:=(λ(v_:Aj)=>((P1 v_):AV))) (l:=v25) (AVle.refl _) rfl))) (tS h (Ck Vf)))
def B3(aZ:Aq)(a8:Int):Int->Option (LR Int (Unit ⊕ Int)):=
 λ(i1:Int)=>(bif (decide (i1<(aZ.length:Int))) then(Cd (Bv i1 aZ.length) (bif (a8==(aZ.getD i1.toNat 0)) then(some (.done (.inr i1))) else(some (.next (Ap (i1+1)))))) else(some (.done (.inl ()))))
def Qp(Γ:G0)(aZ:Aq)(a8:Int)(r:Int):Exit->St->Prop:=fK Tryz.prog Γ Tryz.f174.results.toList [] (.int .i64 r) []
def Ei(aZ:Aq)(a8:Int):Option Int:=
 ((Ah (B3 aZ a8) (0:Int)).bind (λx3=>(match x3 with|(.inl _)=>(some (-1:Int))|(.inr r5)=>(some r5))))
theorem Qd(h:Ei v4 v1=some v2):sP 174 [(Z7 v4),(Z6 v1)] [] (.int .i64 v2) []:=
 sG Tryz.func174 λΓ q=>tW q G7 [] [0,1,7,8] [] (tL q h [0,1,7,8] [] (λu i1=>(Fo u [(8,(Z6 i1))] [])) (λu x_=>match x_ with|(.inl _)=>aG Γ (.exit 0) (⟨[],[],[]⟩:St)|(.inr r_)=>aR (Qp Γ v4 v1 r_)) (λi1 y h=>Am q [0,1,7,8,9] [] (gC h (λh=>Am q [0,1,5,7,8] [] (tV q [0,1,5,7,8,16] [] h λh=>gC h (λh=>Am q [4] [] (tS h (gO (Sr (Kp [] (Le.refl _ _)))))) λh=>Am q [0,1,7,8] [] (tN h))) λh=>tS h (gO (D1 (Db [] [] q))))) λx3 h=>(match x3,h with | .inl _,h=>gA (Am q [4] [] (tS h (Ck []))) | .inr r5,h=>Wj (λst' hk=>tS h (gK hk))))
def Ia(aD:Aq)(aJ:Int):Option Bool:=
 (some (bif (decide ((0:Int)<=aJ)) then(decide (aJ<(aD.length:Int))) else false))
theorem Tq(h:Ia v4 v1=some v5):sP 176 [(Z7 v4),(Z6 v1)] [] (.bool v5) []:=
 sG Tryz.func176 λΓ q=>Am q G7 [] (tU q [4] [] (XB ((decide ((0:Int)<=v1))==true) (c1 (Nt (decide ((0:Int)<=v1))))) (tS h (Ck [])))
def Cz(aD:Aq)(aa2:Int)(aV:Int):VK->Option (LR (Int×Aq) (Aq ⊕ (Bool×Aq))):=
 λ((i1,l2):VK)=>(bif (i1 !=aV) then(Cd (Bv i1 l2.length) (bif ((l2.getD i1.toNat 0)!=0) then(Cd (Bv i1 l2.length) (some (.done (.inr (((l2.getD i1.toNat 0)!=(Ap (aa2+1))),l2))))) else(Cd (Bv i1 aD.length) ((Ia aD (aD.getD i1.toNat 0)).bind λx7=>(bif (!x7) then(some (.done (.inr (false,l2)))) else(Cd (Bv i1 l2.length) (Cd (Bv i1 aD.length) (some (.next ((aD.getD i1.toNat 0),(l2.set i1.toNat (Ap (aa2+1))))))))))))) else(some (.done (.inl l2))))
def NY(Γ:G0)(aD:Aq)(aa9:Aq)(aa2:Int)(aV:Int)(r:fG):Exit->St->Prop:=fK Tryz.prog Γ Tryz.f175.results.toList [(Z4 34001 aa9)] (.bool r.1) [(Z4 34001 r.2)]
def O6(aD:Aq)(aa9:Aq)(aa2:Int)(aV:Int):Option fG:=
 ((Ah (Cz aD aa2 aV) (aa2,aa9)).bind (λx10=>(match x10 with|(.inl l3)=>(some (true,l3))|(.inr r12)=>(some r12))))
variable{v31:fG}
theorem MQ(h:O6 v4 v17 v1 v2=some v31):sP 175 [(Z7 v4),(.vsl 34001 v17.length),(Z6 v1),(Z6 v2)] [(Z4 34001 v17)] (.bool v31.1) [(Z4 34001 v31.2)]:=
 sG Tryz.func175 λΓ q=>tW q [0,1,2,3] [34001] [0,1,2,3,9] [34001] (Am q YN [34001] (tL q h YN [34001] (λu (i1,l2)=>(Fo u [(1,(.vsl 34001 l2.length)),(10,(Z6 i1))] [(Z4 34001 l2)])) (λu x_=>match x_ with|(.inl l3)=>aG Γ (.exit 0) (⟨[],[(Z4 34001 l3)],[]⟩:St)|(.inr r_)=>aR (NY Γ v4 v17 v1 v2 r_)) (λ⟨i1,l2⟩ y h=>Am q [0,1,3,9,10,16] [34001] (gC h (λh=>tC h λc4_ h=>tU q [0,1,3,9,10,25] [34001] (c2 c4_ (Eq.refl l2.length)) (gC h (λh=>tC h λc5_ h=>tU q [8] [34001] (c2 c5_ (Eq.refl l2.length)) (tS h (gO (Sr (Kp VV (Le.refl _ _)))))) λh=>tC h λc6_ h=>tB h λx7 y7 h=>tT q [0,1,3,9,10,38] [34001] [(Z2 x7)] (c2 c6_ (Tq y7)) (gC h (λh=>Am q [8] [34001] (tS h (gO (Sr (Kp VV (Le.refl _ _)))))) λh=>tC h λc8_ h=>tU q YN [34001] (c2 c8_ (Eq.refl l2.length)) (Mv (Le.trans (Xq 34001 (show ∀ k_,k_<l2.length->AVleL ((λi_=>AV.eraseAll (λn_=>Cj n_ [34001]) ((Ll (λi=>As (l2.getD i 0)) i1.toNat 0 [(.int .i64 (Ap (v1+1)))]) i_)) k_) ((λi=>As ((l2.set i1.toNat (Ap (v1+1))).getD i 0)) k_) from(Cp (H8 ..).symm (λk_ hk_=>(Cg (AV.eraseAll (λn_=>Cj n_ [34001])) ((Mm (λ_ _=>rfl) (O1 c8_) rfl) k_ hk_)).trans rfl)))) (Th (λ(k_:Nat) u=>(Fo u [(1,(.vsl 34001 k_))] [(34001,.arr 1 3 k_ (λi=>As ((l2.set i1.toNat (Ap (v1+1))).getD i 0)))])) (show l2.length=(l2.set i1.toNat (Ap (v1+1))).length from(H8 ..).symm))) (tV q YN [34001] h λh=>tN h))))) λh=>tS h (gO (D1 (Db [] [34001] q))))) λx10 h=>(match x10,h with | .inl l3,h=>gA (Am q [8] [34001] (tS h (Ck VV))) | .inr r12,h=>Wj (λst' hk=>tS h (gK hk)))))
def El(aD:Aq)(x1:Int):VK->Option (LR (Int×Aq) (Unit ⊕ Bool)):=
 λ((i3,l4):VK)=>(bif (decide (i3<(aD.length:Int))) then(Cd (Bv i3 aD.length) ((bif (((aD.getD i3.toNat 0)!=-2)==true) then O6 aD l4 i3 x1 else some (false,[])).bind λx6=>(Cd ((((aD.getD i3.toNat 0)!=-2)==true)=true->(l4.length=x6.2.length)) (bif (bif ((aD.getD i3.toNat 0)!=-2) then(!x6.1) else false) then(some (.done (.inr false))) else(some (.next ((Ap (i3+1)),(bif (((aD.getD i3.toNat 0)!=-2)==true) then x6.2 else l4)))))))) else(some (.done (.inl ()))))
def LB(Γ:G0)(aD:Aq)(r:Bool):Exit->St->Prop:=fK Tryz.prog Γ Tryz.f158.results.toList [] (.bool r) []
def fo(aD:Aq)(i3:Int):=(((aD.getD i3.toNat 0)!=-2)==true)
def Nj(aD:Aq):Option Bool:=
 ((Ei aD (-1:Int)).bind λx1=>(bif (decide (x1<0)) then(some false) else(Cd (0<=(aD.length:Int)/\(aD.length:Int)<=(aD.length:Int)/\(aD.length:Int)<=(room:Int)) ((Ah (El aD x1) ((0:Int),(List.replicate (aD.length:Int).toNat (0:Int)))).bind (λx8=>(match x8 with|(.inl _)=>(some true)|(.inr r10)=>(some r10)))))))
theorem HN(h:Nj v4=some v5):sP 158 [(Z7 v4)] [] (.bool v5) []:=
 sG Tryz.func158 λΓ q=>Am q [0] [] (tB h λx1 y1 h=>tT q Wd [] [(DH x1)] (c1 (Qd y1)) (Am q [0,3,9] [] (gC h (λh=>Am q [2] [] (tS h (Ck []))) λh=>tV q [0,3,4] [12] h λh=>by exact Mv (Le.trans (Xq 12 (show ∀ k_,k_<((v4.length:Int).toNat)->AVleL ((λi_=>AV.eraseAll (λn_=>Cj n_ [12]) ((λ_=>[Ke]) i_)) k_) ((λi=>As ((List.replicate (v4.length:Int).toNat (0:Int)).getD i 0)) k_) from(λk hk=>Xt (e:=As) (d:=(0:Int)) (.cons (AVle.refl _) .nil) _ k (Yc hk)))) (Th (λ(k_:Nat) u=>(Fo u [(4,(.vsl 12 k_))] [(12,.arr 1 3 k_ (λi=>As ((List.replicate (v4.length:Int).toNat (0:Int)).getD i 0)))])) (show(v4.length:Int).toNat=(List.replicate (v4.length:Int).toNat (0:Int)).length from(Yk ..).symm))) (Am q VT [12] (tL q h VT [12] (λu (i3,l4)=>(Fo u [(4,(.vsl 12 l4.length)),(15,(Z6 i3))] [(Z4 12 l4)])) (λu x_=>match x_ with|(.inl _)=>aG Γ (.exit 0) (⟨[],[],[]⟩:St)|(.inr r_)=>aR (LB Γ v4 r_)) (λ⟨i3,l4⟩ y h=>Am q [0,3,4,14,15,16] [12] (gC h (λh=>Am q [0,3,4,5,14,15] [12] (tC h λc5_ h=>tB h λx6 y6 h=>tC h λc7_ h=>tT q [0,3,4,14,15,30] [12] [⟨[(12,34001)],[],(.bool x6.1),[(Z4 34001 x6.2)],[],[]⟩] (ci c5_ (iG (fo v4 i3) (c3 (λ(hg:(fo v4 i3)=true)=>(MQ (Bz hg y6))) (gI (fo v4 i3)) (Nt ((v4.getD i3.toNat 0)!=-2))))) (Mv (Le.trans (Xq 12 (show ∀ k_,k_<(bif (fo v4 i3) then x6.2.length else l4.length)->AVleL ((λi_=>AV.eraseAll (λn_=>Cj n_ [12]) ((λi=>bif (fo v4 i3) then(λi=>As (x6.2.getD i 0)) i else(λi=>As (l4.getD i 0)) i) i_)) k_) ((λi=>As ((bif (fo v4 i3) then x6.2 else l4).getD i 0)) k_) from(Cp WR (λk_ hk_=>(Cg (AV.eraseAll (λn_=>Cj n_ [12])) ((λ_ _=>gq) k_ hk_)).trans rfl)))) (Le.trans (Th (λ(k_:Nat) u=>(Fo u [] [(12,.arr 1 3 k_ (λi=>As ((bif (fo v4 i3) then x6.2 else l4).getD i 0)))])) (show(bif (fo v4 i3) then x6.2.length else l4.length)=(bif (fo v4 i3) then x6.2 else l4).length from WR)) (Th (λ(k_:Nat) u=>(Fo u [(4,(.vsl 12 k_))] [])) (show l4.length=(bif (fo v4 i3) then x6.2 else l4).length from(gr c7_))))) (gC h (λh=>Am q [2] [] (tS h (gO (Sr (Kp [] (Le.refl _ _)))))) λh=>Am q VT [12] (tN h))))) λh=>tS h (gO (D1 (Db [] [] q))))) λx8 h=>(match x8,h with | .inl _,h=>gA (Am q [2] [] (tS h (Ck []))) | .inr r10,h=>Wj (λst' hk=>tS h (gK hk))))))))
def It(aD:Aq)(aJ:Int):Option Bool:=
 ((Ia aD aJ).bind λx1=>(Cd ((x1==true)=true->(Bv aJ aD.length)) (some (bif x1 then((aD.getD aJ.toNat 0)!=-2) else false))))
theorem Se(h:It v4 v1=some v5):sP 159 [(Z7 v4),(Z6 v1)] [] (.bool v5) []:=
 sG Tryz.func159 λΓ q=>Am q G7 [] (tB h λx1 y1 h=>tC h λc2_ h=>tT q [4] [] [(Z2 x1)] (ci (Tq y1) (Xn (x1==true) (ci c2_ (Xn (x1==true) (c1 (Nt x1)))))) (tS h (Ck [])))
def O5(aD:Aq)(aF:Int)(aH:Int):Option Bool:=
 ((Nj aD).bind λx1=>((bif (x1==true) then It aD aF else some false).bind λx2=>((bif ((bif x1 then x2 else false)==true) then It aD aH else some false).bind λx3=>(some (bif (bif x1 then x2 else false) then x3 else false)))))
theorem MP(h:O5 v4 v1 v2=some v5):sP 144 [(Z7 v4),(Z6 v1),(Z6 v2)] [] (.bool v5) []:=
 sG Tryz.func144 λΓ q=>Am q KW [] (tB h λx1 y1 h=>tB h λx2 y2 h=>tB h λx3 y3 h=>tT q [6] [] [(Z2 x1),(Z2 x2),(Z2 x3)] (ci (HN y1) (Xn (x1==true) (hZ (λ(hg:(x1==true)=true)=>(Se (Bz hg y2))) (Nt x1) (Xn ((bif x1 then x2 else false)==true) (c2 (λ(hg:((bif x1 then x2 else false)==true)=true)=>(Se (Bz hg y3))) (Nt (bif x1 then x2 else false))))))) (tS h (Ck [])))
def Rh(aD:Aq)(aF:Int)(aH:Int):Option Bool:=
 ((O5 aD aF aH).bind λx1=>((bif (x1==true) then L0 aD aF aH else some (0:Int)).bind λx2=>(some (bif x1 then(x2==aF) else false))))
theorem QG(h:Rh v4 v1 v2=some v5):sP 125 [(Z7 v4),(Z6 v1),(Z6 v2)] [] (.bool v5) []:=
 sG Tryz.func125 λΓ q=>Am q KW [] (tB h λx1 y1 h=>tB h λx2 y2 h=>tT q [6] [] [(Z2 x1),(DH x2)] (ci (MP y1) (XB (x1==true) (ci (λ(hg:(x1==true)=true)=>(BB (Bz hg y2))) (Xn (x1==true) (c1 (Nt x1)))))) (tS h (Ck [])))
def Fc(aO:A8)(a0:Aa)(a4:Int)(a9:Aq)(a7:List Jx)(a5:List A8):Option Ub:=
 (bif (((mget (default:Aj) a7 aO.v).place.block:Int)==aO.place.block) then(some ((decide (((mget (default:Aj) a7 aO.v).place.at_:Int)<aO.place.at_)),a0,a4,a9,a5)) else((Rh a9 ((mget (default:Aj) a7 aO.v).place.block) aO.place.block).bind λx1=>(some (x1,a0,a4,a9,a5))))
theorem Ps(h:Fc v30 v0 v1 v4 v25 v12=some v23):sP 97 [Yt,(.agg (Jt v30))] [(Z1 v0.Params v0.Ret v0.Blocks v1 v4 9100005 v12),(Nr v12.length),(9100005,.obj (.map false .i64 (mapE (λ(v_:Aj)=>((P1 v_):AV)) v25)))] (.bool v23.1) [(Z1 v23.2.1.Params v23.2.1.Ret v23.2.1.Blocks v23.2.2.1 v23.2.2.2.1 9100005 v23.2.2.2.2),(Nr v23.2.2.2.2.length),(9100005,.obj (.map false .i64 (mapE (λ(v_:Aj)=>((P1 v_):AV)) v25)))]:=
 sG Tryz.func97 λΓ q=>Am q Wd Na (gR q [0,3,5] Yp [(12,(ja v25 v30.v))] [] (c1 (show(AVle (mget (.agg [Ke,Ke,Ke,Ke]) (mapE (λ(v_:Aj)=>((P1 v_):AV)) v25) v30.v) (ja v25 v30.v)) from(CU (f:=(λ(v_:Aj)=>((P1 v_):AV))) (l:=v25) (AVle.refl _) rfl))) (Am q [0,3,5,19] Yp (gC h (λh=>Am q [4] Fn (tS h (Ck Vf))) λh=>tB h λx1 y1 h=>tT q [4] Fn [(Z2 x1)] (c1 (QG y1)) (tS h (Ck Vf)))))
abbrev lV:=(LR (Int×Aq×Int×List Ag×Int×Aq×List A8) ((Aq×Int×List Ag×Int×Aq×List A8) ⊕ (Aq×Int×List Ag×Int×Aq×List A8)))
def C7(a7:List Jx)(x8:jS):M8->Option lV:=
 λ((i9,l10,i11,l12,i13,l14,l15):M8)=>(bif (decide (i9<(x8.2.2.2.length:Int))) then(Cd (Bv i9 x8.2.2.2.length) ((He (x8.2.2.2.getD i9.toNat default) (⟨l10,i11,l12⟩:Aa) i13 l14 a7 l15).bind λx29=>(bif (!x29.1) then(some (.done (.inr (x29.2.1.Params,x29.2.1.Ret,x29.2.1.Blocks,x29.2.2.1,x29.2.2.2.1,x29.2.2.2.2)))) else(some (.next ((Ap (i9+1)),x29.2.1.Params,x29.2.1.Ret,x29.2.1.Blocks,x29.2.2.1,x29.2.2.2.1,x29.2.2.2.2)))))) else(some (.done (.inl (l10,i11,l12,i13,l14,l15)))))
def C8(a7:List Jx)(l21:List A8):M8->Option lV:=
 λ((i32,l33,i34,l35,i36,l37,l38):M8)=>(bif (decide (i32<(l21.length:Int))) then(Cd (Bv i32 l21.length) ((Iq (l21.getD i32.toNat default) (⟨l33,i34,l35⟩:Aa) i36 l37 a7 l38).bind λx52=>(bif (!x52.1) then(some (.done (.inr (x52.2.1.Params,x52.2.1.Ret,x52.2.1.Blocks,x52.2.2.1,x52.2.2.2.1,x52.2.2.2.2)))) else(some (.next ((Ap (i32+1)),x52.2.1.Params,x52.2.1.Ret,x52.2.1.Blocks,x52.2.2.1,x52.2.2.2.1,x52.2.2.2.2)))))) else(some (.done (.inl (l33,i34,l35,i36,l37,l38)))))
def C9(a7:List Jx)(l44:List A8):M8->Option lV:=
 λ((i55,l56,i57,l58,i59,l60,l61):M8)=>(bif (decide (i55<(l44.length:Int))) then(Cd (Bv i55 l44.length) ((Fc (l44.getD i55.toNat default) (⟨l56,i57,l58⟩:Aa) i59 l60 a7 l61).bind λx75=>(bif (!x75.1) then(some (.done (.inr (x75.2.1.Params,x75.2.1.Ret,x75.2.1.Blocks,x75.2.2.1,x75.2.2.2.1,x75.2.2.2.2)))) else(some (.next ((Ap (i55+1)),x75.2.1.Params,x75.2.1.Ret,x75.2.1.Blocks,x75.2.2.1,x75.2.2.2.1,x75.2.2.2.2)))))) else(some (.done (.inl (l56,i57,l58,i59,l60,l61)))))
def Ki :M8->Option (LR (Int×Aq×Int×List Ag×Int×Aq×List A8) (Int×Aa×Int×Aq×List A8)):=
 λ(s_:M8)=>match s_ with|(i1,l2,i3,l4,i5,l6,l7)=>(some (.done (i1,(⟨l2,i3,l4⟩:Aa),i5,l6,l7)))
def S4(Γ:G0)(a0:Aa)(a4:Int)(a9:Aq)(a7:List Jx)(a5:List A8)(r:bU):Exit->St->Prop:=fK Tryz.prog Γ Tryz.f75.results.toList [(Z1 a0.Params a0.Ret a0.Blocks a4 a9 9100005 a5),(Nr a5.length),(9100005,.obj (.map false .i64 (mapE (λ(v_:Aj)=>((P1 v_):AV)) a7)))] (Z6 r.1) [(Z1 r.2.1.Params r.2.1.Ret r.2.1.Blocks r.2.2.1 r.2.2.2.1 9100005 r.2.2.2.2),(Nr r.2.2.2.2.length),(9100005,.obj (.map false .i64 (mapE (λ(v_:Aj)=>((P1 v_):AV)) a7)))]
def mP(a7:List Jx):=(mapE (λ(v_:Aj)=>((P1 v_):AV)) a7)
def Gr(a0:Aa)(a4:Int)(a9:Aq)(a7:List Jx)(a5:List A8):Option bU:=
 ((Px (S:=M8) (X:=bU) ((Fa a0 a4 a9 a7 a5).bind λx8=>((Ah (C7 a7 x8) ((0:Int),x8.1.Params,x8.1.Ret,x8.1.Blocks,x8.2.1,x8.2.2.1,x8.2.2.2)).bind (λx30=>(match x30 with|(.inl (l16,i17,l18,i19,l20,l21))=>((Ah (C8 a7 l21) ((0:Int),l16,i17,l18,i19,l20,l21)).bind (λx53=>(match x53 with|(.inl (l39,i40,l41,i42,l43,l44))=>((Ah (C9 a7 l44) ((0:Int),l39,i40,l41,i42,l43,l44)).bind (λx76=>(match x76 with|(.inl (l62,i63,l64,i65,l66,l67))=>(some (.done ((0:Int),(⟨l62,i63,l64⟩:Aa),i65,l66,l67)))|(.inr (l68,i69,l70,i71,l72,l73))=>(some (.next ((7:Int),l68,i69,l70,i71,l72,l73))))))|(.inr (l45,i46,l47,i48,l49,l50))=>(some (.next ((6:Int),l45,i46,l47,i48,l49,l50))))))|(.inr (l22,i23,l24,i25,l26,l27))=>(some (.next ((7:Int),l22,i23,l24,i25,l26,l27))))))) Ki).bind (λx81=>(some x81)))
theorem Sx(h:Gr v0 v1 v4 v25 v12=some v13):sP 75 [Yt] [(Z1 v0.Params v0.Ret v0.Blocks v1 v4 9100005 v12),(Nr v12.length),(9100005,.obj (.map false .i64 (mapE (λ(v_:Aj)=>((P1 v_):AV)) v25)))] (Z6 v13.1) [(Z1 v13.2.1.Params v13.2.1.Ret v13.2.1.Blocks v13.2.2.1 v13.2.2.2.1 9100005 v13.2.2.2.2),(Nr v13.2.2.2.2.length),(9100005,.obj (.map false .i64 (mapE (λ(v_:Aj)=>((P1 v_):AV)) v25)))]:=
 sG Tryz.func75 λΓ q=>Am q [0] Fn (tB h λx81 y81 h=>gS y81 (λ(s_:M8)=>match s_ with|(i1,l2,i3,l4,i5,l6,l7)=>0) (λ(s_:M8)=>match s_ with|(i1,l2,i3,l4,i5,l6,l7)=>(⟨[(4,(Z6 i1))],(mV l2 i3 l4 i5 l6 9100005 l7 l7.length (mP v25)),[]⟩:St)) (λr_=>aR (S4 Γ v0 v1 v4 v25 v12 r_)) (λy h=>tB h λx8 y8 h=>tT q [0] Fn [(mT x8.1.Params x8.1.Ret x8.1.Blocks x8.2.1 x8.2.2.1 x8.2.2.2 x8.2.2.2.length (mP v25))] (c1 (Pq y8)) (tW q Wd Na Wd Na (Am q V9 Fn (gU 3 (Am q YP Fn (ZV true (tU q WD P0 (c1 (show(Bv (0:Int) 3) from(by decide))) (tW q VU P0 Yq P0 (tL q h Yq P0 (λu (i9,l10,i11,l12,i13,l14,l15)=>(Fo u [(32,(Z6 i9))] (LK l10 i11 l12 i13 l14 l15 l15.length))) (λu x_=>match x_ with|(.inl (l16,i17,l18,i19,l20,l21))=>aG Γ (.exit 2) (W5 V9 Fn u [] (LK l16 i17 l18 i19 l20 l21 l21.length))|(.inr (l22,i23,l24,i25,l26,l27))=>aG Γ (.goto 0) (W5 [4] Fn u [] (LK l22 i23 l24 i25 l26 l27 l27.length))) (λ⟨i9,l10,i11,l12,i13,l14,l15⟩ y h=>Am q fS P0 (gC h (λh=>tV q fU fY h λh=>tB h λx29 y29 h=>tT q fT P0 [(oM x29.1 x29.2.1.Params x29.2.1.Ret x29.2.1.Blocks x29.2.2.1 x29.2.2.2.1 x29.2.2.2.2 x29.2.2.2.2.length (mP v25))] (c1 (Pt y29)) (gC h (λh=>tS h (gO (D1 (Db [4] Fn q)))) λh=>Am q Yq P0 (tN h))) λh=>tS h (gO (D1 (Db V9 Fn q))))) λx30 h=>(match x30,h with | .inl ⟨l16,i17,l18,i19,l20,l21⟩,h=>gA (tW q V9 Fn YP Fn (ZV true (tU q WD P0 (c1 (show(Bv (1:Int) 3) from(by decide))) (tW q VU P0 Yq P0 (tL q h Yq P0 (λu (i32,l33,i34,l35,i36,l37,l38)=>(Fo u [(32,(Z6 i32))] (LK l33 i34 l35 i36 l37 l38 l38.length))) (λu x_=>match x_ with|(.inl (l39,i40,l41,i42,l43,l44))=>aG Γ (.exit 2) (W5 V9 Fn u [] (LK l39 i40 l41 i42 l43 l44 l44.length))|(.inr (l45,i46,l47,i48,l49,l50))=>aG Γ (.goto 0) (W5 [4] Fn u [] (LK l45 i46 l47 i48 l49 l50 l50.length))) (λ⟨i32,l33,i34,l35,i36,l37,l38⟩ y h=>Am q fS P0 (gC h (λh=>tV q fU fY h λh=>tB h λx52 y52 h=>tT q fT P0 [(oM x52.1 x52.2.1.Params x52.2.1.Ret x52.2.1.Blocks x52.2.2.1 x52.2.2.2.1 x52.2.2.2.2 x52.2.2.2.2.length (mP v25))] (c1 (Sv y52)) (gC h (λh=>tS h (gO (D1 (Db [4] Fn q)))) λh=>Am q Yq P0 (tN h))) λh=>tS h (gO (D1 (Db V9 Fn q))))) λx53 h=>(match x53,h with | .inl ⟨l39,i40,l41,i42,l43,l44⟩,h=>gA (tW q V9 Fn YP Fn (ZV true (tU q WD P0 (c1 (show(Bv (2:Int) 3) from(by decide))) (tW q VU P0 Yq P0 (tL q h Yq P0 (λu (i55,l56,i57,l58,i59,l60,l61)=>(Fo u [(32,(Z6 i55))] (LK l56 i57 l58 i59 l60 l61 l61.length))) (λu x_=>match x_ with|(.inl (l62,i63,l64,i65,l66,l67))=>aG Γ (.exit 2) (W5 V9 Fn u [] (LK l62 i63 l64 i65 l66 l67 l67.length))|(.inr (l68,i69,l70,i71,l72,l73))=>aG Γ (.goto 0) (W5 [4] Fn u [] (LK l68 i69 l70 i71 l72 l73 l73.length))) (λ⟨i55,l56,i57,l58,i59,l60,l61⟩ y h=>Am q fS P0 (gC h (λh=>tV q fU fY h λh=>tB h λx75 y75 h=>tT q fT P0 [(oM x75.1 x75.2.1.Params x75.2.1.Ret x75.2.1.Blocks x75.2.2.1 x75.2.2.2.1 x75.2.2.2.2 x75.2.2.2.2.length (mP v25))] (c1 (Ps y75)) (gC h (λh=>tS h (gO (D1 (Db [4] Fn q)))) λh=>Am q Yq P0 (tN h))) λh=>tS h (gO (D1 (Db V9 Fn q))))) λx76 h=>(match x76,h with | .inl ⟨l62,i63,l64,i65,l66,l67⟩,h=>gA (tW q V9 Fn YP Fn (ZV false (Am q [2] Fn (tS h (jn (Sr (Kp Vf (Le.refl _ _)))))))) | .inr ⟨l68,i69,l70,i71,l72,l73⟩,h=>jm (λst' hl78=>tS h (iH (Le.trans hl78 Mw))))))))) | .inr ⟨l45,i46,l47,i48,l49,l50⟩,h=>jm (λst' hl79=>tS h (iH (Le.trans hl79 Mw))))))))) | .inr ⟨l22,i23,l24,i25,l26,l27⟩,h=>jm (λst' hl80=>tS h (iH (Le.trans hl80 Mw))))))))))))) (λ⟨i1,l2,i3,l4,i5,l6,l7⟩ y h=>Am q [2] Fn (tS h (jn (Sr (Kp Vf (Le.refl _ _)))))) (Wj (λst' hk=>tS h (gK hk))))
def mQ:=(λ(v_:Aj)=>((P1 v_):AV))
def o6(x1:bU):List SN:=(Z3 x1.2.1.Params x1.2.1.Ret x1.2.1.Blocks x1.2.2.1 x1.2.2.2.1 x1.2.2.2.2 x1.2.2.2.2.length)
def o7(x2:bU):List SN:=(Z3 x2.2.1.Params x2.2.1.Ret x2.2.1.Blocks x2.2.2.1 x2.2.2.2.1 x2.2.2.2.2 x2.2.2.2.2.length)
def o8(x3:bU):List SN:=(Z3 x3.2.1.Params x3.2.1.Ret x3.2.1.Blocks x3.2.2.1 x3.2.2.2.1 x3.2.2.2.2 x3.2.2.2.2.length)
def Er(a0:Aa)(a4:Int)(a9:Aq)(a5:List A8):Option VM:=
 ((Gq a0 a4 a9 a5).bind λx1=>(bif (x1.1 !=0) then(some (x1.1,x1.2.1,x1.2.2.1,x1.2.2.2.1,x1.2.2.2.2,([]:List Jx))) else((Fx x1.2.1 x1.2.2.1 x1.2.2.2.1 x1.2.2.2.2).bind λx2=>(bif (x2.1 !=0) then(some (x2.1,x2.2.1,x2.2.2.1,x2.2.2.2.1,x2.2.2.2.2,([]:List Jx))) else((F8 x2.2.1 x2.2.2.1 x2.2.2.2.1 x2.2.2.2.2).bind λx3=>(bif (x3.1 !=0) then(some (x3.1,x3.2.1,x3.2.2.1,x3.2.2.2.1,x3.2.2.2.2,([]:List Jx))) else((Fb x3.2.1 x3.2.2.1 x3.2.2.2.1 x3.2.2.2.2).bind λx4=>(bif (x4.1 !=0) then(some (x4.1,x4.2.1,x4.2.2.1,x4.2.2.2.1,x4.2.2.2.2.1,x4.2.2.2.2.2)) else((Gr x4.2.1 x4.2.2.1 x4.2.2.2.1 x4.2.2.2.2.2 x4.2.2.2.2.1).bind λx5=>(bif (x5.1 !=0) then(some (x5.1,x5.2.1,x5.2.2.1,x5.2.2.2.1,x5.2.2.2.2,x4.2.2.2.2.2)) else(some ((0:Int),x5.2.1,x5.2.2.1,x5.2.2.2.1,x5.2.2.2.2,x4.2.2.2.2.2))))))))))))
theorem K9(h:Er v0 v1 v4 v12=some v27):sP 52 [Yt] (Z3 v0.Params v0.Ret v0.Blocks v1 v4 v12 v12.length) (Z6 v27.1) [(Z1 v27.2.1.Params v27.2.1.Ret v27.2.1.Blocks v27.2.2.1 v27.2.2.2.1 9200005 v27.2.2.2.2.1),(Nr v27.2.2.2.2.1.length),(9200005,.obj (.map false .i64 (mapE (λ(v_:Aj)=>((P1 v_):AV)) v27.2.2.2.2.2)))]:=
 sG Tryz.func52 λΓ q=>tW q [0] Fq [3] SB (Am q AH Fq (gU 5 (Am q KV Fq (ZV true (tU q SG Fq (c1 (show(Bv (0:Int) 5) from(by decide))) (tB h λx1 y1 h=>tT q SH Fq [(oQ x1.1 (o6 x1))] (c1 (Sw y1)) (Am q SF Fq (gC h (λh=>Am q [2] Fq (Sb (⟨[(2,(Z6 x1.1))],(o6 x1),[]⟩:St) (tS h (gK (e:=.ret) (Kp fR (Le.trans (Rd (r:=30000) (j:=5) (nm:=9300005) .i64 rfl rfl (nl rfl) rfl) (Db (st':=⟨[(2,(Z6 x1.1))],[(Z1 x1.2.1.Params x1.2.1.Ret x1.2.1.Blocks x1.2.2.1 x1.2.2.2.1 9300005 x1.2.2.2.2),(Nr x1.2.2.2.2.length),(9300005,.obj (.map false .i64 (mapE mQ ([]:List Jx))))],[]⟩) [2] fb q))))))) λh=>tW q AH Fq KV Fq (ZV true (tU q SG Fq (c1 (show(Bv (1:Int) 5) from(by decide))) (tB h λx2 y2 h=>tT q SH Fq [(oQ x2.1 (o7 x2))] (c1 (Qb y2)) (Am q SF Fq (gC h (λh=>Am q [2] Fq (Sb (⟨[(2,(Z6 x2.1))],(o7 x2),[]⟩:St) (tS h (gK (e:=.ret) (Kp fR (Le.trans (Rd (r:=30000) (j:=5) (nm:=9300005) .i64 rfl rfl (nl rfl) rfl) (Db (st':=⟨[(2,(Z6 x2.1))],[(Z1 x2.2.1.Params x2.2.1.Ret x2.2.1.Blocks x2.2.2.1 x2.2.2.2.1 9300005 x2.2.2.2.2),(Nr x2.2.2.2.2.length),(9300005,.obj (.map false .i64 (mapE mQ ([]:List Jx))))],[]⟩) [2] fb q))))))) λh=>tW q AH Fq KV Fq (ZV true (tU q SG Fq (c1 (show(Bv (2:Int) 5) from(by decide))) (tB h λx3 y3 h=>tT q SH Fq [(oQ x3.1 (o8 x3))] (c1 (Rp y3)) (Am q SF Fq (gC h (λh=>Am q [2] Fq (Sb (⟨[(2,(Z6 x3.1))],(o8 x3),[]⟩:St) (tS h (gK (e:=.ret) (Kp fR (Le.trans (Rd (r:=30000) (j:=5) (nm:=9300005) .i64 rfl rfl (nl rfl) rfl) (Db (st':=⟨[(2,(Z6 x3.1))],[(Z1 x3.2.1.Params x3.2.1.Ret x3.2.1.Blocks x3.2.2.1 x3.2.2.2.1 9300005 x3.2.2.2.2),(Nr x3.2.2.2.2.length),(9300005,.obj (.map false .i64 (mapE mQ ([]:List Jx))))],[]⟩) [2] fb q))))))) λh=>tW q AH Fq KV Fq (ZV true (tU q SG Fq (c1 (show(Bv (3:Int) 5) from(by decide))) (tB h λx4 y4 h=>tT q SH Sn [⟨CH,[(9200005,13000005)],(Z6 x4.1),[(Z1 x4.2.1.Params x4.2.1.Ret x4.2.1.Blocks x4.2.2.1 x4.2.2.2.1 9200005 x4.2.2.2.2.1),(Nr x4.2.2.2.2.1.length),(9200005,.obj (.map false .i64 (mapE mQ x4.2.2.2.2.2)))],[],[]⟩] (c1 (Pr y4)) (Am q SF Sn (gC h (λh=>Am q [2] Sn (tS h (Ck fQ))) λh=>tW q AH Sn KV Sn (ZV true (tU q SG Sn (c1 (show(Bv (4:Int) 5) from(by decide))) (tB h λx5 y5 h=>tT q SH Sn [⟨[(30000,30000),(37006,37006),(13000005,9100005)],[],(Z6 x5.1),[(Z1 x5.2.1.Params x5.2.1.Ret x5.2.1.Blocks x5.2.2.1 x5.2.2.2.1 9100005 x5.2.2.2.2),(Nr x5.2.2.2.2.length),(9100005,.obj (.map false .i64 (mapE mQ x4.2.2.2.2.2)))],[],[]⟩] (c1 (Sx y5)) (Am q SF Sn (gC h (λh=>Am q [2] Sn (tS h (Ck fQ))) λh=>tW q AH Sn KV Sn (ZV false (Am q [2] Sn (tS h (Ck fQ))))))))))))))))))))))))))))))))
end
end Go.Proofs.YtjpnobeadcdnoaaGreat
