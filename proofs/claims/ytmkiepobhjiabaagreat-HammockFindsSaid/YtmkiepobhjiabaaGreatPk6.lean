/-
  The machine, the program's functions and the laws' arithmetic: part 6 of 6.
-/
import Derived.Test.YtmkiepobhjiabaaGreatPk5
set_option linter.unusedVariables false
set_option linter.unusedSimpArgs false
namespace Go.Proofs.YtmkiepobhjiabaaGreat
noncomputable section
open Go Go.RowKit
section
variable {S:Nat->List Nat} {at_:Nat->Nat} {par:Nat->Int} {r n:Nat}
def QB(S:Nat->List Nat)(r n:Nat)(par:Nat->Int)(b:Nat->Nat):Prop:=∀ x,x<n->par x≠-2->∀ z,AvN S r z (b x) x->¬ UpTo par x z
def Full(S:Nat->List Nat)(r n:Nat)(par:Nat->Int):Prop:=∀ x,x<n->Rc S r x->par x≠-2
def Exact(S:Nat->List Nat)(r n:Nat)(par:Nat->Int):Prop:=∀ x,x<n->par x≠-2->∀ d,UpTo par x d↔¬ Av S r d x
theorem qb_zero(h:Inv S r n at_ par):QB S r n par fun _=>0:=fun x hx hp z hz k=>by
 cases hz with
 | root hr _=>exact hr (h.root_anc.1 k).symm
theorem rc_lt(hS:∀ x,x<n->∀ w∈S x,w<n)(hr:r<n){x:Nat}(h:Rc S r x):x<n:=by
 induction h with
 | root=>exact hr
 | step _ hy ih=>exact hS _ ih _ hy
theorem Better.qb{y z k:Nat}{b:Nat->Nat}(h:Better S r n at_ par y z)(hS:∀ x,x<n->∀ w∈S x,w<n)(hrn:r<n)(full:Full S r n par)(hb:∀ x,x<n->k<=b x/\b x<=k+1)(q:QB S r n par b) :
  QB S r n (Pl par y z) fun x=>if x=y then k+1 else b x:=by
 have here:∀ w,AvN S r w (k+1) y->¬ UpTo (Pl par y z) y w:=fun w hw hu=>by
  rcases h.here.1 hu with rfl|hu
  ·exact hw.av.ne rfl
  ·cases hw with
   | root hr _=>exact h.hr rfl
   | @step _ p _ hp hyp hne=>
    have hpn:=rc_lt hS hrn hp.av.rc;have hpp:=full p hpn hp.av.rc;exact q p hpn hpp w (hp.mono (hb p hpn).1) ((h.best w).1 hu p hpn hyp hpp)
 intro x hx hxp w hw hu
 dsimp only at hw
 by_cases e:x=y
 ·subst e;rw[if_pos rfl]at hw;exact here w hw hu
 ·rw[if_neg e]at hw;unfold Pl at hxp;rw[if_neg e]at hxp;rcases anc_upd_inv hu with h1|⟨h1,h2⟩
  ·exact q x hx hxp w hw h1
  ·rcases hw.via y with h3|h3
   ·exact q x hx hxp y h3 h1
   ·exact here w (h3.mono (hb x hx).2) h2
theorem exact_of(h:Inv S r n at_ par){K:Nat}(hK:∀ z,z<n->∀ x,x<n->Av S r z x->AvN S r z K x)(q:QB S r n par fun _=>K):Exact S r n par:=fun x hx hp d=>by
 constructor
 ·intro hu ha;exact q x hx hp d (hK d (h.anc hu hx hp).1 x hx ha) hu
 ·intro ha;exact zzL107 fun hn=>ha (h.all x hx hp d hn)
theorem Better.same{y z:Nat}(h:Better S r n at_ par y z)(hS:∀ x,x<n->∀ w∈S x,w<n)(hrn:r<n)(full:Full S r n par)(hy2:par y≠-2)(ex:Exact S r n par):par y=(z:Int):=by
 obtain⟨hzz,hz2,hzl,hzf⟩:=h.zlt;rcases h.inv.kind y h.hy with h1|h1|⟨q,hq⟩
 ·exact absurd h1 hy2
 ·exact absurd h1 h.hr
 ·obtain⟨q1,q2,q3,q4⟩:=h.inv.up y h.hy q hq
  have key:∀ w,UpTo par z w↔UpTo par q w:=fun w=>by
   rw[h.best w]
   constructor
   ·intro hall
    have hwy:¬ Av S r w y:=fun ha=>by
     cases ha with
     | root _=>exact h.hr rfl
     | @step p _ hp hyp hne=>
      have hpn:=rc_lt hS hrn hp.rc;have hpp:=full p hpn hp.rc;exact(ex p hpn hpp w).1 (hall p hpn hyp hpp) hp
    rcases(anc_up hq).1 ((ex y h.hy hy2 w).2 hwy) with rfl|hu
    ·have:=(h.inv.anc ((h.best _).2 hall) h.hz hz2).2.2.1;omega
    ·exact hu
   ·intro hu p hp hyp hpp;have hwy:UpTo par y w:=.up hq hu;refine(ex p hp hpp w).2 fun ha=>?_
    have hne:y≠w:=by rintro rfl;have:=(h.inv.anc hu q1 q2).2.2.1;omega
    exact(ex y h.hy hy2 w).1 hwy (.step ha hyp hne)
  have:=h.inv.antisymm ((key q).2 (.refl _)) ((key z).1 (.refl _)) h.hz hz2;rw[hq,this]
theorem exact_fix(h:Inv S r n at_ par)(hS:∀ x,x<n->∀ w∈S x,w<n)(hrn:r<n)(full:Full S r n par)(fix:∀ y,y<n->y≠r->Rc S r y->∃ z:Nat,par y=(z:Int)/\Best S n par y z):Exact S r n par:=fun x hx hp d=>by
 constructor
 ·intro hu ha
  induction ha with
  | root hne=>exact hne (h.root_anc.1 hu).symm
  | @step p y hp' hyp hne ih=>
   have hpn:=rc_lt hS hrn hp'.rc;have hpp:=full p hpn hp'.rc
   by_cases e:y=r
   ·subst e;exact hne (h.root_anc.1 hu).symm
   ·obtain⟨z,hz,hb⟩:=fix y hx e (.step hp'.rc hyp);rcases(anc_up hz).1 hu with rfl|hu
    ·exact hne rfl
    ·exact ih hpn hpp ((hb d).1 hu p hpn hyp hpp)
 ·intro ha;exact zzL107 fun hn=>ha (h.all x hx hp d hn)
end
def Bo(t:List Int):Nat->Int:=fun x=>t.getD x 0
theorem parL_set{t:List Int}{y:Nat}{v:Int}(hy:y<t.length):Bo (t.set y v)=Pl (Bo t) y v:=by
 funext x
 unfold Bo Pl
 by_cases e:x=y
 ·subst e;simp[List.getD,hy]
 ·simp[List.getD,e,Ne.symm e]
open Classical in
def Og(S:Nat->List Nat)(n:Nat)(t:List Int)(y:Nat):Nat:=if h:∃ z,z<n/\Best S n (Bo t) y z then Classical.choose h else 0
def Xe(S:Nat->List Nat)(n:Nat)(P:List Nat)(t:List Int):Nat->List Int
 | 0=>t
 | i+1=>(Xe S n P t i).set (P.getD i 0) (Og S n (Xe S n P t i) (P.getD i 0):Int)
def rnR(S:Nat->List Nat)(n:Nat)(P:List Nat)(t:List Int):Nat->List Int
 | 0=>t
 | j+1=>Xe S n P (rnR S n P t j) P.length
def H6(n r:Nat):List Int:=(List.replicate n (-2:Int)).set r (-1)
structure Ordered(S:Nat->List Nat)(r n:Nat)(P:List Nat):Prop where
 hr:r<n
 hS:∀ x,x<n->∀ w∈S x,w<n
 nodup:(r::P).Nodup
 mem:∀ x,x∈r::P↔Rc S r x
 fwd:∀ i,i<P.length->∃ p,p∈r::P.take i/\P.getD i 0∈S p
section
variable {S:Nat->List Nat} {r n:Nat} {P:List Nat}
theorem Ordered.lt(o:Ordered S r n P){x:Nat}(h:x∈r::P):x<n:=rc_lt o.hS o.hr ((o.mem x).1 h)
theorem Rz{i:Nat}(hi:i<P.length):P.getD i 0∈P:=by rw[Ai _ _ _ hi];exact zzL84 hi
theorem Ordered.at_lt(o:Ordered S r n P){i:Nat}(hi:i<P.length){p:Nat}(hp:p∈r::P.take i):pos (r::P) p<pos (r::P) (P.getD i 0):=by
 have hd:=o.nodup
 have h1:pos (r::P) (P.getD i 0)=i+1:=by
  have:=(pos_get hd (i:=i+1) (by simpa using hi)).2;rw[Ai _ _ _ hi]
  simpa using this
 rw[h1];obtain⟨j,hj,rfl⟩:=Py hp
 have hj':j<i+1:=by simp at hj;omega
 have hjl:j<(r::P).length:=by simp;omega
 have e:(r::P.take i)[j]=(r::P)[j]:=by
  cases j with
  | zero=>rfl
  | succ j=>simp
 rw[e,(pos_get hd hjl).2];exact hj'
theorem inv0(o:Ordered S r n P):Inv S r n (pos (r::P)) (Bo (H6 n r))/\(H6 n r).length=n/\Bo (H6 n r) r≠-2:=by
 have hlen:(H6 n r).length=n:=by simp[H6]
 have hr:=o.hr
 have at_:∀ x,x<n->Bo (H6 n r) x=if x=r then -1 else -2:=fun x hx=>by
  unfold Bo H6
  by_cases e:x=r
  ·subst e;simp[List.getD,hx]
  ·simp[List.getD,hx,e,Ne.symm e]
 have hno:∀ x,x<n->∀ p:Nat,Bo (H6 n r) x≠(p:Int):=fun x hx p hp=>by rw[at_ x hx]at hp;split at hp<;>omega
 refine⟨⟨by rw[at_ r hr,if_pos rfl],fun x hx=>?_,fun x hx z hz=>absurd hz (hno x hx z),fun x hx hp=>?_,fun x hx hp d hd=>?_⟩,hlen,by rw[at_ r hr,if_pos rfl];omega⟩
 ·by_cases e:x=r
  ·exact .inr (.inl e)
  ·exact .inl (by rw[at_ x hx,if_neg e])
 ·by_cases e:x=r
  ·subst e;exact .root
  ·exact absurd (by rw[at_ x hx,if_neg e]) hp
 ·by_cases e:x=r
  ·subst e;exact .root (fun e=>hd (by rw[e];exact .refl _))
  ·exact absurd (by rw[at_ x hx,if_neg e]) hp
structure Ready(S:Nat->List Nat)(r n:Nat)(P:List Nat)(t:List Int)(i:Nat):Prop where
 inv:Inv S r n (pos (r::P)) (Bo t)
 len:t.length=n
 done:∀ x∈r::P.take i,Bo t x≠-2
theorem Inv.meets{at_:Nat->Nat}{par:Nat->Int}(h:Inv S r n at_ par)(hinj:∀ x y,x<n->y<n->par x≠-2->par y≠-2->at_ x=at_ y->x=y)(hr:at_ r=0):∀ m a b,at_ a+at_ b<=m->a<n->b<n->par a≠-2->par b≠-2->∃ c,MeetAt par a b c/\c<n/\par c≠-2:=by
 intro m
 induction m with
 | zero=>
  intro a b hm ha hb hpa hpb;have:a=b:=hinj a b ha hb hpa hpb (by omega);subst this;exact⟨a,meet_self,ha,hpa⟩
 | succ m ih=>
  have go:∀ a b,at_ a+at_ b<=m+1->a<n->b<n->par a≠-2->par b≠-2->at_ b<=at_ a->∃ c,MeetAt par a b c/\c<n/\par c≠-2:=fun a b hm ha hb hpa hpb hl=>by
   by_cases e:a=b
   ·subst e;exact⟨a,meet_self,ha,hpa⟩
   ·rcases h.kind a ha with h1|h1|⟨p,hp⟩
    ·exact absurd h1 hpa
    ·subst h1;exact absurd (hinj a b ha hb hpa hpb (by omega)) e
    ·obtain⟨p1,p2,p3,p4⟩:=h.up a ha p hp;obtain⟨c,hc,hc2⟩:=ih p b (by omega) p1 hb p2 hpb;exact⟨c,h.meet_left hinj ha hpa hb hpb e hl hp hc,hc2⟩
  intro a b hm ha hb hpa hpb;rcases Nat.le_total (at_ b) (at_ a) with hl|hl
  ·exact go a b hm ha hb hpa hpb hl
  ·obtain⟨c,hc,hc2⟩:=go b a (by omega) hb ha hpb hpa hl;exact⟨c,meet_swap hc,hc2⟩
theorem Ready.inj(o:Ordered S r n P){t:List Int}{i:Nat}(h:Ready S r n P t i):∀ x y,x<n->y<n->Bo t x≠-2->Bo t y≠-2->pos (r::P) x=pos (r::P) y->x=y:=fun x y hx hy hpx hpy he=>by
 have hm:∀ x,x<n->Bo t x≠-2->x∈r::P:=fun x hx hp=>(o.mem x).2 (h.inv.rc x hx hp)
 have back:∀ x∈r::P,(r::P).getD (pos (r::P) x) 0=x:=fun x hx=>by
  obtain⟨j,hj,rfl⟩:=Py hx;rw[(pos_get o.nodup hj).2,Ai _ _ _ hj]
 rw[<- back x (hm x hx hpx),<- back y (hm y hy hpy),he]
theorem pos_root:pos (r::P) r=0:=by rw[pos_cons,if_pos rfl]
theorem Ready.meetAll(o:Ordered S r n P){t:List Int}{i:Nat}(h:Ready S r n P t i):∀ l:List Nat,(∀ p∈l,p<n/\Bo t p≠-2)->l≠[]->∃ z,z<n/\Bo t z≠-2/\∀ w,UpTo (Bo t) z w↔∀ p∈l,UpTo (Bo t) p w:=by
 intro l
 induction l with
 | nil=>intro _ hn;exact absurd rfl hn
 | cons p l ih=>
  intro hl _;obtain⟨hp1,hp2⟩:=hl p (zzL38 ..)
  by_cases hl0:l=[]
  ·subst hl0;exact⟨p,hp1,hp2,fun w=>by simp⟩
  ·obtain⟨z,hz1,hz2,hz3⟩:=ih (fun q hq=>hl q (zzL19 _ hq)) hl0;obtain⟨c,hc1,hc2,hc3⟩:=h.inv.meets (h.inj o) pos_root _ p z (zzL9 _) hp1 hz1 hp2 hz2;exact⟨c,hc2,hc3,fun w=>by rw[hc1 w,hz3 w];simp⟩
theorem Ready.best(o:Ordered S r n P){t:List Int}{i:Nat}(h:Ready S r n P t i)(hi:i<P.length):Better S r n (pos (r::P)) (Bo t) (P.getD i 0) (Og S n t (P.getD i 0)):=by
 have hy:=Rz hi;have hyr:P.getD i 0≠r:=fun e=>(zzL110.1 o.nodup).1 (e▸hy);have hyn:=o.lt (zzL19 _ hy);obtain⟨p,hp,hyp⟩:=o.fwd i hi;have hp2:=h.done p hp
 have hpP:p∈r::P:=by
  rcases zzL28.1 hp with rfl|hp
  ·exact zzL38 ..
  ·exact zzL19 _ (List.mem_of_mem_take hp)
 have hpn:=o.lt hpP
 have hex:∃ z,z<n/\Best S n (Bo t) (P.getD i 0) z:=by
  classical
  obtain⟨z,hz1,hz2,hz3⟩:=h.meetAll o ((List.range n).filter fun p=>decide (P.getD i 0∈S p/\Bo t p≠-2)) (fun p hp=>by
   obtain⟨h1,h2⟩:=zzL72.1 hp
   exact⟨zzL54.1 h1,(zzL95 h2).2⟩) (fun e=>by
   have:p∈(List.range n).filter fun p=>decide (P.getD i 0∈S p/\Bo t p≠-2):=zzL72.2 ⟨zzL54.2 hpn,Br ⟨hyp,hp2⟩⟩
   rw[e]at this;cases this)
  refine⟨z,hz1,fun w=>?_⟩;rw[hz3 w]
  constructor
  ·intro k p hp hyp hpp;exact k p (zzL72.2 ⟨zzL54.2 hp,Br ⟨hyp,hpp⟩⟩)
  ·intro k p hp;obtain⟨h1,h2⟩:=zzL72.1 hp;exact k p (zzL54.1 h1) (zzL95 h2).1 (zzL95 h2).2
 have hb:Og S n t (P.getD i 0)<n/\Best S n (Bo t) (P.getD i 0) (Og S n t (P.getD i 0)):=by
  unfold Og;rw[dif_pos hex];exact Classical.choose_spec hex
 exact⟨h.inv,hyn,hyr,hb.1,hb.2,p,hpn,hyp,hp2,o.at_lt hi hp⟩
theorem Ready.best_eq(o:Ordered S r n P){t:List Int}{i:Nat}(h:Ready S r n P t i)(hi:i<P.length){z:Nat}(hz:z<n)(hz2:Bo t z≠-2)(hb:Best S n (Bo t) (P.getD i 0) z):z=Og S n t (P.getD i 0):=by
 have b:=h.best o hi;exact(h.inv.antisymm ((hb _).2 ((b.best _).1 (.refl _))) ((b.best _).2 ((hb _).1 (.refl _))) hz hz2).symm
theorem Ready.next(o:Ordered S r n P){t:List Int}{i:Nat}(h:Ready S r n P t i)(hi:i<P.length):Ready S r n P (t.set (P.getD i 0) (Og S n t (P.getD i 0):Int)) (i+1):=by
 have b:=h.best o hi;have e:=parL_set (t:=t) (y:=P.getD i 0) (v:=(Og S n t (P.getD i 0):Int)) (by rw[h.len];exact b.hy);refine⟨by rw[e];exact b.inv',by rw[Hb];exact h.len,fun x hx=>?_⟩;rw[e];unfold Pl
 split
 ·omega
 ·rename_i hne
  refine h.done x ?_;rcases zzL28.1 hx with rfl|hx
  ·exact zzL38 ..
  ·rw[zzL85 hi]at hx;rcases zzL18.1 hx with hx|hx
   ·exact zzL19 _ hx
   ·rw[zzL23,<- Ai _ _ 0 hi]at hx;exact absurd hx hne
theorem Ready.more(o:Ordered S r n P){t:List Int}(h:Ready S r n P t P.length)(i:Nat):Ready S r n P t i:=
 ⟨h.inv,h.len,fun x hx=>h.done x (by
  rw[zzL91];rcases zzL28.1 hx with rfl|hx
  ·exact zzL38 ..
  ·exact zzL19 _ (List.mem_of_mem_take hx))⟩
theorem Ready.full(o:Ordered S r n P){t:List Int}(h:Ready S r n P t P.length):Full S r n (Bo t):=fun x hx hr=>h.done x (by rw[zzL91];exact(o.mem x).2 hr)
theorem Ready.round(o:Ordered S r n P){t:List Int}(h:Ready S r n P t 0):∀ i,i<=P.length->Ready S r n P (Xe S n P t i) i:=by
 intro i
 induction i with
 | zero=>intro _;exact h
 | succ i ih=>intro hi;exact(ih (by omega)).next o (by omega)
theorem ready0(o:Ordered S r n P):Ready S r n P (H6 n r) 0:=by
 obtain⟨h1,h2,h3⟩:=inv0 o;exact⟨h1,h2,fun x hx=>by simp at hx;subst hx;exact h3⟩
theorem Ready.rounds(o:Ordered S r n P):∀ j,Ready S r n P (rnR S n P (H6 n r) j) 0:=by
 intro j
 induction j with
 | zero=>exact ready0 o
 | succ j ih=>exact((ih.round o) P.length (zzL9 _)).more o 0
theorem Ready.rounds'(o:Ordered S r n P)(j:Nat):Ready S r n P (rnR S n P (H6 n r) (j+1)) P.length:=(Ready.rounds o j).round o P.length (zzL9 _)
theorem qb_round(o:Ordered S r n P){t:List Int}{k:Nat}(h:Ready S r n P t P.length)(q:QB S r n (Bo t) fun _=>k):QB S r n (Bo (Xe S n P t P.length)) fun _=>k+1:=by
 have key:∀ i,i<=P.length->QB S r n (Bo (Xe S n P t i)) (fun x=>if x∈P.take i then k+1 else k)/\Full S r n (Bo (Xe S n P t i)):=by
  intro i
  induction i with
  | zero=>intro _;exact⟨by simpa [Xe] using q,h.full o⟩
  | succ i ih=>
   intro hi;obtain⟨q1,f1⟩:=ih (by omega);have rd:=(h.more o 0).round o i (by omega);have b:=rd.best o (by omega);have e:=parL_set (t:=Xe S n P t i) (y:=P.getD i 0) (v:=(Og S n (Xe S n P t i) (P.getD i 0):Int)) (by rw[rd.len];exact b.hy)
   constructor
   ·show QB S r n (Bo ((Xe S n P t i).set _ _)) _
    rw[e];have:=b.qb (k:=k) o.hS o.hr f1 (fun x _=>by split<;>omega) q1;intro x hx hp z hz;refine this x hx hp z ?_
    dsimp only at hz ⊢
    rw[zzL85 (by omega:i<P.length)]at hz
    by_cases e1:x=P.getD i 0
    ·rw[if_pos e1];rwa[if_pos (zzL18.2 (.inr (zzL23.2 (by rw[e1,Ai _ _ _ (by omega:i<P.length)]))))]at hz
    ·rw[if_neg e1]
     by_cases e2:x∈P.take i
     ·rw[if_pos e2];rwa[if_pos (zzL18.2 (.inl e2))]at hz
     ·rw[if_neg e2]
      rwa[if_neg (fun hm=>by
       rcases zzL18.1 hm with hm|hm
       ·exact e2 hm
       ·rw[zzL23,<- Ai _ _ 0 (by omega:i<P.length)]at hm;exact e1 hm)]at hz
   ·show Full S r n (Bo ((Xe S n P t i).set _ _))
    rw[e];intro x hx hr;unfold Pl
    split
    ·omega
    ·exact f1 x hx hr
 have q1:=(key P.length (zzL9 _)).1;rw[zzL91]at q1;have rd:=(h.more o 0).round o P.length (zzL9 _);intro x hx hp z hz;refine q1 x hx hp z ?_
 dsimp only at hz ⊢
 by_cases e:x∈P
 ·rw[if_pos e];exact hz
 ·rw[if_neg e]
  have hxr:x=r:=by
   rcases zzL28.1 ((o.mem x).2 (rd.inv.rc x hx hp)) with h1|h1
   ·exact h1
   ·exact absurd h1 e
  subst hxr;exact .root hz.av.ne k
def V8(S:Nat->List Nat)(n:Nat)(P:List Nat)(t:List Int):Prop:=∀ i,i<P.length->Bo t (P.getD i 0)=(Og S n t (P.getD i 0):Int)
theorem Yu{t:List Int}(o:Ordered S r n P)(hl:t.length=n)(h:V8 S n P t):∀ i,i<=P.length->Xe S n P t i=t:=by
 intro i
 induction i with
 | zero=>intro _;rfl
 | succ i ih=>
  intro hi;unfold Xe;rw[ih (by omega),<- h i (by omega)]
  have hlt:P.getD i 0<t.length:=by rw[hl];exact o.lt (zzL19 _ (Rz (by omega)))
  unfold Bo;rw[Ai _ _ _ hlt];exact List.set_getElem_self hlt
theorem stops(o:Ordered S r n P):∃ J,(∀ j,j<J->¬ V8 S n P (rnR S n P (H6 n r) j))/\V8 S n P (rnR S n P (H6 n r) J):=by
 obtain⟨K,hK⟩:=avn_bound (S:=S) (r:=r) n
 have hq:∀ k,QB S r n (Bo (rnR S n P (H6 n r) (k+1))) fun _=>k:=by
  intro k
  induction k with
  | zero=>exact qb_zero (Ready.rounds' o 0).inv
  | succ k ih=>exact qb_round o (Ready.rounds' o k) ih
 have hst:V8 S n P (rnR S n P (H6 n r) (K+1)):=fun i hi=>by
  have rd:=Ready.rounds' o K;exact((rd.more o i).best o hi).same o.hS o.hr (rd.full o) (rd.done _ (zzL19 _ (by rw[zzL91];exact Rz hi))) (exact_of rd.inv hK (hq K))
 have key:∀ m,(∃ J,J<=m/\V8 S n P (rnR S n P (H6 n r) J))->∃ J,(∀ j,j<J->¬ V8 S n P (rnR S n P (H6 n r) j))/\V8 S n P (rnR S n P (H6 n r) J):=by
  intro m
  induction m with
  | zero=>rintro⟨J,hJ,h⟩;exact⟨J,fun j hj=>by omega,h⟩
  | succ m ih=>
   rintro⟨J,hJ,h⟩
   by_cases hm:∃ J,J<=m/\V8 S n P (rnR S n P (H6 n r) J)
   ·exact ih hm
   ·exact⟨J,fun j hj hs=>hm ⟨j,by omega,hs⟩,h⟩
 exact key (K+1) ⟨K+1,zzL9 _,hst⟩
structure DomTree(S:Nat->List Nat)(r n:Nat)(P:List Nat)(t:List Int):Prop where
 inv:Inv S r n (pos (r::P)) (Bo t)
 len:t.length=n
 full:Full S r n (Bo t)
 exact_:Exact S r n (Bo t)
theorem still_exact(o:Ordered S r n P){j:Nat}(h:V8 S n P (rnR S n P (H6 n r) j)):DomTree S r n P (rnR S n P (H6 n r) j):=by
 have rd:=Ready.rounds o j
 have hall:Ready S r n P (rnR S n P (H6 n r) j) P.length:=by
  have:=rd.round o P.length (zzL9 _);rwa[Yu o rd.len h P.length (zzL9 _)]at this
 refine⟨rd.inv,rd.len,hall.full o,exact_fix rd.inv o.hS o.hr (hall.full o) fun y hy hne hr=>?_⟩
 have hm:y∈P:=by
  rcases zzL28.1 ((o.mem y).2 hr) with h1|h1
  ·exact absurd h1 hne
  ·exact h1
 obtain⟨i,hi,rfl⟩:=Py hm;have b:=(hall.more o i).best o hi;rw[Ai _ _ _ hi]at b;have hs:=h i hi;rw[Ai _ _ _ hi]at hs;exact⟨_,hs,b.best⟩
end
section
variable {S:Nat->List Nat} {s s':Nat->Bool} {l o:List Nat}
theorem VL.before(h:VL S s l s' o):∀ A z B,o=A++z::B->z∈l\/∃ p∈B,z∈S p:=by
 induction h with
 | nil s=>intro A z B e;simp at e
 | skip h _ ih=>
  intro A z B e;rcases ih A z B e with h1|h1
  ·exact .inl (zzL19 _ h1)
  ·exact .inr h1
 | @step s s1 s2 y l o1 o2 h a b iha ihb=>
  intro A z B e;rcases List.append_eq_append_iff.1 e with⟨C,hC1,hC2⟩|⟨C,hC1,hC2⟩
  ·
   cases C with
   | nil=>
    simp at hC2;obtain⟨rfl,rfl⟩:=hC2;exact .inl (zzL38 ..)
   | cons c C=>
    simp at hC2;obtain⟨rfl,hC2⟩:=hC2;rcases ihb C z B hC2 with h1|h1
    ·exact .inl (zzL19 _ h1)
    ·exact .inr h1
  ·cases C with
   | nil=>
    simp at hC2;obtain⟨rfl,rfl⟩:=hC2;exact .inl (zzL38 ..)
   | cons c C=>
    simp at hC2;obtain⟨rfl,rfl⟩:=hC2;rcases iha A z C hC1 with h1|⟨p,hp,hz⟩
    ·exact .inr ⟨y,by simp,h1⟩
    ·exact .inr ⟨p,by simp[hp],hz⟩
theorem Ord.ordered{n r:Nat}{L:List Nat}(hr:r<n)(hS:∀ x,x<n->∀ w∈S x,w<n)(h:Ord S r L):∃ P,L=r::P/\Ordered S r n P:=by
 have h1:=h.nodup;have h2:=h.mem;obtain⟨s',o,hv,rfl⟩:=h;refine⟨o.reverse,rfl,hr,hS,h1,fun x=>by rw[h2 x,rc_iff],fun i hi=>?_⟩
 have hi':i<o.length:=by simpa using hi
 have e:o.reverse=o.reverse.take i++o.reverse[i]::o.reverse.drop (i+1):=by rw[<- Y3 hi,List.take_append_drop]
 have e2:o=(o.reverse.drop (i+1)).reverse++o.reverse[i]::(o.reverse.take i).reverse:=by
  have:=Cq List.reverse e;rw[List.reverse_reverse]at this;rw[List.reverse_append,List.reverse_cons]at this
  simpa using this
 rw[Ai _ _ _ hi];rcases hv.before _ _ _ e2 with h3|⟨p,hp,hz⟩
 ·exact⟨r,zzL38 ..,h3⟩
 ·exact⟨p,zzL19 _ (zzL122.1 hp),hz⟩
end
def woI(S:Nat->List Nat)(w:Int):Nat->List Nat:=fun x=>(S x).filter fun y=>decide ((y:Int)≠w)
theorem woI_none(S:Nat->List Nat):woI S (-1)=S:=by
 funext x
 unfold woI;exact List.filter_eq_self.2 fun y _=>Br (by omega)
theorem woI_nat(S:Nat->List Nat)(z:Nat):woI S (z:Int)=wo S z:=by
 funext x
 unfold woI wo
 congr 1
 funext y
 exact zzL61.2 ⟨fun h e=>h (by rw[e]),fun h e=>h (Tz e)⟩
def Lc(L:List (List Int))(r:Nat)(w:Int):List Bool:=if(r:Int)=w then List.replicate L.length false else rds (woI (sN L) w) L.length ((List.replicate L.length false).set r true) L.length
theorem reachW_len(L:List (List Int))(r:Nat)(w:Int):(Lc L r w).length=L.length:=by
 unfold Lc
 split
 ·simp
 ·rw[Vx];simp
theorem m_reachW{L:List (List Int)}(hm:Lq L=true){r:Nat}(hr:r<L.length)(w:Int) :
  C6 (Ja L) (r:Int) w=some (Lc L r w):=by
 obtain⟨h1,h2,h3⟩:=mayS_iff.1 hm
 have hroom:(1000:Nat)<=room:=by decide
 have hS:=Wk hm;have hSw:∀ z,z<L.length->∀ y∈woI (sN L) w z,y<L.length:=fun z hz y hy=>hS z hz y (zzL72.1 hy).1;have hgs:(Ja L).Succ=L:=rfl
 have hlenS:∀ a,(sN L a).length=(L.getD a []).length:=fun a=>by simp[sN]
 let fl:List Nat->List Nat:=fun l=>l.filter fun y=>decide ((y:Int)≠w)
 have hin:∀(o:List Bool) (i:Nat),o.length=L.length->i<L.length->Ah (A1 (Ja L) w (i:Int)) ((0:Int),o)=some (if o.getD i false=true then mk o (woI (sN L) w i) else o):=fun o i ho hi=>by
  have hb:=Zt (h3 i hi)
  by_cases hoi:o.getD i false=true
  ·rw[if_pos hoi];have hmi:∀ k,(mk o (fl ((sN L i).take k))).getD i false=true:=fun k=>(mk_at (n:=L.length) _ _ ho (fun y hy=>hS i hi y (List.mem_of_mem_take (zzL72.1 hy).1)) i).2 (.inl hoi)
   have hml:∀ k,(mk o (fl ((sN L i).take k))).length=L.length:=fun k=>by rw[mk_len,ho]
   refine Fy (A1 (Ja L) w (i:Int)) (fun k=>(((k:Nat):Int),mk o (fl ((sN L i).take k)))) _ (L.getD i []).length (fun k hk=>?_) ?_
   ·show A1 (Ja L) w (i:Int) (_,_)=_
    unfold A1;obtain⟨a0,a1⟩:=X6 (h3 i hi) hk;simp only[hgs,As,hmi];rw[Ae (Gj (by rw[hml];exact hi)),Mc (Gj hi),Ag,Cy hk,Ag,Ae (Gj hi),Ae (Gj hk)]
    have hk':k<(sN L i).length:=by rw[hlenS];exact hk
    have hsk:(sN L i)[k]=((L.getD i []).getD k 0).toNat:=by rw[Ai _ _ _ hk];simp[sN]
    have hski:(((sN L i)[k]:Nat):Int)=(L.getD i []).getD k 0:=by rw[hsk];exact Pz a0
    have e:mk o (fl ((sN L i).take (k+1)))=if(L.getD i []).getD k 0=w then mk o (fl ((sN L i).take k)) else(mk o (fl ((sN L i).take k))).set ((L.getD i []).getD k 0).toNat true:=by
     rw[zzL85 hk']
     show mk o (List.filter _ (_++[_]))=_
     rw[zzL119]
     by_cases hw:(L.getD i []).getD k 0=w
     ·rw[if_pos hw]
      have:List.filter (fun y:Nat=>decide ((y:Int)≠w)) [(sN L i)[k]]=[]:=by rw[List.filter_cons,hski,hw];simp
      rw[this,List.append_nil]
     ·rw[if_neg hw]
      have:List.filter (fun y:Nat=>decide ((y:Int)≠w)) [(sN L i)[k]]=[(sN L i)[k]]:=by rw[List.filter_cons,hski,if_pos (Br hw)];rfl
      rw[this];unfold mk;rw[List.foldl_append,hsk]
      rfl
    by_cases hw:(L.getD i []).getD k 0=w
    ·have hne:((L.getD i []).getD k 0 !=w)=false:=by rw[hw];simp
     rw[hne,Aq,An,w1 (by omega),e,if_pos hw]
    ·have hne:((L.getD i []).getD k 0 !=w)=true:=by rw[zzL100];exact hw
     rw[hne,Ag,Ae (Gj hi),Ae (Gj hk),Ae ⟨a0,by rw[hml];exact a1⟩,w1 (by omega),e,if_neg hw]
     rfl
   ·show A1 (Ja L) w (i:Int) (_,_)=_
    unfold A1;simp only[hgs,As,hmi];rw[Ae (Gj (by rw[hml];exact hi)),Mc (Gj hi),Ag,Fo,Aq]
    have:(sN L i).take (L.getD i []).length=sN L i:=by rw[<- hlenS];exact zzL91 ..
    rw[this]
    rfl
  ·have hof:o.getD i false=false:=by simpa using hoi
   rw[if_neg hoi]
   apply Ao
   unfold A1;simp only[hgs,As,hof];rw[Ae (Gj (by rw[ho];exact hi)),Mc (Gj hi),Aq,Aq]
 have hsw:∀ o:List Bool,o.length=L.length->Ah (A4 (Ja L) w) ((0:Int),o)=some (sw (woI (sN L) w) o L.length):=fun o ho=>by
  refine Fy (A4 (Ja L) w) (fun i=>(((i:Nat):Int),sw (woI (sN L) w) o i)) _ L.length (fun i hi=>?_) ?_
  ·show A4 (Ja L) w (_,_)=_
   unfold A4
   have hl:(sw (woI (sN L) w) o i).length=L.length:=by rw[Ty,ho]
   simp only[hl,Cy hi,Ag];rw[hin _ i hl hi,w1 (by omega)]
   rfl
  ·show A4 (Ja L) w (_,_)=_
   unfold A4
   have hl:(sw (woI (sN L) w) o L.length).length=L.length:=by rw[Ty,ho]
   simp only[hl,Fo,Aq]
 unfold C6;simp only[hgs,As];rw[Ae ⟨by omega,Int.le_refl _,by omega⟩];unfold Lc
 by_cases hrw:(r:Int)=w
 ·rw[if_pos hrw]
  have:((r:Int)==w)=true:=by simpa using hrw
  rw[this,Ag]
 ·rw[if_neg hrw]
  have hne:((r:Int)==w)=false:=by rw[zzL32];exact hrw
  rw[hne,Aq,Ae (Gj (by simpa using hr))]
  have hl0:((List.replicate L.length false).set r true).length=L.length:=by simp
  have:Ah (A5 (Ja L) w) ((0:Int),(List.replicate L.length false).set r true)=some (rds (woI (sN L) w) L.length ((List.replicate L.length false).set r true) L.length):=by
   refine Fy (A5 (Ja L) w) (fun j=>(((j:Nat):Int),rds (woI (sN L) w) L.length ((List.replicate L.length false).set r true) j)) _ L.length (fun j hj=>?_) ?_
   ·show A5 (Ja L) w (_,_)=_
    unfold A5
    have hl:(rds (woI (sN L) w) L.length ((List.replicate L.length false).set r true) j).length=L.length:=by rw[Vx,hl0]
    simp only[hl,Cy hj,Ag];rw[hsw _ hl,w1 (by omega)]
    rfl
   ·show A5 (Ja L) w (_,_)=_
    unfold A5
    have hl:(rds (woI (sN L) w) L.length ((List.replicate L.length false).set r true) L.length).length=L.length:=by rw[Vx,hl0]
    simp only[hl,Fo,Aq]
  rw[this]
  rfl
theorem reach_at{L:List (List Int)}(hm:Lq L=true){r:Nat}(hr:r<L.length){b:Nat}:(Lc L r (-1)).getD b false=true↔Rc (sN L) r b:=by
 unfold Lc;rw[if_neg (by omega),woI_none,rds_spec (Wk hm) hr b,rc_iff]
theorem reachWo_at{L:List (List Int)}(hm:Lq L=true){r:Nat}(hr:r<L.length){a b:Nat}(hb:b<L.length):(Lc L r (a:Int)).getD b false=true↔Av (sN L) r a b:=by
 unfold Lc;rw[av_iff]
 by_cases h:r=a
 ·subst h;rw[if_pos rfl,Si]
  simp
 ·rw[if_neg (by omega),woI_nat,rds_spec (S:=wo (sN L) a) (fun z hz y hy=>Wk hm z hz y (zzL72.1 hy).1) hr b];simp[h]
def N9(L:List (List Int))(r a b:Nat):Bool:=(Lc L r (-1)).getD b false&&!(Lc L r (a:Int)).getD b false
theorem over_iff{L:List (List Int)}(hm:Lq L=true){r a b:Nat}(hr:r<L.length)(hb:b<L.length):N9 L r a b=true↔Rc (sN L) r b/\¬ Av (sN L) r a b:=by
 unfold N9;rw[A7,Nr,<- Bool.not_eq_true,reach_at hm hr,reachWo_at hm hr hb]
def nearB(L:List (List Int))(r a b:Nat):Bool:=(List.range L.length).all fun c=>decide (c=b) || !N9 L r c b || N9 L r c a
def Sh(L:List (List Int))(r b:Nat):Nat->Int
 | 0=>-2
 | a+1=>if a≠b/\N9 L r a b=true/\nearB L r a b=true then(a:Int) else Sh L r b a
def V1(L:List (List Int))(r b:Nat):Int:=if b=r then -1 else Sh L r b L.length
def Wl(L:List (List Int))(r:Nat):List Int:=(List.range L.length).map (V1 L r)
theorem treeD_len(L:List (List Int))(r:Nat):(Wl L r).length=L.length:=by simp[Wl]
theorem treeD_at{L:List (List Int)}{r b:Nat}(hb:b<L.length):(Wl L r).getD b 0=V1 L r b:=by unfold Wl;rw[Qg hb]
theorem pick_cases(L:List (List Int))(r b:Nat):∀ m,(Sh L r b m = -2/\∀ a,a<m->¬ (a≠b/\N9 L r a b=true/\nearB L r a b=true))\/∃ a,a<m/\Sh L r b m=(a:Int)/\a≠b/\N9 L r a b=true/\nearB L r a b=true:=by
 intro m
 induction m with
 | zero=>exact .inl ⟨rfl,fun a ha=>absurd ha (Rl a)⟩
 | succ m ih=>
  unfold Sh
  by_cases h:m≠b/\N9 L r m b=true/\nearB L r m b=true
  ·rw[if_pos h];exact .inr ⟨m,by omega,rfl,h⟩
  ·rw[if_neg h];rcases ih with⟨h1,h2⟩|⟨a,h1,h2⟩
   ·refine .inl ⟨h1,fun a ha=>?_⟩;rcases zzL123.1 ha with h3|rfl
    ·exact h2 a h3
    ·exact h
   ·exact .inr ⟨a,by omega,h2⟩
theorem DomTree.eq{L:List (List Int)}(hm:Lq L=true){r:Nat}(hr:r<L.length){P t:List _}(o:Ordered (sN L) r L.length P)(h:DomTree (sN L) r L.length P t):t=Wl L r:=by
 refine Yz (by rw[h.len,treeD_len]) fun b h1 h2=>?_
 have hb:b<L.length:=by rw[<- h.len];exact h1
 rw[<- Ai _ _ 0 h1,<- Ai _ _ 0 h2,treeD_at hb]
 show Bo t b=_
 have hov:∀ a b,b<L.length->Bo t b≠-2->(N9 L r a b=true↔UpTo (Bo t) b a):=fun a b hb hp=>by
  rw[over_iff hm hr hb,h.exact_ b hb hp];exact⟨fun k=>k.2,fun k=>⟨h.inv.rc b hb hp,k⟩⟩
 unfold V1
 by_cases hbr:b=r
 ·subst hbr;rw[if_pos rfl];exact h.inv.top
 ·rw[if_neg hbr];rcases h.inv.kind b hb with hk|hk|⟨z,hz⟩
  ·
   have hn:¬ Rc (sN L) r b:=fun k=>h.full b hb k hk;rcases pick_cases L r b L.length with⟨h3,_⟩|⟨a,_,_,_,h6,_⟩
   ·rw[hk,h3]
   ·exact absurd ((over_iff hm hr hb).1 h6).1 hn
  ·exact absurd hk hbr
  ·obtain⟨z1,z2,z3,z4⟩:=h.inv.up b hb z hz
   have hp:Bo t b≠-2:=by omega
   have hzo:N9 L r z b=true:=(hov z b hb hp).2 (.up hz (.refl _))
   have hzb:z≠b:=by rintro rfl;omega
   have hnear:nearB L r z b=true:=all_range.2 fun c hc=>by
    by_cases e:c=b
    ·simp[e]
    ·cases ho:N9 L r c b with
     | false=>simp
     | true=>
      have:=(hov c b hb hp).1 ho;rcases(anc_up hz).1 this with h3|h3
      ·exact absurd h3 e
      ·rw[(hov c z z1 z2).2 h3];simp
   rcases pick_cases L r b L.length with⟨_,h3⟩|⟨a,h3,h4,h5,h6,h7⟩
   ·exact absurd ⟨hzb,hzo,hnear⟩ (h3 z z1)
   ·rw[h4,hz];have haU:=(hov a b hb hp).1 h6
    have ha1:UpTo (Bo t) z a:=by
     rcases(anc_up hz).1 haU with h8|h8
     ·exact absurd h8 h5
     ·exact h8
    have hap:=(h.inv.anc ha1 z1 z2).2.1
    have hza:UpTo (Bo t) a z:=by
     have:=all_range.1 h7 z z1;simp only[hzo,hzb,decide_false,Dd,zzL132]at this;exact(hov z a h3 hap).1 this
    rw[h.inv.antisymm ha1 hza z1 z2]
theorem mayG_eq{g:TGraph}(h:Vg g=true):Lq g.Succ=true/\g=Ja g.Succ:=by
 unfold Vg at h;rw[A7]at h;refine⟨h.1,?_⟩;obtain⟨s,p⟩:=g;have:=zzL95 h.2;simp only at this;unfold Ja;rw[this]
theorem beq_nat{a b:Nat}:(((a:Nat):Int)==(b:Int))=decide (a=b):=by
 by_cases h:a=b
 ·subst h;simp
 ·rw[zzL32.2 (by omega)];simp[h]
theorem bne_nat{a b:Nat}:(((a:Nat):Int)!=(b:Int)) = !decide (a=b):=by
 unfold bne;rw[beq_nat]
section
variable {L:List (List Int)} (hm:Lq L=true) {r:Nat} (hr:r<L.length)
def rowK(L:List (List Int))(r a k:Nat):List Bool:=(List.range L.length).map fun b=>if b<k then N9 L r a b else false
def rowD(L:List (List Int))(r a:Nat):List Bool:=(List.range L.length).map fun b=>N9 L r a b
def ovM(L:List (List Int))(r:Nat):List (List Bool):=(List.range L.length).map fun a=>rowD L r a
theorem ovM_len:(ovM L r).length=L.length:=by simp[ovM]
theorem ovM_at{a:Nat}(ha:a<L.length):(ovM L r).getD a []=rowD L r a:=by unfold ovM;rw[Qg ha]
theorem rowD_len{a:Nat}:(rowD L r a).length=L.length:=by simp[rowD]
theorem rowD_at{a b:Nat}(hb:b<L.length):(rowD L r a).getD b false=N9 L r a b:=by unfold rowD;rw[Qg hb]
include hm hr
omit hr in
theorem tree_L1(a:Nat)(l5:List (List Bool))(hl5:l5.length=L.length)(ha:a<L.length):Ah (C9 (Ja L) (Lc L r (-1)) (a:Int) l5 (Lc L r (a:Int))) ((0:Int),List.replicate L.length false)=some (rowD L r a):=by
 obtain⟨h1,h2,h3⟩:=mayS_iff.1 hm;have hgs:(Ja L).Succ=L:=rfl
 have e0:List.replicate L.length false=rowK L r a 0:=by
  refine Yz (by simp[rowK]) fun i h1 h2=>by simp[rowK]
 have e1:rowD L r a=rowK L r a L.length:=by
  unfold rowD rowK
  exact Hv fun i hi=>by rw[if_pos hi]
 have hlen:∀ k,(rowK L r a k).length=L.length:=fun k=>by simp[rowK]
 rw[e0];refine Fy (C9 (Ja L) (Lc L r (-1)) (a:Int) l5 (Lc L r (a:Int))) (fun k=>(((k:Nat):Int),rowK L r a k)) _ L.length (fun k hk=>?_) ?_
 ·show C9 (Ja L) _ _ _ _ (_,_)=_
  unfold C9;simp only[hgs,As,Cy hk,Ag];rw[Ae (Gj (by rw[hl5];exact ha)),Ae (Gj (by rw[reachW_len];exact hk)),Ae (fun _=>Gj (by rw[reachW_len];exact hk)),Ae (Gj (by rw[hlen];exact hk)),w1 (by omega)]
  have:(rowK L r a k).set k (bif (Lc L r (-1)).getD k false then !(Lc L r (a:Int)).getD k false else false)=rowK L r a (k+1):=by
   unfold rowK;rw[Ys];refine Hv fun i hi=>?_
   by_cases e:i=k
   ·subst e;rw[if_pos rfl,if_pos (by omega)];unfold N9
    cases(Lc L r (-1)).getD i false<;>rfl
   ·rw[if_neg e]
    by_cases e2:i<k
    ·rw[if_pos e2,if_pos (by omega)]
    ·rw[if_neg e2,if_neg (by omega)]
  rw[this]
 ·show C9 (Ja L) _ _ _ _ (_,_)=_
  unfold C9;simp only[hgs,Fo,Aq];rw[e1]
theorem tree_L2:Ah (Da (Ja L) (r:Int) (Lc L r (-1))) ((0:Int),List.replicate L.length ([]:List Bool))=some (ovM L r):=by
 obtain⟨h1,h2,h3⟩:=mayS_iff.1 hm;have hgs:(Ja L).Succ=L:=rfl
 have hroom:(1000:Nat)<=room:=by decide
 let M:Nat->List (List Bool):=fun k=>(List.range L.length).map fun a=>if a<k then rowD L r a else[]
 have hM:∀ k,(M k).length=L.length:=fun k=>by simp[M]
 have e0:List.replicate L.length ([]:List Bool)=M 0:=by
  refine Yz (by simp[M]) fun i h1 h2=>by simp[M]
 have e1:ovM L r=M L.length:=Hv fun i hi=>by rw[if_pos hi]
 rw[e0];refine Fy (Da (Ja L) (r:Int) (Lc L r (-1))) (fun k=>(((k:Nat):Int),M k)) _ L.length (fun k hk=>?_) ?_
 ·show Da (Ja L) _ _ (_,_)=_
  unfold Da;simp only[hgs,As,Cy hk,Ag];rw[Ae ⟨by omega,Int.le_refl _,by omega⟩,Ae (Gj (by rw[hM];exact hk)),m_reachW hm hr,An,tree_L1 hm k (M k) (hM k) hk,An,w1 (by omega)]
  have:(M k).set k (rowD L r k)=M (k+1):=by
   show((List.range L.length).map _).set k _=_
   rw[Ys];refine Hv fun i hi=>?_
   by_cases e:i=k
   ·subst e;rw[if_pos rfl,if_pos (by omega)]
   ·rw[if_neg e]
    by_cases e2:i<k
    ·rw[if_pos e2,if_pos (by omega)]
    ·rw[if_neg e2,if_neg (by omega)]
  rw[this]
 ·show Da (Ja L) _ _ (_,_)=_
  unfold Da;simp only[hgs,Fo,Aq];rw[e1]
omit hr in
theorem tree_L3(a b:Nat)(ha:a<L.length)(hb:b<L.length):Ah (Db (Ja L) (ovM L r) (b:Int) (a:Int)) (true,(0:Int))=some (nearB L r a b):=by
 obtain⟨h1,h2,h3⟩:=mayS_iff.1 hm;have hgs:(Ja L).Succ=L:=rfl
 let N:Nat->Bool:=fun k=>(List.range k).all fun c=>decide (c=b) || !N9 L r c b || N9 L r c a
 refine Fy (Db (Ja L) (ovM L r) (b:Int) (a:Int)) (fun k=>(N k,((k:Nat):Int))) _ L.length (fun k hk=>?_) ?_
 ·show Db (Ja L) _ _ _ (_,_)=_
  unfold Db;simp only[hgs,As,Cy hk,Ag,ovM_at hk,ovM_len,rowD_len,rowD_at hb,rowD_at ha];rw[Ae (fun _=>Gj hk),Ae (fun _=>Gj hb),Ae (fun _=>Gj hk),Ae (fun _=>Gj ha),w1 (by omega),beq_nat]
  have:(bif N k then(bif (bif decide (k=b) then true else !N9 L r k b) then true else N9 L r k a) else false)=N (k+1):=by
   show _=(List.range (k+1)).all _
   rw[all_succ]
   show _=(N k&&_)
   cases N k<;>cases decide (k=b)<;>cases N9 L r k b<;>rfl
  rw[this]
 ·show Db (Ja L) _ _ _ (_,_)=_
  unfold Db;simp only[hgs,Fo,Aq]
  rfl
def Pw(L:List (List Int))(r b:Nat)(x:Int):List Int:=(List.range L.length).map fun j=>if j<b then V1 L r j else if j=b then x else 0
omit hm hr in
theorem treeK_len{b:Nat}{x:Int}:(Pw L r b x).length=L.length:=by simp[Pw]
omit hm hr in
theorem treeK_set{b:Nat}{x y:Int}:(Pw L r b x).set b y=Pw L r b y:=by
 unfold Pw;rw[Ys];refine Hv fun i hi=>?_
 by_cases e:i=b
 ·subst e;rw[if_pos rfl,if_neg (by omega),if_pos rfl]
 ·rw[if_neg e,if_neg e,if_neg e]
omit hm hr in
theorem treeK_next{b:Nat}:Pw L r b (V1 L r b)=Pw L r (b+1) 0:=by
 unfold Pw;refine Hv fun i hi=>?_
 by_cases e:i<b
 ·rw[if_pos e,if_pos (by omega)]
 ·rw[if_neg e]
  by_cases e2:i=b
  ·subst e2;rw[if_pos rfl,if_pos (by omega)]
  ·rw[if_neg e2,if_neg (by omega)];split<;>rfl
omit hr in
theorem tree_L4(b:Nat)(hb:b<L.length)(hbr:b≠r):Ah (Bw (Ja L) (r:Int) (ovM L r) (b:Int)) ((0:Int),Pw L r b (-2))=some (Pw L r b (Sh L r b L.length)):=by
 obtain⟨h1,h2,h3⟩:=mayS_iff.1 hm;have hgs:(Ja L).Succ=L:=rfl;refine Fy (Bw (Ja L) (r:Int) (ovM L r) (b:Int)) (fun k=>(((k:Nat):Int),Pw L r b (Sh L r b k))) _ L.length (fun k hk=>?_) ?_
 ·show Bw (Ja L) _ _ _ (_,_)=_
  unfold Bw
  have hne:decide (b=r)=false:=by simp[hbr]
  simp only[hgs,As,Cy hk,Ag,ovM_at hk,ovM_len,rowD_len,rowD_at hb,beq_nat,bne_nat,hne,Lh];rw[Ae (fun _=>Gj hk),Ae (fun _=>Gj hb),tree_L3 hm k b hk hb]
  by_cases hkb:k=b
  ·have e:Sh L r b (k+1)=Sh L r b k:=by show(if _ then _ else _)=_;rw[if_neg (fun h=>h.1 hkb)]
   rw[Br hkb,Ag,Ag,An,w1 (by omega),e]
  ·rw[Cj hkb,Aq]
   cases ho:N9 L r k b with
   | false=>
    have e:Sh L r b (k+1)=Sh L r b k:=by show(if _ then _ else _)=_;rw[if_neg (fun h=>by rw[ho]at h;exact absurd h.2.1 (by decide))]
    rw[Lh,Ag,An,w1 (by omega),e]
   | true=>
    rw[Dd,Aq,An]
    cases hn:nearB L r k b with
    | false=>
     have e:Sh L r b (k+1)=Sh L r b k:=by show(if _ then _ else _)=_;rw[if_neg (fun h=>by rw[hn]at h;exact absurd h.2.2 (by decide))]
     rw[Aq,An,w1 (by omega),e]
    | true=>
     have e:Sh L r b (k+1)=(k:Int):=by show(if _ then _ else _)=_;rw[if_pos ⟨hkb,ho,hn⟩]
     rw[Ag,Ae (Gj (by rw[treeK_len];exact hb)),An,w1 (by omega),e,treeK_set]
 ·show Bw (Ja L) _ _ _ (_,_)=_
  unfold Bw;simp only[hgs,Fo,Aq]
omit hr in
theorem tree_L5:Ah (Dc (Ja L) (r:Int) (ovM L r)) ((0:Int),List.replicate L.length (0:Int))=some (Wl L r):=by
 obtain⟨h1,h2,h3⟩:=mayS_iff.1 hm;have hgs:(Ja L).Succ=L:=rfl
 have e0:List.replicate L.length (0:Int)=Pw L r 0 0:=by
  refine Yz (by simp[Pw]) fun i h1 h2=>by simp[Pw]
 have e1:Wl L r=Pw L r L.length 0:=Hv fun i hi=>by rw[if_pos hi]
 rw[e0];refine Fy (Dc (Ja L) (r:Int) (ovM L r)) (fun k=>(((k:Nat):Int),Pw L r k 0)) _ L.length (fun k hk=>?_) ?_
 ·show Dc (Ja L) _ _ (_,_)=_
  unfold Dc;simp only[hgs,As,Cy hk,Ag];rw[Ae (Gj (by rw[treeK_len];exact hk)),beq_nat,treeK_set,treeK_set]
  by_cases hkr:k=r
  ·rw[Br hkr,Ag,Ae (Gj (by rw[treeK_len];exact hk)),An]
   have hd:Ah (Bw (Ja L) (r:Int) (ovM L r) (k:Int)) ((0:Int),Pw L r k (-1))=some (Pw L r k (-1)):=by
    apply Ao
    unfold Bw;simp only[bne_nat,Br hkr,Dd,bif_same,Aq]
   rw[hd,An,w1 (by omega)]
   have:V1 L r k = -1:=by unfold V1;rw[if_pos hkr]
   rw[<- this,treeK_next]
  ·rw[Cj hkr,Aq,An,tree_L4 hm k hk hkr,An,w1 (by omega)]
   have:V1 L r k=Sh L r k L.length:=by unfold V1;rw[if_neg hkr]
   rw[<- this,treeK_next]
 ·show Dc (Ja L) _ _ (_,_)=_
  unfold Dc;simp only[hgs,Fo,Aq];rw[e1]
end
def treeG(g:TGraph)(r:Int):List Int:=if Vg g=true/\0<=r/\r<(g.Succ.length:Int) then Wl g.Succ r.toNat else[]
theorem m_ref_tree(g:TGraph)(h:Fits g.Succ)(r:Int):Ip g r=some (treeG g r):=by
 have hroom:(1000:Nat)<=room:=by decide
 unfold Ip treeG;rw[m_ref_may g h,An]
 cases hmg:Vg g with
 | false=>
  rw[if_neg (fun h=>by exact absurd h.1 (by decide))]
  rfl
 | true=>
  rw[Dd,Aq]
  by_cases h0:r<0
  ·rw[Br h0,Ag,if_neg (by omega)]
   rfl
  ·rw[Cj h0,Aq]
   by_cases h1:(g.Succ.length:Int)<=r
   ·rw[Br h1,Ag,if_neg (by omega)]
   ·rw[Cj h1,Aq,if_pos ⟨rfl,by omega,by omega⟩];obtain⟨hms,hg⟩:=mayG_eq hmg;obtain⟨hl1,hl2,hl3⟩:=mayS_iff.1 hms;obtain⟨q,rfl⟩:∃ q:Nat,r=(q:Int):=⟨r.toNat,by omega⟩
    have hq:q<g.Succ.length:=by omega
    rw[hg];have hgs:(Ja g.Succ).Succ=g.Succ:=rfl;simp only[hgs,As];rw[m_reachW hms hq,An,Ae ⟨by omega,Int.le_refl _,by omega⟩,tree_L2 hms hq,An,Ae ⟨by omega,Int.le_refl _,by omega⟩,tree_L5 hms,An]
def upD(t:List Int):Nat->Int->Option (List Int)
 | 0,_=>none
 | k+1,a=>if 0<=a/\a<(t.length:Int) then(if t.getD a.toNat 0 = -1 then some [a] else(upD t k (t.getD a.toNat 0)).map fun l=>a::l) else none
def Ei(t:List Int)(a:Int):List Int:=(upD t t.length a).getD []
def sumO(l:List Int):Option (List Int)->Unit ⊕ List Int
 | none=>.inl ()
 | some q=>.inr (l++q)
theorem path_loop(t:List Int)(ht:t.length<=1000):∀(k:Nat) (a:Int) (l:List Int),l.length+k=t.length->Ah (B9 t) (a,l)=some (sumO l (upD t k a)):=by
 have hroom:(2000:Nat)<=room:=by decide
 intro k
 induction k with
 | zero=>
  intro a l hl
  apply Ao
  unfold B9;have:decide ((l.length:Int)<(t.length:Int))=false:=Cj (by omega);simp only[this,Aq]
  rfl
 | succ k ih=>
  intro a l hl;have hlt:decide ((l.length:Int)<(t.length:Int))=true:=Br (by omega);unfold upD
  by_cases h0:0<=a
  ·by_cases h1:a<(t.length:Int)
   ·have hin:A2 a t.length:=⟨h0,h1⟩;rw[if_pos ⟨h0,h1⟩]
    by_cases ht1:t.getD a.toNat 0 = -1
    ·rw[if_pos ht1]
     apply Ao
     unfold B9;simp only[hlt,Br h0,Br h1,Ag];rw[Ae (by simp;omega),Ae hin,ht1]
     rfl
    ·rw[if_neg ht1]
     have hs:B9 t (a,l)=some (.next (t.getD a.toNat 0,l++[a])):=by
      unfold B9;have hb:(t.getD a.toNat 0==(-1:Int))=false:=zzL32.2 ht1;simp only[hlt,Br h0,Br h1,Ag];rw[Ae (by simp;omega),Ae hin,hb,Aq,Ae hin]
     rw[Ax hs,ih _ (l++[a]) (by simp;omega)]
     cases upD t k (t.getD a.toNat 0) with
     | none=>rfl
     | some q=>show some (Sum.inr ((l++[a])++q))=some (Sum.inr (l++a::q));simp
   ·rw[if_neg (by omega)]
    apply Ao
    unfold B9;simp only[hlt,Br h0,Cj h1,Ag,Aq]
    rfl
  ·rw[if_neg (by omega)]
   apply Ao
   unfold B9;simp only[hlt,Cj h0,Ag,Aq]
   rfl
theorem m_path(t:List Int)(ht:t.length<=1000)(a:Int):Fj t a=some (Ei t a):=by
 unfold Fj Ei;rw[path_loop t ht t.length a [] (by simp),An]
 cases upD t t.length a with
 | none=>rfl
 | some q=>rfl
theorem upD_len(t:List Int):∀ k a q,upD t k a=some q->q.length<=k/\1<=q.length:=by
 intro k
 induction k with
 | zero=>intro a q h;cases h
 | succ k ih=>
  intro a q h;unfold upD at h
  split at h
  ·split at h
   ·cases h;simp
   ·cases hu:upD t k (t.getD a.toNat 0) with
    | none=>rw[hu]at h;cases h
    | some q'=>rw[hu]at h;cases h;have:=ih _ _ hu;simp;omega
  ·cases h
theorem pathD_len(t:List Int)(a:Int):(Ei t a).length<=t.length:=by
 unfold Ei
 cases h:upD t t.length a with
 | none=>simp
 | some q=>exact(upD_len t _ _ _ h).1
theorem pathD_nil{t:List Int}{a:Int}:Ei t a=[]↔upD t t.length a=none:=by
 unfold Ei
 cases h:upD t t.length a with
 | none=>simp
 | some q=>have:=(upD_len t _ _ _ h).2;simp;intro e;subst e;simp at this
def topsK(t:List Int)(k:Nat):Nat:=((List.range k).filter fun a=>decide (t.getD a 0 = -1)).length
def okR(t:List Int)(a:Nat):Bool:=decide (t.getD a 0 = -2) || !decide (Ei t (a:Int)=[])
def Lg(t:List Int):Bool:=(List.range t.length).all (okR t)&&decide (topsK t t.length=1)
theorem topsK_succ(t:List Int)(k:Nat):topsK t (k+1)=topsK t k+if t.getD k 0 = -1 then 1 else 0:=by
 unfold topsK;rw[Y8,zzL119,Fp]
 by_cases h:t.getD k 0 = -1
 ·rw[if_pos h]
  have:List.filter (fun a=>decide (t.getD a 0 = -1)) [k]=[k]:=by rw[List.filter_cons,if_pos (Br h)];rfl
  rw[this];rfl
 ·rw[if_neg h]
  have:List.filter (fun a=>decide (t.getD a 0 = -1)) [k]=[]:=by rw[List.filter_cons,if_neg (by simpa using h)];rfl
  rw[this];rfl
theorem topsK_le(t:List Int)(k:Nat):topsK t k<=k:=by
 unfold topsK;exact Rm (List.length_filter_le ..) (by simp)
theorem len_zero{l:List Int}:(((l.length:Nat):Int)==(0:Int))=decide (l=[]):=by
 cases l with
 | nil=>rfl
 | cons x l=>simp;omega
theorem right_loop(t:List Int)(ht:t.length<=1000):Ah (Bn t) ((0:Int),(0:Int))=some (bif (List.range t.length).all (okR t) then .inl ((topsK t t.length:Nat):Int) else .inr false):=by
 have body:∀ k,k<t.length->Bn t (((topsK t k:Nat):Int),(k:Int))=some (bif okR t k then .next (((topsK t (k+1):Nat):Int),((k+1:Nat):Int)) else .done (.inr false)):=fun k hk=>by
  have hle:=topsK_le t k;unfold Bn;simp only[As,Cy hk,Ag];rw[Ae (Gj hk)]
  have e1:(bif (t.getD k 0==(-1:Int)) then some (w64 (((topsK t k:Nat):Int)+1)) else some ((topsK t k:Nat):Int))=some ((topsK t (k+1):Nat):Int):=by
   rw[topsK_succ]
   by_cases h:t.getD k 0 = -1
   ·rw[if_pos h,zzL53.2 h,Ag,w1 (by omega)]
   ·rw[if_neg h,zzL32.2 h,Aq];rfl
  rw[e1,An]
  by_cases h2:t.getD k 0 = -2
  ·have hb:(t.getD k 0 !=(-2:Int))=false:=by rw[h2];rfl
   have ho:okR t k=true:=by unfold okR;rw[Br h2];rfl
   rw[hb,show(false==true)=false from rfl,Aq,An,Aq,Aq,Ae (Gj hk),w1 (by omega),ho,Ag]
  ·have hb:(t.getD k 0 !=(-2:Int))=true:=zzL100.2 h2
   have ho:okR t k = !decide (Ei t (k:Int)=[]):=by unfold okR;rw[Cj h2];rfl
   rw[hb,show(true==true)=true from rfl,Ag,m_path t ht,An,Ag,len_zero,Ae (Gj hk),w1 (by omega),ho]
   cases decide (Ei t (k:Int)=[])<;>rfl
 have:=Iz (Bn t) (fun k=>(((topsK t k:Nat):Int),((k:Nat):Int))) (okR t) (.inl ((topsK t t.length:Nat):Int)) (.inr false) t.length (fun i hi hp=>by
   show Bn t _=_;rw[body i hi,hp,Ag]) (fun i hi hp=>by
   show Bn t _=_;rw[body i hi,hp,Aq]) (by
   show Bn t _=_
   unfold Bn
   simp only[Fo,Aq])
 exact this
theorem m_right(t:List Int)(ht:t.length<=1000):Hr t=some (Lg t):=by
 unfold Hr Lg;rw[right_loop t ht,An]
 cases(List.range t.length).all (okR t) with
 | false=>rfl
 | true=>
  rw[Ag,Fc]
  show some (((topsK t t.length:Nat):Int)==(1:Int))=_
  have:(1:Int)=((1:Nat):Int):=rfl;rw[this,beq_nat]
theorem find_first(p:Int->Bool):∀ l:List Int,(∃ n,n<l.length/\(∀ i,i<n->p (l.getD i 0)=false)/\p (l.getD n 0)=true/\l.find? p=some (l.getD n 0))\/((∀ i,i<l.length->p (l.getD i 0)=false)/\l.find? p=none):=by
 intro l
 induction l with
 | nil=>exact .inr ⟨fun i hi=>absurd hi (Rl i),rfl⟩
 | cons x l ih=>
  cases hx:p x with
  | true=>exact .inl ⟨0,by simp,fun i hi=>absurd hi (Rl i),by simpa using hx,by simp[List.find?,hx]⟩
  | false=>
   rcases ih with⟨n,h1,h2,h3,h4⟩|⟨h1,h2⟩
   ·refine .inl ⟨n+1,by simpa using h1,fun i hi=>?_,by simpa using h3,by simp[List.find?,hx,h4]⟩
    cases i with
    | zero=>simpa using hx
    | succ i=>simpa using h2 i (by omega)
   ·refine .inr ⟨fun i hi=>?_,by simp only[List.find?,hx];exact h2⟩
    cases i with
    | zero=>simpa using hx
    | succ i=>simpa using h1 i (by simpa using hi)
def Ps(t:List Int)(a b:Int):Int:=if Lg t=true then((Ei t a).find? fun x=>(Ei t b).contains x).getD (-2) else -2
def Yg(t:List Int)(a b:Int):Bool:=Ps t a b==a&&Ps t a b !=-2
theorem m_meet(t:List Int)(ht:t.length<=1000)(a b:Int):Io t a b=some (Ps t a b):=by
 unfold Io Ps;rw[m_right t ht,An]
 cases Lg t with
 | false=>rfl
 | true=>
  rw[Dd,Aq,m_path t ht,An,m_path t ht,An,if_pos rfl];have hp:=pathD_len t a;have hq:=pathD_len t b
  have body:∀ k,k<(Ei t a).length->Bb (Ei t a) (Ei t b) (k:Int)=some (bif (Ei t b).contains ((Ei t a).getD k 0) then .done (.inr ((Ei t a).getD k 0)) else .next ((k+1:Nat):Int)):=fun k hk=>by
   unfold Bb;simp only[As,Cy hk,Ag];rw[Ae (Gj hk),m_has _ _ (by omega),An,w1 (by omega),Ae (Gj hk)]
   cases(Ei t b).contains ((Ei t a).getD k 0)<;>rfl
  rcases find_first (fun x=>(Ei t b).contains x) (Ei t a) with⟨n,h1,h2,h3,h4⟩|⟨h1,h2⟩
  ·have:=Fy (Bb (Ei t a) (Ei t b)) (fun k=>((k:Nat):Int)) (.inr ((Ei t a).getD n 0)) n (fun k hk=>by
    show Bb _ _ _=_;rw[body k (by omega),h2 k hk,Aq]) (by
    show Bb _ _ _=_;rw[body n h1,h3,Ag])
   have e:Ah (Bb (Ei t a) (Ei t b)) (0:Int)=_:=this;rw[e,An,h4]
   rfl
  ·have:=Fy (Bb (Ei t a) (Ei t b)) (fun k=>((k:Nat):Int)) (.inl ()) (Ei t a).length (fun k hk=>by
    show Bb _ _ _=_;rw[body k hk,h1 k hk,Aq]) (by
    show Bb _ _ _=_
    unfold Bb
    simp only[Fo,Aq])
   have e:Ah (Bb (Ei t a) (Ei t b)) (0:Int)=_:=this;rw[e,An,h2]
   rfl
section
variable {S:Nat->List Nat} {r n:Nat} {P:List Nat} {t:List Int}
theorem DomTree.up(h:DomTree S r n P t):∀ k x,x<n->Bo t x≠-2->pos (r::P) x<k->∃ q,upD t k (x:Int)=some q/\(∀ w:Int,w∈q↔∃ z:Nat,w=(z:Int)/\UpTo (Bo t) x z) /\
  ∀ p:Int->Bool,(q.find? p=none/\∀ z:Nat,UpTo (Bo t) x z->p (z:Int)=false)\/∃ f:Nat,q.find? p=some (f:Int)/\UpTo (Bo t) x f/\p (f:Int)=true/\∀ z:Nat,UpTo (Bo t) x z->p (z:Int)=true->UpTo (Bo t) f z:=by
 intro k
 induction k with
 | zero=>intro x _ _ hk;exact absurd hk (Rl _)
 | succ k ih=>
  intro x hx hp hk
  have hxt:(0:Int)<=(x:Int)/\(x:Int)<(t.length:Int):=by rw[h.len];omega
  unfold upD;rw[if_pos hxt,As];have hpx:t.getD x 0=Bo t x:=rfl;rw[hpx];rcases h.inv.kind x hx with h1|rfl|⟨z,hz⟩
  ·exact absurd h1 hp
  ·rw[if_pos h.inv.top];refine⟨_,rfl,fun w=>?_,fun p=>?_⟩
   ·rw[zzL23]
    constructor
    ·rintro rfl;exact⟨x,rfl,.refl _⟩
    ·rintro⟨z,rfl,hz⟩;rw[h.inv.root_anc.1 hz]
   ·cases hpp:p (x:Int) with
    | false=>exact .inl ⟨by simp[List.find?,hpp],fun z hz=>by rw[h.inv.root_anc.1 hz];exact hpp⟩
    | true=>exact .inr ⟨x,by simp[List.find?,hpp],.refl _,hpp,fun z hz _=>hz⟩
  ·obtain⟨z1,z2,z3,z4⟩:=h.inv.up x hx z hz;rw[hz,if_neg (by omega)];obtain⟨q,hq1,hq2,hq3⟩:=ih z z1 z2 (by omega);rw[hq1];refine⟨(x:Int)::q,rfl,fun w=>?_,fun p=>?_⟩
   ·rw[zzL28,hq2 w]
    constructor
    ·rintro(rfl|⟨y,rfl,hy⟩)
     ·exact⟨x,rfl,.refl _⟩
     ·exact⟨y,rfl,.up hz hy⟩
    ·rintro⟨y,rfl,hy⟩;rcases(anc_up hz).1 hy with rfl|hy
     ·exact .inl rfl
     ·exact .inr ⟨y,rfl,hy⟩
   ·cases hpp:p (x:Int) with
    | true=>exact .inr ⟨x,by simp[List.find?,hpp],.refl _,hpp,fun y hy _=>hy⟩
    | false=>
     have hf:((x:Int)::q).find? p=q.find? p:=by simp[List.find?,hpp]
     rw[hf];rcases hq3 p with⟨e1,e2⟩|⟨f,e1,e2,e3,e4⟩
     ·refine .inl ⟨e1,fun y hy=>?_⟩;rcases(anc_up hz).1 hy with rfl|hy
      ·exact hpp
      ·exact e2 y hy
     ·refine .inr ⟨f,e1,.up hz e2,e3,fun y hy hpy=>?_⟩;rcases(anc_up hz).1 hy with rfl|hy
      ·rw[hpp]at hpy;cases hpy
      ·exact e4 y hy hpy
theorem Ordered.pos_lt(o:Ordered S r n P){x:Nat}(hx:x∈r::P):pos (r::P) x<n:=by
 obtain⟨j,hj,rfl⟩:=Py hx;rw[(pos_get o.nodup hj).2];have:=P5 n (r::P) o.nodup fun y hy=>o.lt hy;omega
theorem DomTree.path(h:DomTree S r n P t)(o:Ordered S r n P){x:Nat}(hx:x<n)(hp:Bo t x≠-2):Ei t (x:Int)≠[]/\(∀ w:Int,w∈Ei t (x:Int)↔∃ z:Nat,w=(z:Int)/\UpTo (Bo t) x z) /\
  ∀ p:Int->Bool,((Ei t (x:Int)).find? p=none/\∀ z:Nat,UpTo (Bo t) x z->p (z:Int)=false)\/∃ f:Nat,(Ei t (x:Int)).find? p=some (f:Int)/\UpTo (Bo t) x f/\p (f:Int)=true/\∀ z:Nat,UpTo (Bo t) x z->p (z:Int)=true->UpTo (Bo t) f z:=by
 have hm:=(o.mem x).2 (h.inv.rc x hx hp);obtain⟨q,h1,h2,h3⟩:=h.up n x hx hp (o.pos_lt hm)
 have e:Ei t (x:Int)=q:=by unfold Ei;rw[h.len,h1];rfl
 rw[e];refine⟨fun e=>?_,h2,h3⟩;have:=(h2 (x:Int)).2 ⟨x,rfl,.refl _⟩;rw[e]at this
 cases this
theorem DomTree.nopath(h:DomTree S r n P t){x:Nat}(hx:x<n)(hp:Bo t x = -2):Ei t (x:Int)=[]:=by
 rw[pathD_nil]
 cases hl:t.length with
 | zero=>rfl
 | succ k=>
  unfold upD;rw[if_pos ⟨by omega,by rw[h.len];omega⟩,As,show t.getD x 0=Bo t x from rfl,hp,if_neg (by omega)]
  cases k with
  | zero=>rfl
  | succ k=>unfold upD;rw[if_neg (by omega)];rfl
theorem DomTree.right(h:DomTree S r n P t)(o:Ordered S r n P):Lg t=true:=by
 unfold Lg;rw[A7]
 constructor
 ·refine all_range.2 fun x hx=>?_;rw[h.len]at hx;unfold okR
  by_cases hp:Bo t x = -2
  ·rw[show t.getD x 0=Bo t x from rfl,hp];rfl
  ·rw[Cj (h.path o hx hp).1];simp
 ·apply Br
  have key:∀ k,k<=n->topsK t k=if r<k then 1 else 0:=by
   intro k
   induction k with
   | zero=>intro _;rfl
   | succ k ih=>
    intro hk;rw[topsK_succ,ih (by omega)]
    have hr:t.getD k 0 = -1↔k=r:=by
     constructor
     ·intro he;rcases h.inv.kind k (by omega) with h1|h1|⟨z,hz⟩
      ·rw[show t.getD k 0=Bo t k from rfl,h1]at he;omega
      ·exact h1
      ·rw[show t.getD k 0=Bo t k from rfl,hz]at he;omega
     ·rintro rfl;exact h.inv.top
    by_cases hkr:k=r
    ·subst hkr;rw[if_neg (by omega),if_pos (hr.2 rfl),if_pos (by omega)]
    ·rw[if_neg (fun e=>hkr (hr.1 e))]
     by_cases h2:r<k
     ·rw[if_pos h2,if_pos (by omega)]
     ·rw[if_neg h2,if_neg (by omega)]
  rw[h.len,key n (zzL9 _),if_pos o.hr]
theorem DomTree.meet(h:DomTree S r n P t)(o:Ordered S r n P){a b:Nat}(ha:a<n)(hb:b<n)(hpa:Bo t a≠-2)(hpb:Bo t b≠-2):∃ m:Nat,Ps t (a:Int) (b:Int)=(m:Int)/\MeetAt (Bo t) a b m/\m<n/\Bo t m≠-2:=by
 have rd:Ready S r n P t P.length:=⟨h.inv,h.len,fun x hx=>by rw[zzL91]at hx;exact h.full x (o.lt hx) ((o.mem x).1 hx)⟩;obtain⟨c,hc1,hc2,hc3⟩:=h.inv.meets (rd.inj o) pos_root _ a b (zzL9 _) ha hb hpa hpb;refine⟨c,?_,hc1,hc2,hc3⟩;unfold Ps;rw[if_pos (h.right o)];obtain⟨hca,hcb⟩:=(hc1 c).1 (.refl _)
 have hin:∀ z:Nat,(Ei t (b:Int)).contains (z:Int)=true↔UpTo (Bo t) b z:=fun z=>by
  rw[zzL68,(h.path o hb hpb).2.1]
  constructor
  ·rintro⟨y,hy,hu⟩;cases Tz hy;exact hu
  ·intro hu;exact⟨z,rfl,hu⟩
 rcases(h.path o ha hpa).2.2 fun x=>(Ei t (b:Int)).contains x with⟨_,h2⟩|⟨f,h1,h2,h3,h4⟩
 ·have:=h2 c hca;rw[(hin c).2 hcb]at this
  cases this
 ·rw[h1];have hfc:=h4 c hca ((hin c).2 hcb);have hcf:=(hc1 f).2 ⟨h2,(hin f).1 h3⟩;rw[h.inv.antisymm hcf hfc hc2 hc3]
  rfl
theorem DomTree.meet_none(h:DomTree S r n P t)(o:Ordered S r n P){a b:Nat}(ha:a<n)(hb:b<n)(hp:Bo t a = -2\/Bo t b = -2):Ps t (a:Int) (b:Int) = -2:=by
 unfold Ps;rw[if_pos (h.right o)];rcases hp with hp|hp
 ·rw[h.nopath ha hp];rfl
 ·rw[h.nopath hb hp]
  have:(Ei t (a:Int)).find? (fun x=>([]:List Int).contains x)=none:=List.find?_eq_none.2 fun x _=>by simp
  rw[this];rfl
theorem DomTree.over(h:DomTree S r n P t)(o:Ordered S r n P){a b:Nat}(ha:a<n)(hb:b<n):Yg t (a:Int) (b:Int)=true↔Bo t b≠-2/\UpTo (Bo t) b a:=by
 unfold Yg;rw[A7,zzL53,zzL100]
 by_cases hpa:Bo t a = -2
 ·rw[h.meet_none o ha hb (.inl hpa)]
  constructor
  ·rintro⟨h1,_⟩;omega
  ·rintro⟨h1,h2⟩;exact absurd hpa (h.inv.anc h2 hb h1).2.1
 ·by_cases hpb:Bo t b = -2
  ·rw[h.meet_none o ha hb (.inr hpb)]
   constructor
   ·rintro⟨h1,_⟩;omega
   ·rintro⟨h1,_⟩;exact absurd hpb h1
  ·obtain⟨m,hm1,hm2,hm3,hm4⟩:=h.meet o ha hb hpa hpb;rw[hm1]
   constructor
   ·rintro⟨h1,_⟩;have h1:=Tz h1;subst h1;exact⟨hpb,((hm2 _).1 (.refl _)).2⟩
   ·rintro⟨_,h2⟩;have:=(hm2 a).2 ⟨.refl _,h2⟩;have h3:=((hm2 m).1 (.refl _)).1;rw[h.inv.antisymm h3 this ha hpa];exact⟨rfl,by omega⟩
theorem DomTree.over_dom(h:DomTree S r n P t)(o:Ordered S r n P){a b:Nat}(ha:a<n)(hb:b<n):Yg t (a:Int) (b:Int)=true↔Rc S r b/\¬ Av S r a b:=by
 rw[h.over o ha hb]
 constructor
 ·rintro⟨h1,h2⟩;exact⟨h.inv.rc b hb h1,(h.exact_ b hb h1 a).1 h2⟩
 ·rintro⟨h1,h2⟩;have:=h.full b hb h1;exact⟨this,(h.exact_ b hb this a).2 h2⟩
end
section
variable {L:List (List Int)} (hm:Lq L=true) {r:Nat} (hr:r<L.length)
include hm hr
theorem treeD_dom:∃ P,Ord (sN L) r (r::P)/\Ordered (sN L) r L.length P/\DomTree (sN L) r L.length P (Wl L r):=by
 obtain⟨O,hO⟩:=Ord.exist (Wk hm) hr;obtain⟨P,rfl,o⟩:=hO.ordered hr (Wk hm);obtain⟨J,_,hJ⟩:=stops o;have hd:=still_exact o hJ;refine⟨P,hO,o,?_⟩;rw[<- hd.eq hm hr o];exact hd
end
theorem loop_allN{X:Type}(n:Nat)(p:Nat->Bool)(f:Int->Option (LR Int X))(yes no:X)(hn:∀ i:Nat,i<n->p i=true->f (i:Int)=some (.next ((i:Int)+1)))
  (hf:∀ i:Nat,i<n->p i=false->f (i:Int)=some (.done no)) (he:f (n:Int)=some (.done yes)):Ah f (0:Int)=some (bif (List.range n).all p then yes else no):=by
 have hg:∀ i,i<(List.range n).length->(List.range n).getD i 0=i:=fun i hi=>by rw[Ai _ _ _ hi];simp
 have:=Hl (List.range n) 0 p f yes no (fun i hi hp=>by rw[hg i hi]at hp;exact hn i (by simpa using hi) hp) (fun i hi hp=>by rw[hg i hi]at hp;exact hf i (by simpa using hi) hp) (by simpa using he) n 0 (by simp);rw[show(0:Int)=((0:Nat):Int) from rfl,this,Kv]
theorem allN{n:Nat}{p:Nat->Bool}(h:(List.range n).all p=true):∀ i,i<n->p i=true:=fun i hi=>zzL29.1 h i (by simpa using hi)
def Nj(L:List (List Int)):List Bool:=rds (sN L) L.length ((List.replicate L.length false).set 0 true) L.length
def Hx(l:List Int)(p:H7):Bool:=decide (p.From=l)&&((p.Args.length:Int)==(l.length:Int))
def Mm(L:List (List Int))(b:Ad)(i:Nat):Bool:=(Nj L).getD i false&&!((b.End.Kind==1 || b.End.Kind==3)&&(b.End.Arg !=0))&&b.Phis.all (Hx ((Ch L).getD i []))
def Hi(f:TFunc):Bool:=Lx f&&(List.range f.Blocks.length).all fun i=>Mm (Bf f) (f.Blocks.getD i default) i
theorem Sj(f:TFunc):(Bf f).length=f.Blocks.length:=by simp[Bf]
theorem reachB0_len(L:List (List Int)):(Nj L).length=L.length:=by rw[Nj,Vx];simp
theorem bsh_aux{a b c d:Bool}{x:Option (LR Int (Unit ⊕ Bool))}:(bif (bif (!a) then true else(bif (bif b then true else c) then d else false)) then some (LR.done (Sum.inr false)) else x)=bif (a&&!((b || c)&&d)) then x else some (LR.done (Sum.inr false)):=by
 cases a<;>cases b<;>cases c<;>cases d<;>rfl
theorem m_shape {f : TFunc} (hf : OkF f) : Ht f = some (Hi f) := by
  have hmax : f.Blocks.length ≤ maxLen := by have := hf.blocks; have : (64 : Nat) ≤ maxLen := by decide
                                             omega
  unfold Ht Hi; rw [m_ref_of f hmax, An]
  cases hs : Lx f with
  | false => rfl
  | true =>
    have hm := Pi hs; have hlen := Sj f; obtain ⟨h1, h2⟩ := R0 hm
    have hpos : 0 < (Bf f).length := by have := (shape_iff.1 hs).1.1; omega
    simp only [Ag, Fc]; rw [show (((0 : Int) != 0)) = false from rfl, Aq]; have hr := m_reach hm hpos; rw [show (((0 : Nat) : Int)) = 0 from rfl] at hr; rw [hr, An]
    show ((Ah (Eo f (Ja (Bf f), 0) (Nj (Bf f))) 0).bind _) = _
    have hphi : ∀ i, i < f.Blocks.length → Ah (Dp f (Ja (Bf f), 0) (i : Int)) (0 : Int) = some (bif (f.Blocks.getD i default).Phis.all (Hx ((Ch (Bf f)).getD i [])) then .inl () else .inr false) := fun i hi => by
      have hmem := Aw (d := (default : Ad)) hi; have hB := hf.block _ hmem
      have hpl : (Ja (Bf f)).Pred.length = f.Blocks.length := by rw [← hlen]; exact On _
      have hpi : A2 (i : Int) (Ja (Bf f)).Pred.length := Ap (by omega)
      have key : ∀ j, j < (f.Blocks.getD i default).Phis.length → Dp f (Ja (Bf f), 0) (i : Int) (j : Int) = some (bif Hx ((Ch (Bf f)).getD i []) ((f.Blocks.getD i default).Phis.getD j default) then .next ((j : Int) + 1) else .done (.inr false)) := fun j hj => by
        have hp := ok_phi hf hmem (Aw (d := (default : H7)) hj); unfold Dp
        have hd : decide ((j : Int) < ((f.Blocks.getD i default).Phis.length : Int)) = true := by simpa using hj
        have hi1 := m_ints ((f.Blocks.getD i default).Phis.getD j default).From ((Ja (Bf f)).Pred.getD i []) (by omega); simp only [Ew, hd, Ag, Ab (Ap hj), Ab hpi, hi1, An]; rw [Ab (fun _ => Ap hj), Ab (fun _ => hpi), A9 hj (by have := hB.phis; omega)]; unfold Hx
        show (bif (bif (!decide (((f.Blocks.getD i default).Phis.getD j default).From = (Ch (Bf f)).getD i [])) then true else ((((f.Blocks.getD i default).Phis.getD j default).Args.length : Int) != (((Ch (Bf f)).getD i []).length : Int))) then _ else _) = _
        cases decide (((f.Blocks.getD i default).Phis.getD j default).From = (Ch (Bf f)).getD i []) with
        | false => rfl
        | true =>
          simp only [Dd, Aq, Fc, bne]
          cases ((((f.Blocks.getD i default).Phis.getD j default).Args.length : Int) == (((Ch (Bf f)).getD i []).length : Int)) <;> rfl
      have := Hl (f.Blocks.getD i default).Phis (default : H7) (Hx ((Ch (Bf f)).getD i [])) (Dp f (Ja (Bf f), 0) (i : Int)) (.inl ()) (.inr false) (fun j hj hp => by rw [key j hj, hp]; rfl) (fun j hj hp => by rw [key j hj, hp]; rfl) (by unfold Dp; simp) (f.Blocks.getD i default).Phis.length 0 (by omega); rw [Kv] at this; exact this
    have hrl := reachB0_len (Bf f)
    have key : ∀ i, i < f.Blocks.length → Eo f (Ja (Bf f), 0) (Nj (Bf f)) (i : Int) = some (bif Mm (Bf f) (f.Blocks.getD i default) i then .next ((i : Int) + 1) else .done (.inr false)) := fun i hi => by
      unfold Eo
      have hd : decide ((i : Int) < (f.Blocks.length : Int)) = true := by simpa using hi
      simp only [hd, Ag, Ab (Ap hi), Ab (Ap (show i < (Nj (Bf f)).length by omega)), Ew, bsh_aux, hphi i hi, An, A9 hi (by have := hf.blocks; omega)]; unfold Mm
      cases ((Nj (Bf f)).getD i false && !(((f.Blocks.getD i default).End.Kind == 1 || (f.Blocks.getD i default).End.Kind == 3) && ((f.Blocks.getD i default).End.Arg != 0))) with
      | false => rfl
      | true => cases (f.Blocks.getD i default).Phis.all (Hx ((Ch (Bf f)).getD i [])) <;> rfl
    rw [loop_allN f.Blocks.length (fun i => Mm (Bf f) (f.Blocks.getD i default) i) _ (.inl ()) (.inr false) (fun i hi hp => by rw [key i hi, hp]; rfl) (fun i hi hp => by rw [key i hi, hp]; rfl) (by unfold Eo; simp)]
    cases (List.range f.Blocks.length).all (fun i => Mm (Bf f) (f.Blocks.getD i default) i) <;> rfl
theorem shape_fit{f:TFunc}(h:Hi f=true):phisFit f:=fun b hb p hp=>by
 simp only[Hi,A7]at h;obtain⟨i,hi,rfl⟩:=Py hb;have h1:=allN h.2 i hi;rw[Ai _ _ _ hi]at h1;simp only[Mm,A7]at h1;have h2:=zzL29.1 h1.2 p hp;simp only[Hx,A7,F9,zzL53]at h2;rw[h2.1];omega
def Pe(l:List Bz)(i:Nat):Bool:=valS (l.getD i default).V&&(Kz l (l.getD i default).V==(i:Int))
def Ls(l:List Bz)(u:Cp):Bool:=!decide (Kz l u.V<0)
def defOf(l:List Bz)(v:Int):Bz:=l.getD (Kz l v).toNat default
def Wc(l:List Bz)(u:Cp):Bool:=((defOf l u.V).Shape.1==u.Shape.1)&&(((defOf l u.V).Shape.2==u.Shape.2)&&true)
def Ug(l:List Bz)(t:List Int)(u:Cp):Bool:=
 (decide ((defOf l u.V).Block<0) || ((defOf l u.V).Block==u.Block&&decide ((defOf l u.V).At<u.At))) || (!((defOf l u.V).Block==u.Block)&&!(Ps t (defOf l u.V).Block u.Block !=(defOf l u.V).Block))
def Df(f:TFunc):List Int:=treeG (Ja (Bf f)) 0
def wrongD(f:TFunc)(l:Int):Int:=
 bif !Hi f then 5 else bif !Sp f l then 6 else bif !(List.range (A3 f).length).all (Pe (A3 f)) then 7 else bif !(B7 f).all (Ls (A3 f)) then 7 else
 bif !(B7 f).all (Wc (A3 f)) then 6 else bif !(B7 f).all (Ug (A3 f) (Df f)) then 7 else 0
def Hh(f:TFunc)(l:Int):Int:=bif decide (l<0) || decide (2<l) then 1 else bif !Uf f then 4 else wrongD f l
theorem findD_in{l:List Bz}{v:Int}(h:¬ Kz l v<0):A2 (Kz l v) l.length:=by
 unfold Kz at h ⊢
 cases hx:l.findIdx? (fun d=>d.V==v) with
 | none=>rw[hx]at h;exact absurd (by decide) h
 | some i=>
  obtain⟨hi,_⟩:=List.findIdx?_eq_some_iff_getElem.1 hx;exact Ap hi
theorem tree_len{f:TFunc}(h:Lx f=true):(Df f).length<=1000:=by
 have h1:=(R0 (Pi h)).1;unfold Df treeG
 split
 ·rw[treeD_len];show(Bf f).length<=1000;omega
 ·simp
theorem dom_aux(a b c:Bool)(m q x:Int):(Option.bind (α:=Unit ⊕ Int) (bif (bif a then true else(bif b then c else false)) then some (.inl ()) else((bif (b==false) then some m else some 0).bind fun x31=>(bif (bif b then true else(x31 !=q)) then some (.inr 7) else some (.inl ())))) (fun x32=>match x32 with | .inl _=>some (LR.next x) | .inr r34=>some (.done (.inr r34)))) =
  (some (bif (a || (b&&c)) || (!b&&!(m !=q)) then .next x else .done (.inr 7)):Option (LR Int (Unit ⊕ Int))):=by
 cases h:(m !=q)<;>cases a<;>cases b<;>cases c<;>simp[h]
theorem m_wrong {f : TFunc} (hf : OkF f) (l : Int) (hm : Hc f = some (Uf f)) : Ds f l = some (Hh f l) := by
  unfold Ds Hh; rw [show (bif decide (l < (0 : Int)) then true else decide ((2 : Int) < l)) = (decide (l < 0) || decide (2 < l)) by cases decide (l < (0 : Int)) <;> rfl]
  cases (decide (l < 0) || decide (2 < l)) with
  | true => rfl
  | false =>
  simp only [Aq, hm, An]
  cases Uf f with
  | false => rfl
  | true =>
  simp only [Dd, Aq, m_shape hf, An, wrongD]
  cases hs : Hi f with
  | false => rfl
  | true =>
  simp only [Dd, Aq, m_typed hf, An]
  cases ht : Sp f l with
  | false => rfl
  | true =>
  simp only [Dd, Aq, m_defs hf, An]; have hdl := defsF_len hf; have hul := usesF_len hf
  have hL1 : Ah (S := Int) (X := (Unit ⊕ Int)) (Em (A3 f)) (0 : Int) = some (bif (List.range (A3 f).length).all (Pe (A3 f)) then .inl () else .inr 7) := by
    have key : ∀ i, i < (A3 f).length → Em (A3 f) (i : Int) = some (bif Pe (A3 f) i then .next ((i : Int) + 1) else .done (.inr 7)) := fun i hi => by
      unfold Em Pe
      have hd : decide ((i : Int) < ((A3 f).length : Int)) = true := by simpa using hi
      simp only [hd, Ag, Ab (Ap hi), Ew, Zv, An, Ab (fun _ => Ap hi), m_find (A3 f) _ (by omega), A9 hi (by omega)]
      cases valS ((A3 f).getD i default).V with
      | false => rfl
      | true =>
        simp only [Dd, An, Fc]
        show (bif (Kz (A3 f) ((A3 f).getD i default).V != (i : Int)) then _ else _) = _
        simp only [bne]
        cases (Kz (A3 f) ((A3 f).getD i default).V == (i : Int)) <;> rfl
    exact loop_allN _ _ _ _ _ (fun i hi hp => by rw [key i hi, hp]; rfl) (fun i hi hp => by rw [key i hi, hp]; rfl) (by unfold Em; simp)
  rw [hL1, An]
  cases (List.range (A3 f).length).all (Pe (A3 f)) with
  | false => rfl
  | true =>
  simp only [Ag, Dd, Aq, m_uses hf (shape_fit hs), An]
  have hL2 : Ah (S := Int) (X := (Unit ⊕ Int)) (Dn (A3 f) (B7 f)) (0 : Int) = some (bif (B7 f).all (Ls (A3 f)) then .inl () else .inr 7) := by
    have key : ∀ i, i < (B7 f).length → Dn (A3 f) (B7 f) (i : Int) = some (bif Ls (A3 f) ((B7 f).getD i default) then .next ((i : Int) + 1) else .done (.inr 7)) := fun i hi => by
      unfold Dn Ls
      have hd : decide ((i : Int) < ((B7 f).length : Int)) = true := by simpa using hi
      simp only [hd, Ag, Ab (Ap hi), Ew, m_find (A3 f) _ (by omega), An, A9 hi (by omega)]
      cases decide (Kz (A3 f) ((B7 f).getD i default).V < 0) <;> rfl
    have := Hl (B7 f) default (Ls (A3 f)) (Dn (A3 f) (B7 f)) (.inl ()) (.inr 7) (fun i hi hp => by rw [key i hi, hp]; rfl) (fun i hi hp => by rw [key i hi, hp]; rfl) (by unfold Dn; simp) (B7 f).length 0 (by omega); rw [Kv] at this; exact this
  rw [hL2, An]
  cases hF : (B7 f).all (Ls (A3 f)) with
  | false => rfl
  | true =>
  have hfound : ∀ i, i < (B7 f).length → A2 (Kz (A3 f) ((B7 f).getD i default).V) (A3 f).length := fun i hi => by
    have := zzL29.1 hF _ (Aw (d := (default : Cp)) hi); simp only [Ls, Nr, zzL71] at this; exact findD_in this
  simp only [Ag, Dd, Aq]
  have hL3 : Ah (S := Int) (X := (Unit ⊕ Int)) (Do (A3 f) (B7 f)) (0 : Int) = some (bif (B7 f).all (Wc (A3 f)) then .inl () else .inr 6) := by
    have key : ∀ i, i < (B7 f).length → Do (A3 f) (B7 f) (i : Int) = some (bif Wc (A3 f) ((B7 f).getD i default) then .next ((i : Int) + 1) else .done (.inr 6)) := fun i hi => by
      unfold Do Wc defOf
      have hd : decide ((i : Int) < ((B7 f).length : Int)) = true := by simpa using hi
      simp only [hd, Ag, Ab (Ap hi), Ew, m_find (A3 f) _ (by omega), An, Ab (hfound i hi), A9 hi (by omega)]
      cases ((((A3 f).getD (Kz (A3 f) ((B7 f).getD i default).V).toNat default).Shape.1 == ((B7 f).getD i default).Shape.1) && ((((A3 f).getD (Kz (A3 f) ((B7 f).getD i default).V).toNat default).Shape.2 == ((B7 f).getD i default).Shape.2) && true)) <;> rfl
    have := Hl (B7 f) default (Wc (A3 f)) (Do (A3 f) (B7 f)) (.inl ()) (.inr 6) (fun i hi hp => by rw [key i hi, hp]; rfl) (fun i hi hp => by rw [key i hi, hp]; rfl) (by unfold Do; simp) (B7 f).length 0 (by omega); rw [Kv] at this; exact this
  rw [hL3, An]
  cases (B7 f).all (Wc (A3 f)) with
  | false => rfl
  | true =>
  have hsB : Lx f = true := by simp only [Hi, A7] at hs; exact hs.1
  have hmax : f.Blocks.length ≤ maxLen := by have := hf.blocks; have : (64 : Nat) ≤ maxLen := by decide
                                             omega
  simp only [Ag, Dd, Aq, m_ref_of f hmax, hsB, An]; rw [m_ref_tree _ (gOf_fits (Pi hsB)).1 0, An]; have htl := tree_len hsB
  have hL4 : Ah (S := Int) (X := (Unit ⊕ Int)) (Cu (A3 f) (B7 f) (Df f)) (0 : Int) = some (bif (B7 f).all (Ug (A3 f) (Df f)) then .inl () else .inr 7) := by
    have key : ∀ i, i < (B7 f).length → Cu (A3 f) (B7 f) (Df f) (i : Int) = some (bif Ug (A3 f) (Df f) ((B7 f).getD i default) then .next ((i : Int) + 1) else .done (.inr 7)) := fun i hi => by
      unfold Cu Ug defOf
      have hd : decide ((i : Int) < ((B7 f).length : Int)) = true := by simpa using hi
      simp only [hd, Ag, Ab (Ap hi), Ew, m_find (A3 f) _ (by omega), An, Ab (hfound i hi), A9 hi (by omega), m_meet (Df f) htl]; exact dom_aux _ _ _ _ _ _
    have := Hl (B7 f) default (Ug (A3 f) (Df f)) (Cu (A3 f) (B7 f) (Df f)) (.inl ()) (.inr 7) (fun i hi hp => by rw [key i hi, hp]; rfl) (fun i hi hp => by rw [key i hi, hp]; rfl) (by unfold Cu; simp) (B7 f).length 0 (by omega); rw [Kv] at this; exact this
  show ((Ah (Cu (A3 f) (B7 f) (Df f)) 0).bind _) = _
  rw [hL4, An]
  cases (B7 f).all (Ug (A3 f) (Df f)) <;> rfl
def grow(n d:Int):Int:=bif decide (n<d) then d else n
def Sm(f:TFunc):Prop:=InF f/\C5 f=some true
theorem sm_ok{f:TFunc}(h:Sm f)(hm:Uf f=true):OkF f:=by
 obtain⟨sm,h1,h2⟩:=small_parts f h.1;rw[h.2]at h1;exact(h2 (OI h1).symm hm).1
theorem m_small11{f:TFunc}(hf:InF f):∃ b,Hs f=some b/\(b=true->Sm f):=by
 obtain⟨x,hx⟩:∃ x,Ah (En f) ((0:Int),(0:Int))=some x:=by
  refine R6 f.Blocks.length (En f) (fun n i hi=>.inl ?_) (fun n=>?_) f.Blocks.length 0 0 (by omega)
  ·unfold En
   have hd:decide ((i:Int)<(f.Blocks.length:Int))=true:=by simpa using hi
   simp only[hd,Ag,Ab (Ap hi),Jx hi hf.blocks];exact⟨_,rfl⟩
  ·unfold En;exact⟨n,by simp⟩
 obtain⟨sm,h1⟩:=small_some f hf;unfold Hs;rw[hx,An,h1,An];refine⟨_,rfl,fun hb=>⟨hf,?_⟩⟩
 cases sm with
 | true=>exact h1
 | false=>cases hb
theorem m_check_ref{f:TFunc}(h:Sm f)(l:Int):Ds f l=some (Hh f l):=by
 have hm:=rmay_eq f h.1
 cases hb:Uf f with
 | true=>exact m_wrong (sm_ok h hb) l hm
 | false=>
  unfold Ds Hh;rw[show(bif decide (l<(0:Int)) then true else decide ((2:Int)<l))=(decide (l<0) || decide (2<l)) by cases decide (l<(0:Int))<;>rfl]
  cases(decide (l<0) || decide (2<l)) with
  | true=>rfl
  | false=>simp only[Aq,hm,hb,An,Lh,Ag]
structure ShapesOf(f:TFunc)(s:List (Int×(Int×Int))):Prop where
 none:Hh f 2≠0->s.length=0
 len:Hh f 2=0->s.length=(A3 f).length
 get:Hh f 2=0->∀ d∈A3 f,H4 ((0:Int),(0:Int)) s d.V=d.Shape
 has:Hh f 2=0->∀ v,Gi s v=true->∃ d∈A3 f,d.V=v
def restD(f:TFunc):Int:=
 bif !(List.range (A3 f).length).all (Pe (A3 f)) then 7 else bif !(B7 f).all (Ls (A3 f)) then 7 else
 bif !(B7 f).all (Wc (A3 f)) then 6 else bif !(B7 f).all (Ug (A3 f) (Df f)) then 7 else 0
theorem U4{f:TFunc}{l:Int}(h0:0<=l)(h2:l<=2):Hh f l=0↔Uf f=true/\Hi f=true/\Sp f l=true/\restD f=0:=by
 unfold Hh wrongD;rw[Cj (show ¬ l<0 by omega),Cj (show ¬ 2<l by omega)]
 show _↔_/\_/\_/\restD f=0
 have e:(bif !(List.range (A3 f).length).all (Pe (A3 f)) then(7:Int) else bif !(B7 f).all (Ls (A3 f)) then 7 else
  bif !(B7 f).all (Wc (A3 f)) then 6 else bif !(B7 f).all (Ug (A3 f) (Df f)) then 7 else 0)=restD f:=rfl
 rw[e]
 cases Uf f<;>cases Hi f<;>cases Sp f l<;>simp
theorem lanes_of{o:C1}(h:J4 o=true):1<=o.Lanes:=by
 simp only[J4,A7]at h;have:=Qw h.1.1;omega
theorem opTyped_iff{l m:Int}(hm:levMost l=m)(o:C1):Nh l o=true↔J4 o=true/\o.Kind<=m/\(l<2->o.Lanes<=1):=by
 unfold Nh;rw[hm]
 by_cases a:m<o.Kind<;>by_cases b:l<2<;>by_cases c:1<o.Lanes<;>cases J4 o<;>simp[a,b,c]<;>omega
theorem sum_suc{α:Type}(l:List α)(g:α->Nat):(l.map fun a=>g a+1).sum=l.length+(l.map g).sum:=by
 induction l with
 | nil=>rfl
 | cons a l ih=>simp only[C7,V2,ih,Wo];omega
theorem w64_plus(a b:Int):w64 (a+w64 b)=w64 (a+b):=by rw[Int.add_comm,w64_add,Int.add_comm]
theorem xsize(f:TFunc)(hf:InF f):Qo f=some (sizeW f):=by
 have hl:=loop_addw f.Blocks (default:Ad) (fun b=>b.Phis.length+b.Ops.length) id (Mo f) (fun n i hi=>?_) (fun n=>?_) f.Blocks.length 0 f.Blocks.length (Hy _)
 ·unfold Qo;rw[w64_nat (by have:=hf.blocks;rw[Ue]at this;omega),show((0:Nat):Int)=0 from rfl]at hl;rw[hl,An,Kv,sizeW,Td,show(sizeB:Ad->Nat)=(fun b=>(b.Phis.length+b.Ops.length)+1) from rfl,sum_suc]
  rfl
 ·have e1:decide ((i:Int)<(f.Blocks.length:Int))=true:=Br (by omega);unfold Mo;simp only[e1,Ag,Ab (Ap hi),Ew,Jx hi hf.blocks,w64_plus,w64_add];rw[show(n:Int)+(((f.Blocks.getD i default).Phis.length:Int)+((f.Blocks.getD i default).Ops.length:Int))=((n+((f.Blocks.getD i default).Phis.length+(f.Blocks.getD i default).Ops.length):Nat):Int) by omega]
 ·have e1:decide ((f.Blocks.length:Int)<(f.Blocks.length:Int))=false:=by simp
  unfold Mo;simp only[e1,Aq,id]
theorem all_loop{α:Type}(l:List α)(d:α)(p:α->Bool)(f:Int->Option (LR Int (Unit ⊕ Bool)))(hn:∀ i:Nat,i<l.length->f i=bif p (l.getD i d) then some (.next ((i:Int)+1)) else some (.done (.inr false)))
  (he:f l.length=some (.done (.inl ()))):Ah f 0=some (bif l.all p then .inl () else .inr false):=by
 have:=Hl l d p f (.inl ()) (.inr false) (fun i hi hp=>by rw[hn i hi,hp];rfl) (fun i hi hp=>by rw[hn i hi,hp];rfl) he l.length 0 (Hy _)
 simpa using this
theorem numB_cond(x:Int):(bif decide (x<0) then true else decide (2147483647<x)) = !numB x:=by
 unfold numB
 by_cases h1:x<0
 ·have:¬ 0<=x:=by omega
  simp[h1,this]
 ·by_cases h2:2147483647<x
  ·have:¬ x<=2147483647:=by omega
   simp[h1,h2,this]
  ·have h3:0<=x:=by omega
   have h4:x<=2147483647:=by omega
   simp[h1,h2,h3,h4]
theorem xfits(l:List Int)(h:l.length<=maxLen):D6 l=some (l.all numB):=by
 have hl:=all_loop l 0 numB (Ii l) (fun i hi=>?_) ?_
 ·unfold D6;rw[hl]
  cases l.all numB<;>rfl
 ·have e1:decide ((i:Int)<(l.length:Int))=true:=Br (by omega);unfold Ii;simp only[e1,Ag,Ab (Ap hi),Ew,numB_cond,Jx hi h]
  cases numB (l.getD i 0)<;>simp
 ·unfold Ii
  simp
theorem Aaa(l:List Int)(h:l.length<=maxLen):Hd l=some (listB l):=by
 unfold Hd;rw[xfits l h]
 by_cases h1:l.length<=64
 ·have e1:decide ((l.length:Int)<=64)=true:=Br (by omega);rw[e1];simp[listB,h1]
 ·have e1:decide ((l.length:Int)<=64)=false:=Cj (by omega);rw[e1];simp[listB,h1]
theorem Zy{l:List Int}(h:l.length<=10):l.length<=maxLen:=by rw[Ue];omega
theorem xphiFits(p:H7)(h1:p.From.length<=maxLen)(h2:p.Args.length<=maxLen):Mq p=some (phiB p):=by
 unfold Mq phiB;rw[xfits _ (Zy (by simp)),Aaa _ h1,Aaa _ h2];simp only[Wp,List.all_nil,zzL138]
 cases numB p.Bits<;>cases numB p.Dst<;>cases listB p.From<;>cases listB p.Args<;>rfl
theorem xopFits(o:C1)(h1:o.Args.length<=maxLen):N4 o=some (opB o):=by
 unfold N4 opB;rw[xfits _ (Zy (by simp)),Aaa _ h1];simp only[Wp,List.all_nil,zzL138]
 cases numB o.Kind<;>cases numB o.Bits<;>cases numB o.Lanes<;>cases numB o.Dst<;>cases listB o.Args<;>rfl
theorem xendFits(e:Lz)(h1:e.To.length<=maxLen):Mp e=some (endB e):=by
 unfold Mp endB;rw[xfits _ (Zy (by simp)),Aaa _ h1];simp only[Wp,List.all_nil,zzL138]
 cases numB e.Kind<;>cases numB e.Arg<;>cases listB e.To<;>rfl
theorem not_cond{X:Type}(b:Bool)(x y:X):(bif !b then x else y)=bif b then y else x:=by cases b<;>rfl
theorem xphis_fit(l:List H7)(hl:l.length<=maxLen)(h:∀ p∈l,p.From.length<=maxLen/\p.Args.length<=maxLen):Hp l=some (l.all phiB):=by
 have hl':=all_loop l (default:H7) phiB (Ge l) (fun i hi=>?_) ?_
 ·unfold Hp;rw[hl']
  cases l.all phiB<;>rfl
 ·have e1:decide ((i:Int)<(l.length:Int))=true:=Br (by omega);have:=h _ (Aw (d:=(default:H7)) hi);unfold Ge;simp only[e1,Ag,Ab (Ap hi),Ew,xphiFits _ this.1 this.2,An,not_cond,Jx hi hl,Int.natCast_add,Int.natCast_one]
 ·unfold Ge
  simp
theorem xops_fit(l:List C1)(hl:l.length<=maxLen)(h:∀ o∈l,o.Args.length<=maxLen):Ih l=some (l.all opB):=by
 have hl':=all_loop l (default:C1) opB (Gu l) (fun i hi=>?_) ?_
 ·unfold Ih;rw[hl']
  cases l.all opB<;>rfl
 ·have e1:decide ((i:Int)<(l.length:Int))=true:=Br (by omega);have:=h _ (Aw (d:=(default:C1)) hi);unfold Gu;simp only[e1,Ag,Ab (Ap hi),Ew,xopFits _ this,An,not_cond,Jx hi hl,Int.natCast_add,Int.natCast_one]
 ·unfold Gu
  simp
theorem xblockFits(b:Ad)(h1:b.Phis.length<=maxLen)(h2:b.Ops.length<=maxLen)(h3:b.End.To.length<=maxLen)(h4:∀ p∈b.Phis,p.From.length<=maxLen/\p.Args.length<=maxLen)(h5:∀ o∈b.Ops,o.Args.length<=maxLen):K4 b=some (blockB b):=by
 unfold K4 blockB;rw[xphis_fit _ h1 h4,xops_fit _ h2 h5,xendFits _ h3]
 cases b.Phis.all phiB<;>cases b.Ops.all opB<;>cases endB b.End<;>rfl
theorem xblocks_fit(f:TFunc)(hf:InF f):Gt f.Blocks=some (f.Blocks.all blockB):=by
 have hl':=all_loop f.Blocks (default:Ad) blockB (Fh f.Blocks) (fun i hi=>?_) ?_
 ·unfold Gt;rw[hl']
  cases f.Blocks.all blockB<;>rfl
 ·have e1:decide ((i:Int)<(f.Blocks.length:Int))=true:=Br (by omega);have hm:=Aw (d:=(default:Ad)) hi;have q:=hf.block _ hm;unfold Fh;simp only[e1,Ag,Ab (Ap hi),Ew,xblockFits _ q.1 q.2.1 q.2.2 (hf.phi _ hm) (fun o ho=>(hf.op _ hm o ho).1),An,not_cond,Jx hi hf.blocks,Int.natCast_add,Int.natCast_one]
 ·unfold Fh
  simp
theorem xmay(f:TFunc)(hf:InF f):R7 f=some (Uf f):=by
 unfold R7 Uf;rw[xsize f hf,xfits _ hf.params,xfits _ (Zy (by simp)),xblocks_fit f hf];simp only[Wp,List.all_nil,zzL138,listB]
 have d1:∀ n:Nat,decide ((n:Int)<1) = !decide (1<=n):=fun n=>by by_cases h:1<=n<;>simp[h]<;>omega
 have d2:∀ n:Nat,decide ((64:Int)<(n:Int)) = !decide (n<=64):=fun n=>by by_cases h:n<=64<;>simp[h]<;>omega
 have d3:∀ n:Nat,decide ((16:Int)<(n:Int)) = !decide (n<=16):=fun n=>by by_cases h:n<=16<;>simp[h]<;>omega
 have d4:∀ n:Int,decide ((512:Int)<n) = !decide (n<=512):=fun n=>by by_cases h:n<=512<;>simp[h]<;>omega
 simp only[d1,d2,d3,d4]
 have himp:decide (f.Params.length<=16)=true->decide (f.Params.length<=64)=true:=fun h=>by simp at h ⊢;omega
 revert himp
 generalize decide (1<=f.Blocks.length)=c1
 generalize decide (f.Blocks.length<=64)=c2
 generalize decide (f.Params.length<=16)=c3
 generalize decide (f.Params.length<=64)=c4
 generalize f.Params.all numB=c6
 generalize numB f.Ret=c7
 generalize f.Blocks.all blockB=c8
 cases c3 with
 | true=>
  intro h;obtain rfl:=h rfl;simp only[Dd,Rk,Ag,An,Aq]
  generalize decide (sizeW f<=512)=c5
  cases c1<;>cases c2<;>cases c6<;>cases c7<;>cases c8<;>cases c5<;>rfl
 | false=>
  intro _
  cases c1<;>cases c2<;>rfl
inductive Tp (t:List Int):Nat->Nat->Nat->Prop
 | top {x:Nat} (hx:x<t.length) (h:t.getD x 0 = -1):Tp t x x 0
 | up {x y r k:Nat} (hx:x<t.length) (h:t.getD x 0=(y:Int)) (hk:Tp t y r k):Tp t x r (k+1)
section
variable {t:List Int}
theorem Tp.lt{x r k:Nat}(h:Tp t x r k):x<t.length:=by cases h<;>assumption
theorem Tp.tops{x r k:Nat}(h:Tp t x r k):r<t.length/\t.getD r 0 = -1:=by
 induction h with
 | top hx h=>exact⟨hx,h⟩
 | up _ _ _ ih=>exact ih
theorem Tp.det{x r k r' k':Nat}(h:Tp t x r k)(h':Tp t x r' k'):r=r'/\k=k':=by
 induction h generalizing k' with
 | top hx h=>cases h' with
  | top=>exact⟨rfl,rfl⟩
  | up _ h2 _=>omega
 | up hx h1 _ ih=>cases h' with
  | top _ h2=>omega
  | up _ h2 k2=>
   have:_=_:=h1.symm.trans h2
   cases Tz this
   obtain⟨e1,e2⟩:=ih k2;exact⟨e1,by omega⟩
theorem Tp.upTo{x r k:Nat}(h:Tp t x r k):UpTo (Bo t) x r:=by
 induction h with
 | top=>exact .refl _
 | up _ h _ ih=>exact .up h ih
theorem Tp.on{x r k z:Nat}(h:Tp t x r k)(hz:UpTo (Bo t) x z):∃ j,j<=k/\Tp t z r j/\(j=k->z=x):=by
 induction hz generalizing k with
 | refl x=>exact⟨k,zzL9 _,h,fun _=>rfl⟩
 | up hp _ ih=>
  cases h with
  | top _ h2=>have:_=_:=hp.symm.trans h2;omega
  | up _ h2 k2=>
   have:_=_:=hp.symm.trans h2
   cases Tz this
   obtain⟨j,h1,h3,_⟩:=ih k2;exact⟨j,by omega,h3,fun e=>by omega⟩
theorem Tp.anti{x r k z:Nat}(h:Tp t x r k)(h1:UpTo (Bo t) x z)(h2:UpTo (Bo t) z x):z=x:=by
 obtain⟨j,j1,j2,j3⟩:=h.on h1;obtain⟨i,i1,i2,i3⟩:=j2.on h2;have:=h.det i2;exact j3 (by omega)
theorem Tp.list{x r k:Nat}(h:Tp t x r k):∃ l:List Nat,l.length=k+1/\l.Nodup/\∀ y∈l,y<t.length/\∃ j,j<=k/\Tp t y r j:=by
 induction h with
 | top hx h=>exact⟨[_],rfl,by simp,fun y hy=>by rw[zzL23.1 hy];exact⟨hx,0,zzL9 _,.top hx h⟩⟩
 | @up x y r k hx h hk ih=>
  obtain⟨l,h1,h2,h3⟩:=ih;refine⟨x::l,by simp[h1],zzL110.2 ⟨fun hm=>?_,h2⟩,fun z hz=>?_⟩
  ·obtain⟨_,j,hj,hj2⟩:=h3 _ hm;have:=(Tp.up hx h hk).det hj2;omega
  ·rcases zzL28.1 hz with rfl|hz
   ·exact⟨hx,k+1,zzL9 _,.up hx h hk⟩
   ·obtain⟨e1,j,e2,e3⟩:=h3 z hz;exact⟨e1,j,by omega,e3⟩
theorem Tp.short{x r k:Nat}(h:Tp t x r k):k<t.length:=by
 obtain⟨l,h1,h2,h3⟩:=h.list;have:=P5 t.length l h2 fun y hy=>(h3 y hy).1;omega
theorem Tp.upD{x r k:Nat}(h:Tp t x r k):∀ m,k<m->∃ q,upD t m (x:Int)=some q/\(∀ w:Int,w∈q↔∃ z:Nat,w=(z:Int)/\UpTo (Bo t) x z) /\
  ∀ p:Int->Bool,(q.find? p=none/\∀ z:Nat,UpTo (Bo t) x z->p (z:Int)=false)\/∃ f:Nat,q.find? p=some (f:Int)/\UpTo (Bo t) x f/\p (f:Int)=true/\∀ z:Nat,UpTo (Bo t) x z->p (z:Int)=true->UpTo (Bo t) f z:=by
 induction h with
 | @top x hx h=>
  intro m hm;obtain⟨m,rfl⟩:∃ i,m=i+1:=⟨m-1,by omega⟩
  have htop:∀ z,UpTo (Bo t) x z↔z=x:=fun z=>anc_top fun p hp=>by have:_=_:=hp.symm.trans h;omega
  unfold Go.Proofs.YtmkiepobhjiabaaGreat.upD;rw[if_pos ⟨by omega,by omega⟩,As,if_pos h];refine⟨_,rfl,fun w=>?_,fun p=>?_⟩
  ·rw[zzL23]
   constructor
   ·rintro rfl;exact⟨x,rfl,.refl _⟩
   ·rintro⟨z,rfl,hz⟩;rw[(htop z).1 hz]
  ·cases hpp:p (x:Int) with
   | false=>exact .inl ⟨by simp[List.find?,hpp],fun z hz=>by rw[(htop z).1 hz];exact hpp⟩
   | true=>exact .inr ⟨x,by simp[List.find?,hpp],.refl _,hpp,fun z hz _=>hz⟩
 | @up x y r k hx h hk ih=>
  intro m hm;obtain⟨m,rfl⟩:∃ i,m=i+1:=⟨m-1,by omega⟩;unfold Go.Proofs.YtmkiepobhjiabaaGreat.upD;rw[if_pos ⟨by omega,by omega⟩,As,if_neg (by omega),h];obtain⟨q,hq1,hq2,hq3⟩:=ih m (by omega);rw[hq1];refine⟨(x:Int)::q,rfl,fun w=>?_,fun p=>?_⟩
  ·rw[zzL28,hq2 w]
   constructor
   ·rintro(rfl|⟨y,rfl,hy⟩)
    ·exact⟨x,rfl,.refl _⟩
    ·exact⟨y,rfl,.up h hy⟩
   ·rintro⟨y,rfl,hy⟩;rcases(anc_up h).1 hy with rfl|hy
    ·exact .inl rfl
    ·exact .inr ⟨y,rfl,hy⟩
  ·cases hpp:p (x:Int) with
   | true=>exact .inr ⟨x,by simp[List.find?,hpp],.refl _,hpp,fun y hy _=>hy⟩
   | false=>
    have hf:((x:Int)::q).find? p=q.find? p:=by simp[List.find?,hpp]
    rw[hf];rcases hq3 p with⟨e1,e2⟩|⟨f,e1,e2,e3,e4⟩
    ·refine .inl ⟨e1,fun y hy=>?_⟩;rcases(anc_up h).1 hy with rfl|hy
     ·exact hpp
     ·exact e2 y hy
    ·refine .inr ⟨f,e1,.up h e2,e3,fun y hy hpy=>?_⟩;rcases(anc_up h).1 hy with rfl|hy
     ·rw[hpp]at hpy;cases hpy
     ·exact e4 y hy hpy
theorem upD_tp:∀ m (a:Int) q,upD t m a=some q->∃ x r k:Nat,a=(x:Int)/\k<m/\Tp t x r k:=by
 intro m
 induction m with
 | zero=>intro a q h;cases h
 | succ m ih=>
  intro a q h;unfold Go.Proofs.YtmkiepobhjiabaaGreat.upD at h
  by_cases ha:0<=a/\a<(t.length:Int)
  ·rw[if_pos ha]at h;have e:((a.toNat:Nat):Int)=a:=Pz ha.1
   by_cases h1:t.getD a.toNat 0 = -1
   ·exact⟨a.toNat,a.toNat,0,e.symm,by omega,.top (by omega) h1⟩
   ·rw[if_neg h1]at h
    cases hu:Go.Proofs.YtmkiepobhjiabaaGreat.upD t m (t.getD a.toNat 0) with
    | none=>rw[hu]at h;cases h
    | some q'=>
     obtain⟨y,r,k,e1,e2,e3⟩:=ih _ _ hu;exact⟨a.toNat,r,k+1,e.symm,by omega,.up (by omega) e1 e3⟩
  ·rw[if_neg ha]at h;cases h
theorem pathD_tp{a:Int}:Ei t a≠[]↔∃ x r k:Nat,a=(x:Int)/\Tp t x r k:=by
 constructor
 ·intro h
  cases hu:upD t t.length a with
  | none=>exact absurd (pathD_nil.2 hu) h
  | some q=>obtain⟨x,r,k,e1,_,e2⟩:=upD_tp _ _ _ hu;exact⟨x,r,k,e1,e2⟩
 ·rintro⟨x,r,k,rfl,h⟩ e;obtain⟨q,hq,_⟩:=h.upD t.length h.short;rw[pathD_nil.1 e]at hq;cases hq
theorem Tp.path{x r k:Nat}(h:Tp t x r k):(∀ w:Int,w∈Ei t (x:Int)↔∃ z:Nat,w=(z:Int)/\UpTo (Bo t) x z) /\
  ∀ p:Int->Bool,((Ei t (x:Int)).find? p=none/\∀ z:Nat,UpTo (Bo t) x z->p (z:Int)=false)\/∃ f:Nat,(Ei t (x:Int)).find? p=some (f:Int)/\UpTo (Bo t) x f/\p (f:Int)=true/\∀ z:Nat,UpTo (Bo t) x z->p (z:Int)=true->UpTo (Bo t) f z:=by
 obtain⟨q,h1,h2,h3⟩:=h.upD t.length h.short
 have e:Ei t (x:Int)=q:=by unfold Ei;rw[h1];rfl
 rw[e];exact⟨h2,h3⟩
theorem getD_set{α:Type}{l:List α}{i j:Nat}{x d:α}(hi:i<l.length):(l.set i x).getD j d=if j=i then x else l.getD j d:=by
 by_cases h:j=i
 ·subst h;simp[List.getD,hi]
 ·simp[List.getD,h,Ne.symm h]
theorem meet_L1{x r k:Nat}(h:Tp t x r k):∀ l:List Bool,l.length=t.length->∃ l',Ah (H9 t) ((x:Int),l)=some l'/\l'.length=t.length/\∀ z,z<t.length->(l'.getD z false=true↔l.getD z false=true\/UpTo (Bo t) x z):=by
 induction h with
 | @top x hx h=>
  intro l hl
  have hs:H9 t ((x:Int),l)=some (.next (-1,l.set x true)):=by
   unfold H9
   have hb:((x:Int)!=(-1:Int))=true:=by rw[zzL100];omega
   simp only[hb,Ag,As,h];rw[Ae (Gj (by omega)),Ae (Gj hx)]
  have hd:H9 t (-1,l.set x true)=some (.done (l.set x true)):=by
   unfold H9
   rfl
  refine⟨l.set x true,by rw[Ax hs,Ao hd],by simp[hl],fun z hz=>?_⟩;rw[getD_set (by omega)]
  have htop:UpTo (Bo t) x z↔z=x:=anc_top fun p hp=>by have:_=_:=hp.symm.trans h;omega
  rw[htop]
  by_cases e:z=x
  ·simp[e]
  ·simp[e]
 | @up x y r k hx h hk ih=>
  intro l hl
  have hs:H9 t ((x:Int),l)=some (.next ((y:Int),l.set x true)):=by
   unfold H9
   have hb:((x:Int)!=(-1:Int))=true:=by rw[zzL100];omega
   simp only[hb,Ag,As,h];rw[Ae (Gj (by omega)),Ae (Gj hx)]
  obtain⟨l',e1,e2,e3⟩:=ih (l.set x true) (by simp[hl]);refine⟨l',by rw[Ax hs,e1],e2,fun z hz=>?_⟩;rw[e3 z hz,getD_set (by omega),anc_up (par:=Bo t) h]
  by_cases e:z=x
  ·simp[e]
  ·simp[e]
theorem meet_L2{b r k:Nat}(h:Tp t b r k)(l:List Bool)(hl:l.length=t.length):l.getD r false=true->∃ c:Nat,Ah (Ia t l) (b:Int)=some (c:Int)/\UpTo (Bo t) b c/\l.getD c false=true/\∀ z,UpTo (Bo t) b z->l.getD z false=true->UpTo (Bo t) c z:=by
 induction h with
 | @top x hx h=>
  intro hr
  have hd:Ia t l (x:Int)=some (.done (x:Int)):=by
   unfold Ia;rw[Ae (Gj (by omega)),As,hr]
   rfl
  exact⟨x,Ao hd,.refl _,hr,fun z hz _=>hz⟩
 | @up x y r k hx h hk ih=>
  intro hr
  cases hx2:l.getD x false with
  | true=>
   have hd:Ia t l (x:Int)=some (.done (x:Int)):=by
    unfold Ia;rw[Ae (Gj (by omega)),As,hx2]
    rfl
   exact⟨x,Ao hd,.refl _,hx2,fun z hz _=>hz⟩
  | false=>
   have hs:Ia t l (x:Int)=some (.next (y:Int)):=by
    unfold Ia;rw[Ae (Gj (by omega)),As,hx2,Lh,Ag,Ae (Gj hx),h]
   obtain⟨c,e1,e2,e3,e4⟩:=ih hr;refine⟨c,by rw[Ax hs,e1],.up h e2,e3,fun z hz hlz=>?_⟩;rcases(anc_up (par:=Bo t) h).1 hz with rfl|hz
   ·rw[hx2]at hlz;cases hlz
   ·exact e4 z hz hlz
theorem m_meet_prog(ht:t.length<=1000){a b r k m:Nat}(ha:Tp t a r k)(hb:Tp t b r m):∃ c:Nat,Ok t (a:Int) (b:Int)=some (c:Int)/\MeetAt (Bo t) a b c:=by
 unfold Ok
 have hroom:(1000:Nat)<=room:=by decide
 rw[Ae ⟨by omega,by omega,by omega⟩,As];obtain⟨l',h1,h2,h3⟩:=meet_L1 ha (List.replicate t.length false) (by simp);rw[h1,An]
 have h3':∀ z,z<t.length->(l'.getD z false=true↔UpTo (Bo t) a z):=fun z hz=>by rw[h3 z hz,Si];simp
 obtain⟨c,e1,e2,e3,e4⟩:=meet_L2 hb l' h2 ((h3' r ha.tops.1).2 ha.upTo)
 have hc:c<t.length:=by obtain⟨j,_,hj,_⟩:=hb.on e2;exact hj.lt
 refine⟨c,by rw[e1];rfl,fun w=>⟨fun hw=>⟨((h3' c hc).1 e3).trans hw,e2.trans hw⟩,fun⟨hw1,hw2⟩=>?_⟩⟩;obtain⟨j,_,hj,_⟩:=ha.on hw1;exact e4 w hw2 ((h3' w hj.lt).2 hw1)
theorem meetD_at(hR:Lg t=true){a b r k m:Nat}(ha:Tp t a r k)(hb:Tp t b r m):∃ c:Nat,Ps t (a:Int) (b:Int)=(c:Int)/\MeetAt (Bo t) a b c:=by
 unfold Ps;rw[if_pos hR]
 have hcon:∀ z:Nat,(Ei t (b:Int)).contains (z:Int)=true↔UpTo (Bo t) b z:=fun z=>by
  rw[zzL68,hb.path.1]
  constructor
  ·rintro⟨y,e,hy⟩;cases Tz e;exact hy
  ·intro hz;exact⟨z,rfl,hz⟩
 rcases ha.path.2 (fun x=>(Ei t (b:Int)).contains x) with⟨e1,e2⟩|⟨f,e1,e2,e3,e4⟩
 ·have:=e2 r ha.upTo;rw[(hcon r).2 hb.upTo]at this
  cases this
 ·exact⟨f,by rw[e1];rfl,fun w=>⟨fun hw=>⟨e2.trans hw,((hcon f).1 e3).trans hw⟩,fun⟨hw1,hw2⟩=>e4 w hw1 ((hcon w).2 hw2)⟩⟩
theorem MeetAt.same{a b r k c d:Nat}(ha:Tp t a r k)(hc:MeetAt (Bo t) a b c)(hd:MeetAt (Bo t) a b d):c=d:=by
 obtain⟨j,_,hj,_⟩:=ha.on ((hc c).1 (.refl _)).1;exact(hj.anti ((hc d).2 ((hd d).1 (.refl _))) ((hd c).2 ((hc c).1 (.refl _)))).symm
end
theorem m_index(t:List Int)(v:Int)(ht:t.length<=1000):(∃ r:Nat,r<t.length/\t.getD r 0=v/\(∀ i,i<r->t.getD i 0≠v)/\Fx t v=some (r:Int))\/((∀ i,i<t.length->t.getD i 0≠v)/\Fx t v=some (-1)):=by
 have key:∀ k i:Nat,i+k=t.length->(∀ j,j<i->t.getD j 0≠v)->
   (∃ r:Nat,r<t.length/\t.getD r 0=v/\(∀ i,i<r->t.getD i 0≠v)/\Ah (Ci t v) (i:Int)=some (.inr (r:Int)))\/((∀ i,i<t.length->t.getD i 0≠v)/\Ah (Ci t v) (i:Int)=some (.inl ())):=by
  intro k
  induction k with
  | zero=>
   intro i hi hj
   obtain rfl:i=t.length:=by omega
   refine .inr ⟨hj,Ao ?_⟩;unfold Ci;rw[Fo];rfl
  | succ k ih=>
   intro i hi hj
   by_cases e:v=t.getD i 0
   ·refine .inl ⟨i,by omega,e.symm,hj,Ao ?_⟩;unfold Ci;have hb:((v:Int)==t.getD i 0)=true:=zzL53.2 e;simp only[Cy (show i<t.length by omega),Ag,As,hb];rw[Ae (Gj (by omega))]
   ·have hs:Ci t v (i:Int)=some (.next ((i+1:Nat):Int)):=by
     unfold Ci;have hb:((v:Int)==t.getD i 0)=false:=zzL32.2 e;simp only[Cy (show i<t.length by omega),Ag,As,hb,Aq];rw[Ae (Gj (by omega)),w1 (by omega)]
    rw[Ax hs]
    exact ih (i+1) (by omega) fun j hj2=>by
     by_cases ej:j=i
     ·subst ej;exact fun h=>e h.symm
     ·exact hj j (by omega)
 have h0:=key t.length 0 (by omega) (fun j hj=>absurd hj (Rl _));unfold Fx;rcases h0 with⟨r,h1,h2,h3,h4⟩|⟨h1,h2⟩
 ·exact .inl ⟨r,h1,h2,h3,by rw[show((0:Int))=((0:Nat):Int) from rfl,h4];rfl⟩
 ·exact .inr ⟨h1,by rw[show((0:Int))=((0:Nat):Int) from rfl,h2];rfl⟩
section
variable {t:List Int}
structure Aal(t:List Int)(r f:Nat)(w:List Int):Prop where
 len:w.length=t.length
 old:∀ y,y<t.length->w.getD y 0≠0->(w.getD y 0<=(f:Int))/\∃ k,Tp t y r k
structure Walk(t:List Int)(r f x:Nat)(w:List Int):Prop where
 len:w.length=t.length
 hx:x<t.length
 old:∀ y,y<t.length->w.getD y 0≠0->w.getD y 0<=(f:Int)/\(∃ k,Tp t y r k)\/w.getD y 0=((f+1:Nat):Int)/\∀ r' k,Tp t x r' k->∃ j,k<j/\Tp t y r' j
 fwd:∀ r' k,Tp t x r' k->∃ j,k<=j/\Tp t f r' j
 back:∀ r' k,Tp t f r' k->∃ j,Tp t x r' j
def zeros(w:List Int):Nat:=w.countP fun z=>z==0
theorem zeros_set{w:List Int}{x:Nat}{v:Int}(hx:x<w.length)(h0:w.getD x 0=0)(hv:v≠0):zeros (w.set x v)<zeros w:=by
 unfold zeros;rw[List.countP_set hx];rw[Ai _ _ _ hx]at h0;have hp:0<w.countP fun z=>z==0:=List.countP_pos_iff.2 ⟨w[x],zzL84 hx,by simp[h0]⟩;have hb:(v==0)=false:=zzL32.2 hv;simp only[h0,Rk,L8,hb,zzL103,G4];omega
theorem leads_loop(ht:t.length<=1000){r:Nat}(hr:r<t.length)(htop:t.getD r 0 = -1){f:Nat}(hf:f<t.length):∀(m x:Nat) (w:List Int),zeros w<=m->Walk t r f x w->
  (∃ w',Ah (D3 t (f:Int) (r:Int)) ((x:Int),w)=some (.inl w')/\Aal t r (f+1) w'/\∃ k,Tp t f r k) \/
  ∃ b w',Ah (D3 t (f:Int) (r:Int)) ((x:Int),w)=some (.inr (b,w'))/\w'.length=t.length/\(b=true->Aal t r (f+1) w'/\∃ k,Tp t f r k)/\(b=false->∀ k,¬ Tp t f r k):=by
 intro m
 induction m with
 | zero=>
  intro x w hz hw;exact go 0 (fun x w hz=>absurd hz (Rl _)) x w hz hw
 | succ m ih=>
  intro x w hz hw;exact go (m+1) (fun x w hz=>ih x w (Nat.le_of_lt_succ hz)) x w hz hw
where
 go (m:Nat) (ih:∀(x:Nat) (w:List Int),zeros w<m->Walk t r f x w->
  (∃ w',Ah (D3 t (f:Int) (r:Int)) ((x:Int),w)=some (.inl w')/\Aal t r (f+1) w'/\∃ k,Tp t f r k) \/
  ∃ b w',Ah (D3 t (f:Int) (r:Int)) ((x:Int),w)=some (.inr (b,w'))/\w'.length=t.length/\(b=true->Aal t r (f+1) w'/\∃ k,Tp t f r k)/\(b=false->∀ k,¬ Tp t f r k)) (x:Nat) (w:List Int) (hz:zeros w<=m) (hw:Walk t r f x w) :
  (∃ w',Ah (D3 t (f:Int) (r:Int)) ((x:Int),w)=some (.inl w')/\Aal t r (f+1) w'/\∃ k,Tp t f r k) \/
  ∃ b w',Ah (D3 t (f:Int) (r:Int)) ((x:Int),w)=some (.inr (b,w'))/\w'.length=t.length/\(b=true->Aal t r (f+1) w'/\∃ k,Tp t f r k)/\(b=false->∀ k,¬ Tp t f r k):=by
  have hxl:=hw.hx
  have told:∀ k,Tp t x r k->Aal t r (f+1) w/\∃ k,Tp t f r k:=fun k hk=>by
   obtain⟨j,_,hj⟩:=hw.fwd _ _ hk;refine⟨⟨hw.len,fun y hy hy0=>?_⟩,j,hj⟩;rcases hw.old y hy hy0 with⟨h1,h2⟩|⟨h1,h2⟩
   ·exact⟨by omega,h2⟩
   ·obtain⟨i,_,hi⟩:=h2 _ _ hk;exact⟨by omega,i,hi⟩
  by_cases hxr:x=r
  ·subst hxr;refine .inl ⟨w,Ao ?_,told 0 (.top hr htop)⟩;unfold D3
   have hb:((x:Int)!=(x:Int))=false:=by simp
   simp only[hb,Aq]
  ·have hb:((x:Int)!=(r:Int))=true:=by rw[zzL100];omega
   have hin:A2 (x:Int) w.length:=Gj (by rw[hw.len];exact hxl)
   by_cases hw0:w.getD x 0=0
   ·have hb0:((w.getD x 0:Int)!=0)=false:=by rw[hw0];rfl
    by_cases hpl:0<=t.getD x 0/\t.getD x 0<(t.length:Int)
    ·have hwf:w64 ((f:Int)+1)=((f+1:Nat):Int):=w1 (by omega)
     have hs:D3 t (f:Int) (r:Int) ((x:Int),w)=some (.next (t.getD x 0,w.set x ((f+1:Nat):Int))):=by
      unfold D3 Kp;simp only[hb,Ag,As,hb0,Aq];rw[Ae hin,Ae (Gj hxl),Br hpl.1,Br hpl.2,Ag,An,Dd,Aq,Ae hin,Ae (Gj hxl),hwf]
     rw[Ax hs];obtain⟨y,hy⟩:∃ y:Nat,t.getD x 0=(y:Int):=⟨(t.getD x 0).toNat,(Pz hpl.1).symm⟩;rw[hy]at hpl ⊢
     have hyl:y<t.length:=by omega
     have hst:∀ r' k,Tp t y r' k->Tp t x r' (k+1):=fun r' k hk=>.up hxl hy hk
     have hset:∀ z,z<t.length->(w.set x ((f+1:Nat):Int)).getD z 0=if z=x then((f+1:Nat):Int) else w.getD z 0:=fun z _=>getD_set (by rw[hw.len];exact hxl)
     have hW:Walk t r f y (w.set x ((f+1:Nat):Int)):=by
      refine⟨by simp[hw.len],hyl,fun z hzl hz0=>?_,fun r' k hk=>?_,fun r' k hk=>?_⟩
      ·rw[hset z hzl]at hz0 ⊢
       by_cases e:z=x
       ·subst e;rw[if_pos rfl];exact .inr ⟨rfl,fun r' k hk=>⟨k+1,by omega,hst r' k hk⟩⟩
       ·rw[if_neg e]at hz0 ⊢;rcases hw.old z hzl hz0 with h1|⟨h1,h2⟩
        ·exact .inl h1
        ·refine .inr ⟨h1,fun r' k hk=>?_⟩;obtain⟨j,hj1,hj2⟩:=h2 _ _ (hst r' k hk);exact⟨j,by omega,hj2⟩
      ·obtain⟨j,hj1,hj2⟩:=hw.fwd _ _ (hst r' k hk);exact⟨j,by omega,hj2⟩
      ·obtain⟨j,hj⟩:=hw.back _ _ hk
       cases hj with
       | top _ h2=>omega
       | up _ h2 h3=>
        have:=hy.symm.trans h2
        cases Tz this
        exact⟨_,h3⟩
     have hzz:=zeros_set (x:=x) (v:=((f+1:Nat):Int)) (by rw[hw.len];exact hxl) hw0 (by omega);exact ih y _ (by omega) hW
    ·refine .inr ⟨false,w,Ao ?_,hw.len,⟨fun h=>(by cases h),fun _ k hk=>?_⟩⟩
     ·unfold D3 Kp;simp only[hb,Ag,As,hb0,Aq];rw[Ae hin,Ae (Gj hxl)]
      have:(bif decide ((0:Int)<=t.getD x 0) then decide (t.getD x 0<(t.length:Int)) else false)=false:=by
       cases h1:decide ((0:Int)<=t.getD x 0) with
       | false=>rfl
       | true=>rw[Ag];exact Cj fun h2=>hpl ⟨zzL95 h1,h2⟩
      rw[this,An]
      rfl
     ·obtain⟨j,hj⟩:=hw.back _ _ hk
      cases hj with
      | top=>exact hxr rfl
      | up _ h2 h3=>have:=h3.lt;exact hpl ⟨by omega,by omega⟩
   ·have hb0:((w.getD x 0:Int)!=0)=true:=by rw[zzL100];exact hw0
    have hwf:w64 ((f:Int)+1)=((f+1:Nat):Int):=w1 (by omega);refine .inr ⟨w.getD x 0 !=((f+1:Nat):Int),w,Ao ?_,hw.len,⟨fun h=>?_,fun h k hk=>?_⟩⟩
    ·unfold D3;simp only[hb,Ag,As,hb0];rw[Ae hin,Ae hin,hwf]
    ·rcases hw.old x hxl hw0 with⟨_,k,hk⟩|⟨h1,_⟩
     ·exact told k hk
     ·rw[h1]at h;simp at h
    ·have he:w.getD x 0=((f+1:Nat):Int):=by simpa using h
     obtain⟨j,hj⟩:=hw.back _ _ hk;rcases hw.old x hxl hw0 with⟨h1,_⟩|⟨_,h2⟩
     ·omega
     ·obtain⟨i,hi1,hi2⟩:=h2 _ _ hj;have:=hj.det hi2;omega
end
section
variable {t:List Int}
theorem m_leads(ht:t.length<=1000){r:Nat}(hr:r<t.length)(htop:t.getD r 0 = -1){f:Nat}(hf:f<t.length){w:List Int}(hw:Aal t r f w) :
  ∃ b w',Qq t w (f:Int) (r:Int)=some (b,w')/\w'.length=t.length/\(b=true->Aal t r (f+1) w'/\∃ k,Tp t f r k)/\(b=false->∀ k,¬ Tp t f r k):=by
 unfold Qq;have hW:Walk t r f f w:=⟨hw.len,hf,fun y hy h0=>.inl (hw.old y hy h0),fun r' k hk=>⟨k,zzL9 _,hk⟩,fun r' k hk=>⟨k,hk⟩⟩;rcases leads_loop ht hr htop hf _ f w (zzL9 _) hW with⟨w',e1,e2⟩|⟨b,w',e1,e2,e3,e4⟩
 ·exact⟨true,w',by rw[e1];rfl,e2.1.len,fun _=>e2,fun h=>by cases h⟩
 ·exact⟨b,w',by rw[e1];rfl,e2,e3,e4⟩
def AllUp(t:List Int)(r:Nat):Prop:=∀ f,f<t.length->t.getD f 0≠-2->∃ k,Tp t f r k
open Classical in
theorem isTree_loop(ht:t.length<=1000){r:Nat}(hr:r<t.length)(htop:t.getD r 0 = -1):∀(k f:Nat) (w:List Int),f+k=t.length->Aal t r f w->(∀ y,y<f->t.getD y 0≠-2->∃ k,Tp t y r k)->
  Ah (Gg t (r:Int)) ((f:Int),w)=some (if AllUp t r then .inl () else .inr false):=by
 intro k
 induction k with
 | zero=>
  intro f w hk hw hd
  obtain rfl:f=t.length:=by omega
  apply Ao
  unfold Gg;simp only[Fo,Aq];rw[if_pos (show AllUp t r from hd)]
 | succ k ih=>
  intro f w hk hw hd
  have hf:f<t.length:=by omega
  by_cases h2:t.getD f 0 = -2
  ·have hb:((t.getD f 0:Int)!=(-2))=false:=by rw[h2];rfl
   have hs:Gg t (r:Int) ((f:Int),w)=some (.next (((f+1:Nat):Int),w)):=by
    unfold Gg;simp only[Cy hf,Ag,As,hb,show(false==true)=false from rfl,Aq,An];rw[Ae (Gj hf),Ae (fun h=>by cases h),w1 (by omega)]
   rw[Ax hs];refine ih (f+1) w (by omega) ⟨hw.len,fun y hy h0=>?_⟩ fun y hy hy2=>?_
   ·obtain⟨e1,e2⟩:=hw.old y hy h0;exact⟨by omega,e2⟩
   ·by_cases e:y=f
    ·subst e;exact absurd h2 hy2
    ·exact hd y (by omega) hy2
  ·have hb:((t.getD f 0:Int)!=(-2))=true:=by rw[zzL100];exact h2
   obtain⟨b,w',e1,e2,e3,e4⟩:=m_leads ht hr htop hf hw
   cases b with
   | false=>
    rw[if_neg (fun hA:AllUp t r=>by obtain⟨k,hk⟩:=hA f hf h2;exact e4 rfl k hk)]
    apply Ao
    unfold Gg;simp only[Cy hf,Ag,As,hb,show(true==true)=true from rfl,e1,An];rw[Ae (Gj hf),Ae (fun _=>by rw[hw.len,e2])]
    rfl
   | true=>
    have hs:Gg t (r:Int) ((f:Int),w)=some (.next (((f+1:Nat):Int),w')):=by
     unfold Gg;simp only[Cy hf,Ag,As,hb,show(true==true)=true from rfl,e1,An];rw[Ae (Gj hf),Ae (fun _=>by rw[hw.len,e2]),w1 (by omega)]
     rfl
    rw[Ax hs];obtain⟨e5,e6⟩:=e3 rfl;refine ih (f+1) w' (by omega) e5 fun y hy hy2=>?_
    by_cases e:y=f
    ·subst e;exact e6
    ·exact hd y (by omega) hy2
theorem tops_one:topsK t t.length=1↔∃ r,r<t.length/\t.getD r 0 = -1/\∀ x,x<t.length->t.getD x 0 = -1->x=r:=by
 have key:∀ n,(topsK t n=0↔∀ x,x<n->t.getD x 0≠-1)/\(topsK t n=1↔∃ r,r<n/\t.getD r 0 = -1/\∀ x,x<n->t.getD x 0 = -1->x=r):=by
  intro n
  induction n with
  | zero=>exact⟨⟨fun _ x hx=>absurd hx (Rl _),fun _=>rfl⟩,⟨fun h=>by simp[topsK]at h,fun⟨r,h,_⟩=>absurd h (Rl _)⟩⟩
  | succ n ih=>
   rw[topsK_succ]
   by_cases e:t.getD n 0 = -1
   ·rw[if_pos e];refine⟨⟨fun h=>by omega,fun h=>absurd e (h n (by omega))⟩,⟨fun h=>⟨n,by omega,e,fun x hx hx1=>?_⟩,fun⟨r,h1,h2,h3⟩=>?_⟩⟩
    ·by_cases ex:x=n
     ·exact ex
     ·exact absurd hx1 (ih.1.1 (by omega) x (by omega))
    ·have:=ih.1.2 fun x hx hx1=>by
      have:=h3 x (by omega) hx1;have:=h3 n (by omega) e;omega
     omega
   ·rw[if_neg e,P0];refine⟨⟨fun h x hx=>?_,fun h=>ih.1.2 fun x hx=>h x (by omega)⟩,⟨fun h=>?_,fun⟨r,h1,h2,h3⟩=>?_⟩⟩
    ·by_cases ex:x=n
     ·subst ex;exact e
     ·exact ih.1.1 h x (by omega)
    ·obtain⟨r,h1,h2,h3⟩:=ih.2.1 h;refine⟨r,by omega,h2,fun x hx hx1=>?_⟩
     by_cases ex:x=n
     ·subst ex;exact absurd hx1 e
     ·exact h3 x (by omega) hx1
    ·refine ih.2.2 ⟨r,?_,h2,fun x hx hx1=>h3 x (by omega) hx1⟩
     by_cases ex:r=n
     ·subst ex;exact absurd h2 e
     ·omega
 exact(key _).2
theorem rightD_iff:Lg t=true↔∃ r,r<t.length/\t.getD r 0 = -1/\AllUp t r:=by
 unfold Lg;rw[A7,all_range,F9,tops_one]
 constructor
 ·rintro⟨h1,r,h2,h3,h4⟩;refine⟨r,h2,h3,fun f hf hf2=>?_⟩;have:=h1 f hf;unfold okR at this;rw[Y7,F9,Nr,zzL71]at this;rcases this with h|h
  ·exact absurd h hf2
  ·obtain⟨x,r',k,e,hk⟩:=pathD_tp.1 h
   cases Tz e
   have:=h4 _ hk.tops.1 hk.tops.2;subst this;exact⟨k,hk⟩
 ·rintro⟨r,h2,h3,h4⟩;refine⟨fun f hf=>?_,r,h2,h3,fun x hx hx1=>?_⟩
  ·unfold okR;rw[Y7,F9,Nr,zzL71]
   by_cases e:t.getD f 0 = -2
   ·exact .inl e
   ·obtain⟨k,hk⟩:=h4 f hf e;exact .inr (pathD_tp.2 ⟨f,r,k,rfl,hk⟩)
  ·obtain⟨k,hk⟩:=h4 x hx (by omega);exact((hk.det (.top hx hx1)).1).symm
theorem rightD_at(hR:Lg t=true):∃ r,AllUp t r:=by obtain⟨r,_,_,h⟩:=rightD_iff.1 hR;exact⟨r,h⟩
theorem m_isTree(ht:t.length<=1000):Pa t=some (Lg t):=by
 unfold Pa
 have hroom:(1000:Nat)<=room:=by decide
 rcases m_index t (-1) ht with⟨r,h1,h2,h3,h4⟩|⟨h1,h2⟩
 ·rw[h4,An,show decide ((r:Int)<0)=false from Cj (by omega),Aq,Ae ⟨by omega,by omega,by omega⟩,As];have hl:=isTree_loop ht h1 h2 t.length 0 (List.replicate t.length 0) (by omega) ⟨by simp,fun y hy h0=>absurd Si h0⟩ (fun y hy=>absurd hy (Rl _));rw[show(((0:Nat):Int))=0 from rfl]at hl;rw[hl,An]
  by_cases hA:AllUp t r
  ·rw[if_pos hA,rightD_iff.2 ⟨r,h1,h2,hA⟩]
  ·rw[if_neg hA]
   have:Lg t=false:=Bool.eq_false_iff.2 fun hR=>by
    obtain⟨r',g1,g2,g3⟩:=rightD_iff.1 hR;obtain⟨k,hk⟩:=g3 r h1 (by omega);have:=(hk.det (.top h1 h2)).1;subst this;exact hA g3
   rw[this]
 ·rw[h2,An]
  have:Lg t=false:=Bool.eq_false_iff.2 fun hR=>by
   obtain⟨r',g1,g2,g3⟩:=rightD_iff.1 hR;exact h1 r' g1 g2
  rw[this]
  rfl
def hasB(t:List Int)(a:Int):Bool:=decide (0<=a)&&decide (a<(t.length:Int))&&decide (t.getD a.toNat 0≠-2)
theorem hasB_iff(hR:Lg t=true){a:Int}:hasB t a=true↔∃ x k r:Nat,a=(x:Int)/\Tp t x r k:=by
 unfold hasB;rw[A7,A7,F9,F9,F9]
 constructor
 ·rintro⟨⟨h1,h2⟩,h3⟩;obtain⟨r,hA⟩:=rightD_at hR;obtain⟨k,hk⟩:=hA a.toNat (by omega) h3;exact⟨a.toNat,k,r,(Pz h1).symm,hk⟩
 ·rintro⟨x,k,r,rfl,h⟩;have:=h.lt;refine⟨⟨by omega,by omega⟩,?_⟩;rw[As]
  cases h with
  | top _ h2=>omega
  | up _ h2 _=>omega
theorem m_hasEntry(a:Int):K5 t a=some (hasB t a):=by
 unfold K5 Kp hasB;rw[An]
 cases h1:decide ((0:Int)<=a) with
 | false=>rfl
 | true=>
  rw[Ag,Fc]
  cases h2:decide (a<(t.length:Int)) with
  | false=>rfl
  | true=>
   rw[Ae (fun _=>⟨zzL95 h1,zzL95 h2⟩),Ag,Fc]
   congr 1
   rw[Me,zzL100,F9]
theorem m_areIn(ht:t.length<=1000)(a b:Int):Qp t a b=some (Lg t&&hasB t a&&hasB t b):=by
 unfold Qp;rw[m_isTree ht,An]
 cases Lg t with
 | false=>rfl
 | true=>
  simp only[show(true==true)=true from rfl,Ag,m_hasEntry,An,Fc]
  cases hasB t a with
  | false=>rfl
  | true=>simp only[show(true==true)=true from rfl,Ag,m_hasEntry,An,Fc]
theorem meetD_out{a b:Int}(h:(Lg t&&hasB t a&&hasB t b)=false):Ps t a b = -2:=by
 unfold Ps
 by_cases hR:Lg t=true
 ·rw[if_pos hR];rw[hR,Fc]at h
  have hno:∀ c,hasB t c=false->Ei t c=[]:=fun c hc=>by
   by_cases e:Ei t c=[]
   ·exact e
   ·obtain⟨x,r,k,e1,e2⟩:=pathD_tp.1 e;rw[(hasB_iff hR).2 ⟨x,k,r,e1,e2⟩]at hc;cases hc
  cases ha:hasB t a with
  | false=>rw[hno a ha];rfl
  | true=>
   rw[ha,Fc]at h;rw[hno b h]
   have:((Ei t a).find? fun x=>([]:List Int).contains x)=none:=List.find?_eq_none.2 fun x _=>by simp
   rw[this]
   rfl
 ·rw[if_neg hR]
theorem meet_prog_doc(ht:t.length<=1000){a b:Int}(h:(Lg t&&hasB t a&&hasB t b)=true):Ok t a b=some (Ps t a b)/\0<=Ps t a b:=by
 rw[A7,A7]at h;obtain⟨⟨hR,ha⟩,hb⟩:=h;obtain⟨x,k,r,rfl,hx⟩:=(hasB_iff hR).1 ha;obtain⟨y,m,r',rfl,hy⟩:=(hasB_iff hR).1 hb;obtain⟨rr,hA⟩:=rightD_at hR
 have top:∀{x r k},Tp t x r k->r=rr:=fun{x r k} h=>by
  obtain⟨i,hi⟩:=hA r h.tops.1 (by rw[h.tops.2];omega);exact((Tp.top h.tops.1 h.tops.2).det hi).1
 obtain rfl:=top hx;obtain rfl:=top hy;obtain⟨c,h1,h2⟩:=m_meet_prog ht hx hy;obtain⟨d,h3,h4⟩:=meetD_at hR hx hy;have:=h2.same hx h4;subst this;exact⟨by rw[h1,h3],by omega⟩
theorem m_Over(ht:t.length<=1000)(a b:Int):P3 t a b=some (Yg t a b):=by
 unfold P3 Yg;rw[m_areIn ht,An]
 cases h:(Lg t&&hasB t a&&hasB t b) with
 | false=>
  rw[meetD_out h]
  have:((-2:Int)==a&&((-2:Int)!=-2))=false:=by simp
  rw[this]
  rfl
 | true=>
  obtain⟨h1,h2⟩:=meet_prog_doc ht h;simp only[show(true==true)=true from rfl,Ag,h1,An]
  have:(Ps t a b !=-2)=true:=by rw[zzL100];omega
  rw[this,zzL138]
end
theorem mul_fin:∀ n:Fin 65,Oi (Iv 1) (Iv ((n.val:Nat):Int))=some (0,((n.val:Nat):Int)):=by decide +kernel
theorem mul_small{n:Nat}(h:n<=64):Oi (Iv 1) (Iv (n:Int))=some (0,(n:Int)):=mul_fin ⟨n,by omega⟩
theorem repeat_loop{v:Int}{n:Nat}(hn:n<=64):∀(m i:Nat) (l:List Int),n-i<=m->1<=i->i<=n->l.length=n->(∀ j,j<i->l.getD j 0=v)->Ah C4 ((i:Int),l)=some (List.replicate n v):=by
 intro m
 induction m with
 | zero=>
  intro i l hm h1 h2 hl hv
  obtain rfl:i=n:=by omega
  exact fin l hl hv
 | succ m ih=>
  intro i l hm h1 h2 hl hv
  by_cases e:i=n
  ·subst e;exact fin l hl hv
  ·have hs:C4 ((i:Int),l)=some (.next (((i+Nat.min i (n-i):Nat):Int),cpL l i (Nat.min i (n-i)) (fun j=>l.getD (0+j) 0))):=by
    unfold C4;simp only[hl,Cy (show i<n by omega),Ag,As,Hy,Y2];have hc:(0:Int)<=(i:Int)/\i<=n:=⟨by omega,h2⟩;have hmn:Nat.min i (n-i)<=i:=Nat.min_le_left _ _;rw[Ae hc,Ae hc,Kt (by omega) (by omega),Int.natCast_add]
   rw[Ax hs];have hmn:Nat.min i (n-i)<=i/\Nat.min i (n-i)<=n-i:=⟨Nat.min_le_left _ _,Nat.min_le_right _ _⟩;have hge:1<=Nat.min i (n-i):=Nat.le_min.2 ⟨h1,by omega⟩;refine ih _ _ (by omega) (by omega) (by omega) (by rw[<- Jm];exact hl) fun j hj=>?_;rw[cpL_getD _ _ _ _ _ _ (by omega)]
   by_cases hji:i<=j/\j<i+Nat.min i (n-i)
   ·rw[if_pos hji,Hy];exact hv _ (by omega)
   ·rw[if_neg hji];exact hv _ (by omega)
where
 fin {v:Int} {i:Nat} (l:List Int) (hl:l.length=i) (hv:∀ j,j<i->l.getD j 0=v):Ah C4 ((i:Int),l)=some (List.replicate i v):=by
  apply Ao
  unfold C4;simp only[hl,Fo,Aq]
  congr 2
  refine Yz (by simp[hl]) fun j h1 h2=>?_;rw[<- Ai _ _ 0 h1,hv j (by omega)]
  simp
theorem m_repeat{v:Int}{n:Nat}(h1:1<=n)(hn:n<=64):G3 [v] (n:Int)=some (List.replicate n v):=by
 have hroom:(64:Nat)<=room:=by decide
 unfold G3;rw[show decide ((n:Int)<0)=false from Cj (by omega),Aq,An]
 show Option.bind (Oi (Iv 1) (Iv (n:Int))) _=_
 rw[mul_small hn,An];have e1:decide ((0:Int)<(0:Int))=false:=rfl;have e2:decide ((9223372036854775807:Int)<(n:Int))=false:=Cj (by omega);simp only[e1,e2,Aq,An];have ew:w64 (n:Int)=(n:Int):=Kt (by omega) (by omega);rw[ew,Ae ⟨by omega,by omega,by omega⟩,As,Rj,Y2];have em:Nat.min [v].length n=1:=Nat.min_eq_left h1;rw[em,repeat_loop hn n 1 _ (by omega) (zzL9 _) h1 (by rw[<- Jm];simp) (fun j hj=>?_)]
 ·rfl
 ·rw[cpL_getD _ _ _ _ _ _ (by simp;omega),if_pos ⟨by omega,by omega⟩]
  have:j-0=0:=by omega
  rw[this];rfl
section
variable {S:Nat->List Nat} {r n:Nat} {P:List Nat}
theorem Inv.tp{at_:Nat->Nat}{t:List Int}(h:Inv S r n at_ (Bo t))(hl:t.length=n):∀ m x,at_ x<=m->x<n->Bo t x≠-2->∃ k,Tp t x r k:=by
 intro m
 induction m with
 | zero=>
  intro x hm hx hp;rcases h.kind x hx with h1|h1|⟨z,hz⟩
  ·exact absurd h1 hp
  ·subst h1;exact⟨0,.top (by omega) h.top⟩
  ·obtain⟨_,_,h3,_⟩:=h.up x hx z hz;omega
 | succ m ih=>
  intro x hm hx hp;rcases h.kind x hx with h1|h1|⟨z,hz⟩
  ·exact absurd h1 hp
  ·subst h1;exact⟨0,.top (by omega) h.top⟩
  ·obtain⟨z1,z2,z3,_⟩:=h.up x hx z hz;obtain⟨k,hk⟩:=ih z (by omega) z1 z2;exact⟨k+1,.up (by omega) hz hk⟩
def AllMeet(t l:List Int)(i:Nat)(v:Int):Prop:=
 (v = -2/\∀ j,j<i->Bo t (l.getD j 0).toNat = -2) \/
 ∃ z:Nat,v=(z:Int)/\z<t.length/\Bo t z≠-2/\(∀ w,UpTo (Bo t) z w↔∀ j,j<i->Bo t (l.getD j 0).toNat≠-2->UpTo (Bo t) (l.getD j 0).toNat w)
theorem meetAll_loop{at_:Nat->Nat}{t l:List Int}(ht:t.length<=64)(hll:l.length<=64)(h:Inv S r n at_ (Bo t))(hl:t.length=n)(hin:∀ x∈l,0<=x/\x<(n:Int)):∀(k i:Nat) (v:Int),i+k=l.length->AllMeet t l i v->
  ∃ v',Ah (Fs t l) (v,(i:Int))=some v'/\AllMeet t l l.length v':=by
 intro k
 induction k with
 | zero=>
  intro i v hi hv
  obtain rfl:i=l.length:=by omega
  refine⟨v,Ao ?_,hv⟩;unfold Fs;simp only[Fo,Aq]
 | succ k ih=>
  intro i v hi hv
  have hil:i<l.length:=by omega
  obtain⟨x0,x1⟩:=hin _ (Aw (d:=0) hil);have hxe:(((l.getD i 0).toNat:Nat):Int)=l.getD i 0:=Pz x0;have hxin:A2 (l.getD i 0) t.length:=inbz x0 (by omega)
  have next:∀ v',Fs t l (v,(i:Int))=some (.next (v',((i+1:Nat):Int)))->AllMeet t l (i+1) v'->∃ v',Ah (Fs t l) (v,(i:Int))=some v'/\AllMeet t l l.length v':=fun v' hs hv'=>by
   rw[Ax hs];exact ih (i+1) v' (by omega) hv'
  by_cases hp:Bo t (l.getD i 0).toNat = -2
  ·have hb:((t.getD (l.getD i 0).toNat 0:Int)==-2)=true:=zzL53.2 hp;refine next v ?_ ?_
   ·unfold Fs;simp only[Cy hil,Ag,As,hb];rw[Ae (Gj hil),Ae hxin,An,w1 (by omega)]
   ·have hstep:∀ w,(∀ j,j<i->Bo t (l.getD j 0).toNat≠-2->UpTo (Bo t) (l.getD j 0).toNat w)↔∀ j,j<i+1->Bo t (l.getD j 0).toNat≠-2->UpTo (Bo t) (l.getD j 0).toNat w:=fun w=>by
     refine⟨fun hj j hj1 hj2=>?_,fun hj j hj1=>hj j (by omega)⟩
     by_cases e:j=i
     ·subst e;exact absurd hp hj2
     ·exact hj j (by omega) hj2
    rcases hv with⟨h1,h2⟩|⟨z,h1,h2,h3,h4⟩
    ·refine .inl ⟨h1,fun j hj=>?_⟩
     by_cases e:j=i
     ·subst e;exact hp
     ·exact h2 j (by omega)
    ·exact .inr ⟨z,h1,h2,h3,fun w=>by rw[h4 w,hstep w]⟩
  ·have hb:((t.getD (l.getD i 0).toNat 0:Int)==-2)=false:=zzL32.2 hp;rcases hv with⟨h1,h2⟩|⟨z,h1,h2,h3,h4⟩
   ·subst h1;refine next (l.getD i 0) ?_ (.inr ⟨(l.getD i 0).toNat,hxe.symm,by omega,hp,fun w=>⟨fun hw j hj hj2=>?_,fun hw=>hw i (by omega) hp⟩⟩)
    ·unfold Fs;simp only[Cy hil,Ag,As,hb,Aq,show((-2:Int)==-2)=true from rfl];rw[Ae (Gj hil),Ae hxin,An,w1 (by omega)]
    ·by_cases e:j=i
     ·subst e;exact hw
     ·exact absurd (h2 j (by omega)) hj2
   ·subst h1;have hb2:((z:Int)==-2)=false:=zzL32.2 (by omega);obtain⟨k1,hk1⟩:=h.tp hl _ z (zzL9 _) (by omega) h3;obtain⟨k2,hk2⟩:=h.tp hl _ (l.getD i 0).toNat (zzL9 _) (by omega) hp;obtain⟨c,c1,c2⟩:=m_meet_prog (by omega) hk1 hk2;have hcz:=(c2 c).1 (.refl _);obtain⟨jc,_,hjc,_⟩:=hk1.on hcz.1
    have hcp:Bo t c≠-2:=by
     show t.getD c 0≠-2
     cases hjc with
     | top _ h=>omega
     | up _ h _=>omega
    refine next (c:Int) ?_ (.inr ⟨c,rfl,hjc.lt,hcp,fun w=>?_⟩)
    ·rw[hxe]at c1;unfold Fs;simp only[Cy hil,Ag,As,hb,Aq,hb2,c1,An];rw[Ae (Gj hil),Ae hxin,An,w1 (by omega)]
    ·rw[c2 w,h4 w];refine⟨fun⟨a1,a2⟩ j hj hj2=>?_,fun ha=>⟨fun j hj=>ha j (by omega),ha i (by omega) hp⟩⟩
     by_cases e:j=i
     ·subst e;exact a2
     ·exact a1 j (by omega) hj2
theorem m_meetAll{at_:Nat->Nat}{t l:List Int}(ht:t.length<=64)(hll:l.length<=64)(h:Inv S r n at_ (Bo t))(hl:t.length=n)(hin:∀ x∈l,0<=x/\x<(n:Int)) :
  ∃ v,Kq t l=some v/\AllMeet t l l.length v:=by
 obtain⟨v,h1,h2⟩:=meetAll_loop ht hll h hl hin l.length 0 (-2) (by omega) (.inl ⟨rfl,fun j hj=>absurd hj (Rl _)⟩);refine⟨v,?_,h2⟩;unfold Kq;rw[show((0:Int))=((0:Nat):Int) from rfl,h1]
 rfl
end
section
variable {L:List (List Int)} (hm:Lq L=true) {r:Nat} {P:List Nat}
include hm
theorem sN_iff{p y:Nat}(hp:p<L.length):y∈sN L p↔Xy L p y=true:=by
 rw[goes_iff];obtain⟨_,_,h3⟩:=mayS_iff.1 hm
 constructor
 ·intro h;obtain⟨x,hx,rfl⟩:=zzL27.1 h;have:=okL_mem (h3 p hp) hx;rw[Pz this.1];exact hx
 ·intro h;exact zzL27.2 ⟨_,h,As y⟩
theorem Yk{y:Nat}(hy:y<L.length){x:Int}:x∈(Ch L).getD y []↔∃ p:Nat,x=(p:Int)/\p<L.length/\y∈sN L p:=by
 rw[predOf_at hy];unfold Kr;rw[mem_filt]
 constructor
 ·rintro⟨k,h1,h2,h3⟩;exact⟨k,h1,h2,(sN_iff hm h2).2 h3⟩
 ·rintro⟨k,h1,h2,h3⟩;exact⟨k,h1,h2,(sN_iff hm h2).1 h3⟩
theorem meetAll_best(o:Ordered (sN L) r L.length P){t:List Int}{i:Nat}(h:Ready (sN L) r L.length P t i)(hi:i<P.length) :
  Kq t ((Ch L).getD (P.getD i 0) [])=some (Og (sN L) L.length t (P.getD i 0):Int):=by
 obtain⟨hL1,hL64,_⟩:=mayS_iff.1 hm;have hyn:P.getD i 0<L.length:=o.lt (zzL19 _ (Rz hi))
 have hlen:((Ch L).getD (P.getD i 0) []).length<=64:=by
  rw[predOf_at hyn];have:=Vv L L.length (P.getD i 0);omega
 obtain⟨v,h1,h2⟩:=m_meetAll (by rw[h.len];exact hL64) hlen h.inv h.len fun x hx=>by
  obtain⟨p,rfl,hp,_⟩:=(Yk hm hyn).1 hx;omega
 rw[h1];have hb:=h.best o hi
 have mem:∀ p,p<L.length->P.getD i 0∈sN L p->∃ j,j<((Ch L).getD (P.getD i 0) []).length/\(((Ch L).getD (P.getD i 0) []).getD j 0).toNat=p:=fun p hp hy=>by
  obtain⟨j,hj,e⟩:=Py ((Yk hm hyn).2 ⟨p,rfl,hp,hy⟩);exact⟨j,hj,by rw[Ai _ _ _ hj,e,As]⟩
 have mem':∀ j,j<((Ch L).getD (P.getD i 0) []).length->(((Ch L).getD (P.getD i 0) []).getD j 0).toNat<L.length/\P.getD i 0∈sN L (((Ch L).getD (P.getD i 0) []).getD j 0).toNat:=fun j hj=>by
  obtain⟨p,e,hp,hy⟩:=(Yk hm hyn).1 (Aw (d:=(0:Int)) hj);rw[e,As];exact⟨hp,hy⟩
 rcases h2 with⟨rfl,h3⟩|⟨z,rfl,hz,hz2,h4⟩
 ·obtain⟨p,hp,hyp,hp2,_⟩:=hb.fwd;obtain⟨j,hj,e⟩:=mem p hp hyp;exact absurd (by rw[<- e];exact h3 j hj) hp2
 ·have hbest:Best (sN L) L.length (Bo t) (P.getD i 0) z:=fun w=>by
   rw[h4 w];refine⟨fun ha p hp hyp hp2=>?_,fun ha j hj hj2=>?_⟩
   ·obtain⟨j,hj,e⟩:=mem p hp hyp;have:=ha j hj (by rw[e];exact hp2);rwa[e]at this
   ·obtain⟨q1,q2⟩:=mem' j hj;exact ha _ q1 q2 hj2
  rw[h.best_eq o hi (by rw[<- h.len];exact hz) hz2 hbest]
end
theorem ofN_getD{P:List Nat}{i:Nat}(h:i<P.length):(Tm P).getD i 0=((P.getD i 0:Nat):Int):=by
 unfold Tm;rw[Ai _ _ _ (by simpa using h),Ai _ _ _ h,List.getElem_map]
 rfl
theorem set_same{t:List Int}{x:Nat}{v:Int}(hx:x<t.length)(h:t.getD x 0=v):t.set x v=t:=by
 subst h;rw[Ai _ _ _ hx];exact List.set_getElem_self hx
section
variable {L:List (List Int)} (hm:Lq L=true) {r:Nat} {P:List Nat} (o:Ordered (sN L) r L.length P)
include hm o
theorem round_loop{t0:List Int}(h:Ready (sN L) r L.length P t0 0):∀(k i:Nat) (b:Bool),i+k=P.length->
  ∃ b',Ah (Fn (Ja L) (Tm (r::P))) (b,(i:Int),Xe (sN L) L.length P t0 i)=some (b',Xe (sN L) L.length P t0 P.length) /\
   (b'=false↔b=false/\∀ j,i<=j->j<P.length->Bo (Xe (sN L) L.length P t0 j) (P.getD j 0)=(Og (sN L) L.length (Xe (sN L) L.length P t0 j) (P.getD j 0):Int)):=by
 have hP64:P.length<=64:=by
  have h1:=P5 L.length (r::P) o.nodup fun x hx=>o.lt hx;have h2:=(mayS_iff.1 hm).2.1;simp at h1;omega
 have hdl:(Tm (r::P)).drop (1:Int).toNat=Tm P:=rfl
 have hlen:(Tm P).length=P.length:=by simp[Tm]
 intro k
 induction k with
 | zero=>
  intro i b hi
  obtain rfl:i=P.length:=by omega
  refine⟨b,Ao ?_,fun h=>⟨h,fun j h1 h2=>by omega⟩,fun h=>h.1⟩;unfold Fn;simp only[hdl,hlen,Fo,Aq]
 | succ k ih=>
  intro i b hi
  have hil:i<P.length:=by omega
  have rd:=h.round o i (by omega);have hma:=meetAll_best hm o rd hil;have hyn:P.getD i 0<L.length:=o.lt (zzL19 _ (Rz hil))
  have hyt:P.getD i 0<(Xe (sN L) L.length P t0 i).length:=by rw[rd.len];exact hyn
  have hpred:(Ja L).Pred=Ch L:=rfl
  by_cases he:Bo (Xe (sN L) L.length P t0 i) (P.getD i 0)=(Og (sN L) L.length (Xe (sN L) L.length P t0 i) (P.getD i 0):Int)
  ·have hb:((Og (sN L) L.length (Xe (sN L) L.length P t0 i) (P.getD i 0):Int)!=(Xe (sN L) L.length P t0 i).getD (P.getD i 0) 0)=false:=by
    have:(Xe (sN L) L.length P t0 i).getD (P.getD i 0) 0=_:=he;rw[this];simp
   have hnx:Xe (sN L) L.length P t0 (i+1)=Xe (sN L) L.length P t0 i:=set_same hyt he
   have hs:Fn (Ja L) (Tm (r::P)) (b,(i:Int),Xe (sN L) L.length P t0 i)=some (.next (b,((i+1:Nat):Int),Xe (sN L) L.length P t0 (i+1))):=by
    unfold Fn;simp only[hdl,hlen,Cy hil,Ag,As,ofN_getD hil,hpred,hma,An,hb,Aq];rw[Ae (Gj hil),Ae (Gj (by rw[On];exact hyn)),Ae (Gj hyt),An,w1 (by omega),hnx]
   obtain⟨b',e1,e2⟩:=ih (i+1) b (by omega);refine⟨b',by rw[Ax hs,e1],fun h=>?_,fun⟨h1,h2⟩=>e2.2 ⟨h1,fun j hj=>h2 j (by omega)⟩⟩;obtain⟨h1,h2⟩:=e2.1 h;refine⟨h1,fun j hj1 hj2=>?_⟩
   by_cases e:j=i
   ·subst e;exact he
   ·exact h2 j (by omega) hj2
  ·have hb:((Og (sN L) L.length (Xe (sN L) L.length P t0 i) (P.getD i 0):Int)!=(Xe (sN L) L.length P t0 i).getD (P.getD i 0) 0)=true:=by
    rw[zzL100];exact fun e=>he e.symm
   have hs:Fn (Ja L) (Tm (r::P)) (b,(i:Int),Xe (sN L) L.length P t0 i)=some (.next (true,((i+1:Nat):Int),Xe (sN L) L.length P t0 (i+1))):=by
    unfold Fn;simp only[hdl,hlen,Cy hil,Ag,As,ofN_getD hil,hpred,hma,An,hb];rw[Ae (Gj hil),Ae (Gj (by rw[On];exact hyn)),Ae (Gj hyt),Ae (Gj hyt),An,w1 (by omega)]
    rfl
   obtain⟨b',e1,e2⟩:=ih (i+1) true (by omega);refine⟨b',by rw[Ax hs,e1],fun h=>?_,fun⟨h1,h2⟩=>absurd (h2 i (zzL9 _) hil) he⟩;obtain⟨h1,_⟩:=e2.1 h;cases h1
theorem round_all{t0:List Int}(h:Ready (sN L) r L.length P t0 0):∃ b,Ah (Fn (Ja L) (Tm (r::P))) (false,(0:Int),t0)=some (b,Xe (sN L) L.length P t0 P.length)/\(b=false↔V8 (sN L) L.length P t0):=by
 obtain⟨b,e1,e2⟩:=round_loop hm o h P.length 0 false (by omega);refine⟨b,e1,e2.trans ⟨fun⟨_,h2⟩=>?_,fun hs=>⟨rfl,fun j _ hj=>?_⟩⟩⟩
 ·have key:∀ j,j<=P.length->Xe (sN L) L.length P t0 j=t0:=by
   intro j
   induction j with
   | zero=>intro _;rfl
   | succ j ih=>
    intro hj;have ih':=ih (by omega);have rd:=h.round o j (by omega)
    have hyn:P.getD j 0<(Xe (sN L) L.length P t0 j).length:=by rw[rd.len];exact o.lt (zzL19 _ (Rz (by omega)))
    have:Xe (sN L) L.length P t0 (j+1)=Xe (sN L) L.length P t0 j:=set_same hyn (h2 j (Rn _) (by omega));rw[this,ih']
  intro i hi;have:=h2 i (Rn _) hi;rwa[key i (by omega)]at this
 ·rw[Yu o h.len hs j (by omega)];exact hs j hj
open Classical in
theorem tree_F3(j:Nat):G6 (Ja L) (Tm (r::P),rnR (sN L) L.length P (H6 L.length r) j)=some (if V8 (sN L) L.length P (rnR (sN L) L.length P (H6 L.length r) j) then .done (rnR (sN L) L.length P (H6 L.length r) (j+1)) else .next (Tm (r::P),rnR (sN L) L.length P (H6 L.length r) (j+1))):=by
 obtain⟨b,e1,e2⟩:=round_all hm o (Ready.rounds o j);have hL2:Qh (Ja L) (Tm (r::P))=Fn (Ja L) (Tm (r::P)):=rfl
 have hlen:(0:Int)<=1/\(1:Int)<=((Tm (r::P)).length:Int):=by simp[Tm];omega
 unfold G6;simp only[hL2,e1,An];rw[Ae hlen]
 cases b with
 | false=>rw[if_pos (e2.1 rfl)];rfl
 | true=>rw[if_neg (fun h=>by have:=e2.2 h;cases this)];rfl
theorem tree_rounds:∃ J,V8 (sN L) L.length P (rnR (sN L) L.length P (H6 L.length r) J)/\Ah (G6 (Ja L)) (Tm (r::P),H6 L.length r)=some (rnR (sN L) L.length P (H6 L.length r) J):=by
 obtain⟨J,h1,h2⟩:=stops o;refine⟨J,h2,?_⟩
 have key:∀ d j,j+d=J->Ah (G6 (Ja L)) (Tm (r::P),rnR (sN L) L.length P (H6 L.length r) j)=some (rnR (sN L) L.length P (H6 L.length r) J):=by
  intro d
  induction d with
  | zero=>
   intro j hj
   obtain rfl:j=J:=by omega
   have hF:=tree_F3 hm o j;rw[if_pos h2]at hF;rw[Ao hF];have:rnR (sN L) L.length P (H6 L.length r) (j+1)=rnR (sN L) L.length P (H6 L.length r) j:=Yu o (Ready.rounds o j).len h2 P.length (zzL9 _);rw[this]
  | succ d ih=>
   intro j hj;have hF:=tree_F3 hm o j;rw[if_neg (h1 j (by omega))]at hF;rw[Ax hF];exact ih (j+1) (by omega)
 exact key J 0 (by omega)
end
theorem m_Tree(g:TGraph)(r:Int)(h1:Fits g.Succ)(h2:Fits g.Pred):Oj g r=some (treeG g r):=by
 unfold treeG
 by_cases hc:Vg g=true/\0<=r/\r<(g.Succ.length:Int)
 ·rw[if_pos hc];obtain⟨hG,h0,hlt⟩:=hc;obtain⟨hm,hg⟩:=mayG_eq hG;obtain⟨hL1,hL64,_⟩:=mayS_iff.1 hm
  have hr:r.toNat<g.Succ.length:=by omega
  have hrn:((r.toNat:Nat):Int)=r:=Pz h0;obtain⟨O,hO⟩:=Ord.exist (Wk hm) hr;have hord:=(m_order g h1 trivial r).1 hG h0 hlt O hO;obtain⟨P,rfl,o⟩:=hO.ordered hr (Wk hm);obtain⟨J,hJ,hl⟩:=tree_rounds hm o;have ht:=(still_exact o hJ).eq hm hr o;rw[ht]at hl;have hlen:(((Tm (r.toNat::P)).length:Int)==0)=false:=zzL32.2 (by simp[Tm];omega)
  have hlen2:(0:Int)<=1/\(1:Int)<=((Tm (r.toNat::P)).length:Int):=by simp[Tm];omega
  have hL2:Qh g (Tm (r.toNat::P))=Fn g (Tm (r.toNat::P)):=rfl
  have hst:(P9 (G6 g (Tm (r.toNat::P),H6 g.Succ.length r.toNat)) (G6 g))=some (Wl g.Succ r.toNat):=by
   rw[scopeO_from,hg];exact hl
  unfold Oj;rw[hord,An,hlen,Aq,m_repeat hL1 hL64,An,Ae (inbz h0 (by simpa using hlt)),Ae hlen2]
  have:(G6 g (Tm (r.toNat::P),H6 g.Succ.length r.toNat))=(Ah (Fn g (Tm (r.toNat::P))) (false,0,(List.replicate g.Succ.length (-2:Int)).set r.toNat (-1))).bind (fun x22=>(match x22 with|(b10,l11)=>(bif b10 then(some (.next (Tm (r.toNat::P),l11))) else(some (.done l11))))):=by
   unfold G6 H6;simp only[hL2];rw[Ae hlen2]
  rw[this]at hst;refine Eq.trans ?_ (Cq (fun x:Option (List Int)=>x.bind fun x42=>some x42) hst)
  rfl
 ·rw[if_neg hc];unfold Oj
  have:(Vg g&&(decide (0<=r)&&decide (r<(g.Succ.length:Int))))=false:=by
   rw[Bool.eq_false_iff];intro h;rw[A7,A7,F9,F9]at h;exact hc h
  rw[(m_order g h1 trivial r).2 this,An]
  rfl
theorem allR{α:Type}(l:List α)(d:α)(p:α->Bool){X:Type}(f:Int->Option (LR Int X))(yes no:X)(hl:l.length<9223372036854775808)(hk:∀ i:Nat,i<l.length->f i=some (bif p (l.getD i d) then .next (w64 ((i:Int)+1)) else .done no))
  (he:f l.length=some (.done yes)):Ah f (0:Int)=some (bif l.all p then yes else no):=by
 have:=Hl l d p f yes no (fun i hi hp=>by rw[hk i hi,hp,Ag,A9 hi hl]) (fun i hi hp=>by rw[hk i hi,hp,Aq]) he l.length 0 (by omega);rwa[Kv]at this
theorem c_told(f:TFunc)(hf:InF f)(l:Int)(t:List Int)(u:List Ar):Ie f l t u=some (bif Uf f then 0 else 4,f,l,t,u):=by
 unfold Ie K3;rw[xmay f hf,An]
 cases Uf f<;>rfl
theorem c_phisFit(phis:List H7)(l:List Int)(h1:phis.length<9223372036854775808)(h2:l.length<4611686018427387904):L3 phis l=some (phis.all (Hx l)):=by
 unfold L3
 rw[allR phis (default:H7) (Hx l) (Jr phis l) (.inl ()) (.inr false) h1 (fun i hi=>by
  unfold Jr
  have hd:decide ((i:Int)<(phis.length:Int))=true:=by simpa using hi
  simp only[hd,Ag,Ab (Ap hi),Ew,m_equal _ _ h2,An,Hx]
  cases decide ((phis.getD i default).From=l) with
  | false=>rfl
  | true=>
   simp only[Dd,Aq,Fc,bne]
   cases(((phis.getD i default).Args.length:Int)==(l.length:Int))<;>rfl) (by unfold Jr;simp),An]
 cases phis.all (Hx l)<;>rfl
def argF(e:Lz):Bool:=!((e.Kind==1 || e.Kind==3)&&(e.Arg !=0))
theorem c_argFits{n:Nat}(e:Lz)(hk:Np e n=true):Kb e=some (argF e):=by
 have h4:0<=e.Kind/\e.Kind<=3:=by
  have:=(A7 _ _▸hk:kindB e=true/\toB n e.To=true).1;unfold kindB at this;simp only[A7,F9]at this;omega
 unfold Kb argF
 have:e.Kind=0\/e.Kind=1\/e.Kind=2\/e.Kind=3:=by omega
 rcases this with h|h|h|h<;>rw[h]<;>cases hb:(e.Arg==0)<;>simp[hb,bne]
theorem order_full{L:List (List Int)}(hm:Lq L=true){P:List Nat}(h0:0<L.length)(o:Ord (sN L) 0 P):decide (P.length<L.length) = !(List.range L.length).all fun i=>(Nj L).getD i false:=by
 have hin:∀ x∈P,x<L.length:=fun x hx=>(by obtain⟨Q,rfl,oo⟩:=o.ordered h0 (Wk hm);exact oo.lt hx)
 have hr:∀ z,(Nj L).getD z false=true↔z∈P:=fun z=>by
  rw[o.mem z];exact rds_spec (Wk hm) h0 z
 have hle:=P5 L.length P o.nodup hin
 cases ha:(List.range L.length).all fun i=>(Nj L).getD i false with
 | true=>
  have:=((List.perm_ext_iff_of_nodup o.nodup List.nodup_range).2 fun i=>⟨fun h=>zzL54.2 (hin i h),fun h=>(hr i).1 (zzL29.1 ha i h)⟩:P.Perm (List.range L.length)).length_eq;rw[zzL111]at this
  simp;omega
 | false=>
  obtain⟨i,hi,hni⟩:∃ i,i<L.length/\i∉P:=zzL107 fun hc=>by
   have:(List.range L.length).all (fun i=>(Nj L).getD i false)=true:=zzL29.2 fun i hi=>(hr i).2 (zzL107 fun hn=>hc ⟨i,by simpa using hi,hn⟩);rw[this]at ha;cases ha
  have:(i::P).length<=L.length:=P5 L.length (i::P) (zzL110.2 ⟨hni,o.nodup⟩) (fun x hx=>by rcases zzL28.1 hx with rfl|hx;exact hi;exact hin x hx);simp at this ⊢;omega
theorem c_shaped {f : TFunc} (hf : OkF f) (l : Int) (t : List Int) (u : List Ar) : ∃ t', G9 f l t u = some (bif Hi f then 0 else 5, f, l, t', u) ∧ (Hi f = true → t' = Df f) := by
  have hmax : f.Blocks.length ≤ maxLen := by have := hf.blocks; have : (64 : Nat) ≤ maxLen := by decide
                                             omega
  unfold G9; rw [m_of f hmax, An]
  cases hs : Lx f with
  | false => exact ⟨t, by unfold Hi; rw [hs]; rfl, fun h => by unfold Hi at h; rw [hs] at h; cases h⟩
  | true =>
    have hm := Pi hs; have hlen := Sj f
    have hpos : 0 < (Bf f).length := by have := (shape_iff.1 hs).1.1; omega
    obtain ⟨h1, h2⟩ := gOf_fits hm; obtain ⟨P, hP⟩ := Ord.exist (Wk hm) hpos; have ho := (m_order (Ja (Bf f)) h1 trivial 0).1 (mayG_gOf hm) (by omega) (by show (0 : Int) < ((Bf f).length : Int); omega) P hP; have hfull := order_full hm hpos hP; simp only [Ag, show (((0 : Int) != 0) == false) = true from rfl, show ((0 : Int) != 0) = false from rfl, Aq, ho, An, show (false == false) = true from rfl]
    have e1 : decide (((Tm P).length : Int) < (f.Blocks.length : Int)) = decide (P.length < (Bf f).length) := by
      rw [hlen]; apply zzL61.2; simp [Tm]
    rw [e1, hfull]
    have hsd : Hi f = (((List.range f.Blocks.length).all fun i => (Nj (Bf f)).getD i false) && (List.range f.Blocks.length).all fun i => argF (f.Blocks.getD i default).End && (f.Blocks.getD i default).Phis.all (Hx ((Ch (Bf f)).getD i []))) := by
      unfold Hi; rw [hs, Fc]
      have : ∀ (n : Nat) (p q : Nat → Bool), ((List.range n).all fun i => p i && q i) = ((List.range n).all p && (List.range n).all q) := fun n p q => by
        rw [Me, A7, zzL29, zzL29, zzL29]
        constructor
        · intro h; exact ⟨fun x hx => ((A7 _ _).mp (h x hx)).1, fun x hx => ((A7 _ _).mp (h x hx)).2⟩
        · intro h x hx; rw [A7]; exact ⟨h.1 x hx, h.2 x hx⟩
      rw [← this]
      congr 1
      funext i
      show (_ && _ && _) = _
      rw [Bool.and_assoc]
      rfl
    rw [hlen]; rw [hsd]
    cases hr : (List.range f.Blocks.length).all fun i => (Nj (Bf f)).getD i false with
    | false => exact ⟨t, rfl, fun h => by cases h⟩
    | true =>
      refine ⟨Df f, ?_, fun _ => rfl⟩; rw [Dd, Aq, m_Tree _ 0 h1 h2, An, Fc]; have hp := Vw hm
      have hpl : (Ja (Bf f)).Pred.length = f.Blocks.length := by rw [← hlen]; exact On _
      have key : Ah (De f l u (Ja (Bf f), 0) (Df f)) (0 : Int) = some (bif (List.range f.Blocks.length).all (fun i => argF (f.Blocks.getD i default).End && (f.Blocks.getD i default).Phis.all (Hx ((Ch (Bf f)).getD i []))) then .inl () else .inr ((5 : Int), f, l, Df f, u)) := by
        have hk : ∀ i : Nat, i < f.Blocks.length → De f l u (Ja (Bf f), 0) (Df f) (i : Int) = some (bif (argF (f.Blocks.getD i default).End && (f.Blocks.getD i default).Phis.all (Hx ((Ch (Bf f)).getD i []))) then .next ((i : Int) + 1) else .done (.inr ((5 : Int), f, l, Df f, u))) := fun i hi => by
          have hB := hf.block _ (Aw (d := (default : Ad)) hi); have hpi : A2 (i : Int) (Ja (Bf f)).Pred.length := Ap (by omega); have hpg : ((Ja (Bf f)).Pred.getD i []).length ≤ 64 := hp.2 _ (Aw (by rw [On]; omega)); unfold De
          have hd : decide ((i : Int) < (f.Blocks.length : Int)) = true := by simpa using hi
          simp only [hd, Ag, Ab (Ap hi), Ab hpi, Ew, c_phisFit (f.Blocks.getD i default).Phis ((Ja (Bf f)).Pred.getD i []) (by have := hB.phis; omega) (by omega), An]; have ha : Kb (⟨(f.Blocks.getD i default).End.Kind, (f.Blocks.getD i default).End.Arg, (f.Blocks.getD i default).End.To⟩ : Lz) = some (argF (f.Blocks.getD i default).End) := c_argFits (n := f.Blocks.length) (f.Blocks.getD i default).End ((shape_iff.1 hs).2 i hi); rw [ha, A9 hi (by have := hf.blocks; omega)]
          show _ = some (bif (argF (f.Blocks.getD i default).End && (f.Blocks.getD i default).Phis.all (Hx ((Ja (Bf f)).Pred.getD i []))) then _ else _)
          cases (f.Blocks.getD i default).Phis.all (Hx ((Ja (Bf f)).Pred.getD i [])) <;> cases argF (f.Blocks.getD i default).End <;> rfl
        exact loop_allN _ _ _ _ _ (fun i hi hp => by rw [hk i hi, hp]; rfl) (fun i hi hp => by rw [hk i hi, hp]; rfl) (by unfold De; simp)
      show ((Ah (De f l u (Ja (Bf f), 0) (Df f)) (0 : Int)).bind _) = _
      rw [key, An]
      cases (List.range f.Blocks.length).all (fun i => argF (f.Blocks.getD i default).End && (f.Blocks.getD i default).Phis.all (Hx ((Ch (Bf f)).getD i []))) <;> rfl
theorem c_isOf(o:C1)(l:Int)(h0:0<=l)(h2:l<=2)(hk:J4 o=true):O9 o l=some (!decide (levMost l<o.Kind)&&!(decide (l<2)&&decide (1<o.Lanes))):=by
 have hl:=lanes_of hk
 have hK:o.Kind<=22:=by
  simp only[J4,A7]at hk;have:=hk.1.2.1.1.1;unfold isK at this;simp only[A7,F9]at this;omega
 unfold O9 levMost
 have:l=0\/l=1\/l=2:=by omega
 rcases this with rfl|rfl|rfl
 ·have ha:decide (o.Kind<=17) = !decide (17<o.Kind):=by rw[Me];simp
  have hb:(o.Lanes==1) = !decide (1<o.Lanes):=by rw[Me];simp;omega
  show some (bif decide (o.Kind<=17) then(o.Lanes==1) else false)=some (!decide (17<o.Kind)&&!(true&&decide (1<o.Lanes)))
  rw[ha,hb]
  cases decide (17<o.Kind)<;>cases decide (1<o.Lanes)<;>rfl
 ·have ha:decide (o.Kind<=20) = !decide (20<o.Kind):=by rw[Me];simp
  have hb:(o.Lanes==1) = !decide (1<o.Lanes):=by rw[Me];simp;omega
  show some (bif decide (o.Kind<=20) then(o.Lanes==1) else false)=some (!decide (20<o.Kind)&&!(true&&decide (1<o.Lanes)))
  rw[ha,hb]
  cases decide (20<o.Kind)<;>cases decide (1<o.Lanes)<;>rfl
 ·show some true=some (!decide (22<o.Kind)&&!(false&&decide (1<o.Lanes)))
  rw[Cj (by omega)]
  rfl
theorem c_opTyped(o:C1)(ho:OpOk o)(f:TFunc)(l:Int)(h0:0<=l)(h2:l<=2)(t:List Int)(u:List Ar):Gs o f l t u=some (Nh l o,f,l,t,u):=by
 unfold Gs Nh;rw[kind_May o ho,An]
 cases hk:J4 o with
 | false=>rfl
 | true=>
  rw[show(true==true)=true from rfl,Ag,c_isOf o l h0 h2 hk,An,Ag,Fc]
theorem c_allOp(b:Ad){f:TFunc}(hf:OkF f)(hb:b∈f.Blocks)(l:Int)(h0:0<=l)(h2:l<=2)(t:List Int)(u:List Ar):Jp b.Ops f l t u=some (b.Ops.all (Nh l),f,l,t,u):=by
 have hB:=hf.block b hb
 have key:∀ k i:Nat,i+k=b.Ops.length->Ah (Gb b.Ops) ((i:Int),f.Params,f.Ret,f.Blocks,l,t,u)=some (bif (b.Ops.drop i).all (Nh l) then .inl (f.Params,f.Ret,f.Blocks,l,t,u) else .inr (false,f,l,t,u)):=by
  intro k
  induction k with
  | zero=>
   intro i h
   obtain rfl:i=b.Ops.length:=by omega
   rw[Ao (x:=.inl (f.Params,f.Ret,f.Blocks,l,t,u)) (by unfold Gb;simp)]
   simp
  | succ k ih=>
   intro i h
   have hi:i<b.Ops.length:=by omega
   have hd:decide ((i:Int)<(b.Ops.length:Int))=true:=by simpa using hi
   have hdr:b.Ops.drop i=b.Ops.getD i default::b.Ops.drop (i+1):=by rw[Y3 hi,Ai _ _ _ hi]
   have hx:=c_opTyped (b.Ops.getD i default) (opOk hf hb (Aw hi)) f l h0 h2 t u;rw[hdr,Wp]
   cases ho:Nh l (b.Ops.getD i default) with
   | true=>
    rw[ho]at hx
    rw[Ax (s':=(((i+1:Nat):Int),f.Params,f.Ret,f.Blocks,l,t,u)) (by
     unfold Gb;simp only[hd,Ag,Ab (Ap hi),Ew,hx,An,Dd,Aq,A9 hi (by have:=hB.ops;omega)]
     rfl),ih (i+1) (by omega),Fc]
   | false=>
    rw[ho]at hx
    rw[Ao (x:=.inr (false,f,l,t,u)) (by
     unfold Gb
     simp only[hd,Ag,Ab (Ap hi),Ew,hx,An,Lh])]
    rfl
 unfold Jp;rw[show(0:Int)=((0:Nat):Int) from rfl,key b.Ops.length 0 (by omega),Kv,An]
 cases b.Ops.all (Nh l)<;>rfl
theorem c_allPhi(b:Ad)(h:b.Phis.length<9223372036854775808):Jb b.Phis=some (b.Phis.all fun p=>widthB p.Bits):=by
 unfold Jb
 rw[allR b.Phis (default:H7) (fun p=>widthB p.Bits) (G8 b.Phis) (.inl ()) (.inr false) h (fun i hi=>by
  unfold G8 M9
  have hd:decide ((i:Int)<(b.Phis.length:Int))=true:=by simpa using hi
  simp only[hd,Ag,Ab (Ap hi),Ew,Uq,An]
  cases widthB (b.Phis.getD i default).Bits<;>rfl) (by unfold G8;simp),An]
 cases b.Phis.all fun p=>widthB p.Bits<;>rfl
theorem c_allInt(p:List Int)(h:p.length<9223372036854775808):L2 p=some (p.all widthB):=by
 unfold L2
 rw[allR p (0:Int) widthB (Jq p) (.inl ()) (.inr false) h (fun i hi=>by
  unfold Jq
  have hd:decide ((i:Int)<(p.length:Int))=true:=by simpa using hi
  simp only[hd,Ag,Ab (Ap hi),Ew,Uq,An]
  cases widthB (p.getD i 0)<;>rfl) (by unfold Jq;simp),An]
 cases p.all widthB<;>rfl
theorem c_blockTyped(b:Ad){f:TFunc}(hf:OkF f)(hb:b∈f.Blocks)(l:Int)(h0:0<=l)(h2:l<=2)(t:List Int)(u:List Ar):Ff b f l t u=some (Hz l b,f,l,t,u):=by
 unfold Ff Hz;rw[c_allPhi b (by have:=(hf.block b hb).phis;omega),An,c_allOp b hf hb l h0 h2 t u]
 cases(b.Phis.all fun p=>widthB p.Bits)<;>rfl
theorem c_typed{f:TFunc}(hf:OkF f)(l:Int)(h0:0<=l)(h2:l<=2)(t:List Int)(u:List Ar):Hn f l t u=some (bif Sp f l then 0 else 6,f,l,t,u):=by
 have key:∀ k i:Nat,i+k=f.Blocks.length->Ah (El f.Blocks) ((i:Int),f.Params,f.Ret,f.Blocks,l,t,u)=some (bif (f.Blocks.drop i).all (Hz l) then .inl (f.Params,f.Ret,f.Blocks,l,t,u) else .inr (false,f,l,t,u)):=by
  intro k
  induction k with
  | zero=>
   intro i h
   obtain rfl:i=f.Blocks.length:=by omega
   rw[Ao (x:=.inl (f.Params,f.Ret,f.Blocks,l,t,u)) (by unfold El;simp)]
   simp
  | succ k ih=>
   intro i h
   have hi:i<f.Blocks.length:=by omega
   have hd:decide ((i:Int)<(f.Blocks.length:Int))=true:=by simpa using hi
   have hdr:f.Blocks.drop i=f.Blocks.getD i default::f.Blocks.drop (i+1):=by rw[Y3 hi,Ai _ _ _ hi]
   have hx:=c_blockTyped (f.Blocks.getD i default) hf (Aw hi) l h0 h2 t u;rw[hdr,Wp]
   cases ho:Hz l (f.Blocks.getD i default) with
   | true=>
    rw[ho]at hx
    rw[Ax (s':=(((i+1:Nat):Int),f.Params,f.Ret,f.Blocks,l,t,u)) (by
     unfold El;simp only[hd,Ag,Ab (Ap hi),Ew,hx,An,Dd,Aq,A9 hi (by have:=hf.blocks;omega)]
     rfl),ih (i+1) (by omega),Fc]
   | false=>
    rw[ho]at hx
    rw[Ao (x:=.inr (false,f,l,t,u)) (by
     unfold El
     simp only[hd,Ag,Ab (Ap hi),Ew,hx,An,Lh])]
    rfl
 have hall:Hm f.Blocks f l t u=some (f.Blocks.all (Hz l),f,l,t,u):=by
  unfold Hm;rw[show(0:Int)=((0:Nat):Int) from rfl,key f.Blocks.length 0 (by omega),Kv,An]
  cases f.Blocks.all (Hz l)<;>rfl
 unfold Hn Sp K3;rw[c_allInt _ (by have:=hf.few;omega),An,hall,Uq]
 cases f.Params.all widthB<;>cases widthB f.Ret<;>cases f.Blocks.all (Hz l)<;>rfl
def atD(d:Bz):Jf:=bif decide (d.Block<0) then⟨0,-1⟩ else⟨d.Block,d.At⟩
def valD(d:Bz):Aj:=⟨d.Shape,atD d⟩
def dv(l:List Bz):List (Int×Aj):=l.map fun d=>(d.V,valD d)
def badD(acc:List (Int×Aj))(v:Int):Bool:=(Gi acc v || decide (v<1)) || decide (1023<v)
def J3:List (Int×Aj)->List Bz->Bool×List (Int×Aj)
 | acc,[]=>(true,acc)
 | acc,d::ds=>bif badD acc d.V then(false,acc) else J3 (Mu acc d.V (valD d)) ds
theorem defGo_app:∀(a b:List Bz) (acc:List (Int×Aj)),J3 acc (a++b)=bif (J3 acc a).1 then J3 (J3 acc a).2 b else J3 acc a
 | [],b,acc=>rfl
 | d::a,b,acc=>by
  rw[zzL92];simp only[J3]
  cases badD acc d.V with
  | true=>rfl
  | false=>simp only[Aq];exact defGo_app a b _
theorem mhas_any{V:Type}(k:Int):∀ l:List (Int×V),Gi l k=l.any fun q=>k==q.1
 | []=>rfl
 | (a,b)::l=>by rw[List.any_cons,<- mhas_any k l];rfl
theorem msetC_new{V:Type}(k:Int)(v:V):∀{l:List (Int×V)},Gi l k=false->Mu l k v=l++[(k,v)]
 | [],_=>rfl
 | (a,b)::l,h=>by
  simp only[Gi,zzL120]at h;simp only[Mu,h.1,Aq,msetC_new k v h.2,zzL92]
theorem c_define(v:Int)(s:Int×Int)(p:Jf)(f:TFunc)(l:Int)(t:List Int)(vs:List (Int×Aj))(u:List Ar) :
  Fq v s p f l t vs u=some (bif badD vs v then(false,f,l,t,u,vs) else(true,f,l,t,u,Mu vs v ⟨s,p⟩)):=by
 unfold Fq badD
 cases Gi vs v<;>cases decide (v<1)<;>cases decide (1023<v)<;>rfl
def resD(f:TFunc)(l:Int)(t:List Int)(u:List Ar)(r:Bool×List (Int×Aj)):(List Int×Int×List Ad×Int×List Int×List Ar×List (Int×Aj)) ⊕ (Bool×TFunc×Int×List Int×List Ar×List (Int×Aj)):=
 bif r.1 then .inl (f.Params,f.Ret,f.Blocks,l,t,u,r.2) else .inr (false,f,l,t,u,r.2)
theorem c_phis(b:Ad)(h:b.Phis.length<9223372036854775808)(i:Nat)(f:TFunc)(l:Int)(t:List Int)(u:List Ar):∀(k j:Nat) (vs:List (Int×Aj)),j+k=b.Phis.length->
  Ah (Dg (i:Int) b) ((j:Int),f.Params,f.Ret,f.Blocks,l,t,u,vs)=some (resD f l t u (J3 vs ((List.range' j k).flatMap fun(k:Nat)=>[(⟨(b.Phis.getD k default).Dst,i,-1,((b.Phis.getD k default).Bits,1)⟩:Bz)]))):=by
 intro k
 induction k with
 | zero=>
  intro j vs hj
  obtain rfl:j=b.Phis.length:=by omega
  rw[Ao (x:=.inl (f.Params,f.Ret,f.Blocks,l,t,u,vs)) (by unfold Dg;simp)]
  rfl
 | succ k ih=>
  intro j vs hj
  have hi:j<b.Phis.length:=by omega
  have hd:decide ((j:Int)<(b.Phis.length:Int))=true:=by simpa using hi
  have hx:=c_define (b.Phis.getD j default).Dst ((b.Phis.getD j default).Bits,1) (⟨(i:Int),-1⟩:Jf) f l t vs u
  have hat:atD (⟨(b.Phis.getD j default).Dst,i,-1,((b.Phis.getD j default).Bits,1)⟩:Bz)=⟨(i:Int),-1⟩:=by unfold atD;rw[Cj (by show ¬ (i:Int)<0;omega)];rfl
  rw[Y4,zzL96,List.singleton_append];simp only[J3]
  cases hb:badD vs (b.Phis.getD j default).Dst with
  | true=>
   rw[hb]at hx
   rw[Ao (x:=.inr (false,f,l,t,u,vs)) (by
    unfold Dg Ej;simp only[hd,Ag,Ab (Ap hi),Ew,An];rw[show(⟨f.Params,f.Ret,f.Blocks⟩:TFunc)=f from rfl,hx]
    rfl)]
   rfl
  | false=>
   rw[hb]at hx
   rw[Ax (s':=(((j+1:Nat):Int),f.Params,f.Ret,f.Blocks,l,t,u,Mu vs (b.Phis.getD j default).Dst ⟨((b.Phis.getD j default).Bits,1),⟨(i:Int),-1⟩⟩)) (by
    unfold Dg Ej;simp only[hd,Ag,Ab (Ap hi),Ew,An];rw[show(⟨f.Params,f.Ret,f.Blocks⟩:TFunc)=f from rfl,hx,A9 hi h]
    rfl),ih (j+1) _ (by omega)]
   unfold valD;rw[hat]
   rfl
theorem c_ops{f0:TFunc}(hf:OkF f0){b:Ad}(hb:b∈f0.Blocks)(i:Nat)(f:TFunc)(l:Int)(t:List Int)(u:List Ar):∀(k j:Nat) (vs:List (Int×Aj)),j+k=b.Ops.length->
  Ah (Cg (i:Int) b) ((j:Int),f.Params,f.Ret,f.Blocks,l,t,u,vs)=some (resD f l t u (J3 vs ((List.range' j k).flatMap fun(k:Nat)=>bif decide (0<(K0 (b.Ops.getD k default)).1) then[(⟨(b.Ops.getD k default).Dst,i,k,K0 (b.Ops.getD k default)⟩:Bz)] else[]))):=by
 have hB:=hf.block b hb;intro k
 induction k with
 | zero=>
  intro j vs hj
  obtain rfl:j=b.Ops.length:=by omega
  rw[Ao (x:=.inl (f.Params,f.Ret,f.Blocks,l,t,u,vs)) (by unfold Cg;simp)]
  rfl
 | succ k ih=>
  intro j vs hj
  have hi:j<b.Ops.length:=by omega
  have hd:decide ((j:Int)<(b.Ops.length:Int))=true:=by simpa using hi
  have hg:Na (b.Ops.getD j default)=some (K0 (b.Ops.getD j default)):=kind_Gives _ (opOk hf hb (Aw hi));have hx:=c_define (b.Ops.getD j default).Dst (K0 (b.Ops.getD j default)) (⟨(i:Int),(j:Int)⟩:Jf) f l t vs u
  have hat:atD (⟨(b.Ops.getD j default).Dst,i,j,K0 (b.Ops.getD j default)⟩:Bz)=⟨(i:Int),(j:Int)⟩:=by unfold atD;rw[Cj (by show ¬ (i:Int)<0;omega)];rfl
  rw[Y4,zzL96]
  cases hp:decide (0<(K0 (b.Ops.getD j default)).1) with
  | false=>
   rw[Aq,Su,<- ih (j+1) vs (by omega),Ax (s':=(((j+1:Nat):Int),f.Params,f.Ret,f.Blocks,l,t,u,vs)) (by
    unfold Cg;simp only[hd,Ag,Ab (Ap hi),Ew,hg,An,hp];rw[A9 hi (by have:=hB.ops;omega)]
    rfl)]
  | true=>
   rw[Ag,List.singleton_append];simp only[J3]
   cases hb:badD vs (b.Ops.getD j default).Dst with
   | true=>
    rw[hb]at hx
    rw[Ao (x:=.inr (false,f,l,t,u,vs)) (by
     unfold Cg;simp only[hd,Ag,Ab (Ap hi),Ew,hg,An,hp];rw[show(true==true)=true from rfl,Ag,show(⟨f.Params,f.Ret,f.Blocks⟩:TFunc)=f from rfl,hx]
     rfl)]
    rfl
   | false=>
    rw[hb]at hx
    rw[Ax (s':=(((j+1:Nat):Int),f.Params,f.Ret,f.Blocks,l,t,u,Mu vs (b.Ops.getD j default).Dst ⟨K0 (b.Ops.getD j default),⟨(i:Int),(j:Int)⟩⟩)) (by
     unfold Cg;simp only[hd,Ag,Ab (Ap hi),Ew,hg,An,hp];rw[show(true==true)=true from rfl,Ag,show(⟨f.Params,f.Ret,f.Blocks⟩:TFunc)=f from rfl,hx,A9 hi (by have:=hB.ops;omega)]
     rfl),ih (j+1) _ (by omega)]
    unfold valD;rw[hat]
    rfl
theorem c_defineAll{f:TFunc}(hf:OkF f){b:Ad}(hb:b∈f.Blocks)(i:Nat)(l:Int)(t:List Int)(u:List Ar)(vs:List (Int×Aj)) :
  Fz (i:Int) b f l t vs u=some ((J3 vs (N0 b i)).1,f,l,t,u,(J3 vs (N0 b i)).2):=by
 unfold Fz N0;rw[show(0:Int)=((0:Nat):Int) from rfl,c_phis b (by have:=(hf.block b hb).phis;omega) i f l t u b.Phis.length 0 vs (by omega),An,defGo_app];rw[show(List.range' 0 b.Phis.length).flatMap (fun(k:Nat)=>[(⟨(b.Phis.getD k default).Dst,i,-1,((b.Phis.getD k default).Bits,1)⟩:Bz)])=Qf b i by rw[Qf,Px]];unfold resD
 cases h1:(J3 vs (Qf b i)).1 with
 | false=>simp only[Aq];rw[h1]
 | true=>
  simp only[Ag];rw[c_ops hf hb i f l t u b.Ops.length 0 _ (by omega),An];rw[show(List.range' 0 b.Ops.length).flatMap (fun(k:Nat)=>bif decide (0<(K0 (b.Ops.getD k default)).1) then[(⟨(b.Ops.getD k default).Dst,i,k,K0 (b.Ops.getD k default)⟩:Bz)] else[])=Xs b i by rw[Xs,Px]];unfold resD;cases h2:(J3 (J3 vs (Qf b i)).2 (Xs b i)).1<;>rfl
theorem okDef_iff{l:List Bz}{i:Nat}(hi:i<l.length):Pe l i=true↔valS (l.getD i default).V=true/\∀ j,j<i->(l.getD j default).V≠(l.getD i default).V:=by
 unfold Pe;rw[A7];refine and_congr Iff.rfl ?_;unfold Kz
 cases hx:l.findIdx? (fun d=>d.V==(l.getD i default).V) with
 | none=>
  rw[List.findIdx?_eq_none_iff]at hx;have:=hx _ (Aw (d:=default) hi);simp at this
 | some j=>
  obtain⟨hj,h1,h2⟩:=List.findIdx?_eq_some_iff_getElem.1 hx;simp only[zzL53,Int.natCast_inj]
  constructor
  ·rintro rfl k hk he;have:=h2 k hk;rw[Ai _ _ _ (by omega:k<l.length)]at he;simp at this;exact this he
  ·intro h
   have hv:(l.getD j default).V=(l.getD i default).V:=by rw[Ai _ _ _ hj];simpa using h1
   rcases Nat.lt_trichotomy j i with hlt|rfl|hgt
   ·exact absurd hv (h j hlt)
   ·rfl
   ·have:=h2 i hgt;rw[<- Ai l i default hi]at this;simp at this
theorem mhas_dv(l:List Bz)(v:Int):Gi (dv l) v=l.any fun d=>v==d.V:=by
 rw[mhas_any,dv,List.any_map];rfl
theorem defGo_spec:∀(ds pre:List Bz),(J3 (dv pre) ds).1=(List.range' pre.length ds.length).all (Pe (pre++ds))/\((J3 (dv pre) ds).1=true->(J3 (dv pre) ds).2=dv (pre++ds))
 | [],pre=>by simp[J3]
 | d::ds,pre=>by
  have hi:pre.length<(pre++d::ds).length:=by simp
  have hg:(pre++d::ds).getD pre.length default=d:=by simp[List.getD]
  have hj:∀ j,j<pre.length->(pre++d::ds).getD j default=pre.getD j default:=fun j h=>by simp[List.getD,Qy h]
  have hok:Pe (pre++d::ds) pre.length = !badD (dv pre) d.V:=by
   rw[Me,okDef_iff hi,hg];unfold badD valS;rw[mhas_dv];simp only[Nr,zzL120,zzL71,List.any_eq_false,zzL53,A7,F9]
   constructor
   ·rintro⟨⟨h1,h2⟩,h3⟩;refine⟨⟨fun x hx he=>?_,by omega⟩,by omega⟩;obtain⟨j,hjl,rfl⟩:=Py hx;have:=h3 j hjl;rw[hj j hjl,Ai _ _ _ hjl]at this;exact this he.symm
   ·rintro⟨⟨h1,h2⟩,h3⟩;refine⟨⟨by omega,by omega⟩,fun j hjl he=>?_⟩;rw[hj j hjl,Ai _ _ _ hjl]at he;exact h1 _ (zzL84 hjl) he.symm
  rw[Wo,Y4,Wp,hok];simp only[J3]
  cases hb:badD (dv pre) d.V with
  | true=>exact⟨rfl,fun h=>by cases h⟩
  | false=>
   have hn:Gi (dv pre) d.V=false:=by
    unfold badD at hb;simp only[zzL120]at hb;exact hb.1.1
   have hs:Mu (dv pre) d.V (valD d)=dv (pre++[d]):=by rw[msetC_new _ _ hn,dv,dv,Y0];rfl
   have:=defGo_spec ds (pre++[d]);rw[Fp,zzL93,List.singleton_append]at this;rw[Aq,hs,Lh,Fc];exact this
def pv(f:TFunc)(n:Nat):List (Int×Aj):=(List.range n).map fun(j:Nat)=>((j:Int)+1,⟨(f.Params.getD j 0,1),⟨0,-1⟩⟩)
theorem pv_dv(f:TFunc):pv f f.Params.length=dv (Oo f):=by
 unfold pv dv Oo;rw[List.map_flatMap]
 induction List.range f.Params.length with
 | nil=>rfl
 | cons a l ih=>rw[C7,zzL96,ih];rfl
theorem c_params{f:TFunc}(hf:OkF f):∀(k i:Nat),i+k=f.Params.length->Ah (Fg f) ((i:Int),pv f i)=some (pv f f.Params.length):=by
 intro k
 induction k with
 | zero=>
  intro i h
  obtain rfl:i=f.Params.length:=by omega
  exact Ao (by unfold Fg;simp)
 | succ k ih=>
  intro i h
  have hi:i<f.Params.length:=by omega
  have hd:decide ((i:Int)<(f.Params.length:Int))=true:=by simpa using hi
  have hn:Gi (pv f i) ((i:Int)+1)=false:=by
   rw[mhas_any,pv,List.any_map,List.any_eq_false];intro j hj;have:=zzL54.1 hj
   simp;omega
  have hs:Mu (pv f i) ((i:Int)+1) ⟨(f.Params.getD i 0,1),⟨0,-1⟩⟩=pv f (i+1):=by
   rw[msetC_new _ _ hn,pv,pv,Y8,Y0];rfl
  rw[Ax (s':=(((i+1:Nat):Int),pv f (i+1))) (by
   unfold Fg Ej;simp only[hd,Ag,Ab (Ap hi),Ew,An,A9 hi (by have:=hf.few;omega),hs]
   rfl)]
  exact ih (i+1) (by omega)
theorem c_blocks{f:TFunc}(hf:OkF f)(l:Int)(t:List Int)(u:List Ar):∀(k i:Nat) (vs:List (Int×Aj)),i+k=f.Blocks.length->
  Ah (Dz f) ((i:Int),vs,f.Params,f.Ret,f.Blocks,l,t,u)=some (bif (J3 vs ((List.range' i k).flatMap fun i=>N0 (f.Blocks.getD i default) i)).1 then .inl ((J3 vs ((List.range' i k).flatMap fun i=>N0 (f.Blocks.getD i default) i)).2,f.Params,f.Ret,f.Blocks,l,t,u) else
   .inr (7,f,l,t,u,(J3 vs ((List.range' i k).flatMap fun i=>N0 (f.Blocks.getD i default) i)).2)):=by
 intro k
 induction k with
 | zero=>
  intro i vs h
  obtain rfl:i=f.Blocks.length:=by omega
  rw[Ao (x:=.inl (vs,f.Params,f.Ret,f.Blocks,l,t,u)) (by unfold Dz;simp)]
  rfl
 | succ k ih=>
  intro i vs h
  have hi:i<f.Blocks.length:=by omega
  have hd:decide ((i:Int)<(f.Blocks.length:Int))=true:=by simpa using hi
  have hx:=c_defineAll hf (Aw (d:=default) hi) i l t u vs;rw[Y4,zzL96,defGo_app]
  cases hb:(J3 vs (N0 (f.Blocks.getD i default) i)).1 with
  | false=>
   rw[hb]at hx
   rw[Ao (x:=.inr (7,f,l,t,u,(J3 vs (N0 (f.Blocks.getD i default) i)).2)) (by
    unfold Dz;simp only[hd,Ag,Ab (Ap hi),Ew];rw[show(⟨f.Params,f.Ret,f.Blocks⟩:TFunc)=f from rfl,hx]
    rfl),Aq,hb]
   rfl
  | true=>
   rw[hb]at hx
   rw[Ax (s':=(((i+1:Nat):Int),(J3 vs (N0 (f.Blocks.getD i default) i)).2,f.Params,f.Ret,f.Blocks,l,t,u)) (by
    unfold Dz;simp only[hd,Ag,Ab (Ap hi),Ew];rw[show(⟨f.Params,f.Ret,f.Blocks⟩:TFunc)=f from rfl,hx,A9 hi (by have:=hf.blocks;omega)]
    rfl),ih (i+1) _ (by omega),Ag]
theorem okP{f:TFunc}(hf:OkF f):∀ i,i<f.Params.length->Pe (A3 f) i=true:=fun i hi=>by
 have hl:=Zk f
 have hg:∀ j,j<f.Params.length->(A3 f).getD j default=⟨(j:Int)+1,-1,0,(f.Params.getD j 0,1)⟩:=fun j hj=>by
  have e:Oo f=(List.range f.Params.length).map fun(i:Nat)=>(⟨(i:Int)+1,-1,0,(f.Params.getD i 0,1)⟩:Bz):=by
   unfold Oo
   induction List.range f.Params.length with
   | nil=>rfl
   | cons a l ih=>rw[C7,zzL96,ih];rfl
  rw[A3,List.getD,Qy (by omega),e];simp[hj]
 have hle:i<(A3 f).length:=by rw[A3,Fp];omega
 rw[okDef_iff hle,hg i hi];refine⟨?_,fun j hj=>?_⟩
 ·have:=hf.few;simp only[valS,A7,F9];omega
 ·rw[hg j (by omega)];simp only;omega
theorem c_defined{f:TFunc}(hf:OkF f)(l:Int)(t:List Int)(u:List Ar):∃ vs,Gq f l t u=some (bif (List.range (A3 f).length).all (Pe (A3 f)) then 0 else 7,f,l,t,u,vs)/\((List.range (A3 f).length).all (Pe (A3 f))=true->vs=dv (A3 f)):=by
 have hsp:=defGo_spec ((List.range f.Blocks.length).flatMap fun i=>N0 (f.Blocks.getD i default) i) (Oo f)
 have hall:(List.range (A3 f).length).all (Pe (A3 f))=(J3 (dv (Oo f)) ((List.range f.Blocks.length).flatMap fun i=>N0 (f.Blocks.getD i default) i)).1:=by
  rw[hsp.1]
  show(List.range (A3 f).length).all (Pe (A3 f))=(List.range' (Oo f).length _).all (Pe (A3 f))
  have hs:List.range (A3 f).length=List.range (Oo f).length++List.range' (Oo f).length ((List.range f.Blocks.length).flatMap fun i=>N0 (f.Blocks.getD i default) i).length:=by
   rw[Px,Px,A3,Fp];have:=List.range'_append_1 (s:=0) (m:=(Oo f).length) (n:=((List.range f.Blocks.length).flatMap fun i=>N0 (f.Blocks.getD i default) i).length);rw[Hy]at this;exact this.symm
  rw[hs,List.all_append];have:(List.range (Oo f).length).all (Pe (A3 f))=true:=zzL29.2 fun i hi=>okP hf i (by rw[<- Zk f];exact zzL54.1 hi);rw[this,Fc]
 unfold Gq;have hp:=c_params hf f.Params.length 0 (by omega);have e0:pv f 0=[]:=rfl;rw[e0,show(((0:Nat):Int))=0 from rfl]at hp;rw[hp,An,pv_dv];have hb:=c_blocks hf l t u f.Blocks.length 0 (dv (Oo f)) (by omega);rw[show(((0:Nat):Int))=0 from rfl,<- Px]at hb;rw[hb,An,hall];refine⟨(J3 (dv (Oo f)) ((List.range f.Blocks.length).flatMap fun i=>N0 (f.Blocks.getD i default) i)).2,?_,hsp.2⟩
 cases(J3 (dv (Oo f)) ((List.range f.Blocks.length).flatMap fun i=>N0 (f.Blocks.getD i default) i)).1<;>rfl
theorem Zr{β S X:Type}(B:Nat)(mk:Int->List β->S)(out:List β->X)(n:Nat)(E:Nat->List β)(f:S->Option (LR S X))(hn:∀(acc:List β) (i:Nat),i<n->(acc++E i).length<=B->f (mk i acc)=some (.next (mk ((i:Int)+1) (acc++E i))))
  (hd:∀ acc:List β,f (mk n acc)=some (.done (out acc))):∀(k i:Nat) (acc:List β),i+k=n->(acc++(List.range' i k).flatMap E).length<=B->Ah f (mk i acc)=some (out (acc++(List.range' i k).flatMap E))
 | 0,i,acc,h,_=>by
  obtain rfl:i=n:=by omega
  rw[Ao (hd acc)]
  simp
 | k+1,i,acc,h,hB=>by
  have hi:i<n:=by omega
  rw[Y4,zzL96,<- zzL93]at hB ⊢;rw[Ax (hn acc i hi (by rw[Fp]at hB;omega)),show((i:Int)+1)=((i+1:Nat):Int) by omega,Zr B mk out n E f hn hd k (i+1) _ (by omega) hB]
theorem map_sing{β γ:Type}(h:β->γ)(n:Nat)(g:Nat->β):(List.range' 0 n).flatMap (fun j=>[h (g j)])=((List.range n).flatMap fun j=>[g j]).map h:=by
 rw[List.map_flatMap,Px];rfl
theorem map_flat{β γ:Type}(h:β->γ)(n:Nat)(g:Nat->List β):(List.range' 0 n).flatMap (fun j=>(g j).map h)=((List.range n).flatMap g).map h:=by
 rw[List.map_flatMap,Px]
def Ph(f:TFunc)(b:Int):Int:=((f.Blocks.getD b.toNat default).Ops.length:Int)
def Gk(f:TFunc)(u:Cp):Ar:=⟨u.V,u.Shape,⟨u.Block,bif u.At==1000 then Ph f u.Block else u.At⟩⟩
theorem c_use(f:TFunc)(l:Int)(t:List Int)(vs:List (Int×Aj))(v:Int)(s:Int×Int)(p:Jf)(u:List Ar)(h:(u++[(⟨v,s,p⟩:Ar)]).length<=10000000):Ex v s p f l t vs u=some (f,l,t,u++[⟨v,s,p⟩]):=by
 unfold Ex;rw[Ae (by rw[Fp]at h;rw[room_is];omega)]
theorem c_end(f:TFunc)(l:Int)(t:List Int)(vs:List (Int×Aj))(b:Int)(hb:A2 b f.Blocks.length)(u:List Ar):F1 b f l t vs u=some (⟨b,Ph f b⟩,f,l,t,u):=by
 unfold F1;rw[Ae hb];rfl
section
variable {f:TFunc} (hf:OkF f) (l:Int) (t:List Int) (vs:List (Int×Aj))
include hf
theorem c_phi1(i k:Nat)(hi:i<f.Blocks.length)(hk:k<(f.Blocks.getD i default).Phis.length)(hfit:((f.Blocks.getD i default).Phis.getD k default).Args.length<=((f.Blocks.getD i default).Phis.getD k default).From.length)
  (hin:∀ x∈((f.Blocks.getD i default).Phis.getD k default).From,A2 x f.Blocks.length) (u:List Ar) (hB:(u++(M4 ((f.Blocks.getD i default).Phis.getD k default)).map (Gk f)).length<=10000000) :
  Ah (Du f vs (i:Int) (k:Int)) ((0:Int),f.Params,f.Ret,f.Blocks,l,t,u)=some (f.Params,f.Ret,f.Blocks,l,t,u++(M4 ((f.Blocks.getD i default).Phis.getD k default)).map (Gk f)):=by
 have hlen:=ok_phi hf (Aw (d:=(default:Ad)) hi) (Aw (d:=(default:H7)) hk)
 generalize hp:(f.Blocks.getD i default).Phis.getD k default=p at *
 have e:=map_sing (Gk f) p.Args.length fun(j:Nat)=>(⟨p.Args.getD j 0,p.From.getD j 0,1000,(p.Bits,1)⟩:Cp)
 have:=Zr 10000000 (fun j u=>(j,f.Params,f.Ret,f.Blocks,l,t,u)) (fun u=>(f.Params,f.Ret,f.Blocks,l,t,u)) p.Args.length (fun(j:Nat)=>[Gk f ⟨p.Args.getD j 0,p.From.getD j 0,1000,(p.Bits,1)⟩]) (Du f vs (i:Int) (k:Int)) (fun acc j hj hacc=>by
  unfold Du Ej
  have hd:decide ((j:Int)<(p.Args.length:Int))=true:=by simpa using hj
  have hjf:j<p.From.length:=by omega
  simp only[Ew,hp,hd,Ag,Ab (Ap hj),An,Ab (Ap hjf)];rw[show(⟨f.Params,f.Ret,f.Blocks⟩:TFunc)=f from rfl,c_end f l t vs _ (hin _ (Aw hjf)),An];simp only;have eu:Gk f ⟨p.Args.getD j 0,p.From.getD j 0,1000,(p.Bits,1)⟩=⟨p.Args.getD j 0,(p.Bits,1),⟨p.From.getD j 0,Ph f (p.From.getD j 0)⟩⟩:=rfl;rw[eu]at hacc ⊢
  rw[c_use f l t vs _ _ _ acc hacc,An,A9 hj (by omega)]) (fun acc=>by unfold Du;simp only[Ew,hp,show decide ((p.Args.length:Int)<(p.Args.length:Int))=false by simp,Aq]) p.Args.length 0 u (by omega) (by rw[e];exact hB)
 rw[e]at this;exact this
theorem c_phis'(i:Nat)(hi:i<f.Blocks.length)(hfit:∀ p∈(f.Blocks.getD i default).Phis,p.Args.length<=p.From.length/\∀ x∈p.From,A2 x f.Blocks.length)(u:List Ar)(hB:(u++(Nk (f.Blocks.getD i default)).map (Gk f)).length<=10000000) :
  Ah (Dv f vs (i:Int)) ((0:Int),f.Params,f.Ret,f.Blocks,l,t,u)=some (f.Params,f.Ret,f.Blocks,l,t,u++(Nk (f.Blocks.getD i default)).map (Gk f)):=by
 have hBk:=hf.block _ (Aw (d:=(default:Ad)) hi);have e:=map_flat (Gk f) (f.Blocks.getD i default).Phis.length fun(k:Nat)=>M4 ((f.Blocks.getD i default).Phis.getD k default)
 have:=Zr 10000000 (fun j u=>(j,f.Params,f.Ret,f.Blocks,l,t,u)) (fun u=>(f.Params,f.Ret,f.Blocks,l,t,u)) (f.Blocks.getD i default).Phis.length (fun(k:Nat)=>(M4 ((f.Blocks.getD i default).Phis.getD k default)).map (Gk f)) (Dv f vs (i:Int)) (fun acc k hk hacc=>by
  have hq:=hfit _ (Aw (d:=(default:H7)) hk);have h1:=c_phi1 hf l t vs i k hi hk hq.1 hq.2 acc hacc;unfold Dv
  have hd:decide ((k:Int)<((f.Blocks.getD i default).Phis.length:Int))=true:=by simpa using hk
  simp only[Ew,hd,Ag,Ab (Ap hk),h1,An,A9 hk (by have:=hBk.phis;omega)]) (fun acc=>by unfold Dv;simp) (f.Blocks.getD i default).Phis.length 0 u (by omega) (by rw[e];exact hB)
 rw[e]at this;exact this
theorem c_op1(i k:Nat)(hi:i<f.Blocks.length)(hk:k<(f.Blocks.getD i default).Ops.length)(u:List Ar)(hB:(u++(Pm ((f.Blocks.getD i default).Ops.getD k default) i k).map (Gk f)).length<=10000000) :
  Ah (Dw f vs (i:Int) (k:Int) (Is ((f.Blocks.getD i default).Ops.getD k default))) ((0:Int),f.Params,f.Ret,f.Blocks,l,t,u)=some (f.Params,f.Ret,f.Blocks,l,t,u++(Pm ((f.Blocks.getD i default).Ops.getD k default) i k).map (Gk f)):=by
 have hBk:=hf.block _ (Aw (d:=(default:Ad)) hi);have hlen:=Vz (ok_op hf (Aw (d:=(default:Ad)) hi) (Aw (d:=(default:C1)) hk));have hk512:=hBk.ops
 generalize hp:(f.Blocks.getD i default).Ops.getD k default=o at *
 have e:=map_sing (Gk f) (Is o).length fun(j:Nat)=>(⟨o.Args.getD j 0,i,k,(Is o).getD j (0,0)⟩:Cp)
 have:=Zr 10000000 (fun j u=>(j,f.Params,f.Ret,f.Blocks,l,t,u)) (fun u=>(f.Params,f.Ret,f.Blocks,l,t,u)) (Is o).length (fun(j:Nat)=>[Gk f ⟨o.Args.getD j 0,i,k,(Is o).getD j (0,0)⟩]) (Dw f vs (i:Int) (k:Int) (Is o)) (fun acc j hj hacc=>by
  have hkk:((k:Int)==1000)=false:=by simp;omega
  have eu:Gk f ⟨o.Args.getD j 0,i,k,(Is o).getD j (0,0)⟩=⟨o.Args.getD j 0,(Is o).getD j (0,0),⟨(i:Int),(k:Int)⟩⟩:=by unfold Gk;simp only[hkk,Aq]
  rw[eu]at hacc ⊢;unfold Dw
  have hd:decide ((j:Int)<((Is o).length:Int))=true:=by simpa using hj
  have hja:j<o.Args.length:=by omega
  simp only[Ew,hp,hd,Ag,Ab (Ap hj),Ab (Ap hja)]
  rw[show(⟨f.Params,f.Ret,f.Blocks⟩:TFunc)=f from rfl,c_use f l t vs _ _ _ acc hacc,An,A9 hj (by omega)]) (fun acc=>by unfold Dw;simp) (Is o).length 0 u (by omega) (by rw[e];exact hB)
 rw[e]at this;exact this
theorem c_ops'(i:Nat)(hi:i<f.Blocks.length)(u:List Ar)(hB:(u++(Sq (f.Blocks.getD i default) i).map (Gk f)).length<=10000000) :
  Ah (Dx f vs (i:Int)) ((0:Int),f.Params,f.Ret,f.Blocks,l,t,u)=some (f.Params,f.Ret,f.Blocks,l,t,u++(Sq (f.Blocks.getD i default) i).map (Gk f)):=by
 have hmem:=Aw (d:=(default:Ad)) hi;have hBk:=hf.block _ hmem;have e:=map_flat (Gk f) (f.Blocks.getD i default).Ops.length fun(k:Nat)=>Pm ((f.Blocks.getD i default).Ops.getD k default) i k
 have:=Zr 10000000 (fun j u=>(j,f.Params,f.Ret,f.Blocks,l,t,u)) (fun u=>(f.Params,f.Ret,f.Blocks,l,t,u)) (f.Blocks.getD i default).Ops.length (fun(k:Nat)=>(Pm ((f.Blocks.getD i default).Ops.getD k default) i k).map (Gk f)) (Dx f vs (i:Int)) (fun acc k hk hacc=>by
  have h1:=c_op1 hf l t vs i k hi hk acc hacc;have ht:Nb ((f.Blocks.getD i default).Ops.getD k default)=some (Is ((f.Blocks.getD i default).Ops.getD k default)):=kind_Takes _ (opOk hf hmem (Aw hk));unfold Dx
  have hd:decide ((k:Int)<((f.Blocks.getD i default).Ops.length:Int))=true:=by simpa using hk
  simp only[Ew,hd,Ag,Ab (Ap hk),ht,h1,An,A9 hk (by have:=hBk.ops;omega)]) (fun acc=>by unfold Dx;simp) (f.Blocks.getD i default).Ops.length 0 u (by omega) (by rw[e];exact hB)
 rw[e]at this;exact this
theorem c_collect (hfit : ∀ b ∈ f.Blocks, ∀ p ∈ b.Phis, p.Args.length ≤ p.From.length ∧ ∀ x ∈ p.From, A2 x f.Blocks.length) : Gp f l t vs [] = some (f, l, t, (B7 f).map (Gk f)) := by
  have e := map_flat (Gk f) f.Blocks.length fun (i : Nat) => usesB f (f.Blocks.getD i default) i; have hul := usesF_len hf
  have := Zr 10000000 (fun j u => (j, f.Params, f.Ret, f.Blocks, l, t, u)) (fun u => (f.Params, f.Ret, f.Blocks, l, t, u)) f.Blocks.length (fun (i : Nat) => (usesB f (f.Blocks.getD i default) i).map (Gk f)) (Dy f vs) (fun acc i hi hacc => by
    have hmem := Aw (d := (default : Ad)) hi; unfold usesB at hacc ⊢; rw [Y0, Y0, ← zzL93, ← zzL93] at hacc ⊢; have l1 := hacc; simp only [Fp, Y6] at l1; have h1 := c_phis' hf l t vs i hi (hfit _ hmem) acc (by simp only [Fp, Y6]; omega); have h2 := c_ops' hf l t vs i hi (acc ++ (Nk (f.Blocks.getD i default)).map (Gk f)) (by simp only [Fp, Y6]; omega); have hinb : A2 (i : Int) f.Blocks.length := Ap hi; unfold Dy Ej
    have hd : decide ((i : Int) < (f.Blocks.length : Int)) = true := by simpa using hi
    simp only [hd, Ag, Ab (Ap hi), h1, An, h2, Ew]; have hF : (⟨f.Params, f.Ret, f.Blocks⟩ : TFunc) = f := rfl; have hw : w64 ((i : Int) + 1) = (i : Int) + 1 := A9 hi (by have := hf.blocks; omega); unfold Z0 at hacc ⊢
    cases hz : ((f.Blocks.getD i default).End.Kind == 0) with
    | true =>
      have hz2 : ((f.Blocks.getD i default).End.Kind == 2) = false := by have : (f.Blocks.getD i default).End.Kind = 0 := by simpa using hz
                                                                         rw [this]; rfl
      rw [hz, hz2] at hacc; simp only [Ag, Aq, hz2, List.append_nil, C7, D7] at hacc ⊢; rw [hF, c_end f l t vs _ hinb, An]; simp only; rw [c_use f l t vs _ _ _ _ (show (_ ++ [(⟨_, _, ⟨(i : Int), Ph f (i : Int)⟩⟩ : Ar)]).length ≤ 10000000 from hacc), An, An, hw]
      rfl
    | false =>
      rw [hz] at hacc
      cases hz2 : ((f.Blocks.getD i default).End.Kind == 2) with
      | true =>
        rw [hz2] at hacc; simp only [Ag, Aq, Su, C7, D7] at hacc ⊢; rw [hF, c_end f l t vs _ hinb, An]; simp only; rw [c_use f l t vs _ _ _ _ (show (_ ++ [(⟨_, _, ⟨(i : Int), Ph f (i : Int)⟩⟩ : Ar)]).length ≤ 10000000 from hacc), An, An, hw]
        rfl
      | false =>
        simp only [Aq, Su, D7, List.append_nil, An, hw]) (fun acc => by unfold Dy; simp) f.Blocks.length 0 [] (by omega) (by rw [e]; simpa [B7] using (by omega : (B7 f).length ≤ 10000000))
  rw [e, Su] at this; unfold Gp; rw [show (0 : Int) = ((0 : Nat) : Int) from rfl]
  show ((Ah (Dy f vs) (((0 : Nat) : Int), f.Params, f.Ret, f.Blocks, l, t, [])).bind _) = _
  rw [this, An]
  rfl
end
theorem allS{σ X:Type}(mk:Int->σ)(U:List Ar)(p:Ar->Bool)(f:σ->Option (LR σ X))(yes no:X)(hk:∀ i:Nat,i<U.length->f (mk i)=some (bif p (U.getD i default) then .next (mk ((i:Int)+1)) else .done no))(he:f (mk U.length)=some (.done yes)) :
  ∀ k i:Nat,i+k=U.length->Ah f (mk i)=some (bif (U.drop i).all p then yes else no)
 | 0,i,h=>by
  obtain rfl:i=U.length:=by omega
  rw[Ao he]
  simp
 | k+1,i,h=>by
  have hi:i<U.length:=by omega
  have hdr:U.drop i=U.getD i default::U.drop (i+1):=by rw[Y3 hi,Ai _ _ _ hi]
  have hx:=hk i hi;rw[hdr,Wp]
  cases hp:p (U.getD i default) with
  | true=>
   rw[hp]at hx;rw[Ax hx,show((i:Int)+1)=((i+1:Nat):Int) by omega,allS mk U p f yes no hk he k (i+1) (by omega),Fc]
  | false=>
   rw[hp]at hx;rw[Ao hx]
   rfl
theorem findD_cons(d:Bz)(l:List Bz)(v:Int):Kz (d::l) v=bif d.V==v then 0 else bif decide (Kz l v<0) then -1 else Kz l v+1:=by
 unfold Kz;rw[List.findIdx?_cons]
 cases d.V==v with
 | true=>rfl
 | false=>
  cases l.findIdx? (fun d=>d.V==v) with
  | none=>rfl
  | some i=>
   simp only[Aq,zzL97];rw[Cj (by omega)]
   simp
theorem mhas_found(v:Int):∀ l:List Bz,Gi (dv l) v = !decide (Kz l v<0)
 | []=>rfl
 | d::l=>by
  rw[findD_cons]
  show((v==d.V) || Gi (dv l) v)=_
  rw[mhas_found v l,show(v==d.V)=(d.V==v) by rw[Me];simp;exact Qb]
  cases d.V==v with
  | true=>rfl
  | false=>
   by_cases h:Kz l v<0
   ·simp[h]
   ·simp[h];omega
theorem mget_found(v:Int):∀ l:List Bz,¬ Kz l v<0->H4 (default:Aj) (dv l) v=valD (defOf l v)
 | [],h=>absurd (show(-1:Int)<0 by decide) h
 | d::l,h=>by
  unfold defOf;rw[findD_cons]at h ⊢
  show(bif v==d.V then valD d else H4 default (dv l) v)=_
  rw[show(v==d.V)=(d.V==v) by rw[Me];simp;exact Qb]
  cases hb:d.V==v with
  | true=>rfl
  | false=>
   rw[hb]at h
   by_cases hn:Kz l v<0
   ·simp[hn]at h
   ·have hz:decide (Kz l v<0)=false:=Cj hn;simp only[Aq,hz];rw[mget_found v l hn,show(Kz l v+1).toNat=(Kz l v).toNat+1 by omega]
    rfl
def DefIn(f:TFunc)(d:Bz):Prop:=d.Block = -1\/(A2 d.Block f.Blocks.length/\d.At<Ph f d.Block/\d.At<1000)
def UseIn(f:TFunc)(u:Cp):Prop:=A2 u.Block f.Blocks.length/\0<=u.At
theorem defs_in{f:TFunc}(hf:OkF f):∀ d∈A3 f,DefIn f d:=fun d hd=>by
 rcases zzL18.1 hd with h|h
 ·obtain⟨i,_,hi⟩:=zzL86.1 h;rw[zzL23.1 hi];exact .inl rfl
 ·obtain⟨i,hi,h⟩:=zzL86.1 h
  have hi:i<f.Blocks.length:=by simpa using hi
  have hB:=hf.block _ (Aw (d:=(default:Ad)) hi);have ho:Ph f (i:Int)=((f.Blocks.getD i default).Ops.length:Int):=rfl;rcases zzL18.1 h with h|h
  ·obtain⟨k,hk,h⟩:=zzL86.1 h;rw[zzL23.1 h];refine .inr ⟨Ap hi,?_,?_⟩
   ·show(-1:Int)<Ph f (i:Int);rw[ho];omega
   ·show(-1:Int)<1000;omega
  ·obtain⟨k,hk,h⟩:=zzL86.1 h
   have hk:k<(f.Blocks.getD i default).Ops.length:=by simpa using hk
   cases hg:decide (0<(K0 ((f.Blocks.getD i default).Ops.getD k default)).1) with
   | false=>rw[hg]at h;cases h
   | true=>
    rw[hg]at h;rw[zzL23.1 h];refine .inr ⟨Ap hi,?_,?_⟩
    ·show(k:Int)<Ph f (i:Int);rw[ho];omega
    ·show(k:Int)<1000;have:=hB.ops;omega
theorem uses_in{f:TFunc}(hfit:∀ b∈f.Blocks,∀ p∈b.Phis,p.Args.length<=p.From.length/\∀ x∈p.From,A2 x f.Blocks.length):∀ u∈B7 f,UseIn f u:=fun u hu=>by
 obtain⟨i,hi,h⟩:=zzL86.1 hu
 have hi:i<f.Blocks.length:=by simpa using hi
 have hmem:=Aw (d:=(default:Ad)) hi;rcases zzL18.1 h with h|h
 ·rcases zzL18.1 h with h|h
  ·obtain⟨k,hk,h⟩:=zzL86.1 h
   have hk:k<(f.Blocks.getD i default).Phis.length:=by simpa using hk
   obtain⟨j,hj,h⟩:=zzL86.1 h;have hj:=zzL54.1 hj;have hq:=hfit _ hmem _ (Aw (d:=(default:H7)) hk);rw[zzL23.1 h];exact⟨hq.2 _ (Aw (by omega)),by show(0:Int)<=1000;omega⟩
  ·obtain⟨k,hk,h⟩:=zzL86.1 h;obtain⟨j,hj,h⟩:=zzL86.1 h;rw[zzL23.1 h];exact⟨Ap hi,by show(0:Int)<=(k:Int);omega⟩
 ·unfold Z0 at h
  have:u=⟨(f.Blocks.getD i default).End.Arg,i,1000,(f.Ret,1)⟩\/u=⟨(f.Blocks.getD i default).End.Arg,i,1000,(1,1)⟩:=by
   rcases zzL18.1 h with h|h
   ·cases hz:((f.Blocks.getD i default).End.Kind==0) with
    | true=>rw[hz]at h;exact .inl (zzL23.1 h)
    | false=>rw[hz]at h;cases h
   ·cases hz:((f.Blocks.getD i default).End.Kind==2) with
    | true=>rw[hz]at h;exact .inr (zzL23.1 h)
    | false=>rw[hz]at h;cases h
  rcases this with rfl|rfl<;>exact⟨Ap hi,by show(0:Int)<=1000;omega⟩
theorem fit_of{f:TFunc}(h:Hi f=true):∀ b∈f.Blocks,∀ p∈b.Phis,p.Args.length<=p.From.length/\∀ x∈p.From,A2 x f.Blocks.length:=fun b hb p hp=>by
 have hs:Lx f=true:=by simp only[Hi,A7]at h;exact h.1
 refine⟨shape_fit h b hb p hp,fun x hx=>?_⟩;obtain⟨i,hi,rfl⟩:=Py hb;simp only[Hi,A7]at h;have h1:=allN h.2 i hi;simp only[Mm,A7,zzL29]at h1;rw[Ai _ _ _ hi]at h1;have h2:=h1.2 p hp;simp only[Hx,A7,F9]at h2;rw[h2.1]at hx;obtain⟨q,rfl,hq,_⟩:=(Yk (L:=Bf f) (Pi hs) (y:=i) (by rw[Sj];exact hi)).1 hx;exact Ap (by rw[Sj]at hq;exact hq)
theorem over_first{f:TFunc}(h:Hi f=true){b:Int}(hb:A2 b f.Blocks.length):Yg (Df f) 0 b=true:=by
 have hs:Lx f=true:=by simp only[Hi,A7]at h;exact h.1
 have hm:=Pi hs;have hlen:=Sj f
 have hpos:0<(Bf f).length:=by have:=(shape_iff.1 hs).1.1;omega
 obtain⟨P,hP,o,ht⟩:=treeD_dom hm hpos
 have e:Df f=Wl (Bf f) 0:=by
  unfold Df treeG;rw[if_pos ⟨mayG_gOf hm,Int.le_refl _,by show(0:Int)<((Bf f).length:Int);omega⟩]
  rfl
 obtain⟨k,rfl⟩:∃ k:Nat,b=(k:Int):=⟨b.toNat,(Pz hb.1).symm⟩
 have hk:k<f.Blocks.length:=by have:=hb.2;omega
 simp only[Hi,A7]at h;have h1:=allN h.2 k hk;simp only[Mm,A7]at h1;have hr:Rch (sN (Bf f)) 0 k:=(rds_spec (Wk hm) hpos k).1 h1.1.1;rw[e];refine(ht.over_dom o hpos (by omega)).2 ⟨rc_iff.2 hr,fun ha=>?_⟩;exact(av_iff.1 ha).1 rfl
theorem Xq{l:List Cp}{g:Cp->Ar}{p:Ar->Bool}{q:Cp->Bool}(h:∀ u∈l,p (g u)=q u):(l.map g).all p=l.all q:=by
 induction l with
 | nil=>rfl
 | cons a l ih=>rw[C7,Wp,Wp,h a (by simp),ih fun u hu=>h u (by simp[hu])]
def fitP(vs:List (Int×Aj))(u:Ar):Bool:=((H4 (default:Aj) vs u.v).shape.1==u.shape.1)&&(((H4 (default:Aj) vs u.v).shape.2==u.shape.2)&&true)
def aheadP(vs:List (Int×Aj))(t:List Int)(u:Ar):Bool:=bif (H4 (default:Aj) vs u.v).place.block==u.place.block then decide ((H4 (default:Aj) vs u.v).place.at_<u.place.at_) else Yg t (H4 (default:Aj) vs u.v).place.block u.place.block
theorem ahead_eq{f:TFunc}(hs:Hi f=true){D:List Bz}(hD:∀ d∈D,DefIn f d){u:Cp}(hu:UseIn f u)(hfd:Ls D u=true):aheadP (dv D) (Df f) (Gk f u)=Ug D (Df f) u:=by
 have hF:¬ Kz D u.V<0:=by simpa [Ls] using hfd
 have hin:=findD_in hF;have hd:DefIn f (defOf D u.V):=hD _ (by unfold defOf;exact Aw (by have:=hin.1;have:=hin.2;omega));have hg:H4 (default:Aj) (dv D) (Gk f u).v=valD (defOf D u.V):=mget_found u.V D hF;unfold aheadP Ug;rw[hg]
 generalize defOf D u.V=d at *
 have hub:=hu.1.1
 have hul:0<=Ph f u.Block:=by unfold Ph;omega
 have hat:∀ a:Int,a<0\/(a<Ph f u.Block/\a<1000)->decide (a<(Gk f u).place.at_)=decide (a<u.At)\/a<0:=fun a ha=>by
  rcases ha with ha|ha
  ·exact .inr ha
  ·refine .inl ?_
   show decide (a<bif u.At==1000 then Ph f u.Block else u.At)=_
   by_cases h:u.At=1000
   ·rw[h];simp only[show((1000:Int)==1000)=true from rfl,Ag];rw[Br ha.1,Br ha.2]
   ·have:(u.At==1000)=false:=by simpa using h
    rw[this];rfl
 have hpos:0<=(Gk f u).place.at_:=by
  show 0<=bif u.At==1000 then Ph f u.Block else u.At
  cases u.At==1000
  ·exact hu.2
  ·exact hul
 have hblk:(Gk f u).place.block=u.Block:=rfl;rw[hblk];rcases hd with hd|⟨hd1,hd2,hd3⟩
 ·have e:(valD d).place=⟨0,-1⟩:=by show atD d=_;unfold atD;rw[hd];rfl
  rw[e,hd,Br (show(-1:Int)<0 by decide)]
  show(bif (0:Int)==u.Block then decide ((-1:Int)<(Gk f u).place.at_) else Yg (Df f) 0 u.Block)=_
  rw[Bool.true_or,Bool.true_or,over_first hs hu.1,Br (show(-1:Int)<(Gk f u).place.at_ by omega)]
  cases(0:Int)==u.Block<;>rfl
 ·have hn:¬ d.Block<0:=by have:=hd1.1;omega
  have e:(valD d).place=⟨d.Block,d.At⟩:=by show atD d=_;unfold atD;rw[Cj hn];rfl
  rw[e,Cj hn,zzL132]
  show(bif d.Block==u.Block then decide (d.At<(Gk f u).place.at_) else Yg (Df f) d.Block u.Block)=_
  cases hb:d.Block==u.Block with
  | true=>
   have hbe:d.Block=u.Block:=by simpa using hb
   simp only[Ag,Fc,Dd,Y9,Bool.or_false];rcases hat d.At (.inr ⟨by rw[<- hbe];exact hd2,hd3⟩) with h|h
   ·exact h
   ·rw[Br (by omega),Br (by have:=hu.2;omega)]
  | false=>
   simp only[Aq,Y9,zzL132,Lh,Fc];unfold Yg
   by_cases hm:Ps (Df f) d.Block u.Block=d.Block
   ·rw[hm]
    have:(d.Block !=-2)=true:=by simp;omega
    simp[this]
   ·have:(Ps (Df f) d.Block u.Block==d.Block)=false:=by simpa using hm
    simp[this,bne]
section
variable {f:TFunc} (l:Int) (vs:List (Int×Aj))
def stU(f:TFunc)(l:Int)(U:List Ar)(i:Int):Int×List Int×Int×List Ad×Int×List Int×List Ar:=(i,f.Params,f.Ret,f.Blocks,l,Df f,U)
def stX(f:TFunc)(l:Int)(U:List Ar):List Int×Int×List Ad×Int×List Int×List Ar:=(f.Params,f.Ret,f.Blocks,l,Df f,U)
theorem c_used1(U:List Ar)(hU:U.length<9223372036854775808):Ah (D0 vs (f,l,Df f,U)) (stU f l U 0)=some (bif U.all (fun u=>Gi vs u.v) then .inl (stX f l U) else .inr (stX f l U)):=by
 have:=allS (stU f l U) U (fun u=>Gi vs u.v) (D0 vs (f,l,Df f,U)) (.inl (stX f l U)) (.inr (stX f l U)) (fun i hi=>by
  unfold D0 stU I4
  have hd:decide ((i:Int)<(U.length:Int))=true:=by simpa using hi
  simp only[hd,Ag,Ab (Ap hi),Ew,An,A9 hi hU]
  cases Gi vs (U.getD i default).v<;>rfl) (by unfold D0 stU;simp;rfl) U.length 0 (by omega)
 rw[Kv]at this;exact this
theorem c_used2(U:List Ar)(hU:U.length<9223372036854775808):Ah (D1 vs U) (stU f l U 0)=some (bif U.all (fitP vs) then .inl (stX f l U) else .inr (stX f l U)):=by
 have:=allS (stU f l U) U (fitP vs) (D1 vs U) (.inl (stX f l U)) (.inr (stX f l U)) (fun i hi=>by
  unfold D1 stU Kh
  have hd:decide ((i:Int)<(U.length:Int))=true:=by simpa using hi
  simp only[hd,Ag,Ab (Ap hi),Ew,An,A9 hi hU];unfold fitP
  cases(((H4 (default:Aj) vs (U.getD i default).v).shape.1==(U.getD i default).shape.1)&&(((H4 (default:Aj) vs (U.getD i default).v).shape.2==(U.getD i default).shape.2)&&true))<;>rfl) (by unfold D1 stU;simp;rfl) U.length 0 (by omega)
 rw[Kv]at this;exact this
theorem c_used3(htl:(Df f).length<=1000)(U:List Ar)(hU:U.length<9223372036854775808):Ah (D2 vs U) (stU f l U 0)=some (bif U.all (aheadP vs (Df f)) then .inl (stX f l U) else .inr (stX f l U)):=by
 have:=allS (stU f l U) U (aheadP vs (Df f)) (D2 vs U) (.inl (stX f l U)) (.inr (stX f l U)) (fun i hi=>by
  have hx:Gr (U.getD i default) f l (Df f) vs U=some (aheadP vs (Df f) (U.getD i default),f,l,Df f,U):=by
   unfold Gr aheadP;rw[m_Over htl]
   cases(H4 (default:Aj) vs (U.getD i default).v).place.block==(U.getD i default).place.block<;>rfl
  unfold D2 stU
  have hd:decide ((i:Int)<(U.length:Int))=true:=by simpa using hi
  simp only[hd,Ag,Ab (Ap hi),Ew];rw[show(⟨f.Params,f.Ret,f.Blocks⟩:TFunc)=f from rfl,hx,An,A9 hi hU]
  cases aheadP vs (Df f) (U.getD i default)<;>rfl) (by unfold D2 stU;simp;rfl) U.length 0 (by omega)
 rw[Kv]at this;exact this
end
def usedD(f:TFunc):Int:=bif !(B7 f).all (Ls (A3 f)) then 7 else bif !(B7 f).all (Wc (A3 f)) then 6 else bif !(B7 f).all (Ug (A3 f) (Df f)) then 7 else 0
theorem c_used{f:TFunc}(hf:OkF f)(hs:Hi f=true)(l:Int):∃ U,Ig f l (Df f) (dv (A3 f)) []=some (usedD f,f,l,Df f,U):=by
 have hfit:=fit_of hs;have hul:=usesF_len hf
 have hsB:Lx f=true:=by simp only[Hi,A7]at hs;exact hs.1
 refine⟨(B7 f).map (Gk f),?_⟩
 have hU:((B7 f).map (Gk f)).length<9223372036854775808:=by rw[Y6];omega
 have h1:=c_used1 (f:=f) l (dv (A3 f)) _ hU;have h2:=c_used2 (f:=f) l (dv (A3 f)) _ hU;have h3:=c_used3 (f:=f) l (dv (A3 f)) (tree_len hsB) _ hU;rw[Xq (q:=Ls (A3 f)) (fun u _=>mhas_found u.V _)]at h1;unfold Ig usedD P9;rw[c_collect hf l (Df f) (dv (A3 f)) hfit,An];simp only;rw[show(Ah (D0 (dv (A3 f)) (f,l,Df f,(B7 f).map (Gk f))) ((0:Int),f.Params,f.Ret,f.Blocks,l,Df f,(B7 f).map (Gk f)))=_ from h1,An];have fin:∀ e:Int,Ah K2 (e,f.Params,f.Ret,f.Blocks,l,Df f,(B7 f).map (Gk f))=some (e,f,l,Df f,(B7 f).map (Gk f)):=fun e=>Ao rfl
 cases hfd:(B7 f).all (Ls (A3 f)) with
 | false=>simp only[Aq,Lh,Ag,stX,An,fin]
 | true=>
  have hmf:=zzL29.1 hfd
  rw[Xq (q:=Wc (A3 f)) (fun u hu=>by
   have:=hmf u hu;simp only[Ls,Nr,zzL71]at this;have hg:H4 (default:Aj) (dv (A3 f)) (Gk f u).v=valD (defOf (A3 f) u.V):=mget_found u.V _ this;unfold fitP Wc
   rw[hg];rfl)]at h2
  rw[Xq (q:=Ug (A3 f) (Df f)) (fun u hu=>ahead_eq hs (defs_in hf) (uses_in hfit u hu) (hmf u hu))]at h3;simp only[Ag,Dd,Aq,stX];rw[show(Ah (D1 (dv (A3 f)) ((B7 f).map (Gk f))) ((0:Int),f.Params,f.Ret,f.Blocks,l,Df f,(B7 f).map (Gk f)))=_ from h2,An]
  cases(B7 f).all (Wc (A3 f)) with
  | false=>simp only[Aq,Lh,Ag,stX,An,fin]
  | true=>
   simp only[Ag,Dd,Aq,stX];rw[show(Ah (D2 (dv (A3 f)) ((B7 f).map (Gk f))) ((0:Int),f.Params,f.Ret,f.Blocks,l,Df f,(B7 f).map (Gk f)))=_ from h3,An]
   cases(B7 f).all (Ug (A3 f) (Df f)) with
   | false=>simp only[Aq,Lh,Ag,stX,An,fin]
   | true=>simp only[Ag,Dd,Aq,stX,An]
theorem c_wrong{f:TFunc}(h:Sm f)(l:Int)(h0:0<=l)(h2:l<=2):∃ t u vs,Ho f l [] []=some (Hh f l,f,l,t,u,vs)/\(Hh f l=0->vs=dv (A3 f)):=by
 have hc:Hh f l=bif !Uf f then 4 else wrongD f l:=by
  unfold Hh;rw[Cj (by omega),Cj (by omega)];rfl
 rw[hc];unfold Ho;rw[c_told f h.1,An]
 cases hm:Uf f with
 | false=>exact⟨[],[],[],rfl,fun h=>by cases h⟩
 | true=>
  have hf:=sm_ok h hm;simp only[Ag,Dd,Aq,show((0:Int)!=0)=false from rfl,wrongD];obtain⟨t',hsh,hst⟩:=c_shaped hf l [] [];rw[hsh,An]
  cases hs:Hi f with
  | false=>exact⟨t',[],[],rfl,fun h=>by cases h⟩
  | true=>
   obtain rfl:=hst hs;simp only[Ag,Dd,Aq,show((0:Int)!=0)=false from rfl];rw[c_typed hf l h0 h2,An]
   cases Sp f l with
   | false=>exact⟨Df f,[],[],rfl,fun h=>by cases h⟩
   | true=>
    simp only[Ag,Dd,Aq,show((0:Int)!=0)=false from rfl];obtain⟨vs,hd,hv⟩:=c_defined hf l (Df f) [];rw[hd,An]
    cases hdd:(List.range (A3 f).length).all (Pe (A3 f)) with
    | false=>exact⟨Df f,[],vs,rfl,fun h=>by cases h⟩
    | true=>
     obtain rfl:=hv hdd;simp only[Ag,Dd,Aq,show((0:Int)!=0)=false from rfl];obtain⟨U,hu⟩:=c_used hf hs l;rw[hu,An];refine⟨Df f,U,dv (A3 f),?_,fun _=>rfl⟩
     show(bif usedD f !=0 then some (usedD f,f,l,Df f,U,dv (A3 f)) else some (0,f,l,Df f,U,dv (A3 f)))=some (usedD f,f,l,Df f,U,dv (A3 f))
     cases hz:usedD f !=0 with
     | true=>rfl
     | false=>
      have:usedD f=0:=by simpa using hz
      rw[this];rfl
theorem c_check(f:TFunc)(l:Int)(h:Sm f):N3 f l=some (Hh f l):=by
 unfold N3
 by_cases h0:l<0
 ·rw[Br h0];unfold Hh;rw[Br h0];rfl
 ·by_cases h2:2<l
  ·rw[Cj h0,Br h2];unfold Hh;rw[Cj h0,Br h2];rfl
  ·obtain⟨t,u,vs,hw,_⟩:=c_wrong h l (by omega) (by omega);rw[Cj h0,Cj h2,hw];rfl
abbrev bA(f:TFunc)(i:Nat):Ad:=f.Blocks.getD i default
def Ek(f:TFunc)(i:Nat)(k:Nat):Int:=(bA f i).End.To.getD k 0
def prF(f:TFunc)(i:Nat):List Int:=(Ch (Bf f)).getD i []
structure Rt(f:TFunc):Prop where
 lo:1<=f.Blocks.length
 hi:f.Blocks.length<=64
 to:∀ i,i<f.Blocks.length->∀ k,k<(bA f i).End.To.length->0<Ek f i k/\Ek f i k<f.Blocks.length
 one:∀ i,i<f.Blocks.length->(bA f i).End.Kind=1->(bA f i).End.To.length=1
 two:∀ i,i<f.Blocks.length->(bA f i).End.Kind=2->(bA f i).End.To.length=2
 may:Lq (Bf f)=true
 ok:OkF f
theorem rt_of{f:TFunc}(h:Sm f)(hc:Hh f 2=0):Rt f:=by
 have hz:=(U4 (f:=f) (l:=2) (by omega) (by omega)).1 hc
 have hs:Lx f=true:=by
  have:=hz.2.1;unfold Hi at this;rw[A7]at this;exact this.1
 obtain⟨⟨h1,h2⟩,h3⟩:=shape_iff.1 hs
 have hw:∀ i,i<f.Blocks.length->(((bA f i).End.To.length:Nat):Int)=Yx (bA f i).End.Kind:=fun i hi=>by
  have:=h3 i hi;unfold Np kindB at this;simp only[A7,F9]at this;exact this.1.2
 refine⟨h1,h2,fun i hi k hk=>?_,fun i hi hk=>?_,fun i hi hk=>?_,Pi hs,sm_ok h hz.1⟩
 ·exact toB_iff.1 (fits_to (h3 i hi)) _ (Aw (d:=0) hk)
 ·have:=hw i hi;rw[hk,show Yx 1=1 from rfl]at this;omega
 ·have:=hw i hi;rw[hk,show Yx 2=2 from rfl]at this;omega
theorem rows_at{f:TFunc}{i:Nat}(hi:i<f.Blocks.length):(Bf f).getD i []=riseL (bA f i).End.To:=by
 unfold Bf;rw[Qg hi];rfl
theorem pr_len(f:TFunc):(Ch (Bf f)).length=f.Blocks.length:=by rw[On,Sj]
theorem pr_mem{f:TFunc}(R:Rt f){y:Nat}(hy:y<f.Blocks.length){x:Int}:x∈prF f y↔∃ p:Nat,x=(p:Int)/\p<f.Blocks.length/\(y:Int)∈(bA f p).End.To:=by
 unfold prF;have hl:=Sj f;rw[Yk R.may (by omega)]
 constructor
 ·rintro⟨p,h1,h2,h3⟩;rw[mem_sN R.may (by omega),rows_at (by omega),(Zw _).2]at h3;exact⟨p,h1,by omega,h3⟩
 ·rintro⟨p,h1,h2,h3⟩;exact⟨p,h1,by omega,by rw[mem_sN R.may (by omega),rows_at (by omega),(Zw _).2];exact h3⟩
def Om(f:TFunc)(a x:Int):Bool:=((bA f x.toNat).End.Kind==1)&&decide ((bA f x.toNat).Phis.length=0)&&decide (prF f x.toNat=[a])
theorem c_by{f:TFunc}(R:Rt f)(a x:Int)(hx:A2 x f.Blocks.length):F8 x f.Blocks (Ch (Bf f)) a=some (bif Om f a x then(x,Ek f x.toNat 0,true) else(-1,-1,false)):=by
 have hxn:x.toNat<f.Blocks.length:=by have:=hx.1;have:=hx.2;omega
 unfold F8 Om;rw[Ab hx]
 have hlen:A2 x (Ch (Bf f)).length:=by rw[pr_len];exact hx
 rw[Ab (fun _=>hlen)]
 by_cases hk:(bA f x.toNat).End.Kind=1
 ·have hk':((f.Blocks.getD x.toNat default).End.Kind !=1)=false:=by simpa using hk
  have hto:=R.one _ hxn hk
  by_cases hp:(bA f x.toNat).Phis.length=0
  ·have hp':decide ((0:Int)<((f.Blocks.getD x.toNat default).Phis.length:Int))=false:=by rw[show(f.Blocks.getD x.toNat default).Phis.length=0 from hp];rfl
   rw[hk',Aq,hp',show((false:Bool)==false)=true from rfl,Ag,m_equal _ _ (by simp),An,Aq]
   have e1:((bA f x.toNat).End.Kind==1)=true:=by simpa using hk
   rw[e1,Br hp,Fc,Fc];unfold prF Ek
   cases decide ((Ch (Bf f)).getD x.toNat []=[a]) with
   | true=>rw[Dd,Aq,Ab (show A2 (0:Int) (f.Blocks.getD x.toNat default).End.To.length from⟨by omega,by rw[show(f.Blocks.getD x.toNat default).End.To.length=1 from hto];omega⟩)];rfl
   | false=>rfl
  ·have hp':decide ((0:Int)<((f.Blocks.getD x.toNat default).Phis.length:Int))=true:=Br (by have:(f.Blocks.getD x.toNat default).Phis.length≠0:=hp;omega);rw[hk',Aq,hp',show((true:Bool)==false)=false from rfl,Aq,An,Ag,Ag,Cj hp,Bool.and_false,Y9,Aq]
 ·have hk':((f.Blocks.getD x.toNat default).End.Kind !=1)=true:=by simpa using hk
  have e1:((bA f x.toNat).End.Kind==1)=false:=by simpa using hk
  rw[hk',Ag,show((true:Bool)==false)=false from rfl,Aq,An,Ag,Ag,e1,Y9,Y9,Aq]
def zH:THammock:=⟨0,0,0,0⟩
def c1H(f:TFunc)(a:Int)(x y:Int):Bool:=Om f a x&&Om f a y&&(Ek f x.toNat 0==Ek f y.toNat 0)&&!(Ek f x.toNat 0==a)
def c2H(f:TFunc)(a:Int)(x y:Int):Bool:=Om f a x&&(Ek f x.toNat 0==y)&&!(y==a)
def Rb(f:TFunc)(i:Nat):Option THammock:=
 bif ((bA f i).End.Kind==2)&&!(Ek f i 0==Ek f i 1) then
  bif c1H f i (Ek f i 0) (Ek f i 1) then some ⟨i,Ek f i 0,Ek f i 1,Ek f (Ek f i 0).toNat 0⟩ else
  bif c2H f i (Ek f i 0) (Ek f i 1) then some ⟨i,Ek f i 0,-1,Ek f i 1⟩ else
  bif c2H f i (Ek f i 1) (Ek f i 0) then some ⟨i,-1,Ek f i 1,Ek f i 0⟩ else none
 else none
section
variable {f:TFunc} (R:Rt f) {a:Int} {i:Nat} (hi:i<f.Blocks.length) (hk:(bA f i).End.Kind=2)
include R hi hk
theorem Te(k:Nat)(hk2:k<2):A2 (Ek f i k) f.Blocks.length:=by
 have:=R.to i hi k (by rw[R.two i hi hk];exact hk2);exact⟨by omega,this.2⟩
theorem c_meet1:Kj i (bA f i).End.To f.Blocks (Ch (Bf f)) i f.Blocks (Ch (Bf f)) i =
  some (bif c1H f i (Ek f i 0) (Ek f i 1) then(⟨i,Ek f i 0,Ek f i 1,Ek f (Ek f i 0).toNat 0⟩,true) else(zH,false)):=by
 have h2:=R.two i hi hk;unfold Kj;rw[Ab (show A2 (0:Int) (bA f i).End.To.length from⟨by omega,by omega⟩)];have e0:=c_by R i (Ek f i 0) (Te R hi hk 0 (by omega));have e1:=c_by R i (Ek f i 1) (Te R hi hk 1 (by omega));have g0:(bA f i).End.To.getD (0:Int).toNat 0=Ek f i 0:=rfl;have g1:(bA f i).End.To.getD (1:Int).toNat 0=Ek f i 1:=rfl;rw[g0,g1,e0,An,Ab (show A2 (1:Int) (bA f i).End.To.length from⟨by omega,by omega⟩),e1,An];unfold c1H
 cases Om f i (Ek f i 0) with
 | false=>rfl
 | true=>
  cases Om f i (Ek f i 1) with
  | false=>rfl
  | true=>
   simp only[Ag,Dd,Aq,Fc,bne]
   cases(Ek f (Ek f i 0).toNat 0==Ek f (Ek f i 1).toNat 0) with
   | false=>rfl
   | true=>cases(Ek f (Ek f i 0).toNat 0==(i:Int))<;>rfl
theorem c_meet2:Ij i (bA f i).End.To f.Blocks (Ch (Bf f)) i =
  some (bif c2H f i (Ek f i 0) (Ek f i 1) then(⟨i,Ek f i 0,-1,Ek f i 1⟩,true) else(zH,false)):=by
 have h2:=R.two i hi hk;unfold Ij;rw[Ab (show A2 (0:Int) (bA f i).End.To.length from⟨by omega,by omega⟩)];have e0:=c_by R i (Ek f i 0) (Te R hi hk 0 (by omega));have g0:(bA f i).End.To.getD (0:Int).toNat 0=Ek f i 0:=rfl;have g1:(bA f i).End.To.getD (1:Int).toNat 0=Ek f i 1:=rfl;rw[g0,g1,e0,An,Ab (show A2 (1:Int) (bA f i).End.To.length from⟨by omega,by omega⟩),I6,An];unfold c2H
 cases Om f i (Ek f i 0) with
 | false=>rfl
 | true=>
  simp only[Ag,Dd,Aq,Fc,bne]
  cases h:(Ek f (Ek f i 0).toNat 0==Ek f i 1) with
  | false=>rfl
  | true=>
   have h':Ek f (Ek f i 0).toNat 0=Ek f i 1:=by simpa using h
   rw[h']
   cases(Ek f i 1==(i:Int))<;>rfl
theorem c_meet3:Ik i (bA f i).End.To f.Blocks (Ch (Bf f)) i =
  some (bif c2H f i (Ek f i 1) (Ek f i 0) then(⟨i,-1,Ek f i 1,Ek f i 0⟩,true) else(zH,false)):=by
 have h2:=R.two i hi hk;unfold Ik;rw[Ab (show A2 (0:Int) (bA f i).End.To.length from⟨by omega,by omega⟩)];have e1:=c_by R i (Ek f i 1) (Te R hi hk 1 (by omega));have g0:(bA f i).End.To.getD (0:Int).toNat 0=Ek f i 0:=rfl;have g1:(bA f i).End.To.getD (1:Int).toNat 0=Ek f i 1:=rfl;rw[g0,g1,I6,An,Ab (show A2 (1:Int) (bA f i).End.To.length from⟨by omega,by omega⟩),e1,An];unfold c2H
 cases Om f i (Ek f i 1) with
 | false=>rfl
 | true=>
  simp only[Ag,Dd,Aq,Fc,bne];rw[show(Ek f i 0==Ek f (Ek f i 1).toNat 0)=(Ek f (Ek f i 1).toNat 0==Ek f i 0) by rw[Me,zzL53,zzL53];exact Qb]
  cases(Ek f (Ek f i 1).toNat 0==Ek f i 0) with
  | false=>rfl
  | true=>cases(Ek f i 0==(i:Int))<;>rfl
end
def allH(f:TFunc):List THammock:=(List.range f.Blocks.length).flatMap fun i=>(Rb f i).toList
theorem toList_le{α:Type}(o:Option α):o.toList.length<=1:=by cases o<;>simp
theorem all_step{f:TFunc}(R:Rt f){i:Nat}(hi:i<f.Blocks.length)(l:List THammock)(hl:l.length<=0+i*1)(c:Int) :
  H2 f (Ja (Bf f),c) (l,(i:Int))=some (.next (l++(Rb f i).toList,(i:Int)+1)):=by
 have hroom:(1000:Nat)<=room:=by decide
 have hi64:=R.hi;unfold H2 Rb;have hg:f.Blocks.getD (i:Int).toNat default=bA f i:=rfl;simp only[hg,Cy hi,Ag,Ab (Ap hi),w1 (show i<4611686018427387904 by omega)]
 have hap:∀ h:THammock,l.length+([h]:List THammock).length<=room:=fun h=>by simp;omega
 have ie:((i+1:Nat):Int)=(i:Int)+1:=by omega
 by_cases hk:(bA f i).End.Kind=2
 ·have hk':((bA f i).End.Kind !=2)=false:=by simpa using hk
  have hk2:((bA f i).End.Kind==2)=true:=by simpa using hk
  have h2:=R.two i hi hk;have i0:A2 (0:Int) (bA f i).End.To.length:=⟨by omega,by omega⟩;have i1:A2 (1:Int) (bA f i).End.To.length:=⟨by omega,by omega⟩;simp only[hk',hk2,Ab (fun _=>i0),Ab (fun _=>i1),Aq,Fc];have g0:(bA f i).End.To.getD (0:Int).toNat 0=Ek f i 0:=rfl;have g1:(bA f i).End.To.getD (1:Int).toNat 0=Ek f i 1:=rfl;rw[g0,g1]
  cases(Ek f i 0==Ek f i 1) with
  | true=>simp[ie]
  | false=>
   have hpred:(Ja (Bf f)).Pred=Ch (Bf f):=rfl;simp only[Aq,Lh,Ag,Od,An,hpred,c_meet1 R hi hk,c_meet2 R hi hk,c_meet3 R hi hk]
   cases c1H f i (Ek f i 0) (Ek f i 1) with
   | true=>simp only[Ag];rw[Ae (hap _)];simp[ie]
   | false=>
    simp only[Aq]
    cases c2H f i (Ek f i 0) (Ek f i 1) with
    | true=>simp only[Ag];rw[Ae (hap _)];simp[ie]
    | false=>
     simp only[Aq]
     cases c2H f i (Ek f i 1) (Ek f i 0) with
     | true=>simp only[Ag];rw[Ae (hap _)];simp[ie]
     | false=>simp[ie]
 ·have hk':((bA f i).End.Kind !=2)=true:=by simpa using hk
  have hk2:((bA f i).End.Kind==2)=false:=by simpa using hk
  simp only[hk',hk2,Ag,Y9,Aq];rw[Ab (fun h=>by cases h),Ab (fun h=>by cases h)];simp[ie]
theorem m_All{f:TFunc}(h:Sm f):Ic f=some (bif Hh f 2==0 then allH f else[]):=by
 have hmax:f.Blocks.length<=maxLen:=h.1.blocks;unfold Ic;rw[c_check f 2 h,An]
 by_cases hc:Hh f 2=0
 ·have R:=rt_of h hc
  have hs:Lx f=true:=by
   have:=((U4 (f:=f) (l:=2) (by omega) (by omega)).1 hc).2.1;unfold Hi at this;rw[A7]at this;exact this.1
  rw[hc,show((0:Int)!=0)=false from rfl,show((0:Int)==0)=true from rfl,Aq,Ag,m_of f hmax,hs,Ag,An];have hL:=K1 f.Blocks.length 0 1 (fun i=>(Rb f i).toList) (fun i _=>toList_le _) (H2 f (Ja (Bf f),0)) (fun acc i hi ha=>all_step R hi acc ha 0)
   (fun acc=>by unfold H2;simp only[Fo,Aq]) f.Blocks.length 0 [] (by omega) (by simp)
  have hL':Ah (H2 f (Ja (Bf f),0)) (([]:List THammock),(0:Int))=_:=hL;rw[hL',An];unfold P9 allH;rw[Px];rfl
 ·have e1:((Hh f 2)!=0)=true:=by simpa using hc
  have e2:((Hh f 2)==0)=false:=by simpa using hc
  rw[e1,e2,Ag,Aq]
  rfl
theorem loop_first{X:Type}(f:Int->Option (LR Int X))(p:Nat->Bool)(out:Nat->X)(no:X)(n:Nat)(hn:∀ i,i<n->p i=false->f (i:Int)=some (.next (((i+1:Nat):Int))))
  (hf:∀ i,i<n->p i=true->f (i:Int)=some (.done (out i))) (he:f (n:Int)=some (.done no)) :
  (∃ i,i<n/\p i=true/\Ah f (0:Int)=some (out i))\/((∀ i,i<n->p i=false)/\Ah f (0:Int)=some no):=by
 suffices h:∀ k i,i+k=n->(∀ j,j<i->p j=false)->(∃ i',i'<n/\p i'=true/\Ah f (i:Int)=some (out i'))\/((∀ i,i<n->p i=false)/\Ah f (i:Int)=some no) from
  h n 0 (by omega) (fun j hj=>absurd hj (Rl _))
 intro k
 induction k with
 | zero=>
  intro i hi hj
  obtain rfl:i=n:=by omega
  exact .inr ⟨hj,Ao he⟩
 | succ k ih=>
  intro i hi hj
  cases hp:p i with
  | true=>exact .inl ⟨i,by omega,hp,Ao (hf i (by omega) hp)⟩
  | false=>
   rw[Ax (hn i (by omega) hp)];refine ih (i+1) (by omega) fun j hj2=>?_
   by_cases e:j=i
   ·subst e;exact hp
   ·exact hj j (by omega)
theorem ham_at{f:TFunc}{i:Nat}{h:THammock}(hh:Rb f i=some h):h.At=i:=by
 unfold Rb at hh
 revert hh
 cases(((bA f i).End.Kind==2)&&!(Ek f i 0==Ek f i 1))<;>cases c1H f i (Ek f i 0) (Ek f i 1)<;>cases c2H f i (Ek f i 0) (Ek f i 1)<;>cases c2H f i (Ek f i 1) (Ek f i 0)<;>intro hh<;>cases hh<;>rfl
theorem mem_all{f:TFunc}{h:THammock}:h∈allH f↔∃ i,i<f.Blocks.length/\Rb f i=some h:=by
 unfold allH;rw[zzL86]
 constructor
 ·rintro⟨i,h1,h2⟩;exact⟨i,zzL54.1 h1,by simpa using h2⟩
 ·rintro⟨i,h1,h2⟩;exact⟨i,zzL54.2 h1,by simpa using h2⟩
theorem all_len{f:TFunc}:(allH f).length<=f.Blocks.length:=by
 unfold allH;have:=Jg 1 (fun i=>(Rb f i).toList) (List.range f.Blocks.length) (fun i _=>toList_le _)
 simpa using this
def isH(f:TFunc)(h:THammock):Bool:=decide (A2 h.At f.Blocks.length)&&decide (Rb f h.At.toNat=some h)
theorem is_mem{f:TFunc}{h:THammock}:isH f h=true↔h∈allH f:=by
 unfold isH;rw[mem_all,A7,F9,F9]
 constructor
 ·rintro⟨h1,h2⟩;exact⟨_,by have:=h1.1;have:=h1.2;omega,h2⟩
 ·rintro⟨i,h1,h2⟩;have:=ham_at h2;exact⟨by rw[this];exact Ap h1,by rw[this,As];exact h2⟩
def findH(f:TFunc)(a:Int):THammock×Bool:=if A2 a f.Blocks.length then(match Rb f a.toNat with|some h=>(h,true)|none=>(zH,false)) else(zH,false)
theorem find_some{f:TFunc}{h:THammock}(hh:isH f h=true):findH f h.At=(h,true):=by
 unfold isH at hh;rw[A7,F9,F9]at hh;unfold findH;rw[if_pos hh.1,hh.2]
theorem find_none{f:TFunc}{a:Int}(hh:∀ h,isH f h=true->h.At≠a):findH f a=(zH,false):=by
 unfold findH
 split
 ·rename_i hin
  cases ho:Rb f a.toNat with
  | none=>rfl
  | some h=>
   have e:=ham_at ho;have:((a.toNat:Nat):Int)=a:=Pz hin.1;exact absurd (e.trans this) (hh h (is_mem.2 (mem_all.2 ⟨_,by have:=hin.1;have:=hin.2;omega,ho⟩)))
 ·rfl
def okF(f:TFunc):Bool:=Hh f 2==0
def allHR(f:TFunc):List THammock:=bif okF f then allH f else[]
def Lj(f:TFunc)(h:THammock):Bool:=okF f&&isH f h
def O6(f:TFunc)(a:Int):THammock×Bool:=bif okF f then findH f a else(zH,false)
theorem isHR_mem{f:TFunc}{h:THammock}:Lj f h=true↔h∈allHR f:=by
 unfold Lj allHR
 cases okF f with
 | true=>rw[Fc];exact is_mem
 | false=>simp
theorem m_All'{f:TFunc}(h:Sm f):Ic f=some (allHR f):=m_All h
theorem allHR_len{f:TFunc}:(allHR f).length<=f.Blocks.length:=by
 unfold allHR;cases okF f
 ·simp
 ·exact all_len
theorem small_n{f:TFunc}(h:Sm f):(allHR f).length<4611686018427387904:=by
 by_cases hc:okF f=true
 ·have:=(rt_of h (by simpa [okF] using hc)).hi;have:=allHR_len (f:=f);omega
 ·unfold allHR;rw[Bool.eq_false_iff.2 hc];simp
theorem m_Find{f:TFunc}(h:Sm f)(a:Int):Jt f a=some (O6 f a):=by
 unfold Jt;rw[m_All' h,An];have hn:=small_n h
 rcases loop_first (m_hammock_Find_L1 a (allHR f)) (fun i=>((allHR f).getD i default).At==a) (fun i=>.inr ((allHR f).getD i default,true)) (.inl ()) (allHR f).length (fun i hi hp=>by
   unfold m_hammock_Find_L1
   simp only[Cy hi,Ag,As,Ab (Ap hi),hp,Aq,w1 (show i<4611686018427387904 by omega)]) (fun i hi hp=>by
   unfold m_hammock_Find_L1
   simp only[Cy hi,Ag,As,Ab (Ap hi),hp]) (by unfold m_hammock_Find_L1;simp only[Fo,Aq]) with⟨i,hi,hp,hl⟩|⟨hp,hl⟩
 ·rw[hl,An];have hm:=isHR_mem.2 (Aw (d:=(default:THammock)) hi)
  have ha:((allHR f).getD i default).At=a:=by simpa using hp
  unfold Lj at hm;rw[A7]at hm;unfold O6;rw[hm.1,Ag,<- ha,find_some hm.2]
 ·rw[hl,An]
  show some (zH,false)=_
  unfold O6
  cases ho:okF f with
  | false=>rfl
  | true=>
   rw[Ag,find_none];intro x hx e;have hm:x∈allHR f:=isHR_mem.1 (by unfold Lj;rw[ho,hx];rfl);obtain⟨i,hi,he⟩:=Py hm;have:=hp i hi;rw[Ai _ _ _ hi,he,e]at this;simp at this
theorem ham_eq(v x:THammock):((v.At==x.At)&&((v.Then==x.Then)&&((v.Else==x.Else)&&((v.Join==x.Join)&&true))))=decide (v=x):=by
 cases v;cases x
 rw[Me];simp[THammock.mk.injEq]
theorem m_Is{f:TFunc}(h:Sm f)(v:THammock):Ki f v=some (Lj f v):=by
 unfold Ki Cz Dj;rw[m_All' h,An];have hn:=small_n h
 rcases loop_first (m_slices_Index_api_Hammock_api_Hammock_L1 (allHR f) v) (fun i=>decide (v=(allHR f).getD i default)) (fun i=>.inr (i:Int)) (.inl ()) (allHR f).length (fun i hi hp=>by
   unfold m_slices_Index_api_Hammock_api_Hammock_L1
   simp only[Cy hi,Ag,As,Ab (Ap hi),ham_eq,hp,Aq,w1 (show i<4611686018427387904 by omega)]) (fun i hi hp=>by
   unfold m_slices_Index_api_Hammock_api_Hammock_L1
   simp only[Cy hi,Ag,As,Ab (Ap hi),ham_eq,hp]) (by unfold m_slices_Index_api_Hammock_api_Hammock_L1;simp only[Fo,Aq]) with⟨i,hi,hp,hl⟩|⟨hp,hl⟩
 ·rw[hl];have hm:Lj f v=true:=isHR_mem.2 (by rw[F9]at hp;rw[hp];exact Aw hi);rw[hm]
  simp
 ·rw[hl]
  have hm:Lj f v=false:=by
   rw[Bool.eq_false_iff];intro hm;obtain⟨i,hi,he⟩:=Py (isHR_mem.1 hm);have:=hp i hi;rw[Ai _ _ _ hi,he]at this;simp at this
  rw[hm];rfl
def opsX(f:TFunc)(x:Int):List C1:=bif x !=-1 then(bA f x.toNat).Ops else[]
def opsH(f:TFunc)(h:THammock):List C1:=opsX f h.Then++opsX f h.Else
theorem ham_in {f : TFunc} (R : Rt f) {i : Nat} (hi : i < f.Blocks.length) {h : THammock} (hh : Rb f i = some h) :
    (bA f i).End.Kind = 2 ∧ Ek f i 0 ≠ Ek f i 1 ∧ A2 h.Join f.Blocks.length ∧ h.Join ≠ i ∧
    ((h.Then = Ek f i 0 ∧ h.Else = Ek f i 1 ∧ Om f i h.Then = true ∧ Om f i h.Else = true ∧ Ek f h.Then.toNat 0 = h.Join ∧ Ek f h.Else.toNat 0 = h.Join) ∨
     (h.Then = Ek f i 0 ∧ h.Else = -1 ∧ h.Join = Ek f i 1 ∧ Om f i h.Then = true ∧ Ek f h.Then.toNat 0 = h.Join) ∨
     (h.Then = -1 ∧ h.Else = Ek f i 1 ∧ h.Join = Ek f i 0 ∧ Om f i h.Else = true ∧ Ek f h.Else.toNat 0 = h.Join)) := by
  unfold Rb at hh
  cases hk : (((bA f i).End.Kind == 2) && !(Ek f i 0 == Ek f i 1)) with
  | false => rw [hk] at hh; cases hh
  | true =>
    rw [hk, Ag] at hh; simp only [A7, zzL53, Nr, zzL32] at hk; obtain ⟨hk1, hk2⟩ := hk; have t0 := Te R hi hk1 0 (by omega); have t1 := Te R hi hk1 1 (by omega)
    have hb : ∀ x, A2 x f.Blocks.length → Om f i x = true → A2 (Ek f x.toNat 0) f.Blocks.length := fun x hx hm => by
      have hxn : x.toNat < f.Blocks.length := by have := hx.1; have := hx.2; omega
      unfold Om at hm; simp only [A7, zzL53] at hm; have := R.to _ hxn 0 (by rw [R.one _ hxn hm.1.1]; omega); exact ⟨by omega, this.2⟩
    refine ⟨hk1, hk2, ?_⟩
    cases h1 : c1H f i (Ek f i 0) (Ek f i 1) with
    | true =>
      rw [h1, Ag] at hh; cases hh; unfold c1H at h1; simp only [A7, zzL53, Nr, zzL32] at h1; obtain ⟨⟨⟨a1, a2⟩, a3⟩, a4⟩ := h1; exact ⟨hb _ t0 a1, a4, .inl ⟨rfl, rfl, a1, a2, rfl, a3.symm⟩⟩
    | false =>
      rw [h1, Aq] at hh
      cases h2 : c2H f i (Ek f i 0) (Ek f i 1) with
      | true =>
        rw [h2, Ag] at hh; cases hh; unfold c2H at h2; simp only [A7, zzL53, Nr, zzL32] at h2; obtain ⟨⟨a1, a3⟩, a4⟩ := h2; exact ⟨t1, a4, .inr (.inl ⟨rfl, rfl, rfl, a1, a3⟩)⟩
      | false =>
        rw [h2, Aq] at hh
        cases h3 : c2H f i (Ek f i 1) (Ek f i 0) with
        | true =>
          rw [h3, Ag] at hh; cases hh; unfold c2H at h3; simp only [A7, zzL53, Nr, zzL32] at h3; obtain ⟨⟨a1, a3⟩, a4⟩ := h3; exact ⟨t0, a4, .inr (.inr ⟨rfl, rfl, rfl, a1, a3⟩)⟩
        | false => rw [h3] at hh; cases hh
theorem Zo{f:TFunc}(R:Rt f){i:Nat}(hi:i<f.Blocks.length){h:THammock}(hh:Rb f i=some h):(h.Then = -1\/A2 h.Then f.Blocks.length)/\(h.Else = -1\/A2 h.Else f.Blocks.length):=by
 obtain⟨hk,_,_,_,hc⟩:=ham_in R hi hh;have t0:=Te R hi hk 0 (by omega);have t1:=Te R hi hk 1 (by omega);rcases hc with⟨a,b,_⟩|⟨a,b,_⟩|⟨a,b,_⟩
 ·exact⟨.inr (a▸t0),.inr (b▸t1)⟩
 ·exact⟨.inr (a▸t0),.inl b⟩
 ·exact⟨.inl a,.inr (b▸t1)⟩
theorem Sg{f:TFunc}(R:Rt f){x:Int}(hx:x = -1\/A2 x f.Blocks.length):(opsX f x).length<=512:=by
 unfold opsX
 by_cases e:x = -1
 ·subst e;exact Rn _
 ·rcases hx with hx|hx
  ·exact absurd hx e
  ·rw[show(x !=-1)=true by simpa using e,Ag];exact(R.ok.block _ (Aw (by have:=hx.1;have:=hx.2;omega))).ops
theorem btw_step{f:TFunc}(R:Rt f)(h:THammock){k:Nat}(hk:k<2)(x:Int)(he:([h.Then,h.Else]:List Int).getD k 0=x)(hx:x = -1\/A2 x f.Blocks.length)(l:List C1)(hl:l.length<=512) :
  D9 f h (l,(k:Int))=some (.next (l++opsX f x,((k+1:Nat):Int))):=by
 have hroom:(2000:Nat)<=room:=by decide
 unfold D9;have hlen:=Sg R hx;simp only[As,he,Cy (show k<([h.Then,h.Else]:List Int).length from hk),Ag,Ab (Ap (show k<([h.Then,h.Else]:List Int).length from hk)),w1 (show k<4611686018427387904 by omega)];unfold opsX at hlen ⊢
 by_cases e:x = -1
 ·subst e;rw[show((-1:Int)!=-1)=false from rfl,Aq,Aq,An,List.append_nil]
 ·have e':(x !=-1)=true:=by simpa using e
  rw[e']at hlen ⊢;rcases hx with hx|hx
  ·exact absurd hx e
  ·rw[Ag]at hlen;rw[Ag,Ab hx,Ag,Ab (show l.length+(bA f x.toNat).Ops.length<=room by omega),An]
theorem m_btw{f:TFunc}(h:Sm f)(v:THammock):I5 f v=some (bif Lj f v then(opsH f v,true) else([],false)):=by
 unfold I5;rw[m_Is h,An]
 cases hi:Lj f v with
 | false=>rfl
 | true=>
  rw[Dd,Aq,Ag];unfold Lj at hi;rw[A7]at hi;have R:=rt_of h (by simpa [okF] using hi.1);obtain⟨i,hin,ho⟩:=mem_all.1 (is_mem.1 hi.2);obtain⟨h1,h2⟩:=Zo R hin ho;have s0:=btw_step R v (k:=0) (by omega) v.Then rfl h1 [] (by simp);have s1:=btw_step R v (k:=1) (by omega) v.Else rfl h2 ([]++opsX f v.Then) (by rw[Su];exact Sg R h1)
  have hL:Ah (D9 f v) (([]:List C1),(0:Int))=some (opsH f v):=by
   have e0:Ah (D9 f v) (([]:List C1),(0:Int))=_:=Ax s0;rw[e0];have e1:Ah (D9 f v) ([]++opsX f v.Then,((0+1:Nat):Int))=_:=Ax s1;rw[e1];refine Ao ?_;unfold D9 opsH;rw[Su];rfl
  rw[hL];rfl
theorem m_Cost{f:TFunc}(h:Sm f)(v:THammock):K6 f v=some (bif Lj f v then((opsH f v).length:Int) else 0):=by
 unfold K6;rw[m_btw h,An]
 cases Lj f v<;>rfl
theorem m_anyOp(l:List C1)(hl:l.length<4611686018427387904):Cv l=some (l.any fun o=>o.Lanes !=1):=by
 unfold Cv Ez
 rcases loop_first (m_slices_IndexFunc_api_Op_api_Op_L1 l) (fun i=>(l.getD i default).Lanes !=1) (fun i=>.inr (i:Int)) (.inl ()) l.length (fun i hi hp=>by
   unfold m_slices_IndexFunc_api_Op_api_Op_L1
   simp only[Cy hi,Ag,As,Ab (Ap hi),Ju,An,hp,Aq,w1 (show i<4611686018427387904 by omega)]) (fun i hi hp=>by
   unfold m_slices_IndexFunc_api_Op_api_Op_L1
   simp only[Cy hi,Ag,As,Ab (Ap hi),Ju,An,hp]) (by unfold m_slices_IndexFunc_api_Op_api_Op_L1;simp only[Fo,Aq]) with⟨i,hi,hp,hl⟩|⟨hp,hl⟩
 ·rw[hl,List.any_eq_true.2 ⟨_,Aw hi,hp⟩]
  simp
 ·rw[hl]
  have:(l.any fun o=>o.Lanes !=1)=false:=by
   rw[Bool.eq_false_iff];intro h;obtain⟨o,ho,hb⟩:=List.any_eq_true.1 h;obtain⟨i,hi,he⟩:=Py ho;have:=hp i hi;rw[Ai _ _ _ hi,he,hb]at this
   cases this
  rw[this];rfl
def mergesR(f:TFunc)(v:THammock):Bool:=Lj f v&&(opsH f v).all fun o=>o.Lanes==1
theorem opsH_len{f:TFunc}(h:Sm f){v:THammock}(hi:Lj f v=true):(opsH f v).length<=1024:=by
 unfold Lj at hi;rw[A7]at hi;have R:=rt_of h (by simpa [okF] using hi.1);obtain⟨i,hin,ho⟩:=mem_all.1 (is_mem.1 hi.2);obtain⟨h1,h2⟩:=Zo R hin ho;have:=Sg R h1;have:=Sg R h2;unfold opsH;rw[Fp];omega
theorem m_Merges{f:TFunc}(h:Sm f)(v:THammock):Jl f v=some (mergesR f v):=by
 unfold Jl mergesR;rw[m_btw h,An]
 cases hi:Lj f v with
 | false=>rfl
 | true=>
  have hl:=opsH_len h hi;simp only[Ag,show((true:Bool)==true)=true from rfl,m_anyOp _ (show(opsH f v).length<4611686018427387904 by omega),An,Fc]
  congr 1
  rw[List.not_any_eq_all_not]
  congr 1
  funext o
  simp[bne]
theorem one_iff(l:List Int)(a:Int):(bif ((l.length:Int)==1) then(l.getD (0:Int).toNat 0==a) else false)=decide (l=[a]):=by
 rcases l with _|⟨x,_|⟨y,l⟩⟩
 ·rfl
 ·rw[Me];simp
 ·simp only[Wo];rw[show((((l.length+1+1:Nat)):Int)==1)=false by simp;omega,Aq]
  simp
theorem m_side{f:TFunc}(R:Rt f)(a t x j:Int)(ht:A2 t f.Blocks.length) :
  Fk f (Ja (Bf f)) a t x j=some (bif x==-1 then t==j else(x==t)&&(Om f a x&&(Ek f x.toNat 0==j))):=by
 unfold Fk
 cases hx:(x==-1) with
 | true=>rfl
 | false=>
  rw[Aq,Aq]
  by_cases e:x=t
  ·subst e;have hp:(Ja (Bf f)).Pred=Ch (Bf f):=rfl
   have hpl:A2 x (Ch (Bf f)).length:=by rw[pr_len];exact ht
   have hxn:x.toNat<f.Blocks.length:=by have:=ht.1;have:=ht.2;omega
   have eb:f.Blocks.getD x.toNat default=bA f x.toNat:=rfl;have ep:(Ch (Bf f)).getD x.toNat []=prF f x.toNat:=rfl;rw[show(x !=x)=false by simp,Aq,show(x==x)=true by simp,Fc,hp,eb,ep,Ab ht,Ab hpl,Ab (fun _=>hpl),one_iff]
   have c0:∀ q:Bool,((((prF f x.toNat).length:Int)==1)==true)=true->A2 (0:Int) (prF f x.toNat).length:=fun _ hq=>by
    have:((prF f x.toNat).length:Int)=1:=by simpa using hq
    exact⟨by omega,by omega⟩
   rw[Ab (c0 true)]
   have e2:(((((bA f x.toNat).Phis.length:Int):Int)==0))=decide ((bA f x.toNat).Phis.length=0):=by rw[Me];simp
   rw[e2]
   have e3:(bif (bif decide (prF f x.toNat=[a]) then decide ((bA f x.toNat).Phis.length=0) else false) then((bA f x.toNat).End.Kind==1) else false)=Om f a x:=by
    unfold Om
    cases decide (prF f x.toNat=[a])<;>cases decide ((bA f x.toNat).Phis.length=0)<;>cases((bA f x.toNat).End.Kind==1)<;>rfl
   rw[e3,Ab (fun hq=>by
    have hm:Om f a x=true:=by simpa using hq
    unfold Om at hm;simp only[A7,zzL53]at hm
    exact⟨by omega,by rw[R.one _ hxn hm.1.1];omega⟩)]
   cases Om f a x<;>rfl
  ·rw[show(x !=t)=true by simpa using e,Ag,show(x==t)=false by simpa using e,Y9]
def sideD(f:TFunc)(a t x j:Int):Bool:=bif x==-1 then t==j else(x==t)&&(Om f a x&&(Ek f x.toNat 0==j))
def isD(f:TFunc)(h:THammock):Bool:=
 decide (A2 h.At f.Blocks.length)&&decide (A2 h.Join f.Blocks.length)&&!(h.At==h.Join)&&!((h.Then==-1)&&(h.Else==-1)) &&
 (((bA f h.At.toNat).End.Kind==2)&&!(Ek f h.At.toNat 0==Ek f h.At.toNat 1))&&(sideD f h.At (Ek f h.At.toNat 0) h.Then h.Join&&sideD f h.At (Ek f h.At.toNat 1) h.Else h.Join)
theorem m_refIs0{f:TFunc}(h:Sm f)(v:THammock):Ef f v=some (okF f&&isD f v):=by
 have hmax:f.Blocks.length<=maxLen:=h.1.blocks;unfold Ef;rw[m_check_ref h 2,An]
 cases hc:okF f with
 | false=>
  have:(Hh f 2 !=0)=true:=by unfold okF at hc;simpa using hc
  rw[this,Ag,Y9]
 | true=>
  have hc0:Hh f 2=0:=by simpa [okF] using hc
  have R:=rt_of h hc0
  have hs:Lx f=true:=by
   have:=((U4 (f:=f) (l:=2) (by omega) (by omega)).1 hc0).2.1;unfold Hi at this;rw[A7]at this;exact this.1
  rw[hc0,show((0:Int)!=0)=false from rfl,Aq,Fc];unfold isD
  have e1:(bif (bif (bif (decide (v.At<0)) then true else(decide ((f.Blocks.length:Int)<=v.At))) then true else(decide (v.Join<0))) then true else(decide ((f.Blocks.length:Int)<=v.Join))) = !(decide (A2 v.At f.Blocks.length)&&decide (A2 v.Join f.Blocks.length)):=by
   simp only[bif_chain];rw[Me];simp only[Y7,F9,Nr,Bool.and_eq_false_iff,zzL71];unfold A2;omega
  rw[e1]
  by_cases hA:A2 v.At f.Blocks.length
  ·by_cases hJ:A2 v.Join f.Blocks.length
   ·rw[Br hA,Br hJ]
    have hAn:v.At.toNat<f.Blocks.length:=by have:=hA.1;have:=hA.2;omega
    cases hAJ:(v.At==v.Join) with
    | true=>rfl
    | false=>
     have e2:(bif (v.Then==-1) then(v.Else==-1) else false)=((v.Then==-1)&&(v.Else==-1)):=by cases(v.Then==-1)<;>rfl
     rw[e2]
     cases hTE:((v.Then==-1)&&(v.Else==-1)) with
     | true=>rfl
     | false=>
      have eb:f.Blocks.getD v.At.toNat default=bA f v.At.toNat:=rfl;simp only[Fc,Dd,Lh,Aq,Ab hA,eb]
      by_cases hk:(bA f v.At.toNat).End.Kind=2
      ·have h2:=R.two _ hAn hk;have i0:A2 (0:Int) (bA f v.At.toNat).End.To.length:=⟨by omega,by omega⟩;have i1:A2 (1:Int) (bA f v.At.toNat).End.To.length:=⟨by omega,by omega⟩;have g0:(bA f v.At.toNat).End.To.getD (0:Int).toNat 0=Ek f v.At.toNat 0:=rfl;have g1:(bA f v.At.toNat).End.To.getD (1:Int).toNat 0=Ek f v.At.toNat 1:=rfl;rw[Ab (fun _=>i0),Ab (fun _=>i1),g0,g1,show((bA f v.At.toNat).End.Kind !=2)=false by simpa using hk,show((bA f v.At.toNat).End.Kind==2)=true by simpa using hk,Aq,Fc]
       cases(Ek f v.At.toNat 0==Ek f v.At.toNat 1) with
       | true=>rfl
       | false=>
        rw[Aq,m_ref_of f hmax,hs,Ag,An,Ab i0]
        show((Fk f (Ja (Bf f)) v.At (Ek f v.At.toNat 0) v.Then v.Join).bind _)=_
        rw[m_side R _ _ _ _ (Te R hAn hk 0 (by omega)),An,Ab (fun _=>i1),m_side R _ _ _ _ (Te R hAn hk 1 (by omega))];unfold sideD
        cases(bif v.Then==-1 then Ek f v.At.toNat 0==v.Join else(v.Then==Ek f v.At.toNat 0)&&(Om f v.At v.Then&&(Ek f v.Then.toNat 0==v.Join)))<;>rfl
      ·have e5:((bA f v.At.toNat).End.Kind !=2)=true:=by simpa using hk
       have e6:((bA f v.At.toNat).End.Kind==2)=false:=by simpa using hk
       rw[e5,e6,Ag,Ab (fun h=>by cases h),Ab (fun h=>by cases h)]
       rfl
   ·rw[Br hA,Cj hJ];rfl
  ·rw[Cj hA];rfl
theorem mid_pred{f:TFunc}(R:Rt f){a:Int}{x:Int}(hx:A2 x f.Blocks.length)(hm:Om f a x=true){p:Nat}(hp:p<f.Blocks.length){k:Nat}(hk:k<(bA f p).End.To.length)(ht:Ek f p k=x):(p:Int)=a:=by
 have hxn:x.toNat<f.Blocks.length:=by have:=hx.1;have:=hx.2;omega
 unfold Om at hm;simp only[A7,F9]at hm;have:(p:Int)∈prF f x.toNat:=(pr_mem R hxn).2 ⟨p,rfl,hp,by rw[Pz hx.1,<- ht];exact Aw hk⟩;rw[hm.2]at this
 simpa using this
theorem mid_kind{f:TFunc}{a x:Int}(hm:Om f a x=true):(bA f x.toNat).End.Kind=1:=by
 unfold Om at hm;simp only[A7,zzL53]at hm;exact hm.1.1
theorem isD_eq{f:TFunc}(R:Rt f)(v:THammock):isD f v=isH f v:=by
 rw[Me]
 constructor
 ·intro h;unfold isD at h;simp only[A7,F9,Nr,zzL32,zzL53]at h;obtain⟨⟨⟨⟨⟨hA,hJ⟩,hAJ⟩,hTE⟩,hk,hne⟩,h1,h2⟩:=h
  have hAn:v.At.toNat<f.Blocks.length:=by have:=hA.1;have:=hA.2;omega
  have hAc:((v.At.toNat:Nat):Int)=v.At:=Pz hA.1;have t0:=Te R hAn hk 0 (by omega);have t1:=Te R hAn hk 1 (by omega);unfold isH;rw[A7,F9,F9];refine⟨hA,?_⟩;unfold Rb;rw[show((bA f v.At.toNat).End.Kind==2)=true by simpa using hk,show(Ek f v.At.toNat 0==Ek f v.At.toNat 1)=false by simpa using hne,Fc,Lh,Ag,hAc]
  have hno:∀ x y:Int,A2 x f.Blocks.length->A2 y f.Blocks.length->Om f v.At y=true->Ek f y.toNat 0=x->Om f v.At x=true->False:=fun x y hx hy my hyx mx=>by
   have hyn:y.toNat<f.Blocks.length:=by have:=hy.1;have:=hy.2;omega
   have:=mid_pred R hx mx hyn (k:=0) (by rw[R.one _ hyn (mid_kind my)];omega) hyx
   have e:v.At.toNat=y.toNat:=by omega
   have:=mid_kind my;rw[<- e,hk]at this;exact absurd this (by decide)
  unfold sideD at h1 h2
  by_cases eT:v.Then = -1
  ·have eE:v.Else≠-1:=fun e=>by rw[eT,e]at hTE;cases hTE
   rw[show(v.Then==-1)=true by simpa using eT,Ag,zzL53]at h1;rw[show(v.Else==-1)=false by simpa using eE,Aq,A7,A7,zzL53,zzL53]at h2;obtain⟨b1,b2,b3⟩:=h2;have b2':=b2;rw[b1]at b2 b3
   have hm0:Om f v.At (Ek f v.At.toNat 0)=false:=by
    rw[Bool.eq_false_iff];exact fun hm=>hno _ _ t0 t1 b2 (by rw[b3,h1]) hm
   have c1:c1H f v.At (Ek f v.At.toNat 0) (Ek f v.At.toNat 1)=false:=by unfold c1H;rw[hm0];rfl
   have c2:c2H f v.At (Ek f v.At.toNat 0) (Ek f v.At.toNat 1)=false:=by unfold c2H;rw[hm0];rfl
   have c3:c2H f v.At (Ek f v.At.toNat 1) (Ek f v.At.toNat 0)=true:=by
    unfold c2H;rw[b2,b3,h1]
    simp;exact fun e=>hAJ e.symm
   rw[c1,c2,c3,Aq,Aq,Ag]
   cases v;simp_all
  ·rw[show(v.Then==-1)=false by simpa using eT,Aq,A7,A7,zzL53,zzL53]at h1;obtain⟨a1,a2,a3⟩:=h1;rw[a1]at a2 a3
   by_cases eE:v.Else = -1
   ·rw[show(v.Else==-1)=true by simpa using eE,Ag,zzL53]at h2
    have hm1:Om f v.At (Ek f v.At.toNat 1)=false:=by
     rw[Bool.eq_false_iff];exact fun hm=>hno _ _ t1 t0 a2 (by rw[a3,h2]) hm
    have c1:c1H f v.At (Ek f v.At.toNat 0) (Ek f v.At.toNat 1)=false:=by unfold c1H;rw[hm1,Bool.and_false];rfl
    have c2:c2H f v.At (Ek f v.At.toNat 0) (Ek f v.At.toNat 1)=true:=by
     unfold c2H;rw[a2,a3,h2]
     simp;exact fun e=>hAJ e.symm
    rw[c1,c2,Aq,Ag]
    cases v;simp_all
   ·rw[show(v.Else==-1)=false by simpa using eE,Aq,A7,A7,zzL53,zzL53]at h2;obtain⟨b1,b2,b3⟩:=h2;rw[b1]at b2 b3
    have c1:c1H f v.At (Ek f v.At.toNat 0) (Ek f v.At.toNat 1)=true:=by
     unfold c1H;rw[a2,b2,a3,b3]
     simp;exact fun e=>hAJ e.symm
    rw[c1,Ag]
    cases v;simp_all
 ·intro h;unfold isH at h;rw[A7,F9,F9]at h;obtain⟨hA,ho⟩:=h
  have hAn:v.At.toNat<f.Blocks.length:=by have:=hA.1;have:=hA.2;omega
  have hAc:((v.At.toNat:Nat):Int)=v.At:=Pz hA.1;obtain⟨hk,hne,hJ,hAJ,hc⟩:=ham_in R hAn ho;have t0:=Te R hAn hk 0 (by omega);have t1:=Te R hAn hk 1 (by omega);rw[hAc]at hAJ hc
  have n0:Ek f v.At.toNat 0≠-1:=by have:=t0.1;omega
  have n1:Ek f v.At.toNat 1≠-1:=by have:=t1.1;omega
  unfold isD;simp only[A7,F9,Nr,zzL32,zzL53];refine⟨⟨⟨⟨⟨hA,hJ⟩,fun e=>hAJ e.symm⟩,?_⟩,hk,hne⟩,?_⟩
  ·rcases hc with⟨a,b,_⟩|⟨a,b,_⟩|⟨a,b,_⟩
   ·rw[a];simp[n0]
   ·rw[a];simp[n0]
   ·rw[b];simp[n1]
  ·unfold sideD;rcases hc with⟨a,b,c,d,e,g⟩|⟨a,b,c,d,e⟩|⟨a,b,c,d,e⟩
   ·rw[<- a,<- b];rw[show(v.Then==-1)=false by rw[a];simpa using n0,show(v.Else==-1)=false by rw[b];simpa using n1,c,d,e,g]
    simp
   ·rw[<- a,b,<- c];rw[show(v.Then==-1)=false by rw[a];simpa using n0,d,e]
    simp
   ·rw[a,<- b,<- c];rw[show(v.Else==-1)=false by rw[b];simpa using n1,d,e]
    simp
theorem m_refIs{f:TFunc}(h:Sm f)(v:THammock):Ef f v=some (Lj f v):=by
 rw[m_refIs0 h];unfold Lj
 cases hc:okF f with
 | false=>rfl
 | true=>rw[isD_eq (rt_of h (by simpa [okF] using hc))]
def shT(f:TFunc)(a:Int)(s:Nat):Int:=bif (s:Int)==2 then -1 else Ek f a.toNat 0
def shE(f:TFunc)(a:Int)(s:Nat):Int:=bif (s:Int)==1 then -1 else Ek f a.toNat 1
theorem find_in{f:TFunc}(R:Rt f){a:Int}(hA:A2 a f.Blocks.length)(hk:(bA f a.toNat).End.Kind=2)(hc:okF f=true)(h:Sm f)(s:Nat)(hs:s<3) :
  (∃ j,j<f.Blocks.length/\Lj f ⟨a,shT f a s,shE f a s,(j:Int)⟩=true/\Ah (m_lockstepref14_Find_L1 f a (s:Int)) (0:Int)=some (.inr (⟨a,shT f a s,shE f a s,(j:Int)⟩,true))) \/
  ((∀ j,j<f.Blocks.length->Lj f ⟨a,shT f a s,shE f a s,(j:Int)⟩=false)/\Ah (m_lockstepref14_Find_L1 f a (s:Int)) (0:Int)=some (.inl ())):=by
 have hAn:a.toNat<f.Blocks.length:=by have:=hA.1;have:=hA.2;omega
 have h2:=R.two _ hAn hk;have i0:A2 (0:Int) (bA f a.toNat).End.To.length:=⟨by omega,by omega⟩;have i1:A2 (1:Int) (bA f a.toNat).End.To.length:=⟨by omega,by omega⟩;have hhi:=R.hi
 have key:∀ j:Nat,j<f.Blocks.length->m_lockstepref14_Find_L1 f a (s:Int) (j:Int)=bif Lj f ⟨a,shT f a s,shE f a s,(j:Int)⟩ then some (.done (.inr (⟨a,shT f a s,shE f a s,(j:Int)⟩,true))) else some (.next (((j+1:Nat):Int))):=fun j hj=>by
  unfold m_lockstepref14_Find_L1;have eb:f.Blocks.getD a.toNat default=bA f a.toNat:=rfl;have g0:(bA f a.toNat).End.To.getD (0:Int).toNat 0=Ek f a.toNat 0:=rfl;have g1:(bA f a.toNat).End.To.getD (1:Int).toNat 0=Ek f a.toNat 1:=rfl;simp only[eb,Cy hj,Ag,Ab i0,Ab i1,g0,g1]
  have eE:(bif ((s:Int)==1) then(some (-1:Int)) else(some (Ek f a.toNat 1)))=some (shE f a s):=by unfold shE;cases((s:Int)==1)<;>rfl
  have eT:(bif ((s:Int)==2) then(some (-1:Int)) else(some (Ek f a.toNat 0)))=some (shT f a s):=by unfold shT;cases((s:Int)==2)<;>rfl
  rw[eE,An,eT,An,m_refIs h,An,w1 (show j<4611686018427387904 by omega)]
 rcases loop_first (m_lockstepref14_Find_L1 f a (s:Int)) (fun j=>Lj f ⟨a,shT f a s,shE f a s,(j:Int)⟩) (fun j=>.inr (⟨a,shT f a s,shE f a s,(j:Int)⟩,true)) (.inl ()) f.Blocks.length
  (fun j hj hp=>by rw[key j hj,hp];rfl) (fun j hj hp=>by rw[key j hj,hp];rfl) (by unfold m_lockstepref14_Find_L1;simp only[Fo,Aq]) with⟨j,hj,hp,hl⟩|⟨hp,hl⟩
 ·exact .inl ⟨j,hj,hp,hl⟩
 ·exact .inr ⟨hp,hl⟩
theorem findHR_some{f:TFunc}{v:THammock}(hv:Lj f v=true):O6 f v.At=(v,true):=by
 unfold Lj at hv;rw[A7]at hv;unfold O6;rw[hv.1,Ag,find_some hv.2]
theorem Xw{f:TFunc}{a:Int}(hn:∀ v,Lj f v=true->v.At≠a):O6 f a=(zH,false):=by
 unfold O6
 cases hc:okF f with
 | false=>rfl
 | true=>
  rw[Ag];exact find_none fun v hv=>hn v (by unfold Lj;rw[hc,hv];rfl)
theorem is_shape{f:TFunc}(R:Rt f){v:THammock}(hv:Lj f v=true):(bA f v.At.toNat).End.Kind=2/\A2 v.At f.Blocks.length/\A2 v.Join f.Blocks.length/\∃ s,s<3/\v.Then=shT f v.At s/\v.Else=shE f v.At s:=by
 unfold Lj isH at hv;simp only[A7,F9]at hv;obtain⟨hc,hA,ho⟩:=hv
 have hAn:v.At.toNat<f.Blocks.length:=by have:=hA.1;have:=hA.2;omega
 obtain⟨hk,hne,hJ,hAJ,hcs⟩:=ham_in R hAn ho;refine⟨hk,hA,hJ,?_⟩;rcases hcs with⟨a,b,_⟩|⟨a,b,_⟩|⟨a,b,_⟩
 ·exact⟨0,by omega,a,b⟩
 ·exact⟨1,by omega,a,b⟩
 ·exact⟨2,by omega,a,b⟩
theorem m_refFind{f:TFunc}(h:Sm f)(a:Int):G2 f a=some (O6 f a):=by
 unfold G2;rw[m_check_ref h 2,An]
 cases hc:okF f with
 | false=>
  have e:(Hh f 2 !=0)=true:=by unfold okF at hc;simpa using hc
  rw[e];simp only[Ag];rw[Ab (fun h=>by cases h)];unfold O6;rw[hc];rfl
 | true=>
  have hc0:Hh f 2=0:=by simpa [okF] using hc
  have R:=rt_of h hc0
  have e0:(bif (bif (Hh f 2 !=0) then true else(decide (a<0))) then true else(decide ((f.Blocks.length:Int)<=a))) = !decide (A2 a f.Blocks.length):=by
   rw[hc0,show((0:Int)!=0)=false from rfl];simp only[bif_chain,zzL132];rw[Me];simp only[Y7,F9,Nr,zzL71];unfold A2;omega
  rw[e0]
  by_cases hA:A2 a f.Blocks.length
  ·rw[Br hA,Dd,Aq,Ab (fun _=>hA)];have eb:f.Blocks.getD a.toNat default=bA f a.toNat:=rfl;rw[eb]
   by_cases hk:(bA f a.toNat).End.Kind=2
   ·rw[show((bA f a.toNat).End.Kind !=2)=false by simpa using hk,Aq,Ab hA];have hin:=find_in R hA hk hc h
    have step:∀ s:Nat,s<3->(∃ v,Lj f v=true/\v.At=a/\Bj f a (s:Int)=some (.done (.inr (v,true))))\/((∀ j:Nat,j<f.Blocks.length->Lj f ⟨a,shT f a s,shE f a s,(j:Int)⟩=false)/\Bj f a (s:Int)=some (.next (((s+1:Nat):Int)))):=fun s hs=>by
     unfold Bj;have hd:decide ((s:Int)<3)=true:=Br (by omega);rw[hd,Ag];rcases hin s hs with⟨j,hj,hp,hl⟩|⟨hp,hl⟩
     ·exact .inl ⟨_,hp,rfl,by rw[hl];rfl⟩
     ·refine .inr ⟨hp,?_⟩;rw[hl,An,w1 (show s<4611686018427387904 by omega)]
    have fin:∀ v,Lj f v=true->v.At=a->Ah (Bj f a) (0:Int)=some (.inr (v,true))->(Ah (Bj f a) (0:Int)).bind (fun x18=>(match x18 with|(.inl _)=>(some ((⟨(0:Int),(0:Int),(0:Int),(0:Int)⟩:THammock),false))|(.inr r20)=>(some r20)))=some (O6 f a):=fun v hv e hl=>by
     rw[hl,<- e,findHR_some hv];rfl
    rcases step 0 (by omega) with⟨v,h1,h2,h3⟩|⟨p0,n0⟩
    ·exact fin v h1 h2 (Ao h3)
    ·have n0':Ah (Bj f a) (0:Int)=Ah (Bj f a) ((1:Nat):Int):=Ax n0;rcases step 1 (by omega) with⟨v,h1,h2,h3⟩|⟨p1,n1⟩
     ·exact fin v h1 h2 (by rw[n0'];exact Ao h3)
     ·have n1':=Ax n1;rcases step 2 (by omega) with⟨v,h1,h2,h3⟩|⟨p2,n2⟩
      ·exact fin v h1 h2 (by rw[n0',n1'];exact Ao h3)
      ·have n2':=Ax n2
       have hend:Ah (Bj f a) (0:Int)=some (.inl ()):=by
        rw[n0',n1',n2'];refine Ao ?_;unfold Bj;rfl
       rw[hend,Xw]
       ·rfl
       ·intro v hv e;obtain⟨_,_,hJ,s,hs,eT,eE⟩:=is_shape R hv
        have hj:v.Join.toNat<f.Blocks.length:=by have:=hJ.1;have:=hJ.2;omega
        have ev:v=⟨a,shT f a s,shE f a s,((v.Join.toNat:Nat):Int)⟩:=by
         rw[Pz hJ.1,<- e,<- eT,<- eE]
        rw[ev]at hv
        have hcs:s=0\/s=1\/s=2:=by omega
        rcases hcs with rfl|rfl|rfl
        ·rw[p0 _ hj]at hv;cases hv
        ·rw[p1 _ hj]at hv;cases hv
        ·rw[p2 _ hj]at hv;cases hv
   ·rw[show((bA f a.toNat).End.Kind !=2)=true by simpa using hk,Ag,Xw]
    ·rfl
    ·intro v hv e;obtain⟨hk2,_⟩:=is_shape R hv;rw[e]at hk2;exact hk hk2
  ·rw[Cj hA,Lh];simp only[Ag];rw[Ab (fun h=>by cases h),Xw]
   ·rfl
   ·intro v hv e;obtain⟨_,hA2,_⟩:=is_shape R hv;rw[e]at hA2;exact hA hA2
def lone(e:Lz)(b r:Int):TFunc:=⟨[b],r,[⟨[],[],e⟩]⟩
theorem ones{α:Type}(l:List α):(l.map fun _=>1).sum=l.length:=by induction l with|nil=>rfl|cons a l ih=>simp[ih];omega
theorem typed_op{f:TFunc}(h:Sp f 2=true){b:Ad}(hb:b∈f.Blocks){o:C1}(ho:o∈b.Ops):J4 o=true:=by
 simp only[Sp,Hz,A7,zzL29]at h;have:=(h.1.2 b hb).2 o ho;rw[opTyped_iff (m:=22) rfl]at this;exact this.1
set_option maxRecDepth 100000
theorem m_awake14:m_locksteplaw14_awake=some true:=by kernel_rfl
theorem ham_beq(v x:THammock):((v.At==x.At)&&((v.Then==x.Then)&&((v.Else==x.Else)&&((v.Join==x.Join)&&true))))=decide (v=x):=ham_eq v x
def Yh(f:TFunc)(i:Nat):List THammock:=(List.range i).flatMap fun i=>(Rb f i).toList
theorem Yi(f:TFunc)(i:Nat):Yh f (i+1)=Yh f i++(Rb f i).toList:=by unfold Yh;rw[Y8,List.flatMap_append];simp
theorem pre_le(f:TFunc):∀ d i,∃ r,Yh f (i+d)=Yh f i++r
 | 0,i=>⟨[],by simp⟩
 | d+1,i=>by
  obtain⟨r,hr⟩:=pre_le f d i;exact⟨r++(Rb f (i+d)).toList,by rw[<- Po,Yi,hr,zzL93]⟩
theorem pre_at{f:TFunc}{i:Nat}(hi:i<f.Blocks.length){v:THammock}(hv:Rb f i=some v):(Yh f i).length<(allH f).length/\(allH f).getD (Yh f i).length default=v:=by
 obtain⟨r,hr⟩:=pre_le f (f.Blocks.length-(i+1)) (i+1)
 have e:Yh f (i+1+(f.Blocks.length-(i+1)))=allH f:=by rw[show i+1+(f.Blocks.length-(i+1))=f.Blocks.length by omega];rfl
 rw[e,Yi,hv]at hr;rw[hr]
 constructor
 ·simp
 ·simp[List.getD]
theorem pre_none{f:TFunc}{i:Nat}(hv:Rb f i=none):Yh f (i+1)=Yh f i:=by rw[Yi,hv];simp
theorem pre_some{f:TFunc}{i:Nat}{v:THammock}(hv:Rb f i=some v):(Yh f (i+1)).length=(Yh f i).length+1:=by rw[Yi,hv];simp
theorem pre_len{f:TFunc}:∀ i,(Yh f i).length<=i
 | 0=>by simp[Yh]
 | i+1=>by
  rw[Yi,Fp];have:=pre_len (f:=f) i;have:=toList_le (Rb f i);omega
theorem m_refOps{f:TFunc}(h:Sm f){v:THammock}(hi:Lj f v=true):F4 f v=some (opsH f v):=by
 have hroom:(2000:Nat)<=room:=by decide
 have hi':=hi;unfold Lj at hi;rw[A7]at hi;have R:=rt_of h (by simpa [okF] using hi.1);obtain⟨i,hin,ho⟩:=mem_all.1 (is_mem.1 hi.2);obtain⟨h1,h2⟩:=Zo R hin ho;have l1:=Sg R h1;have l2:=Sg R h2
 have one:∀ x:Int,(x = -1\/A2 x f.Blocks.length)->∀ l:List C1,l.length<=512->(bif (decide ((0:Int)<=x)) then(A6 (A2 x f.Blocks.length) (A6 (l.length+(f.Blocks.getD x.toNat default).Ops.length<=room) (some (l++(f.Blocks.getD x.toNat default).Ops)))) else(some l))=some (l++opsX f x):=fun x hx l hl=>by
  rcases hx with rfl|hx
  ·unfold opsX;rw[show((-1:Int)!=-1)=false from rfl,Aq,List.append_nil];rfl
  ·have e1:x≠-1:=by have:=hx.1;omega
   have hlen:=Sg R (.inr hx);unfold opsX at hlen ⊢;rw[show(x !=-1)=true by simpa using e1,Ag]at hlen ⊢;rw[Br hx.1,Ag,Ab hx,Ab (show l.length+(f.Blocks.getD x.toNat default).Ops.length<=room by have:(f.Blocks.getD x.toNat default).Ops.length<=512:=hlen;omega)]
 unfold F4;rw[one v.Then h1 [] (by simp),An,Su,one v.Else h2 _ l1,An]
 rfl
theorem op_plain{f:TFunc}(h:Sm f)(hc:okF f=true){b:Ad}(hb:b∈f.Blocks){o:C1}(ho:o∈b.Ops):J4 o=true:=
 typed_op ((U4 (f:=f) (l:=2) (by omega) (by omega)).1 (by simpa [okF] using hc)).2.2.1 hb ho
theorem opsH_mem{f:TFunc}(h:Sm f){v:THammock}(hi:Lj f v=true){o:C1}(ho:o∈opsH f v):∃ b∈f.Blocks,o∈b.Ops:=by
 unfold Lj at hi;rw[A7]at hi;have R:=rt_of h (by simpa [okF] using hi.1);obtain⟨i,hin,hm⟩:=mem_all.1 (is_mem.1 hi.2);obtain⟨h1,h2⟩:=Zo R hin hm
 have one:∀ x:Int,(x = -1\/A2 x f.Blocks.length)->o∈opsX f x->∃ b∈f.Blocks,o∈b.Ops:=fun x hx hox=>by
  unfold opsX at hox;rcases hx with rfl|hx
  ·cases hox
  ·rw[show(x !=-1)=true by have:=hx.1;simp;omega,Ag]at hox;exact⟨_,Aw (by have:=hx.1;have:=hx.2;omega),hox⟩
 unfold opsH at ho;rcases zzL18.1 ho with h3|h3
 ·exact one _ h1 h3
 ·exact one _ h2 h3
theorem lane_kind{o:C1}(h:J4 o=true)(hl:o.Lanes=1):¬ 21<=o.Kind:=by
 simp only[J4,A7]at h;have hk:=isK_ne h.1.2.1.1.1;have hs:=h.1.2.1.1.2;intro h21
 have hc:o.Kind=21\/o.Kind=22:=by omega
 rw[hl]at hs;rcases hc with e|e<;>rw[e]at hs<;>exact absurd hs (by simp[sfitS])
theorem m_refMerges{f:TFunc}(h:Sm f)(v:THammock):Ha f v=some (mergesR f v):=by
 unfold Ha mergesR;rw[m_refIs h,An]
 cases hi:Lj f v with
 | false=>rfl
 | true=>
  have hl:=opsH_len h hi
  have hc:okF f=true:=by unfold Lj at hi;rw[A7]at hi;exact hi.1
  rw[Dd,Aq,m_refOps h hi,An,Fc]
  have key:∀ i,i<(opsH f v).length->m_lockstepref14_Merges_L1 (opsH f v) (i:Int)=bif ((opsH f v).getD i default).Lanes !=1 then some (.done (.inr false)) else some (.next (((i+1:Nat):Int))):=fun i hil=>by
   unfold m_lockstepref14_Merges_L1;simp only[Cy hil,Ag,As,Ab (Ap hil),Ab (fun _=>Ap hil),w1 (show i<4611686018427387904 by omega)]
   by_cases e:((opsH f v).getD i default).Lanes=1
   ·obtain⟨b,hb,ho⟩:=opsH_mem h hi (Aw (d:=(default:C1)) hil);rw[show(((opsH f v).getD i default).Lanes !=1)=false by simpa using e,Aq,Aq,Cj (lane_kind (op_plain h hc hb ho) e),Aq]
   ·rw[show(((opsH f v).getD i default).Lanes !=1)=true by simpa using e,Ag]
  rcases loop_first (m_lockstepref14_Merges_L1 (opsH f v)) (fun i=>((opsH f v).getD i default).Lanes !=1) (fun _=>.inr false) (.inl ()) (opsH f v).length (fun i hil hp=>by rw[key i hil,hp];rfl) (fun i hil hp=>by rw[key i hil,hp];rfl)
   (by unfold m_lockstepref14_Merges_L1;simp only[Fo,Aq]) with⟨i,hil,hp,hL⟩|⟨hp,hL⟩
  ·rw[hL]
   have:((opsH f v).all fun o=>o.Lanes==1)=false:=by
    rw[Bool.eq_false_iff];intro ha;have:=zzL29.1 ha _ (Aw (d:=(default:C1)) hil)
    have hp':((opsH f v).getD i default).Lanes≠1:=by simpa using hp
    exact hp' (by simpa using this)
   rw[this];rfl
  ·rw[hL]
   have:((opsH f v).all fun o=>o.Lanes==1)=true:=by
    rw[zzL29];intro o ho;obtain⟨i,hil,he⟩:=Py ho;have:=hp i hil;rw[Ai _ _ _ hil,he]at this
    simpa using this
   rw[this];rfl
theorem finds_loop{f:TFunc}(h:Sm f)(hb:f.Blocks.length<=maxLen):Ah (Bc f (allHR f)) ((0:Int),(0:Int))=some (.inl ((allHR f).length:Int)):=by
 cases hc:okF f with
 | false=>
  have hA:allHR f=[]:=by unfold allHR;rw[hc];rfl
  rw[hA]
  have hL:=Fy (Bc f []) (fun i=>((0:Int),(i:Int))) (.inl ((([]:List THammock).length:Nat):Int)) f.Blocks.length (fun i hi=>by
   unfold Bc
   have e:O6 f (i:Int)=(zH,false):=by unfold O6;rw[hc];rfl
   simp only[Cy hi,Ag,m_refFind h,An,e];rw[Ab (fun hq=>by cases hq)]
   simp only[Aq,An,Jx hi hb]) (by unfold Bc;simp only[Fo,Aq];rfl)
  exact hL
 | true=>
  have hA:allHR f=allH f:=by unfold allHR;rw[hc];rfl
  have R:=rt_of h (by simpa [okF] using hc);have h64:=R.hi;rw[hA]
  have hL:=Fy (Bc f (allH f)) (fun i=>(((Yh f i).length:Int),(i:Int))) (.inl ((allH f).length:Int)) f.Blocks.length (fun i hi=>by
   have hpl:=pre_len (f:=f) i;unfold Bc;simp only[Cy hi,Ag,m_refFind h,An]
   have e:O6 f (i:Int)=(match Rb f i with|some v=>(v,true)|none=>(zH,false)):=by
    unfold O6 findH;rw[hc,Ag,if_pos (Ap hi),As]
    try cases Rb f i<;>rfl
   rw[e]
   cases ho:Rb f i with
   | none=>
    rw[Ab (fun hq=>by cases hq)];simp only[Aq,An,Jx hi hb,pre_none ho]
   | some v=>
    obtain⟨p1,p2⟩:=pre_at hi ho;have d1:decide (((allH f).length:Int)<=((Yh f i).length:Int))=false:=Cj (by omega);simp only[d1,As,p2,ham_beq,decide_true,Dd,Ag,Aq];rw[Ab (fun _=>Ap p1)]
    simp only[An,w1 (show i<4611686018427387904 by omega),w1 (show(Yh f i).length<4611686018427387904 by omega),pre_some ho]) (by unfold Bc;simp only[Fo,Aq];rfl)
  exact hL
theorem finds14(f:TFunc)(v:THammock)(a:Int)(hf:InF f):Gh f v a=some true:=by
 unfold Gh;rw[m_awake14,An,Dd,Aq];obtain⟨b,hb,hsm⟩:=m_small11 hf;rw[hb,An]
 cases b with
 | false=>rfl
 | true=>
  have h:=hsm rfl
  have hne:∀ b:Bool,(b !=b)=false:=fun b=>by cases b<;>rfl
  simp only[Dd,Aq,m_Find h,m_refFind h,An,ham_beq,decide_true,hne];simp only[show((false:Bool)==false)=true from rfl,Ag,m_Is h,m_refIs h,An,hne,m_Merges h,m_refMerges h,Aq]
  have hcost:(bif Lj f v then((F4 f v).bind fun x11=>some ((x11.length:Int))) else some (0:Int))=some (bif Lj f v then((opsH f v).length:Int) else 0):=by
   cases hi:Lj f v with
   | false=>rfl
   | true=>rw[Ag,Ag,m_refOps h hi,An]
  rw[hcost,An,m_Cost h,An]
  have hni:∀ z:Int,(z !=z)=false:=fun z=>by simp
  rw[hni,Aq,m_All' h,An,finds_loop h hf.blocks,An]
  simp
def hitB(L:List (List Int))(s:Nat->Bool)(i:Nat):Bool:=(List.range L.length).any fun j=>(Lc L i (-1)).getD j false&&s j
def goesE(L:List (List Int)):Nat->Nat->Bool
 | 0=>fun k=>(L.getD k []).isEmpty
 | m+1=>fun k=>goesE L m k || (decide (k=m)&&!hitB L (goesE L m) m)
def exitRow(L:List (List Int))(s:Nat->Bool)(k:Nat):List Int:=L.getD k []++(if s k=true then[(L.length:Int)] else[])
def withE(L:List (List Int))(s:Nat->Bool):List (List Int):=(List.range L.length).map (exitRow L s)++[[]]
def exitL(L:List (List Int)):List (List Int):=withE L (goesE L L.length)
def shutL(L:List (List Int)):List Int:=((List.range L.length).filter fun i=>!hitB L (goesE L 0) i).map Int.ofNat
section
variable {L:List (List Int)}
end
section
variable {S T:Nat->List Nat}
variable (hT:∀ x y,y∈T x->x∈S y)
include hT
end
section
variable {L:List (List Int)} (hm:Lq L=true)
include hm
end
def ptreeL(L:List (List Int)):List Int:=Wl (Ch (exitL L)) L.length
structure Facts8:Prop where
 exit:∀(g:TGraph),Fits g.Succ->Fits g.Pred->m_pdom_Exit g=some (if Vg g=true/\g.Succ.length<64 then(Ja (exitL g.Succ),0) else(g0,5))
 tree:∀(g:TGraph),Fits g.Succ->Fits g.Pred->m_pdom_Tree g=some (if Vg g=true/\g.Succ.length<64 then ptreeL g.Succ else[])
 over:∀(t:List Int) (a b:Int),t.length<=64->m_pdom_Over t a b=some (Yg t a b)
 shut:∀(g:TGraph),Fits g.Succ->Fits g.Pred->m_pdom_Shut g=some (if Vg g=true then shutL g.Succ else[])
section
variable {L:List (List Int)} (hm:Lq L=true) (hn:L.length<64)
include hm hn
end
section
variable {L:List (List Int)}
variable (hm:Lq L=true)
include hm
omit hm in
omit hm in
end
section
variable {L:List (List Int)} (hm:Lq L=true)
include hm
variable (hn:L.length<64)
include hn
end
section
variable {f:TFunc} (R:Rt f)
include R
end
end
end Go.Proofs.YtmkiepobhjiabaaGreat
