/-
  The machine, the program's functions and the laws' arithmetic: part 2 of 6.
-/
import Derived.Test.YtjpnobeadcdnoaaGreatPk1
import Derived.Laws.IdiomRangeMap
import Derived.Orders
set_option linter.unusedSectionVars false
set_option linter.defProp false
set_option linter.unusedVariables false
set_option linter.unusedSimpArgs false
namespace Go.Proofs.YtjpnobeadcdnoaaGreat
noncomputable section
open Go Go.RowKit
section
variable {P:Program} {Γ:Ix} {σ:Sto} {I:Nat->Nat->Prop} {θ:Nat->Option (Nat×Nat)} {a:Act} {w:World} {o:Oper}
theorem Ue{t:TypeId}{k:IntKind}{e:TypeId}(h:RB P t=some (k,e)):∃ kt,P.underlying t=some (.map kt e)/\P.underlying kt=some (.int k):=by
 grind [RB]
def ZM(I:Nat->Nat->Prop)(w:World)(v:Value)(x:AV):Prop:=RepV I w v x/\x.strip=x
def GR(R:Value->AV->Prop)(k:IntKind):Nat->List MapEntry->List (Int×AV)->Prop
 | _,[],[]=>True
 | n,e::es,(i,x)::l=>e.key = .int k i/\e.born=n/\R e.val x/\GR R k (n+1) es l
 | _,_,_=>False
theorem OW{R:Value->AV->Prop}{k:IntKind}:∀(l:List (Int×AV)) (es:List MapEntry) (n:Nat),es.length=l.length->
  (∀ i,i<l.length->∃ v,es[i]?=some { key:=.int k (l.getD i (0,.any)).1,val:=v,born:=n+i }/\R v (l.getD i (0,.any)).2)->GR R k n es l
 | [],[],n,_,_=>trivial
 | [],_::_,n,h,_=>by simp at h
 | _::_,[],n,h,_=>by simp at h
 | (i,x)::l,e::es,n,h,hr=>by
  obtain⟨v,h1,h2⟩:=hr 0 (by simp);simp at h1 h2;subst h1;refine⟨rfl,rfl,h2,OW l es _ (by grind) λj hj=>?_⟩;obtain⟨v',h3,h4⟩:=hr (j+1) (by grind)
  grind
theorem DH{R:Value->AV->Prop}{k:IntKind}:∀(l:List (Int×AV)) (es:List MapEntry) (n:Nat),GR R k n es l->es.length=l.length /\
  ∀ i,i<l.length->∃ v,es[i]?=some { key:=.int k (l.getD i (0,.any)).1,val:=v,born:=n+i }/\R v (l.getD i (0,.any)).2
 | [],[],n,_=>⟨rfl,λi hi=>absurd hi (Us _)⟩
 | [],_::_,n,h=>h.elim
 | _::_,[],n,h=>h.elim
 | (i,x)::l,e::es,n,h=>by
  obtain⟨h1,h2,h3,h4⟩:=h;obtain⟨h5,h6⟩:=DH l es _ h4;refine⟨by simp[h5],λj hj=>?_⟩
  cases j with
  | zero=>exact⟨e.val,by cases e;simp_all,by grind⟩
  | succ j=>
   grind
theorem pM{own:Nat->Option Own}{es:Array MapEntry}{nn:Bool}{k:IntKind}{l:List (Int×AV)}{n:Nat}(h:ObjR I own θ w (.map es n) (.map nn k l)):n=l.length/\GR (ZM I w) k 0 es.toList l:=by
 cases h with
 | map es nn k l hs hr=>exact⟨rfl,OW l _ 0 (by grind) λi hi=>by obtain⟨v,h1,h2⟩:=hr i hi;exact⟨v,by grind,h2⟩⟩
theorem HO{own:Nat->Option Own}{es:Array MapEntry}{k:IntKind}{l:List (Int×AV)}(nn:Bool)(h:GR (ZM I w) k 0 es.toList l):ObjR I own θ w (.map es l.length) (.map nn k l):=by
 obtain⟨h1,h2⟩:=DH l _ 0 h
 exact .map es nn k l (by grind) λi hi=>by obtain⟨v,h3,h4⟩:=h2 i hi;exact⟨v,by grind,h4⟩
theorem findNow_ents{R:Value->AV->Prop}{k:IntKind}{key:Int}{z:AV}{zv:Value}(hz:R zv z):∀(l:List (Int×AV)) (es:List MapEntry) (n m:Nat),GR R k n es l->
  (C2 l key=true/\∃ i v,Instr.findNow (.int k) (.int k key) es m=some (some (m+i,v))/\i<es.length/\R v (mget z l key))\/(C2 l key=false/\Instr.findNow (.int k) (.int k key) es m=some none/\mget z l key=z)
 | [],[],n,m,_=>.inr ⟨rfl,rfl,rfl⟩
 | [],_::_,n,m,h=>h.elim
 | _::_,[],n,m,h=>h.elim
 | (i,x)::l,e::es,n,m,h=>by
  obtain⟨h1,h2,h3,h4⟩:=h
  have hs:Instr.sameNow (.int k) (.int k key) e.key=some (key==i):=by rw[h1];simp[Instr.sameNow]
  by_cases hk:key=i
  ·subst hk;refine .inl ⟨by simp[C2],0,e.val,by simp[Instr.findNow,hs],by simp,?_⟩
   grind [mget]
  ·rcases findNow_ents (key:=key) hz l es _ (m+1) h4 with⟨g1,j,v,g2,g3,g4⟩|⟨g1,g2,g3⟩
   ·refine .inl ⟨by grind [C2],j+1,v,?_,by grind,?_⟩
    ·grind [Instr.findNow]
    grind [mget]
   grind [mget,Instr.findNow,C2]
theorem ents_put{R:Value->AV->Prop}{k:IntKind}{key:Int}{x:AV}{v:Value}(hv:R v x):∀(l:List (Int×AV)) (es:List MapEntry) (n m:Nat),GR R k n es l->
  (C2 l key=true/\(Hr l key x).length=l.length/\∃ i u,Instr.findNow (.int k) (.int k key) es m=some (some (m+i,u))/\(∃ b,es[i]?=some b/\b.key = .int k key)/\GR R k n (es.modify i λe=>{ e with key:=.int k key,val:=v }) (Hr l key x)) \/
  (C2 l key=false/\(Hr l key x).length=l.length+1/\Instr.findNow (.int k) (.int k key) es m=some none/\GR R k n (es++[{ key:=.int k key,val:=v,born:=n+l.length }]) (Hr l key x))
 | [],[],n,m,_=>.inr ⟨rfl,rfl,rfl,⟨rfl,rfl,hv,trivial⟩⟩
 | [],_::_,n,m,h=>h.elim
 | _::_,[],n,m,h=>h.elim
 | (i,y)::l,e::es,n,m,h=>by
  obtain⟨h1,h2,h3,h4⟩:=h
  have hs:Instr.sameNow (.int k) (.int k key) e.key=some (key==i):=by rw[h1];simp[Instr.sameNow]
  by_cases hk:key=i
  ·subst hk
   have hb:(key==key)=true:=by simp
   refine .inl ⟨by simp[C2],by simp[Hr],0,e.val,by simp[Instr.findNow,hs],⟨e,by simp,h1⟩,?_⟩;simp only[Hr,hb,Ae]
   trivial
  ·have hb :=zzL17.2 hk;rcases ents_put (key:=key) hv l es _ (m+1) h4 with⟨g1,gl,j,u,g2,g3,g4⟩|⟨g1,gl,g2,g4⟩
   ·refine .inl ⟨by grind [C2],by grind [Hr],j+1,u,?_,by grind,?_⟩
    ·grind [Instr.findNow]
    ·simp only[Hr,hb,An]
     trivial
   ·refine .inr ⟨by grind [C2],by grind [Hr],by grind [Instr.findNow],?_⟩;simp only[Hr,hb,  Vq]
    have e1:n+(l.length+1)=n+1+l.length:=by omega
    rw[e1]
    trivial
theorem cu{R:Value->AV->Prop}{k:IntKind}{l:List (Int×AV)}{es:List MapEntry}{n:Nat}(h:GR R k n es l):es.length=l.length:=(DH l es n h).1
theorem Qr{b:Bool}{kt:TypeId}{k:IntKind}{key:Int}(hk:P.underlying kt=some (.int k)):(Instr.checkKey b 10000 kt (.int k key)).run P w = .ok () w:=by
 have h:∀ n ,(Instr.checkKey b (n+1) kt (.int k key)).run P w = .ok () w:=λn=>by simp[Instr.checkKey,Cl hk]
 grind
theorem Rx{g:Nat}{es:Array MapEntry}{n:Nat}(h:w.heap[g]?=some (.map es n)):(getObj g).run P w = .ok (.map es n) w:=by simp[getObj,Sem.run,h]
theorem Sp{kt:TypeId}{k:IntKind}{key:Int}(hk:P.underlying kt=some (.int k)){es:List MapEntry}{r:Option (Nat×Value)}(hf:Instr.findNow (.int k) (.int k key) es 0=some r):(Instr.findKey kt (.int k key) es).run P w = .ok r w:=by
 simp[Instr.findKey,Cl hk,hf]
theorem N2{t kt e0:TypeId}{k:IntKind}{i:Int}{ok:Bool}{g:Nat}{es:Array MapEntry}{n:Nat}{r:Option (Nat×Value)}{zv:Value}(hm:P.underlying t=some (.map kt e0))(hkt:P.underlying kt=some (.int k))(hz:(zeroValue e0).run P w = .ok zv w)
  (h2:w.heap[g]?=some (.map es n)) (hf:Instr.findNow (.int k) (.int k i) es.toList 0=some r) :
  (Instr.lookup t (.map (some g)) (.int k i) ok).run P w = .ok (if ok then .tuple #[match r with|some (_,v)=>v|none=>zv,.bool r.isSome] else match r with|some (_,v)=>v|none=>zv) w:=by
 cases r with
 | none=>cases ok<;>simp[Instr.lookup,Cl hm,Rx h2,Qr hkt,Sp hkt hf,hz]
 | some r=>cases ok<;>simp[Instr.lookup,Cl hm,Rx h2,Qr hkt,Sp hkt hf]
theorem CA{t kt e0:TypeId}{k:IntKind}{i:Int}{ok:Bool}{zv:Value}(hm:P.underlying t=some (.map kt e0))(hkt:P.underlying kt=some (.int k))(hz:(zeroValue e0).run P w = .ok zv w) :
  (Instr.lookup t (.map none) (.int k i) ok).run P w = .ok (if ok then .tuple #[zv,.bool false] else zv) w:=by
 have hf:Instr.findNow (.int k) (.int k i) [] 0=some _:=rfl
 simp_all [Instr.lookup,Sp,Qr,Cl]
theorem s5{k:IntKind}{i:Int}:(Instr.keyThatStays (.int k i) (.int k i)).run P w = .ok (.int k i) w:=by
 simp[Instr.keyThatStays,Instr.sameBits]
theorem CB{t kt e0:TypeId}{k:IntKind}{i:Int}{g:Nat}{es:Array MapEntry}{n:Nat}{v:Value}(hm:P.underlying t=some (.map kt e0))(hkt:P.underlying kt=some (.int k))
  (h2:w.heap[g]?=some (.map es n)) (hf:Instr.findNow (.int k) (.int k i) es.toList 0=some none) :
  (Instr.mapUpdate t (.map (some g)) (.int k i) v).run P w = .ok () (Uw w g (.map (es.push { key:=.int k i,val:=v,born:=n }) (n+1))):=by
 simp[Instr.mapUpdate,Cl hm,Rx h2,Qr hkt,Sp hkt hf];simp[setObj,Sem.run,Uw,h2]
theorem SP{t kt e0:TypeId}{k:IntKind}{i:Int}{g j:Nat}{es:Array MapEntry}{n:Nat}{v u:Value}(hm:P.underlying t=some (.map kt e0))(hkt:P.underlying kt=some (.int k))
  (h2:w.heap[g]?=some (.map es n)) (hf:Instr.findNow (.int k) (.int k i) es.toList 0=some (some (j,u))) {b:MapEntry} (hb:es[j]?=some b) (hbk:b.key = .int k i) :
  (Instr.mapUpdate t (.map (some g)) (.int k i) v).run P w = .ok () (Uw w g (.map (es.modify j λe=>{ e with key:=.int k i,val:=v }) n)):=by
 simp[Instr.mapUpdate,Cl hm,Rx h2,Qr hkt,Sp hkt hf,hb,hbk,s5];simp[setObj,Sem.run,Uw,h2]
theorem ND{t kt e0 ty:TypeId}{g:Nat}{es:Array MapEntry}{n:Nat}(hm:P.underlying t=some (.map kt e0))(h2:w.heap[g]?=some (.map es n)) :
  (Builtin.len_ #[t] ty #[.map (some g)]).run P w = .ok (goInt es.size) w:=by
 simp[Builtin.len_,Cl hm,Rx h2]
theorem NE{t kt e0 ty:TypeId}(hm:P.underlying t=some (.map kt e0)) :
  (Builtin.len_ #[t] ty #[.map none]).run P w = .ok (goInt 0) w:=by
 simp[Builtin.len_,Cl hm]
theorem LF{P:Program}{t:TypeId}{z:AV}(h:YM P t=some z):∃ i v,P.info? t=some i/\i.zero=some v/\z=(AV.ofValue v).strip:=by
 unfold YM at h
 cases hi:P.info? t with
 | none=>grind
 | some i=>
  cases hz:i.zero with
  | none=>grind
  | some v=>grind
theorem map_at(h:Rel Γ σ I θ a w){nm:Nat}{nn:Bool}{k:IntKind}{l:List (Int×AV)}(hown:σ.own nm=some (.obj (.map nn k l))) :
  (∃ g c es,θ nm=some (g,c)/\w.heap[g]?=some (.map es l.length)/\GR (ZM I w) k 0 es.toList l)\/(θ nm=none/\nn=false/\l=[]):=by
 rcases h.chg.rel.obj nm _ hown with⟨g,c,ob,h1,h2,h3,_⟩|⟨h1,h2⟩
 ·cases ob with
  | map es n=>obtain⟨rfl,he⟩:=pM h3;grind
  | _=>cases h3
 ·cases nn<;>cases l<;>first|grind|cases h2
theorem KD{V:Type}(k:Int):∀ l:List (Int×V),C2 l k=l.any λq=>k==q.1
 | []=>rfl
 | (a,b)::l=>by rw[List.any_cons,<- KD k l];rfl
theorem KE{V:Type}{a b:List (Int×V)}(h:a.Perm b){k:Int}:C2 a k=C2 b k:=by
 grind [KD]
theorem RD{V:Type}{z v:V}{k:Int}:∀{l:List (Int×V)},(l.map (·.1)).Nodup->(k,v)∈l->mget z l k=v
 | [],_,h=>by cases h
 | (a,b)::l,hn,h=>by
  simp only[Cy,zzL81]at hn;simp only[mget];rcases zzL28.1 h with h'|h'
  ·grind
  ·have:(k==a)=false:=by
    grind
   rw[this];exact RD hn.2 h'
theorem KC{V:Type}{z:V}{k:Int}:∀{l:List (Int×V)},C2 l k=false->mget z l k=z
 | [],_=>rfl
 | (a,b)::l,h=>by
  simp only[C2,TI]at h;simp only[mget,h.1];exact KC h.2
theorem XI{V:Type}{a b:List (Int×V)}(h:a.Perm b)(hn:(b.map (·.1)).Nodup){z:V}{k:Int}:mget z a k=mget z b k:=by
 grind [RD,KD,KC,KE,C2,List.any_eq_true]
theorem pmap_at(h:Rel Γ σ I θ a w){nm:Nat}{nn:Bool}{k:IntKind}{l:List (Int×AV)}(hown:σ.own nm=some (.obj (.pmap nn k l))) :
  (∃ g c es l0,θ nm=some (g,c)/\w.heap[g]?=some (.map es l0.length)/\GR (ZM I w) k 0 es.toList l0/\l0.Perm l/\(l.map (·.1)).Nodup)\/(θ nm=none/\nn=false/\l=[]):=by
 rcases h.chg.rel.obj nm _ hown with⟨g,c,ob,h1,h2,h3,_⟩|⟨h1,h2⟩
 ·cases h3 with
  | pmap es nn k l0 l hp hk hs hr=>exact .inl ⟨g,c,es,l0,h1,h2,OW l0 _ 0 (by grind) λi hi=>by obtain⟨v,h1,h2⟩:=hr i hi;exact⟨v,by grind,h2⟩,hp,hk⟩
 ·cases nn<;>cases l<;>first|grind|cases h2
theorem XK{own:Nat->Option Own}{ob:Obj}{m:AV}{n:Nat}{s:List Nat}(h:ObjR I own θ w ob (.miter m n s)):∃ r c seen,ob = .mapIter r n seen c/\seen.toList.reverse=s/\c=n/\Rep I own θ w (.map r) m:=by
 cases h with
 | miter r m n c seen hc hr=>grind
theorem cV(h:Rel Γ σ I θ a w)(hd:∀ d,o.dst=some d->d<Γ.n){vs:List AV}(hvs:RepL I σ.own θ w (o.op.operands.toList.map a.eval) vs){es:List (Option Own)}(hes:es=(De o vs).map σ.own)
  {e:Eff} (he:nw P o vs es=some e) (hob:∀ p∈e.ob,p):Ee P Γ σ o a w e.v e.wo:=by
 unfold nw at he
 split at he
 ·
  rename_i t ho
  split at he
  ·rename_i d k e0 hdst hk
   simp only[Aj]at he;subst he
   have hn:σ.own d=none:=by simpa [De,ho,hdst] using hes.symm
   have hc:ObjR I σ.own θ w (.map #[] 0) (.map true k []):=HO (es:=#[]) (l:=[]) true trivial;have kc:=T8 h.chg.rel h.chg.valid hn hc;refine Jq h hd (v:=.map (some w.heap.size)) (w':=w.alloc (.map #[] 0)) ?_ (by rw[Cd];exact kc) ?_
   ·simp[execOp,ho,Instr.makeMap]
   ·rw[Cd];have:=Rep.omap (I:=I) (own:=A0 σ.own d (.obj (.map true k []))) (θ:=thUp θ d (some (w.heap.size,0))) (w:=w.alloc (.map #[] 0)) d (.map true k []) (by simp[A0])
    grind [thUp]
  grind
 ·
  rename_i t x ki ni ho
  simp only[ho,Op.operands,Cy,Dn]at hvs;obtain⟨u,hu',hu⟩:=hvs.one;simp only[Dq,Bz]at hu';subst hu'
  split at he
  ·rename_i d k e0 hdst hk
   simp only[Aj]at he;subst he
   have hn:σ.own d=none:=by simpa [De,ho,hdst] using hes.symm
   have hc:ObjR I σ.own θ w (.map #[] 0) (.map true k []):=HO (es:=#[]) (l:=[]) true trivial;have kc:=T8 h.chg.rel h.chg.valid hn hc;obtain⟨kt,hm,hkt⟩:=Ue hk;have hx:=hu.int_inv;refine Jq h hd (v:=.map (some w.heap.size)) (w':=w.alloc (.map #[] 0)) ?_ (by rw[Cd];exact kc) ?_
   ·simp_all [asInt,execOp,asIntOf,Instr.makeMap,Cl]
   ·rw[Cd];have:=Rep.omap (I:=I) (own:=A0 σ.own d (.obj (.map true k []))) (θ:=thUp θ d (some (w.heap.size,0))) (w:=w.alloc (.map #[] 0)) d (.map true k []) (by simp[A0])
    grind [thUp]
  grind
 ·
  rename_i t x ix ok nm k' i nn k l ho
  simp only[ho,Op.operands,Cy,Dn]at hvs;obtain⟨u,v,hu',hu,hv⟩:=hvs.two;simp only[Dq,Bz]at hu';obtain⟨rfl,rfl⟩:=hu'
  have hown:σ.own nm=some (.obj (.map nn k l)):=by simpa [De,ho] using hes.symm
  split at he
  ·rename_i k0 e0 hk
   cases hb:(EI k k'&&EI k k0) with
   | false=>grind
   | true=>
    simp only[hb,Ae]at he;simp only[Be]at hb;obtain rfl:=Ph hb.1;obtain rfl:=Ph hb.2
    split at he
    ·rename_i z hz
     simp only[Eff.pure,Aj]at he;subst he;obtain⟨ti,zv,hi,hzv,rfl⟩:=LF hz;obtain⟨kt,hm,hkt⟩:=Ue hk;have hix:=hv.int_inv;obtain⟨_,_,hx⟩:=hu.omap_inv;have hz0:ZM I w zv (AV.ofValue zv).strip:=⟨(Vk (I:=I) (σ:=σ) (θ:=θ) (w:=w) zv).strip,Sq _⟩;have hrz:=O1 (P:=P) hi hzv w
     have done:∀(r:Value) (q:Bool),ZM I w r (mget (AV.ofValue zv).strip l i)->q=C2 l i->(Instr.lookup t (a.eval x) (a.eval ix) ok).run P w = .ok (if ok then .tuple #[r,.bool q] else r) w->Ee P Γ σ o a w (bif ok then .tuple [mget (AV.ofValue zv).strip l i,.bool (C2 l i)] else mget (AV.ofValue zv).strip l i) []:=λr q h1 h2 h3=>by
      subst h2
      cases ok with
      | false=>exact Ax h hd (v:=r) (by simp[execOp,ho,h3]) (.val _ _ h1.1)
      | true=>
       refine Ax h hd (v:=.tuple #[r,.bool (C2 l i)]) (by simp[execOp,ho,h3]) (.tuple _ _ rfl λj hj=>?_)
       have hj:j=0\/j=1:=by simp at hj;omega
       rcases hj with rfl|rfl
       ·exact .val _ _ h1.1
       ·exact .val _ _ (.bool _)
     rcases map_at h hown with⟨g,c,es',h1,h2,h3⟩|⟨h1,h2,h3⟩
     ·rw[h1]at hx;rcases findNow_ents (key:=i) hz0 l es'.toList 0 0 h3 with⟨g1,j,r,g2,g3,g4⟩|⟨g1,g2,g3⟩
      ·refine done r true g4 g1.symm ?_;rw[hx,hix];exact N2 hm hkt hrz h2 g2
      ·refine done zv false (by grind) g1.symm ?_;rw[hx,hix];exact N2 hm hkt hrz h2 g2
     ·rw[h1]at hx;subst h3;refine done zv false hz0 rfl ?_
      grind [CA]
    grind
  grind
 ·
  rename_i t x y z nm k' i xv k l ho
  simp only[ho,Op.operands,Cy,Dn]at hvs;obtain⟨u,v,r,hu',hu,hv,hr⟩:=hvs.three;simp only[Dq,Bz]at hu';obtain⟨rfl,rfl,rfl⟩:=hu'
  have hown:σ.own nm=some (.obj (.map true k l)):=by simpa [De,ho] using hes.symm
  split at he
  ·rename_i k0 e0 hk
   cases hb:(EI k k'&&EI k k0) with
   | false=>grind
   | true=>
    simp only[hb,Ae,Aj]at he;subst he;simp only[Be]at hb;obtain rfl:=Ph hb.1;obtain rfl:=Ph hb.2;obtain⟨kt,hm,hkt⟩:=Ue hk;have hix:=hv.int_inv;obtain⟨_,_,hx⟩:=hu.omap_inv;rcases map_at h hown with⟨g,c,es',h1,h2,h3⟩|⟨_,h2,_⟩
    ·rw[h1]at hx;rcases ents_put (key:=i) (hv:=⟨hr.strip,Sq _⟩) l es'.toList 0 0 h3 with⟨g1,gl,j,u,g2,⟨b,hb1,hb2⟩,g4⟩|⟨g1,gl,g2,g4⟩
     ·rw[Ha]at g2
      have hc:ObjR I σ.own θ w (.map (es'.modify j λe=>{ e with key:=.int k i,val:=a.eval z }) l.length) (.map true k (Hr l i xv.strip)):=by
       rw[<- gl];exact HO true (by rw[Array.toList_modify];exact g4)
      have kc:=T9 h.chg.rel h.chg.valid hown h1 hc;refine DK h hd (w':=Uw w g (.map (es'.modify j λe=>{ e with key:=.int k i,val:=a.eval z }) l.length)) ?_ (by rw[Cd];exact kc);have hrun:=SP (P:=P) (v:=a.eval z) hm hkt h2 g2 (by grind) hb2
      simp_all [execOp]
     ·have hc:ObjR I σ.own θ w (.map (es'.push { key:=.int k i,val:=a.eval z,born:=l.length }) (l.length+1)) (.map true k (Hr l i xv.strip)):=by
       rw[<- gl];rw[Ha]at g4;exact HO true (by simpa using g4)
      have kc:=T9 h.chg.rel h.chg.valid hown h1 hc;refine DK h hd (w':=Uw w g (.map (es'.push { key:=.int k i,val:=a.eval z,born:=l.length }) (l.length+1))) ?_ (by rw[Cd];exact kc);have hrun:=CB (P:=P) (v:=a.eval z) hm hkt h2 g2
      simp_all [execOp]
    ·cases h2
  grind
 ·
  rename_i t x mm nn k l ho
  simp only[ho,Op.operands,Cy,Dn]at hvs;obtain⟨u,hu',hu⟩:=hvs.one;simp only[Dq,Bz]at hu';subst hu'
  split at he
  ·rename_i d ke hdst hk
   simp only[Aj]at he;subst he
   have hns:σ.own d=none/\σ.own mm=some (.obj (.map nn k l)):=by
    have:=hes.symm
    simpa [De,ho,hdst] using this
   obtain⟨hn,hown⟩:=hns;obtain⟨kt,hm,hkt⟩:=Ue (k:=ke.1) (e:=ke.2) hk;obtain⟨_,_,hx⟩:=hu.omap_inv
   have fin:∀ r:Option Nat,(θ mm).map (·.1)=r->(Instr.range t (.map r)).run P w = .ok (.pointer (some ⟨w.heap.size,0,none⟩)) (w.alloc (.mapIter r l.length #[] l.length))->Ee P Γ σ o a w (.optr d mm) [(d,.obj (.miter (.omap mm) l.length []))]:=λr hr hrun=>by
    have hc:ObjR I σ.own θ w (.mapIter r l.length #[] l.length) (.miter (.omap mm) l.length []):=.miter r _ _ _ #[] rfl (by grind);have kc:=T8 h.chg.rel h.chg.valid hn hc;refine Jq h hd (v:=.pointer (some ⟨w.heap.size,0,none⟩)) (w':=w.alloc (.mapIter r l.length #[] l.length)) ?_ (by rw[Cd];exact kc) ?_
    ·simp_all [execOp]
    ·rw[Cd];exact .optr d mm _ w.heap.size 0 (by simp[A0];rfl) (by simp[thUp])
   rcases map_at h hown with⟨g,c,es',h1,h2,h3⟩|⟨h1,h2,h3⟩
   ·refine fin (some g) (by grind) ?_;simp[Instr.range,Cl hm,Rx h2]
   ·subst h3;refine fin none (by rw[h1];rfl) ?_;simp[Instr.range,Cl hm]
  grind
 ·
  rename_i x nm mm m' n i s nn k l ho
  simp only[ho,Op.operands,Cy,Dn]at hvs;obtain⟨u,hu',hu⟩:=hvs.one;simp only[Dq,Bz]at hu';subst hu'
  have hns:σ.own nm=some (.obj (.miter (.omap m') n (i::s)))/\σ.own mm=some (.obj (.map nn k l)):=by
   have:=hes.symm
   simpa [De,ho] using this
  obtain⟨hit,hown⟩:=hns
  cases hb:Nat.beq m' mm with
  | false=>grind
  | true=>
   rw[hb]at he;simp only[Ae,Aj]at he;subst he;obtain rfl:=Cq hb;have hn:n=l.length:=hob (n=l.length) (by simp);have hi:i<l.length:=hob (i<l.length) (by simp);obtain⟨_,g,c,ho',hg,hv⟩:=hu.optr_inv
   obtain⟨ob,h2,h3⟩:∃ ob,w.heap[g]?=some ob/\ObjR I σ.own θ w ob (.miter (.omap m') n (i::s)):=by
    rcases h.chg.rel.obj nm _ hit with⟨g',c',ob,h1,h2,h3,h4⟩|⟨h1,_⟩
    ·grind
    grind
   obtain⟨r,cc,seen,rfl,hseen,hcc,hr⟩:=XK h3;subst hcc;obtain⟨_,_,hx⟩:=hr.omap_inv;simp only[Value.map.injEq]at hx;rcases map_at h hown with⟨gm,c',es',h4,h5,h6⟩|⟨_,_,h7⟩
   ·rw[h4]at hx;subst hx;obtain⟨hlen,hent⟩:=DH l es'.toList 0 h6;obtain⟨v,e1,e2⟩:=hent i hi
    have hback:seen.back?=some i:=by
     rw[<- Array.getLast?_toList,<- List.head?_reverse,hseen];rfl
    have hfind:es'.find? (·.born==i)=some { key:=.int k (l.getD i (0,.any)).1,val:=v,born:=0+i }:=by
     have hmem:({ key:=.int k (l.getD i (0,.any)).1,val:=v,born:=0+i }:MapEntry)∈es'.toList:=List.mem_of_getElem? e1
     have hnd:(es'.toList.map (·.born)).Nodup:=by
      rw[List.nodup_iff_pairwise_ne,List.pairwise_map,zzL105];intro p q hp hq hpq he;obtain⟨_,p1,_⟩:=hent p (by omega);obtain⟨_,q1,_⟩:=hent q (by omega);rw[Tf hp]at p1;rw[Tf hq]at q1;rw[OI p1,OI q1]at he;simp only at he;omega
     have:=find_born _ es'.toList hnd hmem;rw[<- Array.find?_toList]
     simpa using this
    refine Ax h hd (v:=.tuple #[.int k (l.getD i (0,.any)).1,v]) ?_ (.tuple _ _ rfl λj hj=>?_)
    ·simp only[execOp,ho,hv];simp[Instr.entry,getObj,Sem.run,h2,h5,hback,hfind,hn]
    ·have hj:j=0\/j=1:=by simp at hj;omega
     rcases hj with rfl|rfl
     ·exact .val _ _ (.int _ _)
     ·exact .val _ _ e2.1
   grind
 ·
  rename_i xs ts nm nn k l ho
  split at he
  ·rename_i t hts
   split at he
   ·rename_i kt e0 hm
    simp only[Eff.pure,Aj]at he;subst he
    have this:o.op.operands.toList.map a.eval=xs.toList.map a.eval:=by rw[ho];simp[Op.operands,Call.operands]
    rw[this]at hvs
    cases hl:xs.toList with
    | nil=>rw[hl]at hvs;cases hvs
    | cons x r=>
     rw[hl]at hvs
     cases r with
     | cons y r=>trivial
     | nil=>
      obtain⟨u,hu',hu⟩:=hvs.one;simp only[Dq,Bz]at hu';subst hu'
      obtain rfl:xs = #[x]:=by grind
      obtain rfl:ts = #[t]:=by grind
      have hown:σ.own nm=some (.obj (.map nn k l)):=by simpa [De,ho] using hes.symm
      obtain⟨_,_,hx⟩:=hu.omap_inv;rcases map_at h hown with⟨g,c,es',h1,h2,h3⟩|⟨h1,h2,h3⟩
      ·rw[h1]at hx;have hrun:=λty=>ND (P:=P) (ty:=ty) hm h2;have hlen:=cu h3;refine Ax h hd (v:=goInt es'.size) ?_ ?_
       ·simp[execOp,ho,hx,resolve,invoke,builtin,hrun]
       ·have:es'.size=l.length:=by simpa using hlen
        rw[this];exact .val _ _ (.int _ _)
      ·rw[h1]at hx;subst h3;have hrun:=λty=>NE (P:=P) (w:=w) (ty:=ty) hm;exact Ax h hd (v:=goInt 0) (by simp[execOp,ho,hx,resolve,invoke,builtin,hrun]) (.val _ _ (.int _ _))
   grind
  grind
 ·
  rename_i t x ix ok nm k' i nn k l ho
  simp only[ho,Op.operands,Cy,Dn]at hvs;obtain⟨u,v,hu',hu,hv⟩:=hvs.two;simp only[Dq,Bz]at hu';obtain⟨rfl,rfl⟩:=hu'
  have hown:σ.own nm=some (.obj (.pmap nn k l)):=by simpa [De,ho] using hes.symm
  split at he
  ·rename_i k0 e0 hk
   cases hb:(EI k k'&&EI k k0) with
   | false=>grind
   | true=>
    simp only[hb,Ae]at he;simp only[Be]at hb;obtain rfl:=Ph hb.1;obtain rfl:=Ph hb.2
    split at he
    ·rename_i z hz
     simp only[Eff.pure,Aj]at he;subst he;obtain⟨ti,zv,hi,hzv,rfl⟩:=LF hz;obtain⟨kt,hm,hkt⟩:=Ue hk;have hix:=hv.int_inv;obtain⟨_,_,hx⟩:=hu.omap_inv;have hz0:ZM I w zv (AV.ofValue zv).strip:=⟨(Vk (I:=I) (σ:=σ) (θ:=θ) (w:=w) zv).strip,Sq _⟩;have hrz:=O1 (P:=P) hi hzv w
     have done:∀(r:Value) (q:Bool),ZM I w r (mget (AV.ofValue zv).strip l i)->q=C2 l i->(Instr.lookup t (a.eval x) (a.eval ix) ok).run P w = .ok (if ok then .tuple #[r,.bool q] else r) w->Ee P Γ σ o a w (bif ok then .tuple [mget (AV.ofValue zv).strip l i,.bool (C2 l i)] else mget (AV.ofValue zv).strip l i) []:=λr q h1 h2 h3=>by
      subst h2
      cases ok with
      | false=>exact Ax h hd (v:=r) (by simp[execOp,ho,h3]) (.val _ _ h1.1)
      | true=>
       refine Ax h hd (v:=.tuple #[r,.bool (C2 l i)]) (by simp[execOp,ho,h3]) (.tuple _ _ rfl λj hj=>?_)
       have hj:j=0\/j=1:=by simp at hj;omega
       rcases hj with rfl|rfl
       ·exact .val _ _ h1.1
       ·exact .val _ _ (.bool _)
     rcases pmap_at h hown with⟨g,c,es',l0,h1,h2,h3,hp,hnd⟩|⟨h1,h2,h3⟩
     ·rw[h1]at hx;rcases findNow_ents (key:=i) hz0 l0 es'.toList 0 0 h3 with⟨g1,j,r,g2,g3,g4⟩|⟨g1,g2,g3⟩
      ·refine done r true (by grind [XI]) (by grind [KE]) ?_;rw[hx,hix];exact N2 hm hkt hrz h2 g2
      ·refine done zv false (by grind [XI]) (by grind [KE]) ?_;rw[hx,hix];exact N2 hm hkt hrz h2 g2
     ·rw[h1]at hx;subst h3;refine done zv false hz0 rfl ?_
      grind [CA]
    grind
  grind
 ·
  rename_i xs ts nm nn k l ho
  split at he
  ·rename_i t hts
   split at he
   ·rename_i kt e0 hm
    simp only[Eff.pure,Aj]at he;subst he
    have this:o.op.operands.toList.map a.eval=xs.toList.map a.eval:=by rw[ho];simp[Op.operands,Call.operands]
    rw[this]at hvs
    cases hl:xs.toList with
    | nil=>rw[hl]at hvs;cases hvs
    | cons x r=>
     rw[hl]at hvs
     cases r with
     | cons y r=>trivial
     | nil=>
      obtain⟨u,hu',hu⟩:=hvs.one;simp only[Dq,Bz]at hu';subst hu'
      obtain rfl:xs = #[x]:=by grind
      obtain rfl:ts = #[t]:=by grind
      have hown:σ.own nm=some (.obj (.pmap nn k l)):=by simpa [De,ho] using hes.symm
      obtain⟨_,_,hx⟩:=hu.omap_inv;rcases pmap_at h hown with⟨g,c,es',l0,h1,h2,h3,hp,hnd⟩|⟨h1,h2,h3⟩
      ·rw[h1]at hx;have hrun:=λty=>ND (P:=P) (ty:=ty) hm h2;have hlen:=cu h3;refine Ax h hd (v:=goInt es'.size) ?_ ?_
       ·simp[execOp,ho,hx,resolve,invoke,builtin,hrun]
       ·have:es'.size=l.length:=by rw[<- hp.length_eq];simpa using hlen
        rw[this];exact .val _ _ (.int _ _)
      ·rw[h1]at hx;subst h3;have hrun:=λty=>NE (P:=P) (w:=w) (ty:=ty) hm;exact Ax h hd (v:=goInt 0) (by simp[execOp,ho,hx,resolve,invoke,builtin,hrun]) (.val _ _ (.int _ _))
   grind
  grind
 grind
end
theorem Ig{sz:Nat}{f:Nat->List AV}:∀{n:Nat},(∀ i,i<n->(f i).length=sz)->(Hi n f).length=n*sz
 | 0,_=>by simp[Hi]
 | n+1,h=>by
  have ih:=Ig (n:=n) (λi hi=>h i (by omega));unfold Hi at ih ⊢;rw[JA,List.flatMap_append,Gk,ih];simp[h n _,E8]
theorem JT{sz:Nat}{f:Nat->List AV}:∀{n:Nat},(∀ i,i<n->(f i).length=sz)->∀ i j,i<n->j<sz->(Hi n f).getD (i*sz+j) .any=(f i).getD j .any
 | 0,_,i,j,hi,_=>by omega
 | n+1,h,i,j,hi,hj=>by
  have hl:=Ig (n:=n) (λi hi=>h i (by omega));have ih:=JT (n:=n) (λi hi=>h i (by omega)) i j;unfold Hi at ih hl ⊢;rw[JA,List.flatMap_append]
  by_cases e:i<n
  ·have h1:(i+1)*sz<=n*sz:=Em _ e;rw[E8]at h1;rw[EU,Zc (by omega)];exact ih e hj
  ·obtain rfl:i=n:=by omega
   rw[EU,CM (by omega),hl];simp[List.getD]
section
variable {P:Program} {Γ:Ix} {σ:Sto} {I:Nat->Nat->Prop} {θ:Nat->Option (Nat×Nat)} {a:Act} {w:World} {o:Oper}
theorem WT{k n sz:Nat}(h:k<n*sz):k / sz<n/\k % sz<sz/\k / sz*sz+k % sz=k:=by
 have hs:0<sz:=by
  grind
 exact⟨by rw[TH hs];exact h,Nat.mod_lt _ hs,by rw[CO];exact IZ k sz⟩
theorem YK(h:Rel Γ σ I θ a w){t:TypeId}(ht:B8 P t=true)(hagg:Fd P t=true){nm n sz m:Nat}{e:TypeId}{f:Nat->List AV}{v:Value}
  (hx:Rep I σ.own θ w v (.vpt nm n 0 0)) (hown:σ.own nm=some (.arr sz e m f)) (hn:n=m) (hsz:A6 P t=n*sz) :
  ∃ ad,v = .pointer (some ad)/\∃ vs,(loadVar t ad).run P w = .ok (.agg vs) w/\Rep I σ.own θ w (.agg vs) (.agg (Hi n f)):=by
 obtain⟨g,c,cur,he,hg,hh,hi,hmc,hcm,hcs,hf,hr,hI⟩:=ZS h hown hx hn;subst hn;have hle:n*sz<=c*sz:=Em _ hmc
 have hcell:∀ k,k<n*sz->w.cell? ⟨g,k,none⟩=some _:=λk hk=>by
  rw[Py w g _ cur e _ hh];exact Nk (by omega)
 have hl:=Ig hf;refine⟨_,he,_,Mo ht hagg _ (λk=>cur.getD k _) (λk hk=>by rw[O3];simpa using hcell k (by omega)),.agg _ _ (by simp[hl,hsz]) (λk hk=>?_) (λk hk=>?_)⟩
 ·rw[hl]at hk;rw[N1 _ _ _ (by omega)];obtain⟨h1,h2,h3⟩:=WT hk;have:=(hr _ _ h1 h2).1;rwa[h3]at this
 ·rw[hl]at hk;rw[N1 _ _ _ (by omega)];obtain⟨h1,h2,h3⟩:=WT hk;have h4:=(hr _ _ h1 h2).2;have h5:=JT hf _ _ h1 h2;rw[h3]at h4 h5;rw[h5];exact h4
theorem VV(h:Rel Γ σ I θ a w)(hd:∀ d,o.dst=some d->d<Γ.n){t:TypeId}{x:Operand}(ho:o.op = .load t x)(ht:B8 P t=true)(hagg:Fd P t=true){nm n sz m:Nat}{e:TypeId}{f:Nat->List AV}
  (hx:Rep I σ.own θ w (a.eval x) (.vpt nm n 0 0)) (hown:σ.own nm=some (.arr sz e m f)) (hn:n=m) (hsz:A6 P t=n*sz):Ee P Γ σ o a w (.agg (Hi n f)) []:=by
 obtain⟨ad,he,vs,hrun,hrep⟩:=YK  h ht hagg hx hown hn hsz;refine Ax h hd  ?_ hrep;simp only[execOp,ho,he,Instr.loadAt,Instr.sureAddr,Ed,Hb,Fh,hrun]
theorem RT(h:Rel Γ σ I θ a w)(hd:∀ d,o.dst=some d->d<Γ.n){t:TypeId}{x y:Operand}(ho:o.op = .store t x y)(ht:B8 P t=true){nm n sz m:Nat}{e:TypeId}{f:Nat->List AV}{cs:List AV}{z:AV}
  (hx:Rep I σ.own θ w (a.eval x) (.vpt nm n 0 0)) (hy:Rep I σ.own θ w (a.eval y) z) (hown:σ.own nm=some (.arr sz e m f)) (hn:n=m) (hc:z.cells=some cs) (hsz:cs.length=A6 P t) (hle:A6 P t=n*sz) :
  Ee P Γ σ o a w .undef [(nm,.arr sz e m (λi=>(cs.drop (i*sz)).take sz))]:=by
 obtain⟨g,c,cur,he,hg,hh,hi,hmc,hcm,hcs,hf,hr,hI⟩:=ZS h hown hx hn;subst hn;have hcl:=L1 hc hy;have hrel:=h.chg.rel
 have hvl:(a.eval y).cells.toList.length=cs.length:=by simp[hcl.size]
 have hfit:n*sz<=cur.size:=by rw[hcs];exact Em _ hmc
 have hlen:cs.length=n*sz:=hsz.trans hle;have hst:=run_storeCells_at P g (0*sz+0) e (a.eval y).cells.toList 0 cur w hh (by rw[hvl];omega) hcl.all;simp only[Sv,Nat.zero_mul]at hst
 have hrun:(execOp a.eval o).run P w = .ok .skip (w.setRow g (cur.toList.take 0++(a.eval y).cells.toList++cur.toList.drop (0+(a.eval y).cells.toList.length)).toArray):=by
  have hn:¬ ((a.eval y).cells.size≠A6 P t):=by rw[hcl.size,hsz];simp
  simp only[execOp,ho,he,Instr.storeAt,Instr.sureAddr,Ed,Hb,Fh,storeVar,B0 ht,if_neg hn,Nat.zero_mul,Sv,hst]
 simp only[List.take_zero,W9,Ha,hvl,hlen]at hrun;have hother:∀ b,b≠g->(w.setRow g ((a.eval y).cells.toList++cur.toList.drop (n*sz)).toArray).heap[b]?=w.heap[b]?:=λb hb=>LO w g b _ hb;have hk:=N5  (t':=some (g,c)) (m':=n) (f':=λi=>(cs.drop (i*sz)).take sz) hrel h.chg.valid (nm:=nm) (s:=sz) (e:=e)
  (λb k hi=>NL (a:=⟨b,k,none⟩) (hother b (by rintro rfl;exact hI k hi))) (.inr ⟨n,f,hown,zzL7 _,λ_=>hg.symm⟩)
  (λb hb hn=>hother b (by rintro rfl;exact hn c (by simp[hown]) hg)) rfl rfl rfl (by simp) (by simp) (λg' c' hgc=>?_) (λg' c' hgc=>?_)
 ·rw[DR hg]at hk;refine DK h hd (I':=I) (θ':=θ) hrun ?_;rw[Cd];exact hk
 ·simp only[Aj,Ms]at hgc;obtain⟨rfl,rfl⟩:=hgc
  have hlen':((a.eval y).cells.toList++cur.toList.drop (n*sz)).length=cur.size:=by
   grind
  have hget:∀ k,k<n*sz->(((a.eval y).cells.toList++cur.toList.drop (n*sz)).toArray).getD k undef=(a.eval y).cells.getD k undef:=λk hk=>by
   have e1:∀(l:List Value),(l.toArray).getD k undef=l.getD k undef:=λl=>by simp[Ss,List.getD]
   rw[e1,EU,Zc (by rw[hvl];omega)];simp[Ss]
  have hchunk:∀ i',i'<n->i'*sz+sz<=n*sz:=λi' hi'=>by
   have:(i'+1)*sz<=n*sz:=Em _ hi';rw[E8]at this;omega
  refine⟨_,LP w g cur _ e _ hh,hmc,hcm,by simp only[be];rw[hlen',hcs],λi' hi'=>?_,λi' j' hi' hj'=>?_,hI⟩
  ·grind
  ·have:=hchunk i' hi';rw[hget _ (by omega),Nm _ _ _ _ _ hj'];exact⟨hcl.one _ (by omega),λhmono=>hmono _ _ (hcl.rep _ (by omega))⟩
 ·grind
theorem W1{t el:TypeId}{x:Operand}{lo hi mx:Option Operand}(ho:o.op = .slice t x lo hi mx){len:Nat}(hu:P.underlying t=some (.array len el))(hT:B8 P el=true){ad:Addr}{l h m:Nat}
  (hx:a.eval x = .pointer (some ad)) (hb:(Instr.sliceBounds false len len (lo.map a.eval) (hi.map a.eval) (mx.map a.eval)).run P w = .ok (l,h,m) w) :
  (execOp a.eval o).run P w = .ok (.value (.slice (some (if m=l then ad else ad.add (l*A6 P el))) (h-l) (m-l))) w:=by
 simp only[execOp,ho,hx,Instr.sliceAt,Instr.sureAddr,Ed,Cl hu,Fh,hb,B0 hT,Hb]
theorem IH(h:Rel Γ σ I θ a w){v:Value}{nm n sz m l k:Nat}{e:TypeId}{f:Nat->List AV}(hx:Rep I σ.own θ w v (.vpt nm n 0 0))(hown:σ.own nm=some (.arr sz e m f))(hB:nr e=true)(hlk:l<=k)(hk:k<=n) :
  ∃ ad,v = .pointer (some ad)/\Rep I σ.own θ w (.slice (some (if n=l then ad else ad.add (l*sz))) (k-l) (n-l)) (.vsub nm n l k):=by
 obtain⟨sz2,e2,m2,f2,ad,rfl,ho2,hm,hi0,hv⟩:=hx.vpt_inv;rw[hown]at ho2;obtain⟨rfl,rfl,rfl,rfl⟩:=ho2;obtain⟨q0,q1⟩:=h.chg.rel.arr nm _ _ _ _ hown
 have hmax:n<=maxLen:=by
  cases hθ:θ nm with
  | none=>have:=q0 hθ;omega
  | some gc=>grind
 refine⟨ad,rfl,.vsub nm sz e m f n l k _ _ hown hm hlk hk (by omega) (by omega) (λh=>by cases h) (λhnm=>⟨λhlt=>?_,λh0=>?_⟩)⟩
 ·obtain⟨g,c,h1,rfl⟩:=hv hnm;refine⟨g,c,h1,?_⟩;rw[if_neg (by omega),O3]
  simp
 ·obtain⟨g,c,h1,rfl⟩:=hv hnm;subst h0;rw[h1];refine⟨?_,.inr hB⟩;rw[ O3]
  simp
theorem cT(h:Rel Γ σ I θ a w)(hd:∀ d,o.dst=some d->d<Γ.n){vs:List AV}(hvs:RepL I σ.own θ w (o.op.operands.toList.map a.eval) vs){es:List (Option Own)}(hes:es=(De o vs).map σ.own)
  {e:Eff} (he:nu P o vs es=some e) (hob:∀ p∈e.ob,p):Ee P Γ σ o a w e.v e.wo:=by
 unfold nu at he
 split at he
 ·rename_i t x nm n sz e0 m f ho
  simp only[ho,Op.operands,Cy,Dn]at hvs;obtain⟨u,hu',hu⟩:=hvs.one;simp only[Dq,Bz]at hu';subst hu'
  have hown:σ.own nm=some (.arr sz e0 m f):=by simpa [De,ho] using hes.symm
  split at he
  ·rename_i len el hun
   cases hb:(B8 P t&&Nat.beq n len&&Nat.beq (A6 P t) (n*sz)) with
   | false=>simp[hb]at he
   | true=>
    simp only[hb,Ae,Eff.pure,Aj]at he;subst he;simp only[Be]at hb;exact VV (P:=P) h hd ho hb.1.1 (by simp[Fd,hun]) hu hown (hob _ (by simp)) (Cq hb.2)
  ·simp at he
 ·rename_i t x y nm n z sz e0 m f ho
  simp only[ho,Op.operands,Cy,Dn]at hvs;obtain⟨u,v,hu',hu,hv⟩:=hvs.two;simp only[Dq,Bz]at hu';obtain⟨rfl,rfl⟩:=hu'
  have hown:σ.own nm=some (.arr sz e0 m f):=by simpa [De,ho] using hes.symm
  split at he
  ·rename_i len el cs hun hc
   cases hb:(B8 P t&&Nat.beq n len&&Nat.beq cs.length (A6 P t)&&Nat.beq (A6 P t) (n*sz)) with
   | false=>simp[hb]at he
   | true=>
    simp only[hb,Ae,Aj]at he;subst he;simp only[Be]at hb;exact RT (P:=P) h hd ho hb.1.1.1 hu hv hown (hob _ (by simp)) hc (Cq hb.1.2) (Cq hb.2)
  ·simp at he
 ·rename_i t y lo hi mx nm n vs sz e0 m f ho
  have hown:σ.own nm=some (.arr sz e0 m f):=by simpa [De,ho] using hes.symm
  have hops:o.op.operands.toList.map a.eval=[a.eval y]++(lo.map a.eval).toList++(hi.map a.eval).toList++(mx.map a.eval).toList:=by
   rw[ho]
   cases lo<;>cases hi<;>cases mx<;>simp[Op.operands]
  rw[hops]at hvs
  split at he
  ·rename_i len el hun
   cases hb:(B8 P el&&Nat.beq n len&&Nat.beq sz (A6 P el)&&nr e0) with
   | false=>simp[hb]at he
   | true=>
    simp only[hb,Ae]at he;simp only[Be]at hb;obtain⟨⟨⟨hT,hnl⟩,hsz⟩,hB⟩:=hb;obtain rfl:=Cq hnl;obtain rfl:=Cq hsz
    split at he
    ·rename_i k l h1 h2 h3
     cases lo<;>simp at h1
     cases hi<;>simp at h2
     cases mx<;>simp at h3
     obtain⟨p,q,e1,hy,hz⟩:=hvs.two;simp only[Dq,Bz]at e1;obtain⟨rfl,rfl⟩:=e1;simp only[Eff.pure,Aj]at he;subst he;obtain⟨hb0,hb1⟩:=hob _ (zzL24.2 rfl);rw[Ha]at hb1 ⊢;have hl:=hz.int_inv;obtain⟨ad,hex,hrep⟩:=IH h hy hown hB (l:=l.toNat) (k:=n) hb1 (zzL7 _);exact Ax h hd (W1 (P:=P) (a:=a) (w:=w) (l:=l.toNat) (h:=n) (m:=n) ho hun hT hex (by simp[Instr.sliceBounds,hl,Ok (P:=P) w k l n _ hb0 (by omega)])) hrep
    ·rename_i k l h1 h2 h3
     cases lo<;>simp at h1
     cases hi<;>simp at h2
     cases mx<;>simp at h3
     obtain⟨p,q,e1,hy,hz⟩:=hvs.two;simp only[Dq,Bz]at e1;obtain⟨rfl,rfl⟩:=e1;simp only[Eff.pure,Aj]at he;subst he;obtain⟨hb0,hb1⟩:=hob _ (zzL24.2 rfl);rw[Ha]at hb1 ⊢;have hl:=hz.int_inv;obtain⟨ad,hex,hrep⟩:=IH h hy hown hB (l:=0) (k:=l.toNat) (Rh _) hb1;exact Ax h hd (W1 (P:=P) (a:=a) (w:=w) (l:=0) (h:=l.toNat) (m:=n) ho hun hT hex (by simp[Instr.sliceBounds,hl,Ok (P:=P) w k l n _ hb0 (by omega)])) hrep
    ·rename_i k l k' l' h1 h2 h3
     cases lo<;>simp at h1
     cases hi<;>simp at h2
     cases mx<;>simp at h3
     obtain⟨p,q,u,e1,hy,hz,hz'⟩:=hvs.three;simp only[Dq,Bz]at e1;obtain⟨rfl,rfl,rfl⟩:=e1;simp only[Eff.pure,Aj]at he;subst he;obtain⟨hb0,hb1,hb2⟩:=hob _ (zzL24.2 rfl);rw[Ha]at hb2;rw[Ha,Ha];have hl:=hz.int_inv;have hl':=hz'.int_inv;obtain⟨ad,hex,hrep⟩:=IH h hy hown hB (l:=l.toNat) (k:=l'.toNat) (by omega) hb2;exact Ax h hd (W1 (P:=P) (a:=a) (w:=w) (l:=l.toNat) (h:=l'.toNat) (m:=n) ho hun hT hex (by simp[Instr.sliceBounds,hl,hl',Ok (P:=P) w k' l' n _ (by omega) (by omega),Ok (P:=P) w k l l'.toNat _ hb0 (by omega)])) hrep
    ·rename_i h1 h2 h3
     cases lo<;>simp at h1
     cases hi<;>simp at h2
     cases mx<;>simp at h3
     obtain⟨p,e1,hy⟩:=hvs.one;simp only[Dq,Bz]at e1;subst e1;simp only[Eff.pure,Aj]at he;subst he;obtain⟨ad,hex,hrep⟩:=IH h hy hown hB (l:=0) (k:=n) (Rh _) (zzL7 _);exact Ax h hd (W1 (P:=P) (a:=a) (w:=w) (l:=0) (h:=n) (m:=n) ho hun hT hex (by simp[Instr.sliceBounds])) hrep
    ·simp at he
  ·simp at he
 ·simp at he
end
section
variable {P:Program} {Γ:Ix} {σ:Sto} {I:Nat->Nat->Prop} {θ:Nat->Option (Nat×Nat)} {a:Act} {w:World} {o:Oper}
theorem eP{own:Nat->Option Own}{es:Array MapEntry}{k:IntKind}{l:List (Int×AV)}(h:GR (Rep I own θ w) k 0 es.toList l):ObjR I own θ w (.map es l.length) (.tab k l):=by
 obtain⟨h1,h2⟩:=DH l _ 0 h
 exact .tab es k l (by simpa using h1) λi hi=>by grind
theorem qF(h:Rel Γ σ I θ a w){nm:Nat}{k:IntKind}{l:List (Int×AV)}(hown:σ.own nm=some (.obj (.tab k l))) :
  ∃ g c es,θ nm=some (g,c)/\w.heap[g]?=some (.map es l.length)/\GR (Rep I σ.own θ w) k 0 es.toList l:=by
 rcases h.chg.rel.obj nm _ hown with⟨g,c,ob,h1,h2,h3,_⟩|⟨h1,h2⟩
 ·cases h3 with
  | tab es k l hs hr=>exact⟨g,c,es,h1,h2,OW l _ 0 (by simpa using hs) λi hi=>by grind⟩
 ·cases h2
theorem dZ{V:Type}{i:Int}{x:V}:∀{l:List (Int×V)},C2 l i=false->Hr l i x=l++[(i,x)]
 | [],_=>rfl
 | (a,b)::l,h=>by
  simp only[C2,TI]at h;simp only[Hr,h.1,An,dZ h.2,CJ]
theorem dY{V:Type}{i:Int}{d d':V}:∀{l:List (Int×V)},C2 l i=true->mget d l i=mget d' l i
 | [],h=>by cases h
 | (a,b)::l,h=>by
  simp only[mget]
  cases hb:(i==a) with
  | true=>rfl
  | false=>simp only[C2,hb]at h;exact dY h
theorem XY(h:Rel Γ σ I θ a w)(hd:∀ d,o.dst=some d->d<Γ.n){t:TypeId}{x y z:Operand}(hop:o.op = .mapUpdate t x y z\/o.op = .insert t x y z){nm:Nat}{k k':IntKind}{i:Int}{xv:AV}{l:List (Int×AV)}
  (hu:Rep I σ.own θ w (a.eval x) (.omap nm)) (hv:Rep I σ.own θ w (a.eval y) (.int k' i)) (hr:Rep I σ.own θ w (a.eval z) xv) (hown:σ.own nm=some (.obj (.tab k l))) {e:Eff} (he:sQ P t nm k k' i xv l=some e):Ee P Γ σ o a w e.v e.wo:=by
 unfold sQ at he
 split at he
 ·rename_i k0 e0 hk
  cases hb:(EI k k'&&EI k k0&&!C2 l i) with
  | false=>simp[hb]at he
  | true=>
   simp only[hb,Ae,Aj]at he;subst he;simp only[Be]at hb;obtain rfl:=Ph hb.1.1;obtain rfl:=Ph hb.1.2;obtain⟨kt,hm,hkt⟩:=Ue hk;have hix:=hv.int_inv;obtain⟨_,_,hx⟩:=hu.omap_inv;obtain⟨g,c,es',h1,h2,h3⟩:=qF h hown;rw[h1]at hx;rcases ents_put (key:=i) (hv:=hr) l _ 0 0 h3 with⟨g1,_⟩|⟨g1,gl,g2,g4⟩
   ·grind
   ·have hc:ObjR I σ.own θ w (.map (es'.push { key:=.int k i,val:=a.eval z,born:=l.length }) (l.length+1)) (.tab k (l++[(i,xv)])):=by
     rw[<- dZ g1,<- gl];exact eP (by simpa using g4)
    have kc:=T9 h.chg.rel h.chg.valid hown h1 hc;refine DK h hd  ?_ (by rw[Cd];exact kc);have hrun:=CB  (v:=a.eval z) hm hkt h2 g2;rcases hop with ho|ho<;>simp only[execOp,ho,hx,hix]<;>simp[hrun]
 ·simp at he
theorem eC(h:Rel Γ σ I θ a w){v:Value}{cells:List AV}(hv:Rep I σ.own θ w v (.rptr cells)){len sz l:Nat}(hlen:cells.length=len*sz)(hroom:len<=room)(hl:l<=len) :
  ∃ ad,v = .pointer (some ad)/\Rep I σ.own θ w (.slice (some (if len=l then ad else ad.add (l*sz))) (len-l) (len-l)) (.slice sz (len-l) (λi=>(cells.drop ((l+i)*sz)).take sz) .none):=by
 obtain⟨ad,us,he,hs,hI,hc,h1,hrep⟩:=hv.rptr_inv
 have hb:∀ j,j<(len-l)*sz->l*sz+j<cells.length:=λj hj=>by
  have:(len-l)*sz+l*sz=len*sz:=by rw[<- E8];congr 1;omega
  omega
 refine⟨ad,he,.val _ _ (.slice _ _ _ sz _ (λj=>us (l*sz+j)) (zzL7 _) (by
  have:room<=maxLen:=by decide
  omega) (λhp=>?_) (λhn=>by cases hn) (λj hj=>h1 _ (hb j hj)) (λi hi=>?_) (λi c hi hc'=>?_))⟩
 ·have hne:¬ len=l:=by omega
  simp only[hne];rw[Mf hs];refine⟨_,rfl,rfl,λj hj=>?_,λj hj=>?_⟩
  ·grind
  ·grind
 ·have h2:(l+i+1)*sz<=len*sz:=Em _ (by omega);rw[E8]at h2
  simp
  omega
 ·have h2:(i+1)*sz<=(len-l)*sz:=Em _ (by omega);rw[E8]at h2;rw[Nm _ _ _ _ _ hc',E8,Ut];exact hrep _ (hb _ (by omega))
theorem cX(h:Rel Γ σ I θ a w)(hd:∀ d,o.dst=some d->d<Γ.n){vs:List AV}(hvs:RepL I σ.own θ w (o.op.operands.toList.map a.eval) vs){es:List (Option Own)}(hes:es=(De o vs).map σ.own)
  {hint:Nat} {e:Eff} (he:nz P hint o vs es=some e) (hob:∀ p∈e.ob,p):Ee P Γ σ o a w e.v e.wo:=by
 unfold nz at he
 split at he
 ·
  rename_i t x y ho
  simp only[ho,Op.operands,Cy,Dn]at hvs;obtain⟨u,hu',hu⟩:=hvs.one;simp only[Dq,Bz]at hu';subst hu'
  cases h2:Nat.beq hint 2 with
  | true=>
   simp only[h2,Ae]at he
   split at he
   ·simp at he
   ·split at he
    ·rename_i cs hcs
     simp only[Eff.pure,Aj]at he;subst he;have hc:=L1 hcs hu;have kc:=FQ h.chg.rel h.chg.valid (a.eval x).cells t;refine Jq h hd (v:=.pointer (some ⟨w.heap.size,0,none⟩)) (w':=w.alloc (.cells (a.eval x).cells t)) ?_ kc ?_
     ·simp[execOp,ho,Instr.box,newVar,newRow]
     ·have hcell:∀ j,j<cs.length->(w.alloc (.cells (a.eval x).cells t)).cell? ⟨w.heap.size,0+j,none⟩=some ((a.eval x).cells.getD j undef):=λj hj=>by
       have hj':j<(a.eval x).cells.size:=by rw[hc.size];exact hj
       rw[Py _ _ _ (a.eval x).cells t (0,0) (EV w _),Ha];simp[Array.getD,hj']
      exact .rpo _ _ (λj=>(a.eval x).cells.getD j undef) rfl (λj hj=>.inr ⟨rfl,by rw[hc.size];show 0+j<_;omega⟩) hcell hc.one (λj hj=>(hc.rep j hj).chg kc)
    ·simp at he
  | false=>
   simp only[h2,An]at he
   cases h3:Nat.beq hint 3 with
   | false=>simp[h3]at he
   | true=>
    simp only[h3,Ae]at he
    split at he
    ·rename_i cs hcs
     simp only[Eff.pure,Aj]at he;subst he;have hc:=L1 hcs hu;have kc:=FQ h.chg.rel h.chg.valid (a.eval x).cells t;refine Jq h hd (v:=.pointer (some ⟨w.heap.size,0,none⟩)) (w':=w.alloc (.cells (a.eval x).cells t)) ?_ kc ?_
     ·simp[execOp,ho,Instr.box,newVar,newRow]
     ·have hl:(AV.stripAll cs).length=cs.length:=Bg cs
      have hcell:∀ j,j<(AV.stripAll cs).length->(w.alloc (.cells (a.eval x).cells t)).cell? ⟨w.heap.size,0+j,none⟩=some ((a.eval x).cells.getD j undef):=λj hj=>by
       have hj':j<(a.eval x).cells.size:=by rw[hc.size,<- hl];exact hj
       rw[Py _ _ _ (a.eval x).cells t (0,0) (EV w _),Ha];simp[Array.getD,hj']
      exact .val _ _ (.rptr _ _ (λj=>(a.eval x).cells.getD j undef) rfl (λj hj=>.inr ⟨rfl,by rw[hc.size,<- hl];show 0+j<_;omega⟩) hcell (λj hj=>hc.one j (by omega)) (λj hj=>by
       rw[E5]
       exact((hc.rep j (by omega)).chg kc).strip))
    ·simp at he
 ·
  rename_i t x lo hi mx cells vs ho
  have hops:o.op.operands.toList.map a.eval=[a.eval x]++(lo.map a.eval).toList++(hi.map a.eval).toList++(mx.map a.eval).toList:=by
   rw[ho]
   cases lo<;>cases hi<;>cases mx<;>simp[Op.operands]
  rw[hops]at hvs
  split at he
  ·rename_i len el hun
   cases hb:(B8 P el&&Nat.beq cells.length (len*A6 P el)&&Nat.ble len room) with
   | false=>simp[hb]at he
   | true=>
    simp only[hb,Ae]at he;simp only[Be]at hb;obtain⟨⟨hT,hlen⟩,hroom⟩:=hb;have hlen:=Cq hlen;have hroom:=K1 hroom
    split at he
    ·rename_i k l h1 h2 h3
     cases lo<;>simp at h1
     cases hi<;>simp at h2
     cases mx<;>simp at h3
     obtain⟨p,q,e1,hy,hz⟩:=hvs.two;simp only[Dq,Bz]at e1;obtain⟨rfl,rfl⟩:=e1;simp only[Eff.pure,Aj]at he;subst he;obtain⟨hb0,hb1⟩:=hob _ (zzL24.2 rfl);have hl:=hz.int_inv;obtain⟨ad,hex,hrep⟩:=eC h hy hlen hroom (l:=l.toNat) hb1;exact Ax h hd (W1 (P:=P) (a:=a) (w:=w) (l:=l.toNat) (h:=len) (m:=len) ho hun hT hex (by simp[Instr.sliceBounds,hl,Ok (P:=P) w k l len _ hb0 (by omega)])) hrep
    ·rename_i h1 h2 h3
     cases lo<;>simp at h1
     cases hi<;>simp at h2
     cases mx<;>simp at h3
     obtain⟨p,e1,hy⟩:=hvs.one;simp only[Dq,Bz]at e1;subst e1;simp only[Eff.pure,Aj]at he;subst he;obtain⟨ad,hex,hrep⟩:=eC h hy hlen hroom (l:=0) (Rh _);exact Ax h hd (W1 (P:=P) (a:=a) (w:=w) (l:=0) (h:=len) (m:=len) ho hun hT hex (by simp[Instr.sliceBounds])) hrep
    ·simp at he
  ·simp at he
 ·
  rename_i t x cells ho
  simp only[ho,Op.operands,Cy,Dn]at hvs;obtain⟨u,hu',hu⟩:=hvs.one;simp only[Dq,Bz]at hu';subst hu'
  cases hb:(B8 P t&&!Fd P t&&Nat.ble 1 cells.length) with
  | false=>simp[hb]at he
  | true=>
   simp only[hb,Ae,Eff.pure,Aj]at he;subst he;simp only[Be,Su]at hb;obtain⟨⟨ht,hagg⟩,hle⟩:=hb;have hle:=K1 hle;obtain⟨ad,us,he,hs,_,hc,h1,hrep⟩:=hu.rpo_inv;have hc0:=hc 0 (by omega);rw[Sv]at hc0
   have e:(⟨ad.block,ad.off,none⟩:Addr)=ad:=by cases ad;simp_all
   rw[e]at hc0;have hr:=Mp (P:=P) ht hagg ad _ hc0;refine Ax h hd (v:=us 0) ?_ (hrep 0 (by omega));simp only[execOp,ho,he,Instr.loadAt,Instr.sureAddr,Ed,Hb,Fh,hr]
 ·
  rename_i t ho
  split at he
  ·rename_i d k e0 hdst hk
   cases hf:ut P e0 with
   | false=>simp[hf]at he
   | true=>
    simp only[hf,Ae,Aj]at he;subst he
    have hn:σ.own d=none:=by simpa [De,ho,hdst] using hes.symm
    have hc:ObjR I σ.own θ w (.map #[] 0) (.tab k []):=eP (es:=#[]) (l:=[]) trivial;have kc:=T8 h.chg.rel h.chg.valid hn hc;refine Jq h hd (v:=.map (some w.heap.size)) (w':=w.alloc (.map #[] 0)) ?_ (by rw[Cd];exact kc) ?_
    ·simp[execOp,ho,Instr.makeMap]
    ·rw[Cd];have:=Rep.omap (I:=I) (own:=A0 σ.own d (.obj (.tab k []))) (θ:=thUp θ d (some (w.heap.size,0))) (w:=w.alloc (.map #[] 0)) d (.tab k []) (by simp[A0])
     simpa [thUp] using this
  ·simp at he
 ·
  rename_i t x y z nm k' i xv k l ho
  simp only[ho,Op.operands,Cy,Dn]at hvs;obtain⟨u,v,r,hu',hu,hv,hr⟩:=hvs.three;simp only[Dq,Bz]at hu';obtain⟨rfl,rfl,rfl⟩:=hu';exact XY h hd (.inr ho) hu hv hr (by simpa [De,ho] using hes.symm) he
 ·rename_i t x y z nm k' i xv k l ho
  simp only[ho,Op.operands,Cy,Dn]at hvs;obtain⟨u,v,r,hu',hu,hv,hr⟩:=hvs.three;simp only[Dq,Bz]at hu';obtain⟨rfl,rfl,rfl⟩:=hu';exact XY h hd (.inl ho) hu hv hr (by simpa [De,ho] using hes.symm) he
 ·
  rename_i t x ix nm k' i k l ho
  simp only[ho,Op.operands,Cy,Dn]at hvs;obtain⟨u,v,hu',hu,hv⟩:=hvs.two;simp only[Dq,Bz]at hu';obtain⟨rfl,rfl⟩:=hu'
  have hown:σ.own nm=some (.obj (.tab k l)):=by simpa [De,ho] using hes.symm
  split at he
  ·rename_i k0 e0 hk
   cases hb:(EI k k'&&EI k k0&&C2 l i&&(YM P e0).isSome) with
   | false=>simp[hb]at he
   | true=>
    simp only[hb,Ae,Eff.pure,Aj]at he;subst he;simp only[Be]at hb;obtain⟨⟨⟨b1,b2⟩,b3⟩,b4⟩:=hb;obtain rfl:=Ph b1;obtain rfl:=Ph b2;obtain⟨z,hz⟩:=zzL79.1 b4;obtain⟨ti,zv,hi,hzv,rfl⟩:=LF hz;obtain⟨kt,hm,hkt⟩:=Ue hk;have hix:=hv.int_inv;obtain⟨_,_,hx⟩:=hu.omap_inv;have hrz:=O1 (P:=P) hi hzv w;obtain⟨g,c,es',h1,h2,h3⟩:=qF h hown;rw[h1]at hx;rcases findNow_ents (key:=i) (hz:=Vk (I:=I) (σ:=σ) (θ:=θ) (w:=w) zv) l es'.toList 0 0 h3 with⟨g1,j,r,g2,g3,g4⟩|⟨g1,g2,g3⟩
    ·have hrun:=N2 (ok:=false) hm hkt hrz h2 g2;rw[dY g1]at g4;refine Ax h hd (v:=r) ?_ g4;simp only[execOp,ho,hx,hix];simp[hrun]
    ·rw[b3]at g1;cases g1
  ·simp at he
 ·simp at he
end
section
variable {P:Program} {Γ:Ix} {σ:Sto} {I:Nat->Nat->Prop} {θ:Nat->Option (Nat×Nat)} {a:Act} {w:World} {o:Oper}
theorem WJ{t t' e:TypeId}(h:WI P t t' e=true):t'=t/\∃ i z,P.info? e=some i/\i.zero=some z/\z.cells.size=i.size/\i.bytes<=128/\A6 P e=i.size:=by
 simp only[WI,Be]at h;obtain⟨⟨⟨⟨⟨htt,hT⟩,hs1⟩,hby⟩,hzz⟩,hzs⟩:=h;obtain rfl:=Cq htt;obtain⟨i,dd,hi,_,hsi⟩:=BC hT;obtain⟨z,hz⟩:=zzL79.1 hzz;simp only[hi]at hz;simp only[hi,   hz]at hby hzs;have hzq:=Cq hzs;rw[hsi]at hzq;exact⟨rfl,i,z,hi,hz,hzq,K1 hby,hsi⟩
theorem PU{xs:Array Operand}{ts:Array TypeId}{b:Go.Builtin}(ho:o.op = .call { callee:=.builtin b,args:=xs,argTypes:=ts }){u:AV}(hvs:RepL I σ.own θ w (o.op.operands.toList.map a.eval) [u]) :
  ∃ x,xs.toList=[x]/\Rep I σ.own θ w (a.eval x) u:=by
 have:o.op.operands.toList.map a.eval=xs.toList.map a.eval:=by rw[ho];simp[Op.operands,Call.operands]
 rw[this]at hvs
 cases hl:xs.toList with
 | nil=>rw[hl]at hvs;cases hvs
 | cons x l=>
  rw[hl]at hvs
  cases hvs with|cons h t=>cases l with
   | nil=>exact⟨x,rfl,h⟩
   | cons _ _=>cases t
theorem PV{xs:Array Operand}{ts:Array TypeId}{b:Go.Builtin}(ho:o.op = .call { callee:=.builtin b,args:=xs,argTypes:=ts }){u v:AV}(hvs:RepL I σ.own θ w (o.op.operands.toList.map a.eval) [u,v]) :
  ∃ x y,xs.toList=[x,y]/\Rep I σ.own θ w (a.eval x) u/\Rep I σ.own θ w (a.eval y) v:=by
 have:o.op.operands.toList.map a.eval=xs.toList.map a.eval:=by rw[ho];simp[Op.operands,Call.operands]
 rw[this]at hvs
 cases hl:xs.toList with
 | nil=>rw[hl]at hvs;cases hvs
 | cons x l=>
  rw[hl]at hvs
  cases hvs with|cons h t=>cases l with
   | nil=>cases t
   | cons y l=>cases t with|cons h2 t2=>cases l with
    | nil=>grind
    | cons _ _=>cases t2
theorem cW(h:Rel Γ σ I θ a w)(hd:∀ d,o.dst=some d->d<Γ.n){vs:List AV}(hvs:RepL I σ.own θ w (o.op.operands.toList.map a.eval) vs){es:List (Option Own)}(hes:es=(De o vs).map σ.own){hint:Bool}
  {e:Eff} (he:ny P hint o vs es=some e) (hob:∀ p∈e.ob,p):Ee P Γ σ o a w e.v e.wo:=by
 unfold ny at he
 split at he
 ·
  rename_i t x nm n i j sz e0 m f ho
  simp only[ho,Op.operands,Cy,Dn]at hvs;obtain⟨u,hu',hu⟩:=hvs.one;simp only[Dq,Bz]at hu';subst hu'
  have hown:σ.own nm=some (.arr sz e0 m f):=by simpa [De,ho] using hes.symm
  cases hT:B8 P t with
  | false=>simp[hT]at he
  | true=>
   simp only[hT,Ae]at he
   cases hagg:Fd P t with
   | true=>
    simp only[hagg,Ae]at he
    cases hB:Nat.blt 500 sz with
    | true=>
     simp only[hB,Ae,Eff.pure,Aj]at he;subst he;exact(Vi (P:=P) h hd ho hT hu hown (hob _ (by simp))).1 hagg (hob _ (by simp))
    | false=>
    simp only[hB,An]at he
    cases hb:Nat.ble (j+A6 P t) sz with
    | false=>simp[hb]at he
    | true=>
     simp only[hb,Ae,Eff.pure,Aj]at he;subst he;exact(Vi (P:=P) h hd ho hT hu hown (hob _ (by simp))).1 hagg (K1 hb)
   | false=>
    simp only[hagg,An]at he
    cases hB:Nat.blt 500 sz with
    | true=>
     simp only[hB,Ae,Eff.pure,Aj]at he;subst he;exact(Vi (P:=P) h hd ho hT hu hown (hob _ (by simp))).2 hagg (hob _ (by simp))
    | false=>
    simp only[hB,An]at he
    cases hb:Nat.blt j sz with
    | false=>simp[hb]at he
    | true=>
     simp only[hb,Ae,Eff.pure,Aj]at he;subst he;exact(Vi (P:=P) h hd ho hT hu hown (hob _ (by simp))).2 hagg (by simpa [K2] using hb)
 ·
  rename_i t x y nm n i j z sz e0 m f ho
  simp only[ho,Op.operands,Cy,Dn]at hvs;obtain⟨u,v,hu',hu,hv⟩:=hvs.two;simp only[Dq,Bz]at hu';obtain⟨rfl,rfl⟩:=hu'
  have hown:σ.own nm=some (.arr sz e0 m f):=by simpa [De,ho] using hes.symm
  split at he
  ·rename_i cs hc
   cases hB:Nat.blt 500 sz with
   | true=>
    cases hb:(B8 P t&&Nat.beq cs.length (A6 P t)) with
    | false=>simp[hB,hb]at he
    | true=>
     simp only[hB,hb,Ae,Aj]at he;subst he;simp only[Be]at hb;exact IA h hd ho hb.1 hu hv hown (hob _ (by simp)) hc (Cq hb.2) (hob _ (by simp))
   | false=>
   simp only[hB,An]at he
   cases hb:(B8 P t&&Nat.beq cs.length (A6 P t)&&Nat.ble (j+cs.length) sz) with
   | false=>simp[hb]at he
   | true=>
    simp only[hb,Ae,Aj]at he;subst he;simp only[Be]at hb;exact IA h hd ho hb.1.1 hu hv hown (hob _ (by simp)) hc (Cq hb.1.2) (K1 hb.2)
  ·simp at he
 ·
  rename_i s x k nm n i j ho
  simp only[ho,Op.operands,Cy,Dn]at hvs;obtain⟨u,hu',hu⟩:=hvs.one;simp only[Dq,Bz]at hu';subst hu'
  split at he
  ·rename_i fields hs
   split at he
   ·rename_i fd hf
    cases hb:(B8 P fd.type&&Nat.ble 1 (A6 P fd.type)) with
    | false=>simp[hb]at he
    | true=>
     simp only[hb,Ae,Eff.pure,Aj]at he;subst he;simp only[Be]at hb;exact KN h hd ho hs hf hb.1 (K1 hb.2) hu
   ·simp at he
  ·simp at he
 ·
  rename_i t x y nm n k i sz e0 m f ho
  simp only[ho,Op.operands,Cy,Dn]at hvs;obtain⟨u,v,hu',hu,hv⟩:=hvs.two;simp only[Dq,Bz]at hu';obtain⟨rfl,rfl⟩:=hu'
  have hown:σ.own nm=some (.arr sz e0 m f):=by simpa [De,ho] using hes.symm
  split at he
  ·rename_i e1 hun
   cases hb:(B8 P e1&&Nat.beq sz (A6 P e1)) with
   | false=>simp[hb]at he
   | true=>
    simp only[hb,Ae,Eff.pure,Aj]at he;subst he;simp only[Be]at hb;exact bL h hd ho hun hb.1 hu hv (hob _ (by simp)) ⟨sz,e0,m,f,hown,Cq hb.2⟩
  ·simp at he
 ·
  rename_i t x y nm n lo hi k i sz e0 m f ho
  simp only[ho,Op.operands,Cy,Dn]at hvs;obtain⟨u,v,hu',hu,hv⟩:=hvs.two;simp only[Dq,Bz]at hu';obtain⟨rfl,rfl⟩:=hu'
  have hown:σ.own nm=some (.arr sz e0 m f):=by simpa [De,ho] using hes.symm
  split at he
  ·rename_i e1 hun
   cases hb:(B8 P e1&&Nat.beq sz (A6 P e1)) with
   | false=>simp[hb]at he
   | true=>
    simp only[hb,Ae,Eff.pure,Aj]at he;subst he;simp only[Be]at hb;exact VR h hd ho hun hb.1 hu hv (hob _ (by simp)) hown (Cq hb.2)
  ·simp at he
 ·
  rename_i t y lo hi mx x vs' sz e0 m f ho
  split at he
  ·rename_i e1 hun
   cases hb:Nat.beq sz (A6 P e1) with
   | false=>simp[hb]at he
   | true=>
    simp only[hb,Ae]at he;have hs:=Cq hb
    have hvs':RepL I σ.own θ w ([a.eval y]++(lo.map a.eval).toList++(hi.map a.eval).toList++(mx.map a.eval).toList) (x::vs'):=by
     have:o.op.operands.toList.map a.eval=[a.eval y]++(lo.map a.eval).toList++(hi.map a.eval).toList++(mx.map a.eval).toList:=by
      rw[ho];cases lo<;>cases hi<;>cases mx<;>simp[Op.operands]
     rwa[this]at hvs
    obtain⟨h1,h2⟩:=te h hd ho hun hvs' he hob (λnm n l0 h0 hv=>by
     have:De o (x::vs')=[nm]:=by
      cases x<;>simp[AV.view]at hv
      ·obtain⟨rfl,rfl,rfl,rfl⟩:=hv;simp[De,ho]
      ·obtain⟨rfl,rfl,rfl,rfl⟩:=hv;simp[De,ho]
     rw[this]at hes;simp at hes
     exact⟨sz,e0,m,f,hes.symm,hs⟩)
    rw[h1];exact h2
  ·simp at he
 ·
  rename_i xs ts x y ho
  unfold ul at he
  split at he
  ·rename_i t t' nm n lo hi hts hview
   split at he
   ·rename_i e1 sz e0 m f es' hun
    cases hb:(B8 P e1&&Nat.beq sz (A6 P e1)) with
    | false=>simp[hb]at he
    | true=>
     simp only[hb,Ae]at he;simp only[Be]at hb;have hs:=Cq hb.2;obtain⟨p,q,hx,hu,hv⟩:=PV ho hvs
     obtain rfl:ts = #[t,t']:=by apply Th;simpa using hts
     obtain rfl:xs = #[p,q]:=by apply Th;simpa using hx
     have hneed:De o [x,y]=[nm]++Up y:=by simp[De,ho,Up,hview]
     rw[hneed]at hes;simp only[CJ,W9,Cy,Dq]at hes;obtain⟨hown,hes'⟩:=hes;have hown:=hown.symm
     split at he
     ·rename_i nm' n' lo' hi' sz' e2 m' f' hview'
      cases hb2:Nat.beq sz' sz with
      | false=>simp[hb2]at he
      | true=>
       simp only[hb2,Ae,Aj]at he;subst he;obtain rfl:=Cq hb2;simp[Up,hview']at hes';have hes':=hes'.symm;obtain⟨_,_,_,_,ad',cap',hey,_⟩:=Sr h hview' hv;obtain⟨cs,hsrc⟩:=qB (P:=P) (k:=Nat.min (hi'-lo') (hi-lo)) h hview' hv hes' (hob _ (by simp)) (Nat.min_le_left _ _);exact jj h hd ho hun hb.1 hview hu hown (hob _ (by simp)) hs hey hsrc
     ·split at he
      ·rename_i sz' n' f' tag _
       cases hb2:(Nat.beq sz' sz || Nat.beq n' 0) with
       | false=>simp[hb2]at he
       | true=>
        simp only[hb2,Ae,Aj]at he;subst he;have hval:=hv.slice_val;obtain⟨_,ad',cap',us,hey,_⟩:=hval.slice_inv;obtain⟨cs,hsrc⟩:=uG (P:=P) (σ:=σ) (θ:=θ) (sz:=sz) (k:=Nat.min n' (hi-lo)) (Nat.min_le_left _ _) (KV hb2) hval;exact jj h hd ho hun hb.1 hview hu hown (hob _ (by simp)) hs hey hsrc
      ·simp at he
     ·simp at he
   ·simp at he
  ·simp at he
 ·
  rename_i xs ts x ho
  unfold nb at he
  split at he
  ·rename_i t nm n lo hi hts hview
   split at he
   ·rename_i e1 sz e0 m f hun
    split at he
    ·rename_i z hz
     cases hb:(B8 P e1&&Nat.beq sz (A6 P e1)&&Nat.beq z.length (A6 P e1)) with
     | false=>simp[hb]at he
     | true=>
      simp only[hb,Ae,Aj]at he;subst he;simp only[Be]at hb;obtain⟨p,hx,hu⟩:=PU ho hvs
      obtain rfl:ts = #[t]:=by apply Th;simpa using hts
      obtain rfl:xs = #[p]:=by apply Th;simpa using hx
      have hneed:De o [x]=[nm]:=by simp[De,ho,Up,hview]
      rw[hneed]at hes;simp at hes;exact pV h hd ho hun hview hu hes.symm (hob _ (by simp)) (Cq hb.1.2) hz (Cq hb.2)
    ·simp at he
   ·simp at he
  ·simp at he
 ·
  rename_i x nm n i j ho
  simp only[ho,Op.operands,Cy,Dn]at hvs;obtain⟨u,hu',hu⟩:=hvs.one;simp only[Dq,Bz]at hu';subst hu';simp only[Eff.pure,Aj]at he;subst he;obtain⟨_,_,_,_,ad,hv,_⟩:=hu.vpt_inv;exact Ax h hd (v:=a.eval x) (by simp[execOp,ho,hv]) hu
 ·
  rename_i x f xs ys ho
  simp only[ho,Op.operands,Cy,Dn]at hvs;obtain⟨u,hu',hu⟩:=hvs.one;simp only[Dq,Bz]at hu';subst hu';simp only[Eff.pure,Aj]at he;subst he;obtain⟨_,_,hv,_⟩:=hu.clo_inv;exact Ax h hd (v:=a.eval x) (by simp[execOp,ho,hv]) hu
 ·
  rename_i vs es0 x0 vs0 es1 f first captured ho
  cases hb:Nat.beq vs.length (first.toList.length+captured.toList.length) with
  | false=>rw[hb]at he;simp at he
  | true=>
   have hlen:=Cq hb;simp only[hb,Ae,Eff.pure,Aj]at he;subst he
   have e1:o.op.operands.toList.map a.eval=first.toList.map a.eval++captured.toList.map a.eval:=by rw[ho];simp[Op.operands]
   rw[e1]at hvs
   have hget:∀{l:List Value} {m:List AV},RepL I σ.own θ w l m->∀ j,j<m.length->Rep I σ.own θ w (l.getD j undef) (m.getD j .any):=by
    intro l m h
    induction h with
    | nil=>intro j hj;simp at hj
    | cons h _ ih=>intro j hj;cases j with
     | zero=>simpa using h
     | succ j=>simpa using ih j (by simpa using hj)
   have hg:=hget hvs;refine Ax h hd (v:=.func (.func f) (first.map a.eval) (captured.map a.eval)) (by simp[execOp,ho,Instr.makeFunc]) (.clo f _ _ _ _ (by simp at hlen ⊢;omega) (by simp at hlen ⊢;omega) (λj hj=>?_) (λj hj=>?_))
   ·simp only[GI]at hj;have:=hg j (by omega)
    have hj1:j<first.size:=by simp at hj;omega
    have e2:(first.toList.map a.eval++captured.toList.map a.eval).getD j undef=(first.map a.eval).getD j undef:=by
     rw[List.getD,Zc (by simpa using hj1)];simp[Array.getD,hj1,List.getD]
    rw[e2]at this
    have hj2:j<first.toList.length:=by simpa using hj1
    rw[show(vs.take first.toList.length).getD j .any=vs.getD j .any by simp[List.getD,List.getElem?_take,hj1]];exact this
   ·simp only[NM]at hj;have:=hg (first.toList.length+j) (by omega)
    have hj1:j<captured.size:=by simp at hj hlen;omega
    have e2:(first.toList.map a.eval++captured.toList.map a.eval).getD (first.toList.length+j) undef=(captured.map a.eval).getD j undef:=by
     rw[List.getD,CM (by simp)];simp[Array.getD,hj1,List.getD]
    rw[e2]at this;rw[show(vs.drop first.toList.length).getD j .any=vs.getD (first.toList.length+j) .any by simp[List.getD,List.getElem?_drop]];exact this
 ·
  rename_i t x y k l k' c ho
  simp only[ho,Op.operands,Cy,Dn]at hvs;obtain⟨u,v,hu',hu,hv⟩:=hvs.two;simp only[Dq,Bz]at hu';obtain⟨rfl,rfl⟩:=hu'
  split at he
  ·rename_i d e0 hdst hun
   have hown:σ.own d=none:=by simpa [De,ho,hdst] using hes.symm
   split at he
   ·rename_i z hz
    cases hb:(B8 P e0&&Nat.ble 1 (A6 P e0)&&Nat.beq z.length (A6 P e0)&&Nat.ble (((P.info? e0).map (·.bytes)).getD 1000) 128) with
    | false=>simp[hb]at he
    | true=>
     simp only[hb,Ae,Aj]at he;subst he;simp only[Be]at hb;exact tc h hd ho hun hb.1.1.1 hu hv hdst hown hz (K1 hb.1.1.2) (Cq hb.1.2) (K1 hb.2) (hob _ (by simp))
   ·simp at he
  ·simp at he
 ·
  rename_i xs ts nm n ho
  split at he
  ·rename_i t hts
   split at he
   ·rename_i e0 hun
    simp only[Eff.pure,Aj]at he;subst he;obtain⟨x,hx,hu⟩:=PU ho hvs;obtain⟨_,_,_,_,ad,cap,he,_⟩:=hu.vsl_inv
    obtain rfl:xs = #[x]:=by apply Th;simpa using hx
    obtain rfl:ts = #[t]:=by apply Th;simpa using hts
    exact Ax h hd (v:=.int .i64 n) (by simp[execOp,ho,resolve,invoke,builtin,Builtin.len_,he,Cl hun,goInt]) (.val _ _ (.int _ _))
   ·simp at he
  ·simp at he
 ·
  rename_i xs ts nm n lo hi ho
  split at he
  ·rename_i t hts
   split at he
   ·rename_i e0 hun
    simp only[Eff.pure,Aj]at he;subst he;obtain⟨x,hx,hu⟩:=PU ho hvs;obtain⟨_,_,_,_,ad,cap,he,_⟩:=hu.vsub_inv
    obtain rfl:xs = #[x]:=by apply Th;simpa using hx
    obtain rfl:ts = #[t]:=by apply Th;simpa using hts
    exact Ax h hd (v:=.int .i64 (hi-lo:Nat)) (by simp[execOp,ho,resolve,invoke,builtin,Builtin.len_,he,Cl hun,goInt]) (.val _ _ (.int _ _))
   ·simp at he
  ·simp at he
 ·
  rename_i xs ts nm n sz' n' f' tag' sz0 e0 m f ho
  have hown:σ.own nm=some (.arr sz0 e0 m f):=by simpa [De,ho] using hes.symm
  split at he
  ·rename_i t t' hts
   split at he
   ·rename_i e1 hun
    cases hb:(WI P t t' e1&&(Nat.beq sz' (A6 P e1) || Nat.beq n' 0)&&Nat.beq sz0 (A6 P e1)&&Nat.beq e0 e1) with
    | false=>simp[hb]at he
    | true=>
     simp only[hb,Ae,Aj]at he;subst he;simp only[Be]at hb;obtain⟨⟨⟨hok,hsz'⟩,hsz0⟩,he0⟩:=hb;obtain⟨rfl,i,z,hi,hz,hzq,hby,hsi⟩:=WJ hok;obtain rfl:=Cq he0;have hsz0:=Cq hsz0;rw[hsi]at hsz0 hsz';subst hsz0;obtain⟨x,y,hx,hu,hv⟩:=PV ho hvs;have hnm:n=m:=hob _ (by simp);have hroom:n+n'<=room:=hob _ (by simp);subst hnm;have hV':=BS hv.slice_val (KV hsz')
     obtain rfl:ts = #[t',t']:=by apply Th;simpa using hts
     obtain rfl:xs = #[x,y]:=by apply Th;simpa using hx
     obtain⟨v',w',θ',hr,hk,hrep⟩:=Yy (P:=P) h o.type hun hi hz hzq hby hV' hroom nm (.inr ⟨hown,hu⟩);exact Jq (w':=w') h hd (v:=v') (by simp[execOp,ho,resolve,invoke,builtin,hr]) (by rw[Cd];exact hk) (by rw[Cd];exact hrep)
   ·simp at he
  ·simp at he
 ·
  rename_i xs ts sz n f sz' n' f' tag' ho
  split at he
  ·rename_i t t' d hts hdst
   have hown:σ.own d=none:=by simpa [De,ho,hdst] using hes.symm
   split at he
   ·rename_i e1 hun
    cases hb:(hint&&WI P t t' e1&&(Nat.beq sz' (A6 P e1) || Nat.beq n' 0)&&Nat.beq n 0) with
    | false=>simp[hb]at he
    | true=>
     simp only[hb,Ae,Aj]at he;subst he;simp only[Be]at hb;obtain⟨⟨⟨_,hok⟩,hsz'⟩,hn0⟩:=hb;obtain⟨rfl,i,z,hi,hz,hzq,hby,hsi⟩:=WJ hok;obtain rfl:=Cq hn0;rw[hsi]at hsz';obtain⟨x,y,hx,hu,hv⟩:=PV ho hvs;have hroom:n'<=room:=hob _ (by simp);have hV':=BS hv.slice_val (KV hsz')
     obtain rfl:ts = #[t',t']:=by apply Th;simpa using hts
     obtain rfl:xs = #[x,y]:=by apply Th;simpa using hx
     obtain⟨ad,hvx⟩:=hu.exact_inv;obtain⟨v',w',θ',hr,hk,hrep⟩:=Yy (P:=P) (f:=f') h o.type hun hi hz hzq hby hV' (n:=0) (by omega) d (.inl ⟨hown,rfl,ad,hvx⟩)
     have e1:Ov 0 f' f'=f':=by funext k;rw[U0 _ _ (Rh _)];rfl
     rw[e1,Ha]at hk;rw[e1,Ha]at hrep;rw[hsi];exact Jq (w':=w') h hd (v:=v') (by simp[execOp,ho,resolve,invoke,builtin,hr]) (by rw[Cd];exact hk) (by rw[Cd];exact hrep)
   ·simp at he
  ·simp at he
 ·simp at he
theorem cY(h:Rel Γ σ I θ a w)(hd:∀ d,o.dst=some d->d<Γ.n){vs:List AV}(hvs:RepL I σ.own θ w (o.op.operands.toList.map a.eval) vs){es:List (Option Own)}(hes:es=(De o vs).map σ.own){hint:Nat}
  {e:Eff} (he:n4 P hint o vs es=some e) (hob:∀ p∈e.ob,p):Ee P Γ σ o a w e.v e.wo:=by
 unfold n4 at he
 split at he
 ·rename_i e' he'
  simp only[Aj]at he;subst he;exact cX h hd hvs hes he' hob
 ·split at he
  ·rename_i e' he'
   simp only[Aj]at he;subst he;exact cW h hd hvs hes he' hob
  ·split at he
   ·rename_i e' he'
    simp only[Aj]at he;subst he;exact cU h hd hvs hes he' hob
   ·split at he
    ·rename_i e' he'
     simp only[Aj]at he;subst he;exact cV h hd hvs hes he' hob
    ·split at he
     ·rename_i e' he'
      simp only[Aj]at he;subst he;exact cT h hd hvs hes he' hob
     ·exact ff h hd hvs hes he hob
end
def Spec(P:Program):GX:=λf args H res H'=>
 (∀(az:Array Value) (w:World),(callFunc f az).run P w = .ok (.enter f az) w) /\
 ∀(w:World) (I:Nat->Nat->Prop) (θ:Nat->Option (Nat×Nat)) (az:Array Value),RepL I (Ag H) θ w az.toList args->K3 I (Ag H) θ w->(∀ b o,I b o->∃ u,w.cell? ⟨b,o,none⟩=some u)->zZ I w->
  Calls P f az w λe w'=>∃ v I' θ',e = .returned v/\Chg (Ag H) θ I w (Ag H') θ' I' w'/\Rep I' (Ag H') θ' w' v res
theorem Bt(ρ:List (Nat×Nat))(l:List AV):(AV.renAll ρ l).length=l.length:=by induction l with|nil=>rfl|cons x l ih=>simp[AV.renAll,ih]
theorem Lu(ρ:List (Nat×Nat))(l:List AV)(j:Nat):(AV.renAll ρ l).getD j .any=(l.getD j .any).ren ρ:=by
 induction l generalizing j with
 | nil=>rfl
 | cons x l ih=>cases j with
  | zero=>rfl
  | succ j=>simp_all [AV.renAll]
theorem RepV.ren{I:Nat->Nat->Prop}{w:World}{v:Value}{x:AV}(h:RepV I w v x)(ρ:List (Nat×Nat)):RepV I w v (x.ren ρ):=by
 induction h with
 | any v=>exact .any v
 | undef=>exact .undef
 | int k n=>exact .int k n
 | bool b=>exact .bool b
 | str s=>exact .str s
 | clo f=>exact .clo f
 | nxt1 i r=>exact .nxt1 i r
 | nxt0 i r=>exact .nxt0 i r
 | nilq b pos n h=>exact .nilq b pos n h
 | err0=>exact .err0
 | err1 t v=>exact .err1 t v
 | nilp=>exact .nilp
 | nilm=>exact .nilm
 | cond v c x _ h' ih=>exact .cond v c _ ih h'
 | rptr a cells us hs hI' hc h1 hr _=>exact .rptr a _ us hs hI' hc h1 hr
 | slice a n cap sz f us hcap hmax hz hn h1 hl hr _=>exact .slice a n cap sz f us hcap hmax hz hn h1 hl hr
 | agg vs cs hl h1 _ ih=>exact .agg vs _ (by rw[Bt,hl]) (λj hj=>h1 j (by rwa[Bt]at hj)) (λj hj=>by grind [Bt,Lu])
 | tuple vs cs hl _ ih=>exact .tuple vs _ (by rw[Bt,hl]) (λj hj=>by grind [Bt,Lu])
theorem Rep.ren{I:Nat->Nat->Prop}{own own':Nat->Option Own}{θ θ':Nat->Option (Nat×Nat)}{w:World}{v:Value}{x:AV}(h:Rep I own θ w v x)(ρ:List (Nat×Nat))
  (ho:∀ nm k o,Ag ρ nm=some k->own nm=some o->own' k=some (o.ren ρ)/\θ' k=θ nm):Rep I own' θ' w v (x.ren ρ):=by
 induction h with
 | val v x h=>exact .val _ _ (h.ren ρ)
 | exact a n sz f h=>exact .exact a n sz f h
 | own nm sz e m a n cap f hn hm hv h=>
  simp only[AV.ren]
  cases hk:Ag ρ nm with
  | some k=>
   obtain⟨h1,h2⟩:=ho nm k _ hk hn;exact .own k sz e m a n cap f h1 hm (by grind) h
  | none=>exact .val _ _ h
 | fam b i sz e m a n cap f hi hn hm hv h=>exact .val _ _ h
 | ptr nm off e cells g c hn hg=>
  simp only[AV.ren]
  cases hk:Ag ρ nm with
  | some k=>
   obtain⟨h1,h2⟩:=ho nm k _ hk hn;exact .ptr k off e _ g c h1 (h2.trans hg)
  | none=>exact .val _ _ (.any _)
 | vsl nm sz e m f a n cap hn hm hcap hmax hnn hv=>
  simp only[AV.ren]
  cases hk:Ag ρ nm with
  | some k=>
   obtain⟨h1,h2⟩:=ho nm k _ hk hn;exact .vsl k sz e m _ a n cap h1 hm hcap hmax hnn (by grind)
  | none=>exact .val _ _ (.any _)
 | vpt nm sz e m f n i j ad hn hm hi hv=>
  simp only[AV.ren]
  cases hk:Ag ρ nm with
  | some k=>
   obtain⟨h1,h2⟩:=ho nm k _ hk hn;exact .vpt k sz e m _ n i j ad h1 hm hi (by grind)
  | none=>exact .val _ _ (.any _)
 | clo f fs cs xs ys hl hl' _ _ ih ih'=>exact .clo f fs cs _ _ (by rw[Bt,hl]) (by rw[Bt,hl']) (λj hj=>by grind [Bt,Lu]) (λj hj=>by grind [Bt,Lu])
 | vsub nm sz e m f n lo hi a cap hn hm hlo hhi hcap hmax hnn hv=>
  simp only[AV.ren]
  cases hk:Ag ρ nm with
  | some k=>
   obtain⟨h1,h2⟩:=ho nm k _ hk hn;exact .vsub k sz e m _ n lo hi a cap h1 hm hlo hhi hcap hmax hnn (by grind)
  | none=>exact .val _ _ (.any _)
 | optr nm mm x g c hn hg=>
  simp only[AV.ren]
  cases hk:Ag ρ nm with
  | some k=>
   obtain⟨h1,h2⟩:=ho nm k _ hk hn;exact .optr k _ _ g c h1 (h2.trans hg)
  | none=>exact .val _ _ (.any _)
 | omap nm x hn=>
  simp only[AV.ren]
  cases hk:Ag ρ nm with
  | some k=>
   obtain⟨h1,h2⟩:=ho nm k _ hk hn;rw[<- h2];exact .omap k _ h1
  | none=>exact .val _ _ (.any _)
 | cond v c x _ h' ih=>exact .cond v c _ ih h'
 | agg vs cs hl h1 _ ih=>exact .agg vs _ (by rw[Bt,hl]) (λj hj=>h1 j (by rwa[Bt]at hj)) (λj hj=>by grind [Bt,Lu])
 | tuple vs cs hl _ ih=>exact .tuple vs _ (by rw[Bt,hl]) (λj hj=>by grind [Bt,Lu])
 | rpo a cells us hs hI' hc h1 _ ih=>exact .rpo a _ us hs (λj hj=>hI' j (by rwa[Bt]at hj)) (λj hj=>hc j (by rwa[Bt]at hj)) (λj hj=>h1 j (by rwa[Bt]at hj)) (λj hj=>by grind [Bt,Lu])
theorem RepL.ren{I:Nat->Nat->Prop}{own own':Nat->Option Own}{θ θ':Nat->Option (Nat×Nat)}{w:World}{l:List Value}{m:List AV}(h:RepL I own θ w l m)(ρ:List (Nat×Nat))
  (ho:∀ nm k o,Ag ρ nm=some k->own nm=some o->own' k=some (o.ren ρ)/\θ' k=θ nm):RepL I own' θ' w l (m.map (AV.ren ρ)):=by
 induction h with
 | nil=>exact .nil
 | cons h _ ih=>exact .cons (h.ren ρ ho) ih
theorem Kb(l:List AV):(AV.looseAll l).length=l.length:=by induction l with|nil=>rfl|cons x l ih=>simp[AV.looseAll,ih]
theorem EJ(l:List AV)(j:Nat):(AV.looseAll l).getD j .any=(l.getD j .any).loose:=by
 induction l generalizing j with
 | nil=>rfl
 | cons x l ih=>cases j with
  | zero=>rfl
  | succ j=>simp_all [AV.looseAll]
theorem RepV.loose{I:Nat->Nat->Prop}{w:World}{v:Value}{x:AV}(h:RepV I w v x):RepV I w v x.loose:=by
 induction h with
 | agg vs cs hl h1 _ ih=>exact .agg vs _ (by rw[Kb,hl]) (λj hj=>h1 j (by rwa[Kb]at hj)) (λj hj=>by grind [EJ,Kb])
 | any v=>exact .any v
 | undef=>exact .undef
 | int k n=>exact .int k n
 | bool b=>exact .bool b
 | str s=>exact .str s
 | clo f=>exact .clo f
 | nxt1 i r=>exact .nxt1 i r
 | nxt0 i r=>exact .nxt0 i r
 | nilq b pos n h=>exact .nilq b pos n h
 | err0=>exact .err0
 | err1 t v=>exact .err1 t v
 | nilp=>exact .nilp
 | nilm=>exact .nilm
 | cond v c x h h'=>exact .cond v c x h h'
 | rptr a cells us hs hI hc h1 hr=>exact .rptr a _ us hs hI hc h1 hr
 | slice a n cap sz f us hcap hmax hz hn h1 hl hr=>exact .slice a n cap sz f us hcap hmax hz hn h1 hl hr
 | tuple vs cs hl hr=>exact .tuple vs cs hl hr
theorem Rep.loose{I:Nat->Nat->Prop}{own:Nat->Option Own}{θ:Nat->Option (Nat×Nat)}{w:World}{v:Value}{x:AV}(h:Rep I own θ w v x):Rep I own θ w v x.loose:=by
 induction h with
 | val v x h=>exact .val _ _ h.loose
 | exact a n sz f h=>
  simp only[AV.loose]
  cases Nat.beq sz 0 with
  | true=>exact .exact a n sz f h
  | false=>exact .val _ _ h
 | own nm sz e m a n cap f ho hm hv h=>exact .own nm sz e m a n cap f ho hm hv h
 | fam b i sz e m a n cap f hi ho hm hv h=>exact .fam b i sz e m a n cap f hi ho hm hv h
 | ptr nm off e cells g c ho hg=>exact .ptr nm off e _ g c ho hg
 | vsl nm sz e m f a n cap ho hm hcap hmax hn hv=>exact .vsl nm sz e m f a n cap ho hm hcap hmax hn hv
 | vpt nm sz e m f n i j ad ho hm hi hv=>exact .vpt nm sz e m f n i j ad ho hm hi hv
 | clo f fs cs xs ys hl hl' hr hr' _ _=>exact .clo f fs cs xs ys hl hl' hr hr'
 | vsub nm sz e m f n lo hi a cap ho hm hlo hhi hcap hmax hn hv=>exact .vsub nm sz e m f n lo hi a cap ho hm hlo hhi hcap hmax hn hv
 | optr nm mm x g c ho hg=>exact .optr nm mm x g c ho hg
 | omap nm x ho=>exact .omap nm x ho
 | cond v c x h h' _=>exact .cond v c x h h'
 | agg vs cs hl h1 _ ih=>exact .agg vs _ (by rw[Kb,hl]) (λj hj=>h1 j (by rwa[Kb]at hj)) (λj hj=>by grind [EJ,Kb])
 | tuple vs cs hl hr _=>exact .tuple vs cs hl hr
 | rpo a cells us hs hI' hc h1 hr _=>exact .rpo a _ us hs hI' hc h1 hr
theorem RepL.loose{I:Nat->Nat->Prop}{own:Nat->Option Own}{θ:Nat->Option (Nat×Nat)}{w:World}{l:List Value}{m:List AV}(h:RepL I own θ w l m):RepL I own θ w l (m.map AV.loose):=by
 induction h with
 | nil=>exact .nil
 | cons h _ ih=>exact .cons h.loose ih
theorem Np{α:Type}{l:List (Nat×α)}{k:Nat}{v:α}(h:Ag l k=some v):(k,v)∈l:=by
 induction l with
 | nil=>cases h
 | cons x l ih=>
  simp only[Ag]at h
  grind [Cq]
theorem memB_mem{n:Nat}{l:List Nat}:Bj n l=true↔n∈l:=by
 induction l with
 | nil=>simp[Bj]
 | cons k l ih=>
  simp only[Bj,  zzL28]
  constructor
  ·grind [Cq]
  ·rintro(rfl|h)
   ·simp
   grind
theorem Ob{l:List Nat}(h:X0 l=true):l.Nodup:=by
 induction l with
 | nil=>simp
 | cons k l ih=>
  simp only[X0,Be]at h
  grind [memB_mem]
theorem Sk{α:Type}{l:List (Nat×α)}(hn:(l.map (·.1)).Nodup){k:Nat}{v:α}(h:(k,v)∈l):Ag l k=some v:=by
 induction l with
 | nil=>cases h
 | cons x l ih=>
  simp only[Ag];rcases zzL28.1 h with h|h
  ·cases h;simp
  grind [Cq]
theorem Wn{α:Type}{l:List (Nat×α)}{k:Nat}(h:k∉l.map (·.1)):Ag l k=none:=by
 cases hl:Ag l k with
 | none=>rfl
 | some v=>exact(h (zzL27.2 ⟨_,Np hl,rfl⟩)).elim
def K0(l:List (Nat×Nat)):List (Nat×Nat):=l.map λx=>(x.2,x.1)
theorem Rm{l:List (Nat×Nat)}(h1:(l.map (·.1)).Nodup)(h2:(l.map (·.2)).Nodup){k c:Nat}:Ag l k=some c↔Ag (K0 l) c=some k:=by
 have e:(K0 l).map (·.1)=l.map (·.2):=by simp[K0]
 constructor
 ·intro h;exact Sk (by grind) (zzL27.2 ⟨_,Np h,rfl⟩)
 ·intro h;obtain⟨x,hx,hx'⟩:=zzL27.1 (Np h)
  grind [Sk]
theorem pC{α β:Type}(g:α->β)(l:List (Nat×α))(k:Nat):Ag (l.map λx=>(x.1,g x.2)) k=(Ag l k).map g:=by
 induction l with
 | nil=>rfl
 | cons x l ih=>
  grind [Ag]
theorem cR{l:List Nat}{own:Nat->Option Own}(h:ON (l.map own)=true):∀ n∈l,own n=none:=by
 induction l with
 | nil=>simp
 | cons k l ih=>
  grind [Cy,ON,zzL28]
theorem MN{own:Nat->Option Own}{tl:List (Option Own)}:∀{hs:List (Nat×Nat)} {H:List (Nat×Own)},BB hs (hs.map (λx=>own x.1)++tl)=some H->
  H.map (·.1)=hs.map (·.2)/\∀ c k,(c,k)∈hs->∃ o,own c=some o/\(k,o)∈H
 | [],H,h=>by grind [BB]
 | (c,k)::hs,H,h=>by
  simp only[Cy,CJ]at h
  cases hc:own c with
  | none=>grind [BB]
  | some o=>
   rw[hc]at h;simp only[BB]at h
   cases hr:BB hs (hs.map (λx=>own x.1)++tl) with
   | none=>grind
   | some H'=>
    rw[hr]at h;simp only[Aj]at h;obtain⟨h1,h2⟩:=MN hr
    grind
section
variable {P:Program} {Γ:Ix} {σ:Sto} {I:Nat->Nat->Prop} {θ:Nat->Option (Nat×Nat)} {a:Act} {w:World} {o:Oper}
theorem kI{o o':Own}{t t':Option (Nat×Nat)}(ρ ρ':List (Nat×Nat))(h:OwnLe (o.ren ρ) t o' t'):OwnLe o t (o'.ren ρ') t':=by
 cases o<;>cases o'<;>trivial
theorem oT{own own':Nat->Option Own}{θ θ':Nat->Option (Nat×Nat)}{I I':Nat->Nat->Prop}{w w':World}(hrel:K3 I own θ w){co co':Nat->Option Own}{ct ct':Nat->Option (Nat×Nat)}
  {hs bk:List (Nat×Nat)} (k:Chg co ct I w co' ct' I' w')
  (hco:∀ n,co n≠none->∃ c o,(c,n)∈hs/\own c=some o/\co n=some (o.ren hs)/\ct n=θ c)
  (hhs:∀ c n o,(c,n)∈hs->own c=some o->co n=some (o.ren hs)/\ct n=θ c/\Ag bk n=some c)
  (hbk1:∀ n c,Ag bk n=some c->(∃ o,(c,n)∈hs/\own c=some o)\/own c=none)
  (hbk:∀ n c o,Ag bk n=some c->co' n=some o->own' c=some (o.ren bk)/\θ' c=ct' n)
  (hoth:∀ c,(∀ n,co' n≠none->Ag bk n≠some c)->own' c=own c/\θ' c=θ c) :
  Chg own θ I w own' θ' I' w':=by
 have hle:∀ nm o,own nm=some o->∃ o',own' nm=some o'/\OwnLe o (θ nm) o' (θ' nm):=λnm o ho=>by
  by_cases hx:∃ n,(nm,n)∈hs
  ·obtain⟨n,hn⟩:=hx;obtain⟨h1,h2,h3⟩:=hhs nm n o hn ho;obtain⟨o',ho',hl⟩:=k.le n _ h1
   grind [kI]
  ·obtain⟨h1,h2⟩:=hoth nm (λn hn hb=>by
    grind)
   exact⟨o,h1.trans ho,by rw[h2];exact .refl _ _⟩
 have hmono:∀ v x,Rep I own θ w v x->Rep I' own' θ' w' v x:=λv x h=>h.mono k.imm k.cell hle
 have hfar:∀ c g cc,(∀ n,co' n≠none->Ag bk n≠some c)->own c≠none->θ c=some (g,cc)->∀ n cc',co n≠none->ct n≠some (g,cc'):=λc g cc hc ho hg n cc' hn hg'=>by
  obtain⟨c',o',hm,ho',_,ht⟩:=hco n hn;rw[ht]at hg';have:=hrel.inj c c' g cc cc' ho (by simp[ho']) hg hg';subst this;obtain⟨h1,h2,h3⟩:=hhs c n o' hm ho';obtain⟨o'',ho'',_⟩:=k.le n _ h1
  grind
 refine{ imm:=k.imm,cell:=k.cell,le:=hle,rel:=?_,valid:=k.valid,os:=k.os,tape:=k.tape,output:=k.output,drawn:=k.drawn,grow:=k.grow,frame:=λb hb hn=>k.frame b hb (λn cc hn' hg=>?_),new:=λnm g c ho hg=>?_,immNew:=λb o h=>?_ }
 ·
  have hsplit:∀ nm,(∃ n,co' n≠none/\Ag bk n=some nm)\/(own' nm=own nm/\θ' nm=θ nm/\∀ n,co' n≠none->Ag bk n≠some nm):=λnm=>by
   grind
  have hkeep:∀ nm g cc,(∀ n,co' n≠none->Ag bk n≠some nm)->own nm≠none->θ nm=some (g,cc)->w'.heap[g]?=w.heap[g]?/\∀ j,I' g j->I g j:=λnm g cc hn ho hg=>by
   have hlt:=Ls hrel ho hg;have hf:=hfar nm g cc hn ho hg;refine⟨k.frame g hlt hf,λj hj=>?_⟩;rcases k.immNew g j hj with h|h|⟨n,c,h1,h2⟩
   ·exact h
   ·omega
   grind
  refine⟨λnm e0 cells ho=>?_,λnm sz e m ho g c hg=>?_,λnm nm' g c c' ho ho' hg hg'=>?_,λnm sz e m f ho=>?_,λnm x ho=>?_,λnm sz m ho hnn=>?_⟩
  rotate_left 5
  ·rcases hsplit nm with⟨n,hn,hb⟩|⟨h1,h2,h3⟩
   ·cases hcn:co' n with
    | none=>grind
    | some o'=>
     obtain⟨h1,h2⟩:=hbk n nm o' hb hcn;rw[ho]at h1
     cases o' with
     | row=>simp[Own.ren]at h1
     | arr=>simp[Own.ren]at h1
     | obj=>simp[Own.ren]at h1
     | tok s' e' m'=>
      simp only[Own.ren,Aj,Own.tok.injEq]at h1;obtain⟨rfl,rfl,rfl⟩:=h1;exact k.rel.tok8 n _ _ hcn (h2.symm.trans hnn)
   ·rw[h1]at ho;exact hrel.tok8 nm sz m ho (h2.symm.trans hnn)
  rotate_left 4
  ·rcases hsplit nm with⟨n,hn,hb⟩|⟨h1,h2,h3⟩
   ·cases hcn:co' n with
    | none=>grind
    | some o'=>
     obtain⟨h1,h2⟩:=hbk n nm o' hb hcn;rw[ho]at h1
     cases o' with
     | tok=>simp[Own.ren]at h1
     | row=>simp[Own.ren]at h1
     | arr=>simp[Own.ren]at h1
     | obj x'=>
      simp only[Own.ren,Aj,Own.obj.injEq]at h1;subst h1;exact L9 (k.rel.obj n _ hcn) h2 (λ_ _ _=>rfl) (λ_ _ _ _ h=>h) (λ_ h=>h.on _ (λ_ _ h=>h) (λ_ _ _=>rfl) λv y hv=>hv.ren bk (λn' c' o h h'=>hbk n' c' o h h')) RU
   ·rw[h1]at ho;exact L9 (hrel.obj nm _ ho) h2 (λg c hg=>(hkeep nm g c h3 (by simp[ho]) hg).1) (λg c j hg hj=>(hkeep nm g c h3 (by simp[ho]) hg).2 j hj) (λ_ h=>h.mono hmono) Vw
  rotate_left 3
  ·rcases hsplit nm with⟨n,hn,hb⟩|⟨h1,h2,h3⟩
   ·cases hcn:co' n with
    | none=>grind
    | some o'=>
     obtain⟨h1,h2⟩:=hbk n nm o' hb hcn;rw[ho]at h1
     cases o' with
     | tok=>simp[Own.ren]at h1
     | row=>simp[Own.ren]at h1
     | obj=>simp[Own.ren]at h1
     | arr s' e' m' f'=>
      simp only[Own.ren,Aj,Own.arr.injEq]at h1;obtain⟨rfl,rfl,rfl,rfl⟩:=h1;exact P8 (k.rel.arr n _ _ _ _ hcn) h2 (λ_ _ _=>rfl) (λ_ _ _ _ h=>h) (λi _=>Bt _ _) (λv i j _ _ hv=>by rw[Lu];exact hv.ren bk (λn' c' o h h'=>hbk n' c' o h h'))
   ·rw[h1]at ho;exact P8 (hrel.arr nm _ _ _ _ ho) h2 (λg c hg=>(hkeep nm g c h3 (by simp[ho]) hg).1) (λg c j hg hj=>(hkeep nm g c h3 (by simp[ho]) hg).2 j hj) (λ_ _=>rfl) (λv i j _ _ hv=>hmono _ _ hv)
  ·rcases hsplit nm with⟨n,hn,hb⟩|⟨h1,h2,h3⟩
   ·cases hcn:co' n with
    | none=>grind
    | some o'=>
     obtain⟨h1,h2⟩:=hbk n nm o' hb hcn;rw[ho]at h1
     cases o' with
     | tok=>simp[Own.ren]at h1
     | arr=>simp[Own.ren]at h1
     | obj=>simp[Own.ren]at h1
     | row e' cs=>
      simp only[Own.ren,Aj,Own.row.injEq]at h1;obtain⟨rfl,rfl⟩:=h1;obtain⟨g,c,vs,r1,r2,r3,r4,r5,r6⟩:=k.rel.row n _ cs hcn;refine⟨g,c,vs,h2.trans r1,r2,by grind [Bt],λj hj=>r4 j (by rwa[Bt]at hj),λj hj=>?_,r6⟩;rw[Lu];exact(r5 j (by rwa[Bt]at hj)).ren bk (λn' c' o h h'=>hbk n' c' o h h')
   ·rw[h1]at ho;obtain⟨g,c,vs,r1,r2,r3,r4,r5,r6⟩:=hrel.row nm _ cells ho;obtain⟨q1,q2⟩:=hkeep nm g c h3 (by simp[ho]) r1;exact⟨g,c,vs,h2.trans r1,q1.trans r2,r3,r4,λj hj=>hmono _ _ (r5 j hj),λj hj=>r6 j (q2 j hj)⟩
  ·rcases hsplit nm with⟨n,hn,hb⟩|⟨h1,h2,h3⟩
   ·cases hcn:co' n with
    | none=>grind
    | some o'=>
     obtain⟨h1,h2⟩:=hbk n nm o' hb hcn;rw[ho]at h1
     cases o' with
     | row=>simp[Own.ren]at h1
     | arr=>simp[Own.ren]at h1
     | obj=>simp[Own.ren]at h1
     | tok s' e' m'=>
      simp only[Own.ren,Aj,Own.tok.injEq]at h1;obtain⟨rfl,rfl,rfl⟩:=h1;exact k.rel.tok n _ _ _ hcn g c (by grind)
   ·rw[h1]at ho;rw[h2]at hg;obtain⟨cur,fz,r1,r2,r3,r4,r5',r5⟩:=hrel.tok nm sz e m ho g c hg;obtain⟨q1,q2⟩:=hkeep nm g c h3 (by simp[ho]) hg
    grind
  ·have hθb:∀ n nm,co' n≠none->Ag bk n=some nm->θ' nm=ct' n:=λn nm hn hb=>by
    cases hcn:co' n with
    | none=>grind
    | some o'=>grind
   have hmix:∀ nm nm' n c c',co' n≠none->Ag bk n=some nm->(∀ n,co' n≠none->Ag bk n≠some nm')->own nm'≠none->θ nm'=some (g,c')->ct' n=some (g,c)->False:=λnm nm' n c c' hn hb h3 ho hg hg'=>by
    have hlt:=Ls hrel ho hg;rcases k.new n g c hn hg' with h|⟨n',cc,h,h'⟩
    ·omega
    ·exact hfar nm' g c' h3 ho hg n' cc h h'
   rcases hsplit nm with⟨n,hn,hb⟩|⟨h1,h2,h3⟩<;>rcases hsplit nm' with⟨n',hn',hb'⟩|⟨h1',h2',h3'⟩
   ·rw[hθb n nm hn hb]at hg;rw[hθb n' nm' hn' hb']at hg';have:=k.rel.inj n n' g c c' hn hn' hg hg'
    grind
   ·rw[hθb n nm hn hb]at hg;rw[h1']at ho';rw[h2']at hg';exact(hmix nm nm' n c c' hn hb h3' ho' hg' hg).elim
   ·rw[hθb n' nm' hn' hb']at hg';rw[h1]at ho;rw[h2]at hg;exact(hmix nm' nm n' c' c hn' hb' h3 ho hg hg').elim
   ·rw[h1]at ho;rw[h1']at ho';rw[h2]at hg;rw[h2']at hg';exact hrel.inj nm nm' g c c' ho ho' hg hg'
 ·grind
 ·by_cases hx:∃ n,co' n≠none/\Ag bk n=some nm
  ·obtain⟨n,hn,hb⟩:=hx
   cases hcn:co' n with
   | none=>grind
   | some o'=>
    obtain⟨_,h2⟩:=hbk n nm o' hb hcn;rw[h2]at hg;rcases k.new n g c hn hg with h|⟨n',cc,h,h'⟩
    ·grind
    ·obtain⟨c',o'',hm,ho',_,ht⟩:=hco n' h
     grind
  grind
 ·rcases k.immNew b o h with h|h|⟨n,c,h1,h2⟩
  ·grind
  ·grind
  grind
theorem dg(h:Rel Γ σ I θ a w)(hd:∀ d,o.dst=some d->d<Γ.n){f:FuncId}{ws:List Value}(hexec:(execOp a.eval o).run P w = .ok (.enter f ws.toArray) w)
  {r:Wf} {es:List (Option Own)} (hes:es=(r.hs.map (·.1)++r.fr.map (·.2)).map σ.own) {H:List (Nat×Own)} (hH:BB r.hs es=some H) (hc:Tz es r=true)
  (hq:K3 I (Ag (H.map λx=>(x.1,x.2.ren r.hs))) (λn=>(Ag (K0 r.hs) n).bind θ) w->(∀ nm k o,Ag r.hs nm=some k->σ.own nm=some o->Ag (H.map λx=>(x.1,x.2.ren r.hs)) k=some (o.ren r.hs)/\(Ag (K0 r.hs) k).bind θ=θ nm)->
   Calls P f ws.toArray w λe w'=>∃ v I' θ',e = .returned v/\Chg (Ag (H.map λx=>(x.1,x.2.ren r.hs))) (λn=>(Ag (K0 r.hs) n).bind θ) I w (Ag r.H) θ' I' w'/\Rep I' (Ag r.H) θ' w' v r.res) :
  Ee P Γ σ o a w (r.res.ren (Fy r)) (P9 r):=by
   simp only[Tz,Be]at hc;obtain⟨⟨⟨⟨⟨c1,c2⟩,c3⟩,c4⟩,c5⟩,c6⟩:=hc;have c2:=Ob c2;have c3:=Ob c3;have c4:=Ob c4;have c5:=Ob c5
   have hes':es=r.hs.map (λx=>σ.own x.1)++r.fr.map (λx=>σ.own x.2):=by
    rw[hes];simp[GH]
   rw[hes']at hH c1
   have hfr:∀ k c,(k,c)∈r.fr->σ.own c=none:=λk c hm=>by
    have hl:(r.hs.map (λx=>σ.own x.1)).length=r.hs.length:=by simp
    rw[<- hl,List.drop_left]at c1
    have e1:r.fr.map (λx=>σ.own x.2)=(r.fr.map (·.2)).map σ.own:=by simp[GH]
    rw[e1]at c1;exact cR c1 c (zzL27.2 ⟨_,hm,rfl⟩)
   obtain⟨h1,h2⟩:=MN hH;have hbk:Fy r=K0 r.hs++r.fr:=rfl
   have hHn:(H.map (·.1)).Nodup:=by
    rw[h1]
    have:(Fy r).map (·.1)=r.hs.map (·.2)++r.fr.map (·.1):=by simp[Fy,GH]
    rw[this]at c3;exact(List.nodup_append.1 c3).1
   have hsn:((K0 r.hs).map (·.1)).Nodup:=by
    have:(K0 r.hs).map (·.1)=r.hs.map (·.2):=by simp[K0]
    rw[this,<- h1];exact hHn
   have hHl:∀ c n,(c,n)∈r.hs->∃ o,σ.own c=some o/\Ag H n=some o:=λc n hm=>by
    obtain⟨o',ho',hm'⟩:=h2 c n hm;exact⟨o',ho',Sk hHn hm'⟩
   have hco:∀ n,Ag (H.map λx=>(x.1,x.2.ren r.hs)) n=(Ag H n).map (Own.ren r.hs):=λn=>pC _ _ _
   have hct:∀ c n,(c,n)∈r.hs->(Ag (K0 r.hs) n).bind θ=θ c:=λc n hm=>by
    rw[Sk hsn (zzL27.2 ⟨_,hm,rfl⟩)];rfl
   have hbkh:∀ c n,(c,n)∈r.hs->Ag (Fy r) n=some c:=λc n hm=>Sk c3 (by rw[hbk];exact zzL18.2 (.inl (zzL27.2 ⟨_,hm,rfl⟩)))
   have hin:∀ nm k o,Ag r.hs nm=some k->σ.own nm=some o->Ag (H.map λx=>(x.1,x.2.ren r.hs)) k=some (o.ren r.hs)/\(Ag (K0 r.hs) k).bind θ=θ nm:=λnm k o hl ho'=>by
    grind [Np]
   have hcown:∀ n,Ag (H.map λx=>(x.1,x.2.ren r.hs)) n≠none->∃ c o,(c,n)∈r.hs/\σ.own c=some o/\Ag (H.map λx=>(x.1,x.2.ren r.hs)) n=some (o.ren r.hs)/\(Ag (K0 r.hs) n).bind θ=θ c:=λn hn=>by
    rw[hco]at hn
    cases hl:Ag H n with
    | none=>grind
    | some o'=>
     have hm:n∈H.map (·.1):=zzL27.2 ⟨_,Np hl,rfl⟩
     grind
   have hrelc:K3 I (Ag (H.map λx=>(x.1,x.2.ren r.hs))) (λn=>(Ag (K0 r.hs) n).bind θ) w:=by
    have hrel:=h.chg.rel;refine⟨λnm e0 cells hn=>?_,λnm sz e m hn g c hg=>?_,λnm nm' g c c' hn hn' hg hg'=>?_,λnm sz e m f hn=>?_,λnm x hn=>?_,λnm sz m hn hnn=>?_⟩
    rotate_left 5
    ·obtain⟨c',o',hm,ho',hl,ht⟩:=hcown nm (by simp[hn]);rw[hl]at hn
     cases o' with
     | row=>simp[Own.ren]at hn
     | arr=>simp[Own.ren]at hn
     | obj=>simp[Own.ren]at hn
     | tok s' e' m'=>
      simp only[Own.ren,Aj,Own.tok.injEq]at hn;obtain⟨rfl,rfl,rfl⟩:=hn;exact hrel.tok8 c' _ _ ho' (ht.symm.trans hnn)
    rotate_left 4
    ·obtain⟨c,o',hm,ho',hl,ht⟩:=hcown nm (by simp[hn]);rw[hl]at hn
     cases o' with
     | tok=>simp[Own.ren]at hn
     | row=>simp[Own.ren]at hn
     | arr=>simp[Own.ren]at hn
     | obj x'=>
      simp only[Own.ren,Aj,Own.obj.injEq]at hn;subst hn;exact L9 (θ':=λn=>(Ag (K0 r.hs) n).bind θ) (nm':=nm) (hrel.obj c _ ho') ht (λ_ _ _=>rfl) (λ_ _ _ _ h=>h) (λ_ h=>h.on _ (λ_ _ h=>h) (λ_ _ _=>rfl) λv y hv=>hv.ren r.hs hin) RU
    rotate_left 3
    ·obtain⟨c,o',hm,ho',hl,ht⟩:=hcown nm (by simp[hn]);rw[hl]at hn
     cases o' with
     | tok=>simp[Own.ren]at hn
     | row=>simp[Own.ren]at hn
     | obj=>simp[Own.ren]at hn
     | arr s' e' m' f'=>
      simp only[Own.ren,Aj,Own.arr.injEq]at hn;obtain⟨rfl,rfl,rfl,rfl⟩:=hn;exact P8 (hrel.arr c _ _ _ _ ho') ht (λ_ _ _=>rfl) (λ_ _ _ _ h=>h) (λi _=>Bt _ _) (λv i j _ _ hv=>by rw[Lu];exact hv.ren r.hs hin)
    ·obtain⟨c,o',hm,ho',hl,ht⟩:=hcown nm (by simp[hn]);rw[hl]at hn
     cases o' with
     | tok=>simp[Own.ren]at hn
     | arr=>simp[Own.ren]at hn
     | obj=>simp[Own.ren]at hn
     | row e' cs=>
      simp only[Own.ren,Aj,Own.row.injEq]at hn;obtain⟨rfl,rfl⟩:=hn;obtain⟨g,cc,vs',r1,r2,r3,r4,r5,r6⟩:=hrel.row c _ cs ho';refine⟨g,cc,vs',ht.trans r1,r2,by grind [Bt],λj hj=>r4 j (by rwa[Bt]at hj),λj hj=>?_,r6⟩;rw[Lu];exact(r5 j (by rwa[Bt]at hj)).ren r.hs hin
    ·obtain⟨c',o',hm,ho',hl,ht⟩:=hcown nm (by simp[hn]);rw[hl]at hn
     cases o' with
     | row=>simp[Own.ren]at hn
     | arr=>simp[Own.ren]at hn
     | obj=>simp[Own.ren]at hn
     | tok s' e' m'=>
      simp only[Own.ren,Aj,Own.tok.injEq]at hn;obtain⟨rfl,rfl,rfl⟩:=hn;exact hrel.tok c' _ _ _ ho' g c (by grind)
    ·obtain⟨c1',o1,hm,ho1,_,ht⟩:=hcown nm hn;obtain⟨c2',o2,hm',ho2,_,ht'⟩:=hcown nm' hn';rw[ht]at hg;rw[ht']at hg';have:=hrel.inj c1' c2' g c c' (by simp[ho1]) (by simp[ho2]) hg hg'
     grind [Rm]
   intro K Q hK;unfold Oper.wp;rw[hexec];simp only[Oper.upon];refine Calls.mono (hq hrelc hin) λe' w' hq=>?_;obtain⟨v,I',ct',rfl,kc,hres⟩:=hq
   have hwo:∀ n c o',Ag (Fy r) n=some c->Ag r.H n=some o'->Ag (P9 r) c=some (o'.ren (Fy r)):=λn c o' hb hl=>
    Sk c5 (zzL27.2 ⟨(n,o'),Np hl,by simp[hb]⟩)
   have hwo':∀ c,(∀ n,Ag r.H n≠none->Ag (Fy r) n≠some c)->Ag (P9 r) c=none:=λc hn=>Wn λhm=>by
    obtain⟨x,hx,rfl⟩:=zzL27.1 hm;obtain⟨⟨n,o'⟩,hm',rfl⟩:=zzL27.1 hx;have hmem:n∈(Fy r).map (·.1):=memB_mem.1 (zzL30.1 c6 _ hm');obtain⟨⟨n',c'⟩,hb,rfl⟩:=zzL27.1 hmem;have hb':=Sk c3 hb;have hl:=Sk c4 hm'
    grind
   have hinj:∀ n n' c,Ag (Fy r) n=some c->Ag (Fy r) n'=some c->n=n':=λn n' c e1 e2=>by
    grind [Rm]
   let θ':Nat->Option (Nat×Nat):=λc=>match Ag (K0 (Fy r)) c with|some n=>if(Ag r.H n).isSome then ct' n else θ c|none=>θ c
   have hθ1:∀ n c o',Ag (Fy r) n=some c->Ag r.H n=some o'->θ' c=ct' n:=λn c o' hb hl=>by
    grind [Rm]
   have hθ2:∀ c,(∀ n,Ag r.H n≠none->Ag (Fy r) n≠some c)->θ' c=θ c:=λc hn=>by
    simp only[θ']
    split
    ·grind [Rm]
    ·rfl
   have hbk2:∀ n c o',Ag (Fy r) n=some c->Ag r.H n=some o'->(σ.upd o.dst (r.res.ren (Fy r)) (P9 r)).own c=some (o'.ren (Fy r))/\θ' c=ct' n:=λn c o' hb hl=>
    ⟨by grind [Sto.upd],hθ1 n c o' hb hl⟩
   have kk:Chg σ.own θ I w (σ.upd o.dst (r.res.ren (Fy r)) (P9 r)).own θ' I' w':=by
    refine oT (hs:=r.hs) (bk:=Fy r) h.chg.rel kc hcown (λc n o' hm ho'=>?_) (λn c hb=>?_) hbk2 (λc hn=>⟨by grind [Sto.upd],hθ2 c hn⟩)
    ·obtain⟨o'',ho'',hl⟩:=hHl c n hm
     grind
    ·have hm:=Np hb;rw[hbk]at hm;rcases zzL18.1 hm with hm|hm
     ·obtain⟨⟨c',n'⟩,hm',he'⟩:=zzL27.1 hm
      grind
     grind
   exact hK I' θ' _ _ (DN h kk (hres.ren (Fy r) hbk2) hd)
theorem XE{ro:List Nat}{k:Nat}:∀{wo:List (Nat×Own)},Ag (px ro wo) k=if Bj k ro=true then none else Ag wo k
 | []=>by simp[px,Ag]
 | (n,o)::wo=>by
  have ih:=XE (ro:=ro) (k:=k) (wo:=wo);unfold px at ih ⊢
  cases hb:Bj n ro with
  | true=>
   grind [Nat.beq,List.filter_cons_of_neg,Ag,Cq]
  | false=>
   cases hn:Nat.beq n k with
   | true=>grind [Ag,Cq]
   | false=>grind [Ag]
theorem YC{own:Nat->Option Own}{ro:List Nat}{wo:List (Nat×Own)}{k:Nat}(hk:Bj k ro=true):∀{hs:List (Nat×Nat)} {tl:List (Option Own)},Bj k (hs.map (·.1))=true->(∀ p∈pw ro wo hs ((hs.map (·.1)).map own++tl),p)->Ag wo k=own k
 | [],_,h,_=>by cases h
 | (n,m)::hs,tl,h,hp=>by
  simp only[Cy,CJ,pw,zzL18]at hp;simp only[Cy,Bj]at h
  cases hb:Nat.beq n k with
  | true=>
   simp_all
  | false=>rw[hb]at h;exact YC hk h (λp h'=>hp p (.inr h'))
theorem pU(h:Rel Γ σ I θ a w)(hd:∀ d,o.dst=some d->d<Γ.n){f:FuncId}{vs:List AV}{ws:List Value}(hex:(execOp a.eval o).run P w=(callFunc f ws.toArray).run P w)(hvs:RepL I σ.own θ w ws vs)
  {r:Wf} {es:List (Option Own)} (hes:es=(r.hs.map (·.1)++r.fr.map (·.2)).map σ.own) {e:Eff} (he:fY (Spec P) f vs es r=some e) (hob:∀ p∈e.ob,p):Ee P Γ σ o a w e.v e.wo:=by
 unfold fY at he
 split at he
 ·rename_i H hH
  cases hc:Tz es r with
  | false=>grind
  | true=>
   simp only[hc,Ae]at he
   have key:Spec P f ((vs.map (AV.ren r.hs)).map AV.loose) (H.map λx=>(x.1,x.2.ren r.hs)) r.res r.H->Ee P Γ σ o a w (r.res.ren (Fy r)) (P9 r):=λ⟨henter,hspec⟩=>by
    refine dg h hd (hex.trans (henter _ _)) hes hH hc λhrelc hin=>?_;exact hspec w I (λn=>(Ag (K0 r.hs) n).bind θ) ws.toArray (by have:=(hvs.ren r.hs hin).loose;exact this) hrelc h.chg.valid h.glob
   cases hro:WZ r.ro with
   | true=>
    simp only[hro,Ae,Aj]at he;subst he
    simp_all
   | false=>
    simp only[hro,An]at he
    cases hall:(r.ro.all λn=>Bj n (r.hs.map (·.1))) with
    | false=>grind
    | true=>
     simp only[hall,Ae,Aj]at he;subst he;have base:=key (hob _ (zzL28.2 (.inl rfl)));have hob':∀ p∈pw r.ro (P9 r) r.hs es,p:=λp hp=>hob p (zzL28.2 (.inr hp))
     have e:σ.upd o.dst (r.res.ren (Fy r)) (px r.ro (P9 r))=σ.upd o.dst (r.res.ren (Fy r)) (P9 r):=by
      unfold Sto.upd
      congr 1
      funext nm
      rw[XE]
      cases hm:Bj nm r.ro with
      | false=>simp
      | true=>
       have hm':Bj nm (r.hs.map (·.1))=true:=by
        rw[zzL30]at hall;exact hall nm (memB_mem.1 hm)
       rw[hes,LJ]at hob';rw[YC hm hm' hob']
       grind
     intro K Q hK;refine base K Q λI' θ' a' w' hr=>hK I' θ' a' w' ?_
     grind
 ·cases he
theorem Of(l:List (Nat×Own))(m:List AV):(AV.vsAll l m).length=m.length:=by induction m with|nil=>rfl|cons x m ih=>simp[AV.vsAll,ih]
theorem SZ(l:List (Nat×Own))(m:List AV)(j:Nat):(AV.vsAll l m).getD j .any=(m.getD j .any).vs l:=by
 induction m generalizing j with
 | nil=>rfl
 | cons x m ih=>cases j with
  | zero=>rfl
  | succ j=>simp_all [AV.vsAll]
theorem mP{l:List (Nat×Own)}{m:List AV}(h:∀ p∈AV.vsObAll l m,p)(j:Nat):∀ p∈(m.getD j .any).vsOb l,p:=by
 induction m generalizing j with
 | nil=>trivial
 | cons x m ih=>
  simp only[AV.vsObAll,zzL18]at h
  cases j with
  | zero=>grind
  | succ j=>intro p hp;exact ih (λp hp=>h p (.inr hp)) j p (by grind)
theorem Qa{m:List AV}(h:AV.flatAll m=true)(j:Nat):(m.getD j .any).flat=true:=by
 induction m generalizing j with
 | nil=>rfl
 | cons x m ih=>
  simp only[AV.flatAll]at h
  cases j with
  | zero=>grind
  | succ j=>simp_all
theorem RepV.flat{I I':Nat->Nat->Prop}{w w':World}{v:Value}{x:AV}(h:RepV I w v x)(hx:x.flat=true):RepV I' w' v x:=by
 induction h with
 | any v=>exact .any v
 | undef=>exact .undef
 | int k n=>exact .int k n
 | bool b=>exact .bool b
 | str s=>exact .str s
 | err0=>exact .err0
 | err1 t v=>exact .err1 t v
 | agg vs cs hl h1 _ ih=>exact .agg vs cs hl h1 (λj hj=>ih j hj (Qa hx j))
 | tuple vs cs hl _ ih=>exact .tuple vs cs hl (λj hj=>ih j hj (Qa hx j))
 | _=>cases hx
theorem Rep.flat{I I':Nat->Nat->Prop}{own:Nat->Option Own}{θ:Nat->Option (Nat×Nat)}{w w':World}{v:Value}{x:AV}(h:Rep I own θ w v x)(hx:x.flat=true):RepV I' w' v x:=by
 induction h with
 | val v x h=>exact h.flat hx
 | agg vs cs hl h1 _ ih=>exact .agg vs cs hl h1 (λj hj=>ih j hj (Qa hx j))
 | tuple vs cs hl _ ih=>exact .tuple vs cs hl (λj hj=>ih j hj (Qa hx j))
 | _=>cases hx
theorem CG{own:Nat->Option Own}:∀{ns:List Nat} {tl:List (Option Own)} {k:Nat} {o:Own},Ag (S6 ns (ns.map own++tl)) k=some o->own k=some o
 | [],tl,k,o,h=>by trivial
 | n::ns,tl,k,o,h=>by
  simp only[Cy,CJ]at h
  cases hn:own n with
  | none=>rw[hn]at h;exact CG h
  | some o'=>
   rw[hn]at h;simp only[S6,Ag]at h
   cases hb:Nat.beq n k with
   | true=>
    simp_all
   | false=>rw[hb]at h;exact CG h
def ET(l:List (Nat×Own))(θ:Nat->Option (Nat×Nat))(I:Nat->Nat->Prop):Nat->Nat->Prop:=λb o=>I b o\/∃ nm sz e m f c,Ag l nm=some (.arr sz e m f)/\θ nm=some (b,c)/\o<m*sz
theorem Rep.vs{I:Nat->Nat->Prop}{own:Nat->Option Own}{θ:Nat->Option (Nat×Nat)}{w:World}{v:Value}{x:AV}(hrel:K3 I own θ w){l:List (Nat×Own)}(hl:∀ k o,Ag l k=some o->own k=some o)(h:Rep I own θ w v x):(∀ p∈x.vsOb l,p)->RepV (ET l θ I) w v (x.vs l):=by
 have hII:∀ b o,I b o->ET l θ I b o:=λ_ _ h=>.inl h
 have hs:∀{v:Value} {x:AV},RepV I w v x->RepV (ET l θ I) w v (x.vs l):=by
  intro v x h
  induction h with
  | agg vs cs hl h1 _ ih=>exact .agg vs _ (by rw[Of,hl]) (λj hj=>h1 j (by rwa[Of]at hj)) (λj hj=>by grind [SZ,Of])
  | slice a n cap sz f us hcap hmax hz hn h1 hl hr=>exact(RepV.slice a n cap sz f us hcap hmax hz hn h1 hl hr).mono hII (λ_ _ _=>rfl)
  | any v=>exact .any v
  | undef=>exact .undef
  | int k n=>exact .int k n
  | bool b=>exact .bool b
  | str s=>exact .str s
  | clo f=>exact .clo f
  | nxt1 i r=>exact .nxt1 i r
  | nxt0 i r=>exact .nxt0 i r
  | nilq b pos n h=>exact .nilq b pos n h
  | err0=>exact .err0
  | err1 t v=>exact .err1 t v
  | nilp=>exact .nilp
  | nilm=>exact .nilm
  | cond v c x h h'=>exact(RepV.cond v c x h h').strip.mono hII (λ_ _ _=>rfl)
  | rptr a cells us hs hI hc h1 hr=>exact(RepV.rptr a cells us hs hI hc h1 hr).mono hII (λ_ _ _=>rfl)
  | tuple vs cs hl hr=>exact(RepV.tuple vs cs hl hr).strip.mono hII (λ_ _ _=>rfl)
 induction h with
 | val v x h=>grind
 | agg vs cs hl h1 _ ih=>
  intro hob;exact .agg vs _ (by rw[Of,hl]) (λj hj=>h1 j (by rwa[Of]at hj)) (λj hj=>by rw[SZ];exact ih j (by rwa[Of]at hj) (mP hob j))
 | vsl nm sz e m f a n cap ho hm hcap hmax hn hv=>
  intro hob;simp only[AV.vs]
  split
  ·rename_i sz' e' m' f' hlk
   have ho':=hl _ _ hlk;rw[ho]at ho';simp only[Aj,Own.arr.injEq]at ho';obtain⟨rfl,rfl,rfl,rfl⟩:=ho';have hnm:n=m:=hob _ (by grind [AV.vsOb])
   ·subst hnm;obtain⟨q0,q1⟩:=hrel.arr nm sz e n f ho;have hvv:=hv rfl
    cases hθ:θ nm with
    | none=>
     have hn0:=q0 hθ;subst hn0;exact .slice a 0 cap sz _ (λ_=>undef) hcap hmax (λh=>by omega) hn (λj hj=>by omega) (λi hi=>by omega) (λi c hi=>by omega)
    | some gc=>
     obtain⟨b,c⟩:=gc;rw[hθ]at hvv;simp only at hvv;obtain⟨rfl,rfl⟩:=hvv;obtain⟨cur,r1,r2,r3,r4,r5,r6,r7⟩:=q1 b cap hθ
     have hcell:∀ j,j<n*sz->w.cell? ⟨b,j,none⟩=some (cur.getD j undef):=λj hj=>by
      have:n*sz<=cap*sz:=Em _ r2;rw[Py w b j cur e (0,0) r1]
      grind [Nk]
     refine .slice _ n cap sz _ (λj=>cur.getD j undef) hcap hmax (λ_=>⟨⟨b,0,none⟩,rfl,rfl,λj hj=>.inr ⟨nm,sz,e,n,f,cap,hlk,hθ,by grind⟩,λj hj=>by grind⟩) (by simp) (λj hj=>?_) (λi hi=>?_) (λi k hi hk=>?_)
     ·have hs:0<sz:=by
       rcases zzL68 sz with h0|h0
       ·rw[h0]at hj;omega
       ·exact h0
      have e2:j / sz*sz+j % sz=j:=by rw[CO];exact IZ j sz
      grind [TH,Nat.mod_lt]
     ·grind [Bg]
     ·rw[E5];exact((r6 i k hi hk).2.strip).mono hII (λ_ _ _=>rfl)
  ·exact .any _
 | exact a n sz f h=>exact λ_=>h.mono hII (λ_ _ _=>rfl)
 | own nm sz e m a n cap f ho hm hv h=>exact λ_=>h.mono hII (λ_ _ _=>rfl)
 | fam b i sz e m a n cap f hi ho hm hv h=>exact λ_=>h.mono hII (λ_ _ _=>rfl)
 | ptr nm off e cells g c ho hg=>exact λ_=>.any _
 | vpt=>exact λ_=>.any _
 | vsub nm sz e m f n lo hi a cap ho hm hlo hhi hcap hmax hn hv=>
  intro hob;simp only[AV.vs]
  split
  ·rename_i sz' e' m' f' hlk
   have ho':=hl _ _ hlk;rw[ho]at ho';simp only[Aj,Own.arr.injEq]at ho';obtain⟨rfl,rfl,rfl,rfl⟩:=ho';have hnm:n=m:=hob _ (by grind [AV.vsOb]);subst hnm;obtain⟨q0,q1⟩:=hrel.arr nm sz e n f ho;have hvv:=hv rfl;rcases zzL136 lo hi with hlt|hge
   ·obtain⟨b,c,hθ,rfl⟩:=hvv.1 hlt;obtain⟨cur,r1,r2,r3,r4,r5,r6,r7⟩:=q1 b c hθ
    have hin:∀ j,j<(hi-lo)*sz->lo*sz+j<n*sz:=λj hj=>by
     have h1:lo*sz+(hi-lo)*sz=hi*sz:=by rw[<- E8];congr 1;omega
     have h2:hi*sz<=n*sz:=Em _ hhi;omega
    have hcell:∀ j,j<(hi-lo)*sz->w.cell? ⟨b,lo*sz+j,none⟩=some (cur.getD (lo*sz+j) undef):=λj hj=>by
     have:n*sz<=c*sz:=Em _ r2;have:=hin j hj;rw[Py w b _ cur e (0,0) r1]
     grind [Nk]
    refine .slice _ (hi-lo) cap sz _ (λj=>cur.getD (lo*sz+j) undef) hcap hmax (λ_=>⟨⟨b,lo*sz,none⟩,rfl,rfl,λj hj=>.inr ⟨nm,sz,e,n,f,c,hlk,hθ,hin j hj⟩,λj hj=>hcell j hj⟩) hn (λj hj=>?_) (λi hi'=>?_) (λi k hi' hk=>?_)
    ·have hs:0<sz:=by
      rcases zzL68 sz with h0|h0
      ·rw[h0]at hj;omega
      ·exact h0
     have e2:j / sz*sz+j % sz=j:=by rw[CO];exact IZ j sz
     have h3:j / sz<hi-lo:=by rw[TH hs];exact hj
     have:=(r6 (lo+j / sz) (j % sz) (by omega) (Nat.mod_lt _ hs)).1;rw[E8,Ut,e2]at this;exact this
    ·grind [Bg]
    ·rw[E5];have:=((r6 (lo+i) k (by omega) hk).2.strip).mono hII (λ_ _ _=>rfl) (w':=w)
     grind
   ·have h0:hi-lo=0:=by omega
    rw[h0];exact .slice a 0 cap sz _ (λ_=>undef) (by omega) hmax (λh=>by omega) hn (λj hj=>by omega) (λi hi=>by omega) (λi c hi=>by omega)
  ·exact .any _
 | optr=>exact λ_=>.any _
 | omap=>exact λ_=>.any _
 | rpo=>exact λ_=>.any _
 | clo f fs cs xs ys hl hl' hr hr' _ _=>exact λ_=>(Rep.clo f fs cs xs ys hl hl' hr hr').strip.mono hII (λ_ _ _=>rfl)
 | cond v c x h h' _=>exact λ_=>(Rep.cond v c x h h').strip.mono hII (λ_ _ _=>rfl)
 | tuple vs cs hl hr _=>exact λ_=>(Rep.tuple vs cs hl hr).strip.mono hII (λ_ _ _=>rfl)
theorem Rep.vsA{I:Nat->Nat->Prop}{own own':Nat->Option Own}{θ θ':Nat->Option (Nat×Nat)}{w:World}{v:Value}{x:AV}(hrel:K3 I own θ w){l:List (Nat×Own)}(hl:∀ k o,Ag l k=some o->own k=some o)(h:Rep I own θ w v x)(hob:∀ p∈x.vsOb l,p):Rep (ET l θ I) own' θ' w v (x.vsA l):=by
 have hII:∀ b o,I b o->ET l θ I b o:=λ_ _ h=>.inl h
 by_cases hc:∃ f xs ys,x = .clo f xs ys
 ·obtain⟨f,xs,ys,rfl⟩:=hc
  cases h with
  | val v x h=>cases h with|clo f=>exact .val _ _ (.clo f)
  | clo f fs cs xs ys hl hl' hr hr'=>
   exact .clo f fs cs _ _ (by rw[Bg,hl]) (by rw[Bg,hl']) (λj hj=>by rw[E5];exact .val _ _ ((hr j (by rwa[Bg]at hj)).strip.mono hII (λ_ _ _=>rfl))) (λj hj=>by rw[E5];exact .val _ _ ((hr' j (by rwa[Bg]at hj)).strip.mono hII (λ_ _ _=>rfl)))
 ·have e:x.vsA l=x.vs l:=by cases x<;>first|rfl|(exfalso;exact hc ⟨_,_,_,rfl⟩)
  rw[e];exact .val _ _ (h.vs hrel hl hob)
theorem RepL.vs{I:Nat->Nat->Prop}{own own':Nat->Option Own}{θ θ':Nat->Option (Nat×Nat)}{w:World}{vs:List Value}{xs:List AV}(hrel:K3 I own θ w){l:List (Nat×Own)}(hl:∀ k o,Ag l k=some o->own k=some o)(h:RepL I own θ w vs xs) :
  (∀ p∈AV.vsObAll l xs,p)->RepL (ET l θ I) own' θ' w vs (xs.map (AV.vsA l)):=by
 induction h with
 | nil=>exact λ_=>.nil
 | cons h _ ih=>
  intro hob;simp only[AV.vsObAll,zzL18]at hob;exact .cons (h.vsA hrel hl λp hp=>hob p (.inl hp)) (ih λp hp=>hob p (.inr hp))
theorem Xp:∀{H:List (Nat×Own)} {nm:Nat} {o:Own},QJ H->Ag H nm=some o->uq o
 | [],nm,o,_,h=>by cases h
 | (n,o')::r,nm,o,hf,h=>by
  simp only[Ag]at h
  cases hb:Nat.beq n nm with
  | true=>rw[hb]at h;simp only[Ae,Aj]at h;rw[<- h];exact hf.1
  | false=>rw[hb]at h;exact Xp hf.2 h
theorem Rep.flatC{I I':Nat->Nat->Prop}{own:Nat->Option Own}{θ:Nat->Option (Nat×Nat)}{w:World}{v:Value}{x:AV}(h:Rep I own θ w v x)(hx:x.flatC=true):Rep I' own θ w v x:=by
 cases x with
 | omap nm=>obtain⟨y,h1,h2⟩:=h.omap_inv;rw[h2];exact .omap nm y h1
 | vsl nm n=>obtain⟨sz,e,m,f,a,cap,rfl,ho,hm,hcap,hmax,hn,hv⟩:=h.vsl_inv;exact .vsl nm sz e m f a n cap ho hm hcap hmax hn hv
 | ptr nm off=>obtain⟨e,cells,g,c,ho,hg,rfl⟩:=h.ptr_inv;exact .ptr nm off e _ g c ho hg
 | nilp=>obtain rfl:=h.nilp_inv;exact .val _ _ .nilp
 | _=>exact .val _ _ (h.flat hx)
theorem Rep.flatR{I I':Nat->Nat->Prop}{own:Nat->Option Own}{θ:Nat->Option (Nat×Nat)}{w:World}{v:Value}{x:AV}(h:Rep I own θ w v x)(hx:x.flatR=true):Rep I' own θ w v x:=by
 cases x with
 | tuple cs=>
  obtain⟨vs,rfl,hl,hr⟩:=h.tuple_inv;refine .tuple vs cs hl λj hj=>(hr j hj).flatC ?_;have hx:cs.all _=true:=hx
  grind
 | _=>exact h.flatC hx
theorem Rep.flatD{I I':Nat->Nat->Prop}{own:Nat->Option Own}{θ:Nat->Option (Nat×Nat)}{w:World}{v:Value}{x:AV}(h:Rep I own θ w v x)(hx:x.flatD=true)(hn:x.flatN):Rep I' own θ w v x:=by
 cases x with
 | slice sz n f t=>
  cases t with
  | own nm=>
   subst hn
   cases h with
   | val v x h=>cases h
   | own nm sz e m a n cap f ho hm hv h=>
    refine .own nm sz e m a 0 cap f ho hm hv ?_
    cases h with
    | slice a n cap sz f us hcap hmax hz hn h1 hl hr=>
     exact .slice a 0 cap sz f us hcap hmax (λhp=>absurd hp (FA 0)) hn (λj hj=>by simp at hj) (λi hi=>absurd hi (Us i)) (λi c hi=>absurd hi (Us i))
  | _=>trivial
 | _=>exact h.flatC hx
theorem MM:∀{l:List AV} (j:Nat),fy l->(l.getD j .any).flatN
 | [],j,_=>by trivial
 | x::l,0,h=>by simpa using h.1
 | x::l,j+1,h=>by simpa using MM j h.2
theorem oU{I I1 I':Nat->Nat->Prop}{θ':Nat->Option (Nat×Nat)}{w w':World}{H:List (Nat×Own)}{v:Value}{x:AV}{θ0:Nat->Option (Nat×Nat)}(hI:∀ b o,I b o->I1 b o)(hval:∀ b o,I b o->∃ u,w.cell? ⟨b,o,none⟩=some u)
  (kc:Chg (λ_=>none) θ0 I1 w (Ag H) θ' I' w') (hf:QJ H) (hx:x.flatR=true) (hr:Rep I' (Ag H) θ' w' v x):Chg (λ_=>none) θ0 I w (Ag H) θ' I w'/\Rep I (Ag H) θ' w' v x:=by
 refine⟨{ imm:=λ_ _ h=>h,cell:=λb o h=>kc.cell b o (hI b o h),le:=(λ_ _ h=>by cases h),rel:=⟨λnm e0 cells hn=>?_,λnm sz e m hn=>?_,kc.rel.inj,λnm sz e m f hn=>?_,λnm y hn=>?_,λnm sz m hn=>?_⟩,valid:=λb o h=>?_,os:=kc.os,tape:=kc.tape,output:=kc.output,drawn:=kc.drawn,grow:=kc.grow,frame:=kc.frame,new:=kc.new,immNew:=λb o h=>.inl h },hr.flatR hx⟩
 ·have hfl :=Xp hf hn;obtain⟨hfl,hfn⟩:=hfl;obtain⟨g,c,vs,h1,h2,h3,h4,h5,h6⟩:=kc.rel.row nm e0 cells hn;refine⟨g,c,vs,h1,h2,h3,h4,λj hj=>(h5 j hj).flatD ?_ (MM j hfn),λj hj=>h6 j (kc.imm _ _ (hI _ _ hj))⟩
  grind
 ·intro g c hg;obtain⟨cur,fz,r1,r2,r3,r4,r5,r6⟩:=kc.rel.tok nm sz e m hn g c hg;exact⟨cur,fz,r1,r2,r3,r4,r5,λj hj=>r6 j (kc.imm _ _ (hI _ _ hj))⟩
 ·have hfl :=Xp hf hn;obtain⟨h1,h2⟩:=kc.rel.arr nm sz e m f hn;refine⟨h1,λg c hg=>?_⟩;obtain⟨cur,r1,r2,r3,r4,r5,r6,r7⟩:=h2 g c hg;exact⟨cur,r1,r2,r3,r4,r5,λi j hi hj=>⟨(r6 i j hi hj).1,(.val _ _ ((r6 i j hi hj).2.flat (Qa (hfl i hi) j)))⟩,λj hj=>r7 j (kc.imm _ _ (hI _ _ hj))⟩
 ·have hfl:=Xp hf hn
  cases y with
  | map nn k l=>
   rcases kc.rel.obj nm _ hn with⟨g,c,o,h1,h2,h3,h4⟩|h1
   ·refine .inl ⟨g,c,o,h1,h2,?_,λj hj=>h4 j (kc.imm _ _ (hI _ _ hj))⟩
    cases h3 with
    | map es nn k l hs hr=>
     refine .map es nn k l hs λi hi=>?_;obtain⟨u,g1,g2,g3⟩:=hr i hi;refine⟨u,g1,g2.flat (hfl _ ?_),g3⟩
     grind
   ·exact .inr h1
  | pmap nn k l=>
   rcases kc.rel.obj nm _ hn with⟨g,c,o,h1,h2,h3,h4⟩|h1
   ·refine .inl ⟨g,c,o,h1,h2,?_,λj hj=>h4 j (kc.imm _ _ (hI _ _ hj))⟩
    cases h3 with
    | pmap es nn k l0 l hp hk hs hr=>
     refine .pmap es nn k l0 l hp hk hs λi hi=>?_;obtain⟨u,g1,g2,g3⟩:=hr i hi;refine⟨u,g1,g2.flat (hfl _ (hp.mem_iff.1 ?_)),g3⟩
     grind
   ·exact .inr h1
  | _=>trivial
 ·exact kc.rel.tok8 nm sz m hn
 ·obtain⟨u,hu⟩:=hval b o h;exact⟨u,(kc.cell b o (hI b o h)).trans hu⟩
theorem ji(h:Rel Γ σ I θ a w)(hd:∀ d,o.dst=some d->d<Γ.n){f:FuncId}{vs:List AV}{ws:List Value}(hex:(execOp a.eval o).run P w=(callFunc f ws.toArray).run P w)(hvs:RepL I σ.own θ w ws vs)
  {r:Wf} {es:List (Option Own)} (hes:es=(CW r).map σ.own) {e:Eff} (he:na (Spec P) f vs es r=some e) (hob:∀ p∈e.ob,p):Ee P Γ σ o a w e.v e.wo:=by
 unfold na at he
 cases hvw:r.vw with
 | nil=>
  rw[hvw]at he;exact pU h hd hex hvs (by grind [CW]) he hob
 | cons n0 ns0=>
  have hnn:WZ r.vw=false:=by rw[hvw];rfl
  rw[hnn,An]at he
  cases hc:(WZ r.hs&&r.res.flatR&&Tz (es.drop r.vw.length) r) with
  | false=>grind
  | true=>
   rw[hc,Ae,Aj]at he;subst he;simp only[Be]at hc;obtain⟨⟨c1,c2⟩,c3⟩:=hc
   have hhs:r.hs=[]:=by cases hh:r.hs with|nil=>rfl|cons _ _=>rw[hh]at c1;cases c1
   obtain⟨henter,hspec⟩:=hob _ (zzL51 ..);have hfl:QJ r.H:=hob _ (Nf _ (zzL51 ..));have hvo:∀ p∈AV.vsObAll (S6 r.vw es) vs,p:=λp hp=>hob p (Nf _ (Nf _ hp))
   have hes':es=r.vw.map σ.own++(r.hs.map (·.1)++r.fr.map (·.2)).map σ.own:=by rw[hes];simp[CW]
   have hdrop:es.drop r.vw.length=(r.hs.map (·.1)++r.fr.map (·.2)).map σ.own:=by
    rw[hes']
    have:(r.vw.map σ.own).length=r.vw.length:=by simp
    rw[<- this,List.drop_left]
   have hlk:∀ k o,Ag (S6 r.vw es) k=some o->σ.own k=some o:=λk o hk=>by grind [CG]
   refine dg (H:=[]) h hd (hex.trans (henter _ _)) hdrop (by rw[hhs];rfl) c3 λ_ _=>?_
   have hval:∀ b o,ET (S6 r.vw es) θ I b o->∃ u,w.cell? ⟨b,o,none⟩=some u:=λb o hb=>by
    rcases hb with hb|⟨nm,sz,e,m,f,c,h1,h2,h3⟩
    ·exact h.chg.valid b o hb
    ·obtain⟨cur,r1,r2,r3,r4,_⟩:=(h.chg.rel.arr nm sz e m f (hlk _ _ h1)).2 b c h2;have:m*sz<=c*sz:=Em _ r2;exact⟨_,by rw[Py w b o cur e (0,0) r1];exact Nk (by omega)⟩
   have hII:∀ b o,I b o->ET (S6 r.vw es) θ I b o:=λ_ _ h=>.inl h;have e1:(Ag (List.map (λx:Nat×Own=>(x.1,x.2.ren r.hs)) []):Nat->Option Own)=λ_=>none:=rfl;have e2:(Ag []:Nat->Option Own)=λ_=>none:=rfl
   have hrel0:K3 (ET (S6 r.vw es) θ I) (Ag []) (λn=>(Ag (K0 r.hs) n).bind θ) w:=by
    rw[e2];exact⟨(λ_ _ _ h=>by cases h),(λ_ _ _ _ h=>by cases h),(λ_ _ _ _ _ h=>(h rfl).elim),(λ_ _ _ _ _ h=>by cases h),(λ_ _ h=>by cases h),(λ_ _ _ h=>by cases h)⟩
   have hcalls:=hspec w (ET (S6 r.vw es) θ I) (λn=>(Ag (K0 r.hs) n).bind θ) ws.toArray (by simpa using hvs.vs h.chg.rel hlk hvo) hrel0 hval (λg cells hg=>(h.glob g cells hg).mono hII (λ_ _ _=>rfl));refine Calls.mono hcalls λe' w' hq=>?_;obtain⟨v,I',θ',he',kc,hres⟩:=hq;rw[e2]at kc;obtain⟨k1,k2⟩:=oU hII h.chg.valid kc hfl c2 hres
   grind
end
section
variable {P:Program} {Γ:Ix} {σ:Sto} {I:Nat->Nat->Prop} {θ:Nat->Option (Nat×Nat)} {a:Act} {w:World} {o:Oper}
theorem eD(h:Rel Γ σ I θ a w)(x:Operand):Rep I σ.own θ w (a.eval x) (fx σ.tmp x):=by
 cases x with
 | tmp t=>exact h.slots t
 | const v=>exact Vk  v
 | global g=>
  show Rep I _ θ w _ (match jU g with|some cells=>.rptr cells|none=>.any)
  cases hg:jU g with
  | none=>exact .val _ _ (.any _)
  | some cells=>exact .val _ _ (h.glob g _ hg)
 | func f=>exact .val _ _ (.clo f)
theorem mC(h:Rel Γ σ I θ a w)(l:List Operand):RepL I σ.own θ w (l.map a.eval) (l.map (fx σ.tmp)):=by
 induction l with
 | nil=>exact .nil
 | cons x l ih=>exact .cons (eD h x) ih
theorem SG{v:Value}{x:AV}{γ gd:Bool}(h:Rep I σ.own θ w v x)(hγ:gd=true->γ=true)(ht:∀ p∈x.there γ gd,p):Rep I σ.own θ w v x.uncond:=by
 cases x with
 | cond c y=>
  obtain⟨h1,_⟩:=h.cond_inv
  apply h1
  cases gd with
  | false=>exact ht _ (by simp[AV.there])
  | true=>exact ht (γ=true->c=true) (by simp[AV.there]) (hγ rfl)
 | _=>exact h
theorem d9{l:List Value}{m:List AV}{γ gd:Bool}(h:RepL I σ.own θ w l m)(hγ:gd=true->γ=true)(ht:∀ p∈(m.map (AV.there γ gd)).flatten,p):RepL I σ.own θ w l (m.map AV.uncond):=by
 induction h with
 | nil=>exact .nil
 | cons h _ ih=>
  simp only[Cy,List.flatten_cons,zzL18]at ht;exact .cons (SG h hγ λp hp=>ht p (.inl hp)) (ih λp hp=>ht p (.inr hp))
theorem HC{v:Value}{x:AV}{ps:List Prop}{b:Bool}(hx:x.boolIn=some (ps,b))(h:Rep I σ.own θ w v x)(hp:∀ p∈ps,p):v = .bool b:=by
 unfold AV.boolIn at hx
 split at hx
 ·obtain⟨rfl,rfl⟩:=hx;exact h.bool_inv
 ·obtain⟨rfl,rfl⟩:=hx;exact(h.cond_inv.1 (hp _ (by simp))).bool_inv
 ·cases hx
theorem td(h:Rel Γ σ I θ a w)(hd:∀ d,o.dst=some d->d<Γ.n){vs:List AV}(hp:FT o=true)(hvs:RepL I σ.own θ w (o.op.operands.toList.map a.eval) vs){γ gd:Bool}(hγ:gd=true->γ=true)
  (hth:∀ p∈DD γ gd vs,p) {e:Eff} (he:nd vs=some e) (hob:∀ p∈e.ob,p):Ee P Γ σ o a w e.v e.wo:=by
 unfold FT at hp
 split at hp
 ·rename_i c x y ho
  simp only[ho,Op.operands,Cy,Dn]at hvs;obtain⟨vc,vx,vy,rfl,hc,hx,hy⟩:=hvs.three;simp only[nd]at he
  split at he
  ·rename_i cb pa xa pb xb hcu hxa hyb
   simp only[Aj]at he;subst he;have hc':=SG hc hγ hth;rw[hcu]at hc';have ec:=hc'.bool_inv;simp only[zzL18]at hob
   cases cb with
   | true=>
    have ex:=HC hxa hx (λp hp=>hob _ (.inl (zzL27.2 ⟨p,hp,rfl⟩)) rfl);exact Ax h hd (v:=.bool xa) (by simp[execOp,ho,ec,ex,asBool]) (.val _ _ (.bool _))
   | false=>
    have ey:=HC hyb hy (λp hp=>hob _ (.inr (zzL27.2 ⟨p,hp,rfl⟩)) rfl);exact Ax h hd (v:=.bool xb) (by simp[execOp,ho,ec,ey,asBool]) (.val _ _ (.bool _))
  ·cases he
 ·cases hp
theorem RepL.append{own:Nat->Option Own}{l l':List Value}{m m':List AV}(h:RepL I own θ w l m)(h':RepL I own θ w l' m'):RepL I own θ w (l++l') (m++m'):=by
 induction h with
 | nil=>exact h'
 | cons h _ ih=>exact .cons h ih
theorem ju{own:Nat->Option Own}:∀{l:List Value} {m:List AV},l.length=m.length->(∀ j,j<m.length->Rep I own θ w (l.getD j undef) (m.getD j .any))->RepL I own θ w l m
 | [],[],_,_=>.nil
 | [],_::_,h,_=>by simp at h
 | _::_,[],h,_=>by simp at h
 | v::l,x::m,h,hr=>.cons (by simpa using hr 0 (by simp)) (ju (by simpa using h) λj hj=>by simpa using hr (j+1) (by simpa using hj))
theorem NB{own:Nat->Option Own}{l:Array Value}{m:List AV}(h:l.size=m.length)(hr:∀ j,j<m.length->Rep I own θ w (l.getD j undef) (m.getD j .any)):RepL I own θ w l.toList m:=
 ju (by simpa using h) λj hj=>by
  simp_all
theorem WU(h:Rel Γ σ I θ a w)(hd:∀ d,o.dst=some d->d<Γ.n){vs:List AV}(hvs:vs=o.op.operands.toList.map (fx σ.tmp)){r:Option Wf}{es:List (Option Own)}(hes:es=(V2 o vs r).map σ.own){γ gd:Bool}{hint:Nat}(hγ:gd=true->γ=true)
  (hth:∀ p∈(bif FT o then DD γ gd vs else(vs.map (AV.there γ gd)).flatten),p) {e:Eff}
  (he:jR P (Spec P) hint o vs es r=some e) (hob:∀ p∈e.ob,p) :
  Ee P Γ σ o a w e.v e.wo:=by
 have hall:RepL I σ.own θ w (o.op.operands.toList.map a.eval) vs:=by rw[hvs];exact mC h _
 unfold jR at he
 cases hp:FT o with
 | true=>
  simp only[hp,Ae]at he hth;exact td h hd hp hall hγ hth he hob
 | false=>
  simp only[hp,An]at he hth;have hun:=d9 hall hγ hth
  cases hc:QP o with
  | false=>
   simp only[hc,An]at he;exact cY h hd hun (by rw[hes];simp[V2,hc]) he hob
  | true=>
   simp only[hc,Ae]at he
   split at he
   ·rename_i f az r' hf
    unfold oQ at hf
    split at hf
    ·rename_i g xs ts ho
     simp only[Aj,Ms]at hf;obtain⟨rfl,rfl⟩:=hf
     have e1:o.op.operands.toList.map a.eval = .func (.func g) #[] #[]::xs.toList.map a.eval:=by rw[ho];simp[Op.operands,Call.operands,Act.eval]
     have hl:RepL I σ.own θ w (xs.toList.map a.eval) ((vs.map AV.uncond).drop 1):=by
      rw[e1]at hun
      generalize vs.map AV.uncond=m at hun
      cases hun with|cons _ t=>simpa using t
     refine ji (ws:=xs.toList.map a.eval) h hd ?_ hl (by rw[hes];simp[V2,hc]) he hob
     have e2:(xs.toList.map a.eval).toArray=xs.map a.eval:=by apply Th;simp
     rw[e2];simp[execOp,ho,resolve,invoke,Deferred.ofValue,Act.eval]
    ·rename_i t xs ts ho
     split at hf
     ·rename_i g fs cs rest hm
      simp only[Aj,Ms]at hf;obtain⟨rfl,rfl⟩:=hf
      have e1:o.op.operands.toList.map a.eval=a.eval (.tmp t)::xs.toList.map a.eval:=by rw[ho];simp[Op.operands,Call.operands]
      rw[e1,hm]at hun
      cases hun with
      | cons hh ht=>
       obtain⟨fv,cv,hv,l1,l2,r1,r2⟩:=hh.clo_inv;have hR:RepL I σ.own θ w (fv.toList++xs.toList.map a.eval++cv.toList) (fs++rest++cs):=RepL.append (RepL.append (NB l1 r1) ht) (NB l2 r2);refine ji (ws:=fv.toList++xs.toList.map a.eval++cv.toList) h hd ?_ hR (by rw[hes];simp[V2,hc]) he hob
       have e2:(fv.toList++xs.toList.map a.eval++cv.toList).toArray=fv++xs.map a.eval++cv:=by apply Th;simp
       rw[e2];simp[execOp,ho,resolve,invoke,Deferred.ofValue,hv]
     ·cases hf
    ·cases hf
   ·cases he
theorem d7{d:Option Nat}{x y:AV}{wo:List (Nat×Own)}(h:Rel Γ (σ.upd d x wo) I θ a w)(hxy:AVle x y):Rel Γ (σ.upd d y wo) I θ a w:=by
 refine⟨h.size,h.defers,λt=>?_,h.chg⟩;have:=h.slots t;simp only[Sto.upd]at this ⊢
 split
 ·rename_i hdt
  rw[if_pos hdt]at this;exact hxy _ _ _ _ _ this
 ·grind
theorem af{y:AV}{wo:List (Nat×Own)}(h:∀ p∈(PZ y wo).2,p):(PZ y wo).1=wo:=by
 unfold PZ at h ⊢
 split at h
 ·have:=h _ (zzL24.2 rfl);subst this
  rfl
 ·rfl
theorem MI{c:Option AV}{e:Eff}(hob:∀ p∈(PY c e).ob,p):(∀ p∈e.ob,p)/\(PY c e).wo=e.wo/\AVle e.v (PY c e).v:=by
 unfold PY at hob ⊢
 split at hob
 ·exact⟨hob,rfl,λ_ _ _ _ _ h=>h⟩
 ·refine⟨λp hp=>hob p (zzL18.2 (.inl hp)),af λp hp=>hob p (zzL18.2 (.inr (Nf _ hp))),hob _ (zzL18.2 (.inr (by simp)))⟩
theorem pn{d:Option Nat}{x:AV}{wo:List (Nat×Own)}{c:Bool}(h:Rel Γ (σ.upd d x wo) I θ a w)(hc:c=true):Rel Γ (σ.upd d (.cond c x) wo) I θ a w:=by
 refine⟨h.size,h.defers,λt=>?_,h.chg⟩;have:=h.slots t;simp only[Sto.upd]at this ⊢
 split
 ·rename_i hdt
  rw[if_pos hdt]at this;exact .cond _ _ _ (λ_=>this) (λhf=>by rw[hc]at hf;cases hf)
 ·grind
theorem dD{ops:Array Oper}{j:Nat}{want:Bool}(hg:o.guard=some (j,want)){oj:Oper}(hj:ops[j]?=some oj){t:Nat}(ht:oj.dst=some t)(h:Rel Γ σ I θ a w){γ:Bool}(hγ:ol want (σ.tmp t)=some γ) :
  Region.wanted o (yielded ops a.tmps)=γ:=by
 have hs:=h.slots t
 have hy:yielded ops a.tmps j=match a.tmps.getD t undef with | .bool b=>some b|_=>none:=by
  simp only[yielded,hj,Ai,ht]
  by_cases hlt:t<a.tmps.size
  ·obtain⟨u,hu,hu'⟩:=CV  hlt;rw[hu,hu']
   cases u<;>rfl
  ·simp[ hlt,undef]
 simp only[Region.wanted,hg,hy];unfold ol at hγ
 split at hγ
 ·rename_i b hb
  rw[hb]at hs;rw[hs.bool_inv];simp only[Aj]at hγ;subst hγ
  cases b<;>cases want<;>rfl
 ·rename_i c b hb
  rw[hb]at hs;obtain⟨h1,h2⟩:=hs.cond_inv;simp only[Aj]at hγ;subst hγ
  cases c with
  | true=>rw[(h1 rfl).bool_inv];cases b<;>cases want<;>rfl
  | false=>rw[h2 rfl];rfl
 ·rename_i hb
  rw[hb]at hs;rw[hs.undef_inv];simp only[Aj]at hγ;subst hγ
  rfl
 ·cases hγ
theorem pJ{γ:Bool}{x y z:AV}(h:x.merge γ y=some z):z=bif γ then y else x:=by
 cases x<;>cases y<;>simp only[AV.merge,reduceCtorEq,Aj]at h<;>try (cases h;done)
 case int.int k a k' b=>
  cases hk:EI k k' with
  | false=>simp[hk]at h
  | true=>obtain rfl:=Ph hk;simp only[hk,Ae,Aj]at h;subst h;cases γ<;>rfl
 case bool.bool=>subst h;cases γ<;>rfl
 case str.str=>subst h;cases γ<;>rfl
 case nilp.nilp=>subst h;cases γ<;>rfl
 case omap.omap n n'=>
  cases hb:Nat.beq n n' with
  | false=>simp[hb]at h
  | true=>obtain rfl:=Cq hb;simp only[hb,Ae,Aj]at h;subst h;cases γ<;>rfl
 case any.any=>subst h;cases γ<;>rfl
 case ptr.ptr n o n' o'=>
  cases hb:(Nat.beq n n'&&Nat.beq o o') with
  | false=>simp[hb]at h
  | true=>
   simp_all
 case nilm.nilm=>subst h;cases γ<;>rfl
 case err.err=>subst h;cases γ<;>rfl
 case vsl.vsl n k n' k'=>
  cases hb:Nat.beq n n' with
  | false=>simp[hb]at h
  | true=>obtain rfl:=Cq hb;simp only[hb,Ae,Aj]at h;subst h;cases γ<;>rfl
 case slice.slice sz n f t sz' n' f' t'=>
  cases t<;>cases t'<;>simp only[AV.merge,reduceCtorEq]at h
  ·cases hb:Nat.beq sz sz' with
   | false=>simp[hb]at h
   | true=>
    obtain rfl:=Cq hb;simp only[hb,Ae,Aj]at h;subst h;cases γ<;>rfl
  ·rename_i k k'
   cases hb:(Nat.beq sz sz'&&Nat.beq k k') with
   | false=>simp[hb]at h
   | true=>
    simp only[hb,Ae,Aj]at h;simp only[Be]at hb;obtain rfl:=Cq hb.1;obtain rfl:=Cq hb.2;subst h;cases γ<;>rfl
theorem MT{γ:Bool}:∀{l m r:List AV},AV.mergeAll γ l m=some r->r=bif γ then m else l
 | [],[],r,h=>by simp only[AV.mergeAll,Aj]at h;subst h;cases γ<;>rfl
 | [],_::_,r,h=>by simp[AV.mergeAll]at h
 | _::_,[],r,h=>by simp[AV.mergeAll]at h
 | x::l,y::m,r,h=>by
  simp only[AV.mergeAll]at h
  split at h
  ·rename_i z q h1 h2
   simp only[Aj]at h;subst h;rw[pJ h1,MT h2]
   cases γ<;>rfl
  ·cases h
theorem MY{γ:Bool}{x y z:Own}(h:x.merge γ y=some z):z=bif γ then y else x:=by
 cases x<;>cases y<;>simp only[Own.merge,reduceCtorEq]at h
 ·rename_i e l e' m
  cases hb:Nat.beq e e' with
  | false=>simp[hb]at h
  | true=>
   obtain rfl:=Cq hb;simp only[hb,Ae]at h
   split at h
   ·rename_i r hr
    simp only[Aj]at h;subst h;rw[MT hr]
    cases γ<;>rfl
   ·cases h
 ·rename_i sz e n sz' e' n'
  cases hs:Nat.beq sz sz' with
  | false=>simp[hs]at h
  | true=>
   cases hb:Nat.beq e e' with
   | false=>simp[hb]at h
   | true=>
    obtain rfl:=Cq hb;obtain rfl:=Cq hs;simp only[hb,hs,FB,Ae,Aj]at h;subst h
    cases γ<;>rfl
 ·rename_i sz e n f sz' e' n' f'
  cases hs:Nat.beq sz sz' with
  | false=>simp[hs]at h
  | true=>
   cases hb:Nat.beq e e' with
   | false=>simp[hb]at h
   | true=>
    obtain rfl:=Cq hb;obtain rfl:=Cq hs;simp only[hb,hs,FB,Ae,Aj]at h;subst h
    cases γ<;>rfl
 ·rename_i x y
  cases x<;>cases y<;>simp only[reduceCtorEq]at h
  rename_i nn k l nn' k' l'
  cases hn:nn==nn' with
  | false=>simp[hn]at h
  | true=>
   cases hk:EI k k' with
   | false=>simp[hk]at h
   | true=>
    obtain rfl:=Ph hk
    obtain rfl:nn=nn':=by simpa using hn
    simp only[hn,hk,FB,Ae,Aj]at h;subst h
    cases γ<;>rfl
theorem dp{own:Nat->Option Own}:∀{ns:List Nat} {n:Nat} {o:Own},dn ns (ns.map own) n=some o->own n=some o
 | [],n,o,h=>by simp[dn]at h
 | k::ns,n,o,h=>by
  simp only[Cy,dn]at h
  cases hb:Nat.beq k n with
  | true=>simp_all
  | false=>simp only[hb]at h;exact dp h
theorem HP{ns:List Nat}{es:List (Option Own)}:∀{wo wo':List (Nat×Own)},Ve true ns es wo=some wo'->wo'=wo
 | [],wo',h=>by simp only[Ve,Aj]at h;exact h.symm
 | (n,o)::r,wo',h=>by
  simp only[Ve]at h
  split at h
  ·cases h
  ·rename_i r' h2
   have h2:=HP h2;subst h2
   split at h
   ·split at h
    ·rename_i z h1
     simp only[Aj]at h;subst h;rw[MY h1]
     rfl
    ·grind
   ·grind
theorem EL{own:Nat->Option Own}{ns:List Nat}:∀{wo wo':List (Nat×Own)},Ve false ns (ns.map own) wo=some wo'->∀ n o,Ag wo' n=some o->own n=some o
 | [],wo',h=>by simp only[Ve,Aj]at h;subst h;intro n o h;cases h
 | (n,o)::r,wo',h=>by
  simp only[Ve]at h
  split at h
  ·cases h
  ·rename_i r' h2
   have h2:=EL h2
   split at h
   ·rename_i o' ho'
    split at h
    ·rename_i z h1
     simp only[Aj]at h;subst h;intro k q hk;simp only[Ag]at hk
     cases hb:Nat.beq n k with
     | true=>
      obtain rfl:=Cq hb;simp only[hb,Ae,Aj]at hk;subst hk;rw[MY h1];exact dp ho'
     | false=>grind
    ·grind
   ·grind
theorem qK{d:Option Nat}{x:AV}{wo:List (Nat×Own)}(h:∀ n o,Ag wo n=some o->σ.own n=some o):σ.upd d x wo=σ.upd d x []:=by
 simp only[Sto.upd,Sto.mk.injEq,true_and]
 funext n
 cases hl:Ag wo n with
 | none=>rfl
 | some o=>simp[h n o hl,Ag]
theorem hZ{ops:Array Oper}{i:Nat}(hi:ops[i]?=some o)(h:Rel Γ σ I θ a w)(hd:∀ d,o.dst=some d->d<Γ.n){vs:List AV}(hvs:vs=o.op.operands.toList.map (fx σ.tmp)){gv:Option (AV×Bool)}(hgv:BA ops.toList σ.tmp o=some gv)
  {r:Option Wf} {es:List (Option Own)} (hes:es=(V2 o vs r).map σ.own) {cs:Option AV} {e:yU} (he:qC P (Spec P) cs o vs gv es r=some e) (hob:∀ p∈e.ob,p)
  (K:Act->World->Prop) (Q:Exit->Act->World->Prop) (hK:∀ I' θ' a' w',Rel Γ (σ.upd o.dst e.v e.wo) I' θ' a' w'->K a' w'):wpOp P ops Q i K a w:=by
 unfold qC at he;unfold BA at hgv;unfold wpOp;simp only[hi]
 cases hg:o.guard with
 | none=>
  simp only[hg,Aj]at hgv;subst hgv;simp only at he
  split at he
  ·rename_i ef' hef'
   obtain⟨ef,hef,rfl⟩:=zzL89.1 hef';simp only[Aj]at he;subst he;simp only[zzL18]at hob;obtain⟨c1,c2,c3⟩:=MI (λp hp=>hob p (.inr hp));rw[if_pos (by simp[Region.wanted,hg])];have hok:=WU h hd hvs hes (γ:=true) (gd:=false) (λh=>by cases h) (λp hp=>hob p (.inl hp)) hef c1;refine .inl (hok K Q λI' θ' a' w' hr=>hK I' θ' a' w' ?_);rw[c2];exact d7 hr c3
  ·cases he
 | some gg=>
  obtain⟨j,want⟩:=gg;simp only[hg]at hgv
  split at hgv
  ·rename_i oj hoj
   split at hgv
   ·rename_i t ht
    simp only[Aj]at hgv;subst hgv;simp only at he
    split at he
    ·rename_i γ ef' hγ hef'
     obtain⟨ef,hef,rfl⟩:=zzL89.1 hef'
     split at he
     ·rename_i wo hwo
      simp only[Aj]at he;subst he
      have hj :=by simpa using hoj
      have hw:=dD hg hj ht h hγ;rw[hw];simp only[zzL18]at hob
      cases γ with
      | false=>
       rw[hes]at hwo;have hs:=qK (σ:=σ) (d:=o.dst) (x:=.cond false (PY (gX o cs) ef).v) (EL hwo);refine hK I θ _ _ ?_;rw[hs];exact DN h (.refl h.chg.rel h.chg.valid)  (.cond _ _ _ (λhf=>by cases hf) (λ_=>rfl)) hd
      | true=>
       obtain⟨c1,c2,c3⟩:=MI  (e:=ef) (λp hp=>hob _ (.inr (zzL27.2 ⟨p,hp,rfl⟩)) rfl);have hok:=WU h hd hvs hes (γ:=true) (gd:=true) (λ_=>rfl) (λp hp=>hob p (.inl hp)) hef c1;have hm:=HP hwo;rw[c2]at hm;subst hm;exact .inl (hok K Q λI' θ' a' w' hr=>hK I' θ' a' w' (pn (d7 hr c3) rfl))
     ·cases he
    ·cases he
   ·cases hgv
  ·cases hgv
end
structure Ev where
 rt:List (Nat×AV)
 ro:List (Nat×Option Own)
 wt:Option Nat
 v:AV
 wo:List (Nat×Own)
def Ev.ok(σ:Sto)(e:Ev):Prop:=(∀ p∈e.rt,σ.tmp p.1=p.2)/\∀ p∈e.ro,σ.own p.1=p.2
def Ev.app(σ:Sto)(e:Ev):Sto:=σ.upd e.wt e.v e.wo
def Ev.tr(e:Ev):Tr:=⟨e.rt.map (·.1),e.wt,e.ro.map (·.1),e.wo.map (·.1)⟩
structure EC(x y:Ev):Prop where
 a:∀ d,x.wt=some d->d∉y.rt.map (·.1)
 b:∀ d,x.wt=some d->y.wt≠some d
 c:∀ d,y.wt=some d->d∉x.rt.map (·.1)
 d:∀ n∈x.wo.map (·.1),n∉y.ro.map (·.1)/\n∉y.wo.map (·.1)
 e:∀ n∈y.wo.map (·.1),n∉x.ro.map (·.1)
theorem HU{n:Nat}{l:List Nat}(h:(!Bj n l)=true):n∉l:=λhm=>by rw[memB_mem.2 hm]at h;cases h
theorem am{x y:Ev}(h:f5 x.tr y.tr=true):EC x y:=by
 simp only[f5,Ev.tr,Be]at h;obtain⟨⟨⟨h1,h2⟩,h3⟩,h4⟩:=h;refine⟨λd hd=>?_,λd hd=>?_,λd hd=>?_,λn hn=>?_,λn hn=>?_⟩
 ·rw[hd]at h1;simp only[Be]at h1;exact HU h1.1
 ·rw[hd]at h1;intro he;rw[he]at h1;simp at h1
 ·rw[hd]at h2;exact HU h2
 ·have:=zzL30.1 h3 n hn;simp only[Be]at this;exact⟨HU this.1,HU this.2⟩
 ·exact HU (zzL30.1 h4 n hn)
inductive cM:List (Nat×Ev)->Sto->Sto->Prop
 | nil (σ:Sto):cM [] σ σ
 | cons {i:Nat} {e:Ev} {l:List (Nat×Ev)} {σ σ':Sto} (h:e.ok σ) (t:cM l (e.app σ) σ'):cM ((i,e)::l) σ σ'
theorem jE(σ:Sto)(e:Ev)(t:Nat)(h:e.wt≠some t):(e.app σ).tmp t=σ.tmp t:=by simp[Ev.app,Sto.upd,h]
theorem jD(σ:Sto)(e:Ev)(n:Nat)(h:n∉e.wo.map (·.1)):(e.app σ).own n=σ.own n:=by simp[Ev.app,Sto.upd,Wn h]
theorem tb{σ:Sto}{x y:Ev}(hi:EC x y)(h:y.ok (x.app σ)):y.ok σ:=by
 refine⟨λp hp=>?_,λp hp=>?_⟩
 ·rw[<- h.1 p hp,jE];intro he;exact hi.a p.1 he (zzL27.2 ⟨p,hp,rfl⟩)
 ·rw[<- h.2 p hp,jD];intro he;exact(hi.d p.1 he).1 (zzL27.2 ⟨p,hp,rfl⟩)
theorem wg{σ:Sto}{x y:Ev}(hi:EC x y)(h:x.ok σ):x.ok (y.app σ):=by
 refine⟨λp hp=>?_,λp hp=>?_⟩
 ·rw[jE]
  ·exact h.1 p hp
  ·intro he;exact hi.c p.1 he (zzL27.2 ⟨p,hp,rfl⟩)
 ·rw[jD]
  ·exact h.2 p hp
  ·intro he;exact hi.e p.1 he (zzL27.2 ⟨p,hp,rfl⟩)
theorem nq{σ:Sto}{x y:Ev}(hi:EC x y):x.app (y.app σ)=y.app (x.app σ):=by
 simp only[Ev.app,Sto.upd,Sto.mk.injEq]
 constructor
 ·funext t
  by_cases h1:x.wt=some t
  ·have:=hi.b t h1;simp[ this]
  ·simp[h1]
 ·funext n
  by_cases h1:n∈x.wo.map (·.1)
  ·have:=Wn (hi.d n h1).2;simp[this]
  ·simp[Wn h1]
theorem mH{pre:List (Nat×Ev)}:∀{post:List (Nat×Ev)} {i:Nat} {e:Ev} {σ σ':Sto},cM (pre++(i,e)::post) σ σ'->(∀ p∈pre,EC p.2 e)->e.ok σ/\cM (pre++post) (e.app σ) σ':=by
 induction pre with
 | nil=>intro post i e σ σ' h _;cases h with|cons h t=>exact⟨h,t⟩
 | cons p pre ih=>
  intro post i e σ σ' h hi;obtain⟨j,x⟩:=p
  cases h with|cons hx t=>
  obtain⟨h1,h2⟩:=ih t λp hp=>hi p (Nf _ hp);have hxe:=hi (j,x) (by simp);refine⟨tb hxe h1,.cons (wg hxe hx) ?_⟩;rw[nq hxe];exact h2
section
variable {P:Program} {Γ:Ix} {ops:Array Oper} {Q:Exit->Act->World->Prop}
def ZB(P:Program)(Γ:Ix)(ops:Array Oper)(Q:Exit->Act->World->Prop)(i:Nat)(e:Ev):Prop:=
 ∀(σ:Sto),e.ok σ->∀(I:Nat->Nat->Prop) (θ:Nat->Option (Nat×Nat)) (a:Act) (w:World),Rel Γ σ I θ a w->∀ K:Act->World->Prop,(∀ I' θ' a' w',Rel Γ (e.app σ) I' θ' a' w'->K a' w')->wpOp P ops Q i K a w
theorem SV:∀(es:List (Nat×Ev)) (σ σ':Sto),(∀ p∈es,ZB P Γ ops Q p.1 p.2)->cM es σ σ'->(∀ I θ a w,Rel Γ σ' I θ a w->Q .normal a w)->
  ∀ I θ a w,Rel Γ σ I θ a w->wpOps P ops Q (es.map (·.1)) a w
 | [],σ,σ',_,hr,hQ,I,θ,a,w,h=>by cases hr;simpa [wpOps] using hQ I θ a w h
 | (i,e)::es,σ,σ',hs,hr,hQ,I,θ,a,w,h=>by
  cases hr with|cons hok t=>
  simp only[Cy];exact hs (i,e) (by simp) σ hok I θ a w h _ λI' θ' a' w' h'=>SV es _ σ' (λp hp=>hs p (Nf _ hp)) t hQ I' θ' a' w' h'
inductive ub (ops:Array Oper):Nat->Nat->Prop
 | direct {i:Nat} {o:Oper} {e:Edge} (ho:ops[i]?=some o) (he:e∈o.after) (hb:Region.binds .any e=true):ub ops e.on i
 | trans {i j k:Nat} (h:ub ops i j) (h':ub ops j k):ub ops i k
def ml(ops:Array Oper)(listed:Array Bool):Prop:=∀ i o,ops[i]?=some o->listed.getD i false=true->∀ e∈o.after,Region.binds .any e=true->listed.getD e.on false=true
theorem fc{listed:Array Bool}(hc:ml ops listed){j i:Nat}(h:ub ops j i):(∀ o,ops[i]?=some o->∀ e∈o.after,Region.binds .any e=true->listed.getD e.on false=true)->listed.getD j false=true:=by
 induction h with
 | direct ho he hb=>grind
 | trans _ _ ih1 ih2=>intro hi;exact ih1 λo ho e he hb=>hc _ o ho (ih2 hi) e he hb
theorem WH(hedge:∀ i o,ops[i]?=some o->∀ e∈o.after,Region.binds .any e=true->e.on<i)(σ':Sto)(hQ:∀ I θ a w,Rel Γ σ' I θ a w->Q .normal a w):∀(fuel:Nat) (es:List (Nat×Ev)) (listed:Array Bool) (σ:Sto),
  (∀ p∈es,ZB P Γ ops Q p.1 p.2)->cM es σ σ'->es.Pairwise (λp q=>p.1<q.1)->listed.size=ops.size->(∀ j,j∈es.map (·.1)↔j<ops.size/\listed.getD j true=false)->es.length=fuel->
  (∀ p∈es,∀ q∈es,p.1<q.1->¬ EC p.2 q.2->ub ops p.1 q.1)->ml ops listed->∀ I θ a w,Rel Γ σ I θ a w->wpAny P .any ops Q fuel listed a w
 | 0,es,listed,σ,_,hr,_,_,hmem,hlen,_,_,I,θ,a,w,h=>by
  have:es=[]:=YO hlen;subst this;cases hr;refine⟨?_,hQ I θ a w h⟩
  cases hready:Region.ready .any ops listed with
  | nil=>rfl
  | cons i l=>
   have hi:i∈Region.ready .any ops listed:=by rw[hready];simp
   obtain⟨h1,o,ho,_⟩:=mem_ready.1 hi;have:=(hmem i).2 ⟨(Array.getElem?_eq_some_iff.1 ho).1,h1⟩
   cases this
 | fuel+1,es,listed,σ,hs,hr,hpw,hsz,hmem,hlen,hdep,hcl,I,θ,a,w,h=>by
  refine⟨λhnil=>?_,λi hi=>?_⟩
  ·cases es with
   | nil=>simp at hlen
   | cons p es=>
    obtain⟨i,e⟩:=p;have hi:=(hmem i).1 (by simp)
    have hin:i∈Region.ready .any ops listed:=by
     refine mem_ready.2 ⟨hi.2,ops[i]'hi.1,by simp[hi.1],λe' he' hb=>?_⟩;have hlt:=hedge i _ (Array.getElem?_eq_getElem hi.1) e' he' hb
     have hnot:¬ (e'.on∈((i,e)::es).map (·.1)):=by
      intro hm;simp only[Cy,zzL28]at hm;rcases hm with hm|hm
      ·omega
      ·obtain⟨q,hq,hq'⟩:=zzL27.1 hm;have:=(zzL104.1 hpw).1 q hq;simp only at this;omega
     rw[hmem]at hnot
     have hlt':e'.on<ops.size:=by omega
     have hls:e'.on<listed.size:=by omega
     cases hb':listed.getD e'.on false with
     | true=>rfl
     | false=>
      refine(hnot ⟨hlt',?_⟩).elim
      simpa [Array.getD,hls] using hb'
    rw[hnil]at hin;cases hin
  ·obtain⟨h1,o,ho,hedges⟩:=mem_ready.1 hi;have hlt:=(Array.getElem?_eq_some_iff.1 ho).1;have hin:=(hmem i).2 ⟨hlt,h1⟩;obtain⟨⟨i',e⟩,hie,rfl⟩:=zzL27.1 hin;obtain⟨pre,post,rfl⟩:=List.append_of_mem hie;simp only at *
   have hpre:∀ p∈pre,EC p.2 e:=λp hp=>by
    refine bb λhni=>?_
    have hpi:p.1<i':=by
     have:=(zzL124.1 hpw).2.2 p hp (i',e) (by simp);exact this
    have hanc:=hdep p (by simp[hp]) (i',e) (by simp) hpi hni
    have hl:=fc hcl hanc (λo' ho' e' he' hb=>by
     simp only at ho';rw[ho]at ho';obtain rfl:=OI ho'
     exact hedges e' he' hb)
    have hp':=(hmem p.1).1 (zzL27.2 ⟨p,by simp[hp],rfl⟩)
    have hls:p.1<listed.size:=by omega
    simp[Array.getD,hls]at hl hp';rw[hl]at hp';simp at hp'
   obtain⟨hok,hr'⟩:=mH hr hpre
   have hpw':(pre++post).Pairwise (λp q=>p.1<q.1):=by
    refine hpw.sublist ?_;exact List.Sublist.append (List.Sublist.refl _) (List.sublist_cons_self _ _)
   have hsub:∀ p,p∈pre++post->p∈pre++(i',e)::post:=λp hp=>by
    rcases zzL18.1 hp with hp|hp
    ·exact zzL18.2 (.inl hp)
    ·exact zzL18.2 (.inr (Nf _ hp))
   refine hs (i',e) (by simp) σ hok I θ a w h _ λI' θ' a' w' h'=>
    WH hedge σ' hQ fuel (pre++post) (listed.setIfInBounds i' true) _ (λp hp=>hs p (hsub p hp)) hr' hpw' (by simp[hsz]) (λj=>?_) (by simp at hlen ⊢;omega) (λp hp q hq=>hdep p (hsub p hp) q (hsub q hq)) ?_ I' θ' a' w' h'
   ·have hne:∀ p∈pre++post,p.1≠i':=λp hp he=>by
     rcases zzL18.1 hp with hp|hp
     ·have:=(zzL124.1 hpw).2.2 p hp (i',e) (by simp);simp only at this;omega
     ·have:=(zzL104.1 (zzL124.1 hpw).2.1).1 p hp;simp only at this;omega
    constructor
    ·intro hj;obtain⟨p,hp,rfl⟩:=zzL27.1 hj;have:=(hmem p.1).1 (zzL27.2 ⟨p,hsub p hp,rfl⟩);refine⟨this.1,?_⟩;rw[getD_set_ne true (Ol (hne p hp))];exact this.2
    ·rintro⟨hj1,hj2⟩
     by_cases hji:j=i'
     ·subst hji
      have hls:j<listed.size:=by omega
      simp[Array.getD,hls]at hj2
     ·rw[getD_set_ne true (Ol hji)]at hj2;have:=(hmem j).2 ⟨hj1,hj2⟩;obtain⟨p,hp,rfl⟩:=zzL27.1 this;refine zzL27.2 ⟨p,?_,rfl⟩;rcases zzL18.1 hp with hp|hp
      ·exact zzL18.2 (.inl hp)
      ·rcases zzL28.1 hp with rfl|hp
       ·exact(hji rfl).elim
       ·exact zzL18.2 (.inr hp)
   ·intro x ox hox hx e' he' hb
    apply getD_set_true
    by_cases hxi:i'=x
    ·subst hxi;rw[ho]at hox;obtain rfl:=OI hox;exact hedges e' he' hb
    ·rw[getD_set_ne false hxi]at hx;exact hcl x ox hox hx e' he' hb
end
theorem G2{α:Type}(l:List (Nat×α))(k:Nat)(x:α)(n:Nat):Ag (Dz l k x) n=if k=n then some x else Ag l n:=by
 induction l with
 | nil=>
  simp only[Dz,Ag]
  by_cases h:k=n
  · simp
  ·cases hb:Nat.beq k n with
   | true=>simp_all
   | false=>simp[h]
 | cons p l ih=>
  obtain⟨k',y⟩:=p;simp only[Dz]
  cases hb:Nat.beq k' k with
  | true=>
   have:=Cq hb;subst this;simp only[Ae,Ag]
   by_cases h:k'=n
   ·subst h;simp
   ·cases hb:Nat.beq k' n with
    | true=>simp_all
    | false=>simp[h]
  | false=>
   simp only[An,Ag,ih]
   cases hb':Nat.beq k' n with
   | true=>
    grind
   | false=>simp
theorem dN{α:Type}(l r:List (Nat×α))(n:Nat):Ag (SC l r) n=match Ag r n with|some x=>some x|none=>Ag l n:=by
 induction r with
 | nil=>rfl
 | cons p r ih=>
  obtain⟨k,x⟩:=p;simp only[SC,G2,Ag,ih]
  by_cases h:k=n
  ·subst h;simp
  ·cases hb:Nat.beq k n with
   | true=>simp_all
   | false=>simp[h]
theorem A8{l:List (Nat×Own)}{r:List (Nat×mW)}{k:Nat}(h:k<Bp):Db l r k=Ag l k:=by simp[Db,h]
theorem Rl(b i:Nat):¬ Sx b i<Bp:=by unfold Sx;have:Bp*1<=Bp*(b+1):=Nat.mul_le_mul_left _ (by omega);omega
theorem Xg{b i:Nat}(h:i<Bp):Sx b i / Bp-1=b:=by
 have h0:0<Bp:=by decide
 unfold Sx;rw[Nat.mul_add_div h0,Nat.div_eq_of_lt h];omega
theorem U2{b i:Nat}(h:i<Bp):Sx b i % Bp=i:=by
 unfold Sx;rw[Nat.mul_add_mod,Nat.mod_eq_of_lt h]
theorem oD{k:Nat}(h:¬ k<Bp):k=Sx (k / Bp-1) (k % Bp):=by
 have h0:0<Bp:=by decide
 unfold Sx;have:1<=k / Bp:=(Nat.one_le_div_iff h0).2 (by omega);rw[Nat.sub_add_cancel this,IZ]
theorem Dt{l:List (Nat×Own)}{r:List (Nat×mW)}{k:Nat}(h:¬ k<Bp):Db l r k=(Ag r (k / Bp-1)).bind λF=>(F.m (k % Bp)).map (Own.tok F.sz F.e):=by simp[Db,h]
theorem QF{l:List (Nat×Own)}{r:List (Nat×mW)}{b i:Nat}(h:i<Bp):Db l r (Sx b i)=(Ag r b).bind λF=>(F.m i).map (Own.tok F.sz F.e):=by
 rw[Dt (Rl b i),Xg h,U2 h]
theorem Xm{l:List (Nat×Own)}{r:List (Nat×mW)}{k:Nat}(h:¬ k<Bp){o:Own}(ho:Db l r k=some o):∃ sz e m,o = .tok sz e m:=by
 rw[Dt h]at ho;obtain⟨F,_,hF⟩:=zzL108.1 ho;obtain⟨m,_,rfl⟩:=zzL89.1 hF;exact⟨_,_,_,rfl⟩
theorem cx{l:List (Nat×Own)}{r:List (Nat×mW)}{k:Nat}{o:Own}(ho:Db l r k=some o)(hn:∀ sz e m,o≠.tok sz e m):Ag l k=some o:=by
 by_cases hk:k<Bp
 ·rw[<- ho,A8 hk]
 ·obtain⟨sz,e,m,rfl⟩:=Xm hk ho;exact(hn _ _ _ rfl).elim
theorem JX{α:Type}{l:List (Nat×α)}{n:Nat}{x:α}(h:Ag l n=some x):(n,x)∈l:=by
 induction l with
 | nil=>cases h
 | cons p l ih=>
  obtain⟨k,y⟩:=p;simp only[Ag]at h
  cases hb:Nat.beq k n with
  | true=>
   simp_all
  | false=>grind
theorem SA{l:List (Nat×Own)}(h:RZ l=true){k:Nat}(hk:Ag l k≠none):k<Bp:=by
 cases hx:Ag l k with
 | none=>exact(hk hx).elim
 | some o=>have:=zzL30.1 h _ (JX hx);simpa [K2] using this
theorem aj{l:List (Nat×Own)}(h:RZ l=true):Db l []=Ag l:=by
 funext k
 by_cases hk:k<Bp
 ·exact A8 hk
 ·rw[Dt hk]
  cases hx:Ag l k with
  | none=>rfl
  | some o=>exact(hk (SA h (by rw[hx];simp))).elim
theorem Kg{l:List (Nat×Own)}{r:List (Nat×mW)}{n:Nat}(hn:n<Bp)(o:Own)(k:Nat):Db (Dz l n o) r k=if n=k then some o else Db l r k:=by
 by_cases hk:k<Bp
 ·rw[A8 hk,A8 hk,G2]
 ·rw[Dt hk,Dt hk,if_neg (by rintro rfl;exact hk hn)]
theorem VF{l wo:List (Nat×Own)}{r:List (Nat×mW)}{ns:List Nat}(h:Xz ns wo=true)(k:Nat):Db (SC l wo) r k=match Ag wo k with|some o=>some o|none=>Db l r k:=by
 simp only[Xz,Be]at h
 by_cases hk:k<Bp
 ·rw[A8 hk,A8 hk,dN]
  cases Ag wo k<;>rfl
 ·have hn:Ag wo k=none:=by
   cases hx:Ag wo k with
   | none=>rfl
   | some o=>exact(hk (SA h.2 (by rw[hx];simp))).elim
  rw[hn,Dt hk,Dt hk]
theorem PF(st:St)(d:Option Nat)(v:AV)(wo:List (Nat×Own)){ns:List Nat}(hok:Xz ns wo=true):(st.upd d v wo).sto=st.sto.upd d v wo:=by
 simp only[St.sto,St.upd,Sto.upd,Sto.mk.injEq]
 constructor
 ·funext t
  cases d with
  | none=>simp[St.get]
  | some d=>
   simp only[St.get,G2]
   by_cases h:d=t<;>simp[h]
 ·funext n
  rw[VF hok]
  cases Ag wo n<;>rfl
section
variable {P:Program} {Γ:Ix} {ops:Array Oper} {Q:Exit->Act->World->Prop}
theorem lN{g g':Nat->AV}(l:List Operand)(h:∀ t,.tmp t∈l->g t=g' t):l.map (fx g)=l.map (fx g'):=by
 apply bc
 intro x hx
 cases x with
 | tmp t=>exact h t hx
 | _=>rfl
theorem MG(cs:List (Nat×AV)):∀(rest:List Oper) (k:Nat) (st:St) (rs:List Wf) (st':St) (obs:List Prop) (trs:List Tr),nt P (Spec P) Γ.n cs ops.toList rest st rs=some (st',obs,trs)->
  (∀ j,rest[j]?=ops[k+j]?)->(∀ p∈obs,p)->
  ∃ es:List (Nat×Ev),es.map (·.1)=List.range' k rest.length/\cM es st.sto st'.sto/\(∀ p∈es,ZB P Γ ops Q p.1 p.2)/\es.map (λp=>p.2.tr)=trs
 | [],k,st,rs,st',obs,trs,h,_,_=>by
  simp only[nt,Aj,Ms]at h;obtain⟨rfl,rfl,rfl⟩:=h;exact⟨[],rfl,.nil _,(λ_ h=>by cases h),rfl⟩
 | o::rest,k,st,rs,st',obs,trs,h,hops,hob=>by
  simp only[nt]at h
  generalize hr:u5 o rs=r at h
  have ho:ops[k]?=some o:=by simpa using(hops 0).symm
  split at h
  ·cases h
  ·rename_i gv hgv
   split at h
   ·cases h
   ·rename_i e he
    cases hdn:oV Γ.n o&&Xz (V2 o (o.op.operands.toList.map (fx st.get)) r) e.wo with
    | false=>rw[hdn]at h;simp at h
    | true=>
     rw[hdn]at h;simp only[Ae]at h;simp only[Be]at hdn;obtain⟨hd,hnok⟩:=hdn
     have hnlt:∀ n∈V2 o (o.op.operands.toList.map (fx st.get)) r,n<Bp:=λn hn=>by
      have hnok':=hnok;simp only[Xz,Be]at hnok';have:=zzL30.1 hnok'.1 n hn
      simpa [K2] using this
     split at h
     ·cases h
     ·rename_i st1 obs1 trs1 hrec
      simp only[Aj,Ms]at h;obtain⟨rfl,rfl,rfl⟩:=h;obtain⟨es,h1,h2,h3,h4⟩:=MG cs rest (k+1) _ _ _ _ _ hrec (λj=>by have:=hops (j+1);simpa [Ut,Nat.add_comm 1 j] using this) (λp hp=>hob p (zzL18.2 (.inr hp)))
      let ns:=V2 o (o.op.operands.toList.map (fx st.get)) r
      let ev:Ev:=⟨(DC ops.toList o++h9 o).map (λt=>(t,st.get t)),ns.map (λn=>(n,Ag st.own n)),o.dst,e.v,e.wo⟩
      refine⟨(k,ev)::es,by simp[EY,h1],.cons ⟨λp hp=>?_,λp hp=>?_⟩ (by rw[show ev.app st.sto=(st.upd o.dst e.v e.wo).sto from(PF _ _ _ _ hnok).symm];exact h2),λp hp=>?_,?_⟩
      ·obtain⟨t,_,rfl⟩:=zzL27.1 hp;rfl
      ·obtain⟨n,hn,rfl⟩:=zzL27.1 hp;exact A8 (hnlt n hn)
      ·rcases zzL28.1 hp with rfl|hp
       ·intro σ hok I θ a w hrel K hK;have ht:∀ t,t∈DC ops.toList o++h9 o->σ.tmp t=st.get t:=λt ht=>hok.1 (t,st.get t) (zzL27.2 ⟨t,ht,rfl⟩);have hn:∀ n,n∈ns->σ.own n=Ag st.own n:=λn hn=>hok.2 (n,Ag st.own n) (zzL27.2 ⟨n,hn,rfl⟩);have hvs:o.op.operands.toList.map (fx st.get)=o.op.operands.toList.map (fx σ.tmp):=lN _ λt hm=>(ht t (zzL18.2 (.inr (List.mem_filterMap.2 ⟨.tmp t,hm,rfl⟩)))).symm
        have hgv':BA ops.toList σ.tmp o=some gv:=by
         rw[<- hgv];unfold BA
         cases hg:o.guard with
         | none=>rfl
         | some jw=>
          obtain⟨j,want⟩:=jw
          dsimp only
          cases hj:ops.toList[j]? with
          | none=>rfl
          | some oj=>
           dsimp only
           cases hdj:oj.dst with
           | none=>rfl
           | some t=>
            dsimp only
            rw[ht t (zzL18.2 (.inl (by simp only[DC,hg,hj,hdj];simp)))]
        refine hZ ho hrel (λd hdd=>?_) hvs hgv' (r:=r) (es:=ns.map (Ag st.own)) ?_ he (λp hp=>hob p (zzL18.2 (.inl hp))) K Q hK
        ·simp only[oV,hdd]at hd;simpa [K2] using hd
        ·exact bc λn hn'=>(hn n hn').symm
       ·exact h3 p hp
      ·simp only[Cy,h4,Dq,Bz];simp[Ev.tr,ev,ns,GH]
theorem maskOf_spec(done:List Nat)(l:List Edge):∀(s j:Nat),(l.foldl (λs e=>bif Region.binds .any e then s ||| (2 ^ e.on ||| done.getD e.on 0) else s) s).testBit j=true->
  s.testBit j=true\/∃ e∈l,Region.binds .any e=true/\(e.on=j\/(done.getD e.on 0).testBit j=true):=by
 induction l with
 | nil=>grind
 | cons e l ih=>
  intro s j h;rcases ih _ j h with h'|⟨e',he',hb,hh⟩
  ·cases hb:Region.binds .any e with
   | false=>grind
   | true=>
    grind
  ·exact .inr ⟨e',Nf _ he',hb,hh⟩
theorem PT:∀(l:List Oper) (done:List Nat),(∀ j,l[j]?=ops[done.length+j]?)->(∀ i j,(done.getD i 0).testBit j=true->ub ops j i)->
  ∀ i j,((jB done l).getD i 0).testBit j=true->ub ops j i
 | [],done,_,hd,i,j,h=>hd i j h
 | o::l,done,hops,hd,i,j,h=>by
  refine PT l _ (λj=>by have:=hops (j+1);simpa [Ut,Nat.add_comm 1 j] using this) (λi j hb=>?_) i j h
  by_cases hlt:i<done.length
  ·grind
  ·by_cases hi:i=done.length
   ·subst hi;rw[List.getD,CM (zzL7 _)]at hb;simp only[Nat.sub_self, GJ]at hb
    have ho :=by simpa using(hops 0).symm
    rcases maskOf_spec _ _ 0 j hb with h'|⟨e,he,hbd,h'|h'⟩
    ·simp at h'
    ·subst h';exact .direct ho (by simpa using he) hbd
    ·exact .trans (hd _ _ h') (.direct ho (by simpa using he) hbd)
   ·grind
theorem HE:∀(l:List Oper) (k:Nat),OV k l=true->∀ j o,l[j]?=some o->∀ e∈o.after,Region.binds .any e=true->e.on<k+j
 | [],_,_,j,o,h=>by simp at h
 | x::l,k,hg,j,o,h=>by
  simp only[OV,Be]at hg;intro e he hb
  cases j with
  | zero=>
   simp only[List.getElem?_cons_zero,Aj]at h;subst h;have:=zzL30.1 hg.1 e (by simpa using he)
   simpa [hb,K2] using this
  | succ j=>
   have:=HE l _ hg.2 j o (by simpa using h) e he hb;omega
theorem QE(ms:List Nat):∀(l:List (Nat×Ev)) (i:Nat) (prev:List (Nat×Ev)),jP ms i (prev.map λp=>(p.1,p.2.tr)) (l.map λp=>p.2.tr)=true->l.map (·.1)=List.range' i l.length->
  (∀ q∈l,∀ p∈prev,EC p.2 q.2\/(ms.getD q.1 0).testBit p.1=true)/\(∀ p∈l,∀ q∈l,p.1<q.1->EC p.2 q.2\/(ms.getD q.1 0).testBit p.1=true)
 | [],_,_,_,_=>⟨(λ_ h=>by cases h),(λ_ h=>by cases h)⟩
 | (i',e)::l,i,prev,h,hi=>by
  simp only[Cy,Vq,EY,Dq]at hi;obtain⟨rfl,hi⟩:=hi;simp only[Cy,jP,Be]at h;obtain⟨h1,h2⟩:=h;obtain⟨r1,r2⟩:=QE ms l _ ((i',e)::prev) h2 hi
  have hd:∀ p∈prev,EC p.2 e\/(ms.getD i' 0).testBit p.1=true:=λp hp=>by
   have:=zzL30.1 h1 _ (zzL27.2 ⟨p,hp,rfl⟩);simp only[Vr]at this;rcases this with h|h
   ·exact .inl (am h)
   ·exact .inr h
  refine⟨λq hq p hp=>?_,λp hp q hq hlt=>?_⟩
  ·grind
  ·rcases zzL28.1 hq with rfl|hq
   ·rcases zzL28.1 hp with rfl|hp
    ·grind
    ·have hm:p.1∈l.map _:=zzL27.2 ⟨p,hp,rfl⟩;rw[hi]at hm;have:=(List.mem_range'_1.1 hm).1;omega
   ·grind
theorem Za:∀(n k:Nat) (l:List (Nat×Ev)),l.map (·.1)=List.range' k n->l.Pairwise (λp q=>p.1<q.1)
 | 0,_,l,h=>by
  simp_all
 | n+1,k,[],h=>by grind
 | n+1,k,p::l,h=>by
  simp only[Cy,EY,Dq]at h;refine .cons (λq hq=>?_) (Za n _ l h.2);have hm:q.1∈l.map _:=zzL27.2 ⟨q,hq,rfl⟩;rw[h.2]at hm;have:=(List.mem_range'_1.1 hm).1;omega
end
theorem lT(l:List Nat)(g:Nat->AV)(t:Nat):Ag (l.map λt=>(t,g t)) t=if t∈l then some (g t) else none:=by
 induction l with
 | nil=>simp[Ag]
 | cons k l ih=>
  simp only[Cy,Ag,ih]
  cases hb:Nat.beq k t with
  | true=>simp_all
  | false=>
   have:t≠k:=by rintro rfl;simp at hb
   simp[this]
theorem gE(l:List Nat)(g:Nat->Option Own)(n:Nat):Ag (l.filterMap λn=>match g n with|some o=>some (n,o)|none=>none) n=if n∈l then g n else none:=by
 induction l with
 | nil=>simp[Ag]
 | cons k l ih=>
  simp only[List.filterMap_cons]
  cases hk:g k with
  | none=>
   grind
  | some o=>
   simp only[Ag,ih]
   cases hb:Nat.beq k n with
   | true=>simp_all
   | false=>
    have:n≠k:=by rintro rfl;simp at hb
    simp[this]
theorem dM(l:List Nat)(g:Nat->Option mW)(n:Nat):Ag (l.filterMap λn=>match g n with|some o=>some (n,o)|none=>none) n=if n∈l then g n else none:=by
 induction l with
 | nil=>simp[Ag]
 | cons k l ih=>
  simp only[List.filterMap_cons]
  cases hk:g k with
  | none=>
   grind
  | some o=>
   simp only[Ag,ih]
   cases hb:Nat.beq k n with
   | true=>simp_all
   | false=>
    have:n≠k:=by rintro rfl;simp at hb
    simp[this]
theorem VY(live names:List Nat)(st:St)(n:Nat):Ag (Fb live names st).fam n=if n∈names then Ag st.fam n else none:=by
 have e:(Fb live names st).fam=names.filterMap λn=>match Ag st.fam n with|some o=>some (n,o)|none=>none:=by
  apply Ci (λf=>names.filterMap f)
  cases Ag st.fam n<;>rfl
 rw[e,dM]
theorem VZ(live names:List Nat)(st:St)(n:Nat):Ag (Fb live names st).own n=if n∈names then(Ag st.own n).map (Own.erase λn=>Bj n names) else none:=by
 have e:(Fb live names st).own=names.filterMap λn=>match(Ag st.own n).map (Own.erase λn=>Bj n names) with|some o=>some (n,o)|none=>none:=by
  simp only[Fb]
  congr 1
  funext n
  cases Ag _ n<;>rfl
 rw[e,gE]
theorem VX{Γ:Ix}{I:Nat->Nat->Prop}{θ:Nat->Option (Nat×Nat)}{a:Act}{w:World}{st:St}{live names:List Nat}(h:Rel Γ st.sto I θ a w)(hn:∀ nm,Γ.own0 nm≠none->nm∈names)(hlt:∀ n∈names,n<Bp):Rel Γ (Fb live names st).sto I θ a w:=by
 have hL:∀ nm,Ag (Fb live names st).own nm=if nm∈names then(Ag st.own nm).map (Own.erase λn=>Bj n names) else none:=VZ live names st
 have hF:∀ nm,Ag (Fb live names st).fam nm=if nm∈names then Ag st.fam nm else none:=VY live names st
 have hown:∀ nm,nm<Bp->(Fb live names st).sto.own nm=if nm∈names then(st.sto.own nm).map (Own.erase λn=>Bj n names) else none:=λnm hlt=>by
  show Db _ _ nm=_
  rw[A8 hlt,hL]
  show _=if nm∈names then(Db st.own _ nm).map _ else none
  rw[A8 hlt]
 have hbig:∀ k,¬ k<Bp->(Fb live names st).sto.own k=if k / Bp-1∈names then st.sto.own k else none:=λk hk=>by
  show Db _ _ k=if _ then Db _ _ k else none
  rw[Dt hk,Dt hk,hF]
  split<;>rfl
 have hk:∀ nm o,st.sto.own nm=some o->Bj nm names=true->(Fb live names st).sto.own nm=some (o.erase λn=>Bj n names):=λnm o ho hm=>by
  rw[hown nm (hlt nm (memB_mem.1 hm)),if_pos (memB_mem.1 hm),ho];rfl
 have hkb:∀ b i sz e m,i<Bp->st.sto.own (Sx b i)=some (.tok sz e m)->Bj b names=true->(Fb live names st).sto.own (Sx b i)=some (.tok sz e m):=λb i sz e m hi ho hm=>by
  rw[hbig _ (Rl b i),Xg hi,if_pos (memB_mem.1 hm),ho]
 have hinv:∀ nm o,(Fb live names st).sto.own nm=some o->∃ o',st.sto.own nm=some o'/\o=o'.erase λn=>Bj n names:=λnm o ho=>by
  by_cases hlt:nm<Bp
  ·rw[hown nm hlt]at ho
   split at ho
   ·obtain⟨o',ho',rfl⟩:=zzL89.1 ho;exact⟨o',ho',rfl⟩
   ·cases ho
  ·rw[hbig nm hlt]at ho
   split at ho
   ·obtain⟨sz,e,m,rfl⟩:=Xm hlt (show Db st.own st.fam nm=some o from ho);exact⟨_,ho,rfl⟩
   ·cases ho
 refine⟨h.size,h.defers,λt=>?_,?_⟩
 ·have e:(Fb live names st).sto.tmp t=if t∈live then(st.get t).erase (λn=>Bj n names) else .any:=by
   simp only[St.sto,St.get,Fb,lT]
   split
   ·rename_i h;split at h<;>simp_all
   ·rename_i h;split at h<;>simp_all
  rw[e]
  split
  ·exact(h.slots t).erase _ hk hkb
  ·exact .val _ _ (.any _)
 ·refine{ h.chg with le:=λnm o ho=>?_,rel:=⟨λnm e0 cells ho=>?_,λnm sz e m ho=>?_,λnm nm' g c c' ho ho'=>?_,λnm sz e m f ho=>?_,λnm x ho=>?_,λnm sz m ho hnn=>?_⟩,new:=λnm g c ho hg=>?_ }
  rotate_left 6
  ·obtain⟨o',ho',he⟩:=hinv nm _ ho
   cases o' with
   | row=>simp[Own.erase]at he
   | arr=>simp[Own.erase]at he
   | obj=>simp[Own.erase]at he
   | tok=>
    simp only[Own.erase,Own.tok.injEq]at he;obtain⟨rfl,rfl,rfl⟩:=he;exact h.chg.rel.tok8 nm _ _ ho' hnn
  rotate_right 6
  rotate_left 5
  ·obtain⟨o',ho',he⟩:=hinv nm _ ho
   cases o' with
   | row=>simp[Own.erase]at he
   | tok=>simp[Own.erase]at he
   | arr=>simp[Own.erase]at he
   | obj x'=>
    simp only[Own.erase,Own.obj.injEq]at he;subst he;exact L9 (h.chg.rel.obj nm _ ho') rfl (λ_ _ _=>rfl) (λ_ _ _ _ h=>h) (λ_ hh=>hh.on _ (λ_ _ h=>h) (λ_ _ _=>rfl) λv y hv=>hv.erase _ hk hkb) RU
  rotate_left 1
  ·obtain⟨o',ho',hl⟩:=h.chg.le nm o ho;refine⟨_,hk nm o' ho' (memB_mem.2 (hn nm (by simp[ho]))),?_⟩
   cases o<;>cases o'<;>simp_all [OwnLe,Own.erase]
  ·obtain⟨o',ho',he⟩:=hinv nm _ ho
   cases o' with
   | tok=>simp[Own.erase]at he
   | arr=>simp[Own.erase]at he
   | obj=>simp[Own.erase]at he
   | row e' cs=>
    simp only[Own.erase,Own.row.injEq]at he;obtain⟨rfl,rfl⟩:=he;obtain⟨g,c,vs,r1,r2,r3,r4,r5,r6⟩:=h.chg.rel.row nm _ cs ho';refine⟨g,c,vs,r1,r2,by rw[Bf];exact r3,λj hj=>r4 j (by rwa[Bf]at hj),λj hj=>?_,r6⟩;rw[H0];exact(r5 j (by rwa[Bf]at hj)).erase _ hk hkb
  ·obtain⟨o',ho',he⟩:=hinv nm _ ho
   cases o' with
   | row=>simp[Own.erase]at he
   | arr=>simp[Own.erase]at he
   | obj=>simp[Own.erase]at he
   | tok=>
    simp only[Own.erase,Own.tok.injEq]at he;obtain⟨rfl,rfl,rfl⟩:=he;exact h.chg.rel.tok nm _ _ _ ho'
  ·refine h.chg.rel.inj nm nm' g c c' ?_ ?_
   ·cases hx:(Fb live names st).sto.own nm with
    | none=>exact(ho hx).elim
    | some o=>obtain⟨o',ho',_⟩:=hinv nm o hx;simp[ho']
   ·cases hx:(Fb live names st).sto.own nm' with
    | none=>exact(ho' hx).elim
    | some o=>obtain⟨o',ho',_⟩:=hinv nm' o hx;simp[ho']
  ·obtain⟨o',ho',he⟩:=hinv nm _ ho
   cases o' with
   | row=>simp[Own.erase]at he
   | tok=>simp[Own.erase]at he
   | obj=>simp[Own.erase]at he
   | arr sz' e' m' f'=>
    simp only[Own.erase,Own.arr.injEq]at he;obtain⟨rfl,rfl,rfl,rfl⟩:=he;exact P8 (h.chg.rel.arr nm _ _ _ _ ho') rfl (λ_ _ _=>rfl) (λ_ _ _ _ h=>h) (λi _=>Bf _ _) (λv i j _ _ hv=>by rw[H0];exact hv.erase _ hk hkb)
  ·cases hx:(Fb live names st).sto.own nm with
   | none=>exact(ho hx).elim
   | some o=>
    obtain⟨o',ho',_⟩:=hinv nm o hx;exact h.chg.new nm g c (by simp[ho']) hg
theorem Yk{Γ:Ix}{I:Nat->Nat->Prop}{θ:Nat->Option (Nat×Nat)}{a:Act}{w:World}{st:St}{live names:List Nat}(h:Rel Γ st.sto I θ a w)(hn:∀ nm,Γ.own0 nm≠none->nm∈names):Rel Γ (Bd live names st).sto I θ a w:=
 VX h (λnm h0=>zzL90.2 ⟨hn nm h0,by simpa [K2] using Γ.lt0 nm h0⟩) (λn hn=>by simp_all)
theorem WQ{l:List Prop}(h:cp l):∀ p∈l,p:=by
 induction l with
 | nil=>intro p hp;cases hp
 | cons x l ih=>
  intro p hp;rcases zzL28.1 hp with rfl|hp
  ·exact h.1
  ·exact ih h.2 p hp
theorem d8{Γ:Ix}{σ:Sto}{I:Nat->Nat->Prop}{θ:Nat->Option (Nat×Nat)}{a:Act}{w:World}(h:Rel Γ σ I θ a w):Rel Γ σ I θ a { w with drawn:=w.drawn+1 }:=
 ⟨h.size,h.defers,λt=>(h.slots t).mono (λ_ _ h=>h) (λ_ _ _=>rfl) (λ_ o ho=>⟨o,ho,.refl _ _⟩),
  {h.chg with drawn:=λd=>Nat.le_succ_of_le (h.chg.drawn d),rel:=⟨λnm e cells ho=>by
              obtain⟨g,c,vs,r1,r2,r3,r4,r5,r6⟩:=h.chg.rel.row nm e _ ho
              exact⟨g,c,vs,r1,r2,r3,r4,λj hj=>(r5 j hj).mono (λ_ _ h=>h) (λ_ _ _=>rfl) (λ_ o ho=>⟨o,ho,.refl _ _⟩),r6⟩,h.chg.rel.tok,h.chg.rel.inj,
             λnm sz e m f ho=>P8 (h.chg.rel.arr nm sz e m f ho) rfl (λ_ _ _=>rfl) (λ_ _ _ _ h=>h) (λ_ _=>rfl) (λv i j _ _ hv=>hv.mono (λ_ _ h=>h) (λ_ _ _=>rfl) (λ_ o ho=>⟨o,ho,.refl _ _⟩)),
             λnm x ho=>L9 (h.chg.rel.obj nm x ho) rfl (λ_ _ _=>rfl) (λ_ _ _ _ h=>h) (λ_ hh=>hh.mono λv y hv=>hv.mono (λ_ _ h=>h) (λ_ _ _=>rfl) (λ_ o ho=>⟨o,ho,.refl _ _⟩)) Vw,h.chg.rel.tok8⟩ }⟩
def Zl(P:Program)(Γ:Ix)(c:Code)(K:Exit->St->Prop)(st:St):Prop:=
 ∀(I:Nat->Nat->Prop) (θ:Nat->Option (Nat×Nat)) (a:Act) (w:World),Rel Γ st.sto I θ a w->c.wp P (λe a' w'=>∃ st' I' θ',K e st'/\Rel Γ st'.sto I' θ' a' w') a w
theorem fg{P:Program}{Γ:Ix}{id:Nat}{ops:List Oper}{draw:Bool}{K:Exit->St->Prop}{st st':St}{rs:List Wf}{cs:List (Nat×AV)}{live names:List Nat}{obs:List Prop}{n:Nat}(hnn:Γ.n=n)(hm:P.follows .mixedOrders=true)(hn:∀ nm,Γ.own0 nm≠none->nm∈names)
  (h:OP P (Spec P) n cs live names ops draw st rs=some (st',obs,true)) (hob:cp obs) (hK:K .normal st'):Zl P Γ (.region id ops.toArray draw) K st:=by
 subst hnn;unfold OP at h
 split at h
 ·rename_i st1 obs1 trs hr
  simp only[Aj,Ms]at h;obtain⟨rfl,rfl,hord⟩:=h
  have hr' :=by simpa using hr
  intro I θ a w hrel;obtain⟨es,h1,h2,h3,h4⟩:=MG (cs:=cs) (Q:=λe a' w'=>∃ st' I' θ',K e st'/\Rel Γ st'.sto I' θ' a' w') ops 0 st rs st1 obs1 trs hr' (λj=>by simp) (WQ hob);have hfin:∀ I θ a w,Rel Γ st1.sto I θ a w->∃ st' I' θ',K .normal st'/\Rel Γ st'.sto I' θ' a w:=λI θ a w hrel=>⟨_,I,θ,hK,Yk hrel hn⟩
  cases draw with
  | false=>
   refine wp_region ?_;have:=SV es st.sto st1.sto h3 h2 hfin I θ a w hrel;rw[h1]at this;rwa[Qv]
  | true=>
   simp only[Ae,jn,Be]at hord;obtain⟨o1,o2⟩:=hord;refine wp_region_any hm ?_
   have hlen :=by have:=Ci List.length h1;simpa using this
   rw[<- h4]at o2;have hdep:=(QE (jB [] ops) es 0 [] o2 (by rw[h1,hlen])).2;refine WH (λi o ho e he hb=>?_) st1.sto hfin _ es _ st.sto h3 h2 (Za _ _ _ h1) (by simp) (λj=>?_) (by simp[hlen]) (λp hp q hq hlt hni=>?_) ?_ I θ a _ (d8 hrel)
   ·have:=HE ops 0 o1 i o (by simpa using ho) e he hb;omega
   ·simp_all
   ·rcases hdep p hp q hq hlt with h|h
    ·exact(hni h).elim
    ·exact PT ops [] (λj=>by simp) (λi j h=>by simp at h) q.1 p.1 h
   ·intro i o ho hl;simp[Array.getD]at hl
 ·cases h
inductive LR (S X:Type) where
 | next (s:S)
 | done (x:X)
inductive LRuns {S X:Type} (f:S->Option (LR S X)):S->X->Nat->Prop
 | done {s:S} {x:X} (h:f s=some (.done x)):LRuns f s x 0
 | next {s s':S} {x:X} {n:Nat} (h:f s=some (.next s')) (t:LRuns f s' x n):LRuns f s x (n+1)
theorem LRuns.unique{S X:Type}{f:S->Option (LR S X)}{s:S}{x y:X}{n m:Nat}(h:LRuns f s x n)(k:LRuns f s y m):x=y:=by
 induction h generalizing m with
 | done h=>cases k with
  | done h'=>grind
  | next h' _=>rw[h]at h';cases h'
 | next h _ ih=>cases k with
  | done h'=>rw[h]at h';cases h'
  | next h' t'=>grind
open Classical in
def XF{S X:Type}(f:S->Option (LR S X))(s:S):Option X:=
 if h:∃ x n,LRuns f s x n then some h.choose else none
def dO{S X:Type}(f:S->Option (LR S X))(n:Nat):S->Option (Option X):=
 Nat.rec (λ_=>none) (λ_ ih s=>match f s with|none=>some none|some (.done x)=>some (some x)|some (.next s')=>ih s') n
def Ab{S X:Type}(f:S->Option (LR S X))(s:S):Option X:=
 match dO f 4096 s with|some r=>r|none=>XF f s
theorem loopC_iff{S X:Type}{f:S->Option (LR S X)}{s:S}{x:X}:XF f s=some x↔∃ n,LRuns f s x n:=by
 unfold XF
 constructor
 ·intro h
  split at h
  ·grind
  ·cases h
 ·rintro⟨n,hn⟩;have hx:∃ x n,LRuns f s x n:=⟨x,n,hn⟩;rw[dif_pos hx];obtain⟨m,hm⟩:=hx.choose_spec;rw[hm.unique hn]
theorem dP{S X:Type}{f:S->Option (LR S X)}:∀{n:Nat} {s:S} {r:Option X},dO f n s=some r->XF f s=r
 | 0,s,r,h=>by cases h
 | n+1,s,r,h=>by
  have e:dO f (n+1) s=(match f s with|none=>some _|some (.done x)=>some _|some (.next s')=>dO f n s'):=rfl;rw[e]at h
  split at h
  ·rename_i hf
   cases h
   cases hx:XF f s with
   | none=>rfl
   | some x=>
    obtain⟨m,hm⟩:=loopC_iff.1 hx
    cases hm with
    | done h'=>rw[hf]at h';cases h'
    | next h' _=>rw[hf]at h';cases h'
  ·rename_i x hf
   cases h;exact loopC_iff.2 ⟨0,.done hf⟩
  ·rename_i s' hf
   have ih:=dP h;rw[<- ih]
   apply Option.ext
   intro x
   constructor
   ·intro hx;obtain⟨m,hm⟩:=loopC_iff.1 hx
    cases hm with
    | done h'=>rw[hf]at h';cases h'
    | next h' t=>rw[hf]at h';cases h';exact loopC_iff.2 ⟨_,t⟩
   ·intro hx;obtain⟨m,hm⟩:=loopC_iff.1 hx;exact loopC_iff.2 ⟨_,.next hf hm⟩
theorem lV{S X:Type}(f:S->Option (LR S X))(s:S):Ab f s=XF f s:=by
 unfold Ab
 cases h:dO f _ s with
 | none=>rfl
 | some r=>exact(dP h).symm
theorem loopO_iff{S X:Type}{f:S->Option (LR S X)}{s:S}{x:X}:Ab f s=some x↔∃ n,LRuns f s x n:=by rw[lV];exact loopC_iff
theorem Ah{S X:Type}{f:S->Option (LR S X)}{s:S}{x:X}(h:f s=some (.done x)):Ab f s=some x:=loopO_iff.2 ⟨0,.done h⟩
theorem Aq{S X:Type}{f:S->Option (LR S X)}{s s':S}(h:f s=some (.next s')):Ab f s=Ab f s':=by
 apply Option.ext
 intro x
 constructor
 ·intro hx;obtain⟨n,hn⟩:=loopO_iff.1 hx
  cases hn with
  | done h'=>rw[h]at h';cases h'
  | next h' t=>rw[h]at h';cases h';exact loopO_iff.2 ⟨_,t⟩
 ·intro hx;obtain⟨n,hn⟩:=loopO_iff.1 hx;exact loopO_iff.2 ⟨_,.next h hn⟩
theorem FV{S X:Type}{f:S->Option (LR S X)}{s:S}(h:f s=none):Ab f s=none:=by
 cases hx:Ab f s with
 | none=>rfl
 | some x=>
  obtain⟨n,hn⟩:=loopO_iff.1 hx
  cases hn with
  | done h'=>rw[h]at h';cases h'
  | next h' t=>rw[h]at h';cases h'
def A7{R:Type}(p:Prop)[Decidable p](k:Option R):Option R:=if p then k else none
theorem Jl{R:Type}{p:Prop}[Decidable p]{k:Option R}{r:R}(h:A7 p k=some r):p/\k=some r:=by
 unfold A7 at h
 split at h
 ·exact⟨‹p›,h⟩
 ·cases h
theorem Aa{R:Type}{p:Prop}[Decidable p]{k:Option R}(h:p):A7 p k=k:=by simp[A7,h]
def Ym{S X:Type}(f0:Option (LR S X))(f:S->Option (LR S X)):Option X:=f0.bind λ| .next s=>Ab f s | .done x=>some x
theorem bind_some{A R:Type}{x:Option A}{k:A->Option R}{r:R}(h:x.bind k=some r):∃ a,x=some a/\k a=some r:=zzL108.1 h
section
variable {P:Program} {Γ:Ix}
def Le(Γ:Ix)(st st':St):Prop:=∀(I:Nat->Nat->Prop) (θ:Nat->Option (Nat×Nat)) (a:Act) (w:World),Rel Γ st.sto I θ a w->∃ I' θ',Rel Γ st'.sto I' θ' a w
theorem Le.refl(Γ:Ix)(st:St):Le Γ st st:=λI θ _ _ h=>⟨I,θ,h⟩
theorem Le.trans{st st' st'':St}(h:Le Γ st st')(k:Le Γ st' st''):Le Γ st st'':=λI θ a w hr=>let⟨I',θ',hr'⟩:=h I θ a w hr;k I' θ' a w hr'
theorem AVle.refl(x:AV):AVle x x:=λ_ _ _ _ _ h=>h
theorem AVle.any(x:AV):AVle x .any:=λ_ _ _ _ v _=>.val _ _ (.any v)
theorem RepV.slice_ext{I:Nat->Nat->Prop}{w:World}{v:Value}{sz n:Nat}{f g:Nat->List AV}(h:RepV I w v (.slice sz n f .none))(hf:∀ i,i<n->f i=g i):RepV I w v (.slice sz n g .none):=by
 obtain⟨_,ad,cap,us,rfl,hcap,hmax,hz,hn,h1,hl,hr⟩:=h.slice_inv;exact .slice ad n cap sz g us hcap hmax hz hn h1 (λi hi=>by grind) (λi c hi hc=>by grind)
theorem AVle.slice{sz n n':Nat}{f g:Nat->List AV}{t:Tag}(hn:n=n')(hf:∀ i,i<n->f i=g i):AVle (.slice sz n f t) (.slice sz n' g t):=by
 subst hn;intro I own θ w v h
 cases h with
 | val v x h=>obtain⟨rfl,_⟩:=h.slice_inv;exact .val _ _ (h.slice_ext hf)
 | exact a n sz f h=>exact .exact a n sz g (h.slice_ext hf)
 | own nm sz e m a n cap f ho hm hv h=>exact .own nm sz e m a n cap g ho hm hv (h.slice_ext hf)
 | fam b i sz e m a n cap f hi ho hm hv h=>exact .fam b i sz e m a n cap g hi ho hm hv (h.slice_ext hf)
theorem AVle.untag{sz n:Nat}{f:Nat->List AV}{t:Tag}:AVle (.slice sz n f t) (.slice sz n f .none):=λ_ _ _ _ _ h=>.val _ _ h.slice_val
theorem AVle.empty{sz sz' n:Nat}{f g:Nat->List AV}{t:Tag}(hn:n=0)(ht:∀ nm,t≠.own nm)(ht':∀ b i,t≠.fam b i:=by intro _ _ h;cases h):AVle (.slice sz n f t) (.slice sz' n g t):=by
 subst hn;intro I own θ w v h
 have key:∀ v,RepV I w v (.slice sz 0 f .none)->RepV I w v _:=λv h=>by
  obtain⟨_,ad,cap,us,rfl,hcap,hmax,hz,hn,h1,hl,hr⟩:=h.slice_inv;exact .slice ad 0 cap sz' g us hcap hmax (λh=>by omega) hn (λj hj=>by omega) (λi hi=>by omega) (λi c hi=>by omega)
 cases h with
 | val v x h=>obtain⟨rfl,_⟩:=h.slice_inv;exact .val _ _ (key _ h)
 | exact a n sz f h=>exact .exact a _ sz' g (key _ h)
 | own nm=>exact(ht nm rfl).elim
 | fam b i=>exact(ht' b i rfl).elim
inductive AVleL:List AV->List AV->Prop
 | nil:AVleL [] []
 | cons {x y:AV} {l m:List AV} (h:AVle x y) (t:AVleL l m):AVleL (x::l) (y::m)
theorem AVleL.length{l m:List AV}(h:AVleL l m):l.length=m.length:=by induction h with|nil=>rfl|cons _ _ ih=>simp[ih]
theorem AVleL.get{l m:List AV}(h:AVleL l m)(j:Nat):AVle (l.getD j .any) (m.getD j .any):=by
 induction h generalizing j with
 | nil=>exact .refl _
 | cons h _ ih=>cases j with
  | zero=>simpa using h
  | succ j=>simpa using ih j
theorem AVleL.refl(l:List AV):AVleL l l:=by induction l with|nil=>exact .nil|cons x l ih=>exact .cons (.refl x) ih
theorem AVle.agg{l m:List AV}(h:AVleL l m):AVle (.agg l) (.agg m):=by
 intro I own θ w v hv;obtain⟨vs,rfl,hl,h1,hr⟩:=hv.agg_inv;exact .agg vs m (by rw[hl,h.length]) (λj hj=>h1 j (by rw[h.length];exact hj)) (λj hj=>h.get j I own θ w _ (hr j (by rw[h.length];exact hj)))
theorem AVle.tuple{l m:List AV}(h:AVleL l m):AVle (.tuple l) (.tuple m):=by
 intro I own θ w v hv;obtain⟨vs,rfl,hl,hr⟩:=hv.tuple_inv;exact .tuple vs m (by rw[hl,h.length]) (λj hj=>h.get j I own θ w _ (hr j (by rw[h.length];exact hj)))
inductive TmpsLe:List (Nat×AV)->List (Nat×AV)->Prop
 | nil:TmpsLe [] []
 | cons {t:Nat} {x y:AV} {l m:List (Nat×AV)} (h:AVle x y) (k:TmpsLe l m):TmpsLe ((t,x)::l) ((t,y)::m)
inductive OwnsLe:List (Nat×Own)->List (Nat×Own)->Prop
 | nil:OwnsLe [] []
 | row {n:Nat} {e:TypeId} {x y:List AV} {l m:List (Nat×Own)} (h:AVleL x y) (k:OwnsLe l m):OwnsLe ((n,.row e x)::l) ((n,.row e y)::m)
 | same {n:Nat} {o:Own} {l m:List (Nat×Own)} (k:OwnsLe l m):OwnsLe ((n,o)::l) ((n,o)::m)
 | arr {n sz:Nat} {e:TypeId} {k:Nat} {f g:Nat->List AV} {l m:List (Nat×Own)} (h:∀ i,i<k->AVleL (f i) (g i)) (t:OwnsLe l m):OwnsLe ((n,.arr sz e k f)::l) ((n,.arr sz e k g)::m)
theorem TmpsLe.refl(l:List (Nat×AV)):TmpsLe l l:=by induction l with|nil=>exact .nil|cons x l ih=>exact .cons (.refl _) ih
theorem OwnsLe.refl(l:List (Nat×Own)):OwnsLe l l:=by induction l with|nil=>exact .nil|cons x l ih=>exact .same ih
theorem TmpsLe.get{l m:List (Nat×AV)}(h:TmpsLe l m)(t:Nat):AVle (match Ag l t with|some x=>x|none=>.any) (match Ag m t with|some x=>x|none=>.any):=by
 induction h with
 | nil=>exact .refl _
 | @cons t' x y l m h _ ih=>
  simp only[Ag]
  cases Nat.beq t' t with
  | true=>exact h
  | false=>exact ih
theorem OwnsLe.get{l m:List (Nat×Own)}(h:OwnsLe l m)(n:Nat):(∀ o,Ag l n=some o->∃ o',Ag m n=some o'/\(o=o'\/(∃ e x y,o = .row e x/\o' = .row e y/\AVleL x y)\/∃ sz e k f g,o = .arr sz e k f/\o' = .arr sz e k g/\∀ i,i<k->AVleL (f i) (g i)))/\(∀ o',Ag m n=some o'->∃ o,Ag l n=some o):=by
 induction h with
 | nil=>grind
 | @row n' e x y l m h _ ih=>
  simp only[Ag]
  cases Nat.beq n' n with
  | true=>
   refine⟨λo ho=>?_,λo ho=>⟨_,rfl⟩⟩;simp only[Ae,Aj]at ho;subst ho;exact⟨_,rfl,.inr (.inl ⟨e,x,y,rfl,rfl,h⟩)⟩
  | false=>exact ih
 | @arr n' sz e k f g l m h _ ih=>
  simp only[Ag]
  cases Nat.beq n' n with
  | true=>
   grind
  | false=>exact ih
 | @same n' o l m _ ih=>
  simp only[Ag]
  cases Nat.beq n' n with
  | true=>exact⟨λo ho=>⟨o,ho,.inl rfl⟩,λo ho=>⟨o,ho⟩⟩
  | false=>exact ih
theorem Fg{st st':St}(ht:TmpsLe st.tmps st'.tmps)(ho:OwnsLe st.own st'.own)(hfam:st'.fam=st.fam:=by rfl):Le Γ st st':=by
 intro I θ a w h
 have hg1:∀ nm o,st.sto.own nm=some o->∃ o',st'.sto.own nm=some o'/\(o=o'\/(∃ e x y,o = .row e x/\o' = .row e y/\AVleL x y)\/∃ sz e k f g,o = .arr sz e k f/\o' = .arr sz e k g/\∀ i,i<k->AVleL (f i) (g i)):=λnm o hn=>by
  by_cases hlt:nm<Bp
  ·have hn':Ag st.own nm=some o:=by rw[<- hn];exact(A8 hlt).symm
   obtain⟨o',h1,h2⟩:=(ho.get nm).1 o hn';exact⟨o',(A8 hlt).trans h1,h2⟩
  ·refine⟨o,?_,.inl rfl⟩;rw[<- hn]
   show Db _ _ nm=Db _ _ nm
   rw[Dt hlt,Dt hlt,hfam]
 have hg2:∀ nm o',st'.sto.own nm=some o'->∃ o,st.sto.own nm=some o:=λnm o' hn=>by
  by_cases hlt:nm<Bp
  ·have hn':Ag st'.own nm=some o':=by rw[<- hn];exact(A8 hlt).symm
   obtain⟨o,h1⟩:=(ho.get nm).2 o' hn';exact⟨o,(A8 hlt).trans h1⟩
  ·refine⟨o',?_⟩;rw[<- hn]
   show Db _ _ nm=Db _ _ nm
   rw[Dt hlt,Dt hlt,hfam]
 have hmono:∀ v x,Rep I st.sto.own θ w v x->Rep I st'.sto.own θ w v x:=λv x h=>h.mono (λ_ _ h=>h) (λ_ _ _=>rfl) λnm o hn=>by
  obtain⟨o',h1,h2⟩:=hg1 nm o hn;refine⟨o',h1,?_⟩;rcases h2 with rfl|⟨e1,x,y,rfl,rfl,_⟩|⟨sz,e,k,f,g,rfl,rfl,_⟩
  ·exact .refl _ _
  ·exact⟨rfl,rfl⟩
  ·exact⟨rfl,rfl,zzL7 _,λ_=>rfl⟩
 refine⟨I,θ,h.size,h.defers,λt=>hmono _ _ (ht.get t I _ θ w _ (h.slots t)),{ h.chg with le:=λnm o hn=>?_,rel:=⟨λnm e0 cells hn=>?_,λnm sz e m hn=>?_,λnm nm' g c c' hn hn'=>?_,λnm sz e m f hn=>?_,λnm x hn=>?_,λnm sz m hn hnn=>?_⟩,new:=λnm g c hn hg=>?_ }⟩
 rotate_left 6
 ·obtain⟨o,h1⟩:=hg2 nm _ hn;obtain⟨o',h2,h3⟩:=hg1 nm o h1;have e':st'.sto.own nm=some o':=h2;rw[e']at hn;obtain rfl:=OI hn;rcases h3 with rfl|⟨e1,x,y,rfl,h5,h6⟩|⟨sz,e,k,f,g,rfl,h5,h6⟩
  ·exact h.chg.rel.tok8 nm _ _ h1 hnn
  ·cases h5
  ·cases h5
 rotate_right 6
 rotate_left 5
 ·obtain⟨o,h1⟩:=hg2 nm _ hn;obtain⟨o',h2,h3⟩:=hg1 nm o h1;have e':st'.sto.own nm=some o':=h2;rw[e']at hn;obtain rfl:=OI hn;rcases h3 with rfl|⟨e1,x,y,rfl,h5,h6⟩|⟨sz,e,k,f,g,rfl,h5,h6⟩
  ·exact L9 (h.chg.rel.obj nm _ h1) rfl (λ_ _ _=>rfl) (λ_ _ _ _ h=>h) (λ_ hh=>hh.mono hmono) Vw
  ·cases h5
  ·cases h5
 rotate_left 1
 ·obtain⟨o',h1,h2⟩:=h.chg.le nm o hn;obtain⟨o'',h3,h4⟩:=hg1 nm o' h1;refine⟨o'',h3,?_⟩;rcases h4 with rfl|⟨e1,x,y,rfl,rfl,_⟩|⟨sz,e,k,f,g,rfl,rfl,_⟩
  ·exact h2
  ·cases o<;>simp_all [OwnLe]
  ·cases o<;>simp_all [OwnLe]
 ·obtain⟨o,h1⟩:=hg2 nm _ hn;obtain⟨o',h2,h3⟩:=hg1 nm o h1;have e:st'.sto.own nm=some o':=h2;rw[e]at hn;obtain rfl:=OI hn;rcases h3 with rfl|⟨e1,x,y,rfl,h5,h6⟩|⟨sz,e,k,f,g,rfl,h5,h6⟩
  rotate_left 2
  ·cases h5
  ·obtain⟨g,c,vs,r1,r2,r3,r4,r5,r6⟩:=h.chg.rel.row nm _ _ h1;exact⟨g,c,vs,r1,r2,r3,r4,λj hj=>hmono _ _ (r5 j hj),r6⟩
  ·simp only[Own.row.injEq]at h5;obtain⟨rfl,rfl⟩:=h5;obtain⟨g,c,vs,r1,r2,r3,r4,r5,r6⟩:=h.chg.rel.row nm _ _ h1;exact⟨g,c,vs,r1,r2,by rw[r3,h6.length],λj hj=>r4 j (by rw[h6.length];exact hj),λj hj=>hmono _ _ (h6.get j I _ θ w _ (r5 j (by rw[h6.length];exact hj))),r6⟩
 ·obtain⟨o,h1⟩:=hg2 nm _ hn;obtain⟨o',h2,h3⟩:=hg1 nm o h1;have e':st'.sto.own nm=some o':=h2;rw[e']at hn;obtain rfl:=OI hn;rcases h3 with rfl|⟨e1,x,y,rfl,h5,h6⟩|⟨sz,e,k,f,g,rfl,h5,h6⟩
  ·exact h.chg.rel.tok nm _ _ _ h1
  ·cases h5
  ·cases h5
 ·have hx:∀ nm,st'.sto.own nm≠none->st.sto.own nm≠none:=λnm hn=>by
   cases hs:st'.sto.own nm with
   | none=>exact(hn hs).elim
   | some o=>obtain⟨o',h1⟩:=hg2 nm _ hs;have:st.sto.own nm=some o':=h1;simp[this]
  exact h.chg.rel.inj nm nm' g c c' (hx nm hn) (hx nm' hn')
 ·obtain⟨o,h1⟩:=hg2 nm _ hn;obtain⟨o',h2,h3⟩:=hg1 nm o h1;have e':st'.sto.own nm=some o':=h2;rw[e']at hn;obtain rfl:=OI hn;rcases h3 with rfl|⟨e1,x,y,rfl,h5,h6⟩|⟨sz',e2,k,f2,g,rfl,h5,h6⟩
  ·exact P8 (h.chg.rel.arr nm _ _ _ _ h1) rfl (λ_ _ _=>rfl) (λ_ _ _ _ h=>h) (λ_ _=>rfl) (λv i j _ _ hv=>hmono _ _ hv)
  ·cases h5
  ·simp only[Own.arr.injEq]at h5;obtain⟨rfl,rfl,rfl,rfl⟩:=h5;exact P8 (h.chg.rel.arr nm _ _ _ _ h1) rfl (λ_ _ _=>rfl) (λ_ _ _ _ h=>h) (λi hi=>(h6 i hi).length.symm) (λv i j hi _ hv=>hmono _ _ ((h6 i hi).get j I _ θ w v hv))
 ·refine h.chg.new nm g c ?_ hg
  cases hs:st'.sto.own nm with
  | none=>exact(hn hs).elim
  | some o=>obtain⟨o',h1⟩:=hg2 nm _ hs;have:st.sto.own nm=some o':=h1;simp[this]
theorem dJ{st:St}(live names:List Nat)(hn:∀ nm,Γ.own0 nm≠none->nm∈names):Le Γ st (Bd live names st):=λI θ _ _ h=>⟨I,θ,Yk h hn⟩
theorem Pp{st:St}{r j nm sz sz' n:Nat}{e0:TypeId}{f:Nat->List AV}{cells:List AV}(g:Nat->List AV)(e:TypeId)(hr:Ag st.own r=some (.row e0 cells))(hs:cells.getD j .any = .slice sz n f .exact)(hj:j<cells.length)(hn:Ag st.own nm=none)(hz:(sz=sz'/\f=g)\/n=0)(h8:e=ES->n=0)(hlt:Nat.blt nm Bp=true:=by rfl)(hltr:Nat.blt r Bp=true:=by rfl) :
  Le Γ st ⟨st.tmps,Dz (Dz st.own r (.row e0 (cells.set j (.slice sz' n g (.own nm))))) nm (.tok sz' e n),st.fam⟩:=by
 intro I θ a w h
 have hlt:nm<Bp:=by simpa [K2] using hlt
 have hltr:r<Bp:=by simpa [K2] using hltr
 have hn:st.sto.own nm=none:=(A8 hlt).trans hn;have hr:st.sto.own r=some (.row e0 cells):=(A8 hltr).trans hr
 have hne:r≠nm:=by rintro rfl;rw[hr]at hn;cases hn
 let own':Nat->Option Own:=λk=>if k=nm then some (.tok sz' e n) else if k=r then some (.row e0 (cells.set j (.slice sz' n g (.own nm)))) else st.sto.own k
 have hown:(⟨st.tmps,Dz (Dz st.own r (.row e0 (cells.set j (.slice sz' n g (.own nm))))) nm (.tok sz' e n),st.fam⟩:St).sto.own=own':=by
  funext k
  show Db (Dz (Dz st.own r _) nm _) _ k=_
  rw[Kg hlt,Kg hltr];simp only[own',Wb (a:=nm),Wb (a:=r)]
  rfl
 have hle:∀ nm' o,st.sto.own nm'=some o->∃ o',own' nm'=some o'/\OwnLe o (θ nm') o' (thUp θ nm none nm'):=λnm' o ho=>by
  have h1:nm'≠nm:=by rintro rfl;have:st.sto.own nm'=some o:=ho;rw[hn]at this;cases this
  by_cases h2:nm'=r
  ·subst h2;have:st.sto.own nm'=some o:=ho;rw[hr]at this;obtain rfl:=OI this;exact⟨.row e0 (cells.set j (.slice sz' n g (.own nm))),by simp[own',h1],by simp[thUp,h1,OwnLe]⟩
  ·exact⟨o,by simp[own',h1,h2,ho],by simp[thUp,h1,OwnLe.refl]⟩
 have hmono:∀ v x,Rep I st.sto.own θ w v x->Rep I own' (thUp θ nm none) w v x:=λv x h=>h.mono (λ_ _ h=>h) (λ_ _ _=>rfl) hle;have hrel:=h.chg.rel
 have k:Chg st.sto.own θ I w own' (thUp θ nm none) I w:=by
  refine{ imm:=λ_ _ h=>h,cell:=λ_ _ _=>rfl,le:=hle,rel:=?_,valid:=h.chg.valid,os:=rfl,tape:=rfl,output:=rfl,drawn:=λ_=>zzL7 _,grow:=zzL7 _,frame:=λ_ _ _=>rfl,new:=λnm' g' c ho hg=>?_,immNew:=λ_ _ h=>.inl h }
  ·refine⟨λnm' e2 cells' ho=>?_,λnm' s' e' m ho g' c hg=>?_,λn1 n2 g' c c' ho ho' hg hg'=>?_,λnm' s' e' m f' ho=>?_,λnm' x' ho=>?_,λnm' s' m ho hnn=>?_⟩
   rotate_left 5
   ·by_cases h1:nm'=nm
    ·simp only[own',h1,Lz,Aj,Own.tok.injEq]at ho;obtain⟨rfl,he,rfl⟩:=ho;exact h8 he
    ·have h2:nm'≠r:=by rintro rfl;simp[own',h1]at ho
     simp only[own',h1,h2,Hz]at ho;simp only[thUp,h1,Hz]at hnn;exact hrel.tok8 nm' _ _ ho hnn
   ·by_cases h1:nm'=nm
    ·simp[own',h1]at ho
    ·by_cases h2:nm'=r
     ·subst h2;simp only[own',h1,Hz,Lz,Aj,Own.row.injEq]at ho;obtain⟨rfl,rfl⟩:=ho;obtain⟨g',c,vs,r1,r2,r3,r4,r5,r6⟩:=hrel.row nm' _ cells hr;refine⟨g',c,vs,by simpa [thUp,h1] using r1,r2,by simpa using r3,λj' hj'=>r4 j' (by simpa using hj'),λj' hj'=>?_,r6⟩
      have hj'':j'<cells.length:=by simpa using hj'
      by_cases hjj:j'=j
      ·subst hjj
       have e1:(cells.set j' (.slice sz' n g (.own nm))).getD j' .any = .slice sz' n g (.own nm):=by simp[List.getD,hj]
       rw[e1];have hr':=r5 j' hj'';rw[hs]at hr';obtain⟨ad,hv⟩:=hr'.exact_inv;have hV:=hr'.slice_val;rw[hv]at hV ⊢;refine .own nm sz' e n ad n n g (by simp[own']) (zzL7 _) (λ_=>by simp[thUp]) ?_;rcases hz with⟨rfl,rfl⟩|rfl
       ·exact hV
       ·obtain⟨_,ad',cap,us,he,hcap,hmax,hz,hn',h1',hl,hr⟩:=hV.slice_inv;simp only[TC,true_and]at he;obtain⟨rfl,rfl⟩:=he;exact .slice ad 0 0 sz' g us hcap hmax (λh=>by omega) hn' (λj hj=>by omega) (λi hi=>by omega) (λi c hi=>by omega)
      ·have e1:(cells.set j (.slice sz' n g (.own nm))).getD j' .any=cells.getD j' .any:=by simp[List.getD,Ol hjj]
       rw[e1];exact hmono _ _ (r5 j' hj'')
     ·simp only[own',h1,h2,Hz]at ho;obtain⟨g',c,vs,r1,r2,r3,r4,r5,r6⟩:=hrel.row nm' _ cells' ho;exact⟨g',c,vs,by simpa [thUp,h1] using r1,r2,r3,r4,λj' hj'=>hmono _ _ (r5 j' hj'),r6⟩
   ·by_cases h1:nm'=nm
    ·simp[thUp,h1]at hg
    ·have h2:nm'≠r:=by rintro rfl;simp[own',h1]at ho
     simp only[own',h1,h2,Hz]at ho;simp only[thUp,h1,Hz]at hg;exact hrel.tok nm' _ _ _ ho g' c hg
   ·have hx:∀ n1 g' c,own' n1≠none->thUp θ nm none n1=some (g',c)->st.sto.own n1≠none/\θ n1=some (g',c):=λn1 g' c ho hg=>by
     by_cases h1:n1=nm
     ·simp[thUp,h1]at hg
     ·simp only[thUp,h1,Hz]at hg;refine⟨?_,hg⟩
      by_cases h2:n1=r
      ·subst h2;have:st.sto.own n1=some (.row e0 cells):=hr;simp[this]
      ·simpa [own',h1,h2] using ho
    obtain⟨a1,a2⟩:=hx n1 g' c ho hg;obtain⟨b1,b2⟩:=hx n2 g' c' ho' hg';exact hrel.inj n1 n2 g' c c' a1 b1 a2 b2
   ·by_cases h1:nm'=nm
    ·simp[own',h1]at ho
    ·have h2:nm'≠r:=by rintro rfl;simp[own',h1]at ho
     simp only[own',h1,h2,Hz]at ho;exact P8 (hrel.arr nm' _ _ _ _ ho) (by simp[thUp,h1]) (λ_ _ _=>rfl) (λ_ _ _ _ h=>h) (λ_ _=>rfl) (λv i j _ _ hv=>hmono _ _ hv)
   ·by_cases h1:nm'=nm
    ·simp[own',h1]at ho
    ·have h2:nm'≠r:=by rintro rfl;simp[own',h1]at ho
     simp only[own',h1,h2,Hz]at ho;exact L9 (hrel.obj nm' _ ho) (by simp[thUp,h1]) (λ_ _ _=>rfl) (λ_ _ _ _ h=>h) (λ_ hh=>hh.mono hmono) Vw
  ·by_cases h1:nm'=nm
   ·simp[thUp,h1]at hg
   ·simp only[thUp,h1,Hz]at hg;refine .inr ⟨nm',c,?_,hg⟩
    by_cases h2:nm'=r
    ·subst h2;have:st.sto.own nm'=some (.row e0 cells):=hr;simp[this]
    ·simpa [own',h1,h2] using ho
 refine⟨I,thUp θ nm none,h.size,h.defers,λt'=>?_,?_⟩
 ·rw[hown];exact(h.slots t').chg k
 ·rw[hown];exact h.chg.trans k
theorem Qb{st:St}{t nm sz sz' n:Nat}{f:Nat->List AV}(g:Nat->List AV)(e:TypeId)(hs:st.get t = .slice sz n f .exact)(hn:Ag st.own nm=none)(hz:(sz=sz'/\f=g)\/n=0)(h8:e=ES->n=0)  (hlt:Nat.blt nm Bp=true:=by rfl) :
  Le Γ st ⟨Dz st.tmps t (.slice sz' n g (.own nm)),Dz st.own nm (.tok sz' e n),st.fam⟩:=by
 intro I θ a w h
 have hlt:nm<Bp:=by simp_all
 have hn:st.sto.own nm=none:=(A8 hlt).trans hn
 have hown:(⟨Dz st.tmps t (.slice sz' n g (.own nm)),Dz st.own nm (.tok sz' e n),st.fam⟩:St).sto.own=A0 st.sto.own nm (.tok sz' e n):=by
  funext k
  show Db _ _ k=_
  rw[Kg hlt];simp only[A0]
  by_cases hk:nm=k
  ·subst hk;simp
  ·simp[hk,Ol hk];rfl
 have k:Chg _ θ I w (A0 _ nm (.tok sz' e n)) (thUp θ nm none) I w:=
  OQ h.chg.rel (λ_ _ h=>h) (λ_ _ _=>rfl) (.inl hn) (λ_ _ _=>rfl) (λ_ _ h=>.inl h) h.chg.valid rfl rfl rfl (zzL7 _) (by simp) (by simp) (λ_=>h8)
 refine⟨I,thUp θ nm none,h.size,h.defers,λt'=>?_,?_⟩
 ·rw[hown]
  have hget:(⟨Dz st.tmps t (.slice sz' n g (.own nm)),Dz st.own nm (.tok sz' e n),st.fam⟩:St).sto.tmp t'=if t=t' then .slice sz' n g (.own nm) else st.get t':=by
   show(match Ag (Dz st.tmps t _) t' with|some x=>x|none=>.any)=_
   rw[G2]
   by_cases hk:t=t'
   ·simp[hk]
   ·simp[hk];rfl
  rw[hget]
  split
  ·rename_i htt
   subst htt;have hr:=h.slots t
   have hr':Rep I st.sto.own θ w (a.tmps.getD t undef) (.slice sz n f .exact):=by rw[<- hs];exact hr
   obtain⟨ad,hv⟩:=hr'.exact_inv;have hV:=hr'.slice_val;rw[hv]at hV ⊢;refine .own nm sz' e n ad n n g (by simp[A0]) (zzL7 _) (λ_=>by simp[thUp]) ?_;rcases hz with⟨rfl,rfl⟩|rfl
   ·exact hV
   ·obtain⟨_,ad',cap,us,he,hcap,hmax,hz,hn',h1,hl,hr⟩:=hV.slice_inv;obtain⟨rfl,rfl⟩:=he;exact .slice ad 0 0 sz' g us hcap hmax (λh=>by omega) hn' (λj hj=>by omega) (λi hi=>by omega) (λi c hi=>by omega)
  ·exact(h.slots t').chg k
 ·rw[hown];exact h.chg.trans k
theorem wT{st:St}{t nm sz sz':Nat}{f:Nat->List AV}(g:Nat->List AV)(e:TypeId)(hs:st.get t = .slice sz 0 f .exact)(hn:Ag st.own nm=none)  (hlt:Nat.blt nm Bp=true:=by rfl) :
  Le Γ st ⟨Dz st.tmps t (.vsl nm 0),Dz st.own nm (.arr sz' e 0 g),st.fam⟩:=by
 intro I θ a w h
 have hlt:nm<Bp:=by simp_all
 have hn:st.sto.own nm=none:=(A8 hlt).trans hn
 have hown:(⟨Dz st.tmps t (.vsl nm 0),Dz st.own nm (.arr sz' e 0 g),st.fam⟩:St).sto.own=A0 st.sto.own nm (.arr sz' e 0 g):=by
  funext k
  show Db _ _ k=_
  rw[Kg hlt];simp only[A0]
  by_cases hk:nm=k
  ·subst hk;simp
  ·simp[hk,Ol hk];rfl
 have k:Chg _ θ I w (A0 _ nm (.arr sz' e 0 g)) (thUp θ nm none) I w:=
  N5 h.chg.rel h.chg.valid (λ_ _ _=>rfl) (.inl hn) (λ_ _ _=>rfl) rfl rfl rfl (zzL7 _) (λ_=>rfl) (by simp) (by simp)
 refine⟨I,thUp θ nm none,h.size,h.defers,λt'=>?_,?_⟩
 ·rw[hown]
  have hget:(⟨Dz st.tmps t (.vsl nm 0),Dz st.own nm (.arr sz' e 0 g),st.fam⟩:St).sto.tmp t'=if t=t' then .vsl nm 0 else st.get t':=by
   show(match Ag (Dz st.tmps t _) t' with|some x=>x|none=>.any)=_
   rw[G2]
   by_cases hk:t=t'
   ·simp[hk]
   ·simp[hk];rfl
  rw[hget]
  split
  ·rename_i htt
   subst htt;have hr:=h.slots t
   have hr':Rep I st.sto.own θ w (a.tmps.getD t undef) (.slice sz 0 f .exact):=by rw[<- hs];exact hr
   obtain⟨ad,hv⟩:=hr'.exact_inv;rw[hv];exact .vsl nm sz' e 0 g ad 0 0 (by simp[A0]) (zzL7 _) (zzL7 _) (Rh _) (λ_=>rfl) (λ_=>by simp[thUp])
  ·exact(h.slots t').chg k
 ·rw[hown];exact h.chg.trans k
theorem PW{c:Code}{K K':Exit->St->Prop}{st:St}(h:Zl P Γ c K st)(hk:∀ e st,K e st->K' e st):Zl P Γ c K' st:=λI θ a w hr=>
 S8 (h I θ a w hr) λ_ _ _ ⟨st',I',θ',h1,h2⟩=>⟨st',I',θ',hk _ _ h1,h2⟩
theorem ZU{c:Code}{K:Exit->St->Prop}{st st':St}(h:Le Γ st st')(k:Zl P Γ c K st'):Zl P Γ c K st:=λI θ a w hr=>let⟨I',θ',hr'⟩:=h I θ a w hr;k I' θ' a w hr'
def clK(Γ:Ix)(K:Exit->St->Prop):Exit->St->Prop:=λe st=>∃ st',Le Γ st st'/\K e st'
theorem wB{c:Code}{K:Exit->St->Prop}{st:St}(h:Zl P Γ c (clK Γ K) st):Zl P Γ c K st:=λI θ a w hr=>
 S8 (h I θ a w hr) λe a' w' ⟨st1,I1,θ1,⟨st2,hl,hk⟩,hr1⟩=>let⟨I2,θ2,hr2⟩:=hl I1 θ1 a' w' hr1;⟨st2,I2,θ2,hk,hr2⟩
theorem n8{K:Exit->St->Prop}{st:St}(h:K .normal st):Zl P Γ .skip K st:=λI θ _ _ hr=>wp_skip ⟨st,I,θ,h,hr⟩
theorem k5{l:Nat}{K:Exit->St->Prop}{st:St}(h:K .normal st):Zl P Γ (.label l) K st:=λI θ _ _ hr=>wp_label ⟨st,I,θ,h,hr⟩
theorem sV{K:Exit->St->Prop}{st:St}(h:K .ret st):Zl P Γ .ret K st:=λI θ _ _ hr=>wp_ret ⟨st,I,θ,h,hr⟩
theorem n5{id:Nat}{K:Exit->St->Prop}{st:St}(h:K (.exit id) st):Zl P Γ (.exit id) K st:=λI θ _ _ hr=>wp_exit ⟨st,I,θ,h,hr⟩
theorem n6{l:Nat}{K:Exit->St->Prop}{st:St}(h:K (.goto l) st):Zl P Γ (.goto l) K st:=λI θ _ _ hr=>wp_goto ⟨st,I,θ,h,hr⟩
def vA(P:Program)(Γ:Ix)(y:Code)(K:Exit->St->Prop):Exit->St->Prop
 | .normal,st=>Zl P Γ y K st
 | e,st=>K e st
theorem ZV{x y:Code}{K:Exit->St->Prop}{st:St}(h:Zl P Γ x (vA P Γ y K) st):Zl P Γ (.seq x y) K st:=λI θ a w hr=>
 wp_seq (S8 (h I θ a w hr) λe a' w' ⟨st',I',θ',h1,h2⟩=>by
  cases e with
  | normal=>exact h1 I' θ' a' w' h2
  | _=>exact⟨st',I',θ',h1,h2⟩)
theorem cZ{c:Operand}{x y:Code}{K:Exit->St->Prop}{st:St}(b:Bool)(hc:fx st.get c = .bool b)(ht:b=true->Zl P Γ x K st)(hf:b=false->Zl P Γ y K st):Zl P Γ (.cond c x y) K st:=λI θ a w hr=>by
 have he:=eD hr c;have hc':fx st.sto.tmp c = .bool b:=hc;rw[hc']at he;exact wp_cond_split he.bool_inv (λh=>ht h I θ a w hr) (λh=>hf h I θ a w hr)
def JM(id:Nat)(K:Exit->St->Prop):Exit->St->Prop
 | .exit id',st=>if id'=id then K .normal st else K (.exit id') st
 | e,st=>K e st
theorem k4{id:Nat}{c:Code}{K:Exit->St->Prop}{st:St}(h:Zl P Γ c (JM id K) st):Zl P Γ (.block id c) K st:=λI θ a w hr=>
 wp_block (S8 (h I θ a w hr) λe a' w' ⟨st',I',θ',h1,h2⟩=>by
  cases e with
  | exit id'=>
   simp only[JM]at h1;simp only[Exit.inBlock]
   split
   ·grind
   ·grind
  | _=>exact⟨st',I',θ',h1,h2⟩)
theorem LA{c:Code}{Q:Exit->Act->World->Prop}(J:Nat->Act->World->Prop)(round:∀ n a w,J n a w->c.wp P (Exit.then (λa' w'=>∃ m,m<n/\J m a' w') Q) a w){n:Nat}{a:Act}{w:World}(h:J n a w):(Code.loop c).wp P Q a w:=by
 intro b k cs
 have key:∀ n a w,J n a w->∃ e a' w',Q e a' w'/\Arrives P (lone (b.at a (.code c::.inLoop c::k)) cs w) b k cs e a' w':=by
  intro n
  induction n using Nat.strongRecOn with
  | _ n ih=>
   intro a w hJ;obtain⟨e,a₁,w₁,hq,harr⟩:=round n a w hJ b _ cs
   cases e with
   | normal=>
    obtain⟨m,hlt,hJ'⟩:=hq;obtain⟨e₂,a₂,w₂,hq₂,harr₂⟩:=ih m hlt _ _ hJ';exact⟨e₂,a₂,w₂,hq₂,.of_steps (Steps.trans harr (.one step_inLoop)) harr₂⟩
   | exit id=>exact⟨_,a₁,w₁,hq,.pass  rfl (λ_ _=>.inl (by simp)) harr⟩
   | goto l=>exact⟨_,a₁,w₁,hq,.pass  rfl (λ_ _=>.inl (by simp)) harr⟩
   | ret=>exact⟨_,a₁,w₁,hq,.pass  rfl (λ_ _=>.inl (by simp)) harr⟩
   | panic ch=>exact⟨_,a₁,w₁,hq,.pass  rfl (λ_ _=>.inl (by simp)) harr⟩
   | outgrown=>exact⟨_,a₁,w₁,hq,.pass  rfl (λ_ _=>.inl (by simp)) harr⟩
 obtain⟨e,a',w',hq,harr⟩:=key n a w h;exact⟨e,a',w',hq,.of_steps (.one step_loop) harr⟩
def Rw{S X:Type}(Γ:Ix)(H:S->St)(KX:X->Exit->St->Prop):LR S X->Exit->St->Prop
 | .next s',e,st'=>e = .normal/\Le Γ st' (H s')
 | .done x,e,st'=>e≠.normal/\KX x e st'
theorem ca{S X:Type}{body:Code}(H:S->St)(f:S->Option (LR S X))(KX:X->Exit->St->Prop){K:Exit->St->Prop}
  (hb:∀ s y,f s=some y->Zl P Γ body (Rw Γ H KX y) (H s)) {s:S} {x:X} (hr:Ab f s=some x) (hK:∀ e st',KX x e st'->K e st'):Zl P Γ (.loop body) K (H s):=by
 intro I θ a w hrel;obtain⟨n,hn⟩:=loopO_iff.1 hr;refine LA (λn a w=>∃ s I θ,LRuns f s x n/\Rel Γ (H s).sto I θ a w) (λn a w ⟨s,I,θ,hs,hrel⟩=>?_)  ⟨s,I,θ,hn,hrel⟩
 cases hs with
 | done hd=>
  refine S8 (hb s _ hd I θ a w hrel) λe a' w' ⟨st',I',θ',h1,h2⟩=>?_;obtain⟨hne,hx⟩:=h1
  cases e with
  | normal=>exact(hne rfl).elim
  | _=>exact⟨st',I',θ',hK _ _ hx,h2⟩
 | @next _ s' _ m hd ht=>
  refine S8 (hb s _ hd I θ a w hrel) λe a' w' ⟨st',I',θ',h1,h2⟩=>?_;obtain⟨rfl,hle⟩:=h1;obtain⟨I'',θ'',h3⟩:=hle I' θ' a' w' h2;exact⟨m,Nat.lt_succ_self m,s',I'',θ'',ht,h3⟩
def MO(c:Code)(J:Nat->Act->World->Prop)(Q:Exit->Act->World->Prop):Exit->Act->World->Prop
 | .goto l,a,w=>match findLabel c l with|some _=>J l a w|none=>Q (.goto l) a w
 | e,a,w=>Q e a w
theorem iA{c:Code}{Q:Exit->Act->World->Prop}(J:Nat->Nat->Act->World->Prop){a:Act}{w:World}(first:c.wp P (MO c (λl a' w'=>∃ n,J n l a' w') Q) a w)
  (pass:∀ n l rest a w,findLabel c l=some rest->J n l a w->rest.wp P (MO c (λl' a' w'=>∃ m,m<n/\J m l' a' w') Q) a w):(Code.scope c).wp P Q a w:=by
 intro b k cs
 have hg:∀ l rest,findLabel c l=some rest->gotoIn l (.inScope c::k)=some (.code rest::.inScope c::k):=λl rest hf=>by simp[gotoIn,hf]
 have hg':∀ l k',findLabel c l=none->gotoIn l k=some k'->gotoIn l (.inScope c::k)=some k':=λl k' hf hk=>by simp[gotoIn,hf,hk]
 have key:∀ n l rest a w,findLabel c l=some rest->J n l a w->∃ e a' w',Q e a' w'/\Arrives P (lone (b.at a (.code rest::.inScope c::k)) cs w) b k cs e a' w':=by
  intro n
  induction n using Nat.strongRecOn with
  | _ n ih=>
   intro l rest a w hf hJ;obtain⟨e,a₁,w₁,hq,harr⟩:=pass n l _ a w hf hJ b _ cs
   cases e with
   | normal=>exact⟨.normal,a₁,w₁,hq,Steps.trans harr (.one step_inScope)⟩
   | exit id=>exact⟨.exit id,a₁,w₁,hq,λk' hk=>harr k' (by simp[exitTo,hk])⟩
   | goto l'=>
    simp only[MO]at hq
    cases hf':findLabel c l' with
    | some rest'=>
     rw[hf']at hq;obtain⟨m,hlt,hJ'⟩:=hq;obtain⟨e₂,a₂,w₂,hq₂,harr₂⟩:=ih m hlt l' _ _ _ hf' hJ';exact⟨e₂,a₂,w₂,hq₂,.of_steps (harr _ (hg l' _ hf')) harr₂⟩
    | none=>
     rw[hf']at hq;exact⟨.goto l',a₁,w₁,hq,λk' hk=>harr k' (hg' l' k' hf' hk)⟩
   | ret=>exact⟨_,a₁,w₁,hq,harr⟩
   | panic ch=>exact⟨_,a₁,w₁,hq,harr⟩
   | outgrown=>exact⟨_,a₁,w₁,hq,harr⟩
 obtain⟨e,a₁,w₁,hq,harr⟩:=first b _ cs
 cases e with
 | normal=>exact⟨.normal,a₁,w₁,hq,.head GK (Steps.trans harr (.one step_inScope))⟩
 | exit id=>exact⟨.exit id,a₁,w₁,hq,λk' hk=>.head GK (harr k' (by simp[exitTo,hk]))⟩
 | goto l'=>
  simp only[MO]at hq
  cases hf':findLabel c l' with
  | some rest'=>
   rw[hf']at hq;obtain⟨n,hJ'⟩:=hq;obtain⟨e₂,a₂,w₂,hq₂,harr₂⟩:=key n l' _ _ _ hf' hJ';exact⟨e₂,a₂,w₂,hq₂,.of_steps (.head GK (harr _ (hg l' _ hf'))) harr₂⟩
  | none=>
   rw[hf']at hq;exact⟨.goto l',a₁,w₁,hq,λk' hk=>.head GK (harr k' (hg' l' k' hf' hk))⟩
 | ret=>exact⟨_,a₁,w₁,hq,.of_steps (.one GK) harr⟩
 | panic ch=>exact⟨_,a₁,w₁,hq,.of_steps (.one GK) harr⟩
 | outgrown=>exact⟨_,a₁,w₁,hq,.of_steps (.one GK) harr⟩
def QR{S X:Type}(Γ:Ix)(c:Code)(lab:S->Nat)(H:S->St)(KX:X->Exit->St->Prop):LR S X->Exit->St->Prop
 | .next s',e,st'=>e = .goto (lab s')/\(findLabel c (lab s')).isSome=true/\Le Γ st' (H s')
 | .done x,e,st'=>(∀ l,e = .goto l->findLabel c l=none)/\KX x e st'
theorem k7{S X:Type}{c:Code}(lab:S->Nat)(H:S->St)(f0:Option (LR S X))(f:S->Option (LR S X))(KX:X->Exit->St->Prop){K:Exit->St->Prop}{st:St}
  (h0:∀ y,f0=some y->Zl P Γ c (QR Γ c lab H KX y) st) (hb:∀ s y rest,findLabel c (lab s)=some rest->f s=some y->Zl P Γ rest (QR Γ c lab H KX y) (H s))
  {x:X} (hr:Ym f0 f=some x) (hK:∀ e st',KX x e st'->K e st'):Zl P Γ (.scope c) K st:=by
 intro I θ a w hrel;obtain⟨y,hy,hr⟩:=bind_some hr
 have fin:∀(J:Nat->Act->World->Prop) (a':Act) (w':World) (e:Exit) st' I' θ',QR Γ c lab H KX (.done x) e st'->Rel Γ st'.sto I' θ' a' w'->MO c J (λe a' w'=>∃ st' I' θ',K e st'/\Rel Γ st'.sto I' θ' a' w') e a' w':=λJ a' w' e st' I' θ' h1 h2=>by
  obtain⟨hl,hx⟩:=h1
  cases e with
  | goto l=>simp only[MO,hl l rfl];exact⟨st',I',θ',hK _ _ hx,h2⟩
  | _=>exact⟨st',I',θ',hK _ _ hx,h2⟩
 refine iA (λn l a w=>∃ s I θ,LRuns f s x n/\lab s=l/\Rel Γ (H s).sto I θ a w) ?_ (λn l rest a w hf ⟨s,I,θ,hs,hl,hrel⟩=>?_)
 ·refine S8 (h0 y hy I θ a w hrel) λe a' w' ⟨st',I',θ',h1,h2⟩=>?_
  cases y with
  | done x'=>
   grind
  | next s=>
   obtain⟨n,hn⟩:=loopO_iff.1 hr;obtain⟨rfl,hf,hle⟩:=h1;obtain⟨I'',θ'',h3⟩:=hle I' θ' a' w' h2;obtain⟨rest,hf'⟩:=zzL79.1 hf;simp only[MO,hf'];exact⟨n,s,I'',θ'',hn,rfl,h3⟩
 ·subst hl
  cases hs with
  | done hd=>exact S8 (hb s _ _ hf hd I θ a w hrel) λe a' w' ⟨st',I',θ',h1,h2⟩=>fin _ a' w' e st' I' θ' h1 h2
  | @next _ s' _ m hd ht=>
   refine S8 (hb s _ _ hf hd I θ a w hrel) λe a' w' ⟨st',I',θ',h1,h2⟩=>?_;obtain⟨rfl,hf',hle⟩:=h1;obtain⟨I'',θ'',h3⟩:=hle I' θ' a' w' h2;obtain⟨rest',hf''⟩:=zzL79.1 hf';simp only[MO,hf''];exact⟨m,Nat.lt_succ_self m,s',I'',θ'',ht,rfl,h3⟩
theorem fj{id:Nat}{K:Exit->St->Prop}{st:St}(h:K .normal st):JM id K (.exit id) st:=by show if id=id then K _ st else K _ st;rw[if_pos rfl];exact h
theorem fi{id id':Nat}{K:Exit->St->Prop}{st:St}(hne:Nat.beq id' id=false)(h:K (.exit id') st):JM id K (.exit id') st:=by
 simp only[JM];rw[if_neg (by rintro rfl;simp at hne)];exact h
theorem Bh{R:Type}{b:Bool}{x y:Option R}{r:R}(hb:b=true)(h:(bif b then x else y)=some r):x=some r:=by rw[hb]at h;exact h
theorem sv{names:List Nat}{H:List (Nat×Own)}(h:Γ.own0=Ag H)(hm:(H.all λx=>Bj x.1 names)=true):∀ nm,Γ.own0 nm≠none->nm∈names:=λnm hn=>by
 rw[h]at hn
 cases hl:Ag H nm with
 | none=>exact(hn hl).elim
 | some o=>exact memB_mem.1 (zzL30.1 hm _ (Np hl))
theorem n7{X:Type}{c:Code}{m:Option X}(KX:X->Exit->St->Prop){K:Exit->St->Prop}{st:St}{x:X}(hr:m=some x)(hx:∀ x,m=some x->Zl P Γ c (KX x) st)(hK:∀ e st',KX x e st'->K e st'):Zl P Γ c K st:=
 PW (hx x hr) hK
end
section
variable {P:Program} {Γ:Ix}
structure RgQ(P:Program)(Γ:Ix)(n:Nat)(H:List (Nat×Own)):Prop where
 hn:Γ.n=n
 mix:P.follows .mixedOrders=true
 own:Γ.own0=Ag H
theorem RgQ.hand{n:Nat}{H:List (Nat×Own)}(q:RgQ P Γ n H){names:List Nat}(h:(H.all λx=>Bj x.1 names)=true):∀ nm,Γ.own0 nm≠none->nm∈names:=sv q.own h
end
def t8(P:Program)(st:St):ResultVar->Option AV
 | .tmp t=>some (st.get t)
 | .cell a t=>
  bif B8 P t then
   match st.get a with
   | .ptr nm off=>
    match bif Nat.blt nm Bp then Ag st.own nm else none with
    | some (.row _ cells)=>
     bif Fd P t then(bif Nat.ble (off+A6 P t) cells.length then some (.agg ((cells.drop off).take (A6 P t))) else none)
     else(bif Nat.blt off cells.length then some (cells.getD off .any) else none)
    | _=>none
   | .vpt nm n 0 0=>
    match bif Nat.blt nm Bp then Ag st.own nm else none with
    | some (.arr sz _ m f)=>bif Fd P t&&Nat.beq n m&&Nat.beq (A6 P t) (n*sz) then some (.agg (Hi n f)) else none
    | _=>none
   | _=>none
  else none
def SI(P:Program)(st:St):List ResultVar->Option (List AV)
 | []=>some []
 | r::rs=>match t8 P st r,SI P st rs with|some x,some l=>some (x::l)|_,_=>none
def gz(P:Program)(st:St)(rs:List ResultVar):Option AV:=
 match SI P st rs with
 | some [x]=>some x
 | some l=>some (.tuple l)
 | none=>none
def SK(ρ:List (Nat×Nat))(st:St):List (Nat×Own):=
 ρ.filterMap λx=>match Ag st.own x.1 with|some o=>some (x.2,o.ren ρ)|none=>none
def SJ(H:List (Nat×Own))(ρ:List (Nat×Nat)):Bool:=
 X0 (ρ.map (·.1))&&(X0 (ρ.map (·.2))&&ρ.all (λx=>Nat.blt x.1 Bp))&&H.all (λx=>match Ag ρ x.1 with|some k=>Nat.beq k x.1|none=>false)
def jv(P:Program)(rs:List ResultVar)(ρ:List (Nat×Nat))(H:List (Nat×Own))(st:St):Option (AV×List (Nat×Own)):=
 bif SJ H ρ then match gz P st rs with|some x=>some (x.ren ρ,SK ρ st)|none=>none else none
def zB(P:Program)(rs:List ResultVar)(H:List (Nat×Own))(res:AV)(H':List (Nat×Own))(e:Exit)(st:St):Prop:=
 (e = .ret\/e = .normal)/\∃ ρ,jv P rs ρ H st=some (res,H')
def cw:Nat->List AV->List (Nat×AV)
 | _,[]=>[]
 | i,x::l=>(i,x)::cw (i+1) l
def JV(args:List AV)(H:List (Nat×Own)):St:=⟨cw 0 args,H,[]⟩
section
variable {P:Program} {Γ:Ix} {I:Nat->Nat->Prop} {θ:Nat->Option (Nat×Nat)} {a:Act} {w:World} {st:St}
def resSem(a:Act)(r:ResultVar):Sem Value:=
 match r with
 | .tmp t=>Pure.pure (a.tmps.getD t undef)
 | .cell b t=>do loadVar t (<- asAddr (a.tmps.getD b undef))
theorem gy(h:Rel Γ st.sto I θ a w){r:ResultVar}{x:AV}(hx:t8 P st r=some x) :
  ∃ v,(resSem a r).run P w = .ok v w/\Rep I st.sto.own θ w v x:=by
 cases r with
 | tmp t=>
  simp only[t8,Aj]at hx;subst hx;exact⟨_,rfl,h.slots t⟩
 | cell b t=>
  simp only[t8]at hx
  cases hT:B8 P t with
  | false=>simp[hT]at hx
  | true=>
   simp only[hT,Ae]at hx
   split at hx
   ·rename_i nm off hb
    split at hx
    ·rename_i e1 cells hown0
     have hown:st.sto.own nm=some (.row e1 cells):=by
      cases hb:Nat.blt nm Bp with
      | false=>rw[hb]at hown0;cases hown0
      | true=>rw[hb]at hown0;exact(A8 (by simpa [K2] using hb)).trans hown0
     have hs:=h.slots b
     have hs':Rep I st.sto.own θ w (a.tmps.getD b undef) (.ptr nm off):=by rw[<- hb];exact hs
     obtain⟨e',cells',g,c,ho',hg,he⟩:=hs'.ptr_inv;obtain⟨g',c',vs,hg',hh,hsz,h1,hrep,_⟩:=h.chg.rel.row nm _ cells hown;rw[hg]at hg';simp only[Aj,Ms]at hg';obtain⟨rfl,rfl⟩:=hg'
     have hcell:∀ j,j<cells.length->w.cell? ⟨g,j,none⟩=some (vs.getD j undef):=λj hj=>by
      rw[Py w g j vs _ (0,0) hh];exact Nk (by omega)
     simp only[resSem,he,Ed,asAddr,Hb,Fh]
     cases hagg:Fd P t with
     | true=>
      simp only[hagg,Ae]at hx
      cases hle:Nat.ble (off+A6 P t) cells.length with
      | false=>simp[hle]at hx
      | true=>
       simp only[hle,Ae,Aj]at hx;subst hx;have hle':=K1 hle;refine⟨_,Mo hT hagg _ (λj=>vs.getD (off+j) undef) (λj hj=>by rw[O3];exact hcell _ (by omega)),.agg _ _ (by simp;omega) (λj hj=>?_) (λj hj=>?_)⟩
       ·have hj':j<A6 P t:=by simp at hj;omega
        rw[N1 _ _ _ hj'];exact h1 _ (by omega)
       ·have hj':j<A6 P t:=by simp at hj;omega
        rw[N1 _ _ _ hj',Nm _ _ _ _ _ hj'];exact hrep _ (by omega)
     | false=>
      simp only[hagg,An]at hx
      cases hlt:Nat.blt off cells.length with
      | false=>simp[hlt]at hx
      | true=>
       simp only[hlt,Ae,Aj]at hx;subst hx
       have hlt':off<cells.length:=by simpa [K2] using hlt
       exact⟨_,Mp hT hagg _ _ (hcell _ hlt'),hrep _ hlt'⟩
    ·cases hx
   ·rename_i nm n hb
    split at hx
    ·rename_i sz e1 m f hown0
     have hown:st.sto.own nm=some (.arr sz e1 m f):=by
      cases hb:Nat.blt nm Bp with
      | false=>rw[hb]at hown0;cases hown0
      | true=>rw[hb]at hown0;exact(A8 (by simpa [K2] using hb)).trans hown0
     cases hk:(Fd P t&&Nat.beq n m&&Nat.beq (A6 P t) (n*sz)) with
     | false=>simp[hk]at hx
     | true=>
      simp only[hk,Ae,Aj]at hx;subst hx;simp only[Be]at hk;have hs:=h.slots b
      have hs':Rep I st.sto.own θ w (a.tmps.getD b undef) (.vpt nm n 0 0):=by rw[<- hb];exact hs
      obtain⟨ad,he,vs,hrun,hrep⟩:=YK (P:=P) h hT hk.1.1 hs' hown (Cq hk.1.2) (Cq hk.2);exact⟨_,by simp only[resSem,he,Ed,asAddr,Hb,Fh,hrun],hrep⟩
    ·cases hx
   ·cases hx
theorem Yl(h:Rel Γ st.sto I θ a w):∀{rs:List ResultVar} {xs:List AV},SI P st rs=some xs->
  ∃ vs:List Value,(rs.mapM (resSem a)).run P w = .ok vs w/\RepL I st.sto.own θ w vs xs
 | [],xs,hx=>by simp only[SI,Aj]at hx;subst hx;exact⟨[],by simp,.nil⟩
 | r::rs,xs,hx=>by
  simp only[SI]at hx
  split at hx
  ·rename_i x l h1 h2
   simp only[Aj]at hx;subst hx;obtain⟨v,hv,hr⟩:=gy h h1;obtain⟨vs,hvs,hrs⟩:=Yl h h2;refine⟨v::vs,?_,.cons hr hrs⟩;simp only[List.mapM_cons,Ed,hv,Fh,hvs,Hb]
  ·cases hx
theorem RepL.length{own:Nat->Option Own}{l:List Value}{m:List AV}(h:RepL I own θ w l m):l.length=m.length:=by induction h with|nil=>rfl|cons _ _ ih=>simp[ih]
theorem RepL.get{own:Nat->Option Own}{l:List Value}{m:List AV}(h:RepL I own θ w l m)(j:Nat)(hj:j<m.length):Rep I own θ w (l.getD j undef) (m.getD j .any):=by
 induction h generalizing j with
 | nil=>cases hj
 | cons h _ ih=>grind
theorem mE(h:Rel Γ st.sto I θ a w){fn:Func}{x:AV}(hx:gz P st fn.results.toList=some x):∃ v,(results fn a.tmps).run P w = .ok v w/\Rep I st.sto.own θ w v x:=by
 unfold gz at hx;have hrun:∀ vs ,(fn.results.toList.mapM (resSem a)).run P w = .ok vs w->
   (results fn _).run P w = .ok (if h:vs.toArray.size=1 then vs.toArray[0] else .tuple vs.toArray) w:=λvs hvs=>by
  have e:results fn a.tmps=(do let vs <- fn.results.mapM (resSem a);pure (if h:vs.size=1 then vs[0] else .tuple vs)):=by
   congr 1
  rw[e,Array.mapM_eq_mapM_toList];simp only[Ed,Sem.run_map];rw[hvs];simp only[Fh,Hb]
 split at hx
 ·rename_i y hy
  simp only[Aj]at hx;obtain⟨vs,hvs,hr⟩:=Yl h hy;have hl:=hr.length
  match vs,hl,hr,hvs with
  | [v],_,hr,hvs=>
   cases hr with|cons hr _=>grind
 ·rename_i l hne hl
  simp only[Aj]at hx;subst hx;obtain⟨vs,hvs,hr⟩:=Yl h hl;have hlen:=hr.length
  have hn1:vs.length≠1:=λh1=>by
   match l,hlen,hne with
   | [],hlen,_=>grind
   | [x],_,hne=>exact hne x rfl
   | _::_::_,hlen,_=>simp at hlen;omega
  refine⟨.tuple vs.toArray,by grind,.tuple _ _ (by simpa using hlen) λj hj=>?_⟩;have:=hr.get j hj;rwa[<- U8]at this
 ·cases hx
theorem XC:∀(l:List AV) (i t:Nat),Ag (cw i l) t=if i<=t/\t<i+l.length then some (l.getD (t-i) .any) else none
 | [],i,t=>by rw[if_neg (by simp)];rfl
 | x::l,i,t=>by
  simp only[cw,Ag,XC l _ t]
  cases hb:Nat.beq i t with
  | true=>
   simp_all
  | false=>
   have hne:i≠t:=by rintro rfl;simp at hb
   simp only[An]
   by_cases h:i+1<=t/\t<i+1+l.length
   ·grind
   ·grind
theorem XZ{ρ:List (Nat×Nat)}(h2:(ρ.map (·.2)).Nodup)(st:St)(k:Nat):Ag (SK ρ st) k=(Ag (K0 ρ) k).bind λnm=>(Ag st.own nm).map (Own.ren ρ):=by
 have key:∀(l:List _),(l.map (·.2)).Nodup->Ag (l.filterMap λx=>match Ag st.own x.1 with|some o=>some (x.2,o.ren ρ)|none=>none) k=(Ag (K0 l) k).bind λnm=>(Ag st.own nm).map (Own.ren ρ):=by
  intro l
  induction l with
  | nil=>intro _;rfl
  | cons x l ih=>
   intro hn;obtain⟨nm,c⟩:=x;simp only[Cy,zzL81]at hn;have ih:=ih hn.2;simp only[List.filterMap_cons,K0,Cy,Ag]
   cases ho:Ag _ nm with
   | some o=>
    simp only[Ag]
    cases hb:Nat.beq c k with
    | true=>simp[ho]
    | false=>simpa [K0] using ih
   | none=>
    cases hb:Nat.beq c k with
    | true=>
     have:=Cq hb;simp only[Ae,Ai,ho]
     apply Wn
     intro hm;obtain⟨y,hy,rfl⟩:=zzL27.1 hm;obtain⟨z,hz,hzy⟩:=List.mem_filterMap.1 hy
     cases hz':Ag st.own z.1 with
     | none=>grind
     | some o'=>
      grind
    | false=>simpa [K0] using ih
 exact key ρ h2
theorem sj{own0:Nat->Option Own}{θ0:Nat->Option (Nat×Nat)}{I0:Nat->Nat->Prop}{w0:World}{own:Nat->Option Own}{ρ:List (Nat×Nat)}(hρ:∀ nm c,Ag ρ nm=some c->own nm=Ag st.own nm)(h1:(ρ.map (·.1)).Nodup)(h2:(ρ.map (·.2)).Nodup)(k:Chg own0 θ0 I0 w0 own θ I w)
  (hh:∀ nm,own0 nm≠none->Ag ρ nm=some nm) :
  Chg own0 θ0 I0 w0 (Ag (SK ρ st)) (λk=>(Ag (K0 ρ) k).bind θ) I w/\∀ v x,Rep I own θ w v x->Rep I (Ag (SK ρ st)) (λk=>(Ag (K0 ρ) k).bind θ) w v (x.ren ρ):=by
 have hfw:∀ nm c o,Ag ρ nm=some c->own nm=some o->Ag (SK ρ st) c=some (o.ren ρ)/\(Ag (K0 ρ) c).bind θ=θ nm:=λnm c o hl ho=>by
  have hs:=(Rm h1 h2).1 hl;rw[hρ nm c hl]at ho;rw[XZ h2,hs];simp[ho]
 have hbw:∀ c o,Ag (SK ρ st) c=some o->∃ nm o',Ag ρ nm=some c/\own nm=some o'/\o=o'.ren ρ/\(Ag (K0 ρ) c).bind θ=θ nm:=λc o ho=>by
  rw[XZ h2]at ho;obtain⟨nm,hs,ho'⟩:=zzL108.1 ho;obtain⟨o',ho'',rfl⟩:=zzL89.1 ho';exact⟨nm,o',(Rm h1 h2).2 hs,(hρ nm c ((Rm h1 h2).2 hs)).trans ho'',rfl,by simp[hs]⟩
 refine⟨{ k with le:=λnm o ho=>?_,rel:=⟨λc e' cells hc=>?_,λc sz e m hc g cc hg=>?_,λc c' g cc cc' hc hc' hg hg'=>?_,λc sz e m f hc=>?_,λc x hc=>?_,λc sz m hc hnn=>?_⟩,new:=λc g cc hc hg=>?_ },λv x hx=>hx.ren ρ hfw⟩
 ·obtain⟨o',ho',hl⟩:=k.le nm o ho;obtain⟨e1,e2⟩:=hfw nm nm o' (hh nm (by simp[ho])) ho';refine⟨_,e1,?_⟩;rw[e2]
  cases o<;>cases o'<;>simp_all [OwnLe,Own.ren]
 rotate_left 5
 ·obtain⟨nm,o',hl,ho',he,ht⟩:=hbw c _ hc
  cases o' with
  | row=>simp[Own.ren]at he
  | arr=>simp[Own.ren]at he
  | obj=>simp[Own.ren]at he
  | tok=>
   simp only[Own.ren,Own.tok.injEq]at he;obtain⟨rfl,rfl,rfl⟩:=he;exact k.rel.tok8 nm _ _ ho' (ht.symm.trans hnn)
 rotate_right 1
 ·obtain⟨nm,o',hl,ho',he,ht⟩:=hbw c _ hc
  cases o' with
  | row=>simp[Own.ren]at he
  | tok=>simp[Own.ren]at he
  | arr=>simp[Own.ren]at he
  | obj x'=>
   simp only[Own.ren,Own.obj.injEq]at he;subst he;exact L9 (θ':=λc=>(Ag (K0 ρ) c).bind θ) (nm':=c) (k.rel.obj nm _ ho') ht (λ_ _ _=>rfl) (λ_ _ _ _ h=>h) (λ_ hh=>hh.on _ (λ_ _ h=>h) (λ_ _ _=>rfl) λ_ _ hv=>hv.ren ρ hfw) RU
 rotate_left 1
 ·obtain⟨nm,o',hl,ho',he,ht⟩:=hbw c _ hc
  cases o' with
  | tok=>simp[Own.ren]at he
  | arr=>simp[Own.ren]at he
  | obj=>simp[Own.ren]at he
  | row e1 cs=>
   simp only[Own.ren,Own.row.injEq]at he;obtain⟨rfl,rfl⟩:=he;obtain⟨g,c',vs,r1,r2,r3,r4,r5,r6⟩:=k.rel.row nm _ cs ho';refine⟨g,c',vs,ht.trans r1,r2,by rw[Bt];exact r3,λj hj=>r4 j (by rwa[Bt]at hj),λj hj=>?_,r6⟩;rw[Lu];exact(r5 j (by rwa[Bt]at hj)).ren ρ hfw
 ·obtain⟨nm,o',hl,ho',he,ht⟩:=hbw c _ hc
  cases o' with
  | row=>simp[Own.ren]at he
  | arr=>simp[Own.ren]at he
  | obj=>simp[Own.ren]at he
  | tok=>
   simp only[Own.ren,Own.tok.injEq]at he;obtain⟨rfl,rfl,rfl⟩:=he;exact k.rel.tok nm _ _ _ ho' g cc (by rw[<- ht];exact hg)
 ·cases hx:Ag (SK ρ st) c with
  | none=>exact(hc hx).elim
  | some o=>
   cases hx':Ag (SK ρ st) c' with
   | none=>exact(hc' hx').elim
   | some o'=>
    obtain⟨nm,o1,hl,ho1,_,ht⟩:=hbw c o hx;obtain⟨nm',o2,hl',ho2,_,ht'⟩:=hbw c' o' hx';rw[ht]at hg;rw[ht']at hg';have:=k.rel.inj nm nm' g cc cc' (by simp[ho1]) (by simp[ho2]) hg hg';subst this;rw[hl]at hl';exact OI hl'
 ·obtain⟨nm,o',hl,ho',he,ht⟩:=hbw c _ hc
  cases o' with
  | row=>simp[Own.ren]at he
  | tok=>simp[Own.ren]at he
  | obj=>simp[Own.ren]at he
  | arr sz' e' m' f'=>
   simp only[Own.ren,Own.arr.injEq]at he;obtain⟨rfl,rfl,rfl,rfl⟩:=he;exact P8 (k.rel.arr nm _ _ _ _ ho') ht (λ_ _ _=>rfl) (λ_ _ _ _ h=>h) (λi _=>Bt _ _) (λv i j _ _ hv=>by rw[Lu];exact hv.ren ρ hfw)
 ·cases hx:Ag (SK ρ st) c with
  | none=>exact(hc hx).elim
  | some o=>
   obtain⟨nm,o1,hl,ho1,_,ht⟩:=hbw c o hx;rw[ht]at hg;exact k.new nm g cc (by simp[ho1]) hg
theorem eM {f : FuncId} {fn : Func} {c : Code} {args : List AV} {H H' : List (Nat × Own)} {res : AV} (hf : P.funcs[f]? = some fn) (hb : fn.body = some c) (hname : (fn.name == "runtime.NumGoroutine") = false) (hlen : Nat.ble args.length fn.ntmps = true)
    (h : ∀ Γ : Ix, Γ.n = fn.ntmps → Γ.own0 = Ag H → Zl P Γ c (zB P fn.results.toList H res H') (JV args H)) (hpl : RZ H = true := by rfl) : Spec P f args H res H' := by
  have hlen := K1 hlen; refine ⟨fun az w => ?_, fun w I θ az hargs hown hval hglob => ?_⟩
  · have hn  := by simpa using hname
    simp [callFunc, hf, hn, hb]
  · let Γ : Ix := ⟨w, fn.ntmps, Ag H, θ, I, hglob, fun nm h => SA hpl h⟩
    refine calls_of_wp hf hb ?_
    have has : az.size = args.length := by simpa using hargs.length
    have hown0 : (JV args H).sto.own = Ag H := aj hpl
    have hrel : Rel Γ (JV args H).sto I θ ⟨az ++ Array.replicate (fn.ntmps - az.size) undef, []⟩ w := by
      refine ⟨by simp [Γ]; omega, rfl, fun t => ?_, by rw [hown0]; exact .refl hown hval⟩
      have e : (JV args H).sto.tmp t = if t < args.length then args.getD t .any else .any := by
        show (match Ag (cw 0 args) t with | some x => x | none => .any) = _
        rw [XC]
        by_cases ht : t < args.length
        · simp [ht]
        · simp [ht]
      rw [e, hown0]
      by_cases ht : t < args.length
      · rw [if_pos ht]; have := hargs.get t ht
        have e2 : (az ++ Array.replicate (fn.ntmps - az.size) undef).getD t undef = az.toList.getD t undef := by
          have hts : t < az.size := by omega
          simp [ List.getD, Array.getElem?_append_left hts]
        rw [e2]; exact this
      · rw [if_neg ht]; exact .val _ _ (.any _)
    refine S8 (h Γ rfl rfl I θ _ w hrel) fun e a' w' ⟨st', I', θ', ⟨he, ρ, hret⟩, hr⟩ => ?_; unfold jv at hret
    cases hc : SJ H ρ with
    | false => simp [hc] at hret
    | true =>
      simp only [hc, Ae] at hret
      split at hret
      · rename_i x hx
        obtain ⟨rfl, rfl⟩ := hret; simp only [SJ, Be] at hc; obtain ⟨⟨c1, c2, c4⟩, c3⟩ := hc; obtain ⟨v, hv, hrep⟩ := mE (fn := fn) hr hx
        obtain ⟨k1, k2⟩ := sj (own := st'.sto.own) (st := st') (fun nm c hl => A8 (by have := zzL30.1 c4 _ (Np hl); simpa [K2] using this)) (Ob c1) (Ob c2) hr.chg (fun nm hn => by
          cases hl : Ag H nm with
          | none => exact (hn hl).elim
          | some o =>
            have := zzL30.1 c3 _ (Np hl)
            split at this
            · simp_all
            · cases this)
        have hfin : a'.defers = [] ∧ ∃ v, (results fn a'.tmps).run P w' = .ok v w' ∧ (∃ v_1 I' θ', Ending.returned v = .returned v_1 ∧ Chg (Ag H) θ I w (Ag (SK ρ st')) θ' I' w' ∧ Rep I' (Ag (SK ρ st')) θ' w' v_1 (x.ren ρ)) :=
          ⟨hr.defers, v, hv, v, I', _, rfl, k1, k2 _ _ hrep⟩
        rcases he with rfl | rfl <;> exact hfin
      · cases hret
theorem law_of_spec{f:FuncId}{args:List AV}(h:Spec P f args [] (.bool true) [])(w:World)(az:Array Value)(hargs:RepL (λb o=>∃ u,w.cell? ⟨b,o,none⟩=some u) (Ag []) (λ_=>none) w az.toList args)(hG:zZ (λb o=>∃ u,w.cell? ⟨b,o,none⟩=some u) w) :
  Calls P f az w λe w'=>e = .returned (.bool true)/\Below w.heap.size w w':=by
 refine Calls.mono (h.2 w _ _ az hargs ⟨(λ_ _ _ h=>by cases h),(λ_ _ _ _ h=>by cases h),(λ_ _ _ _ _ h=>(h rfl).elim),(λ_ _ _ _ _ h=>by cases h),(λ_ _ h=>by cases h),(λ_ _ _ h=>by cases h)⟩ (λ_ _ h=>h) hG) λe w' ⟨v,I',θ',he,k,hr⟩=>?_;subst he;rw[hr.bool_inv];exact⟨rfl,k.os,k.tape,k.output,k.grow,λb hb=>k.frame b hb λ_ _ h=>(h rfl).elim⟩
end
def AV.list{α:Type}(sz:Nat)(e:α->List AV)(d:α)(l:List α)(t:Tag):AV:=.slice sz l.length (λi=>e (l.getD i d)) t
section
variable {α:Type} {sz:Nat} {e:α->List AV} {d:α}
theorem Cs:AVle (.slice 0 0 (λ_=>[]) .exact) (AV.list sz e d [] .exact):=AVle.empty rfl (λ_ h=>by cases h)
theorem wA{n:Nat}{f:Nat->List AV}{t:Tag}{xs:List α}(hn:n=xs.length)(hf:∀ i,i<n->f i=e (xs.getD i d)):AVle (.slice sz n f t) (AV.list sz e d xs t):=AVle.slice hn hf
theorem tH(xs:List α)(i:Nat)(h:i<xs.length):(xs.map e).getD i []=e (xs.getD i d):=by simp[List.getD,h]
theorem jC(l m:List α)(i:Nat)(h:i<l.length+m.length):Ov l.length (λi=>e (l.getD i d)) (λi=>e (m.getD i d)) i=e ((l++m).getD i d):=by
 by_cases hi:i<l.length
 ·rw[P7 _ _ hi,List.getD,List.getD,Zc hi]
 ·rw[U0 _ _ (by omega),List.getD,List.getD,CM (by omega)]
theorem vv{t:Tag}{l m:List α}:AVle (.slice sz (l.length+m.length) (Ov l.length (λi=>e (l.getD i d)) (λi=>e (m.getD i d))) t) (AV.list sz e d (l++m) t):=
 AVle.slice (by simp) λi hi=>jC l m i hi
theorem Ep(l m:List α):l.length+m.length=(l++m).length:=by simp
theorem ZT{t:Tag}{l:List α}{k:Nat}:AVle (.slice sz (l.length-k) (λi=>e (l.getD (k+i) d)) t) (AV.list sz e d (l.drop k) t):=
 AVle.slice (by simp) λi _=>by simp[List.getD]
end
theorem Spec.drop{P:Program}{f:FuncId}{args:List AV}{res:AV}{H':List (Nat×Own)}(h:Spec P f args [] res H'):Spec P f args [] res.strip []:=by
 refine⟨h.1,λw I θ az ha ho hv hg=>Calls.mono (h.2 w I θ az ha ho hv hg) λe w' ⟨v,I',θ',he,k,hr⟩=>⟨v,I',θ',he,⟨k.imm,k.cell,(λ_ _ h=>by cases h),⟨(λ_ _ _ h=>by cases h),(λ_ _ _ _ h=>by cases h),(λ_ _ _ _ _ h=>(h rfl).elim),(λ_ _ _ _ _ h=>by cases h),(λ_ _ h=>by cases h),(λ_ _ _ h=>by cases h)⟩,k.valid,k.os,k.tape,k.output,k.drawn,k.grow,k.frame,(λ_ _ _ h=>(h rfl).elim),λb o hi=>?_⟩,.val _ _ hr.strip⟩⟩;exact k.immNew b o hi
theorem Kf{α:Type}{sz:Nat}{e:α->List AV}{d:α}{γ:Bool}{l m:List α}:AVle (.slice sz (bif γ then m.length else l.length) (λi=>bif γ then e (m.getD i d) else e (l.getD i d)) .none) (AV.list sz e d (bif γ then m else l) .none):=by cases γ<;>exact λ_ _ _ _ _ h=>h
theorem Spec.args{P:Program}{f:FuncId}{xs ys:List AV}{H:List (Nat×Own)}{res:AV}{H':List (Nat×Own)}(hl:AVleL xs ys)(h:Spec P f ys H res H'):Spec P f xs H res H':=by
 refine⟨h.1,λw I θ az ha ho hv hg=>h.2 w I θ az ?_ ho hv hg⟩
 revert hl
 have key:∀{vs:List Value} {xs ys:List AV},AVleL xs ys->RepL I (Ag H) θ w vs xs->RepL I (Ag H) θ w vs ys:=by
  intro vs xs ys hl
  induction hl generalizing vs with
  | nil=>intro h;cases h;exact .nil
  | cons h1 _ ih=>intro h;cases h with|cons h2 h3=>exact .cons (h1 _ _ _ _ _ h2) (ih h3)
 exact λhl=>key hl ha
theorem jF{α:Type}{sz:Nat}{e:α->List AV}{d:α}:AVle (.slice 0 0 (λ_=>[]) .none) (AV.list sz e d [] .none):=AVle.empty rfl (λ_ h=>by cases h)
theorem sT{α:Type}{sz:Nat}{e:α->List AV}{d:α}:AVle (.slice 0 0 (λ_=>[]) .exact) (AV.list sz e d [] .none):=λ_ _ _ _ _ hh=>AVle.untag _ _ _ _ _ (Cs _ _ _ _ _ hh)
instance (i:Int)(n:Nat):Decidable (A5 i n):=inferInstanceAs (Decidable (_/\_))
abbrev w64(n:Int):Int:=IntKind.i64.wrap n
abbrev Bo(n:Int):Int:=IntKind.u64.wrap n
open Classical in
def lQ{R:Type}(f:Nat->Option R):Option R:=if h:∃ r n,∀ m,n<=m->f m=some r then some h.choose else none
theorem WV{R:Type}{f:Nat->Option R}{r:R}(h:lQ f=some r):∃ n,f n=some r:=by
 unfold lQ at h
 split at h
 ·rename_i hx
  obtain⟨n,hn⟩:=hx.choose_spec;simp only[Aj]at h;exact⟨n,h▸hn n (zzL7 n)⟩
 ·cases h
theorem ak{R:Type}{f:Nat->Option R}{r:R}(n:Nat)(h:∀ m,n<=m->f m=some r):lQ f=some r:=by
 have hx:∃ r n,∀ m,n<=m->f m=some r:=⟨r,n,h⟩;unfold lQ;rw[dif_pos hx];obtain⟨k,hk⟩:=hx.choose_spec;have h1:=hk (max n k) (by omega);rw[h (max n k) (by omega)]at h1;exact h1.symm
section
variable {Γ:Ix}
theorem QW{st st':St}(live names:List Nat)(h:Bd live names st=st')(hn:∀ nm,Γ.own0 nm≠none->nm∈names):Le Γ st st':=h▸dJ live names hn
theorem Bn{P:Program}{n:Nat}{H:List (Nat×Own)}{st st':St}(live names:List Nat)(q:RgQ P Γ n H)(h:Bd live names st=st':=by kernel_rfl)(hh:(H.all λx=>Bj x.1 names)=true:=by kernel_rfl):Le Γ st st':=QW live names h (q.hand hh)
theorem J7{st st':St}(h:st=st'):Le Γ st st':=h▸Le.refl _ _
end
section
variable {P:Program} {Γ:Ix}
def Zn(nm:Nat)(k:Nat):Bool:=!Nat.beq k nm
mutual
def AV.frz(nm sz n:Nat)(g:Nat->List AV):AV->AV
 | .slice s m f (.own k)=>.slice s m f (bif Nat.beq k nm then .none else .own k)
 | .ptr k off=>bif Nat.beq k nm then .any else .ptr k off
 | .vsl k j=>bif Nat.beq k nm then .slice sz n g (.own nm) else .vsl k j
 | .vpt k j i c=>bif Nat.beq k nm then .any else .vpt k j i c
 | .vsub k j l h=>bif Nat.beq k nm then .slice sz (h-l) (λi=>g (l+i)) .none else .vsub k j l h
 | .optr k m=>bif Nat.beq k nm then .any else .optr k m
 | .omap k=>bif Nat.beq k nm then .any else .omap k
 | .clo f xs ys=>.clo f (AV.frzAll nm sz n g xs) (AV.frzAll nm sz n g ys)
 | .agg cs=>.agg (AV.frzAll nm sz n g cs)
 | .rpo cs=>.rpo (AV.frzAll nm sz n g cs)
 | .tuple cs=>.tuple (AV.frzAll nm sz n g cs)
 | .cond c x=>.cond c (x.frz nm sz n g)
 | x=>x
def AV.frzAll(nm sz n:Nat)(g:Nat->List AV):List AV->List AV
 | []=>[]
 | x::l=>x.frz nm sz n g::AV.frzAll nm sz n g l
end
mutual
def AV.wholes(nm n:Nat):AV->List Prop
 | .vsl k j=>bif Nat.beq k nm then[j=n] else[]
 | .vsub k j _ _=>bif Nat.beq k nm then[j=n] else[]
 | .agg cs=>AV.wholesAll nm n cs
 | .rpo cs=>AV.wholesAll nm n cs
 | .tuple cs=>AV.wholesAll nm n cs
 | .cond _ x=>x.wholes nm n
 | .clo _ xs ys=>AV.wholesAll nm n xs++AV.wholesAll nm n ys
 | _=>[]
def AV.wholesAll(nm n:Nat):List AV->List Prop
 | []=>[]
 | x::l=>x.wholes nm n++AV.wholesAll nm n l
end
mutual
def AV.frw(nm sz n:Nat)(g:Nat->List AV):AV->AV
 | .slice s m f (.own k)=>.slice s m f (bif Zn nm k then .own k else .none)
 | .slice s m f (.fam b i)=>.slice s m f (bif Zn nm b then .fam b i else .none)
 | .ptr k off=>bif Zn nm k then .ptr k off else .any
 | .vsl k j=>bif Zn nm k then .vsl k j else bif Nat.beq j n then .slice sz n g .none else .any
 | .vpt k j i c=>bif Zn nm k then .vpt k j i c else .any
 | .vsub k j l h=>bif Zn nm k then .vsub k j l h else .any
 | .optr k m=>bif Zn nm k then .optr k m else .any
 | .omap k=>bif Zn nm k then .omap k else .any
 | .clo f xs ys=>.clo f (AV.frwAll nm sz n g xs) (AV.frwAll nm sz n g ys)
 | .agg cs=>.agg (AV.frwAll nm sz n g cs)
 | .rpo cs=>.rpo (AV.frwAll nm sz n g cs)
 | .tuple cs=>.tuple (AV.frwAll nm sz n g cs)
 | .cond c x=>.cond c (x.frw nm sz n g)
 | x=>x
def AV.frwAll(nm sz n:Nat)(g:Nat->List AV):List AV->List AV
 | []=>[]
 | x::l=>x.frw nm sz n g::AV.frwAll nm sz n g l
end
theorem Dv(nm sz n:Nat)(g:Nat->List AV)(l:List AV):(AV.frwAll nm sz n g l).length=l.length:=by induction l with|nil=>rfl|cons x l ih=>simp[AV.frwAll,ih]
theorem Si(nm sz n:Nat)(g:Nat->List AV)(l:List AV)(j:Nat):(AV.frwAll nm sz n g l).getD j .any=(l.getD j .any).frw nm sz n g:=by
 induction l generalizing j with
 | nil=>simp[AV.frwAll,AV.frw]
 | cons x l ih=>cases j with
  | zero=>simp[AV.frwAll]
  | succ j=>simpa [AV.frwAll] using ih j
theorem RepV.frw{I:Nat->Nat->Prop}{w:World}{v:Value}{x:AV}(h:RepV I w v x)(nm sz n:Nat)(g:Nat->List AV):RepV I w v (x.frw nm sz n g):=by
 induction h with
 | any v=>exact .any v
 | undef=>exact .undef
 | int k n=>exact .int k n
 | bool b=>exact .bool b
 | str s=>exact .str s
 | clo f=>exact .clo f
 | nxt1 i r=>exact .nxt1 i r
 | nxt0 i r=>exact .nxt0 i r
 | nilq b pos n h=>exact .nilq b pos n h
 | err0=>exact .err0
 | err1 t v=>exact .err1 t v
 | nilp=>exact .nilp
 | nilm=>exact .nilm
 | cond v c x _ h' ih=>exact .cond v c _ ih h'
 | rptr a cells us hs hI' hc h1 hr _=>exact .rptr a _ us hs hI' hc h1 hr
 | slice a n cap sz f us hcap hmax hz hn h1 hl hr _=>exact .slice a n cap sz f us hcap hmax hz hn h1 hl hr
 | agg vs cs hl h1 _ ih=>exact .agg vs _ (by rw[Dv,hl]) (λj hj=>h1 j (by rwa[Dv]at hj)) (λj hj=>by rw[Si];exact ih j (by rwa[Dv]at hj))
 | tuple vs cs hl _ ih=>exact .tuple vs _ (by rw[Dv,hl]) (λj hj=>by rw[Si];exact ih j (by rwa[Dv]at hj))
def Own.frz(nm sz n:Nat)(g:Nat->List AV):Own->Own
 | .row e cells=>.row e (AV.frzAll nm sz n g cells)
 | .arr s e m f=>.arr s e m (λi=>AV.frwAll nm sz n g (f i))
 | .obj x=>.obj (x.on (AV.frw nm sz n g))
 | .tok s e m=>.tok s e m
def Own.wholes(nm n:Nat):Own->List Prop
 | .row _ cells=>AV.wholesAll nm n cells
 | _=>[]
def St.wholes(st:St)(nm n:Nat):List Prop:=(st.tmps.map λx=>x.2.wholes nm n).flatten++(st.own.map λx=>x.2.wholes nm n).flatten
def St.freeze(st:St)(nm sz n:Nat)(e:TypeId)(g:Nat->List AV):St:=
 ⟨st.tmps.map λx=>(x.1,x.2.frz nm sz n g),st.own.map λx=>(x.1,bif Nat.beq x.1 nm then .tok sz e n else x.2.frz nm sz n g),st.fam⟩
theorem C4(nm sz n:Nat)(g:Nat->List AV)(l:List AV):(AV.frzAll nm sz n g l).length=l.length:=by induction l with|nil=>rfl|cons x l ih=>simp[AV.frzAll,ih]
theorem Sj(nm sz n:Nat)(g:Nat->List AV)(l:List AV)(j:Nat):(AV.frzAll nm sz n g l).getD j .any=(l.getD j .any).frz nm sz n g:=by
 induction l generalizing j with
 | nil=>simp[AV.frzAll,AV.frz]
 | cons x l ih=>cases j with
  | zero=>simp[AV.frzAll]
  | succ j=>simpa [AV.frzAll] using ih j
theorem Pv{nm n:Nat}{l:List AV}(h:∀ p∈AV.wholesAll nm n l,p)(j:Nat):∀ p∈(l.getD j .any).wholes nm n,p:=by
 induction l generalizing j with
 | nil=>intro p hp;simp[AV.wholes]at hp
 | cons x l ih=>
  cases j with
  | zero=>intro p hp;exact h p (zzL18.2 (.inl (by simpa using hp)))
  | succ j=>intro p hp;exact ih (λq hq=>h q (zzL18.2 (.inr hq))) j p (by simpa using hp)
theorem RepV.frz{I:Nat->Nat->Prop}{w:World}{v:Value}{x:AV}(h:RepV I w v x)(nm sz n:Nat)(g:Nat->List AV):RepV I w v (x.frz nm sz n g):=by
 induction h with
 | any v=>exact .any v
 | undef=>exact .undef
 | int k n=>exact .int k n
 | bool b=>exact .bool b
 | str s=>exact .str s
 | clo f=>exact .clo f
 | nxt1 i r=>exact .nxt1 i r
 | nxt0 i r=>exact .nxt0 i r
 | nilq b pos n h=>exact .nilq b pos n h
 | err0=>exact .err0
 | err1 t v=>exact .err1 t v
 | nilp=>exact .nilp
 | nilm=>exact .nilm
 | cond v c x _ h' ih=>exact .cond v c _ ih h'
 | rptr a cells us hs hI' hc h1 hr _=>exact .rptr a _ us hs hI' hc h1 hr
 | slice a n cap sz f us hcap hmax hz hn h1 hl hr _=>exact .slice a n cap sz f us hcap hmax hz hn h1 hl hr
 | agg vs cs hl h1 _ ih=>exact .agg vs _ (by rw[C4,hl]) (λj hj=>h1 j (by rwa[C4]at hj)) (λj hj=>by rw[Sj];exact ih j (by rwa[C4]at hj))
 | tuple vs cs hl _ ih=>exact .tuple vs _ (by rw[C4,hl]) (λj hj=>by rw[Sj];exact ih j (by rwa[C4]at hj))
theorem Rep.frz{I I':Nat->Nat->Prop}{own own':Nat->Option Own}{θ:Nat->Option (Nat×Nat)}{w:World}{v:Value}{x:AV}{nm sz n:Nat}{g:Nat->List AV}(h:Rep I own θ w v x)(hp:∀ p∈x.wholes nm n,p)(hI:∀ b o,I b o->I' b o)
  (ho:∀ k o,own k=some o->Nat.beq k nm=false->own' k=some (o.frz nm sz n g)) (hk:∀ v,Rep I own θ w v (.vsl nm n)->Rep I' own' θ w v (.slice sz n g (.own nm))) (hk2:∀ v l h,Rep I own θ w v (.vsub nm n l h)->RepV I' w v (.slice sz (h-l) (λi=>g (l+i)) .none)) (hlt':∀ b i,Nat.beq (Sx b i) nm=false):Rep I' own' θ w v (x.frz nm sz n g):=by
 induction h with
 | val v x h=>exact .val _ _ ((h.frz nm sz n g).mono hI (λ_ _ _=>rfl))
 | exact a n sz f h=>exact .exact a n sz f (h.mono hI (λ_ _ _=>rfl))
 | own k sz e m a n cap f hn hm hv h=>
  simp only[AV.frz]
  cases hb:Nat.beq k nm with
  | true=>exact .val _ _ (h.mono hI (λ_ _ _=>rfl))
  | false=>exact .own k sz e m a n cap f (ho k _ hn hb) hm hv (h.mono hI (λ_ _ _=>rfl))
 | fam b i sz e m a n cap f hi hn hm hv h=>
  exact .fam b i sz e m a n cap f hi (ho _ _ hn (hlt' b i)) hm hv (h.mono hI (λ_ _ _=>rfl))
 | ptr k off e0 cells g c hn hg=>
  simp only[AV.frz]
  cases hb:Nat.beq k nm with
  | true=>exact .val _ _ (.any _)
  | false=>exact .ptr k off e0 _ g c (ho k _ hn hb) hg
 | vsl k s2 e m f a j cap hn hm hcap hmax hnn hv=>
  simp only[AV.frz]
  cases hb:Nat.beq k nm with
  | true=>
   obtain rfl:=Cq hb;obtain rfl:j=n:=hp _ (by simp[AV.wholes]);exact hk _ (.vsl k s2 e m f a j cap hn hm hcap hmax hnn hv)
  | false=>exact .vsl k s2 e m _ a j cap (ho k _ hn hb) hm hcap hmax hnn hv
 | vpt k s2 e m f j i c ad hn hm hi hv=>
  simp only[AV.frz]
  cases hb:Nat.beq k nm with
  | true=>exact .val _ _ (.any _)
  | false=>exact .vpt k s2 e m _ j i c ad (ho k _ hn hb) hm hi hv
 | clo f fs cs xs ys hl hl' _ _ ih ih'=>
  simp only[AV.wholes,zzL18]at hp;exact .clo f fs cs _ _ (by rw[C4,hl]) (by rw[C4,hl']) (λj hj=>by rw[Sj];exact ih j (by rwa[C4]at hj) (Pv (λp h=>hp p (.inl h)) j)) (λj hj=>by rw[Sj];exact ih' j (by rwa[C4]at hj) (Pv (λp h=>hp p (.inr h)) j))
 | vsub k s2 e m f j lo hi a cap hn hm hlo hhi hcap hmax hnn hv=>
  simp only[AV.frz]
  cases hb:Nat.beq k nm with
  | true=>
   obtain rfl:=Cq hb;obtain rfl:j=n:=hp _ (by simp[AV.wholes]);exact .val _ _ (hk2 _ _ _ (.vsub k s2 e m f j lo hi a cap hn hm hlo hhi hcap hmax hnn hv))
  | false=>exact .vsub k s2 e m _ j lo hi a cap (ho k _ hn hb) hm hlo hhi hcap hmax hnn hv
 | optr k mm x g c hn hg=>
  simp only[AV.frz]
  cases hb:Nat.beq k nm with
  | true=>exact .val _ _ (.any _)
  | false=>exact .optr k _ _ g c (ho k _ hn hb) hg
 | omap k x hn=>
  simp only[AV.frz]
  cases hb:Nat.beq k nm with
  | true=>exact .val _ _ (.any _)
  | false=>exact .omap k _ (ho k _ hn hb)
 | cond v c x _ h' ih=>exact .cond v c _ (λhc=>ih hc (by simpa [AV.wholes] using hp)) h'
 | agg vs cs hl h1 _ ih=>exact .agg vs _ (by rw[C4,hl]) (λj hj=>h1 j (by rwa[C4]at hj)) (λj hj=>by rw[Sj];exact ih j (by rwa[C4]at hj) (Pv (by simpa [AV.wholes] using hp) j))
 | rpo a cells us hs hI' hc h1 _ ih=>exact .rpo a _ us hs (λj hj=>hI _ _ (hI' j (by rwa[C4]at hj))) (λj hj=>hc j (by rwa[C4]at hj)) (λj hj=>h1 j (by rwa[C4]at hj)) (λj hj=>by rw[Sj];exact ih j (by rwa[C4]at hj) (Pv (by simpa [AV.wholes] using hp) j))
 | tuple vs cs hl _ ih=>exact .tuple vs _ (by rw[C4,hl]) (λj hj=>by rw[Sj];exact ih j (by rwa[C4]at hj) (Pv (by simpa [AV.wholes] using hp) j))
theorem XD{α β:Type}(l:List (Nat×α))(g:Nat->α->β)(k:Nat):Ag (l.map λx=>(x.1,g x.1 x.2)) k=(Ag l k).map (g k):=by
 induction l with
 | nil=>rfl
 | cons x l ih=>
  obtain⟨a,b⟩:=x;simp only[Cy,Ag]
  cases hb:Nat.beq a k with
  | true=>simp_all
  | false=>simpa using ih
theorem yk{α β:Type}{l:List (Nat×α)}{g:α->List β}{k:Nat}{x:α}(h:Ag l k=some x){p:β}(hp:p∈g x):p∈(l.map λy=>g y.2).flatten:=
 List.mem_flatten.2 ⟨g x,zzL27.2 ⟨(k,x),Np h,rfl⟩,hp⟩
theorem Ka{st:St}{nm sz n:Nat}{e:TypeId}{f g:Nat->List AV}(ho:Ag st.own nm=some (.arr sz e n f))(hwh:cp (st.wholes nm n))(hf:∀ i,i<n->AV.stripAll (f i)=g i)(h0:Γ.own0 nm=none)(hlt:Nat.blt nm Bp=true:=by rfl) :
  Le Γ st (st.freeze nm sz n e g):=by
 intro I θ a w h;have hall:=WQ hwh
 have hlt:nm<Bp:=by simpa [K2] using hlt
 have ho:st.sto.own nm=some (.arr sz e n f):=(A8 hlt).trans ho
 have hown':(st.freeze nm sz n e g).sto.own=λk=>(st.sto.own k).map λo=>bif Nat.beq k nm then Own.tok sz e n else o.frz nm sz n g:=by
  funext k
  by_cases hk:k<Bp
  ·show Db _ _ k=(Db _ _ k).map _
   rw[A8 hk,A8 hk];exact XD st.own (λk o=>bif Nat.beq k nm then Own.tok sz e n else o.frz nm sz n g) k
  ·have hb:Nat.beq k nm=false:=by cases hb:Nat.beq k nm with|false=>rfl|true=>exact absurd (Cq hb) (by rintro rfl;exact hk hlt)
   show Db _ _ k=(Db _ _ k).map _
   rw[Dt hk,Dt hk,hb]
   show(Ag st.fam (k / Bp-1)).bind _=_
   cases Ag st.fam (k / Bp-1) with
   | none=>rfl
   | some F=>simp only[Ai,Option.map_map];cases F.m (k % Bp)<;>rfl
 have hnm:(st.freeze nm sz n e g).sto.own nm=some (.tok sz e n):=by rw[hown'];simp[ho]
 have hne:∀ k,k≠nm->(st.freeze nm sz n e g).sto.own k=(st.sto.own k).map (Own.frz nm sz n g):=λk hk=>by
  have:Nat.beq k nm=false:=by cases hb:Nat.beq k nm with|false=>rfl|true=>exact absurd (Cq hb) hk
  rw[hown'];simp[this]
 have hkeep:∀ k o,st.sto.own k=some o->Nat.beq k nm=false->(st.freeze nm sz n e g).sto.own k=some (o.frz nm sz n g):=λk o hk hb=>by
  have:k≠nm:=by rintro rfl;simp at hb
  rw[hne k this];rw[hk];rfl
 have hback:∀ k,k≠nm->∀ o',(st.freeze nm sz n e g).sto.own k=some o'->∃ o,st.sto.own k=some o/\o'=o.frz nm sz n g:=λk hk o' ho'=>by
  rw[hne k hk]at ho';obtain⟨o,h1,h2⟩:=zzL89.1 ho';exact⟨o,h1,h2.symm⟩
 have hnone:∀ k,(st.freeze nm sz n e g).sto.own k≠none->st.sto.own k≠none:=λk hk=>by
  by_cases hkn:k=nm
  ·subst hkn;simp[ho]
  ·cases hx:(st.freeze nm sz n e g).sto.own k with
   | none=>exact(hk hx).elim
   | some o'=>obtain⟨o,h1,_⟩:=hback k hkn o' hx;simp[h1]
 have hrel:=h.chg.rel;obtain⟨q0,q1⟩:=hrel.arr nm sz e n f ho
 let I':Nat->Nat->Prop:=λb o=>I b o\/((∃ c,θ nm=some (b,c))/\o<n*sz)
 have hII:∀ b o,I b o->I' b o:=λ_ _ h=>.inl h
 have hkey:∀ v,Rep I st.sto.own θ w v (.vsl nm n)->Rep I' (st.freeze nm sz n e g).sto.own θ w v (.slice sz n g (.own nm)):=λv hs=>by
  obtain⟨sz',e',m,f2,ad,cap,hval,ho',hmm,hcap,hmax,hnn,hvv⟩:=hs.vsl_inv;have ho'':st.sto.own nm=some (.arr sz' e' m f2):=ho';rw[ho]at ho'';simp only[Aj,Own.arr.injEq]at ho'';obtain⟨rfl,rfl,rfl,rfl⟩:=ho'';have hvv:=hvv rfl;rw[hval];refine .own nm sz e n ad n cap g hnm (zzL7 _) (λ_=>hvv) ?_
  cases hθ:θ nm with
  | none=>
   have hn0:=q0 hθ;subst hn0;exact .slice ad 0 cap sz g (λ_=>undef) hcap hmax (λh=>by omega) hnn (λj hj=>by omega) (λi hi=>by omega) (λi c hi=>by omega)
  | some gc=>
   obtain⟨b,c⟩:=gc;rw[hθ]at hvv;simp only at hvv;obtain⟨rfl,rfl⟩:=hvv;obtain⟨cur,r1,r2,r3,r4,r5,r6,r7⟩:=q1 b cap hθ
   have hcell:∀ j,j<n*sz->w.cell? ⟨b,j,none⟩=some (cur.getD j undef):=λj hj=>by
    have:n*sz<=cap*sz:=Em _ r2;rw[Py w b j cur e (0,0) r1];exact Nk (by omega)
   refine .slice _ n cap sz g (λj=>cur.getD j undef) hcap hmax (λ_=>⟨⟨b,0,none⟩,rfl,rfl,λj hj=>.inr ⟨⟨cap,hθ⟩,by simpa using hj⟩,λj hj=>by simpa using hcell j hj⟩) (by simp) (λj hj=>?_) (λi hi=>?_) (λi k hi hk=>?_)
   ·have hs:0<sz:=by
     rcases zzL68 sz with h0|h0
     ·rw[h0]at hj;omega
     ·exact h0
    have e2:j / sz*sz+j % sz=j:=by rw[CO];exact IZ j sz
    have:=(r6 (j / sz) (j % sz) (by rw[TH hs];exact hj) (Nat.mod_lt _ hs)).1;rwa[e2]at this
   ·rw[<- hf i hi,Bg];exact r5 i hi
   ·rw[<- hf i hi,E5];exact((r6 i k hi hk).2.strip).mono hII (λ_ _ _=>rfl)
 have hkey2:∀ v l h,Rep I st.sto.own θ w v (.vsub nm n l h)->RepV I' w v (.slice sz (h-l) (λi=>g (l+i)) .none):=λv l h hs=>by
  obtain⟨sz',e',m,f2,ad,cap,hval,ho',hmm,hlo,hhi,hcap,hmax,hnn,hvv⟩:=hs.vsub_inv;have ho'':st.sto.own nm=some (.arr sz' e' m f2):=ho';rw[ho]at ho'';simp only[Aj,Own.arr.injEq]at ho'';obtain⟨rfl,rfl,rfl,rfl⟩:=ho'';have hvv:=hvv rfl;rw[hval]
  by_cases hlt:l<h
  ·obtain⟨b,c,hθ,rfl⟩:=hvv.1 hlt;obtain⟨cur,r1,r2,r3,r4,r5,r6,r7⟩:=q1 b c hθ
   have hmul:∀ j,j<(h-l)*sz->l*sz+j<n*sz:=λj hj=>by
    have:(l+(h-l))*sz<=n*sz:=Em _ (by omega);rw[E8]at this;omega
   have hcell:∀ j,j<n*sz->w.cell? ⟨b,j,none⟩=some (cur.getD j undef):=λj hj=>by
    have:n*sz<=c*sz:=Em _ r2;rw[Py w b j cur e (0,0) r1];exact Nk (by omega)
   refine .slice _ (h-l) cap sz _ (λj=>cur.getD (l*sz+j) undef) hcap hmax (λ_=>⟨⟨b,l*sz,none⟩,rfl,rfl,λj hj=>.inr ⟨⟨c,hθ⟩,hmul j hj⟩,λj hj=>hcell _ (hmul j hj)⟩) (by simp) (λj hj=>?_) (λi hi=>?_) (λi k hi hk=>?_)
   ·have hs:0<sz:=by
     rcases zzL68 sz with h0|h0
     ·rw[h0]at hj;omega
     ·exact h0
    have e2:l*sz+j=(l+j / sz)*sz+j % sz:=by
     rw[E8,Ut]
     congr 1
     rw[CO];exact(IZ j sz).symm
    have e3:j / sz<h-l:=by rw[TH hs];exact hj
    have:=(r6 (l+j / sz) (j % sz) (by omega) (Nat.mod_lt _ hs)).1;rwa[<- e2]at this
   ·rw[<- hf (l+i) (by omega),Bg];exact r5 (l+i) (by omega)
   ·rw[<- hf (l+i) (by omega),E5,<- Ut,<- E8];exact((r6 (l+i) k (by omega) hk).2.strip).mono hII (λ_ _ _=>rfl)
  ·have h0:h-l=0:=by omega
   rw[h0];exact .slice ad 0 cap sz _ (λ_=>undef) (by omega) hmax (λh=>by omega) hnn (λj hj=>by omega) (λi hi=>by omega) (λi c hi=>by omega)
 have hlt':∀ b i,Nat.beq (Sx b i) nm=false:=λb i=>by cases hb:Nat.beq (Sx b i) nm with|false=>rfl|true=>exact absurd (Cq hb) (by rintro rfl;exact Rl b i hlt)
 have hcast:∀ v x,Rep I st.sto.own θ w v x->(∀ p∈x.wholes nm n,p)->Rep I' (st.freeze nm sz n e g).sto.own θ w v (x.frz nm sz n g):=λv x hx hp=>hx.frz hp hII hkeep hkey hkey2 hlt'
 have hfar:∀ k b c,k≠nm->st.sto.own k≠none->θ k=some (b,c)->∀ j,I' b j->I b j:=λk b c hk hk' hg j hj=>by
  rcases hj with hj|⟨⟨c',hc'⟩,_⟩
  ·exact hj
  ·exact(hk (hrel.inj k nm b c c' hk' (by simp[ho]) hg hc')).elim
 have hcast2:∀ v x,Rep I st.sto.own θ w v x->Rep I' (st.freeze nm sz n e g).sto.own θ w v (x.frw nm sz n g):=λv x hx=>by
  have key:∀{v:Value} {x:AV},Rep I st.sto.own θ w v x->Rep I' (st.freeze nm sz n e g).sto.own θ w v (x.frw nm sz n g):=by
   intro v x h
   induction h with
   | val v x h=>exact .val _ _ ((h.frw nm sz n g).mono hII (λ_ _ _=>rfl))
   | exact a n sz f h=>exact .exact a n sz f (h.mono hII (λ_ _ _=>rfl))
   | own k sz e m a n cap f hn hm hv h=>
    simp only[AV.frw,Zn]
    cases hb:Nat.beq k nm with
    | true=>exact .val _ _ (h.mono hII (λ_ _ _=>rfl))
    | false=>exact .own k sz e m a n cap f (hkeep k _ hn hb) hm hv (h.mono hII (λ_ _ _=>rfl))
   | fam b i sz e m a n cap f hi hn hm hv h=>
    simp only[AV.frw,Zn]
    cases hb:Nat.beq b nm with
    | true=>exact .val _ _ (h.mono hII (λ_ _ _=>rfl))
    | false=>exact .fam b i sz e m a n cap f hi (hkeep _ _ hn (hlt' b i)) hm hv (h.mono hII (λ_ _ _=>rfl))
   | ptr k off e0 cells g c hn hg=>
    simp only[AV.frw,Zn]
    cases hb:Nat.beq k nm with
    | true=>exact .val _ _ (.any _)
    | false=>exact .ptr k off e0 _ g c (hkeep k _ hn hb) hg
   | vsl k s2 e m f a j cap hn hm hcap hmax hnn hv=>
    simp only[AV.frw,Zn]
    cases hb:Nat.beq k nm with
    | true=>
     simp only[E7,An]
     cases hj:Nat.beq j n with
     | false=>exact .val _ _ (.any _)
     | true=>
      obtain rfl:=Cq hb;obtain rfl:=Cq hj;exact .val _ _ (hkey _ (.vsl k s2 e m f a j cap hn hm hcap hmax hnn hv)).slice_val
    | false=>exact .vsl k s2 e m _ a j cap (hkeep k _ hn hb) hm hcap hmax hnn hv
   | vpt k s2 e m f j i c ad hn hm hi hv=>
    simp only[AV.frw,Zn]
    cases hb:Nat.beq k nm with
    | true=>exact .val _ _ (.any _)
    | false=>exact .vpt k s2 e m _ j i c ad (hkeep k _ hn hb) hm hi hv
   | clo f fs cs xs ys hl hl' _ _ ih ih'=>exact .clo f fs cs _ _ (by rw[Dv,hl]) (by rw[Dv,hl']) (λj hj=>by rw[Si];exact ih j (by rwa[Dv]at hj)) (λj hj=>by rw[Si];exact ih' j (by rwa[Dv]at hj))
   | vsub k s2 e m f j lo hi a cap hn hm hlo hhi hcap hmax hnn hv=>
    simp only[AV.frw,Zn]
    cases hb:Nat.beq k nm with
    | true=>exact .val _ _ (.any _)
    | false=>exact .vsub k s2 e m _ j lo hi a cap (hkeep k _ hn hb) hm hlo hhi hcap hmax hnn hv
   | optr k mm x g c hn hg=>
    simp only[AV.frw,Zn]
    cases hb:Nat.beq k nm with
    | true=>exact .val _ _ (.any _)
    | false=>exact .optr k _ _ g c (hkeep k _ hn hb) hg
   | omap k x hn=>
    simp only[AV.frw,Zn]
    cases hb:Nat.beq k nm with
    | true=>exact .val _ _ (.any _)
    | false=>exact .omap k _ (hkeep k _ hn hb)
   | cond v c x _ h' ih=>exact .cond v c _ ih h'
   | agg vs cs hl h1 _ ih=>exact .agg vs _ (by rw[Dv,hl]) (λj hj=>h1 j (by rwa[Dv]at hj)) (λj hj=>by rw[Si];exact ih j (by rwa[Dv]at hj))
   | rpo a cells us hs hI' hc h1 _ ih=>exact .rpo a _ us hs (λj hj=>.inl (hI' j (by rwa[Dv]at hj))) (λj hj=>hc j (by rwa[Dv]at hj)) (λj hj=>h1 j (by rwa[Dv]at hj)) (λj hj=>by rw[Si];exact ih j (by rwa[Dv]at hj))
   | tuple vs cs hl _ ih=>exact .tuple vs _ (by rw[Dv,hl]) (λj hj=>by rw[Si];exact ih j (by rwa[Dv]at hj))
  exact key hx
 refine⟨I',θ,h.size,h.defers,λt=>?_,?_⟩
 ·have hslot:(st.freeze nm sz n e g).sto.tmp t=match Ag st.tmps t with|some x=>x.frz nm sz n g|none=>.any:=by
   show(match Ag (st.tmps.map λx=>(x.1,x.2.frz nm sz n g)) t with|some x=>x|none=>.any)=_
   rw[XD st.tmps (λ_ x=>x.frz nm sz n g) t]
   cases Ag st.tmps t<;>rfl
  rw[hslot];have hs:=h.slots t
  have hget:st.sto.tmp t=match Ag st.tmps t with|some x=>x|none=>.any:=rfl
  cases hl:Ag st.tmps t with
  | none=>exact .val _ _ (.any _)
  | some x=>
   rw[hget,hl]at hs;exact hcast _ _ hs (λp hp=>hall p (zzL18.2 (.inl (yk (g:=λx=>x.wholes nm n) hl hp))))
 ·refine{ h.chg with imm:=λb o hi=>.inl (h.chg.imm b o hi),le:=λk o hk=>?_,rel:=⟨λk e0 cells hk=>?_,λk s2 e2 m hk b c hg=>?_,λk k' b c c' hk hk'=>?_,λk s2 e2 m f2 hk=>?_,λk x hk=>?_,λk s2 m hk hnn=>?_⟩,valid:=λb o hi=>?_,new:=λk b c hk hg=>?_,immNew:=λb o hi=>?_ }
  ·obtain⟨o',ho',hl⟩:=h.chg.le k o hk
   have hkn:k≠nm:=by rintro rfl;rw[h0]at hk;cases hk
   have hkb:Nat.beq k nm=false:=by cases hb:Nat.beq k nm with|false=>rfl|true=>exact absurd (Cq hb) hkn
   refine⟨_,hkeep k o' ho' hkb,?_⟩
   cases o<;>cases o'<;>first|exact hl|exact hl.elim
  rotate_left 4
  ·have hkn:k≠nm:=by rintro rfl;rw[hnm]at hk;cases hk
   obtain⟨o,h1,h2⟩:=hback k hkn _ hk
   cases o with
   | row=>simp[Own.frz]at h2
   | tok=>simp[Own.frz]at h2
   | arr=>simp[Own.frz]at h2
   | obj x'=>
    simp only[Own.frz,Own.obj.injEq]at h2;subst h2;exact L9 (hrel.obj k _ h1) rfl (λ_ _ _=>rfl) (λb c j hg hj=>hfar k b c hkn (by simp[h1]) hg j hj) (λ_ hh=>hh.on _ hII (λ_ _ _=>rfl) λv y hv=>hcast2 _ _ hv) RU
  ·by_cases hkn:k=nm
   ·subst hkn;rw[hnm]at hk;simp only[Aj,Own.tok.injEq]at hk;obtain⟨rfl,_,rfl⟩:=hk;exact q0 hnn
   ·obtain⟨o,h1,h2⟩:=hback k hkn _ hk
    cases o with
    | row=>simp[Own.frz]at h2
    | arr=>simp[Own.frz]at h2
    | obj=>simp[Own.frz]at h2
    | tok=>
     simp only[Own.frz,Own.tok.injEq]at h2;obtain⟨rfl,rfl,rfl⟩:=h2;exact hrel.tok8 k _ _ h1 hnn
  rotate_left 3
  ·have hkn:k≠nm:=by rintro rfl;rw[hnm]at hk;cases hk
   obtain⟨o,h1,h2⟩:=hback k hkn _ hk
   cases o with
   | tok=>simp[Own.frz]at h2
   | arr=>simp[Own.frz]at h2
   | obj=>simp[Own.frz]at h2
   | row e' cs=>
    simp only[Own.frz,Own.row.injEq]at h2;obtain⟨rfl,rfl⟩:=h2;obtain⟨b,c,vs,r1,r2,r3,r4,r5,r6⟩:=hrel.row k _ cs h1;refine⟨b,c,vs,r1,r2,by rw[C4];exact r3,λj hj=>r4 j (by rwa[C4]at hj),λj hj=>?_,λj hj=>r6 j (hfar k b c hkn (by simp[h1]) r1 j hj)⟩;rw[Sj];refine hcast _ _ (r5 j (by rwa[C4]at hj)) (Pv (λp hp=>hall p (zzL18.2 (.inr (yk (g:=λx=>x.wholes nm n) (cx h1 (λ_ _ _ h=>by cases h)) (by simpa [Own.wholes] using hp))))) j)
  ·by_cases hkn:k=nm
   ·subst hkn;rw[hnm]at hk;simp only[Aj,Own.tok.injEq]at hk;obtain⟨rfl,rfl,rfl⟩:=hk;obtain⟨cur,r1,r2,r3,r4,r5,r6,r7⟩:=q1 b c hg;refine⟨cur,0,r1,r2,r3,r4,Rh _,λj hj=>?_⟩;rcases hj with hj|⟨_,hj⟩
    ·exact(r7 j hj).elim
    ·exact hj
   ·obtain⟨o,h1,h2⟩:=hback k hkn _ hk
    cases o with
    | row=>simp[Own.frz]at h2
    | arr=>simp[Own.frz]at h2
    | obj=>simp[Own.frz]at h2
    | tok=>
     simp only[Own.frz,Own.tok.injEq]at h2;obtain⟨rfl,rfl,rfl⟩:=h2;obtain⟨cur,fz,r1,r2,r3,r4,r5',r5⟩:=hrel.tok k _ _ _ h1 b c hg;exact⟨cur,fz,r1,r2,r3,r4,r5',λj hj=>r5 j (hfar k b c hkn (by simp[h1]) hg j hj)⟩
  ·exact hrel.inj k k' b c c' (hnone k hk) (hnone k' hk')
  ·have hkn:k≠nm:=by rintro rfl;rw[hnm]at hk;cases hk
   obtain⟨o,h1,h2⟩:=hback k hkn _ hk
   cases o with
   | row=>simp[Own.frz]at h2
   | tok=>simp[Own.frz]at h2
   | obj=>simp[Own.frz]at h2
   | arr s3 e3 m3 f3=>
    simp only[Own.frz,Own.arr.injEq]at h2;obtain⟨rfl,rfl,rfl,rfl⟩:=h2;exact P8 (hrel.arr k _ _ _ _ h1) rfl (λ_ _ _=>rfl) (λb c j hg hj=>hfar k b c hkn (by simp[h1]) hg j hj) (λi _=>Dv _ _ _ _ _) (λv i j _ _ hv=>by rw[Si];exact hcast2 _ _ hv)
  ·rcases hi with hi|⟨⟨c,hc⟩,hj⟩
   ·exact h.chg.valid b o hi
   ·obtain⟨cur,r1,r2,r3,r4,r5,r6,r7⟩:=q1 b c hc;have:n*sz<=c*sz:=Em _ r2;exact⟨cur.getD o undef,by rw[Py w b o cur e (0,0) r1];exact Nk (by omega)⟩
  ·exact h.chg.new k b c (hnone k hk) hg
  ·rcases hi with hi|⟨⟨c,hc⟩,_⟩
   ·exact h.chg.immNew b o hi
   ·exact .inr (h.chg.new nm b c (by simp[ho]) hc)
end
section
variable {α:Type} {e:α->List AV} {d:α}
theorem Kz{f:Nat->List AV}{l:List α}{i j:Nat}{cs:List AV}{x:α}(hf:∀ k,k<l.length->f k=e (l.getD k d))(hi:i<l.length)(hx:(e (l.getD i d)).take j++cs++(e (l.getD i d)).drop (j+cs.length)=e x) :
  ∀ k,k<(l.set i x).length->Eb f i j cs k=e ((l.set i x).getD k d):=by
 intro k hk;rw[G9]at hk
 by_cases h:k=i
 ·subst h;rw[T4,hf k hk,hx];simp[ hk]
 ·rw[Wy f cs h,hf k hk];simp[ Ol h]
def fq{α:Type}(l:List α)(lo k:Nat)(s:Nat->α):List α:=l.mapIdx λi x=>if lo<=i/\i<lo+k then s (i-lo) else x
theorem Jm(l:List α)(lo k:Nat)(s:Nat->α):l.length=(fq l lo k s).length:=by simp[fq]
theorem QA(l:List α)(lo k:Nat)(s:Nat->α)(i:Nat)(d:α)(h:i<l.length):(fq l lo k s).getD i d=if lo<=i/\i<lo+k then s (i-lo) else l.getD i d:=by
 simp[fq, h]
theorem OR{f g:Nat->List AV}{l:List α}{s:Nat->α}{lo k:Nat}(hf:∀ i,i<l.length->f i=e (l.getD i d))(hg:∀ i,i<k->g i=e (s i)):∀ i,i<(fq l lo k s).length->cq f lo k g i=e ((fq l lo k s).getD i d):=by
 intro i hi;rw[<- Jm]at hi;rw[QA _ _ _ _ _ _ hi]
 by_cases h:lo<=i/\i<lo+k
 ·rw[fp f g h,if_pos h,hg _ (by omega)]
 ·rw[HD f g h,if_neg h,hf i hi]
theorem Mg(keep:Nat->Bool)(l m:List AV):AV.eraseAll keep (l++m)=AV.eraseAll keep l++AV.eraseAll keep m:=by induction l with|nil=>rfl|cons x l ih=>simp[AV.eraseAll,ih]
theorem VE(keep:Nat->Bool)(l:List AV)(n:Nat):AV.eraseAll keep (l.take n)=(AV.eraseAll keep l).take n:=by
 induction l generalizing n with
 | nil=>simp[AV.eraseAll]
 | cons x l ih=>cases n with
  | zero=>simp[AV.eraseAll]
  | succ n=>simp[AV.eraseAll,ih]
theorem EG(keep:Nat->Bool)(l:List AV)(n:Nat):AV.eraseAll keep (l.drop n)=(AV.eraseAll keep l).drop n:=by
 induction l generalizing n with
 | nil=>simp[AV.eraseAll]
 | cons x l ih=>cases n with
  | zero=>simp
  | succ n=>simpa [AV.eraseAll] using ih n
theorem GZ{f f':Nat->List AV}{l m:List α}(hf:∀ k,k<l.length->f k=e (l.getD k d))(hf':∀ k,k<m.length->f' k=e (m.getD k d)):∀ k,k<(l++m).length->Ov l.length f f' k=e ((l++m).getD k d):=by
 intro k hk;rw[Gk]at hk;rw[<- jC (e:=e)  l m k hk]
 by_cases h:k<l.length
 ·rw[P7 _ _ h,P7 _ _ h,hf k h]
 ·rw[U0 _ _ (by omega),U0 _ _ (by omega),hf' _ (by omega)]
theorem Tn{z:List AV}(h:AVleL z (e d))(n:Nat):∀ k,k<(List.replicate n d).length->AVleL z (e ((List.replicate n d).getD k d)):=λk hk=>by
 grind
theorem Cm{f g:Nat->List AV}{n m:Nat}(hn:n=m)(h:∀ k,k<m->f k=g k):∀ k,k<n->AVleL (f k) (g k):=λk hk=>by rw[h k (by omega)];exact .refl _
end
section
variable {α:Type} {e:α->List AV} {d:α}
end
noncomputable instance (n:Nat)(f:Nat->List AV):Decidable (mi n f):=Classical.propDecidable _
theorem nl{a b:Nat}(h:Nat.ble a b=true):a<=b:=K1 h
theorem gT{c:Bool}(h:c=true):(c==true)=true:=by rw[h];rfl
theorem gF{c:Bool}(h:c=false):(c==false)=true:=by rw[h];rfl
theorem aT{g c:Bool}(hg:g=true)(h:c=true):(g&&(c==true))=true:=by rw[hg,h];rfl
theorem aF{g c:Bool}(hg:g=true)(h:c=false):(g&&(c==false))=true:=by rw[hg,h];rfl
theorem M8{α:Type}{i:Int}{l:List α}(h:A5 i l.length):i.toNat<l.length:=by unfold A5 at h;omega
theorem sx{α:Type}{i:Int}{l:List α}{a:Nat}{x:α}(h:A5 i l.length):i.toNat<(l.set a x).length:=by rw[G9];exact M8 h
theorem Tt{α:Type}{d:α}{n k:Nat}(h:k<n):k<(List.replicate n d).length:=by grind
def Fx{α:Type}(N:Nat)(d:α)(l:List α)(i:Nat)(x:α):List α:=(List.range N).map λj=>bif Nat.beq j i then x else l.getD j d
theorem Lw{α:Type}{N:Nat}{d:α}{l:List α}{i:Nat}{x:α}{k:Nat}(hk:k<N):(Fx N d l i x).getD k d=bif Nat.beq k i then x else l.getD k d:=by
 unfold Fx;rw[List.getD,TD,List.getElem?_range hk]
 rfl
theorem Wz{α:Type}{e:α->List AV}{d:α}{f:Nat->List AV}{l:List α}{N i j:Nat}{cs:List AV}{x:α}(hf:∀ k,k<N->f k=e (l.getD k d))(hi:i<N)(hx:(e (l.getD i d)).take j++cs++(e (l.getD i d)).drop (j+cs.length)=e x) :
  ∀ k,k<N->Eb f i j cs k=e ((Fx N d l i x).getD k d):=by
 intro k hk;rw[Lw hk];unfold Eb
 cases hb:Nat.beq k i with
 | true=>
  grind
 | false=>grind
theorem Hd{i:Int}{N:Nat}(h:A5 i N):i.toNat<N:=by unfold A5 at h;omega
theorem dA{α:Type}(z:List α)(sz:Nat)(hz:z.length=sz):∀(N k:Nat),k<N->(((List.replicate N z).flatten).drop (k*sz)).take sz=z
 | 0,k,h=>by omega
 | N+1,0,h=>by
  grind
 | N+1,k+1,h=>by
  rw[List.replicate_succ,List.flatten_cons,show(k+1)*sz=z.length+k*sz by grind,List.drop_append,List.drop_eq_nil_of_le (by omega), Nat.add_sub_cancel_left];exact dA z sz hz N k (by omega)
end
end Go.Proofs.YtjpnobeadcdnoaaGreat
