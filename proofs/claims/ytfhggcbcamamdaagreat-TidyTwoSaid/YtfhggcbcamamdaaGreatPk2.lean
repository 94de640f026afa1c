/-
  The machine, the program's functions and the laws' arithmetic: part 2 of 6.
-/
import Derived.Test.YtfhggcbcamamdaaGreatPk1
import Derived.Laws.IdiomRangeMap
import Derived.Orders
set_option linter.unusedSectionVars false
set_option linter.unusedVariables false
set_option linter.unusedSimpArgs false
namespace Go.Proofs.YtfhggcbcamamdaaGreat
noncomputable section
open Go Go.RowKit
section
variable {P:Program} {Γ:H6} {σ:Sto} {I:Nat->Nat->Prop} {θ:Nat->Option (Nat×Nat)} {a:Act} {w:World} {o:Oper}
theorem T0{t:TypeId}{k:IntKind}{e:TypeId}(h:QT P t=some (k,e)):∃ kt,P.underlying t=some (.map kt e)/\P.underlying kt=some (.int k):=by
 grind [QT]
def cL(I:Nat->Nat->Prop)(w:World)(v:Value)(x:AV):Prop:=RepV I w v x/\x.strip=x
def GH(R:Value->AV->Prop)(k:IntKind):Nat->List MapEntry->List (Int×AV)->Prop
 | _,[],[]=>True
 | n,e::es,(i,x)::l=>e.key = .int k i/\e.born=n/\R e.val x/\GH R k (n+1) es l
 | _,_,_=>False
theorem OH{R:Value->AV->Prop}{k:IntKind}:∀(l:List (Int×AV)) (es:List MapEntry) (n:Nat),es.length=l.length->
  (∀ i,i<l.length->∃ v,es[i]?=some { key:=.int k (l.getD i (0,.any)).1,val:=v,born:=n+i }/\R v (l.getD i (0,.any)).2)->GH R k n es l
 | [],[],n,_,_=>trivial
 | [],_::_,n,h,_=>by simp at h
 | _::_,[],n,h,_=>by simp at h
 | (i,x)::l,e::es,n,h,hr=>by
  obtain⟨v,h1,h2⟩:=hr 0 (by simp);simp at h1 h2;subst h1;refine⟨rfl,rfl,h2,OH l es _ (by grind) λj hj=>?_⟩;obtain⟨v',h3,h4⟩:=hr (j+1) (by grind)
  grind
theorem HT{R:Value->AV->Prop}{k:IntKind}:∀(l:List (Int×AV)) (es:List MapEntry) (n:Nat),GH R k n es l->es.length=l.length /\
  ∀ i,i<l.length->∃ v,es[i]?=some { key:=.int k (l.getD i (0,.any)).1,val:=v,born:=n+i }/\R v (l.getD i (0,.any)).2
 | [],[],n,_=>⟨rfl,λi hi=>absurd hi (Xa _)⟩
 | [],_::_,n,h=>h.elim
 | _::_,[],n,h=>h.elim
 | (i,x)::l,e::es,n,h=>by
  obtain⟨h1,h2,h3,h4⟩:=h;obtain⟨h5,h6⟩:=HT l es _ h4;refine⟨by simp[h5],λj hj=>?_⟩
  cases j with
  | zero=>exact⟨e.val,by cases e;simp_all,by grind⟩
  | succ j=>
   grind
theorem pt{own:Nat->Option Own}{es:Array MapEntry}{nn:Bool}{k:IntKind}{l:List (Int×AV)}{n:Nat}(h:ObjR I own θ w (.map es n) (.map nn k l)):n=l.length/\GH (cL I w) k 0 es.toList l:=by
 cases h with
 | map es nn k l hs hr=>exact⟨rfl,OH l _ 0 (by grind) λi hi=>by obtain⟨v,h1,h2⟩:=hr i hi;exact⟨v,by grind,h2⟩⟩
theorem HQ{own:Nat->Option Own}{es:Array MapEntry}{k:IntKind}{l:List (Int×AV)}(nn:Bool)(h:GH (cL I w) k 0 es.toList l):ObjR I own θ w (.map es l.length) (.map nn k l):=by
 obtain⟨h1,h2⟩:=HT l _ 0 h
 exact .map es nn k l (by grind) λi hi=>by obtain⟨v,h3,h4⟩:=h2 i hi;exact⟨v,by grind,h4⟩
theorem findNow_ents{R:Value->AV->Prop}{k:IntKind}{key:Int}{z:AV}{zv:Value}(hz:R zv z):∀(l:List (Int×AV)) (es:List MapEntry) (n m:Nat),GH R k n es l->
  (D9 l key=true/\∃ i v,Instr.findNow (.int k) (.int k key) es m=some (some (m+i,v))/\i<es.length/\R v (Fu z l key))\/(D9 l key=false/\Instr.findNow (.int k) (.int k key) es m=some none/\Fu z l key=z)
 | [],[],n,m,_=>.inr ⟨rfl,rfl,rfl⟩
 | [],_::_,n,m,h=>h.elim
 | _::_,[],n,m,h=>h.elim
 | (i,x)::l,e::es,n,m,h=>by
  obtain⟨h1,h2,h3,h4⟩:=h
  have hs:Instr.sameNow (.int k) (.int k key) e.key=some (key==i):=by rw[h1];simp[Instr.sameNow]
  by_cases hk:key=i
  ·subst hk;refine .inl ⟨by simp[D9],0,e.val,by simp[Instr.findNow,hs],by simp,?_⟩
   grind [Fu]
  ·rcases findNow_ents (key:=key) hz l es _ (m+1) h4 with⟨g1,j,v,g2,g3,g4⟩|⟨g1,g2,g3⟩
   ·refine .inl ⟨by grind [D9],j+1,v,?_,by grind,?_⟩
    ·grind [Instr.findNow]
    grind [Fu]
   grind [Fu,Instr.findNow,D9]
theorem ents_put{R:Value->AV->Prop}{k:IntKind}{key:Int}{x:AV}{v:Value}(hv:R v x):∀(l:List (Int×AV)) (es:List MapEntry) (n m:Nat),GH R k n es l->
  (D9 l key=true/\(Jq l key x).length=l.length/\∃ i u,Instr.findNow (.int k) (.int k key) es m=some (some (m+i,u))/\(∃ b,es[i]?=some b/\b.key = .int k key)/\GH R k n (es.modify i λe=>{ e with key:=.int k key,val:=v }) (Jq l key x)) \/
  (D9 l key=false/\(Jq l key x).length=l.length+1/\Instr.findNow (.int k) (.int k key) es m=some none/\GH R k n (es++[{ key:=.int k key,val:=v,born:=n+l.length }]) (Jq l key x))
 | [],[],n,m,_=>.inr ⟨rfl,rfl,rfl,⟨rfl,rfl,hv,trivial⟩⟩
 | [],_::_,n,m,h=>h.elim
 | _::_,[],n,m,h=>h.elim
 | (i,y)::l,e::es,n,m,h=>by
  obtain⟨h1,h2,h3,h4⟩:=h
  have hs:Instr.sameNow (.int k) (.int k key) e.key=some (key==i):=by rw[h1];simp[Instr.sameNow]
  by_cases hk:key=i
  ·subst hk
   have hb:(key==key)=true:=by simp
   refine .inl ⟨by simp[D9],by simp[Jq],0,e.val,by simp[Instr.findNow,hs],⟨e,by simp,h1⟩,?_⟩;simp only[Jq,hb,Ah]
   trivial
  ·have hb :=zzL30.2 hk;rcases ents_put (key:=key) hv l es _ (m+1) h4 with⟨g1,gl,j,u,g2,g3,g4⟩|⟨g1,gl,g2,g4⟩
   ·refine .inl ⟨by grind [D9],by grind [Jq],j+1,u,?_,by grind,?_⟩
    ·grind [Instr.findNow]
    ·simp only[Jq,hb,Aw]
     trivial
   ·refine .inr ⟨by grind [D9],by grind [Jq],by grind [Instr.findNow],?_⟩;simp only[Jq,hb,  EW]
    have e1:n+(l.length+1)=n+1+l.length:=by omega
    rw[e1]
    trivial
theorem cw{R:Value->AV->Prop}{k:IntKind}{l:List (Int×AV)}{es:List MapEntry}{n:Nat}(h:GH R k n es l):es.length=l.length:=(HT l es n h).1
theorem Q7{b:Bool}{kt:TypeId}{k:IntKind}{key:Int}(hk:P.underlying kt=some (.int k)):(Instr.checkKey b 10000 kt (.int k key)).run P w = .ok () w:=by
 have h:∀ n ,(Instr.checkKey b (n+1) kt (.int k key)).run P w = .ok () w:=λn=>by simp[Instr.checkKey,Cb hk]
 grind
theorem Ry{g:Nat}{es:Array MapEntry}{n:Nat}(h:w.heap[g]?=some (.map es n)):(getObj g).run P w = .ok (.map es n) w:=by simp[getObj,Sem.run,h]
theorem Si{kt:TypeId}{k:IntKind}{key:Int}(hk:P.underlying kt=some (.int k)){es:List MapEntry}{r:Option (Nat×Value)}(hf:Instr.findNow (.int k) (.int k key) es 0=some r):(Instr.findKey kt (.int k key) es).run P w = .ok r w:=by
 simp[Instr.findKey,Cb hk,hf]
theorem N7{t kt e0:TypeId}{k:IntKind}{i:Int}{ok:Bool}{g:Nat}{es:Array MapEntry}{n:Nat}{r:Option (Nat×Value)}{zv:Value}(hm:P.underlying t=some (.map kt e0))(hkt:P.underlying kt=some (.int k))(hz:(zeroValue e0).run P w = .ok zv w)
  (h2:w.heap[g]?=some (.map es n)) (hf:Instr.findNow (.int k) (.int k i) es.toList 0=some r) :
  (Instr.lookup t (.map (some g)) (.int k i) ok).run P w = .ok (if ok then .tuple #[match r with|some (_,v)=>v|none=>zv,.bool r.isSome] else match r with|some (_,v)=>v|none=>zv) w:=by
 cases r with
 | none=>cases ok<;>simp[Instr.lookup,Cb hm,Ry h2,Q7 hkt,Si hkt hf,hz]
 | some r=>cases ok<;>simp[Instr.lookup,Cb hm,Ry h2,Q7 hkt,Si hkt hf]
theorem BW{t kt e0:TypeId}{k:IntKind}{i:Int}{ok:Bool}{zv:Value}(hm:P.underlying t=some (.map kt e0))(hkt:P.underlying kt=some (.int k))(hz:(zeroValue e0).run P w = .ok zv w) :
  (Instr.lookup t (.map none) (.int k i) ok).run P w = .ok (if ok then .tuple #[zv,.bool false] else zv) w:=by
 have hf:Instr.findNow (.int k) (.int k i) [] 0=some _:=rfl
 simp_all [Instr.lookup,Si,Q7,Cb]
theorem tc{k:IntKind}{i:Int}:(Instr.keyThatStays (.int k i) (.int k i)).run P w = .ok (.int k i) w:=by
 simp[Instr.keyThatStays,Instr.sameBits]
theorem BX{t kt e0:TypeId}{k:IntKind}{i:Int}{g:Nat}{es:Array MapEntry}{n:Nat}{v:Value}(hm:P.underlying t=some (.map kt e0))(hkt:P.underlying kt=some (.int k))
  (h2:w.heap[g]?=some (.map es n)) (hf:Instr.findNow (.int k) (.int k i) es.toList 0=some none) :
  (Instr.mapUpdate t (.map (some g)) (.int k i) v).run P w = .ok () (FO w g (.map (es.push { key:=.int k i,val:=v,born:=n }) (n+1))):=by
 simp[Instr.mapUpdate,Cb hm,Ry h2,Q7 hkt,Si hkt hf];simp[setObj,Sem.run,FO,h2]
theorem SI{t kt e0:TypeId}{k:IntKind}{i:Int}{g j:Nat}{es:Array MapEntry}{n:Nat}{v u:Value}(hm:P.underlying t=some (.map kt e0))(hkt:P.underlying kt=some (.int k))
  (h2:w.heap[g]?=some (.map es n)) (hf:Instr.findNow (.int k) (.int k i) es.toList 0=some (some (j,u))) {b:MapEntry} (hb:es[j]?=some b) (hbk:b.key = .int k i) :
  (Instr.mapUpdate t (.map (some g)) (.int k i) v).run P w = .ok () (FO w g (.map (es.modify j λe=>{ e with key:=.int k i,val:=v }) n)):=by
 simp[Instr.mapUpdate,Cb hm,Ry h2,Q7 hkt,Si hkt hf,hb,hbk,tc];simp[setObj,Sem.run,FO,h2]
theorem MG{t kt e0 ty:TypeId}{g:Nat}{es:Array MapEntry}{n:Nat}(hm:P.underlying t=some (.map kt e0))(h2:w.heap[g]?=some (.map es n)) :
  (Builtin.len_ #[t] ty #[.map (some g)]).run P w = .ok (goInt es.size) w:=by
 simp[Builtin.len_,Cb hm,Ry h2]
theorem MH{t kt e0 ty:TypeId}(hm:P.underlying t=some (.map kt e0)) :
  (Builtin.len_ #[t] ty #[.map none]).run P w = .ok (goInt 0) w:=by
 simp[Builtin.len_,Cb hm]
theorem KM{P:Program}{t:TypeId}{z:AV}(h:YT P t=some z):∃ i v,P.info? t=some i/\i.zero=some v/\z=(AV.ofValue v).strip:=by
 unfold YT at h
 cases hi:P.info? t with
 | none=>grind
 | some i=>
  cases hz:i.zero with
  | none=>grind
  | some v=>grind
theorem map_at(h:Rel Γ σ I θ a w){nm:Nat}{nn:Bool}{k:IntKind}{l:List (Int×AV)}(hown:σ.own nm=some (.obj (.map nn k l))) :
  (∃ g c es,θ nm=some (g,c)/\w.heap[g]?=some (.map es l.length)/\GH (cL I w) k 0 es.toList l)\/(θ nm=none/\nn=false/\l=[]):=by
 rcases h.chg.rel.obj nm _ hown with⟨g,c,ob,h1,h2,h3,_⟩|⟨h1,h2⟩
 ·cases ob with
  | map es n=>obtain⟨rfl,he⟩:=pt h3;grind
  | _=>cases h3
 ·cases nn<;>cases l<;>first|grind|cases h2
theorem JQ{V:Type}(k:Int):∀ l:List (Int×V),D9 l k=l.any λq=>k==q.1
 | []=>rfl
 | (a,b)::l=>by rw[List.any_cons,<- JQ k l];rfl
theorem JR{V:Type}{a b:List (Int×V)}(h:a.Perm b){k:Int}:D9 a k=D9 b k:=by
 grind [JQ]
theorem dX{V:Type}{z v:V}{k:Int}:∀{l:List (Int×V)},(l.map (·.1)).Nodup->(k,v)∈l->Fu z l k=v
 | [],_,h=>by cases h
 | (a,b)::l,hn,h=>by
  simp only[Cq,zzL112]at hn;simp only[Fu];rcases zzL34.1 h with h'|h'
  ·grind
  ·have:(k==a)=false:=by
    grind
   rw[this];exact dX hn.2 h'
theorem XN{V:Type}{z:V}{k:Int}:∀{l:List (Int×V)},D9 l k=false->Fu z l k=z
 | [],_=>rfl
 | (a,b)::l,h=>by
  simp only[D9,KN]at h;simp only[Fu,h.1];exact XN h.2
theorem XO{V:Type}{a b:List (Int×V)}(h:a.Perm b)(hn:(b.map (·.1)).Nodup){z:V}{k:Int}:Fu z a k=Fu z b k:=by
 grind [dX,JQ,XN,JR,D9,List.any_eq_true]
theorem pmap_at(h:Rel Γ σ I θ a w){nm:Nat}{nn:Bool}{k:IntKind}{l:List (Int×AV)}(hown:σ.own nm=some (.obj (.pmap nn k l))) :
  (∃ g c es l0,θ nm=some (g,c)/\w.heap[g]?=some (.map es l0.length)/\GH (cL I w) k 0 es.toList l0/\l0.Perm l/\(l.map (·.1)).Nodup)\/(θ nm=none/\nn=false/\l=[]):=by
 rcases h.chg.rel.obj nm _ hown with⟨g,c,ob,h1,h2,h3,_⟩|⟨h1,h2⟩
 ·cases h3 with
  | pmap es nn k l0 l hp hk hs hr=>exact .inl ⟨g,c,es,l0,h1,h2,OH l0 _ 0 (by grind) λi hi=>by obtain⟨v,h1,h2⟩:=hr i hi;exact⟨v,by grind,h2⟩,hp,hk⟩
 ·cases nn<;>cases l<;>first|grind|cases h2
theorem mF{own:Nat->Option Own}{ob:Obj}{m:AV}{n:Nat}{s:List Nat}(h:ObjR I own θ w ob (.miter m n s)):∃ r c seen,ob = .mapIter r n seen c/\seen.toList.reverse=s/\c=n/\Rep I own θ w (.map r) m:=by
 cases h with
 | miter r m n c seen hc hr=>grind
theorem cV(h:Rel Γ σ I θ a w)(hd:∀ d,o.dst=some d->d<Γ.n){vs:List AV}(hvs:RepL I σ.own θ w (o.op.operands.toList.map a.eval) vs){es:List (Option Own)}(hes:es=(Dm o vs).map σ.own)
  {e:Eff} (he:oL P o vs es=some e) (hob:∀ p∈e.ob,p):Eb P Γ σ o a w e.v e.wo:=by
 unfold oL at he
 split at he
 ·
  rename_i t ho
  split at he
  ·rename_i d k e0 hdst hk
   simp only[Ao]at he;subst he
   have hn:σ.own d=none:=by simpa [Dm,ho,hdst] using hes.symm
   have hc:ObjR I σ.own θ w (.map #[] 0) (.map true k []):=HQ (es:=#[]) (l:=[]) true trivial;have kc:=Tt h.chg.rel h.chg.valid hn hc;refine Jr h hd (v:=.map (some w.heap.size)) (w':=w.alloc (.map #[] 0)) ?_ (by rw[B0];exact kc) ?_
   ·simp[execOp,ho,Instr.makeMap]
   ·rw[B0];have:=Rep.omap (I:=I) (own:=Au σ.own d (.obj (.map true k []))) (θ:=thUp θ d (some (w.heap.size,0))) (w:=w.alloc (.map #[] 0)) d (.map true k []) (by simp[Au])
    grind [thUp]
  grind
 ·
  rename_i t x ki ni ho
  simp only[ho,Op.operands,Cq,Dn]at hvs;obtain⟨u,hu',hu⟩:=hvs.one;simp only[Dr,Bs]at hu';subst hu'
  split at he
  ·rename_i d k e0 hdst hk
   simp only[Ao]at he;subst he
   have hn:σ.own d=none:=by simpa [Dm,ho,hdst] using hes.symm
   have hc:ObjR I σ.own θ w (.map #[] 0) (.map true k []):=HQ (es:=#[]) (l:=[]) true trivial;have kc:=Tt h.chg.rel h.chg.valid hn hc;obtain⟨kt,hm,hkt⟩:=T0 hk;have hx:=hu.int_inv;refine Jr h hd (v:=.map (some w.heap.size)) (w':=w.alloc (.map #[] 0)) ?_ (by rw[B0];exact kc) ?_
   ·simp_all [asInt,execOp,asIntOf,Instr.makeMap,Cb]
   ·rw[B0];have:=Rep.omap (I:=I) (own:=Au σ.own d (.obj (.map true k []))) (θ:=thUp θ d (some (w.heap.size,0))) (w:=w.alloc (.map #[] 0)) d (.map true k []) (by simp[Au])
    grind [thUp]
  grind
 ·
  rename_i t x ix ok nm k' i nn k l ho
  simp only[ho,Op.operands,Cq,Dn]at hvs;obtain⟨u,v,hu',hu,hv⟩:=hvs.two;simp only[Dr,Bs]at hu';obtain⟨rfl,rfl⟩:=hu'
  have hown:σ.own nm=some (.obj (.map nn k l)):=by simpa [Dm,ho] using hes.symm
  split at he
  ·rename_i k0 e0 hk
   cases hb:(EG k k'&&EG k k0) with
   | false=>grind
   | true=>
    simp only[hb,Ah]at he;simp only[A6]at hb;obtain rfl:=Pm hb.1;obtain rfl:=Pm hb.2
    split at he
    ·rename_i z hz
     simp only[Eff.pure,Ao]at he;subst he;obtain⟨ti,zv,hi,hzv,rfl⟩:=KM hz;obtain⟨kt,hm,hkt⟩:=T0 hk;have hix:=hv.int_inv;obtain⟨_,_,hx⟩:=hu.omap_inv;have hz0:cL I w zv (AV.ofValue zv).strip:=⟨(U7 (I:=I) (σ:=σ) (θ:=θ) (w:=w) zv).strip,Sj _⟩;have hrz:=O8 (P:=P) hi hzv w
     have done:∀(r:Value) (q:Bool),cL I w r (Fu (AV.ofValue zv).strip l i)->q=D9 l i->(Instr.lookup t (a.eval x) (a.eval ix) ok).run P w = .ok (if ok then .tuple #[r,.bool q] else r) w->Eb P Γ σ o a w (bif ok then .tuple [Fu (AV.ofValue zv).strip l i,.bool (D9 l i)] else Fu (AV.ofValue zv).strip l i) []:=λr q h1 h2 h3=>by
      subst h2
      cases ok with
      | false=>exact Ar h hd (v:=r) (by simp[execOp,ho,h3]) (.val _ _ h1.1)
      | true=>
       refine Ar h hd (v:=.tuple #[r,.bool (D9 l i)]) (by simp[execOp,ho,h3]) (.tuple _ _ rfl λj hj=>?_)
       have hj:j=0\/j=1:=by simp at hj;omega
       rcases hj with rfl|rfl
       ·exact .val _ _ h1.1
       ·exact .val _ _ (.bool _)
     rcases map_at h hown with⟨g,c,es',h1,h2,h3⟩|⟨h1,h2,h3⟩
     ·rw[h1]at hx;rcases findNow_ents (key:=i) hz0 l es'.toList 0 0 h3 with⟨g1,j,r,g2,g3,g4⟩|⟨g1,g2,g3⟩
      ·refine done r true g4 g1.symm ?_;rw[hx,hix];exact N7 hm hkt hrz h2 g2
      ·refine done zv false (by grind) g1.symm ?_;rw[hx,hix];exact N7 hm hkt hrz h2 g2
     ·rw[h1]at hx;subst h3;refine done zv false hz0 rfl ?_
      grind [BW]
    grind
  grind
 ·
  rename_i t x y z nm k' i xv k l ho
  simp only[ho,Op.operands,Cq,Dn]at hvs;obtain⟨u,v,r,hu',hu,hv,hr⟩:=hvs.three;simp only[Dr,Bs]at hu';obtain⟨rfl,rfl,rfl⟩:=hu'
  have hown:σ.own nm=some (.obj (.map true k l)):=by simpa [Dm,ho] using hes.symm
  split at he
  ·rename_i k0 e0 hk
   cases hb:(EG k k'&&EG k k0) with
   | false=>grind
   | true=>
    simp only[hb,Ah,Ao]at he;subst he;simp only[A6]at hb;obtain rfl:=Pm hb.1;obtain rfl:=Pm hb.2;obtain⟨kt,hm,hkt⟩:=T0 hk;have hix:=hv.int_inv;obtain⟨_,_,hx⟩:=hu.omap_inv;rcases map_at h hown with⟨g,c,es',h1,h2,h3⟩|⟨_,h2,_⟩
    ·rw[h1]at hx;rcases ents_put (key:=i) (hv:=⟨hr.strip,Sj _⟩) l es'.toList 0 0 h3 with⟨g1,gl,j,u,g2,⟨b,hb1,hb2⟩,g4⟩|⟨g1,gl,g2,g4⟩
     ·rw[E6]at g2
      have hc:ObjR I σ.own θ w (.map (es'.modify j λe=>{ e with key:=.int k i,val:=a.eval z }) l.length) (.map true k (Jq l i xv.strip)):=by
       rw[<- gl];exact HQ true (by rw[Array.toList_modify];exact g4)
      have kc:=Xm h.chg.rel h.chg.valid hown h1 hc;refine DN h hd (w':=FO w g (.map (es'.modify j λe=>{ e with key:=.int k i,val:=a.eval z }) l.length)) ?_ (by rw[B0];exact kc);have hrun:=SI (P:=P) (v:=a.eval z) hm hkt h2 g2 (by grind) hb2
      simp_all [execOp]
     ·have hc:ObjR I σ.own θ w (.map (es'.push { key:=.int k i,val:=a.eval z,born:=l.length }) (l.length+1)) (.map true k (Jq l i xv.strip)):=by
       rw[<- gl];rw[E6]at g4;exact HQ true (by simpa using g4)
      have kc:=Xm h.chg.rel h.chg.valid hown h1 hc;refine DN h hd (w':=FO w g (.map (es'.push { key:=.int k i,val:=a.eval z,born:=l.length }) (l.length+1))) ?_ (by rw[B0];exact kc);have hrun:=BX (P:=P) (v:=a.eval z) hm hkt h2 g2
      simp_all [execOp]
    ·cases h2
  grind
 ·
  rename_i t x mm nn k l ho
  simp only[ho,Op.operands,Cq,Dn]at hvs;obtain⟨u,hu',hu⟩:=hvs.one;simp only[Dr,Bs]at hu';subst hu'
  split at he
  ·rename_i d ke hdst hk
   simp only[Ao]at he;subst he
   have hns:σ.own d=none/\σ.own mm=some (.obj (.map nn k l)):=by
    have:=hes.symm
    simpa [Dm,ho,hdst] using this
   obtain⟨hn,hown⟩:=hns;obtain⟨kt,hm,hkt⟩:=T0 (k:=ke.1) (e:=ke.2) hk;obtain⟨_,_,hx⟩:=hu.omap_inv
   have fin:∀ r:Option Nat,(θ mm).map (·.1)=r->(Instr.range t (.map r)).run P w = .ok (.pointer (some ⟨w.heap.size,0,none⟩)) (w.alloc (.mapIter r l.length #[] l.length))->Eb P Γ σ o a w (.optr d mm) [(d,.obj (.miter (.omap mm) l.length []))]:=λr hr hrun=>by
    have hc:ObjR I σ.own θ w (.mapIter r l.length #[] l.length) (.miter (.omap mm) l.length []):=.miter r _ _ _ #[] rfl (by grind);have kc:=Tt h.chg.rel h.chg.valid hn hc;refine Jr h hd (v:=.pointer (some ⟨w.heap.size,0,none⟩)) (w':=w.alloc (.mapIter r l.length #[] l.length)) ?_ (by rw[B0];exact kc) ?_
    ·simp_all [execOp]
    ·rw[B0];exact .optr d mm _ w.heap.size 0 (by simp[Au];rfl) (by simp[thUp])
   rcases map_at h hown with⟨g,c,es',h1,h2,h3⟩|⟨h1,h2,h3⟩
   ·refine fin (some g) (by grind) ?_;simp[Instr.range,Cb hm,Ry h2]
   ·subst h3;refine fin none (by rw[h1];rfl) ?_;simp[Instr.range,Cb hm]
  grind
 ·
  rename_i x nm mm m' n i s nn k l ho
  simp only[ho,Op.operands,Cq,Dn]at hvs;obtain⟨u,hu',hu⟩:=hvs.one;simp only[Dr,Bs]at hu';subst hu'
  have hns:σ.own nm=some (.obj (.miter (.omap m') n (i::s)))/\σ.own mm=some (.obj (.map nn k l)):=by
   have:=hes.symm
   simpa [Dm,ho] using this
  obtain⟨hit,hown⟩:=hns
  cases hb:Nat.beq m' mm with
  | false=>grind
  | true=>
   rw[hb]at he;simp only[Ah,Ao]at he;subst he;obtain rfl:=C4 hb;have hn:n=l.length:=hob (n=l.length) (by simp);have hi:i<l.length:=hob (i<l.length) (by simp);obtain⟨_,g,c,ho',hg,hv⟩:=hu.optr_inv
   obtain⟨ob,h2,h3⟩:∃ ob,w.heap[g]?=some ob/\ObjR I σ.own θ w ob (.miter (.omap m') n (i::s)):=by
    rcases h.chg.rel.obj nm _ hit with⟨g',c',ob,h1,h2,h3,h4⟩|⟨h1,_⟩
    ·grind
    grind
   obtain⟨r,cc,seen,rfl,hseen,hcc,hr⟩:=mF h3;subst hcc;obtain⟨_,_,hx⟩:=hr.omap_inv;simp only[Value.map.injEq]at hx;rcases map_at h hown with⟨gm,c',es',h4,h5,h6⟩|⟨_,_,h7⟩
   ·rw[h4]at hx;subst hx;obtain⟨hlen,hent⟩:=HT l es'.toList 0 h6;obtain⟨v,e1,e2⟩:=hent i hi
    have hback:seen.back?=some i:=by
     rw[<- Array.getLast?_toList,<- List.head?_reverse,hseen];rfl
    have hfind:es'.find? (·.born==i)=some { key:=.int k (l.getD i (0,.any)).1,val:=v,born:=0+i }:=by
     have hmem:({ key:=.int k (l.getD i (0,.any)).1,val:=v,born:=0+i }:MapEntry)∈es'.toList:=List.mem_of_getElem? e1
     have hnd:(es'.toList.map (·.born)).Nodup:=by
      rw[List.nodup_iff_pairwise_ne,List.pairwise_map,zzL92];intro p q hp hq hpq he;obtain⟨_,p1,_⟩:=hent p (by omega);obtain⟨_,q1,_⟩:=hent q (by omega);rw[P2 hp]at p1;rw[P2 hq]at q1;rw[OI p1,OI q1]at he;simp only at he;omega
     have:=find_born _ es'.toList hnd hmem;rw[<- Array.find?_toList]
     simpa using this
    refine Ar h hd (v:=.tuple #[.int k (l.getD i (0,.any)).1,v]) ?_ (.tuple _ _ rfl λj hj=>?_)
    ·simp only[execOp,ho,hv];simp[Instr.entry,getObj,Sem.run,h2,h5,hback,hfind,hn]
    ·have hj:j=0\/j=1:=by simp at hj;omega
     rcases hj with rfl|rfl
     ·exact .val _ _ (.int _ _)
     ·exact .val _ _ e2.1
   grind
 ·
  rename_i xs ts nm nn k l ho
  split at he
  ·rename_i t hts
   split at he
   ·rename_i kt e0 hm
    simp only[Eff.pure,Ao]at he;subst he
    have this:o.op.operands.toList.map a.eval=xs.toList.map a.eval:=by rw[ho];simp[Op.operands,Call.operands]
    rw[this]at hvs
    cases hl:xs.toList with
    | nil=>rw[hl]at hvs;cases hvs
    | cons x r=>
     rw[hl]at hvs
     cases r with
     | cons y r=>trivial
     | nil=>
      obtain⟨u,hu',hu⟩:=hvs.one;simp only[Dr,Bs]at hu';subst hu'
      obtain rfl:xs = #[x]:=by grind
      obtain rfl:ts = #[t]:=by grind
      have hown:σ.own nm=some (.obj (.map nn k l)):=by simpa [Dm,ho] using hes.symm
      obtain⟨_,_,hx⟩:=hu.omap_inv;rcases map_at h hown with⟨g,c,es',h1,h2,h3⟩|⟨h1,h2,h3⟩
      ·rw[h1]at hx;have hrun:=λty=>MG (P:=P) (ty:=ty) hm h2;have hlen:=cw h3;refine Ar h hd (v:=goInt es'.size) ?_ ?_
       ·simp[execOp,ho,hx,resolve,invoke,builtin,hrun]
       ·have:es'.size=l.length:=by simpa using hlen
        rw[this];exact .val _ _ (.int _ _)
      ·rw[h1]at hx;subst h3;have hrun:=λty=>MH (P:=P) (w:=w) (ty:=ty) hm;exact Ar h hd (v:=goInt 0) (by simp[execOp,ho,hx,resolve,invoke,builtin,hrun]) (.val _ _ (.int _ _))
   grind
  grind
 ·
  rename_i t x ix ok nm k' i nn k l ho
  simp only[ho,Op.operands,Cq,Dn]at hvs;obtain⟨u,v,hu',hu,hv⟩:=hvs.two;simp only[Dr,Bs]at hu';obtain⟨rfl,rfl⟩:=hu'
  have hown:σ.own nm=some (.obj (.pmap nn k l)):=by simpa [Dm,ho] using hes.symm
  split at he
  ·rename_i k0 e0 hk
   cases hb:(EG k k'&&EG k k0) with
   | false=>grind
   | true=>
    simp only[hb,Ah]at he;simp only[A6]at hb;obtain rfl:=Pm hb.1;obtain rfl:=Pm hb.2
    split at he
    ·rename_i z hz
     simp only[Eff.pure,Ao]at he;subst he;obtain⟨ti,zv,hi,hzv,rfl⟩:=KM hz;obtain⟨kt,hm,hkt⟩:=T0 hk;have hix:=hv.int_inv;obtain⟨_,_,hx⟩:=hu.omap_inv;have hz0:cL I w zv (AV.ofValue zv).strip:=⟨(U7 (I:=I) (σ:=σ) (θ:=θ) (w:=w) zv).strip,Sj _⟩;have hrz:=O8 (P:=P) hi hzv w
     have done:∀(r:Value) (q:Bool),cL I w r (Fu (AV.ofValue zv).strip l i)->q=D9 l i->(Instr.lookup t (a.eval x) (a.eval ix) ok).run P w = .ok (if ok then .tuple #[r,.bool q] else r) w->Eb P Γ σ o a w (bif ok then .tuple [Fu (AV.ofValue zv).strip l i,.bool (D9 l i)] else Fu (AV.ofValue zv).strip l i) []:=λr q h1 h2 h3=>by
      subst h2
      cases ok with
      | false=>exact Ar h hd (v:=r) (by simp[execOp,ho,h3]) (.val _ _ h1.1)
      | true=>
       refine Ar h hd (v:=.tuple #[r,.bool (D9 l i)]) (by simp[execOp,ho,h3]) (.tuple _ _ rfl λj hj=>?_)
       have hj:j=0\/j=1:=by simp at hj;omega
       rcases hj with rfl|rfl
       ·exact .val _ _ h1.1
       ·exact .val _ _ (.bool _)
     rcases pmap_at h hown with⟨g,c,es',l0,h1,h2,h3,hp,hnd⟩|⟨h1,h2,h3⟩
     ·rw[h1]at hx;rcases findNow_ents (key:=i) hz0 l0 es'.toList 0 0 h3 with⟨g1,j,r,g2,g3,g4⟩|⟨g1,g2,g3⟩
      ·refine done r true (by grind [XO]) (by grind [JR]) ?_;rw[hx,hix];exact N7 hm hkt hrz h2 g2
      ·refine done zv false (by grind [XO]) (by grind [JR]) ?_;rw[hx,hix];exact N7 hm hkt hrz h2 g2
     ·rw[h1]at hx;subst h3;refine done zv false hz0 rfl ?_
      grind [BW]
    grind
  grind
 ·
  rename_i xs ts nm nn k l ho
  split at he
  ·rename_i t hts
   split at he
   ·rename_i kt e0 hm
    simp only[Eff.pure,Ao]at he;subst he
    have this:o.op.operands.toList.map a.eval=xs.toList.map a.eval:=by rw[ho];simp[Op.operands,Call.operands]
    rw[this]at hvs
    cases hl:xs.toList with
    | nil=>rw[hl]at hvs;cases hvs
    | cons x r=>
     rw[hl]at hvs
     cases r with
     | cons y r=>trivial
     | nil=>
      obtain⟨u,hu',hu⟩:=hvs.one;simp only[Dr,Bs]at hu';subst hu'
      obtain rfl:xs = #[x]:=by grind
      obtain rfl:ts = #[t]:=by grind
      have hown:σ.own nm=some (.obj (.pmap nn k l)):=by simpa [Dm,ho] using hes.symm
      obtain⟨_,_,hx⟩:=hu.omap_inv;rcases pmap_at h hown with⟨g,c,es',l0,h1,h2,h3,hp,hnd⟩|⟨h1,h2,h3⟩
      ·rw[h1]at hx;have hrun:=λty=>MG (P:=P) (ty:=ty) hm h2;have hlen:=cw h3;refine Ar h hd (v:=goInt es'.size) ?_ ?_
       ·simp[execOp,ho,hx,resolve,invoke,builtin,hrun]
       ·have:es'.size=l.length:=by rw[<- hp.length_eq];simpa using hlen
        rw[this];exact .val _ _ (.int _ _)
      ·rw[h1]at hx;subst h3;have hrun:=λty=>MH (P:=P) (w:=w) (ty:=ty) hm;exact Ar h hd (v:=goInt 0) (by simp[execOp,ho,hx,resolve,invoke,builtin,hrun]) (.val _ _ (.int _ _))
   grind
  grind
 grind
end
theorem JG{sz:Nat}{f:Nat->List AV}:∀{n:Nat},(∀ i,i<n->(f i).length=sz)->(HE n f).length=n*sz
 | 0,_=>by simp[HE]
 | n+1,h=>by
  have ih:=JG (n:=n) (λi hi=>h i (by omega));unfold HE at ih ⊢;rw[Xb,List.flatMap_append,Fe,ih];simp[h n _,Gl]
theorem WV{sz:Nat}{f:Nat->List AV}:∀{n:Nat},(∀ i,i<n->(f i).length=sz)->∀ i j,i<n->j<sz->(HE n f).getD (i*sz+j) .any=(f i).getD j .any
 | 0,_,i,j,hi,_=>by omega
 | n+1,h,i,j,hi,hj=>by
  have hl:=JG (n:=n) (λi hi=>h i (by omega));have ih:=WV (n:=n) (λi hi=>h i (by omega)) i j;unfold HE at ih hl ⊢;rw[Xb,List.flatMap_append]
  by_cases e:i<n
  ·have h1:(i+1)*sz<=n*sz:=Ft _ e;rw[Gl]at h1;rw[W4,Ug (by omega)];exact ih e hj
  ·obtain rfl:i=n:=by omega
   rw[W4,Ve (by omega),hl];simp[List.getD]
section
variable {P:Program} {Γ:H6} {σ:Sto} {I:Nat->Nat->Prop} {θ:Nat->Option (Nat×Nat)} {a:Act} {w:World} {o:Oper}
theorem WS{k n sz:Nat}(h:k<n*sz):k / sz<n/\k % sz<sz/\k / sz*sz+k % sz=k:=by
 have hs:0<sz:=by
  grind
 exact⟨by rw[TB hs];exact h,Nat.mod_lt _ hs,by rw[CJ];exact IJ k sz⟩
theorem YP(h:Rel Γ σ I θ a w){t:TypeId}(ht:B6 P t=true)(hagg:E7 P t=true){nm n sz m:Nat}{e:TypeId}{f:Nat->List AV}{v:Value}
  (hx:Rep I σ.own θ w v (.vpt nm n 0 0)) (hown:σ.own nm=some (.arr sz e m f)) (hn:n=m) (hsz:A8 P t=n*sz) :
  ∃ ad,v = .pointer (some ad)/\∃ vs,(loadVar t ad).run P w = .ok (.agg vs) w/\Rep I σ.own θ w (.agg vs) (.agg (HE n f)):=by
 obtain⟨g,c,cur,he,hg,hh,hi,hmc,hcm,hcs,hf,hr,hI⟩:=ZP h hown hx hn;subst hn;have hle:n*sz<=c*sz:=Ft _ hmc
 have hcell:∀ k,k<n*sz->w.cell? ⟨g,k,none⟩=some _:=λk hk=>by
  rw[Nf w g _ cur e _ hh];exact Nk (by omega)
 have hl:=JG hf;refine⟨_,he,_,Mu ht hagg _ (λk=>cur.getD k _) (λk hk=>by rw[O9];simpa using hcell k (by omega)),.agg _ _ (by simp[hl,hsz]) (λk hk=>?_) (λk hk=>?_)⟩
 ·rw[hl]at hk;rw[N6 _ _ _ (by omega)];obtain⟨h1,h2,h3⟩:=WS hk;have:=(hr _ _ h1 h2).1;rwa[h3]at this
 ·rw[hl]at hk;rw[N6 _ _ _ (by omega)];obtain⟨h1,h2,h3⟩:=WS hk;have h4:=(hr _ _ h1 h2).2;have h5:=WV hf _ _ h1 h2;rw[h3]at h4 h5;rw[h5];exact h4
theorem VT(h:Rel Γ σ I θ a w)(hd:∀ d,o.dst=some d->d<Γ.n){t:TypeId}{x:Operand}(ho:o.op = .load t x)(ht:B6 P t=true)(hagg:E7 P t=true){nm n sz m:Nat}{e:TypeId}{f:Nat->List AV}
  (hx:Rep I σ.own θ w (a.eval x) (.vpt nm n 0 0)) (hown:σ.own nm=some (.arr sz e m f)) (hn:n=m) (hsz:A8 P t=n*sz):Eb P Γ σ o a w (.agg (HE n f)) []:=by
 obtain⟨ad,he,vs,hrun,hrep⟩:=YP  h ht hagg hx hown hn hsz;refine Ar h hd  ?_ hrep;simp only[execOp,ho,he,Instr.loadAt,Instr.sureAddr,Eg,He,Ff,hrun]
theorem RL(h:Rel Γ σ I θ a w)(hd:∀ d,o.dst=some d->d<Γ.n){t:TypeId}{x y:Operand}(ho:o.op = .store t x y)(ht:B6 P t=true){nm n sz m:Nat}{e:TypeId}{f:Nat->List AV}{cs:List AV}{z:AV}
  (hx:Rep I σ.own θ w (a.eval x) (.vpt nm n 0 0)) (hy:Rep I σ.own θ w (a.eval y) z) (hown:σ.own nm=some (.arr sz e m f)) (hn:n=m) (hc:z.cells=some cs) (hsz:cs.length=A8 P t) (hle:A8 P t=n*sz) :
  Eb P Γ σ o a w .undef [(nm,.arr sz e m (λi=>(cs.drop (i*sz)).take sz))]:=by
 obtain⟨g,c,cur,he,hg,hh,hi,hmc,hcm,hcs,hf,hr,hI⟩:=ZP h hown hx hn;subst hn;have hcl:=L7 hc hy;have hrel:=h.chg.rel
 have hvl:(a.eval y).cells.toList.length=cs.length:=by simp[hcl.size]
 have hfit:n*sz<=cur.size:=by rw[hcs];exact Ft _ hmc
 have hlen:cs.length=n*sz:=hsz.trans hle;have hst:=run_storeCells_at P g (0*sz+0) e (a.eval y).cells.toList 0 cur w hh (by rw[hvl];omega) hcl.all;simp only[Nd,Nat.zero_mul]at hst
 have hrun:(execOp a.eval o).run P w = .ok .skip (w.setRow g (cur.toList.take 0++(a.eval y).cells.toList++cur.toList.drop (0+(a.eval y).cells.toList.length)).toArray):=by
  have hn:¬ ((a.eval y).cells.size≠A8 P t):=by rw[hcl.size,hsz];simp
  simp only[execOp,ho,he,Instr.storeAt,Instr.sureAddr,Eg,He,Ff,storeVar,Bu ht,if_neg hn,Nat.zero_mul,Nd,hst]
 simp only[List.take_zero,Zc,E6,hvl,hlen]at hrun;have hother:∀ b,b≠g->(w.setRow g ((a.eval y).cells.toList++cur.toList.drop (n*sz)).toArray).heap[b]?=w.heap[b]?:=λb hb=>KT w g b _ hb;have hk:=Mb  (t':=some (g,c)) (m':=n) (f':=λi=>(cs.drop (i*sz)).take sz) hrel h.chg.valid (nm:=nm) (s:=sz) (e:=e)
  (λb k hi=>ET (a:=⟨b,k,none⟩) (hother b (by rintro rfl;exact hI k hi))) (.inr ⟨n,f,hown,zzL6 _,λ_=>hg.symm⟩)
  (λb hb hn=>hother b (by rintro rfl;exact hn c (by simp[hown]) hg)) rfl rfl rfl (by simp) (by simp) (λg' c' hgc=>?_) (λg' c' hgc=>?_)
 ·rw[Wz hg]at hk;refine DN h hd (I':=I) (θ':=θ) hrun ?_;rw[B0];exact hk
 ·simp only[Ao,Od]at hgc;obtain⟨rfl,rfl⟩:=hgc
  have hlen':((a.eval y).cells.toList++cur.toList.drop (n*sz)).length=cur.size:=by
   grind
  have hget:∀ k,k<n*sz->(((a.eval y).cells.toList++cur.toList.drop (n*sz)).toArray).getD k undef=(a.eval y).cells.getD k undef:=λk hk=>by
   have e1:∀(l:List Value),(l.toArray).getD k undef=l.getD k undef:=λl=>by simp[Rl,List.getD]
   rw[e1,W4,Ug (by rw[hvl];omega)];simp[Rl]
  have hchunk:∀ i',i'<n->i'*sz+sz<=n*sz:=λi' hi'=>by
   have:(i'+1)*sz<=n*sz:=Ft _ hi';rw[Gl]at this;omega
  refine⟨_,KU w g cur _ e _ hh,hmc,hcm,by simp only[bg];rw[hlen',hcs],λi' hi'=>?_,λi' j' hi' hj'=>?_,hI⟩
  ·grind
  ·have:=hchunk i' hi';rw[hget _ (by omega),Nl _ _ _ _ _ hj'];exact⟨hcl.one _ (by omega),λhmono=>hmono _ _ (hcl.rep _ (by omega))⟩
 ·grind
theorem Wu{t el:TypeId}{x:Operand}{lo hi mx:Option Operand}(ho:o.op = .slice t x lo hi mx){len:Nat}(hu:P.underlying t=some (.array len el))(hT:B6 P el=true){ad:Addr}{l h m:Nat}
  (hx:a.eval x = .pointer (some ad)) (hb:(Instr.sliceBounds false len len (lo.map a.eval) (hi.map a.eval) (mx.map a.eval)).run P w = .ok (l,h,m) w) :
  (execOp a.eval o).run P w = .ok (.value (.slice (some (if m=l then ad else ad.add (l*A8 P el))) (h-l) (m-l))) w:=by
 simp only[execOp,ho,hx,Instr.sliceAt,Instr.sureAddr,Eg,Cb hu,Ff,hb,Bu hT,He]
theorem IA(h:Rel Γ σ I θ a w){v:Value}{nm n sz m l k:Nat}{e:TypeId}{f:Nat->List AV}(hx:Rep I σ.own θ w v (.vpt nm n 0 0))(hown:σ.own nm=some (.arr sz e m f))(hB:oH e=true)(hlk:l<=k)(hk:k<=n) :
  ∃ ad,v = .pointer (some ad)/\Rep I σ.own θ w (.slice (some (if n=l then ad else ad.add (l*sz))) (k-l) (n-l)) (.vsub nm n l k):=by
 obtain⟨sz2,e2,m2,f2,ad,rfl,ho2,hm,hi0,hv⟩:=hx.vpt_inv;rw[hown]at ho2;obtain⟨rfl,rfl,rfl,rfl⟩:=ho2;obtain⟨q0,q1⟩:=h.chg.rel.arr nm _ _ _ _ hown
 have hmax:n<=maxLen:=by
  cases hθ:θ nm with
  | none=>have:=q0 hθ;omega
  | some gc=>grind
 refine⟨ad,rfl,.vsub nm sz e m f n l k _ _ hown hm hlk hk (by omega) (by omega) (λh=>by cases h) (λhnm=>⟨λhlt=>?_,λh0=>?_⟩)⟩
 ·obtain⟨g,c,h1,rfl⟩:=hv hnm;refine⟨g,c,h1,?_⟩;rw[if_neg (by omega),O9]
  simp
 ·obtain⟨g,c,h1,rfl⟩:=hv hnm;subst h0;rw[h1];refine⟨?_,.inr hB⟩;rw[ O9]
  simp
theorem cT(h:Rel Γ σ I θ a w)(hd:∀ d,o.dst=some d->d<Γ.n){vs:List AV}(hvs:RepL I σ.own θ w (o.op.operands.toList.map a.eval) vs){es:List (Option Own)}(hes:es=(Dm o vs).map σ.own)
  {e:Eff} (he:oJ P o vs es=some e) (hob:∀ p∈e.ob,p):Eb P Γ σ o a w e.v e.wo:=by
 unfold oJ at he
 split at he
 ·rename_i t x nm n sz e0 m f ho
  simp only[ho,Op.operands,Cq,Dn]at hvs;obtain⟨u,hu',hu⟩:=hvs.one;simp only[Dr,Bs]at hu';subst hu'
  have hown:σ.own nm=some (.arr sz e0 m f):=by simpa [Dm,ho] using hes.symm
  split at he
  ·rename_i len el hun
   cases hb:(B6 P t&&Nat.beq n len&&Nat.beq (A8 P t) (n*sz)) with
   | false=>simp[hb]at he
   | true=>
    simp only[hb,Ah,Eff.pure,Ao]at he;subst he;simp only[A6]at hb;exact VT (P:=P) h hd ho hb.1.1 (by simp[E7,hun]) hu hown (hob _ (by simp)) (C4 hb.2)
  ·simp at he
 ·rename_i t x y nm n z sz e0 m f ho
  simp only[ho,Op.operands,Cq,Dn]at hvs;obtain⟨u,v,hu',hu,hv⟩:=hvs.two;simp only[Dr,Bs]at hu';obtain⟨rfl,rfl⟩:=hu'
  have hown:σ.own nm=some (.arr sz e0 m f):=by simpa [Dm,ho] using hes.symm
  split at he
  ·rename_i len el cs hun hc
   cases hb:(B6 P t&&Nat.beq n len&&Nat.beq cs.length (A8 P t)&&Nat.beq (A8 P t) (n*sz)) with
   | false=>simp[hb]at he
   | true=>
    simp only[hb,Ah,Ao]at he;subst he;simp only[A6]at hb;exact RL (P:=P) h hd ho hb.1.1.1 hu hv hown (hob _ (by simp)) hc (C4 hb.1.2) (C4 hb.2)
  ·simp at he
 ·rename_i t y lo hi mx nm n vs sz e0 m f ho
  have hown:σ.own nm=some (.arr sz e0 m f):=by simpa [Dm,ho] using hes.symm
  have hops:o.op.operands.toList.map a.eval=[a.eval y]++(lo.map a.eval).toList++(hi.map a.eval).toList++(mx.map a.eval).toList:=by
   rw[ho]
   cases lo<;>cases hi<;>cases mx<;>simp[Op.operands]
  rw[hops]at hvs
  split at he
  ·rename_i len el hun
   cases hb:(B6 P el&&Nat.beq n len&&Nat.beq sz (A8 P el)&&oH e0) with
   | false=>simp[hb]at he
   | true=>
    simp only[hb,Ah]at he;simp only[A6]at hb;obtain⟨⟨⟨hT,hnl⟩,hsz⟩,hB⟩:=hb;obtain rfl:=C4 hnl;obtain rfl:=C4 hsz
    split at he
    ·rename_i k l h1 h2 h3
     cases lo<;>simp at h1
     cases hi<;>simp at h2
     cases mx<;>simp at h3
     obtain⟨p,q,e1,hy,hz⟩:=hvs.two;simp only[Dr,Bs]at e1;obtain⟨rfl,rfl⟩:=e1;simp only[Eff.pure,Ao]at he;subst he;obtain⟨hb0,hb1⟩:=hob _ (zzL15.2 rfl);rw[E6]at hb1 ⊢;have hl:=hz.int_inv;obtain⟨ad,hex,hrep⟩:=IA h hy hown hB (l:=l.toNat) (k:=n) hb1 (zzL6 _);exact Ar h hd (Wu (P:=P) (a:=a) (w:=w) (l:=l.toNat) (h:=n) (m:=n) ho hun hT hex (by simp[Instr.sliceBounds,hl,Oq (P:=P) w k l n _ hb0 (by omega)])) hrep
    ·rename_i k l h1 h2 h3
     cases lo<;>simp at h1
     cases hi<;>simp at h2
     cases mx<;>simp at h3
     obtain⟨p,q,e1,hy,hz⟩:=hvs.two;simp only[Dr,Bs]at e1;obtain⟨rfl,rfl⟩:=e1;simp only[Eff.pure,Ao]at he;subst he;obtain⟨hb0,hb1⟩:=hob _ (zzL15.2 rfl);rw[E6]at hb1 ⊢;have hl:=hz.int_inv;obtain⟨ad,hex,hrep⟩:=IA h hy hown hB (l:=0) (k:=l.toNat) (P4 _) hb1;exact Ar h hd (Wu (P:=P) (a:=a) (w:=w) (l:=0) (h:=l.toNat) (m:=n) ho hun hT hex (by simp[Instr.sliceBounds,hl,Oq (P:=P) w k l n _ hb0 (by omega)])) hrep
    ·rename_i k l k' l' h1 h2 h3
     cases lo<;>simp at h1
     cases hi<;>simp at h2
     cases mx<;>simp at h3
     obtain⟨p,q,u,e1,hy,hz,hz'⟩:=hvs.three;simp only[Dr,Bs]at e1;obtain⟨rfl,rfl,rfl⟩:=e1;simp only[Eff.pure,Ao]at he;subst he;obtain⟨hb0,hb1,hb2⟩:=hob _ (zzL15.2 rfl);rw[E6]at hb2;rw[E6,E6];have hl:=hz.int_inv;have hl':=hz'.int_inv;obtain⟨ad,hex,hrep⟩:=IA h hy hown hB (l:=l.toNat) (k:=l'.toNat) (by omega) hb2;exact Ar h hd (Wu (P:=P) (a:=a) (w:=w) (l:=l.toNat) (h:=l'.toNat) (m:=n) ho hun hT hex (by simp[Instr.sliceBounds,hl,hl',Oq (P:=P) w k' l' n _ (by omega) (by omega),Oq (P:=P) w k l l'.toNat _ hb0 (by omega)])) hrep
    ·rename_i h1 h2 h3
     cases lo<;>simp at h1
     cases hi<;>simp at h2
     cases mx<;>simp at h3
     obtain⟨p,e1,hy⟩:=hvs.one;simp only[Dr,Bs]at e1;subst e1;simp only[Eff.pure,Ao]at he;subst he;obtain⟨ad,hex,hrep⟩:=IA h hy hown hB (l:=0) (k:=n) (P4 _) (zzL6 _);exact Ar h hd (Wu (P:=P) (a:=a) (w:=w) (l:=0) (h:=n) (m:=n) ho hun hT hex (by simp[Instr.sliceBounds])) hrep
    ·simp at he
  ·simp at he
 ·simp at he
end
section
variable {P:Program} {Γ:H6} {σ:Sto} {I:Nat->Nat->Prop} {θ:Nat->Option (Nat×Nat)} {a:Act} {w:World} {o:Oper}
theorem eU{own:Nat->Option Own}{es:Array MapEntry}{k:IntKind}{l:List (Int×AV)}(h:GH (Rep I own θ w) k 0 es.toList l):ObjR I own θ w (.map es l.length) (.tab k l):=by
 obtain⟨h1,h2⟩:=HT l _ 0 h
 exact .tab es k l (by simpa using h1) λi hi=>by grind
theorem qf(h:Rel Γ σ I θ a w){nm:Nat}{k:IntKind}{l:List (Int×AV)}(hown:σ.own nm=some (.obj (.tab k l))) :
  ∃ g c es,θ nm=some (g,c)/\w.heap[g]?=some (.map es l.length)/\GH (Rep I σ.own θ w) k 0 es.toList l:=by
 rcases h.chg.rel.obj nm _ hown with⟨g,c,ob,h1,h2,h3,_⟩|⟨h1,h2⟩
 ·cases h3 with
  | tab es k l hs hr=>exact⟨g,c,es,h1,h2,OH l _ 0 (by simpa using hs) λi hi=>by grind⟩
 ·cases h2
theorem db{V:Type}{i:Int}{x:V}:∀{l:List (Int×V)},D9 l i=false->Jq l i x=l++[(i,x)]
 | [],_=>rfl
 | (a,b)::l,h=>by
  simp only[D9,KN]at h;simp only[Jq,h.1,Aw,db h.2,CF]
theorem dW{V:Type}{i:Int}{d d':V}:∀{l:List (Int×V)},D9 l i=true->Fu d l i=Fu d' l i
 | [],h=>by cases h
 | (a,b)::l,h=>by
  simp only[Fu]
  cases hb:(i==a) with
  | true=>rfl
  | false=>simp only[D9,hb]at h;exact dW h
theorem YA(h:Rel Γ σ I θ a w)(hd:∀ d,o.dst=some d->d<Γ.n){t:TypeId}{x y z:Operand}(hop:o.op = .mapUpdate t x y z\/o.op = .insert t x y z){nm:Nat}{k k':IntKind}{i:Int}{xv:AV}{l:List (Int×AV)}
  (hu:Rep I σ.own θ w (a.eval x) (.omap nm)) (hv:Rep I σ.own θ w (a.eval y) (.int k' i)) (hr:Rep I σ.own θ w (a.eval z) xv) (hown:σ.own nm=some (.obj (.tab k l))) {e:Eff} (he:sg P t nm k k' i xv l=some e):Eb P Γ σ o a w e.v e.wo:=by
 unfold sg at he
 split at he
 ·rename_i k0 e0 hk
  cases hb:(EG k k'&&EG k k0&&!D9 l i) with
  | false=>simp[hb]at he
  | true=>
   simp only[hb,Ah,Ao]at he;subst he;simp only[A6]at hb;obtain rfl:=Pm hb.1.1;obtain rfl:=Pm hb.1.2;obtain⟨kt,hm,hkt⟩:=T0 hk;have hix:=hv.int_inv;obtain⟨_,_,hx⟩:=hu.omap_inv;obtain⟨g,c,es',h1,h2,h3⟩:=qf h hown;rw[h1]at hx;rcases ents_put (key:=i) (hv:=hr) l _ 0 0 h3 with⟨g1,_⟩|⟨g1,gl,g2,g4⟩
   ·grind
   ·have hc:ObjR I σ.own θ w (.map (es'.push { key:=.int k i,val:=a.eval z,born:=l.length }) (l.length+1)) (.tab k (l++[(i,xv)])):=by
     rw[<- db g1,<- gl];exact eU (by simpa using g4)
    have kc:=Xm h.chg.rel h.chg.valid hown h1 hc;refine DN h hd  ?_ (by rw[B0];exact kc);have hrun:=BX  (v:=a.eval z) hm hkt h2 g2;rcases hop with ho|ho<;>simp only[execOp,ho,hx,hix]<;>simp[hrun]
 ·simp at he
theorem eH(h:Rel Γ σ I θ a w){v:Value}{cells:List AV}(hv:Rep I σ.own θ w v (.rptr cells)){len sz l:Nat}(hlen:cells.length=len*sz)(hroom:len<=room)(hl:l<=len) :
  ∃ ad,v = .pointer (some ad)/\Rep I σ.own θ w (.slice (some (if len=l then ad else ad.add (l*sz))) (len-l) (len-l)) (.slice sz (len-l) (λi=>(cells.drop ((l+i)*sz)).take sz) .none):=by
 obtain⟨ad,us,he,hs,hI,hc,h1,hrep⟩:=hv.rptr_inv
 have hb:∀ j,j<(len-l)*sz->l*sz+j<cells.length:=λj hj=>by
  have:(len-l)*sz+l*sz=len*sz:=by rw[<- Gl];congr 1;omega
  omega
 refine⟨ad,he,.val _ _ (.slice _ _ _ sz _ (λj=>us (l*sz+j)) (zzL6 _) (by
  have:room<=maxLen:=by decide
  omega) (λhp=>?_) (λhn=>by cases hn) (λj hj=>h1 _ (hb j hj)) (λi hi=>?_) (λi c hi hc'=>?_))⟩
 ·have hne:¬ len=l:=by omega
  simp only[hne];rw[Mm hs];refine⟨_,rfl,rfl,λj hj=>?_,λj hj=>?_⟩
  ·grind
  ·grind
 ·have h2:(l+i+1)*sz<=len*sz:=Ft _ (by omega);rw[Gl]at h2
  simp
  omega
 ·have h2:(i+1)*sz<=(len-l)*sz:=Ft _ (by omega);rw[Gl]at h2;rw[Nl _ _ _ _ _ hc',Gl,Xc];exact hrep _ (hb _ (by omega))
theorem cX(h:Rel Γ σ I θ a w)(hd:∀ d,o.dst=some d->d<Γ.n){vs:List AV}(hvs:RepL I σ.own θ w (o.op.operands.toList.map a.eval) vs){es:List (Option Own)}(hes:es=(Dm o vs).map σ.own)
  {hint:Nat} {e:Eff} (he:oN P hint o vs es=some e) (hob:∀ p∈e.ob,p):Eb P Γ σ o a w e.v e.wo:=by
 unfold oN at he
 split at he
 ·
  rename_i t x y ho
  simp only[ho,Op.operands,Cq,Dn]at hvs;obtain⟨u,hu',hu⟩:=hvs.one;simp only[Dr,Bs]at hu';subst hu'
  cases h2:Nat.beq hint 2 with
  | true=>
   simp only[h2,Ah]at he
   split at he
   ·simp at he
   ·split at he
    ·rename_i cs hcs
     simp only[Eff.pure,Ao]at he;subst he;have hc:=L7 hcs hu;have kc:=FG h.chg.rel h.chg.valid (a.eval x).cells t;refine Jr h hd (v:=.pointer (some ⟨w.heap.size,0,none⟩)) (w':=w.alloc (.cells (a.eval x).cells t)) ?_ kc ?_
     ·simp[execOp,ho,Instr.box,newVar,newRow]
     ·have hcell:∀ j,j<cs.length->(w.alloc (.cells (a.eval x).cells t)).cell? ⟨w.heap.size,0+j,none⟩=some ((a.eval x).cells.getD j undef):=λj hj=>by
       have hj':j<(a.eval x).cells.size:=by rw[hc.size];exact hj
       rw[Nf _ _ _ (a.eval x).cells t (0,0) (Y9 w _),E6];simp[Array.getD,hj']
      exact .rpo _ _ (λj=>(a.eval x).cells.getD j undef) rfl (λj hj=>.inr ⟨rfl,by rw[hc.size];show 0+j<_;omega⟩) hcell hc.one (λj hj=>(hc.rep j hj).chg kc)
    ·simp at he
  | false=>
   simp only[h2,Aw]at he
   cases h3:Nat.beq hint 3 with
   | false=>simp[h3]at he
   | true=>
    simp only[h3,Ah]at he
    split at he
    ·rename_i cs hcs
     simp only[Eff.pure,Ao]at he;subst he;have hc:=L7 hcs hu;have kc:=FG h.chg.rel h.chg.valid (a.eval x).cells t;refine Jr h hd (v:=.pointer (some ⟨w.heap.size,0,none⟩)) (w':=w.alloc (.cells (a.eval x).cells t)) ?_ kc ?_
     ·simp[execOp,ho,Instr.box,newVar,newRow]
     ·have hl:(AV.stripAll cs).length=cs.length:=Bc cs
      have hcell:∀ j,j<(AV.stripAll cs).length->(w.alloc (.cells (a.eval x).cells t)).cell? ⟨w.heap.size,0+j,none⟩=some ((a.eval x).cells.getD j undef):=λj hj=>by
       have hj':j<(a.eval x).cells.size:=by rw[hc.size,<- hl];exact hj
       rw[Nf _ _ _ (a.eval x).cells t (0,0) (Y9 w _),E6];simp[Array.getD,hj']
      exact .val _ _ (.rptr _ _ (λj=>(a.eval x).cells.getD j undef) rfl (λj hj=>.inr ⟨rfl,by rw[hc.size,<- hl];show 0+j<_;omega⟩) hcell (λj hj=>hc.one j (by omega)) (λj hj=>by
       rw[Ez]
       exact((hc.rep j (by omega)).chg kc).strip))
    ·simp at he
 ·
  rename_i t x lo hi mx cells vs ho
  have hops:o.op.operands.toList.map a.eval=[a.eval x]++(lo.map a.eval).toList++(hi.map a.eval).toList++(mx.map a.eval).toList:=by
   rw[ho]
   cases lo<;>cases hi<;>cases mx<;>simp[Op.operands]
  rw[hops]at hvs
  split at he
  ·rename_i len el hun
   cases hb:(B6 P el&&Nat.beq cells.length (len*A8 P el)&&Nat.ble len room) with
   | false=>simp[hb]at he
   | true=>
    simp only[hb,Ah]at he;simp only[A6]at hb;obtain⟨⟨hT,hlen⟩,hroom⟩:=hb;have hlen:=C4 hlen;have hroom:=K8 hroom
    split at he
    ·rename_i k l h1 h2 h3
     cases lo<;>simp at h1
     cases hi<;>simp at h2
     cases mx<;>simp at h3
     obtain⟨p,q,e1,hy,hz⟩:=hvs.two;simp only[Dr,Bs]at e1;obtain⟨rfl,rfl⟩:=e1;simp only[Eff.pure,Ao]at he;subst he;obtain⟨hb0,hb1⟩:=hob _ (zzL15.2 rfl);have hl:=hz.int_inv;obtain⟨ad,hex,hrep⟩:=eH h hy hlen hroom (l:=l.toNat) hb1;exact Ar h hd (Wu (P:=P) (a:=a) (w:=w) (l:=l.toNat) (h:=len) (m:=len) ho hun hT hex (by simp[Instr.sliceBounds,hl,Oq (P:=P) w k l len _ hb0 (by omega)])) hrep
    ·rename_i h1 h2 h3
     cases lo<;>simp at h1
     cases hi<;>simp at h2
     cases mx<;>simp at h3
     obtain⟨p,e1,hy⟩:=hvs.one;simp only[Dr,Bs]at e1;subst e1;simp only[Eff.pure,Ao]at he;subst he;obtain⟨ad,hex,hrep⟩:=eH h hy hlen hroom (l:=0) (P4 _);exact Ar h hd (Wu (P:=P) (a:=a) (w:=w) (l:=0) (h:=len) (m:=len) ho hun hT hex (by simp[Instr.sliceBounds])) hrep
    ·simp at he
  ·simp at he
 ·
  rename_i t x cells ho
  simp only[ho,Op.operands,Cq,Dn]at hvs;obtain⟨u,hu',hu⟩:=hvs.one;simp only[Dr,Bs]at hu';subst hu'
  cases hb:(B6 P t&&!E7 P t&&Nat.ble 1 cells.length) with
  | false=>simp[hb]at he
  | true=>
   simp only[hb,Ah,Eff.pure,Ao]at he;subst he;simp only[A6,Zb]at hb;obtain⟨⟨ht,hagg⟩,hle⟩:=hb;have hle:=K8 hle;obtain⟨ad,us,he,hs,_,hc,h1,hrep⟩:=hu.rpo_inv;have hc0:=hc 0 (by omega);rw[Nd]at hc0
   have e:(⟨ad.block,ad.off,none⟩:Addr)=ad:=by cases ad;simp_all
   rw[e]at hc0;have hr:=Mv (P:=P) ht hagg ad _ hc0;refine Ar h hd (v:=us 0) ?_ (hrep 0 (by omega));simp only[execOp,ho,he,Instr.loadAt,Instr.sureAddr,Eg,He,Ff,hr]
 ·
  rename_i t ho
  split at he
  ·rename_i d k e0 hdst hk
   cases hf:vA P e0 with
   | false=>simp[hf]at he
   | true=>
    simp only[hf,Ah,Ao]at he;subst he
    have hn:σ.own d=none:=by simpa [Dm,ho,hdst] using hes.symm
    have hc:ObjR I σ.own θ w (.map #[] 0) (.tab k []):=eU (es:=#[]) (l:=[]) trivial;have kc:=Tt h.chg.rel h.chg.valid hn hc;refine Jr h hd (v:=.map (some w.heap.size)) (w':=w.alloc (.map #[] 0)) ?_ (by rw[B0];exact kc) ?_
    ·simp[execOp,ho,Instr.makeMap]
    ·rw[B0];have:=Rep.omap (I:=I) (own:=Au σ.own d (.obj (.tab k []))) (θ:=thUp θ d (some (w.heap.size,0))) (w:=w.alloc (.map #[] 0)) d (.tab k []) (by simp[Au])
     simpa [thUp] using this
  ·simp at he
 ·
  rename_i t x y z nm k' i xv k l ho
  simp only[ho,Op.operands,Cq,Dn]at hvs;obtain⟨u,v,r,hu',hu,hv,hr⟩:=hvs.three;simp only[Dr,Bs]at hu';obtain⟨rfl,rfl,rfl⟩:=hu';exact YA h hd (.inr ho) hu hv hr (by simpa [Dm,ho] using hes.symm) he
 ·rename_i t x y z nm k' i xv k l ho
  simp only[ho,Op.operands,Cq,Dn]at hvs;obtain⟨u,v,r,hu',hu,hv,hr⟩:=hvs.three;simp only[Dr,Bs]at hu';obtain⟨rfl,rfl,rfl⟩:=hu';exact YA h hd (.inl ho) hu hv hr (by simpa [Dm,ho] using hes.symm) he
 ·
  rename_i t x ix nm k' i k l ho
  simp only[ho,Op.operands,Cq,Dn]at hvs;obtain⟨u,v,hu',hu,hv⟩:=hvs.two;simp only[Dr,Bs]at hu';obtain⟨rfl,rfl⟩:=hu'
  have hown:σ.own nm=some (.obj (.tab k l)):=by simpa [Dm,ho] using hes.symm
  split at he
  ·rename_i k0 e0 hk
   cases hb:(EG k k'&&EG k k0&&D9 l i&&(YT P e0).isSome) with
   | false=>simp[hb]at he
   | true=>
    simp only[hb,Ah,Eff.pure,Ao]at he;subst he;simp only[A6]at hb;obtain⟨⟨⟨b1,b2⟩,b3⟩,b4⟩:=hb;obtain rfl:=Pm b1;obtain rfl:=Pm b2;obtain⟨z,hz⟩:=zzL85.1 b4;obtain⟨ti,zv,hi,hzv,rfl⟩:=KM hz;obtain⟨kt,hm,hkt⟩:=T0 hk;have hix:=hv.int_inv;obtain⟨_,_,hx⟩:=hu.omap_inv;have hrz:=O8 (P:=P) hi hzv w;obtain⟨g,c,es',h1,h2,h3⟩:=qf h hown;rw[h1]at hx;rcases findNow_ents (key:=i) (hz:=U7 (I:=I) (σ:=σ) (θ:=θ) (w:=w) zv) l es'.toList 0 0 h3 with⟨g1,j,r,g2,g3,g4⟩|⟨g1,g2,g3⟩
    ·have hrun:=N7 (ok:=false) hm hkt hrz h2 g2;rw[dW g1]at g4;refine Ar h hd (v:=r) ?_ g4;simp only[execOp,ho,hx,hix];simp[hrun]
    ·rw[b3]at g1;cases g1
  ·simp at he
 ·simp at he
end
section
variable {P:Program} {Γ:H6} {σ:Sto} {I:Nat->Nat->Prop} {θ:Nat->Option (Nat×Nat)} {a:Act} {w:World} {o:Oper}
theorem WG{t t' e:TypeId}(h:WF P t t' e=true):t'=t/\∃ i z,P.info? e=some i/\i.zero=some z/\z.cells.size=i.size/\i.bytes<=128/\A8 P e=i.size:=by
 simp only[WF,A6]at h;obtain⟨⟨⟨⟨⟨htt,hT⟩,hs1⟩,hby⟩,hzz⟩,hzs⟩:=h;obtain rfl:=C4 htt;obtain⟨i,dd,hi,_,hsi⟩:=AX hT;obtain⟨z,hz⟩:=zzL85.1 hzz;simp only[hi]at hz;simp only[hi,   hz]at hby hzs;have hzq:=C4 hzs;rw[hsi]at hzq;exact⟨rfl,i,z,hi,hz,hzq,K8 hby,hsi⟩
theorem PB{xs:Array Operand}{ts:Array TypeId}{b:Go.Builtin}(ho:o.op = .call { callee:=.builtin b,args:=xs,argTypes:=ts }){u:AV}(hvs:RepL I σ.own θ w (o.op.operands.toList.map a.eval) [u]) :
  ∃ x,xs.toList=[x]/\Rep I σ.own θ w (a.eval x) u:=by
 have:o.op.operands.toList.map a.eval=xs.toList.map a.eval:=by rw[ho];simp[Op.operands,Call.operands]
 rw[this]at hvs
 cases hl:xs.toList with
 | nil=>rw[hl]at hvs;cases hvs
 | cons x l=>
  rw[hl]at hvs
  cases hvs with|cons h t=>cases l with
   | nil=>exact⟨x,rfl,h⟩
   | cons _ _=>cases t
theorem PC{xs:Array Operand}{ts:Array TypeId}{b:Go.Builtin}(ho:o.op = .call { callee:=.builtin b,args:=xs,argTypes:=ts }){u v:AV}(hvs:RepL I σ.own θ w (o.op.operands.toList.map a.eval) [u,v]) :
  ∃ x y,xs.toList=[x,y]/\Rep I σ.own θ w (a.eval x) u/\Rep I σ.own θ w (a.eval y) v:=by
 have:o.op.operands.toList.map a.eval=xs.toList.map a.eval:=by rw[ho];simp[Op.operands,Call.operands]
 rw[this]at hvs
 cases hl:xs.toList with
 | nil=>rw[hl]at hvs;cases hvs
 | cons x l=>
  rw[hl]at hvs
  cases hvs with|cons h t=>cases l with
   | nil=>cases t
   | cons y l=>cases t with|cons h2 t2=>cases l with
    | nil=>grind
    | cons _ _=>cases t2
theorem cW(h:Rel Γ σ I θ a w)(hd:∀ d,o.dst=some d->d<Γ.n){vs:List AV}(hvs:RepL I σ.own θ w (o.op.operands.toList.map a.eval) vs){es:List (Option Own)}(hes:es=(Dm o vs).map σ.own){hint:Bool}
  {e:Eff} (he:oM P hint o vs es=some e) (hob:∀ p∈e.ob,p):Eb P Γ σ o a w e.v e.wo:=by
 unfold oM at he
 split at he
 ·
  rename_i t x nm n i j sz e0 m f ho
  simp only[ho,Op.operands,Cq,Dn]at hvs;obtain⟨u,hu',hu⟩:=hvs.one;simp only[Dr,Bs]at hu';subst hu'
  have hown:σ.own nm=some (.arr sz e0 m f):=by simpa [Dm,ho] using hes.symm
  cases hT:B6 P t with
  | false=>simp[hT]at he
  | true=>
   simp only[hT,Ah]at he
   cases hagg:E7 P t with
   | true=>
    simp only[hagg,Ah]at he
    cases hb:Nat.ble (j+A8 P t) sz with
    | false=>simp[hb]at he
    | true=>
     simp only[hb,Ah,Eff.pure,Ao]at he;subst he;exact(MB (P:=P) h hd ho hT hu hown (hob _ (by simp))).1 hagg (K8 hb)
   | false=>
    simp only[hagg,Aw]at he
    cases hb:Nat.blt j sz with
    | false=>simp[hb]at he
    | true=>
     simp only[hb,Ah,Eff.pure,Ao]at he;subst he;exact(MB (P:=P) h hd ho hT hu hown (hob _ (by simp))).2 hagg (by simpa [K9] using hb)
 ·
  rename_i t x y nm n i j z sz e0 m f ho
  simp only[ho,Op.operands,Cq,Dn]at hvs;obtain⟨u,v,hu',hu,hv⟩:=hvs.two;simp only[Dr,Bs]at hu';obtain⟨rfl,rfl⟩:=hu'
  have hown:σ.own nm=some (.arr sz e0 m f):=by simpa [Dm,ho] using hes.symm
  split at he
  ·rename_i cs hc
   cases hb:(B6 P t&&Nat.beq cs.length (A8 P t)&&Nat.ble (j+cs.length) sz) with
   | false=>simp[hb]at he
   | true=>
    simp only[hb,Ah,Ao]at he;subst he;simp only[A6]at hb;exact bP h hd ho hb.1.1 hu hv hown (hob _ (by simp)) hc (C4 hb.1.2) (K8 hb.2)
  ·simp at he
 ·
  rename_i s x k nm n i j ho
  simp only[ho,Op.operands,Cq,Dn]at hvs;obtain⟨u,hu',hu⟩:=hvs.one;simp only[Dr,Bs]at hu';subst hu'
  split at he
  ·rename_i fields hs
   split at he
   ·rename_i fd hf
    cases hb:(B6 P fd.type&&Nat.ble 1 (A8 P fd.type)) with
    | false=>simp[hb]at he
    | true=>
     simp only[hb,Ah,Eff.pure,Ao]at he;subst he;simp only[A6]at hb;exact JY h hd ho hs hf hb.1 (K8 hb.2) hu
   ·simp at he
  ·simp at he
 ·
  rename_i t x y nm n k i sz e0 m f ho
  simp only[ho,Op.operands,Cq,Dn]at hvs;obtain⟨u,v,hu',hu,hv⟩:=hvs.two;simp only[Dr,Bs]at hu';obtain⟨rfl,rfl⟩:=hu'
  have hown:σ.own nm=some (.arr sz e0 m f):=by simpa [Dm,ho] using hes.symm
  split at he
  ·rename_i e1 hun
   cases hb:(B6 P e1&&Nat.beq sz (A8 P e1)) with
   | false=>simp[hb]at he
   | true=>
    simp only[hb,Ah,Eff.pure,Ao]at he;subst he;simp only[A6]at hb;exact bK h hd ho hun hb.1 hu hv (hob _ (by simp)) ⟨sz,e0,m,f,hown,C4 hb.2⟩
  ·simp at he
 ·
  rename_i t x y nm n lo hi k i sz e0 m f ho
  simp only[ho,Op.operands,Cq,Dn]at hvs;obtain⟨u,v,hu',hu,hv⟩:=hvs.two;simp only[Dr,Bs]at hu';obtain⟨rfl,rfl⟩:=hu'
  have hown:σ.own nm=some (.arr sz e0 m f):=by simpa [Dm,ho] using hes.symm
  split at he
  ·rename_i e1 hun
   cases hb:(B6 P e1&&Nat.beq sz (A8 P e1)) with
   | false=>simp[hb]at he
   | true=>
    simp only[hb,Ah,Eff.pure,Ao]at he;subst he;simp only[A6]at hb;exact VP h hd ho hun hb.1 hu hv (hob _ (by simp)) hown (C4 hb.2)
  ·simp at he
 ·
  rename_i t y lo hi mx x vs' sz e0 m f ho
  split at he
  ·rename_i e1 hun
   cases hb:Nat.beq sz (A8 P e1) with
   | false=>simp[hb]at he
   | true=>
    simp only[hb,Ah]at he;have hs:=C4 hb
    have hvs':RepL I σ.own θ w ([a.eval y]++(lo.map a.eval).toList++(hi.map a.eval).toList++(mx.map a.eval).toList) (x::vs'):=by
     have:o.op.operands.toList.map a.eval=[a.eval y]++(lo.map a.eval).toList++(hi.map a.eval).toList++(mx.map a.eval).toList:=by
      rw[ho];cases lo<;>cases hi<;>cases mx<;>simp[Op.operands]
     rwa[this]at hvs
    obtain⟨h1,h2⟩:=uB h hd ho hun hvs' he hob (λnm n l0 h0 hv=>by
     have:Dm o (x::vs')=[nm]:=by
      cases x<;>simp[AV.view]at hv
      ·obtain⟨rfl,rfl,rfl,rfl⟩:=hv;simp[Dm,ho]
      ·obtain⟨rfl,rfl,rfl,rfl⟩:=hv;simp[Dm,ho]
     rw[this]at hes;simp at hes
     exact⟨sz,e0,m,f,hes.symm,hs⟩)
    rw[h1];exact h2
  ·simp at he
 ·
  rename_i xs ts x y ho
  unfold u2 at he
  split at he
  ·rename_i t t' nm n lo hi hts hview
   split at he
   ·rename_i e1 sz e0 m f es' hun
    cases hb:(B6 P e1&&Nat.beq sz (A8 P e1)) with
    | false=>simp[hb]at he
    | true=>
     simp only[hb,Ah]at he;simp only[A6]at hb;have hs:=C4 hb.2;obtain⟨p,q,hx,hu,hv⟩:=PC ho hvs
     obtain rfl:ts = #[t,t']:=by apply S4;simpa using hts
     obtain rfl:xs = #[p,q]:=by apply S4;simpa using hx
     have hneed:Dm o [x,y]=[nm]++Ue y:=by simp[Dm,ho,Ue,hview]
     rw[hneed]at hes;simp only[CF,Zc,Cq,Dr]at hes;obtain⟨hown,hes'⟩:=hes;have hown:=hown.symm
     split at he
     ·rename_i nm' n' lo' hi' sz' e2 m' f' hview'
      cases hb2:Nat.beq sz' sz with
      | false=>simp[hb2]at he
      | true=>
       simp only[hb2,Ah,Ao]at he;subst he;obtain rfl:=C4 hb2;simp[Ue,hview']at hes';have hes':=hes'.symm;obtain⟨_,_,_,_,ad',cap',hey,_⟩:=Sk h hview' hv;obtain⟨cs,hsrc⟩:=qa (P:=P) (k:=Nat.min (hi'-lo') (hi-lo)) h hview' hv hes' (hob _ (by simp)) (Nat.min_le_left _ _);exact jy h hd ho hun hb.1 hview hu hown (hob _ (by simp)) hs hey hsrc
     ·split at he
      ·rename_i sz' n' f' tag _
       cases hb2:(Nat.beq sz' sz || Nat.beq n' 0) with
       | false=>simp[hb2]at he
       | true=>
        simp only[hb2,Ah,Ao]at he;subst he;have hval:=hv.slice_val;obtain⟨_,ad',cap',us,hey,_⟩:=hval.slice_inv;obtain⟨cs,hsrc⟩:=uU (P:=P) (σ:=σ) (θ:=θ) (sz:=sz) (k:=Nat.min n' (hi-lo)) (Nat.min_le_left _ _) (KG hb2) hval;exact jy h hd ho hun hb.1 hview hu hown (hob _ (by simp)) hs hey hsrc
      ·simp at he
     ·simp at he
   ·simp at he
  ·simp at he
 ·
  rename_i xs ts x ho
  unfold oB at he
  split at he
  ·rename_i t nm n lo hi hts hview
   split at he
   ·rename_i e1 sz e0 m f hun
    split at he
    ·rename_i z hz
     cases hb:(B6 P e1&&Nat.beq sz (A8 P e1)&&Nat.beq z.length (A8 P e1)) with
     | false=>simp[hb]at he
     | true=>
      simp only[hb,Ah,Ao]at he;subst he;simp only[A6]at hb;obtain⟨p,hx,hu⟩:=PB ho hvs
      obtain rfl:ts = #[t]:=by apply S4;simpa using hts
      obtain rfl:xs = #[p]:=by apply S4;simpa using hx
      have hneed:Dm o [x]=[nm]:=by simp[Dm,ho,Ue,hview]
      rw[hneed]at hes;simp at hes;exact qC h hd ho hun hview hu hes.symm (hob _ (by simp)) (C4 hb.1.2) hz (C4 hb.2)
    ·simp at he
   ·simp at he
  ·simp at he
 ·
  rename_i x nm n i j ho
  simp only[ho,Op.operands,Cq,Dn]at hvs;obtain⟨u,hu',hu⟩:=hvs.one;simp only[Dr,Bs]at hu';subst hu';simp only[Eff.pure,Ao]at he;subst he;obtain⟨_,_,_,_,ad,hv,_⟩:=hu.vpt_inv;exact Ar h hd (v:=a.eval x) (by simp[execOp,ho,hv]) hu
 ·
  rename_i x f xs ys ho
  simp only[ho,Op.operands,Cq,Dn]at hvs;obtain⟨u,hu',hu⟩:=hvs.one;simp only[Dr,Bs]at hu';subst hu';simp only[Eff.pure,Ao]at he;subst he;obtain⟨_,_,hv,_⟩:=hu.clo_inv;exact Ar h hd (v:=a.eval x) (by simp[execOp,ho,hv]) hu
 ·
  rename_i vs es0 x0 vs0 es1 f first captured ho
  cases hb:Nat.beq vs.length (first.toList.length+captured.toList.length) with
  | false=>rw[hb]at he;simp at he
  | true=>
   have hlen:=C4 hb;simp only[hb,Ah,Eff.pure,Ao]at he;subst he
   have e1:o.op.operands.toList.map a.eval=first.toList.map a.eval++captured.toList.map a.eval:=by rw[ho];simp[Op.operands]
   rw[e1]at hvs
   have hget:∀{l:List Value} {m:List AV},RepL I σ.own θ w l m->∀ j,j<m.length->Rep I σ.own θ w (l.getD j undef) (m.getD j .any):=by
    intro l m h
    induction h with
    | nil=>intro j hj;simp at hj
    | cons h _ ih=>intro j hj;cases j with
     | zero=>simpa using h
     | succ j=>simpa using ih j (by simpa using hj)
   have hg:=hget hvs;refine Ar h hd (v:=.func (.func f) (first.map a.eval) (captured.map a.eval)) (by simp[execOp,ho,Instr.makeFunc]) (.clo f _ _ _ _ (by simp at hlen ⊢;omega) (by simp at hlen ⊢;omega) (λj hj=>?_) (λj hj=>?_))
   ·simp only[W6]at hj;have:=hg j (by omega)
    have hj1:j<first.size:=by simp at hj;omega
    have e2:(first.toList.map a.eval++captured.toList.map a.eval).getD j undef=(first.map a.eval).getD j undef:=by
     rw[List.getD,Ug (by simpa using hj1)];simp[Array.getD,hj1,List.getD]
    rw[e2]at this
    have hj2:j<first.toList.length:=by simpa using hj1
    rw[show(vs.take first.toList.length).getD j .any=vs.getD j .any by simp[List.getD,SY,hj1]];exact this
   ·simp only[CH]at hj;have:=hg (first.toList.length+j) (by omega)
    have hj1:j<captured.size:=by simp at hj hlen;omega
    have e2:(first.toList.map a.eval++captured.toList.map a.eval).getD (first.toList.length+j) undef=(captured.map a.eval).getD j undef:=by
     rw[List.getD,Ve (by simp)];simp[Array.getD,hj1,List.getD]
    rw[e2]at this;rw[show(vs.drop first.toList.length).getD j .any=vs.getD (first.toList.length+j) .any by simp[List.getD,II]];exact this
 ·
  rename_i t x y k l k' c ho
  simp only[ho,Op.operands,Cq,Dn]at hvs;obtain⟨u,v,hu',hu,hv⟩:=hvs.two;simp only[Dr,Bs]at hu';obtain⟨rfl,rfl⟩:=hu'
  split at he
  ·rename_i d e0 hdst hun
   have hown:σ.own d=none:=by simpa [Dm,ho,hdst] using hes.symm
   split at he
   ·rename_i z hz
    cases hb:(B6 P e0&&Nat.ble 1 (A8 P e0)&&Nat.beq z.length (A8 P e0)&&Nat.ble (((P.info? e0).map (·.bytes)).getD 1000) 128) with
    | false=>simp[hb]at he
    | true=>
     simp only[hb,Ah,Ao]at he;subst he;simp only[A6]at hb;exact t8 h hd ho hun hb.1.1.1 hu hv hdst hown hz (K8 hb.1.1.2) (C4 hb.1.2) (K8 hb.2) (hob _ (by simp))
   ·simp at he
  ·simp at he
 ·
  rename_i xs ts nm n ho
  split at he
  ·rename_i t hts
   split at he
   ·rename_i e0 hun
    simp only[Eff.pure,Ao]at he;subst he;obtain⟨x,hx,hu⟩:=PB ho hvs;obtain⟨_,_,_,_,ad,cap,he,_⟩:=hu.vsl_inv
    obtain rfl:xs = #[x]:=by apply S4;simpa using hx
    obtain rfl:ts = #[t]:=by apply S4;simpa using hts
    exact Ar h hd (v:=.int .i64 n) (by simp[execOp,ho,resolve,invoke,builtin,Builtin.len_,he,Cb hun,goInt]) (.val _ _ (.int _ _))
   ·simp at he
  ·simp at he
 ·
  rename_i xs ts nm n lo hi ho
  split at he
  ·rename_i t hts
   split at he
   ·rename_i e0 hun
    simp only[Eff.pure,Ao]at he;subst he;obtain⟨x,hx,hu⟩:=PB ho hvs;obtain⟨_,_,_,_,ad,cap,he,_⟩:=hu.vsub_inv
    obtain rfl:xs = #[x]:=by apply S4;simpa using hx
    obtain rfl:ts = #[t]:=by apply S4;simpa using hts
    exact Ar h hd (v:=.int .i64 (hi-lo:Nat)) (by simp[execOp,ho,resolve,invoke,builtin,Builtin.len_,he,Cb hun,goInt]) (.val _ _ (.int _ _))
   ·simp at he
  ·simp at he
 ·
  rename_i xs ts nm n sz' n' f' tag' sz0 e0 m f ho
  have hown:σ.own nm=some (.arr sz0 e0 m f):=by simpa [Dm,ho] using hes.symm
  split at he
  ·rename_i t t' hts
   split at he
   ·rename_i e1 hun
    cases hb:(WF P t t' e1&&(Nat.beq sz' (A8 P e1) || Nat.beq n' 0)&&Nat.beq sz0 (A8 P e1)&&Nat.beq e0 e1) with
    | false=>simp[hb]at he
    | true=>
     simp only[hb,Ah,Ao]at he;subst he;simp only[A6]at hb;obtain⟨⟨⟨hok,hsz'⟩,hsz0⟩,he0⟩:=hb;obtain⟨rfl,i,z,hi,hz,hzq,hby,hsi⟩:=WG hok;obtain rfl:=C4 he0;have hsz0:=C4 hsz0;rw[hsi]at hsz0 hsz';subst hsz0;obtain⟨x,y,hx,hu,hv⟩:=PC ho hvs;have hnm:n=m:=hob _ (by simp);have hroom:n+n'<=room:=hob _ (by simp);subst hnm;have hV':=BR hv.slice_val (KG hsz')
     obtain rfl:ts = #[t',t']:=by apply S4;simpa using hts
     obtain rfl:xs = #[x,y]:=by apply S4;simpa using hx
     obtain⟨v',w',θ',hr,hk,hrep⟩:=Yv (P:=P) h o.type hun hi hz hzq hby hV' hroom nm (.inr ⟨hown,hu⟩);exact Jr (w':=w') h hd (v:=v') (by simp[execOp,ho,resolve,invoke,builtin,hr]) (by rw[B0];exact hk) (by rw[B0];exact hrep)
   ·simp at he
  ·simp at he
 ·
  rename_i xs ts sz n f sz' n' f' tag' ho
  split at he
  ·rename_i t t' d hts hdst
   have hown:σ.own d=none:=by simpa [Dm,ho,hdst] using hes.symm
   split at he
   ·rename_i e1 hun
    cases hb:(hint&&WF P t t' e1&&(Nat.beq sz' (A8 P e1) || Nat.beq n' 0)&&Nat.beq n 0) with
    | false=>simp[hb]at he
    | true=>
     simp only[hb,Ah,Ao]at he;subst he;simp only[A6]at hb;obtain⟨⟨⟨_,hok⟩,hsz'⟩,hn0⟩:=hb;obtain⟨rfl,i,z,hi,hz,hzq,hby,hsi⟩:=WG hok;obtain rfl:=C4 hn0;rw[hsi]at hsz';obtain⟨x,y,hx,hu,hv⟩:=PC ho hvs;have hroom:n'<=room:=hob _ (by simp);have hV':=BR hv.slice_val (KG hsz')
     obtain rfl:ts = #[t',t']:=by apply S4;simpa using hts
     obtain rfl:xs = #[x,y]:=by apply S4;simpa using hx
     obtain⟨ad,hvx⟩:=hu.exact_inv;obtain⟨v',w',θ',hr,hk,hrep⟩:=Yv (P:=P) (f:=f') h o.type hun hi hz hzq hby hV' (n:=0) (by omega) d (.inl ⟨hown,rfl,ad,hvx⟩)
     have e1:O1 0 f' f'=f':=by funext k;rw[Ul _ _ (P4 _)];rfl
     rw[e1,E6]at hk;rw[e1,E6]at hrep;rw[hsi];exact Jr (w':=w') h hd (v:=v') (by simp[execOp,ho,resolve,invoke,builtin,hr]) (by rw[B0];exact hk) (by rw[B0];exact hrep)
   ·simp at he
  ·simp at he
 ·simp at he
theorem cY(h:Rel Γ σ I θ a w)(hd:∀ d,o.dst=some d->d<Γ.n){vs:List AV}(hvs:RepL I σ.own θ w (o.op.operands.toList.map a.eval) vs){es:List (Option Own)}(hes:es=(Dm o vs).map σ.own){hint:Nat}
  {e:Eff} (he:oO P hint o vs es=some e) (hob:∀ p∈e.ob,p):Eb P Γ σ o a w e.v e.wo:=by
 unfold oO at he
 split at he
 ·rename_i e' he'
  simp only[Ao]at he;subst he;exact cX h hd hvs hes he' hob
 ·split at he
  ·rename_i e' he'
   simp only[Ao]at he;subst he;exact cW h hd hvs hes he' hob
  ·split at he
   ·rename_i e' he'
    simp only[Ao]at he;subst he;exact cU h hd hvs hes he' hob
   ·split at he
    ·rename_i e' he'
     simp only[Ao]at he;subst he;exact cV h hd hvs hes he' hob
    ·split at he
     ·rename_i e' he'
      simp only[Ao]at he;subst he;exact cT h hd hvs hes he' hob
     ·exact ff h hd hvs hes he hob
end
def Spec(P:Program):GP:=λf args H res H'=>
 (∀(az:Array Value) (w:World),(callFunc f az).run P w = .ok (.enter f az) w) /\
 ∀(w:World) (I:Nat->Nat->Prop) (θ:Nat->Option (Nat×Nat)) (az:Array Value),RepL I (Aj H) θ w az.toList args->Jk I (Aj H) θ w->(∀ b o,I b o->∃ u,w.cell? ⟨b,o,none⟩=some u)->GOk I w->
  Calls P f az w λe w'=>∃ v I' θ',e = .returned v/\Chg (Aj H) θ I w (Aj H') θ' I' w'/\Rep I' (Aj H') θ' w' v res
theorem Bl(ρ:List (Nat×Nat))(l:List AV):(AV.renAll ρ l).length=l.length:=by induction l with|nil=>rfl|cons x l ih=>simp[AV.renAll,ih]
theorem L0(ρ:List (Nat×Nat))(l:List AV)(j:Nat):(AV.renAll ρ l).getD j .any=(l.getD j .any).ren ρ:=by
 induction l generalizing j with
 | nil=>rfl
 | cons x l ih=>cases j with
  | zero=>rfl
  | succ j=>simp_all [AV.renAll]
theorem RepV.ren{I:Nat->Nat->Prop}{w:World}{v:Value}{x:AV}(h:RepV I w v x)(ρ:List (Nat×Nat)):RepV I w v (x.ren ρ):=by
 induction h with
 | any v=>exact .any v
 | undef=>exact .undef
 | int k n=>exact .int k n
 | bool b=>exact .bool b
 | str s=>exact .str s
 | clo f=>exact .clo f
 | nxt1 i r=>exact .nxt1 i r
 | nxt0 i r=>exact .nxt0 i r
 | nilq b pos n h=>exact .nilq b pos n h
 | err0=>exact .err0
 | err1 t v=>exact .err1 t v
 | nilp=>exact .nilp
 | nilm=>exact .nilm
 | cond v c x _ h' ih=>exact .cond v c _ ih h'
 | rptr a cells us hs hI' hc h1 hr _=>exact .rptr a _ us hs hI' hc h1 hr
 | slice a n cap sz f us hcap hmax hz hn h1 hl hr _=>exact .slice a n cap sz f us hcap hmax hz hn h1 hl hr
 | agg vs cs hl h1 _ ih=>exact .agg vs _ (by rw[Bl,hl]) (λj hj=>h1 j (by rwa[Bl]at hj)) (λj hj=>by grind [Bl,L0])
 | tuple vs cs hl _ ih=>exact .tuple vs _ (by rw[Bl,hl]) (λj hj=>by grind [Bl,L0])
theorem Rep.ren{I:Nat->Nat->Prop}{own own':Nat->Option Own}{θ θ':Nat->Option (Nat×Nat)}{w:World}{v:Value}{x:AV}(h:Rep I own θ w v x)(ρ:List (Nat×Nat))
  (ho:∀ nm k o,Aj ρ nm=some k->own nm=some o->own' k=some (o.ren ρ)/\θ' k=θ nm):Rep I own' θ' w v (x.ren ρ):=by
 induction h with
 | val v x h=>exact .val _ _ (h.ren ρ)
 | exact a n sz f h=>exact .exact a n sz f h
 | own nm sz e m a n cap f hn hm hv h=>
  simp only[AV.ren]
  cases hk:Aj ρ nm with
  | some k=>
   obtain⟨h1,h2⟩:=ho nm k _ hk hn;exact .own k sz e m a n cap f h1 hm (by grind) h
  | none=>exact .val _ _ h
 | fam b i sz e m a n cap f hi hn hm hv h=>exact .val _ _ h
 | ptr nm off e cells g c hn hg=>
  simp only[AV.ren]
  cases hk:Aj ρ nm with
  | some k=>
   obtain⟨h1,h2⟩:=ho nm k _ hk hn;exact .ptr k off e _ g c h1 (h2.trans hg)
  | none=>exact .val _ _ (.any _)
 | vsl nm sz e m f a n cap hn hm hcap hmax hnn hv=>
  simp only[AV.ren]
  cases hk:Aj ρ nm with
  | some k=>
   obtain⟨h1,h2⟩:=ho nm k _ hk hn;exact .vsl k sz e m _ a n cap h1 hm hcap hmax hnn (by grind)
  | none=>exact .val _ _ (.any _)
 | vpt nm sz e m f n i j ad hn hm hi hv=>
  simp only[AV.ren]
  cases hk:Aj ρ nm with
  | some k=>
   obtain⟨h1,h2⟩:=ho nm k _ hk hn;exact .vpt k sz e m _ n i j ad h1 hm hi (by grind)
  | none=>exact .val _ _ (.any _)
 | clo f fs cs xs ys hl hl' _ _ ih ih'=>exact .clo f fs cs _ _ (by rw[Bl,hl]) (by rw[Bl,hl']) (λj hj=>by grind [Bl,L0]) (λj hj=>by grind [Bl,L0])
 | vsub nm sz e m f n lo hi a cap hn hm hlo hhi hcap hmax hnn hv=>
  simp only[AV.ren]
  cases hk:Aj ρ nm with
  | some k=>
   obtain⟨h1,h2⟩:=ho nm k _ hk hn;exact .vsub k sz e m _ n lo hi a cap h1 hm hlo hhi hcap hmax hnn (by grind)
  | none=>exact .val _ _ (.any _)
 | optr nm mm x g c hn hg=>
  simp only[AV.ren]
  cases hk:Aj ρ nm with
  | some k=>
   obtain⟨h1,h2⟩:=ho nm k _ hk hn;exact .optr k _ _ g c h1 (h2.trans hg)
  | none=>exact .val _ _ (.any _)
 | omap nm x hn=>
  simp only[AV.ren]
  cases hk:Aj ρ nm with
  | some k=>
   obtain⟨h1,h2⟩:=ho nm k _ hk hn;rw[<- h2];exact .omap k _ h1
  | none=>exact .val _ _ (.any _)
 | cond v c x _ h' ih=>exact .cond v c _ ih h'
 | agg vs cs hl h1 _ ih=>exact .agg vs _ (by rw[Bl,hl]) (λj hj=>h1 j (by rwa[Bl]at hj)) (λj hj=>by grind [Bl,L0])
 | tuple vs cs hl _ ih=>exact .tuple vs _ (by rw[Bl,hl]) (λj hj=>by grind [Bl,L0])
 | rpo a cells us hs hI' hc h1 _ ih=>exact .rpo a _ us hs (λj hj=>hI' j (by rwa[Bl]at hj)) (λj hj=>hc j (by rwa[Bl]at hj)) (λj hj=>h1 j (by rwa[Bl]at hj)) (λj hj=>by grind [Bl,L0])
theorem RepL.ren{I:Nat->Nat->Prop}{own own':Nat->Option Own}{θ θ':Nat->Option (Nat×Nat)}{w:World}{l:List Value}{m:List AV}(h:RepL I own θ w l m)(ρ:List (Nat×Nat))
  (ho:∀ nm k o,Aj ρ nm=some k->own nm=some o->own' k=some (o.ren ρ)/\θ' k=θ nm):RepL I own' θ' w l (m.map (AV.ren ρ)):=by
 induction h with
 | nil=>exact .nil
 | cons h _ ih=>exact .cons (h.ren ρ ho) ih
theorem Kc(l:List AV):(AV.looseAll l).length=l.length:=by induction l with|nil=>rfl|cons x l ih=>simp[AV.looseAll,ih]
theorem EH(l:List AV)(j:Nat):(AV.looseAll l).getD j .any=(l.getD j .any).loose:=by
 induction l generalizing j with
 | nil=>rfl
 | cons x l ih=>cases j with
  | zero=>rfl
  | succ j=>simp_all [AV.looseAll]
theorem RepV.loose{I:Nat->Nat->Prop}{w:World}{v:Value}{x:AV}(h:RepV I w v x):RepV I w v x.loose:=by
 induction h with
 | agg vs cs hl h1 _ ih=>exact .agg vs _ (by rw[Kc,hl]) (λj hj=>h1 j (by rwa[Kc]at hj)) (λj hj=>by grind [EH,Kc])
 | any v=>exact .any v
 | undef=>exact .undef
 | int k n=>exact .int k n
 | bool b=>exact .bool b
 | str s=>exact .str s
 | clo f=>exact .clo f
 | nxt1 i r=>exact .nxt1 i r
 | nxt0 i r=>exact .nxt0 i r
 | nilq b pos n h=>exact .nilq b pos n h
 | err0=>exact .err0
 | err1 t v=>exact .err1 t v
 | nilp=>exact .nilp
 | nilm=>exact .nilm
 | cond v c x h h'=>exact .cond v c x h h'
 | rptr a cells us hs hI hc h1 hr=>exact .rptr a _ us hs hI hc h1 hr
 | slice a n cap sz f us hcap hmax hz hn h1 hl hr=>exact .slice a n cap sz f us hcap hmax hz hn h1 hl hr
 | tuple vs cs hl hr=>exact .tuple vs cs hl hr
theorem Rep.loose{I:Nat->Nat->Prop}{own:Nat->Option Own}{θ:Nat->Option (Nat×Nat)}{w:World}{v:Value}{x:AV}(h:Rep I own θ w v x):Rep I own θ w v x.loose:=by
 induction h with
 | val v x h=>exact .val _ _ h.loose
 | exact a n sz f h=>
  simp only[AV.loose]
  cases Nat.beq sz 0 with
  | true=>exact .exact a n sz f h
  | false=>exact .val _ _ h
 | own nm sz e m a n cap f ho hm hv h=>exact .own nm sz e m a n cap f ho hm hv h
 | fam b i sz e m a n cap f hi ho hm hv h=>exact .fam b i sz e m a n cap f hi ho hm hv h
 | ptr nm off e cells g c ho hg=>exact .ptr nm off e _ g c ho hg
 | vsl nm sz e m f a n cap ho hm hcap hmax hn hv=>exact .vsl nm sz e m f a n cap ho hm hcap hmax hn hv
 | vpt nm sz e m f n i j ad ho hm hi hv=>exact .vpt nm sz e m f n i j ad ho hm hi hv
 | clo f fs cs xs ys hl hl' hr hr' _ _=>exact .clo f fs cs xs ys hl hl' hr hr'
 | vsub nm sz e m f n lo hi a cap ho hm hlo hhi hcap hmax hn hv=>exact .vsub nm sz e m f n lo hi a cap ho hm hlo hhi hcap hmax hn hv
 | optr nm mm x g c ho hg=>exact .optr nm mm x g c ho hg
 | omap nm x ho=>exact .omap nm x ho
 | cond v c x h h' _=>exact .cond v c x h h'
 | agg vs cs hl h1 _ ih=>exact .agg vs _ (by rw[Kc,hl]) (λj hj=>h1 j (by rwa[Kc]at hj)) (λj hj=>by grind [EH,Kc])
 | tuple vs cs hl hr _=>exact .tuple vs cs hl hr
 | rpo a cells us hs hI' hc h1 hr _=>exact .rpo a _ us hs hI' hc h1 hr
theorem RepL.loose{I:Nat->Nat->Prop}{own:Nat->Option Own}{θ:Nat->Option (Nat×Nat)}{w:World}{l:List Value}{m:List AV}(h:RepL I own θ w l m):RepL I own θ w l (m.map AV.loose):=by
 induction h with
 | nil=>exact .nil
 | cons h _ ih=>exact .cons h.loose ih
theorem Nn{α:Type}{l:List (Nat×α)}{k:Nat}{v:α}(h:Aj l k=some v):(k,v)∈l:=by
 induction l with
 | nil=>cases h
 | cons x l ih=>
  simp only[Aj]at h
  grind [C4]
theorem memB_mem{n:Nat}{l:List Nat}:Bv n l=true↔n∈l:=by
 induction l with
 | nil=>simp[Bv]
 | cons k l ih=>
  simp only[Bv,  zzL34]
  constructor
  ·grind [C4]
  ·rintro(rfl|h)
   ·simp
   grind
theorem Oi{l:List Nat}(h:X2 l=true):l.Nodup:=by
 induction l with
 | nil=>simp
 | cons k l ih=>
  simp only[X2,A6]at h
  grind [memB_mem]
theorem Sd{α:Type}{l:List (Nat×α)}(hn:(l.map (·.1)).Nodup){k:Nat}{v:α}(h:(k,v)∈l):Aj l k=some v:=by
 induction l with
 | nil=>cases h
 | cons x l ih=>
  simp only[Aj];rcases zzL34.1 h with h|h
  ·cases h;simp
  grind [C4]
theorem Wj{α:Type}{l:List (Nat×α)}{k:Nat}(h:k∉l.map (·.1)):Aj l k=none:=by
 cases hl:Aj l k with
 | none=>rfl
 | some v=>exact(h (zzL21.2 ⟨_,Nn hl,rfl⟩)).elim
def K6(l:List (Nat×Nat)):List (Nat×Nat):=l.map λx=>(x.2,x.1)
theorem Rp{l:List (Nat×Nat)}(h1:(l.map (·.1)).Nodup)(h2:(l.map (·.2)).Nodup){k c:Nat}:Aj l k=some c↔Aj (K6 l) c=some k:=by
 have e:(K6 l).map (·.1)=l.map (·.2):=by simp[K6]
 constructor
 ·intro h;exact Sd (by grind) (zzL21.2 ⟨_,Nn h,rfl⟩)
 ·intro h;obtain⟨x,hx,hx'⟩:=zzL21.1 (Nn h)
  grind [Sd]
theorem pg{α β:Type}(g:α->β)(l:List (Nat×α))(k:Nat):Aj (l.map λx=>(x.1,g x.2)) k=(Aj l k).map g:=by
 induction l with
 | nil=>rfl
 | cons x l ih=>
  grind [Aj]
theorem cR{l:List Nat}{own:Nat->Option Own}(h:NV (l.map own)=true):∀ n∈l,own n=none:=by
 induction l with
 | nil=>simp
 | cons k l ih=>
  grind [Cq,NV,zzL34]
theorem LP{own:Nat->Option Own}{tl:List (Option Own)}:∀{hs:List (Nat×Nat)} {H:List (Nat×Own)},AW hs (hs.map (λx=>own x.1)++tl)=some H->
  H.map (·.1)=hs.map (·.2)/\∀ c k,(c,k)∈hs->∃ o,own c=some o/\(k,o)∈H
 | [],H,h=>by grind [AW]
 | (c,k)::hs,H,h=>by
  simp only[Cq,CF]at h
  cases hc:own c with
  | none=>grind [AW]
  | some o=>
   rw[hc]at h;simp only[AW]at h
   cases hr:AW hs (hs.map (λx=>own x.1)++tl) with
   | none=>grind
   | some H'=>
    rw[hr]at h;simp only[Ao]at h;obtain⟨h1,h2⟩:=LP hr
    grind
section
variable {P:Program} {Γ:H6} {σ:Sto} {I:Nat->Nat->Prop} {θ:Nat->Option (Nat×Nat)} {a:Act} {w:World} {o:Oper}
theorem kl{o o':Own}{t t':Option (Nat×Nat)}(ρ ρ':List (Nat×Nat))(h:OwnLe (o.ren ρ) t o' t'):OwnLe o t (o'.ren ρ') t':=by
 cases o<;>cases o'<;>trivial
theorem o5{own own':Nat->Option Own}{θ θ':Nat->Option (Nat×Nat)}{I I':Nat->Nat->Prop}{w w':World}(hrel:Jk I own θ w){co co':Nat->Option Own}{ct ct':Nat->Option (Nat×Nat)}
  {hs bk:List (Nat×Nat)} (k:Chg co ct I w co' ct' I' w')
  (hco:∀ n,co n≠none->∃ c o,(c,n)∈hs/\own c=some o/\co n=some (o.ren hs)/\ct n=θ c)
  (hhs:∀ c n o,(c,n)∈hs->own c=some o->co n=some (o.ren hs)/\ct n=θ c/\Aj bk n=some c)
  (hbk1:∀ n c,Aj bk n=some c->(∃ o,(c,n)∈hs/\own c=some o)\/own c=none)
  (hbk:∀ n c o,Aj bk n=some c->co' n=some o->own' c=some (o.ren bk)/\θ' c=ct' n)
  (hoth:∀ c,(∀ n,co' n≠none->Aj bk n≠some c)->own' c=own c/\θ' c=θ c) :
  Chg own θ I w own' θ' I' w':=by
 have hle:∀ nm o,own nm=some o->∃ o',own' nm=some o'/\OwnLe o (θ nm) o' (θ' nm):=λnm o ho=>by
  by_cases hx:∃ n,(nm,n)∈hs
  ·obtain⟨n,hn⟩:=hx;obtain⟨h1,h2,h3⟩:=hhs nm n o hn ho;obtain⟨o',ho',hl⟩:=k.le n _ h1
   grind [kl]
  ·obtain⟨h1,h2⟩:=hoth nm (λn hn hb=>by
    grind)
   exact⟨o,h1.trans ho,by rw[h2];exact .refl _ _⟩
 have hmono:∀ v x,Rep I own θ w v x->Rep I' own' θ' w' v x:=λv x h=>h.mono k.imm k.cell hle
 have hfar:∀ c g cc,(∀ n,co' n≠none->Aj bk n≠some c)->own c≠none->θ c=some (g,cc)->∀ n cc',co n≠none->ct n≠some (g,cc'):=λc g cc hc ho hg n cc' hn hg'=>by
  obtain⟨c',o',hm,ho',_,ht⟩:=hco n hn;rw[ht]at hg';have:=hrel.inj c c' g cc cc' ho (by simp[ho']) hg hg';subst this;obtain⟨h1,h2,h3⟩:=hhs c n o' hm ho';obtain⟨o'',ho'',_⟩:=k.le n _ h1
  grind
 refine{ imm:=k.imm,cell:=k.cell,le:=hle,rel:=?_,valid:=k.valid,os:=k.os,tape:=k.tape,output:=k.output,drawn:=k.drawn,grow:=k.grow,frame:=λb hb hn=>k.frame b hb (λn cc hn' hg=>?_),new:=λnm g c ho hg=>?_,immNew:=λb o h=>?_ }
 ·
  have hsplit:∀ nm,(∃ n,co' n≠none/\Aj bk n=some nm)\/(own' nm=own nm/\θ' nm=θ nm/\∀ n,co' n≠none->Aj bk n≠some nm):=λnm=>by
   grind
  have hkeep:∀ nm g cc,(∀ n,co' n≠none->Aj bk n≠some nm)->own nm≠none->θ nm=some (g,cc)->w'.heap[g]?=w.heap[g]?/\∀ j,I' g j->I g j:=λnm g cc hn ho hg=>by
   have hlt:=Lz hrel ho hg;have hf:=hfar nm g cc hn ho hg;refine⟨k.frame g hlt hf,λj hj=>?_⟩;rcases k.immNew g j hj with h|h|⟨n,c,h1,h2⟩
   ·exact h
   ·omega
   grind
  refine⟨λnm e0 cells ho=>?_,λnm sz e m ho g c hg=>?_,λnm nm' g c c' ho ho' hg hg'=>?_,λnm sz e m f ho=>?_,λnm x ho=>?_,λnm sz m ho hnn=>?_⟩
  rotate_left 5
  ·rcases hsplit nm with⟨n,hn,hb⟩|⟨h1,h2,h3⟩
   ·cases hcn:co' n with
    | none=>grind
    | some o'=>
     obtain⟨h1,h2⟩:=hbk n nm o' hb hcn;rw[ho]at h1
     cases o' with
     | row=>simp[Own.ren]at h1
     | arr=>simp[Own.ren]at h1
     | obj=>simp[Own.ren]at h1
     | tok s' e' m'=>
      simp only[Own.ren,Ao,Own.tok.injEq]at h1;obtain⟨rfl,rfl,rfl⟩:=h1;exact k.rel.tok8 n _ _ hcn (h2.symm.trans hnn)
   ·rw[h1]at ho;exact hrel.tok8 nm sz m ho (h2.symm.trans hnn)
  rotate_left 4
  ·rcases hsplit nm with⟨n,hn,hb⟩|⟨h1,h2,h3⟩
   ·cases hcn:co' n with
    | none=>grind
    | some o'=>
     obtain⟨h1,h2⟩:=hbk n nm o' hb hcn;rw[ho]at h1
     cases o' with
     | tok=>simp[Own.ren]at h1
     | row=>simp[Own.ren]at h1
     | arr=>simp[Own.ren]at h1
     | obj x'=>
      simp only[Own.ren,Ao,Own.obj.injEq]at h1;subst h1;exact Mh (k.rel.obj n _ hcn) h2 (λ_ _ _=>rfl) (λ_ _ _ _ h=>h) (λ_ h=>h.on _ (λ_ _ h=>h) (λ_ _ _=>rfl) λv y hv=>hv.ren bk (λn' c' o h h'=>hbk n' c' o h h')) RM
   ·rw[h1]at ho;exact Mh (hrel.obj nm _ ho) h2 (λg c hg=>(hkeep nm g c h3 (by simp[ho]) hg).1) (λg c j hg hj=>(hkeep nm g c h3 (by simp[ho]) hg).2 j hj) (λ_ h=>h.mono hmono) Vs
  rotate_left 3
  ·rcases hsplit nm with⟨n,hn,hb⟩|⟨h1,h2,h3⟩
   ·cases hcn:co' n with
    | none=>grind
    | some o'=>
     obtain⟨h1,h2⟩:=hbk n nm o' hb hcn;rw[ho]at h1
     cases o' with
     | tok=>simp[Own.ren]at h1
     | row=>simp[Own.ren]at h1
     | obj=>simp[Own.ren]at h1
     | arr s' e' m' f'=>
      simp only[Own.ren,Ao,Own.arr.injEq]at h1;obtain⟨rfl,rfl,rfl,rfl⟩:=h1;exact Qf (k.rel.arr n _ _ _ _ hcn) h2 (λ_ _ _=>rfl) (λ_ _ _ _ h=>h) (λi _=>Bl _ _) (λv i j _ _ hv=>by rw[L0];exact hv.ren bk (λn' c' o h h'=>hbk n' c' o h h'))
   ·rw[h1]at ho;exact Qf (hrel.arr nm _ _ _ _ ho) h2 (λg c hg=>(hkeep nm g c h3 (by simp[ho]) hg).1) (λg c j hg hj=>(hkeep nm g c h3 (by simp[ho]) hg).2 j hj) (λ_ _=>rfl) (λv i j _ _ hv=>hmono _ _ hv)
  ·rcases hsplit nm with⟨n,hn,hb⟩|⟨h1,h2,h3⟩
   ·cases hcn:co' n with
    | none=>grind
    | some o'=>
     obtain⟨h1,h2⟩:=hbk n nm o' hb hcn;rw[ho]at h1
     cases o' with
     | tok=>simp[Own.ren]at h1
     | arr=>simp[Own.ren]at h1
     | obj=>simp[Own.ren]at h1
     | row e' cs=>
      simp only[Own.ren,Ao,Own.row.injEq]at h1;obtain⟨rfl,rfl⟩:=h1;obtain⟨g,c,vs,r1,r2,r3,r4,r5,r6⟩:=k.rel.row n _ cs hcn;refine⟨g,c,vs,h2.trans r1,r2,by grind [Bl],λj hj=>r4 j (by rwa[Bl]at hj),λj hj=>?_,r6⟩;rw[L0];exact(r5 j (by rwa[Bl]at hj)).ren bk (λn' c' o h h'=>hbk n' c' o h h')
   ·rw[h1]at ho;obtain⟨g,c,vs,r1,r2,r3,r4,r5,r6⟩:=hrel.row nm _ cells ho;obtain⟨q1,q2⟩:=hkeep nm g c h3 (by simp[ho]) r1;exact⟨g,c,vs,h2.trans r1,q1.trans r2,r3,r4,λj hj=>hmono _ _ (r5 j hj),λj hj=>r6 j (q2 j hj)⟩
  ·rcases hsplit nm with⟨n,hn,hb⟩|⟨h1,h2,h3⟩
   ·cases hcn:co' n with
    | none=>grind
    | some o'=>
     obtain⟨h1,h2⟩:=hbk n nm o' hb hcn;rw[ho]at h1
     cases o' with
     | row=>simp[Own.ren]at h1
     | arr=>simp[Own.ren]at h1
     | obj=>simp[Own.ren]at h1
     | tok s' e' m'=>
      simp only[Own.ren,Ao,Own.tok.injEq]at h1;obtain⟨rfl,rfl,rfl⟩:=h1;exact k.rel.tok n _ _ _ hcn g c (by grind)
   ·rw[h1]at ho;rw[h2]at hg;obtain⟨cur,fz,r1,r2,r3,r4,r5',r5⟩:=hrel.tok nm sz e m ho g c hg;obtain⟨q1,q2⟩:=hkeep nm g c h3 (by simp[ho]) hg
    grind
  ·have hθb:∀ n nm,co' n≠none->Aj bk n=some nm->θ' nm=ct' n:=λn nm hn hb=>by
    cases hcn:co' n with
    | none=>grind
    | some o'=>grind
   have hmix:∀ nm nm' n c c',co' n≠none->Aj bk n=some nm->(∀ n,co' n≠none->Aj bk n≠some nm')->own nm'≠none->θ nm'=some (g,c')->ct' n=some (g,c)->False:=λnm nm' n c c' hn hb h3 ho hg hg'=>by
    have hlt:=Lz hrel ho hg;rcases k.new n g c hn hg' with h|⟨n',cc,h,h'⟩
    ·omega
    ·exact hfar nm' g c' h3 ho hg n' cc h h'
   rcases hsplit nm with⟨n,hn,hb⟩|⟨h1,h2,h3⟩<;>rcases hsplit nm' with⟨n',hn',hb'⟩|⟨h1',h2',h3'⟩
   ·rw[hθb n nm hn hb]at hg;rw[hθb n' nm' hn' hb']at hg';have:=k.rel.inj n n' g c c' hn hn' hg hg'
    grind
   ·rw[hθb n nm hn hb]at hg;rw[h1']at ho';rw[h2']at hg';exact(hmix nm nm' n c c' hn hb h3' ho' hg' hg).elim
   ·rw[hθb n' nm' hn' hb']at hg';rw[h1]at ho;rw[h2]at hg;exact(hmix nm' nm n' c' c hn' hb' h3 ho hg hg').elim
   ·rw[h1]at ho;rw[h1']at ho';rw[h2]at hg;rw[h2']at hg';exact hrel.inj nm nm' g c c' ho ho' hg hg'
 ·grind
 ·by_cases hx:∃ n,co' n≠none/\Aj bk n=some nm
  ·obtain⟨n,hn,hb⟩:=hx
   cases hcn:co' n with
   | none=>grind
   | some o'=>
    obtain⟨_,h2⟩:=hbk n nm o' hb hcn;rw[h2]at hg;rcases k.new n g c hn hg with h|⟨n',cc,h,h'⟩
    ·grind
    ·obtain⟨c',o'',hm,ho',_,ht⟩:=hco n' h
     grind
  grind
 ·rcases k.immNew b o h with h|h|⟨n,c,h1,h2⟩
  ·grind
  ·grind
  grind
theorem di(h:Rel Γ σ I θ a w)(hd:∀ d,o.dst=some d->d<Γ.n){f:FuncId}{ws:List Value}(hexec:(execOp a.eval o).run P w = .ok (.enter f ws.toArray) w)
  {r:Vl} {es:List (Option Own)} (hes:es=(r.hs.map (·.1)++r.fr.map (·.2)).map σ.own) {H:List (Nat×Own)} (hH:AW r.hs es=some H) (hc:Tl es r=true)
  (hq:Jk I (Aj (H.map λx=>(x.1,x.2.ren r.hs))) (λn=>(Aj (K6 r.hs) n).bind θ) w->(∀ nm k o,Aj r.hs nm=some k->σ.own nm=some o->Aj (H.map λx=>(x.1,x.2.ren r.hs)) k=some (o.ren r.hs)/\(Aj (K6 r.hs) k).bind θ=θ nm)->
   Calls P f ws.toArray w λe w'=>∃ v I' θ',e = .returned v/\Chg (Aj (H.map λx=>(x.1,x.2.ren r.hs))) (λn=>(Aj (K6 r.hs) n).bind θ) I w (Aj r.H) θ' I' w'/\Rep I' (Aj r.H) θ' w' v r.res) :
  Eb P Γ σ o a w (r.res.ren (Fy r)) (Qg r):=by
   simp only[Tl,A6]at hc;obtain⟨⟨⟨⟨⟨c1,c2⟩,c3⟩,c4⟩,c5⟩,c6⟩:=hc;have c2:=Oi c2;have c3:=Oi c3;have c4:=Oi c4;have c5:=Oi c5
   have hes':es=r.hs.map (λx=>σ.own x.1)++r.fr.map (λx=>σ.own x.2):=by
    rw[hes];simp[FU]
   rw[hes']at hH c1
   have hfr:∀ k c,(k,c)∈r.fr->σ.own c=none:=λk c hm=>by
    have hl:(r.hs.map (λx=>σ.own x.1)).length=r.hs.length:=by simp
    rw[<- hl,List.drop_left]at c1
    have e1:r.fr.map (λx=>σ.own x.2)=(r.fr.map (·.2)).map σ.own:=by simp[FU]
    rw[e1]at c1;exact cR c1 c (zzL21.2 ⟨_,hm,rfl⟩)
   obtain⟨h1,h2⟩:=LP hH;have hbk:Fy r=K6 r.hs++r.fr:=rfl
   have hHn:(H.map (·.1)).Nodup:=by
    rw[h1]
    have:(Fy r).map (·.1)=r.hs.map (·.2)++r.fr.map (·.1):=by simp[Fy,FU]
    rw[this]at c3;exact(List.nodup_append.1 c3).1
   have hsn:((K6 r.hs).map (·.1)).Nodup:=by
    have:(K6 r.hs).map (·.1)=r.hs.map (·.2):=by simp[K6]
    rw[this,<- h1];exact hHn
   have hHl:∀ c n,(c,n)∈r.hs->∃ o,σ.own c=some o/\Aj H n=some o:=λc n hm=>by
    obtain⟨o',ho',hm'⟩:=h2 c n hm;exact⟨o',ho',Sd hHn hm'⟩
   have hco:∀ n,Aj (H.map λx=>(x.1,x.2.ren r.hs)) n=(Aj H n).map (Own.ren r.hs):=λn=>pg _ _ _
   have hct:∀ c n,(c,n)∈r.hs->(Aj (K6 r.hs) n).bind θ=θ c:=λc n hm=>by
    rw[Sd hsn (zzL21.2 ⟨_,hm,rfl⟩)];rfl
   have hbkh:∀ c n,(c,n)∈r.hs->Aj (Fy r) n=some c:=λc n hm=>Sd c3 (by rw[hbk];exact zzL11.2 (.inl (zzL21.2 ⟨_,hm,rfl⟩)))
   have hin:∀ nm k o,Aj r.hs nm=some k->σ.own nm=some o->Aj (H.map λx=>(x.1,x.2.ren r.hs)) k=some (o.ren r.hs)/\(Aj (K6 r.hs) k).bind θ=θ nm:=λnm k o hl ho'=>by
    grind [Nn]
   have hcown:∀ n,Aj (H.map λx=>(x.1,x.2.ren r.hs)) n≠none->∃ c o,(c,n)∈r.hs/\σ.own c=some o/\Aj (H.map λx=>(x.1,x.2.ren r.hs)) n=some (o.ren r.hs)/\(Aj (K6 r.hs) n).bind θ=θ c:=λn hn=>by
    rw[hco]at hn
    cases hl:Aj H n with
    | none=>grind
    | some o'=>
     have hm:n∈H.map (·.1):=zzL21.2 ⟨_,Nn hl,rfl⟩
     grind
   have hrelc:Jk I (Aj (H.map λx=>(x.1,x.2.ren r.hs))) (λn=>(Aj (K6 r.hs) n).bind θ) w:=by
    have hrel:=h.chg.rel;refine⟨λnm e0 cells hn=>?_,λnm sz e m hn g c hg=>?_,λnm nm' g c c' hn hn' hg hg'=>?_,λnm sz e m f hn=>?_,λnm x hn=>?_,λnm sz m hn hnn=>?_⟩
    rotate_left 5
    ·obtain⟨c',o',hm,ho',hl,ht⟩:=hcown nm (by simp[hn]);rw[hl]at hn
     cases o' with
     | row=>simp[Own.ren]at hn
     | arr=>simp[Own.ren]at hn
     | obj=>simp[Own.ren]at hn
     | tok s' e' m'=>
      simp only[Own.ren,Ao,Own.tok.injEq]at hn;obtain⟨rfl,rfl,rfl⟩:=hn;exact hrel.tok8 c' _ _ ho' (ht.symm.trans hnn)
    rotate_left 4
    ·obtain⟨c,o',hm,ho',hl,ht⟩:=hcown nm (by simp[hn]);rw[hl]at hn
     cases o' with
     | tok=>simp[Own.ren]at hn
     | row=>simp[Own.ren]at hn
     | arr=>simp[Own.ren]at hn
     | obj x'=>
      simp only[Own.ren,Ao,Own.obj.injEq]at hn;subst hn;exact Mh (θ':=λn=>(Aj (K6 r.hs) n).bind θ) (nm':=nm) (hrel.obj c _ ho') ht (λ_ _ _=>rfl) (λ_ _ _ _ h=>h) (λ_ h=>h.on _ (λ_ _ h=>h) (λ_ _ _=>rfl) λv y hv=>hv.ren r.hs hin) RM
    rotate_left 3
    ·obtain⟨c,o',hm,ho',hl,ht⟩:=hcown nm (by simp[hn]);rw[hl]at hn
     cases o' with
     | tok=>simp[Own.ren]at hn
     | row=>simp[Own.ren]at hn
     | obj=>simp[Own.ren]at hn
     | arr s' e' m' f'=>
      simp only[Own.ren,Ao,Own.arr.injEq]at hn;obtain⟨rfl,rfl,rfl,rfl⟩:=hn;exact Qf (hrel.arr c _ _ _ _ ho') ht (λ_ _ _=>rfl) (λ_ _ _ _ h=>h) (λi _=>Bl _ _) (λv i j _ _ hv=>by rw[L0];exact hv.ren r.hs hin)
    ·obtain⟨c,o',hm,ho',hl,ht⟩:=hcown nm (by simp[hn]);rw[hl]at hn
     cases o' with
     | tok=>simp[Own.ren]at hn
     | arr=>simp[Own.ren]at hn
     | obj=>simp[Own.ren]at hn
     | row e' cs=>
      simp only[Own.ren,Ao,Own.row.injEq]at hn;obtain⟨rfl,rfl⟩:=hn;obtain⟨g,cc,vs',r1,r2,r3,r4,r5,r6⟩:=hrel.row c _ cs ho';refine⟨g,cc,vs',ht.trans r1,r2,by grind [Bl],λj hj=>r4 j (by rwa[Bl]at hj),λj hj=>?_,r6⟩;rw[L0];exact(r5 j (by rwa[Bl]at hj)).ren r.hs hin
    ·obtain⟨c',o',hm,ho',hl,ht⟩:=hcown nm (by simp[hn]);rw[hl]at hn
     cases o' with
     | row=>simp[Own.ren]at hn
     | arr=>simp[Own.ren]at hn
     | obj=>simp[Own.ren]at hn
     | tok s' e' m'=>
      simp only[Own.ren,Ao,Own.tok.injEq]at hn;obtain⟨rfl,rfl,rfl⟩:=hn;exact hrel.tok c' _ _ _ ho' g c (by grind)
    ·obtain⟨c1',o1,hm,ho1,_,ht⟩:=hcown nm hn;obtain⟨c2',o2,hm',ho2,_,ht'⟩:=hcown nm' hn';rw[ht]at hg;rw[ht']at hg';have:=hrel.inj c1' c2' g c c' (by simp[ho1]) (by simp[ho2]) hg hg'
     grind [Rp]
   intro K Q hK;unfold Oper.wp;rw[hexec];simp only[Oper.upon];refine Calls.mono (hq hrelc hin) λe' w' hq=>?_;obtain⟨v,I',ct',rfl,kc,hres⟩:=hq
   have hwo:∀ n c o',Aj (Fy r) n=some c->Aj r.H n=some o'->Aj (Qg r) c=some (o'.ren (Fy r)):=λn c o' hb hl=>
    Sd c5 (zzL21.2 ⟨(n,o'),Nn hl,by simp[hb]⟩)
   have hwo':∀ c,(∀ n,Aj r.H n≠none->Aj (Fy r) n≠some c)->Aj (Qg r) c=none:=λc hn=>Wj λhm=>by
    obtain⟨x,hx,rfl⟩:=zzL21.1 hm;obtain⟨⟨n,o'⟩,hm',rfl⟩:=zzL21.1 hx;have hmem:n∈(Fy r).map (·.1):=memB_mem.1 (zzL27.1 c6 _ hm');obtain⟨⟨n',c'⟩,hb,rfl⟩:=zzL21.1 hmem;have hb':=Sd c3 hb;have hl:=Sd c4 hm'
    grind
   have hinj:∀ n n' c,Aj (Fy r) n=some c->Aj (Fy r) n'=some c->n=n':=λn n' c e1 e2=>by
    grind [Rp]
   let θ':Nat->Option (Nat×Nat):=λc=>match Aj (K6 (Fy r)) c with|some n=>if(Aj r.H n).isSome then ct' n else θ c|none=>θ c
   have hθ1:∀ n c o',Aj (Fy r) n=some c->Aj r.H n=some o'->θ' c=ct' n:=λn c o' hb hl=>by
    grind [Rp]
   have hθ2:∀ c,(∀ n,Aj r.H n≠none->Aj (Fy r) n≠some c)->θ' c=θ c:=λc hn=>by
    simp only[θ']
    split
    ·grind [Rp]
    ·rfl
   have hbk2:∀ n c o',Aj (Fy r) n=some c->Aj r.H n=some o'->(σ.upd o.dst (r.res.ren (Fy r)) (Qg r)).own c=some (o'.ren (Fy r))/\θ' c=ct' n:=λn c o' hb hl=>
    ⟨by grind [Sto.upd],hθ1 n c o' hb hl⟩
   have kk:Chg σ.own θ I w (σ.upd o.dst (r.res.ren (Fy r)) (Qg r)).own θ' I' w':=by
    refine o5 (hs:=r.hs) (bk:=Fy r) h.chg.rel kc hcown (λc n o' hm ho'=>?_) (λn c hb=>?_) hbk2 (λc hn=>⟨by grind [Sto.upd],hθ2 c hn⟩)
    ·obtain⟨o'',ho'',hl⟩:=hHl c n hm
     grind
    ·have hm:=Nn hb;rw[hbk]at hm;rcases zzL11.1 hm with hm|hm
     ·obtain⟨⟨c',n'⟩,hm',he'⟩:=zzL21.1 hm
      grind
     grind
   exact hK I' θ' _ _ (HY h kk (hres.ren (Fy r) hbk2) hd)
theorem XI{ro:List Nat}{k:Nat}:∀{wo:List (Nat×Own)},Aj (qW ro wo) k=if Bv k ro=true then none else Aj wo k
 | []=>by simp[qW,Aj]
 | (n,o)::wo=>by
  have ih:=XI (ro:=ro) (k:=k) (wo:=wo);unfold qW at ih ⊢
  cases hb:Bv n ro with
  | true=>
   grind [Nat.beq,List.filter_cons_of_neg,Aj,C4]
  | false=>
   cases hn:Nat.beq n k with
   | true=>grind [Aj,C4]
   | false=>grind [Aj]
theorem YF{own:Nat->Option Own}{ro:List Nat}{wo:List (Nat×Own)}{k:Nat}(hk:Bv k ro=true):∀{hs:List (Nat×Nat)} {tl:List (Option Own)},Bv k (hs.map (·.1))=true->(∀ p∈qV ro wo hs ((hs.map (·.1)).map own++tl),p)->Aj wo k=own k
 | [],_,h,_=>by cases h
 | (n,m)::hs,tl,h,hp=>by
  simp only[Cq,CF,qV,zzL11]at hp;simp only[Cq,Bv]at h
  cases hb:Nat.beq n k with
  | true=>
   simp_all
  | false=>rw[hb]at h;exact YF hk h (λp h'=>hp p (.inr h'))
theorem qB(h:Rel Γ σ I θ a w)(hd:∀ d,o.dst=some d->d<Γ.n){f:FuncId}{vs:List AV}{ws:List Value}(hex:(execOp a.eval o).run P w=(callFunc f ws.toArray).run P w)(hvs:RepL I σ.own θ w ws vs)
  {r:Vl} {es:List (Option Own)} (hes:es=(r.hs.map (·.1)++r.fr.map (·.2)).map σ.own) {e:Eff} (he:fY (Spec P) f vs es r=some e) (hob:∀ p∈e.ob,p):Eb P Γ σ o a w e.v e.wo:=by
 unfold fY at he
 split at he
 ·rename_i H hH
  cases hc:Tl es r with
  | false=>grind
  | true=>
   simp only[hc,Ah]at he
   have key:Spec P f ((vs.map (AV.ren r.hs)).map AV.loose) (H.map λx=>(x.1,x.2.ren r.hs)) r.res r.H->Eb P Γ σ o a w (r.res.ren (Fy r)) (Qg r):=λ⟨henter,hspec⟩=>by
    refine di h hd (hex.trans (henter _ _)) hes hH hc λhrelc hin=>?_;exact hspec w I (λn=>(Aj (K6 r.hs) n).bind θ) ws.toArray (by have:=(hvs.ren r.hs hin).loose;exact this) hrelc h.chg.valid h.glob
   cases hro:XC r.ro with
   | true=>
    simp only[hro,Ah,Ao]at he;subst he
    simp_all
   | false=>
    simp only[hro,Aw]at he
    cases hall:(r.ro.all λn=>Bv n (r.hs.map (·.1))) with
    | false=>grind
    | true=>
     simp only[hall,Ah,Ao]at he;subst he;have base:=key (hob _ (zzL34.2 (.inl rfl)));have hob':∀ p∈qV r.ro (Qg r) r.hs es,p:=λp hp=>hob p (zzL34.2 (.inr hp))
     have e:σ.upd o.dst (r.res.ren (Fy r)) (qW r.ro (Qg r))=σ.upd o.dst (r.res.ren (Fy r)) (Qg r):=by
      unfold Sto.upd
      congr 1
      funext nm
      rw[XI]
      cases hm:Bv nm r.ro with
      | false=>simp
      | true=>
       have hm':Bv nm (r.hs.map (·.1))=true:=by
        rw[zzL27]at hall;exact hall nm (memB_mem.1 hm)
       rw[hes,W8]at hob';rw[YF hm hm' hob']
       grind
     intro K Q hK;refine base K Q λI' θ' a' w' hr=>hK I' θ' a' w' ?_
     grind
 ·cases he
theorem Ok(l:List (Nat×Own))(m:List AV):(AV.vsAll l m).length=m.length:=by induction m with|nil=>rfl|cons x m ih=>simp[AV.vsAll,ih]
theorem SQ(l:List (Nat×Own))(m:List AV)(j:Nat):(AV.vsAll l m).getD j .any=(m.getD j .any).vs l:=by
 induction m generalizing j with
 | nil=>rfl
 | cons x m ih=>cases j with
  | zero=>rfl
  | succ j=>simp_all [AV.vsAll]
theorem mj{l:List (Nat×Own)}{m:List AV}(h:∀ p∈AV.vsObAll l m,p)(j:Nat):∀ p∈(m.getD j .any).vsOb l,p:=by
 induction m generalizing j with
 | nil=>trivial
 | cons x m ih=>
  simp only[AV.vsObAll,zzL11]at h
  cases j with
  | zero=>grind
  | succ j=>intro p hp;exact ih (λp hp=>h p (.inr hp)) j p (by grind)
theorem Qn{m:List AV}(h:AV.flatAll m=true)(j:Nat):(m.getD j .any).flat=true:=by
 induction m generalizing j with
 | nil=>rfl
 | cons x m ih=>
  simp only[AV.flatAll]at h
  cases j with
  | zero=>grind
  | succ j=>simp_all
theorem RepV.flat{I I':Nat->Nat->Prop}{w w':World}{v:Value}{x:AV}(h:RepV I w v x)(hx:x.flat=true):RepV I' w' v x:=by
 induction h with
 | any v=>exact .any v
 | undef=>exact .undef
 | int k n=>exact .int k n
 | bool b=>exact .bool b
 | str s=>exact .str s
 | err0=>exact .err0
 | err1 t v=>exact .err1 t v
 | agg vs cs hl h1 _ ih=>exact .agg vs cs hl h1 (λj hj=>ih j hj (Qn hx j))
 | tuple vs cs hl _ ih=>exact .tuple vs cs hl (λj hj=>ih j hj (Qn hx j))
 | _=>cases hx
theorem Rep.flat{I I':Nat->Nat->Prop}{own:Nat->Option Own}{θ:Nat->Option (Nat×Nat)}{w w':World}{v:Value}{x:AV}(h:Rep I own θ w v x)(hx:x.flat=true):RepV I' w' v x:=by
 induction h with
 | val v x h=>exact h.flat hx
 | agg vs cs hl h1 _ ih=>exact .agg vs cs hl h1 (λj hj=>ih j hj (Qn hx j))
 | tuple vs cs hl _ ih=>exact .tuple vs cs hl (λj hj=>ih j hj (Qn hx j))
 | _=>cases hx
theorem CB{own:Nat->Option Own}:∀{ns:List Nat} {tl:List (Option Own)} {k:Nat} {o:Own},Aj (Sy ns (ns.map own++tl)) k=some o->own k=some o
 | [],tl,k,o,h=>by trivial
 | n::ns,tl,k,o,h=>by
  simp only[Cq,CF]at h
  cases hn:own n with
  | none=>rw[hn]at h;exact CB h
  | some o'=>
   rw[hn]at h;simp only[Sy,Aj]at h
   cases hb:Nat.beq n k with
   | true=>
    simp_all
   | false=>rw[hb]at h;exact CB h
def ER(l:List (Nat×Own))(θ:Nat->Option (Nat×Nat))(I:Nat->Nat->Prop):Nat->Nat->Prop:=λb o=>I b o\/∃ nm sz e m f c,Aj l nm=some (.arr sz e m f)/\θ nm=some (b,c)/\o<m*sz
theorem Rep.vs{I:Nat->Nat->Prop}{own:Nat->Option Own}{θ:Nat->Option (Nat×Nat)}{w:World}{v:Value}{x:AV}(hrel:Jk I own θ w){l:List (Nat×Own)}(hl:∀ k o,Aj l k=some o->own k=some o)(h:Rep I own θ w v x):(∀ p∈x.vsOb l,p)->RepV (ER l θ I) w v (x.vs l):=by
 have hII:∀ b o,I b o->ER l θ I b o:=λ_ _ h=>.inl h
 have hs:∀{v:Value} {x:AV},RepV I w v x->RepV (ER l θ I) w v (x.vs l):=by
  intro v x h
  induction h with
  | agg vs cs hl h1 _ ih=>exact .agg vs _ (by rw[Ok,hl]) (λj hj=>h1 j (by rwa[Ok]at hj)) (λj hj=>by grind [SQ,Ok])
  | slice a n cap sz f us hcap hmax hz hn h1 hl hr=>exact(RepV.slice a n cap sz f us hcap hmax hz hn h1 hl hr).mono hII (λ_ _ _=>rfl)
  | any v=>exact .any v
  | undef=>exact .undef
  | int k n=>exact .int k n
  | bool b=>exact .bool b
  | str s=>exact .str s
  | clo f=>exact .clo f
  | nxt1 i r=>exact .nxt1 i r
  | nxt0 i r=>exact .nxt0 i r
  | nilq b pos n h=>exact .nilq b pos n h
  | err0=>exact .err0
  | err1 t v=>exact .err1 t v
  | nilp=>exact .nilp
  | nilm=>exact .nilm
  | cond v c x h h'=>exact(RepV.cond v c x h h').strip.mono hII (λ_ _ _=>rfl)
  | rptr a cells us hs hI hc h1 hr=>exact(RepV.rptr a cells us hs hI hc h1 hr).mono hII (λ_ _ _=>rfl)
  | tuple vs cs hl hr=>exact(RepV.tuple vs cs hl hr).strip.mono hII (λ_ _ _=>rfl)
 induction h with
 | val v x h=>grind
 | agg vs cs hl h1 _ ih=>
  intro hob;exact .agg vs _ (by rw[Ok,hl]) (λj hj=>h1 j (by rwa[Ok]at hj)) (λj hj=>by rw[SQ];exact ih j (by rwa[Ok]at hj) (mj hob j))
 | vsl nm sz e m f a n cap ho hm hcap hmax hn hv=>
  intro hob;simp only[AV.vs]
  split
  ·rename_i sz' e' m' f' hlk
   have ho':=hl _ _ hlk;rw[ho]at ho';simp only[Ao,Own.arr.injEq]at ho';obtain⟨rfl,rfl,rfl,rfl⟩:=ho';have hnm:n=m:=hob _ (by grind [AV.vsOb])
   ·subst hnm;obtain⟨q0,q1⟩:=hrel.arr nm sz e n f ho;have hvv:=hv rfl
    cases hθ:θ nm with
    | none=>
     have hn0:=q0 hθ;subst hn0;exact .slice a 0 cap sz _ (λ_=>undef) hcap hmax (λh=>by omega) hn (λj hj=>by omega) (λi hi=>by omega) (λi c hi=>by omega)
    | some gc=>
     obtain⟨b,c⟩:=gc;rw[hθ]at hvv;simp only at hvv;obtain⟨rfl,rfl⟩:=hvv;obtain⟨cur,r1,r2,r3,r4,r5,r6,r7⟩:=q1 b cap hθ
     have hcell:∀ j,j<n*sz->w.cell? ⟨b,j,none⟩=some (cur.getD j undef):=λj hj=>by
      have:n*sz<=cap*sz:=Ft _ r2;rw[Nf w b j cur e (0,0) r1]
      grind [Nk]
     refine .slice _ n cap sz _ (λj=>cur.getD j undef) hcap hmax (λ_=>⟨⟨b,0,none⟩,rfl,rfl,λj hj=>.inr ⟨nm,sz,e,n,f,cap,hlk,hθ,by grind⟩,λj hj=>by grind⟩) (by simp) (λj hj=>?_) (λi hi=>?_) (λi k hi hk=>?_)
     ·have hs:0<sz:=by
       rcases zzL71 sz with h0|h0
       ·rw[h0]at hj;omega
       ·exact h0
      have e2:j / sz*sz+j % sz=j:=by rw[CJ];exact IJ j sz
      grind [TB,Nat.mod_lt]
     ·grind [Bc]
     ·rw[Ez];exact((r6 i k hi hk).2.strip).mono hII (λ_ _ _=>rfl)
  ·exact .any _
 | exact a n sz f h=>exact λ_=>h.mono hII (λ_ _ _=>rfl)
 | own nm sz e m a n cap f ho hm hv h=>exact λ_=>h.mono hII (λ_ _ _=>rfl)
 | fam b i sz e m a n cap f hi ho hm hv h=>exact λ_=>h.mono hII (λ_ _ _=>rfl)
 | ptr nm off e cells g c ho hg=>exact λ_=>.any _
 | vpt=>exact λ_=>.any _
 | vsub nm sz e m f n lo hi a cap ho hm hlo hhi hcap hmax hn hv=>
  intro hob;simp only[AV.vs]
  split
  ·rename_i sz' e' m' f' hlk
   have ho':=hl _ _ hlk;rw[ho]at ho';simp only[Ao,Own.arr.injEq]at ho';obtain⟨rfl,rfl,rfl,rfl⟩:=ho';have hnm:n=m:=hob _ (by grind [AV.vsOb]);subst hnm;obtain⟨q0,q1⟩:=hrel.arr nm sz e n f ho;have hvv:=hv rfl;rcases zzL126 lo hi with hlt|hge
   ·obtain⟨b,c,hθ,rfl⟩:=hvv.1 hlt;obtain⟨cur,r1,r2,r3,r4,r5,r6,r7⟩:=q1 b c hθ
    have hin:∀ j,j<(hi-lo)*sz->lo*sz+j<n*sz:=λj hj=>by
     have h1:lo*sz+(hi-lo)*sz=hi*sz:=by rw[<- Gl];congr 1;omega
     have h2:hi*sz<=n*sz:=Ft _ hhi;omega
    have hcell:∀ j,j<(hi-lo)*sz->w.cell? ⟨b,lo*sz+j,none⟩=some (cur.getD (lo*sz+j) undef):=λj hj=>by
     have:n*sz<=c*sz:=Ft _ r2;have:=hin j hj;rw[Nf w b _ cur e (0,0) r1]
     grind [Nk]
    refine .slice _ (hi-lo) cap sz _ (λj=>cur.getD (lo*sz+j) undef) hcap hmax (λ_=>⟨⟨b,lo*sz,none⟩,rfl,rfl,λj hj=>.inr ⟨nm,sz,e,n,f,c,hlk,hθ,hin j hj⟩,λj hj=>hcell j hj⟩) hn (λj hj=>?_) (λi hi'=>?_) (λi k hi' hk=>?_)
    ·have hs:0<sz:=by
      rcases zzL71 sz with h0|h0
      ·rw[h0]at hj;omega
      ·exact h0
     have e2:j / sz*sz+j % sz=j:=by rw[CJ];exact IJ j sz
     have h3:j / sz<hi-lo:=by rw[TB hs];exact hj
     have:=(r6 (lo+j / sz) (j % sz) (by omega) (Nat.mod_lt _ hs)).1;rw[Gl,Xc,e2]at this;exact this
    ·grind [Bc]
    ·rw[Ez];have:=((r6 (lo+i) k (by omega) hk).2.strip).mono hII (λ_ _ _=>rfl) (w':=w)
     grind
   ·have h0:hi-lo=0:=by omega
    rw[h0];exact .slice a 0 cap sz _ (λ_=>undef) (by omega) hmax (λh=>by omega) hn (λj hj=>by omega) (λi hi=>by omega) (λi c hi=>by omega)
  ·exact .any _
 | optr=>exact λ_=>.any _
 | omap=>exact λ_=>.any _
 | rpo=>exact λ_=>.any _
 | clo f fs cs xs ys hl hl' hr hr' _ _=>exact λ_=>(Rep.clo f fs cs xs ys hl hl' hr hr').strip.mono hII (λ_ _ _=>rfl)
 | cond v c x h h' _=>exact λ_=>(Rep.cond v c x h h').strip.mono hII (λ_ _ _=>rfl)
 | tuple vs cs hl hr _=>exact λ_=>(Rep.tuple vs cs hl hr).strip.mono hII (λ_ _ _=>rfl)
theorem Rep.vsA{I:Nat->Nat->Prop}{own own':Nat->Option Own}{θ θ':Nat->Option (Nat×Nat)}{w:World}{v:Value}{x:AV}(hrel:Jk I own θ w){l:List (Nat×Own)}(hl:∀ k o,Aj l k=some o->own k=some o)(h:Rep I own θ w v x)(hob:∀ p∈x.vsOb l,p):Rep (ER l θ I) own' θ' w v (x.vsA l):=by
 have hII:∀ b o,I b o->ER l θ I b o:=λ_ _ h=>.inl h
 by_cases hc:∃ f xs ys,x = .clo f xs ys
 ·obtain⟨f,xs,ys,rfl⟩:=hc
  cases h with
  | val v x h=>cases h with|clo f=>exact .val _ _ (.clo f)
  | clo f fs cs xs ys hl hl' hr hr'=>
   exact .clo f fs cs _ _ (by rw[Bc,hl]) (by rw[Bc,hl']) (λj hj=>by rw[Ez];exact .val _ _ ((hr j (by rwa[Bc]at hj)).strip.mono hII (λ_ _ _=>rfl))) (λj hj=>by rw[Ez];exact .val _ _ ((hr' j (by rwa[Bc]at hj)).strip.mono hII (λ_ _ _=>rfl)))
 ·have e:x.vsA l=x.vs l:=by cases x<;>first|rfl|(exfalso;exact hc ⟨_,_,_,rfl⟩)
  rw[e];exact .val _ _ (h.vs hrel hl hob)
theorem RepL.vs{I:Nat->Nat->Prop}{own own':Nat->Option Own}{θ θ':Nat->Option (Nat×Nat)}{w:World}{vs:List Value}{xs:List AV}(hrel:Jk I own θ w){l:List (Nat×Own)}(hl:∀ k o,Aj l k=some o->own k=some o)(h:RepL I own θ w vs xs) :
  (∀ p∈AV.vsObAll l xs,p)->RepL (ER l θ I) own' θ' w vs (xs.map (AV.vsA l)):=by
 induction h with
 | nil=>exact λ_=>.nil
 | cons h _ ih=>
  intro hob;simp only[AV.vsObAll,zzL11]at hob;exact .cons (h.vsA hrel hl λp hp=>hob p (.inl hp)) (ih λp hp=>hob p (.inr hp))
theorem Xt:∀{H:List (Nat×Own)} {nm:Nat} {o:Own},EE H->Aj H nm=some o->u7 o
 | [],nm,o,_,h=>by cases h
 | (n,o')::r,nm,o,hf,h=>by
  simp only[Aj]at h
  cases hb:Nat.beq n nm with
  | true=>rw[hb]at h;simp only[Ah,Ao]at h;rw[<- h];exact hf.1
  | false=>rw[hb]at h;exact Xt hf.2 h
theorem Rep.flatC{I I':Nat->Nat->Prop}{own:Nat->Option Own}{θ:Nat->Option (Nat×Nat)}{w:World}{v:Value}{x:AV}(h:Rep I own θ w v x)(hx:x.flatC=true):Rep I' own θ w v x:=by
 cases x with
 | omap nm=>obtain⟨y,h1,h2⟩:=h.omap_inv;rw[h2];exact .omap nm y h1
 | vsl nm n=>obtain⟨sz,e,m,f,a,cap,rfl,ho,hm,hcap,hmax,hn,hv⟩:=h.vsl_inv;exact .vsl nm sz e m f a n cap ho hm hcap hmax hn hv
 | ptr nm off=>obtain⟨e,cells,g,c,ho,hg,rfl⟩:=h.ptr_inv;exact .ptr nm off e _ g c ho hg
 | nilp=>obtain rfl:=h.nilp_inv;exact .val _ _ .nilp
 | _=>exact .val _ _ (h.flat hx)
theorem Rep.flatR{I I':Nat->Nat->Prop}{own:Nat->Option Own}{θ:Nat->Option (Nat×Nat)}{w:World}{v:Value}{x:AV}(h:Rep I own θ w v x)(hx:x.flatR=true):Rep I' own θ w v x:=by
 cases x with
 | tuple cs=>
  obtain⟨vs,rfl,hl,hr⟩:=h.tuple_inv;refine .tuple vs cs hl λj hj=>(hr j hj).flatC ?_;have hx:cs.all _=true:=hx
  grind
 | _=>exact h.flatC hx
theorem Rep.flatD{I I':Nat->Nat->Prop}{own:Nat->Option Own}{θ:Nat->Option (Nat×Nat)}{w:World}{v:Value}{x:AV}(h:Rep I own θ w v x)(hx:x.flatD=true)(hn:x.flatN):Rep I' own θ w v x:=by
 cases x with
 | slice sz n f t=>
  cases t with
  | own nm=>
   subst hn
   cases h with
   | val v x h=>cases h
   | own nm sz e m a n cap f ho hm hv h=>
    refine .own nm sz e m a 0 cap f ho hm hv ?_
    cases h with
    | slice a n cap sz f us hcap hmax hz hn h1 hl hr=>
     exact .slice a 0 cap sz f us hcap hmax (λhp=>absurd hp (EX 0)) hn (λj hj=>by simp at hj) (λi hi=>absurd hi (Xa i)) (λi c hi=>absurd hi (Xa i))
  | _=>trivial
 | _=>exact h.flatC hx
theorem LN:∀{l:List AV} (j:Nat),fw l->(l.getD j .any).flatN
 | [],j,_=>by trivial
 | x::l,0,h=>by simpa using h.1
 | x::l,j+1,h=>by simpa using LN j h.2
theorem o6{I I1 I':Nat->Nat->Prop}{θ':Nat->Option (Nat×Nat)}{w w':World}{H:List (Nat×Own)}{v:Value}{x:AV}{θ0:Nat->Option (Nat×Nat)}(hI:∀ b o,I b o->I1 b o)(hval:∀ b o,I b o->∃ u,w.cell? ⟨b,o,none⟩=some u)
  (kc:Chg (λ_=>none) θ0 I1 w (Aj H) θ' I' w') (hf:EE H) (hx:x.flatR=true) (hr:Rep I' (Aj H) θ' w' v x):Chg (λ_=>none) θ0 I w (Aj H) θ' I w'/\Rep I (Aj H) θ' w' v x:=by
 refine⟨{ imm:=λ_ _ h=>h,cell:=λb o h=>kc.cell b o (hI b o h),le:=(λ_ _ h=>by cases h),rel:=⟨λnm e0 cells hn=>?_,λnm sz e m hn=>?_,kc.rel.inj,λnm sz e m f hn=>?_,λnm y hn=>?_,λnm sz m hn=>?_⟩,valid:=λb o h=>?_,os:=kc.os,tape:=kc.tape,output:=kc.output,drawn:=kc.drawn,grow:=kc.grow,frame:=kc.frame,new:=kc.new,immNew:=λb o h=>.inl h },hr.flatR hx⟩
 ·have hfl :=Xt hf hn;obtain⟨hfl,hfn⟩:=hfl;obtain⟨g,c,vs,h1,h2,h3,h4,h5,h6⟩:=kc.rel.row nm e0 cells hn;refine⟨g,c,vs,h1,h2,h3,h4,λj hj=>(h5 j hj).flatD ?_ (LN j hfn),λj hj=>h6 j (kc.imm _ _ (hI _ _ hj))⟩
  grind
 ·intro g c hg;obtain⟨cur,fz,r1,r2,r3,r4,r5,r6⟩:=kc.rel.tok nm sz e m hn g c hg;exact⟨cur,fz,r1,r2,r3,r4,r5,λj hj=>r6 j (kc.imm _ _ (hI _ _ hj))⟩
 ·have hfl :=Xt hf hn;obtain⟨h1,h2⟩:=kc.rel.arr nm sz e m f hn;refine⟨h1,λg c hg=>?_⟩;obtain⟨cur,r1,r2,r3,r4,r5,r6,r7⟩:=h2 g c hg;exact⟨cur,r1,r2,r3,r4,r5,λi j hi hj=>⟨(r6 i j hi hj).1,(.val _ _ ((r6 i j hi hj).2.flat (Qn (hfl i hi) j)))⟩,λj hj=>r7 j (kc.imm _ _ (hI _ _ hj))⟩
 ·have hfl:=Xt hf hn
  cases y with
  | map nn k l=>
   rcases kc.rel.obj nm _ hn with⟨g,c,o,h1,h2,h3,h4⟩|h1
   ·refine .inl ⟨g,c,o,h1,h2,?_,λj hj=>h4 j (kc.imm _ _ (hI _ _ hj))⟩
    cases h3 with
    | map es nn k l hs hr=>
     refine .map es nn k l hs λi hi=>?_;obtain⟨u,g1,g2,g3⟩:=hr i hi;refine⟨u,g1,g2.flat (hfl _ ?_),g3⟩
     grind
   ·exact .inr h1
  | pmap nn k l=>
   rcases kc.rel.obj nm _ hn with⟨g,c,o,h1,h2,h3,h4⟩|h1
   ·refine .inl ⟨g,c,o,h1,h2,?_,λj hj=>h4 j (kc.imm _ _ (hI _ _ hj))⟩
    cases h3 with
    | pmap es nn k l0 l hp hk hs hr=>
     refine .pmap es nn k l0 l hp hk hs λi hi=>?_;obtain⟨u,g1,g2,g3⟩:=hr i hi;refine⟨u,g1,g2.flat (hfl _ (hp.mem_iff.1 ?_)),g3⟩
     grind
   ·exact .inr h1
  | _=>trivial
 ·exact kc.rel.tok8 nm sz m hn
 ·obtain⟨u,hu⟩:=hval b o h;exact⟨u,(kc.cell b o (hI b o h)).trans hu⟩
theorem jx(h:Rel Γ σ I θ a w)(hd:∀ d,o.dst=some d->d<Γ.n){f:FuncId}{vs:List AV}{ws:List Value}(hex:(execOp a.eval o).run P w=(callFunc f ws.toArray).run P w)(hvs:RepL I σ.own θ w ws vs)
  {r:Vl} {es:List (Option Own)} (hes:es=(CW r).map σ.own) {e:Eff} (he:oA (Spec P) f vs es r=some e) (hob:∀ p∈e.ob,p):Eb P Γ σ o a w e.v e.wo:=by
 unfold oA at he
 cases hvw:r.vw with
 | nil=>
  rw[hvw]at he;exact qB h hd hex hvs (by grind [CW]) he hob
 | cons n0 ns0=>
  have hnn:XC r.vw=false:=by rw[hvw];rfl
  rw[hnn,Aw]at he
  cases hc:(XC r.hs&&r.res.flatR&&Tl (es.drop r.vw.length) r) with
  | false=>grind
  | true=>
   rw[hc,Ah,Ao]at he;subst he;simp only[A6]at hc;obtain⟨⟨c1,c2⟩,c3⟩:=hc
   have hhs:r.hs=[]:=by cases hh:r.hs with|nil=>rfl|cons _ _=>rw[hh]at c1;cases c1
   obtain⟨henter,hspec⟩:=hob _ (zzL53 ..);have hfl:EE r.H:=hob _ (Ob _ (zzL53 ..));have hvo:∀ p∈AV.vsObAll (Sy r.vw es) vs,p:=λp hp=>hob p (Ob _ (Ob _ hp))
   have hes':es=r.vw.map σ.own++(r.hs.map (·.1)++r.fr.map (·.2)).map σ.own:=by rw[hes];simp[CW]
   have hdrop:es.drop r.vw.length=(r.hs.map (·.1)++r.fr.map (·.2)).map σ.own:=by
    rw[hes']
    have:(r.vw.map σ.own).length=r.vw.length:=by simp
    rw[<- this,List.drop_left]
   have hlk:∀ k o,Aj (Sy r.vw es) k=some o->σ.own k=some o:=λk o hk=>by grind [CB]
   refine di (H:=[]) h hd (hex.trans (henter _ _)) hdrop (by rw[hhs];rfl) c3 λ_ _=>?_
   have hval:∀ b o,ER (Sy r.vw es) θ I b o->∃ u,w.cell? ⟨b,o,none⟩=some u:=λb o hb=>by
    rcases hb with hb|⟨nm,sz,e,m,f,c,h1,h2,h3⟩
    ·exact h.chg.valid b o hb
    ·obtain⟨cur,r1,r2,r3,r4,_⟩:=(h.chg.rel.arr nm sz e m f (hlk _ _ h1)).2 b c h2;have:m*sz<=c*sz:=Ft _ r2;exact⟨_,by rw[Nf w b o cur e (0,0) r1];exact Nk (by omega)⟩
   have hII:∀ b o,I b o->ER (Sy r.vw es) θ I b o:=λ_ _ h=>.inl h;have e1:(Aj (List.map (λx:Nat×Own=>(x.1,x.2.ren r.hs)) []):Nat->Option Own)=λ_=>none:=rfl;have e2:(Aj []:Nat->Option Own)=λ_=>none:=rfl
   have hrel0:Jk (ER (Sy r.vw es) θ I) (Aj []) (λn=>(Aj (K6 r.hs) n).bind θ) w:=by
    rw[e2];exact⟨(λ_ _ _ h=>by cases h),(λ_ _ _ _ h=>by cases h),(λ_ _ _ _ _ h=>(h rfl).elim),(λ_ _ _ _ _ h=>by cases h),(λ_ _ h=>by cases h),(λ_ _ _ h=>by cases h)⟩
   have hcalls:=hspec w (ER (Sy r.vw es) θ I) (λn=>(Aj (K6 r.hs) n).bind θ) ws.toArray (by simpa using hvs.vs h.chg.rel hlk hvo) hrel0 hval (λg cells hg=>(h.glob g cells hg).mono hII (λ_ _ _=>rfl));refine Calls.mono hcalls λe' w' hq=>?_;obtain⟨v,I',θ',he',kc,hres⟩:=hq;rw[e2]at kc;obtain⟨k1,k2⟩:=o6 hII h.chg.valid kc hfl c2 hres
   grind
end
section
variable {P:Program} {Γ:H6} {σ:Sto} {I:Nat->Nat->Prop} {θ:Nat->Option (Nat×Nat)} {a:Act} {w:World} {o:Oper}
theorem RX(h:Rel Γ σ I θ a w)(x:Operand):Rep I σ.own θ w (a.eval x) (cy σ.tmp x):=by
 cases x with
 | tmp t=>exact h.slots t
 | const v=>exact U7  v
 | global g=>
  show Rep I _ θ w _ (match je g with|some cells=>.rptr cells|none=>.any)
  cases hg:je g with
  | none=>exact .val _ _ (.any _)
  | some cells=>exact .val _ _ (h.glob g _ hg)
 | func f=>exact .val _ _ (.clo f)
theorem mY(h:Rel Γ σ I θ a w)(l:List Operand):RepL I σ.own θ w (l.map a.eval) (l.map (cy σ.tmp)):=by
 induction l with
 | nil=>exact .nil
 | cons x l ih=>exact .cons (RX h x) ih
theorem RZ{v:Value}{x:AV}{γ gd:Bool}(h:Rep I σ.own θ w v x)(hγ:gd=true->γ=true)(ht:∀ p∈x.there γ gd,p):Rep I σ.own θ w v x.uncond:=by
 cases x with
 | cond c y=>
  obtain⟨h1,_⟩:=h.cond_inv
  apply h1
  cases gd with
  | false=>exact ht _ (by simp[AV.there])
  | true=>exact ht (γ=true->c=true) (by simp[AV.there]) (hγ rfl)
 | _=>exact h
theorem eF{l:List Value}{m:List AV}{γ gd:Bool}(h:RepL I σ.own θ w l m)(hγ:gd=true->γ=true)(ht:∀ p∈(m.map (AV.there γ gd)).flatten,p):RepL I σ.own θ w l (m.map AV.uncond):=by
 induction h with
 | nil=>exact .nil
 | cons h _ ih=>
  simp only[Cq,List.flatten_cons,zzL11]at ht;exact .cons (RZ h hγ λp hp=>ht p (.inl hp)) (ih λp hp=>ht p (.inr hp))
theorem GW{v:Value}{x:AV}{ps:List Prop}{b:Bool}(hx:x.boolIn=some (ps,b))(h:Rep I σ.own θ w v x)(hp:∀ p∈ps,p):v = .bool b:=by
 unfold AV.boolIn at hx
 split at hx
 ·obtain⟨rfl,rfl⟩:=hx;exact h.bool_inv
 ·obtain⟨rfl,rfl⟩:=hx;exact(h.cond_inv.1 (hp _ (by simp))).bool_inv
 ·cases hx
theorem uA(h:Rel Γ σ I θ a w)(hd:∀ d,o.dst=some d->d<Γ.n){vs:List AV}(hp:FI o=true)(hvs:RepL I σ.own θ w (o.op.operands.toList.map a.eval) vs){γ gd:Bool}(hγ:gd=true->γ=true)
  (hth:∀ p∈DE γ gd vs,p) {e:Eff} (he:oC vs=some e) (hob:∀ p∈e.ob,p):Eb P Γ σ o a w e.v e.wo:=by
 unfold FI at hp
 split at hp
 ·rename_i c x y ho
  simp only[ho,Op.operands,Cq,Dn]at hvs;obtain⟨vc,vx,vy,rfl,hc,hx,hy⟩:=hvs.three;simp only[oC]at he
  split at he
  ·rename_i cb pa xa pb xb hcu hxa hyb
   simp only[Ao]at he;subst he;have hc':=RZ hc hγ hth;rw[hcu]at hc';have ec:=hc'.bool_inv;simp only[zzL11]at hob
   cases cb with
   | true=>
    have ex:=GW hxa hx (λp hp=>hob _ (.inl (zzL21.2 ⟨p,hp,rfl⟩)) rfl);exact Ar h hd (v:=.bool xa) (by simp[execOp,ho,ec,ex,asBool]) (.val _ _ (.bool _))
   | false=>
    have ey:=GW hyb hy (λp hp=>hob _ (.inr (zzL21.2 ⟨p,hp,rfl⟩)) rfl);exact Ar h hd (v:=.bool xb) (by simp[execOp,ho,ec,ey,asBool]) (.val _ _ (.bool _))
  ·cases he
 ·cases hp
theorem RepL.append{own:Nat->Option Own}{l l':List Value}{m m':List AV}(h:RepL I own θ w l m)(h':RepL I own θ w l' m'):RepL I own θ w (l++l') (m++m'):=by
 induction h with
 | nil=>exact h'
 | cons h _ ih=>exact .cons h ih
theorem kF{own:Nat->Option Own}:∀{l:List Value} {m:List AV},l.length=m.length->(∀ j,j<m.length->Rep I own θ w (l.getD j undef) (m.getD j .any))->RepL I own θ w l m
 | [],[],_,_=>.nil
 | [],_::_,h,_=>by simp at h
 | _::_,[],h,_=>by simp at h
 | v::l,x::m,h,hr=>.cons (by simpa using hr 0 (by simp)) (kF (by simpa using h) λj hj=>by simpa using hr (j+1) (by simpa using hj))
theorem MF{own:Nat->Option Own}{l:Array Value}{m:List AV}(h:l.size=m.length)(hr:∀ j,j<m.length->Rep I own θ w (l.getD j undef) (m.getD j .any)):RepL I own θ w l.toList m:=
 kF (by simpa using h) λj hj=>by
  simp_all
theorem WU(h:Rel Γ σ I θ a w)(hd:∀ d,o.dst=some d->d<Γ.n){vs:List AV}(hvs:vs=o.op.operands.toList.map (cy σ.tmp)){r:Option Vl}{es:List (Option Own)}(hes:es=(Vv o vs r).map σ.own){γ gd:Bool}{hint:Nat}(hγ:gd=true->γ=true)
  (hth:∀ p∈(bif FI o then DE γ gd vs else(vs.map (AV.there γ gd)).flatten),p) {e:Eff}
  (he:jb P (Spec P) hint o vs es r=some e) (hob:∀ p∈e.ob,p) :
  Eb P Γ σ o a w e.v e.wo:=by
 have hall:RepL I σ.own θ w (o.op.operands.toList.map a.eval) vs:=by rw[hvs];exact mY h _
 unfold jb at he
 cases hp:FI o with
 | true=>
  simp only[hp,Ah]at he hth;exact uA h hd hp hall hγ hth he hob
 | false=>
  simp only[hp,Aw]at he hth;have hun:=eF hall hγ hth
  cases hc:PY o with
  | false=>
   simp only[hc,Aw]at he;exact cY h hd hun (by rw[hes];simp[Vv,hc]) he hob
  | true=>
   simp only[hc,Ah]at he
   split at he
   ·rename_i f az r' hf
    unfold oz at hf
    split at hf
    ·rename_i g xs ts ho
     simp only[Ao,Od]at hf;obtain⟨rfl,rfl⟩:=hf
     have e1:o.op.operands.toList.map a.eval = .func (.func g) #[] #[]::xs.toList.map a.eval:=by rw[ho];simp[Op.operands,Call.operands,Act.eval]
     have hl:RepL I σ.own θ w (xs.toList.map a.eval) ((vs.map AV.uncond).drop 1):=by
      rw[e1]at hun
      generalize vs.map AV.uncond=m at hun
      cases hun with|cons _ t=>simpa using t
     refine jx (ws:=xs.toList.map a.eval) h hd ?_ hl (by rw[hes];simp[Vv,hc]) he hob
     have e2:(xs.toList.map a.eval).toArray=xs.map a.eval:=by apply S4;simp
     rw[e2];simp[execOp,ho,resolve,invoke,Deferred.ofValue,Act.eval]
    ·rename_i t xs ts ho
     split at hf
     ·rename_i g fs cs rest hm
      simp only[Ao,Od]at hf;obtain⟨rfl,rfl⟩:=hf
      have e1:o.op.operands.toList.map a.eval=a.eval (.tmp t)::xs.toList.map a.eval:=by rw[ho];simp[Op.operands,Call.operands]
      rw[e1,hm]at hun
      cases hun with
      | cons hh ht=>
       obtain⟨fv,cv,hv,l1,l2,r1,r2⟩:=hh.clo_inv;have hR:RepL I σ.own θ w (fv.toList++xs.toList.map a.eval++cv.toList) (fs++rest++cs):=RepL.append (RepL.append (MF l1 r1) ht) (MF l2 r2);refine jx (ws:=fv.toList++xs.toList.map a.eval++cv.toList) h hd ?_ hR (by rw[hes];simp[Vv,hc]) he hob
       have e2:(fv.toList++xs.toList.map a.eval++cv.toList).toArray=fv++xs.map a.eval++cv:=by apply S4;simp
       rw[e2];simp[execOp,ho,resolve,invoke,Deferred.ofValue,hv]
     ·cases hf
    ·cases hf
   ·cases he
theorem eE{d:Option Nat}{x y:AV}{wo:List (Nat×Own)}(h:Rel Γ (σ.upd d x wo) I θ a w)(hxy:AVle x y):Rel Γ (σ.upd d y wo) I θ a w:=by
 refine⟨h.size,h.defers,λt=>?_,h.chg⟩;have:=h.slots t;simp only[Sto.upd]at this ⊢
 split
 ·rename_i hdt
  rw[if_pos hdt]at this;exact hxy _ _ _ _ _ this
 ·grind
theorem ZU{y:AV}{wo:List (Nat×Own)}(h:∀ p∈(PH y wo).2,p):(PH y wo).1=wo:=by
 unfold PH at h ⊢
 split at h
 ·have:=h _ (zzL15.2 rfl);subst this
  rfl
 ·rfl
theorem LI{c:Option AV}{e:Eff}(hob:∀ p∈(PG c e).ob,p):(∀ p∈e.ob,p)/\(PG c e).wo=e.wo/\AVle e.v (PG c e).v:=by
 unfold PG at hob ⊢
 split at hob
 ·exact⟨hob,rfl,λ_ _ _ _ _ h=>h⟩
 ·refine⟨λp hp=>hob p (zzL11.2 (.inl hp)),ZU λp hp=>hob p (zzL11.2 (.inr (Ob _ hp))),hob _ (zzL11.2 (.inr (by simp)))⟩
theorem qP{d:Option Nat}{x:AV}{wo:List (Nat×Own)}{c:Bool}(h:Rel Γ (σ.upd d x wo) I θ a w)(hc:c=true):Rel Γ (σ.upd d (.cond c x) wo) I θ a w:=by
 refine⟨h.size,h.defers,λt=>?_,h.chg⟩;have:=h.slots t;simp only[Sto.upd]at this ⊢
 split
 ·rename_i hdt
  rw[if_pos hdt]at this;exact .cond _ _ _ (λ_=>this) (λhf=>by rw[hc]at hf;cases hf)
 ·grind
theorem dC{ops:Array Oper}{j:Nat}{want:Bool}(hg:o.guard=some (j,want)){oj:Oper}(hj:ops[j]?=some oj){t:Nat}(ht:oj.dst=some t)(h:Rel Γ σ I θ a w){γ:Bool}(hγ:pO want (σ.tmp t)=some γ) :
  Region.wanted o (yielded ops a.tmps)=γ:=by
 have hs:=h.slots t
 have hy:yielded ops a.tmps j=match a.tmps.getD t undef with | .bool b=>some b|_=>none:=by
  simp only[yielded,hj,An,ht]
  by_cases hlt:t<a.tmps.size
  ·obtain⟨u,hu,hu'⟩:=CV  hlt;rw[hu,hu']
   cases u<;>rfl
  ·simp[ hlt,undef]
 simp only[Region.wanted,hg,hy];unfold pO at hγ
 split at hγ
 ·rename_i b hb
  rw[hb]at hs;rw[hs.bool_inv];simp only[Ao]at hγ;subst hγ
  cases b<;>cases want<;>rfl
 ·rename_i c b hb
  rw[hb]at hs;obtain⟨h1,h2⟩:=hs.cond_inv;simp only[Ao]at hγ;subst hγ
  cases c with
  | true=>rw[(h1 rfl).bool_inv];cases b<;>cases want<;>rfl
  | false=>rw[h2 rfl];rfl
 ·rename_i hb
  rw[hb]at hs;rw[hs.undef_inv];simp only[Ao]at hγ;subst hγ
  rfl
 ·cases hγ
theorem po{γ:Bool}{x y z:AV}(h:x.merge γ y=some z):z=bif γ then y else x:=by
 cases x<;>cases y<;>simp only[AV.merge,reduceCtorEq,Ao]at h<;>try (cases h;done)
 case int.int k a k' b=>
  cases hk:EG k k' with
  | false=>simp[hk]at h
  | true=>obtain rfl:=Pm hk;simp only[hk,Ah,Ao]at h;subst h;cases γ<;>rfl
 case bool.bool=>subst h;cases γ<;>rfl
 case str.str=>subst h;cases γ<;>rfl
 case nilp.nilp=>subst h;cases γ<;>rfl
 case omap.omap n n'=>
  cases hb:Nat.beq n n' with
  | false=>simp[hb]at h
  | true=>obtain rfl:=C4 hb;simp only[hb,Ah,Ao]at h;subst h;cases γ<;>rfl
 case any.any=>subst h;cases γ<;>rfl
 case ptr.ptr n o n' o'=>
  cases hb:(Nat.beq n n'&&Nat.beq o o') with
  | false=>simp[hb]at h
  | true=>
   simp_all
 case nilm.nilm=>subst h;cases γ<;>rfl
 case err.err=>subst h;cases γ<;>rfl
 case vsl.vsl n k n' k'=>
  cases hb:Nat.beq n n' with
  | false=>simp[hb]at h
  | true=>obtain rfl:=C4 hb;simp only[hb,Ah,Ao]at h;subst h;cases γ<;>rfl
 case slice.slice sz n f t sz' n' f' t'=>
  cases t<;>cases t'<;>simp only[AV.merge,reduceCtorEq]at h
  ·cases hb:Nat.beq sz sz' with
   | false=>simp[hb]at h
   | true=>
    obtain rfl:=C4 hb;simp only[hb,Ah,Ao]at h;subst h;cases γ<;>rfl
  ·rename_i k k'
   cases hb:(Nat.beq sz sz'&&Nat.beq k k') with
   | false=>simp[hb]at h
   | true=>
    simp only[hb,Ah,Ao]at h;simp only[A6]at hb;obtain rfl:=C4 hb.1;obtain rfl:=C4 hb.2;subst h;cases γ<;>rfl
theorem LX{γ:Bool}:∀{l m r:List AV},AV.mergeAll γ l m=some r->r=bif γ then m else l
 | [],[],r,h=>by simp only[AV.mergeAll,Ao]at h;subst h;cases γ<;>rfl
 | [],_::_,r,h=>by simp[AV.mergeAll]at h
 | _::_,[],r,h=>by simp[AV.mergeAll]at h
 | x::l,y::m,r,h=>by
  simp only[AV.mergeAll]at h
  split at h
  ·rename_i z q h1 h2
   simp only[Ao]at h;subst h;rw[po h1,LX h2]
   cases γ<;>rfl
  ·cases h
theorem MD{γ:Bool}{x y z:Own}(h:x.merge γ y=some z):z=bif γ then y else x:=by
 cases x<;>cases y<;>simp only[Own.merge,reduceCtorEq]at h
 ·rename_i e l e' m
  cases hb:Nat.beq e e' with
  | false=>simp[hb]at h
  | true=>
   obtain rfl:=C4 hb;simp only[hb,Ah]at h
   split at h
   ·rename_i r hr
    simp only[Ao]at h;subst h;rw[LX hr]
    cases γ<;>rfl
   ·cases h
 ·rename_i sz e n sz' e' n'
  cases hs:Nat.beq sz sz' with
  | false=>simp[hs]at h
  | true=>
   cases hb:Nat.beq e e' with
   | false=>simp[hb]at h
   | true=>
    obtain rfl:=C4 hb;obtain rfl:=C4 hs;simp only[hb,hs,Bool.and_self,Ah,Ao]at h;subst h
    cases γ<;>rfl
 ·rename_i sz e n f sz' e' n' f'
  cases hs:Nat.beq sz sz' with
  | false=>simp[hs]at h
  | true=>
   cases hb:Nat.beq e e' with
   | false=>simp[hb]at h
   | true=>
    obtain rfl:=C4 hb;obtain rfl:=C4 hs;simp only[hb,hs,Bool.and_self,Ah,Ao]at h;subst h
    cases γ<;>rfl
 ·rename_i x y
  cases x<;>cases y<;>simp only[reduceCtorEq]at h
  rename_i nn k l nn' k' l'
  cases hn:nn==nn' with
  | false=>simp[hn]at h
  | true=>
   cases hk:EG k k' with
   | false=>simp[hk]at h
   | true=>
    obtain rfl:=Pm hk
    obtain rfl:nn=nn':=by simpa using hn
    simp only[hn,hk,Bool.and_self,Ah,Ao]at h;subst h
    cases γ<;>rfl
theorem dr{own:Nat->Option Own}:∀{ns:List Nat} {n:Nat} {o:Own},dq ns (ns.map own) n=some o->own n=some o
 | [],n,o,h=>by simp[dq]at h
 | k::ns,n,o,h=>by
  simp only[Cq,dq]at h
  cases hb:Nat.beq k n with
  | true=>simp_all
  | false=>simp only[hb]at h;exact dr h
theorem HR{ns:List Nat}{es:List (Option Own)}:∀{wo wo':List (Nat×Own)},Uz true ns es wo=some wo'->wo'=wo
 | [],wo',h=>by simp only[Uz,Ao]at h;exact h.symm
 | (n,o)::r,wo',h=>by
  simp only[Uz]at h
  split at h
  ·cases h
  ·rename_i r' h2
   have h2:=HR h2;subst h2
   split at h
   ·split at h
    ·rename_i z h1
     simp only[Ao]at h;subst h;rw[MD h1]
     rfl
    ·grind
   ·grind
theorem EJ{own:Nat->Option Own}{ns:List Nat}:∀{wo wo':List (Nat×Own)},Uz false ns (ns.map own) wo=some wo'->∀ n o,Aj wo' n=some o->own n=some o
 | [],wo',h=>by simp only[Uz,Ao]at h;subst h;intro n o h;cases h
 | (n,o)::r,wo',h=>by
  simp only[Uz]at h
  split at h
  ·cases h
  ·rename_i r' h2
   have h2:=EJ h2
   split at h
   ·rename_i o' ho'
    split at h
    ·rename_i z h1
     simp only[Ao]at h;subst h;intro k q hk;simp only[Aj]at hk
     cases hb:Nat.beq n k with
     | true=>
      obtain rfl:=C4 hb;simp only[hb,Ah,Ao]at hk;subst hk;rw[MD h1];exact dr ho'
     | false=>grind
    ·grind
   ·grind
theorem qk{d:Option Nat}{x:AV}{wo:List (Nat×Own)}(h:∀ n o,Aj wo n=some o->σ.own n=some o):σ.upd d x wo=σ.upd d x []:=by
 simp only[Sto.upd,Sto.mk.injEq,true_and]
 funext n
 cases hl:Aj wo n with
 | none=>rfl
 | some o=>simp[h n o hl,Aj]
theorem iI{ops:Array Oper}{i:Nat}(hi:ops[i]?=some o)(h:Rel Γ σ I θ a w)(hd:∀ d,o.dst=some d->d<Γ.n){vs:List AV}(hvs:vs=o.op.operands.toList.map (cy σ.tmp)){gv:Option (AV×Bool)}(hgv:AU ops.toList σ.tmp o=some gv)
  {r:Option Vl} {es:List (Option Own)} (hes:es=(Vv o vs r).map σ.own) {cs:Option AV} {e:yh} (he:qc P (Spec P) cs o vs gv es r=some e) (hob:∀ p∈e.ob,p)
  (K:Act->World->Prop) (Q:Exit->Act->World->Prop) (hK:∀ I' θ' a' w',Rel Γ (σ.upd o.dst e.v e.wo) I' θ' a' w'->K a' w'):wpOp P ops Q i K a w:=by
 unfold qc at he;unfold AU at hgv;unfold wpOp;simp only[hi]
 cases hg:o.guard with
 | none=>
  simp only[hg,Ao]at hgv;subst hgv;simp only at he
  split at he
  ·rename_i ef' hef'
   obtain⟨ef,hef,rfl⟩:=zzL80.1 hef';simp only[Ao]at he;subst he;simp only[zzL11]at hob;obtain⟨c1,c2,c3⟩:=LI (λp hp=>hob p (.inr hp));rw[if_pos (by simp[Region.wanted,hg])];have hok:=WU h hd hvs hes (γ:=true) (gd:=false) (λh=>by cases h) (λp hp=>hob p (.inl hp)) hef c1;refine .inl (hok K Q λI' θ' a' w' hr=>hK I' θ' a' w' ?_);rw[c2];exact eE hr c3
  ·cases he
 | some gg=>
  obtain⟨j,want⟩:=gg;simp only[hg]at hgv
  split at hgv
  ·rename_i oj hoj
   split at hgv
   ·rename_i t ht
    simp only[Ao]at hgv;subst hgv;simp only at he
    split at he
    ·rename_i γ ef' hγ hef'
     obtain⟨ef,hef,rfl⟩:=zzL80.1 hef'
     split at he
     ·rename_i wo hwo
      simp only[Ao]at he;subst he
      have hj :=by simpa using hoj
      have hw:=dC hg hj ht h hγ;rw[hw];simp only[zzL11]at hob
      cases γ with
      | false=>
       rw[hes]at hwo;have hs:=qk (σ:=σ) (d:=o.dst) (x:=.cond false (PG (gk o cs) ef).v) (EJ hwo);refine hK I θ _ _ ?_;rw[hs];exact HY h (.refl h.chg.rel h.chg.valid)  (.cond _ _ _ (λhf=>by cases hf) (λ_=>rfl)) hd
      | true=>
       obtain⟨c1,c2,c3⟩:=LI  (e:=ef) (λp hp=>hob _ (.inr (zzL21.2 ⟨p,hp,rfl⟩)) rfl);have hok:=WU h hd hvs hes (γ:=true) (gd:=true) (λ_=>rfl) (λp hp=>hob p (.inl hp)) hef c1;have hm:=HR hwo;rw[c2]at hm;subst hm;exact .inl (hok K Q λI' θ' a' w' hr=>hK I' θ' a' w' (qP (eE hr c3) rfl))
     ·cases he
    ·cases he
   ·cases hgv
  ·cases hgv
end
structure Ev where
 rt:List (Nat×AV)
 ro:List (Nat×Option Own)
 wt:Option Nat
 v:AV
 wo:List (Nat×Own)
def Ev.ok(σ:Sto)(e:Ev):Prop:=(∀ p∈e.rt,σ.tmp p.1=p.2)/\∀ p∈e.ro,σ.own p.1=p.2
def Ev.app(σ:Sto)(e:Ev):Sto:=σ.upd e.wt e.v e.wo
def Ev.tr(e:Ev):Tr:=⟨e.rt.map (·.1),e.wt,e.ro.map (·.1),e.wo.map (·.1)⟩
structure EB(x y:Ev):Prop where
 a:∀ d,x.wt=some d->d∉y.rt.map (·.1)
 b:∀ d,x.wt=some d->y.wt≠some d
 c:∀ d,y.wt=some d->d∉x.rt.map (·.1)
 d:∀ n∈x.wo.map (·.1),n∉y.ro.map (·.1)/\n∉y.wo.map (·.1)
 e:∀ n∈y.wo.map (·.1),n∉x.ro.map (·.1)
theorem HS{n:Nat}{l:List Nat}(h:(!Bv n l)=true):n∉l:=λhm=>by rw[memB_mem.2 hm]at h;cases h
theorem af{x y:Ev}(h:f6 x.tr y.tr=true):EB x y:=by
 simp only[f6,Ev.tr,A6]at h;obtain⟨⟨⟨h1,h2⟩,h3⟩,h4⟩:=h;refine⟨λd hd=>?_,λd hd=>?_,λd hd=>?_,λn hn=>?_,λn hn=>?_⟩
 ·rw[hd]at h1;simp only[A6]at h1;exact HS h1.1
 ·rw[hd]at h1;intro he;rw[he]at h1;simp at h1
 ·rw[hd]at h2;exact HS h2
 ·have:=zzL27.1 h3 n hn;simp only[A6]at this;exact⟨HS this.1,HS this.2⟩
 ·exact HS (zzL27.1 h4 n hn)
inductive cM:List (Nat×Ev)->Sto->Sto->Prop
 | nil (σ:Sto):cM [] σ σ
 | cons {i:Nat} {e:Ev} {l:List (Nat×Ev)} {σ σ':Sto} (h:e.ok σ) (t:cM l (e.app σ) σ'):cM ((i,e)::l) σ σ'
theorem jJ(σ:Sto)(e:Ev)(t:Nat)(h:e.wt≠some t):(e.app σ).tmp t=σ.tmp t:=by simp[Ev.app,Sto.upd,h]
theorem jI(σ:Sto)(e:Ev)(n:Nat)(h:n∉e.wo.map (·.1)):(e.app σ).own n=σ.own n:=by simp[Ev.app,Sto.upd,Wj h]
theorem t7{σ:Sto}{x y:Ev}(hi:EB x y)(h:y.ok (x.app σ)):y.ok σ:=by
 refine⟨λp hp=>?_,λp hp=>?_⟩
 ·rw[<- h.1 p hp,jJ];intro he;exact hi.a p.1 he (zzL21.2 ⟨p,hp,rfl⟩)
 ·rw[<- h.2 p hp,jI];intro he;exact(hi.d p.1 he).1 (zzL21.2 ⟨p,hp,rfl⟩)
theorem xG{σ:Sto}{x y:Ev}(hi:EB x y)(h:x.ok σ):x.ok (y.app σ):=by
 refine⟨λp hp=>?_,λp hp=>?_⟩
 ·rw[jJ]
  ·exact h.1 p hp
  ·intro he;exact hi.c p.1 he (zzL21.2 ⟨p,hp,rfl⟩)
 ·rw[jI]
  ·exact h.2 p hp
  ·intro he;exact hi.e p.1 he (zzL21.2 ⟨p,hp,rfl⟩)
theorem oG{σ:Sto}{x y:Ev}(hi:EB x y):x.app (y.app σ)=y.app (x.app σ):=by
 simp only[Ev.app,Sto.upd,Sto.mk.injEq]
 constructor
 ·funext t
  by_cases h1:x.wt=some t
  ·have:=hi.b t h1;simp[ this]
  ·simp[h1]
 ·funext n
  by_cases h1:n∈x.wo.map (·.1)
  ·have:=Wj (hi.d n h1).2;simp[this]
  ·simp[Wj h1]
theorem me{pre:List (Nat×Ev)}:∀{post:List (Nat×Ev)} {i:Nat} {e:Ev} {σ σ':Sto},cM (pre++(i,e)::post) σ σ'->(∀ p∈pre,EB p.2 e)->e.ok σ/\cM (pre++post) (e.app σ) σ':=by
 induction pre with
 | nil=>intro post i e σ σ' h _;cases h with|cons h t=>exact⟨h,t⟩
 | cons p pre ih=>
  intro post i e σ σ' h hi;obtain⟨j,x⟩:=p
  cases h with|cons hx t=>
  obtain⟨h1,h2⟩:=ih t λp hp=>hi p (Ob _ hp);have hxe:=hi (j,x) (by simp);refine⟨t7 hxe h1,.cons (xG hxe hx) ?_⟩;rw[oG hxe];exact h2
section
variable {P:Program} {Γ:H6} {ops:Array Oper} {Q:Exit->Act->World->Prop}
def ZF(P:Program)(Γ:H6)(ops:Array Oper)(Q:Exit->Act->World->Prop)(i:Nat)(e:Ev):Prop:=
 ∀(σ:Sto),e.ok σ->∀(I:Nat->Nat->Prop) (θ:Nat->Option (Nat×Nat)) (a:Act) (w:World),Rel Γ σ I θ a w->∀ K:Act->World->Prop,(∀ I' θ' a' w',Rel Γ (e.app σ) I' θ' a' w'->K a' w')->wpOp P ops Q i K a w
theorem SM:∀(es:List (Nat×Ev)) (σ σ':Sto),(∀ p∈es,ZF P Γ ops Q p.1 p.2)->cM es σ σ'->(∀ I θ a w,Rel Γ σ' I θ a w->Q .normal a w)->
  ∀ I θ a w,Rel Γ σ I θ a w->wpOps P ops Q (es.map (·.1)) a w
 | [],σ,σ',_,hr,hQ,I,θ,a,w,h=>by cases hr;simpa [wpOps] using hQ I θ a w h
 | (i,e)::es,σ,σ',hs,hr,hQ,I,θ,a,w,h=>by
  cases hr with|cons hok t=>
  simp only[Cq];exact hs (i,e) (by simp) σ hok I θ a w h _ λI' θ' a' w' h'=>SM es _ σ' (λp hp=>hs p (Ob _ hp)) t hQ I' θ' a' w' h'
inductive ur (ops:Array Oper):Nat->Nat->Prop
 | direct {i:Nat} {o:Oper} {e:Edge} (ho:ops[i]?=some o) (he:e∈o.after) (hb:Region.binds .any e=true):ur ops e.on i
 | trans {i j k:Nat} (h:ur ops i j) (h':ur ops j k):ur ops i k
def nH(ops:Array Oper)(listed:Array Bool):Prop:=∀ i o,ops[i]?=some o->listed.getD i false=true->∀ e∈o.after,Region.binds .any e=true->listed.getD e.on false=true
theorem fc{listed:Array Bool}(hc:nH ops listed){j i:Nat}(h:ur ops j i):(∀ o,ops[i]?=some o->∀ e∈o.after,Region.binds .any e=true->listed.getD e.on false=true)->listed.getD j false=true:=by
 induction h with
 | direct ho he hb=>grind
 | trans _ _ ih1 ih2=>intro hi;exact ih1 λo ho e he hb=>hc _ o ho (ih2 hi) e he hb
theorem WE(hedge:∀ i o,ops[i]?=some o->∀ e∈o.after,Region.binds .any e=true->e.on<i)(σ':Sto)(hQ:∀ I θ a w,Rel Γ σ' I θ a w->Q .normal a w):∀(fuel:Nat) (es:List (Nat×Ev)) (listed:Array Bool) (σ:Sto),
  (∀ p∈es,ZF P Γ ops Q p.1 p.2)->cM es σ σ'->es.Pairwise (λp q=>p.1<q.1)->listed.size=ops.size->(∀ j,j∈es.map (·.1)↔j<ops.size/\listed.getD j true=false)->es.length=fuel->
  (∀ p∈es,∀ q∈es,p.1<q.1->¬ EB p.2 q.2->ur ops p.1 q.1)->nH ops listed->∀ I θ a w,Rel Γ σ I θ a w->wpAny P .any ops Q fuel listed a w
 | 0,es,listed,σ,_,hr,_,_,hmem,hlen,_,_,I,θ,a,w,h=>by
  have:es=[]:=List.eq_nil_of_length_eq_zero hlen;subst this;cases hr;refine⟨?_,hQ I θ a w h⟩
  cases hready:Region.ready .any ops listed with
  | nil=>rfl
  | cons i l=>
   have hi:i∈Region.ready .any ops listed:=by rw[hready];simp
   obtain⟨h1,o,ho,_⟩:=mem_ready.1 hi;have:=(hmem i).2 ⟨(Array.getElem?_eq_some_iff.1 ho).1,h1⟩
   cases this
 | fuel+1,es,listed,σ,hs,hr,hpw,hsz,hmem,hlen,hdep,hcl,I,θ,a,w,h=>by
  refine⟨λhnil=>?_,λi hi=>?_⟩
  ·cases es with
   | nil=>simp at hlen
   | cons p es=>
    obtain⟨i,e⟩:=p;have hi:=(hmem i).1 (by simp)
    have hin:i∈Region.ready .any ops listed:=by
     refine mem_ready.2 ⟨hi.2,ops[i]'hi.1,by simp[hi.1],λe' he' hb=>?_⟩;have hlt:=hedge i _ (Array.getElem?_eq_getElem hi.1) e' he' hb
     have hnot:¬ (e'.on∈((i,e)::es).map (·.1)):=by
      intro hm;simp only[Cq,zzL34]at hm;rcases hm with hm|hm
      ·omega
      ·obtain⟨q,hq,hq'⟩:=zzL21.1 hm;have:=(zzL76.1 hpw).1 q hq;simp only at this;omega
     rw[hmem]at hnot
     have hlt':e'.on<ops.size:=by omega
     have hls:e'.on<listed.size:=by omega
     cases hb':listed.getD e'.on false with
     | true=>rfl
     | false=>
      refine(hnot ⟨hlt',?_⟩).elim
      simpa [Array.getD,hls] using hb'
    rw[hnil]at hin;cases hin
  ·obtain⟨h1,o,ho,hedges⟩:=mem_ready.1 hi;have hlt:=(Array.getElem?_eq_some_iff.1 ho).1;have hin:=(hmem i).2 ⟨hlt,h1⟩;obtain⟨⟨i',e⟩,hie,rfl⟩:=zzL21.1 hin;obtain⟨pre,post,rfl⟩:=List.append_of_mem hie;simp only at *
   have hpre:∀ p∈pre,EB p.2 e:=λp hp=>by
    refine bf λhni=>?_
    have hpi:p.1<i':=by
     have:=(zzL128.1 hpw).2.2 p hp (i',e) (by simp);exact this
    have hanc:=hdep p (by simp[hp]) (i',e) (by simp) hpi hni
    have hl:=fc hcl hanc (λo' ho' e' he' hb=>by
     simp only at ho';rw[ho]at ho';obtain rfl:=OI ho'
     exact hedges e' he' hb)
    have hp':=(hmem p.1).1 (zzL21.2 ⟨p,by simp[hp],rfl⟩)
    have hls:p.1<listed.size:=by omega
    simp[Array.getD,hls]at hl hp';rw[hl]at hp';simp at hp'
   obtain⟨hok,hr'⟩:=me hr hpre
   have hpw':(pre++post).Pairwise (λp q=>p.1<q.1):=by
    refine hpw.sublist ?_;exact List.Sublist.append (List.Sublist.refl _) (List.sublist_cons_self _ _)
   have hsub:∀ p,p∈pre++post->p∈pre++(i',e)::post:=λp hp=>by
    rcases zzL11.1 hp with hp|hp
    ·exact zzL11.2 (.inl hp)
    ·exact zzL11.2 (.inr (Ob _ hp))
   refine hs (i',e) (by simp) σ hok I θ a w h _ λI' θ' a' w' h'=>
    WE hedge σ' hQ fuel (pre++post) (listed.setIfInBounds i' true) _ (λp hp=>hs p (hsub p hp)) hr' hpw' (by simp[hsz]) (λj=>?_) (by simp at hlen ⊢;omega) (λp hp q hq=>hdep p (hsub p hp) q (hsub q hq)) ?_ I' θ' a' w' h'
   ·have hne:∀ p∈pre++post,p.1≠i':=λp hp he=>by
     rcases zzL11.1 hp with hp|hp
     ·have:=(zzL128.1 hpw).2.2 p hp (i',e) (by simp);simp only at this;omega
     ·have:=(zzL76.1 (zzL128.1 hpw).2.1).1 p hp;simp only at this;omega
    constructor
    ·intro hj;obtain⟨p,hp,rfl⟩:=zzL21.1 hj;have:=(hmem p.1).1 (zzL21.2 ⟨p,hsub p hp,rfl⟩);refine⟨this.1,?_⟩;rw[getD_set_ne true (Ra (hne p hp))];exact this.2
    ·rintro⟨hj1,hj2⟩
     by_cases hji:j=i'
     ·subst hji
      have hls:j<listed.size:=by omega
      simp[Array.getD,hls]at hj2
     ·rw[getD_set_ne true (Ra hji)]at hj2;have:=(hmem j).2 ⟨hj1,hj2⟩;obtain⟨p,hp,rfl⟩:=zzL21.1 this;refine zzL21.2 ⟨p,?_,rfl⟩;rcases zzL11.1 hp with hp|hp
      ·exact zzL11.2 (.inl hp)
      ·rcases zzL34.1 hp with rfl|hp
       ·exact(hji rfl).elim
       ·exact zzL11.2 (.inr hp)
   ·intro x ox hox hx e' he' hb
    apply getD_set_true
    by_cases hxi:i'=x
    ·subst hxi;rw[ho]at hox;obtain rfl:=OI hox;exact hedges e' he' hb
    ·rw[getD_set_ne false hxi]at hx;exact hcl x ox hox hx e' he' hb
end
theorem H9{α:Type}(l:List (Nat×α))(k:Nat)(x:α)(n:Nat):Aj (Ec l k x) n=if k=n then some x else Aj l n:=by
 induction l with
 | nil=>
  simp only[Ec,Aj]
  by_cases h:k=n
  · simp
  ·cases hb:Nat.beq k n with
   | true=>simp_all
   | false=>simp[h]
 | cons p l ih=>
  obtain⟨k',y⟩:=p;simp only[Ec]
  cases hb:Nat.beq k' k with
  | true=>
   have:=C4 hb;subst this;simp only[Ah,Aj]
   by_cases h:k'=n
   ·subst h;simp
   ·cases hb:Nat.beq k' n with
    | true=>simp_all
    | false=>simp[h]
  | false=>
   simp only[Aw,Aj,ih]
   cases hb':Nat.beq k' n with
   | true=>
    grind
   | false=>simp
theorem dL{α:Type}(l r:List (Nat×α))(n:Nat):Aj (RU l r) n=match Aj r n with|some x=>some x|none=>Aj l n:=by
 induction r with
 | nil=>rfl
 | cons p r ih=>
  obtain⟨k,x⟩:=p;simp only[RU,H9,Aj,ih]
  by_cases h:k=n
  ·subst h;simp
  ·cases hb:Nat.beq k n with
   | true=>simp_all
   | false=>simp[h]
theorem Ba{l:List (Nat×Own)}{r:List (Nat×mr)}{k:Nat}(h:k<Bn):De l r k=Aj l k:=by simp[De,h]
theorem Rn(b i:Nat):¬ Sp b i<Bn:=by unfold Sp;have:Bn*1<=Bn*(b+1):=Nat.mul_le_mul_left _ (by omega);omega
theorem Xk{b i:Nat}(h:i<Bn):Sp b i / Bn-1=b:=by
 have h0:0<Bn:=by decide
 unfold Sp;rw[Nat.mul_add_div h0,Nat.div_eq_of_lt h];omega
theorem Un{b i:Nat}(h:i<Bn):Sp b i % Bn=i:=by
 unfold Sp;rw[Nat.mul_add_mod,Nat.mod_eq_of_lt h]
theorem oa{k:Nat}(h:¬ k<Bn):k=Sp (k / Bn-1) (k % Bn):=by
 have h0:0<Bn:=by decide
 unfold Sp;have:1<=k / Bn:=(Nat.one_le_div_iff h0).2 (by omega);rw[Nat.sub_add_cancel this,IJ]
theorem Ds{l:List (Nat×Own)}{r:List (Nat×mr)}{k:Nat}(h:¬ k<Bn):De l r k=(Aj r (k / Bn-1)).bind λF=>(F.m (k % Bn)).map (Own.tok F.sz F.e):=by simp[De,h]
theorem PR{l:List (Nat×Own)}{r:List (Nat×mr)}{b i:Nat}(h:i<Bn):De l r (Sp b i)=(Aj r b).bind λF=>(F.m i).map (Own.tok F.sz F.e):=by
 rw[Ds (Rn b i),Xk h,Un h]
theorem Xq{l:List (Nat×Own)}{r:List (Nat×mr)}{k:Nat}(h:¬ k<Bn){o:Own}(ho:De l r k=some o):∃ sz e m,o = .tok sz e m:=by
 rw[Ds h]at ho;obtain⟨F,_,hF⟩:=zzL108.1 ho;obtain⟨m,_,rfl⟩:=zzL80.1 hF;exact⟨_,_,_,rfl⟩
theorem cz{l:List (Nat×Own)}{r:List (Nat×mr)}{k:Nat}{o:Own}(ho:De l r k=some o)(hn:∀ sz e m,o≠.tok sz e m):Aj l k=some o:=by
 by_cases hk:k<Bn
 ·rw[<- ho,Ba hk]
 ·obtain⟨sz,e,m,rfl⟩:=Xq hk ho;exact(hn _ _ _ rfl).elim
theorem JM{α:Type}{l:List (Nat×α)}{n:Nat}{x:α}(h:Aj l n=some x):(n,x)∈l:=by
 induction l with
 | nil=>cases h
 | cons p l ih=>
  obtain⟨k,y⟩:=p;simp only[Aj]at h
  cases hb:Nat.beq k n with
  | true=>
   simp_all
  | false=>grind
theorem RS{l:List (Nat×Own)}(h:RR l=true){k:Nat}(hk:Aj l k≠none):k<Bn:=by
 cases hx:Aj l k with
 | none=>exact(hk hx).elim
 | some o=>have:=zzL27.1 h _ (JM hx);simpa [K9] using this
theorem ab{l:List (Nat×Own)}(h:RR l=true):De l []=Aj l:=by
 funext k
 by_cases hk:k<Bn
 ·exact Ba hk
 ·rw[Ds hk]
  cases hx:Aj l k with
  | none=>rfl
  | some o=>exact(hk (RS h (by rw[hx];simp))).elim
theorem L8{l:List (Nat×Own)}{r:List (Nat×mr)}{n:Nat}(hn:n<Bn)(o:Own)(k:Nat):De (Ec l n o) r k=if n=k then some o else De l r k:=by
 by_cases hk:k<Bn
 ·rw[Ba hk,Ba hk,H9]
 ·rw[Ds hk,Ds hk,if_neg (by rintro rfl;exact hk hn)]
theorem VD{l wo:List (Nat×Own)}{r:List (Nat×mr)}{ns:List Nat}(h:DL ns wo=true)(k:Nat):De (RU l wo) r k=match Aj wo k with|some o=>some o|none=>De l r k:=by
 simp only[DL,A6]at h
 by_cases hk:k<Bn
 ·rw[Ba hk,Ba hk,dL]
  cases Aj wo k<;>rfl
 ·have hn:Aj wo k=none:=by
   cases hx:Aj wo k with
   | none=>rfl
   | some o=>exact(hk (RS h.2 (by rw[hx];simp))).elim
  rw[hn,Ds hk,Ds hk]
theorem uV(st:St)(d:Option Nat)(v:AV)(wo:List (Nat×Own)){ns:List Nat}(hok:DL ns wo=true):(st.upd d v wo).sto=st.sto.upd d v wo:=by
 simp only[St.sto,St.upd,Sto.upd,Sto.mk.injEq]
 constructor
 ·funext t
  cases d with
  | none=>simp[St.get]
  | some d=>
   simp only[St.get,H9]
   by_cases h:d=t<;>simp[h]
 ·funext n
  rw[VD hok]
  cases Aj wo n<;>rfl
section
variable {P:Program} {Γ:H6} {ops:Array Oper} {Q:Exit->Act->World->Prop}
theorem lh{g g':Nat->AV}(l:List Operand)(h:∀ t,.tmp t∈l->g t=g' t):l.map (cy g)=l.map (cy g'):=by
 apply MR
 intro x hx
 cases x with
 | tmp t=>exact h t hx
 | _=>rfl
theorem LH(cs:List (Nat×AV)):∀(rest:List Oper) (k:Nat) (st:St) (rs:List Vl) (st':St) (obs:List Prop) (trs:List Tr),oI P (Spec P) Γ.n cs ops.toList rest st rs=some (st',obs,trs)->
  (∀ j,rest[j]?=ops[k+j]?)->(∀ p∈obs,p)->
  ∃ es:List (Nat×Ev),es.map (·.1)=List.range' k rest.length/\cM es st.sto st'.sto/\(∀ p∈es,ZF P Γ ops Q p.1 p.2)/\es.map (λp=>p.2.tr)=trs
 | [],k,st,rs,st',obs,trs,h,_,_=>by
  simp only[oI,Ao,Od]at h;obtain⟨rfl,rfl,rfl⟩:=h;exact⟨[],rfl,.nil _,(λ_ h=>by cases h),rfl⟩
 | o::rest,k,st,rs,st',obs,trs,h,hops,hob=>by
  simp only[oI]at h
  generalize hr:vL o rs=r at h
  have ho:ops[k]?=some o:=by simpa using(hops 0).symm
  split at h
  ·cases h
  ·rename_i gv hgv
   split at h
   ·cases h
   ·rename_i e he
    cases hdn:pD Γ.n o&&DL (Vv o (o.op.operands.toList.map (cy st.get)) r) e.wo with
    | false=>rw[hdn]at h;simp at h
    | true=>
     rw[hdn]at h;simp only[Ah]at h;simp only[A6]at hdn;obtain⟨hd,hnok⟩:=hdn
     have hnlt:∀ n∈Vv o (o.op.operands.toList.map (cy st.get)) r,n<Bn:=λn hn=>by
      have hnok':=hnok;simp only[DL,A6]at hnok';have:=zzL27.1 hnok'.1 n hn
      simpa [K9] using this
     split at h
     ·cases h
     ·rename_i st1 obs1 trs1 hrec
      simp only[Ao,Od]at h;obtain⟨rfl,rfl,rfl⟩:=h;obtain⟨es,h1,h2,h3,h4⟩:=LH cs rest (k+1) _ _ _ _ _ hrec (λj=>by have:=hops (j+1);simpa [Xc,Nat.add_comm 1 j] using this) (λp hp=>hob p (zzL11.2 (.inr hp)))
      let ns:=Vv o (o.op.operands.toList.map (cy st.get)) r
      let ev:Ev:=⟨(DD ops.toList o++iK o).map (λt=>(t,st.get t)),ns.map (λn=>(n,Aj st.own n)),o.dst,e.v,e.wo⟩
      refine⟨(k,ev)::es,by simp[EV,h1],.cons ⟨λp hp=>?_,λp hp=>?_⟩ (by rw[show ev.app st.sto=(st.upd o.dst e.v e.wo).sto from(uV _ _ _ _ hnok).symm];exact h2),λp hp=>?_,?_⟩
      ·obtain⟨t,_,rfl⟩:=zzL21.1 hp;rfl
      ·obtain⟨n,hn,rfl⟩:=zzL21.1 hp;exact Ba (hnlt n hn)
      ·rcases zzL34.1 hp with rfl|hp
       ·intro σ hok I θ a w hrel K hK;have ht:∀ t,t∈DD ops.toList o++iK o->σ.tmp t=st.get t:=λt ht=>hok.1 (t,st.get t) (zzL21.2 ⟨t,ht,rfl⟩);have hn:∀ n,n∈ns->σ.own n=Aj st.own n:=λn hn=>hok.2 (n,Aj st.own n) (zzL21.2 ⟨n,hn,rfl⟩);have hvs:o.op.operands.toList.map (cy st.get)=o.op.operands.toList.map (cy σ.tmp):=lh _ λt hm=>(ht t (zzL11.2 (.inr (List.mem_filterMap.2 ⟨.tmp t,hm,rfl⟩)))).symm
        have hgv':AU ops.toList σ.tmp o=some gv:=by
         rw[<- hgv];unfold AU
         cases hg:o.guard with
         | none=>rfl
         | some jw=>
          obtain⟨j,want⟩:=jw
          dsimp only
          cases hj:ops.toList[j]? with
          | none=>rfl
          | some oj=>
           dsimp only
           cases hdj:oj.dst with
           | none=>rfl
           | some t=>
            dsimp only
            rw[ht t (zzL11.2 (.inl (by simp only[DD,hg,hj,hdj];simp)))]
        refine iI ho hrel (λd hdd=>?_) hvs hgv' (r:=r) (es:=ns.map (Aj st.own)) ?_ he (λp hp=>hob p (zzL11.2 (.inl hp))) K Q hK
        ·simp only[pD,hdd]at hd;simpa [K9] using hd
        ·exact MR λn hn'=>(hn n hn').symm
       ·exact h3 p hp
      ·simp only[Cq,h4,Dr,Bs];simp[Ev.tr,ev,ns,FU]
theorem maskOf_spec(done:List Nat)(l:List Edge):∀(s j:Nat),(l.foldl (λs e=>bif Region.binds .any e then s ||| (2 ^ e.on ||| done.getD e.on 0) else s) s).testBit j=true->
  s.testBit j=true\/∃ e∈l,Region.binds .any e=true/\(e.on=j\/(done.getD e.on 0).testBit j=true):=by
 induction l with
 | nil=>grind
 | cons e l ih=>
  intro s j h;rcases ih _ j h with h'|⟨e',he',hb,hh⟩
  ·cases hb:Region.binds .any e with
   | false=>grind
   | true=>
    grind
  ·exact .inr ⟨e',Ob _ he',hb,hh⟩
theorem PA:∀(l:List Oper) (done:List Nat),(∀ j,l[j]?=ops[done.length+j]?)->(∀ i j,(done.getD i 0).testBit j=true->ur ops j i)->
  ∀ i j,((jG done l).getD i 0).testBit j=true->ur ops j i
 | [],done,_,hd,i,j,h=>hd i j h
 | o::l,done,hops,hd,i,j,h=>by
  refine PA l _ (λj=>by have:=hops (j+1);simpa [Xc,Nat.add_comm 1 j] using this) (λi j hb=>?_) i j h
  by_cases hlt:i<done.length
  ·grind
  ·by_cases hi:i=done.length
   ·subst hi;rw[List.getD,Ve (zzL6 _)]at hb;simp only[Nat.sub_self, KR]at hb
    have ho :=by simpa using(hops 0).symm
    rcases maskOf_spec _ _ 0 j hb with h'|⟨e,he,hbd,h'|h'⟩
    ·simp at h'
    ·subst h';exact .direct ho (by simpa using he) hbd
    ·exact .trans (hd _ _ h') (.direct ho (by simpa using he) hbd)
   ·grind
theorem HA:∀(l:List Oper) (k:Nat),OG k l=true->∀ j o,l[j]?=some o->∀ e∈o.after,Region.binds .any e=true->e.on<k+j
 | [],_,_,j,o,h=>by simp at h
 | x::l,k,hg,j,o,h=>by
  simp only[OG,A6]at hg;intro e he hb
  cases j with
  | zero=>
   simp only[List.getElem?_cons_zero,Ao]at h;subst h;have:=zzL27.1 hg.1 e (by simpa using he)
   simpa [hb,K9] using this
  | succ j=>
   have:=HA l _ hg.2 j o (by simpa using h) e he hb;omega
theorem PO(ms:List Nat):∀(l:List (Nat×Ev)) (i:Nat) (prev:List (Nat×Ev)),jY ms i (prev.map λp=>(p.1,p.2.tr)) (l.map λp=>p.2.tr)=true->l.map (·.1)=List.range' i l.length->
  (∀ q∈l,∀ p∈prev,EB p.2 q.2\/(ms.getD q.1 0).testBit p.1=true)/\(∀ p∈l,∀ q∈l,p.1<q.1->EB p.2 q.2\/(ms.getD q.1 0).testBit p.1=true)
 | [],_,_,_,_=>⟨(λ_ h=>by cases h),(λ_ h=>by cases h)⟩
 | (i',e)::l,i,prev,h,hi=>by
  simp only[Cq,EW,EV,Dr]at hi;obtain⟨rfl,hi⟩:=hi;simp only[Cq,jY,A6]at h;obtain⟨h1,h2⟩:=h;obtain⟨r1,r2⟩:=PO ms l _ ((i',e)::prev) h2 hi
  have hd:∀ p∈prev,EB p.2 e\/(ms.getD i' 0).testBit p.1=true:=λp hp=>by
   have:=zzL27.1 h1 _ (zzL21.2 ⟨p,hp,rfl⟩);simp only[FV]at this;rcases this with h|h
   ·exact .inl (af h)
   ·exact .inr h
  refine⟨λq hq p hp=>?_,λp hp q hq hlt=>?_⟩
  ·grind
  ·rcases zzL34.1 hq with rfl|hq
   ·rcases zzL34.1 hp with rfl|hp
    ·grind
    ·have hm:p.1∈l.map _:=zzL21.2 ⟨p,hp,rfl⟩;rw[hi]at hm;have:=(List.mem_range'_1.1 hm).1;omega
   ·grind
theorem Y7:∀(n k:Nat) (l:List (Nat×Ev)),l.map (·.1)=List.range' k n->l.Pairwise (λp q=>p.1<q.1)
 | 0,_,l,h=>by
  simp_all
 | n+1,k,[],h=>by grind
 | n+1,k,p::l,h=>by
  simp only[Cq,EV,Dr]at h;refine .cons (λq hq=>?_) (Y7 n _ l h.2);have hm:q.1∈l.map _:=zzL21.2 ⟨q,hq,rfl⟩;rw[h.2]at hm;have:=(List.mem_range'_1.1 hm).1;omega
end
theorem ln(l:List Nat)(g:Nat->AV)(t:Nat):Aj (l.map λt=>(t,g t)) t=if t∈l then some (g t) else none:=by
 induction l with
 | nil=>simp[Aj]
 | cons k l ih=>
  simp only[Cq,Aj,ih]
  cases hb:Nat.beq k t with
  | true=>simp_all
  | false=>
   have:t≠k:=by rintro rfl;simp at hb
   simp[this]
theorem gX(l:List Nat)(g:Nat->Option Own)(n:Nat):Aj (l.filterMap λn=>match g n with|some o=>some (n,o)|none=>none) n=if n∈l then g n else none:=by
 induction l with
 | nil=>simp[Aj]
 | cons k l ih=>
  simp only[List.filterMap_cons]
  cases hk:g k with
  | none=>
   grind
  | some o=>
   simp only[Aj,ih]
   cases hb:Nat.beq k n with
   | true=>simp_all
   | false=>
    have:n≠k:=by rintro rfl;simp at hb
    simp[this]
theorem dK(l:List Nat)(g:Nat->Option mr)(n:Nat):Aj (l.filterMap λn=>match g n with|some o=>some (n,o)|none=>none) n=if n∈l then g n else none:=by
 induction l with
 | nil=>simp[Aj]
 | cons k l ih=>
  simp only[List.filterMap_cons]
  cases hk:g k with
  | none=>
   grind
  | some o=>
   simp only[Aj,ih]
   cases hb:Nat.beq k n with
   | true=>simp_all
   | false=>
    have:n≠k:=by rintro rfl;simp at hb
    simp[this]
theorem VX(live names:List Nat)(st:St)(n:Nat):Aj (E3 live names st).fam n=if n∈names then Aj st.fam n else none:=by
 have e:(E3 live names st).fam=names.filterMap λn=>match Aj st.fam n with|some o=>some (n,o)|none=>none:=by
  apply Bi (λf=>names.filterMap f)
  cases Aj st.fam n<;>rfl
 rw[e,dK]
theorem VY(live names:List Nat)(st:St)(n:Nat):Aj (E3 live names st).own n=if n∈names then(Aj st.own n).map (Own.erase λn=>Bv n names) else none:=by
 have e:(E3 live names st).own=names.filterMap λn=>match(Aj st.own n).map (Own.erase λn=>Bv n names) with|some o=>some (n,o)|none=>none:=by
  simp only[E3]
  congr 1
  funext n
  cases Aj _ n<;>rfl
 rw[e,gX]
theorem VW{Γ:H6}{I:Nat->Nat->Prop}{θ:Nat->Option (Nat×Nat)}{a:Act}{w:World}{st:St}{live names:List Nat}(h:Rel Γ st.sto I θ a w)(hn:∀ nm,Γ.own0 nm≠none->nm∈names)(hlt:∀ n∈names,n<Bn):Rel Γ (E3 live names st).sto I θ a w:=by
 have hL:∀ nm,Aj (E3 live names st).own nm=if nm∈names then(Aj st.own nm).map (Own.erase λn=>Bv n names) else none:=VY live names st
 have hF:∀ nm,Aj (E3 live names st).fam nm=if nm∈names then Aj st.fam nm else none:=VX live names st
 have hown:∀ nm,nm<Bn->(E3 live names st).sto.own nm=if nm∈names then(st.sto.own nm).map (Own.erase λn=>Bv n names) else none:=λnm hlt=>by
  show De _ _ nm=_
  rw[Ba hlt,hL]
  show _=if nm∈names then(De st.own _ nm).map _ else none
  rw[Ba hlt]
 have hbig:∀ k,¬ k<Bn->(E3 live names st).sto.own k=if k / Bn-1∈names then st.sto.own k else none:=λk hk=>by
  show De _ _ k=if _ then De _ _ k else none
  rw[Ds hk,Ds hk,hF]
  split<;>rfl
 have hk:∀ nm o,st.sto.own nm=some o->Bv nm names=true->(E3 live names st).sto.own nm=some (o.erase λn=>Bv n names):=λnm o ho hm=>by
  rw[hown nm (hlt nm (memB_mem.1 hm)),if_pos (memB_mem.1 hm),ho];rfl
 have hkb:∀ b i sz e m,i<Bn->st.sto.own (Sp b i)=some (.tok sz e m)->Bv b names=true->(E3 live names st).sto.own (Sp b i)=some (.tok sz e m):=λb i sz e m hi ho hm=>by
  rw[hbig _ (Rn b i),Xk hi,if_pos (memB_mem.1 hm),ho]
 have hinv:∀ nm o,(E3 live names st).sto.own nm=some o->∃ o',st.sto.own nm=some o'/\o=o'.erase λn=>Bv n names:=λnm o ho=>by
  by_cases hlt:nm<Bn
  ·rw[hown nm hlt]at ho
   split at ho
   ·obtain⟨o',ho',rfl⟩:=zzL80.1 ho;exact⟨o',ho',rfl⟩
   ·cases ho
  ·rw[hbig nm hlt]at ho
   split at ho
   ·obtain⟨sz,e,m,rfl⟩:=Xq hlt (show De st.own st.fam nm=some o from ho);exact⟨_,ho,rfl⟩
   ·cases ho
 refine⟨h.size,h.defers,λt=>?_,?_⟩
 ·have e:(E3 live names st).sto.tmp t=if t∈live then(st.get t).erase (λn=>Bv n names) else .any:=by
   simp only[St.sto,St.get,E3,ln]
   split
   ·rename_i h;split at h<;>simp_all
   ·rename_i h;split at h<;>simp_all
  rw[e]
  split
  ·exact(h.slots t).erase _ hk hkb
  ·exact .val _ _ (.any _)
 ·refine{ h.chg with le:=λnm o ho=>?_,rel:=⟨λnm e0 cells ho=>?_,λnm sz e m ho=>?_,λnm nm' g c c' ho ho'=>?_,λnm sz e m f ho=>?_,λnm x ho=>?_,λnm sz m ho hnn=>?_⟩,new:=λnm g c ho hg=>?_ }
  rotate_left 6
  ·obtain⟨o',ho',he⟩:=hinv nm _ ho
   cases o' with
   | row=>simp[Own.erase]at he
   | arr=>simp[Own.erase]at he
   | obj=>simp[Own.erase]at he
   | tok=>
    simp only[Own.erase,Own.tok.injEq]at he;obtain⟨rfl,rfl,rfl⟩:=he;exact h.chg.rel.tok8 nm _ _ ho' hnn
  rotate_right 6
  rotate_left 5
  ·obtain⟨o',ho',he⟩:=hinv nm _ ho
   cases o' with
   | row=>simp[Own.erase]at he
   | tok=>simp[Own.erase]at he
   | arr=>simp[Own.erase]at he
   | obj x'=>
    simp only[Own.erase,Own.obj.injEq]at he;subst he;exact Mh (h.chg.rel.obj nm _ ho') rfl (λ_ _ _=>rfl) (λ_ _ _ _ h=>h) (λ_ hh=>hh.on _ (λ_ _ h=>h) (λ_ _ _=>rfl) λv y hv=>hv.erase _ hk hkb) RM
  rotate_left 1
  ·obtain⟨o',ho',hl⟩:=h.chg.le nm o ho;refine⟨_,hk nm o' ho' (memB_mem.2 (hn nm (by simp[ho]))),?_⟩
   cases o<;>cases o'<;>simp_all [OwnLe,Own.erase]
  ·obtain⟨o',ho',he⟩:=hinv nm _ ho
   cases o' with
   | tok=>simp[Own.erase]at he
   | arr=>simp[Own.erase]at he
   | obj=>simp[Own.erase]at he
   | row e' cs=>
    simp only[Own.erase,Own.row.injEq]at he;obtain⟨rfl,rfl⟩:=he;obtain⟨g,c,vs,r1,r2,r3,r4,r5,r6⟩:=h.chg.rel.row nm _ cs ho';refine⟨g,c,vs,r1,r2,by rw[A7];exact r3,λj hj=>r4 j (by rwa[A7]at hj),λj hj=>?_,r6⟩;rw[Hw];exact(r5 j (by rwa[A7]at hj)).erase _ hk hkb
  ·obtain⟨o',ho',he⟩:=hinv nm _ ho
   cases o' with
   | row=>simp[Own.erase]at he
   | arr=>simp[Own.erase]at he
   | obj=>simp[Own.erase]at he
   | tok=>
    simp only[Own.erase,Own.tok.injEq]at he;obtain⟨rfl,rfl,rfl⟩:=he;exact h.chg.rel.tok nm _ _ _ ho'
  ·refine h.chg.rel.inj nm nm' g c c' ?_ ?_
   ·cases hx:(E3 live names st).sto.own nm with
    | none=>exact(ho hx).elim
    | some o=>obtain⟨o',ho',_⟩:=hinv nm o hx;simp[ho']
   ·cases hx:(E3 live names st).sto.own nm' with
    | none=>exact(ho' hx).elim
    | some o=>obtain⟨o',ho',_⟩:=hinv nm' o hx;simp[ho']
  ·obtain⟨o',ho',he⟩:=hinv nm _ ho
   cases o' with
   | row=>simp[Own.erase]at he
   | tok=>simp[Own.erase]at he
   | obj=>simp[Own.erase]at he
   | arr sz' e' m' f'=>
    simp only[Own.erase,Own.arr.injEq]at he;obtain⟨rfl,rfl,rfl,rfl⟩:=he;exact Qf (h.chg.rel.arr nm _ _ _ _ ho') rfl (λ_ _ _=>rfl) (λ_ _ _ _ h=>h) (λi _=>A7 _ _) (λv i j _ _ hv=>by rw[Hw];exact hv.erase _ hk hkb)
  ·cases hx:(E3 live names st).sto.own nm with
   | none=>exact(ho hx).elim
   | some o=>
    obtain⟨o',ho',_⟩:=hinv nm o hx;exact h.chg.new nm g c (by simp[ho']) hg
theorem HZ{Γ:H6}{I:Nat->Nat->Prop}{θ:Nat->Option (Nat×Nat)}{a:Act}{w:World}{st:St}{live names:List Nat}(h:Rel Γ st.sto I θ a w)(hn:∀ nm,Γ.own0 nm≠none->nm∈names):Rel Γ (Hs live names st).sto I θ a w:=
 VW h (λnm h0=>zzL113.2 ⟨hn nm h0,by simpa [K9] using Γ.lt0 nm h0⟩) (λn hn=>by simp_all)
theorem WK{l:List Prop}(h:cm l):∀ p∈l,p:=by
 induction l with
 | nil=>intro p hp;cases hp
 | cons x l ih=>
  intro p hp;rcases zzL34.1 hp with rfl|hp
  ·exact h.1
  ·exact ih h.2 p hp
theorem qQ{Γ:H6}{σ:Sto}{I:Nat->Nat->Prop}{θ:Nat->Option (Nat×Nat)}{a:Act}{w:World}(h:Rel Γ σ I θ a w):Rel Γ σ I θ a { w with drawn:=w.drawn+1 }:=
 ⟨h.size,h.defers,λt=>(h.slots t).mono (λ_ _ h=>h) (λ_ _ _=>rfl) (λ_ o ho=>⟨o,ho,.refl _ _⟩),
  {h.chg with drawn:=λd=>Nat.le_succ_of_le (h.chg.drawn d),rel:=⟨λnm e cells ho=>by
              obtain⟨g,c,vs,r1,r2,r3,r4,r5,r6⟩:=h.chg.rel.row nm e _ ho
              exact⟨g,c,vs,r1,r2,r3,r4,λj hj=>(r5 j hj).mono (λ_ _ h=>h) (λ_ _ _=>rfl) (λ_ o ho=>⟨o,ho,.refl _ _⟩),r6⟩,h.chg.rel.tok,h.chg.rel.inj,
             λnm sz e m f ho=>Qf (h.chg.rel.arr nm sz e m f ho) rfl (λ_ _ _=>rfl) (λ_ _ _ _ h=>h) (λ_ _=>rfl) (λv i j _ _ hv=>hv.mono (λ_ _ h=>h) (λ_ _ _=>rfl) (λ_ o ho=>⟨o,ho,.refl _ _⟩)),
             λnm x ho=>Mh (h.chg.rel.obj nm x ho) rfl (λ_ _ _=>rfl) (λ_ _ _ _ h=>h) (λ_ hh=>hh.mono λv y hv=>hv.mono (λ_ _ h=>h) (λ_ _ _=>rfl) (λ_ o ho=>⟨o,ho,.refl _ _⟩)) Vs,h.chg.rel.tok8⟩ }⟩
def Zk(P:Program)(Γ:H6)(c:Code)(K:Exit->St->Prop)(st:St):Prop:=
 ∀(I:Nat->Nat->Prop) (θ:Nat->Option (Nat×Nat)) (a:Act) (w:World),Rel Γ st.sto I θ a w->c.wp P (λe a' w'=>∃ st' I' θ',K e st'/\Rel Γ st'.sto I' θ' a' w') a w
theorem fh{P:Program}{Γ:H6}{id:Nat}{ops:List Oper}{draw:Bool}{K:Exit->St->Prop}{st st':St}{rs:List Vl}{cs:List (Nat×AV)}{live names:List Nat}{obs:List Prop}{n:Nat}(hnn:Γ.n=n)(hm:P.follows .mixedOrders=true)(hn:∀ nm,Γ.own0 nm≠none->nm∈names)
  (h:NX P (Spec P) n cs live names ops draw st rs=some (st',obs,true)) (hob:cm obs) (hK:K .normal st'):Zk P Γ (.region id ops.toArray draw) K st:=by
 subst hnn;unfold NX at h
 split at h
 ·rename_i st1 obs1 trs hr
  simp only[Ao,Od]at h;obtain⟨rfl,rfl,hord⟩:=h
  have hr' :=by simpa using hr
  intro I θ a w hrel;obtain⟨es,h1,h2,h3,h4⟩:=LH (cs:=cs) (Q:=λe a' w'=>∃ st' I' θ',K e st'/\Rel Γ st'.sto I' θ' a' w') ops 0 st rs st1 obs1 trs hr' (λj=>by simp) (WK hob);have hfin:∀ I θ a w,Rel Γ st1.sto I θ a w->∃ st' I' θ',K .normal st'/\Rel Γ st'.sto I' θ' a w:=λI θ a w hrel=>⟨_,I,θ,hK,HZ hrel hn⟩
  cases draw with
  | false=>
   refine wp_region ?_;have:=SM es st.sto st1.sto h3 h2 hfin I θ a w hrel;rw[h1]at this;rwa[Sl]
  | true=>
   simp only[Ah,j6,A6]at hord;obtain⟨o1,o2⟩:=hord;refine wp_region_any hm ?_
   have hlen :=by have:=Bi List.length h1;simpa using this
   rw[<- h4]at o2;have hdep:=(PO (jG [] ops) es 0 [] o2 (by rw[h1,hlen])).2;refine WE (λi o ho e he hb=>?_) st1.sto hfin _ es _ st.sto h3 h2 (Y7 _ _ _ h1) (by simp) (λj=>?_) (by simp[hlen]) (λp hp q hq hlt hni=>?_) ?_ I θ a _ (qQ hrel)
   ·have:=HA ops 0 o1 i o (by simpa using ho) e he hb;omega
   ·simp_all
   ·rcases hdep p hp q hq hlt with h|h
    ·exact(hni h).elim
    ·exact PA ops [] (λj=>by simp) (λi j h=>by simp at h) q.1 p.1 h
   ·intro i o ho hl;simp[Array.getD]at hl
 ·cases h
inductive LR (S X:Type) where
 | next (s:S)
 | done (x:X)
inductive LRuns {S X:Type} (f:S->Option (LR S X)):S->X->Nat->Prop
 | done {s:S} {x:X} (h:f s=some (.done x)):LRuns f s x 0
 | next {s s':S} {x:X} {n:Nat} (h:f s=some (.next s')) (t:LRuns f s' x n):LRuns f s x (n+1)
theorem LRuns.unique{S X:Type}{f:S->Option (LR S X)}{s:S}{x y:X}{n m:Nat}(h:LRuns f s x n)(k:LRuns f s y m):x=y:=by
 induction h generalizing m with
 | done h=>cases k with
  | done h'=>grind
  | next h' _=>rw[h]at h';cases h'
 | next h _ ih=>cases k with
  | done h'=>rw[h]at h';cases h'
  | next h' t'=>grind
open Classical in
def XJ{S X:Type}(f:S->Option (LR S X))(s:S):Option X:=
 if h:∃ x n,LRuns f s x n then some h.choose else none
def dM{S X:Type}(f:S->Option (LR S X))(n:Nat):S->Option (Option X):=
 Nat.rec (λ_=>none) (λ_ ih s=>match f s with|none=>some none|some (.done x)=>some (some x)|some (.next s')=>ih s') n
def Ac{S X:Type}(f:S->Option (LR S X))(s:S):Option X:=
 match dM f 4096 s with|some r=>r|none=>XJ f s
theorem loopC_iff{S X:Type}{f:S->Option (LR S X)}{s:S}{x:X}:XJ f s=some x↔∃ n,LRuns f s x n:=by
 unfold XJ
 constructor
 ·intro h
  split at h
  ·grind
  ·cases h
 ·rintro⟨n,hn⟩;have hx:∃ x n,LRuns f s x n:=⟨x,n,hn⟩;rw[dif_pos hx];obtain⟨m,hm⟩:=hx.choose_spec;rw[hm.unique hn]
theorem dN{S X:Type}{f:S->Option (LR S X)}:∀{n:Nat} {s:S} {r:Option X},dM f n s=some r->XJ f s=r
 | 0,s,r,h=>by cases h
 | n+1,s,r,h=>by
  have e:dM f (n+1) s=(match f s with|none=>some _|some (.done x)=>some _|some (.next s')=>dM f n s'):=rfl;rw[e]at h
  split at h
  ·rename_i hf
   cases h
   cases hx:XJ f s with
   | none=>rfl
   | some x=>
    obtain⟨m,hm⟩:=loopC_iff.1 hx
    cases hm with
    | done h'=>rw[hf]at h';cases h'
    | next h' _=>rw[hf]at h';cases h'
  ·rename_i x hf
   cases h;exact loopC_iff.2 ⟨0,.done hf⟩
  ·rename_i s' hf
   have ih:=dN h;rw[<- ih]
   apply Option.ext
   intro x
   constructor
   ·intro hx;obtain⟨m,hm⟩:=loopC_iff.1 hx
    cases hm with
    | done h'=>rw[hf]at h';cases h'
    | next h' t=>rw[hf]at h';cases h';exact loopC_iff.2 ⟨_,t⟩
   ·intro hx;obtain⟨m,hm⟩:=loopC_iff.1 hx;exact loopC_iff.2 ⟨_,.next hf hm⟩
theorem lq{S X:Type}(f:S->Option (LR S X))(s:S):Ac f s=XJ f s:=by
 unfold Ac
 cases h:dM f _ s with
 | none=>rfl
 | some r=>exact(dN h).symm
theorem loopO_iff{S X:Type}{f:S->Option (LR S X)}{s:S}{x:X}:Ac f s=some x↔∃ n,LRuns f s x n:=by rw[lq];exact loopC_iff
theorem Ak{S X:Type}{f:S->Option (LR S X)}{s:S}{x:X}(h:f s=some (.done x)):Ac f s=some x:=loopO_iff.2 ⟨0,.done h⟩
theorem Ap{S X:Type}{f:S->Option (LR S X)}{s s':S}(h:f s=some (.next s')):Ac f s=Ac f s':=by
 apply Option.ext
 intro x
 constructor
 ·intro hx;obtain⟨n,hn⟩:=loopO_iff.1 hx
  cases hn with
  | done h'=>rw[h]at h';cases h'
  | next h' t=>rw[h]at h';cases h';exact loopO_iff.2 ⟨_,t⟩
 ·intro hx;obtain⟨n,hn⟩:=loopO_iff.1 hx;exact loopO_iff.2 ⟨_,.next h hn⟩
theorem Xy{S X:Type}{f:S->Option (LR S X)}{s:S}(h:f s=none):Ac f s=none:=by
 cases hx:Ac f s with
 | none=>rfl
 | some x=>
  obtain⟨n,hn⟩:=loopO_iff.1 hx
  cases hn with
  | done h'=>rw[h]at h';cases h'
  | next h' t=>rw[h]at h';cases h'
def Az{R:Type}(p:Prop)[Decidable p](k:Option R):Option R:=if p then k else none
theorem Qh{R:Type}{p:Prop}[Decidable p]{k:Option R}{r:R}(h:Az p k=some r):p/\k=some r:=by
 unfold Az at h
 split at h
 ·exact⟨‹p›,h⟩
 ·cases h
theorem Ad{R:Type}{p:Prop}[Decidable p]{k:Option R}(h:p):Az p k=k:=by simp[Az,h]
def Rz{S X:Type}(f0:Option (LR S X))(f:S->Option (LR S X)):Option X:=f0.bind λ| .next s=>Ac f s | .done x=>some x
theorem bind_some{A R:Type}{x:Option A}{k:A->Option R}{r:R}(h:x.bind k=some r):∃ a,x=some a/\k a=some r:=zzL108.1 h
section
variable {P:Program} {Γ:H6}
def Le(Γ:H6)(st st':St):Prop:=∀(I:Nat->Nat->Prop) (θ:Nat->Option (Nat×Nat)) (a:Act) (w:World),Rel Γ st.sto I θ a w->∃ I' θ',Rel Γ st'.sto I' θ' a w
theorem Le.refl(Γ:H6)(st:St):Le Γ st st:=λI θ _ _ h=>⟨I,θ,h⟩
theorem Le.trans{st st' st'':St}(h:Le Γ st st')(k:Le Γ st' st''):Le Γ st st'':=λI θ a w hr=>let⟨I',θ',hr'⟩:=h I θ a w hr;k I' θ' a w hr'
theorem AVle.refl(x:AV):AVle x x:=λ_ _ _ _ _ h=>h
theorem AVle.any(x:AV):AVle x .any:=λ_ _ _ _ v _=>.val _ _ (.any v)
theorem RepV.slice_ext{I:Nat->Nat->Prop}{w:World}{v:Value}{sz n:Nat}{f g:Nat->List AV}(h:RepV I w v (.slice sz n f .none))(hf:∀ i,i<n->f i=g i):RepV I w v (.slice sz n g .none):=by
 obtain⟨_,ad,cap,us,rfl,hcap,hmax,hz,hn,h1,hl,hr⟩:=h.slice_inv;exact .slice ad n cap sz g us hcap hmax hz hn h1 (λi hi=>by grind) (λi c hi hc=>by grind)
theorem AVle.slice{sz n n':Nat}{f g:Nat->List AV}{t:Tag}(hn:n=n')(hf:∀ i,i<n->f i=g i):AVle (.slice sz n f t) (.slice sz n' g t):=by
 subst hn;intro I own θ w v h
 cases h with
 | val v x h=>obtain⟨rfl,_⟩:=h.slice_inv;exact .val _ _ (h.slice_ext hf)
 | exact a n sz f h=>exact .exact a n sz g (h.slice_ext hf)
 | own nm sz e m a n cap f ho hm hv h=>exact .own nm sz e m a n cap g ho hm hv (h.slice_ext hf)
 | fam b i sz e m a n cap f hi ho hm hv h=>exact .fam b i sz e m a n cap g hi ho hm hv (h.slice_ext hf)
theorem AVle.untag{sz n:Nat}{f:Nat->List AV}{t:Tag}:AVle (.slice sz n f t) (.slice sz n f .none):=λ_ _ _ _ _ h=>.val _ _ h.slice_val
theorem AVle.empty{sz sz' n:Nat}{f g:Nat->List AV}{t:Tag}(hn:n=0)(ht:∀ nm,t≠.own nm)(ht':∀ b i,t≠.fam b i:=by intro _ _ h;cases h):AVle (.slice sz n f t) (.slice sz' n g t):=by
 subst hn;intro I own θ w v h
 have key:∀ v,RepV I w v (.slice sz 0 f .none)->RepV I w v _:=λv h=>by
  obtain⟨_,ad,cap,us,rfl,hcap,hmax,hz,hn,h1,hl,hr⟩:=h.slice_inv;exact .slice ad 0 cap sz' g us hcap hmax (λh=>by omega) hn (λj hj=>by omega) (λi hi=>by omega) (λi c hi=>by omega)
 cases h with
 | val v x h=>obtain⟨rfl,_⟩:=h.slice_inv;exact .val _ _ (key _ h)
 | exact a n sz f h=>exact .exact a _ sz' g (key _ h)
 | own nm=>exact(ht nm rfl).elim
 | fam b i=>exact(ht' b i rfl).elim
inductive AVleL:List AV->List AV->Prop
 | nil:AVleL [] []
 | cons {x y:AV} {l m:List AV} (h:AVle x y) (t:AVleL l m):AVleL (x::l) (y::m)
theorem AVleL.length{l m:List AV}(h:AVleL l m):l.length=m.length:=by induction h with|nil=>rfl|cons _ _ ih=>simp[ih]
theorem AVleL.get{l m:List AV}(h:AVleL l m)(j:Nat):AVle (l.getD j .any) (m.getD j .any):=by
 induction h generalizing j with
 | nil=>exact .refl _
 | cons h _ ih=>cases j with
  | zero=>simpa using h
  | succ j=>simpa using ih j
theorem AVleL.refl(l:List AV):AVleL l l:=by induction l with|nil=>exact .nil|cons x l ih=>exact .cons (.refl x) ih
theorem AVle.agg{l m:List AV}(h:AVleL l m):AVle (.agg l) (.agg m):=by
 intro I own θ w v hv;obtain⟨vs,rfl,hl,h1,hr⟩:=hv.agg_inv;exact .agg vs m (by rw[hl,h.length]) (λj hj=>h1 j (by rw[h.length];exact hj)) (λj hj=>h.get j I own θ w _ (hr j (by rw[h.length];exact hj)))
theorem AVle.tuple{l m:List AV}(h:AVleL l m):AVle (.tuple l) (.tuple m):=by
 intro I own θ w v hv;obtain⟨vs,rfl,hl,hr⟩:=hv.tuple_inv;exact .tuple vs m (by rw[hl,h.length]) (λj hj=>h.get j I own θ w _ (hr j (by rw[h.length];exact hj)))
inductive TmpsLe:List (Nat×AV)->List (Nat×AV)->Prop
 | nil:TmpsLe [] []
 | cons {t:Nat} {x y:AV} {l m:List (Nat×AV)} (h:AVle x y) (k:TmpsLe l m):TmpsLe ((t,x)::l) ((t,y)::m)
inductive OwnsLe:List (Nat×Own)->List (Nat×Own)->Prop
 | nil:OwnsLe [] []
 | row {n:Nat} {e:TypeId} {x y:List AV} {l m:List (Nat×Own)} (h:AVleL x y) (k:OwnsLe l m):OwnsLe ((n,.row e x)::l) ((n,.row e y)::m)
 | same {n:Nat} {o:Own} {l m:List (Nat×Own)} (k:OwnsLe l m):OwnsLe ((n,o)::l) ((n,o)::m)
 | arr {n sz:Nat} {e:TypeId} {k:Nat} {f g:Nat->List AV} {l m:List (Nat×Own)} (h:∀ i,i<k->AVleL (f i) (g i)) (t:OwnsLe l m):OwnsLe ((n,.arr sz e k f)::l) ((n,.arr sz e k g)::m)
theorem TmpsLe.refl(l:List (Nat×AV)):TmpsLe l l:=by induction l with|nil=>exact .nil|cons x l ih=>exact .cons (.refl _) ih
theorem OwnsLe.refl(l:List (Nat×Own)):OwnsLe l l:=by induction l with|nil=>exact .nil|cons x l ih=>exact .same ih
theorem TmpsLe.get{l m:List (Nat×AV)}(h:TmpsLe l m)(t:Nat):AVle (match Aj l t with|some x=>x|none=>.any) (match Aj m t with|some x=>x|none=>.any):=by
 induction h with
 | nil=>exact .refl _
 | @cons t' x y l m h _ ih=>
  simp only[Aj]
  cases Nat.beq t' t with
  | true=>exact h
  | false=>exact ih
theorem OwnsLe.get{l m:List (Nat×Own)}(h:OwnsLe l m)(n:Nat):(∀ o,Aj l n=some o->∃ o',Aj m n=some o'/\(o=o'\/(∃ e x y,o = .row e x/\o' = .row e y/\AVleL x y)\/∃ sz e k f g,o = .arr sz e k f/\o' = .arr sz e k g/\∀ i,i<k->AVleL (f i) (g i)))/\(∀ o',Aj m n=some o'->∃ o,Aj l n=some o):=by
 induction h with
 | nil=>grind
 | @row n' e x y l m h _ ih=>
  simp only[Aj]
  cases Nat.beq n' n with
  | true=>
   refine⟨λo ho=>?_,λo ho=>⟨_,rfl⟩⟩;simp only[Ah,Ao]at ho;subst ho;exact⟨_,rfl,.inr (.inl ⟨e,x,y,rfl,rfl,h⟩)⟩
  | false=>exact ih
 | @arr n' sz e k f g l m h _ ih=>
  simp only[Aj]
  cases Nat.beq n' n with
  | true=>
   grind
  | false=>exact ih
 | @same n' o l m _ ih=>
  simp only[Aj]
  cases Nat.beq n' n with
  | true=>exact⟨λo ho=>⟨o,ho,.inl rfl⟩,λo ho=>⟨o,ho⟩⟩
  | false=>exact ih
theorem Jc{st st':St}(ht:TmpsLe st.tmps st'.tmps)(ho:OwnsLe st.own st'.own)(hfam:st'.fam=st.fam:=by rfl):Le Γ st st':=by
 intro I θ a w h
 have hg1:∀ nm o,st.sto.own nm=some o->∃ o',st'.sto.own nm=some o'/\(o=o'\/(∃ e x y,o = .row e x/\o' = .row e y/\AVleL x y)\/∃ sz e k f g,o = .arr sz e k f/\o' = .arr sz e k g/\∀ i,i<k->AVleL (f i) (g i)):=λnm o hn=>by
  by_cases hlt:nm<Bn
  ·have hn':Aj st.own nm=some o:=by rw[<- hn];exact(Ba hlt).symm
   obtain⟨o',h1,h2⟩:=(ho.get nm).1 o hn';exact⟨o',(Ba hlt).trans h1,h2⟩
  ·refine⟨o,?_,.inl rfl⟩;rw[<- hn]
   show De _ _ nm=De _ _ nm
   rw[Ds hlt,Ds hlt,hfam]
 have hg2:∀ nm o',st'.sto.own nm=some o'->∃ o,st.sto.own nm=some o:=λnm o' hn=>by
  by_cases hlt:nm<Bn
  ·have hn':Aj st'.own nm=some o':=by rw[<- hn];exact(Ba hlt).symm
   obtain⟨o,h1⟩:=(ho.get nm).2 o' hn';exact⟨o,(Ba hlt).trans h1⟩
  ·refine⟨o',?_⟩;rw[<- hn]
   show De _ _ nm=De _ _ nm
   rw[Ds hlt,Ds hlt,hfam]
 have hmono:∀ v x,Rep I st.sto.own θ w v x->Rep I st'.sto.own θ w v x:=λv x h=>h.mono (λ_ _ h=>h) (λ_ _ _=>rfl) λnm o hn=>by
  obtain⟨o',h1,h2⟩:=hg1 nm o hn;refine⟨o',h1,?_⟩;rcases h2 with rfl|⟨e1,x,y,rfl,rfl,_⟩|⟨sz,e,k,f,g,rfl,rfl,_⟩
  ·exact .refl _ _
  ·exact⟨rfl,rfl⟩
  ·exact⟨rfl,rfl,zzL6 _,λ_=>rfl⟩
 refine⟨I,θ,h.size,h.defers,λt=>hmono _ _ (ht.get t I _ θ w _ (h.slots t)),{ h.chg with le:=λnm o hn=>?_,rel:=⟨λnm e0 cells hn=>?_,λnm sz e m hn=>?_,λnm nm' g c c' hn hn'=>?_,λnm sz e m f hn=>?_,λnm x hn=>?_,λnm sz m hn hnn=>?_⟩,new:=λnm g c hn hg=>?_ }⟩
 rotate_left 6
 ·obtain⟨o,h1⟩:=hg2 nm _ hn;obtain⟨o',h2,h3⟩:=hg1 nm o h1;have e':st'.sto.own nm=some o':=h2;rw[e']at hn;obtain rfl:=OI hn;rcases h3 with rfl|⟨e1,x,y,rfl,h5,h6⟩|⟨sz,e,k,f,g,rfl,h5,h6⟩
  ·exact h.chg.rel.tok8 nm _ _ h1 hnn
  ·cases h5
  ·cases h5
 rotate_right 6
 rotate_left 5
 ·obtain⟨o,h1⟩:=hg2 nm _ hn;obtain⟨o',h2,h3⟩:=hg1 nm o h1;have e':st'.sto.own nm=some o':=h2;rw[e']at hn;obtain rfl:=OI hn;rcases h3 with rfl|⟨e1,x,y,rfl,h5,h6⟩|⟨sz,e,k,f,g,rfl,h5,h6⟩
  ·exact Mh (h.chg.rel.obj nm _ h1) rfl (λ_ _ _=>rfl) (λ_ _ _ _ h=>h) (λ_ hh=>hh.mono hmono) Vs
  ·cases h5
  ·cases h5
 rotate_left 1
 ·obtain⟨o',h1,h2⟩:=h.chg.le nm o hn;obtain⟨o'',h3,h4⟩:=hg1 nm o' h1;refine⟨o'',h3,?_⟩;rcases h4 with rfl|⟨e1,x,y,rfl,rfl,_⟩|⟨sz,e,k,f,g,rfl,rfl,_⟩
  ·exact h2
  ·cases o<;>simp_all [OwnLe]
  ·cases o<;>simp_all [OwnLe]
 ·obtain⟨o,h1⟩:=hg2 nm _ hn;obtain⟨o',h2,h3⟩:=hg1 nm o h1;have e:st'.sto.own nm=some o':=h2;rw[e]at hn;obtain rfl:=OI hn;rcases h3 with rfl|⟨e1,x,y,rfl,h5,h6⟩|⟨sz,e,k,f,g,rfl,h5,h6⟩
  rotate_left 2
  ·cases h5
  ·obtain⟨g,c,vs,r1,r2,r3,r4,r5,r6⟩:=h.chg.rel.row nm _ _ h1;exact⟨g,c,vs,r1,r2,r3,r4,λj hj=>hmono _ _ (r5 j hj),r6⟩
  ·simp only[Own.row.injEq]at h5;obtain⟨rfl,rfl⟩:=h5;obtain⟨g,c,vs,r1,r2,r3,r4,r5,r6⟩:=h.chg.rel.row nm _ _ h1;exact⟨g,c,vs,r1,r2,by rw[r3,h6.length],λj hj=>r4 j (by rw[h6.length];exact hj),λj hj=>hmono _ _ (h6.get j I _ θ w _ (r5 j (by rw[h6.length];exact hj))),r6⟩
 ·obtain⟨o,h1⟩:=hg2 nm _ hn;obtain⟨o',h2,h3⟩:=hg1 nm o h1;have e':st'.sto.own nm=some o':=h2;rw[e']at hn;obtain rfl:=OI hn;rcases h3 with rfl|⟨e1,x,y,rfl,h5,h6⟩|⟨sz,e,k,f,g,rfl,h5,h6⟩
  ·exact h.chg.rel.tok nm _ _ _ h1
  ·cases h5
  ·cases h5
 ·have hx:∀ nm,st'.sto.own nm≠none->st.sto.own nm≠none:=λnm hn=>by
   cases hs:st'.sto.own nm with
   | none=>exact(hn hs).elim
   | some o=>obtain⟨o',h1⟩:=hg2 nm _ hs;have:st.sto.own nm=some o':=h1;simp[this]
  exact h.chg.rel.inj nm nm' g c c' (hx nm hn) (hx nm' hn')
 ·obtain⟨o,h1⟩:=hg2 nm _ hn;obtain⟨o',h2,h3⟩:=hg1 nm o h1;have e':st'.sto.own nm=some o':=h2;rw[e']at hn;obtain rfl:=OI hn;rcases h3 with rfl|⟨e1,x,y,rfl,h5,h6⟩|⟨sz',e2,k,f2,g,rfl,h5,h6⟩
  ·exact Qf (h.chg.rel.arr nm _ _ _ _ h1) rfl (λ_ _ _=>rfl) (λ_ _ _ _ h=>h) (λ_ _=>rfl) (λv i j _ _ hv=>hmono _ _ hv)
  ·cases h5
  ·simp only[Own.arr.injEq]at h5;obtain⟨rfl,rfl,rfl,rfl⟩:=h5;exact Qf (h.chg.rel.arr nm _ _ _ _ h1) rfl (λ_ _ _=>rfl) (λ_ _ _ _ h=>h) (λi hi=>(h6 i hi).length.symm) (λv i j hi _ hv=>hmono _ _ ((h6 i hi).get j I _ θ w v hv))
 ·refine h.chg.new nm g c ?_ hg
  cases hs:st'.sto.own nm with
  | none=>exact(hn hs).elim
  | some o=>obtain⟨o',h1⟩:=hg2 nm _ hs;have:st.sto.own nm=some o':=h1;simp[this]
theorem dH{st:St}(live names:List Nat)(hn:∀ nm,Γ.own0 nm≠none->nm∈names):Le Γ st (Hs live names st):=λI θ _ _ h=>⟨I,θ,HZ h hn⟩
theorem BA{st:St}{r j nm sz sz' n:Nat}{e0:TypeId}{f:Nat->List AV}{cells:List AV}(g:Nat->List AV)(e:TypeId)(hr:Aj st.own r=some (.row e0 cells))(hs:cells.getD j .any = .slice sz n f .exact)(hj:j<cells.length)(hn:Aj st.own nm=none)(hz:(sz=sz'/\f=g)\/n=0)(h8:e=EQ->n=0)(hlt:Nat.blt nm Bn=true:=by rfl)(hltr:Nat.blt r Bn=true:=by rfl) :
  Le Γ st ⟨st.tmps,Ec (Ec st.own r (.row e0 (cells.set j (.slice sz' n g (.own nm))))) nm (.tok sz' e n),st.fam⟩:=by
 intro I θ a w h
 have hlt:nm<Bn:=by simpa [K9] using hlt
 have hltr:r<Bn:=by simpa [K9] using hltr
 have hn:st.sto.own nm=none:=(Ba hlt).trans hn;have hr:st.sto.own r=some (.row e0 cells):=(Ba hltr).trans hr
 have hne:r≠nm:=by rintro rfl;rw[hr]at hn;cases hn
 let own':Nat->Option Own:=λk=>if k=nm then some (.tok sz' e n) else if k=r then some (.row e0 (cells.set j (.slice sz' n g (.own nm)))) else st.sto.own k
 have hown:(⟨st.tmps,Ec (Ec st.own r (.row e0 (cells.set j (.slice sz' n g (.own nm))))) nm (.tok sz' e n),st.fam⟩:St).sto.own=own':=by
  funext k
  show De (Ec (Ec st.own r _) nm _) _ k=_
  rw[L8 hlt,L8 hltr];simp only[own',Sz (a:=nm),Sz (a:=r)]
  rfl
 have hle:∀ nm' o,st.sto.own nm'=some o->∃ o',own' nm'=some o'/\OwnLe o (θ nm') o' (thUp θ nm none nm'):=λnm' o ho=>by
  have h1:nm'≠nm:=by rintro rfl;have:st.sto.own nm'=some o:=ho;rw[hn]at this;cases this
  by_cases h2:nm'=r
  ·subst h2;have:st.sto.own nm'=some o:=ho;rw[hr]at this;obtain rfl:=OI this;exact⟨.row e0 (cells.set j (.slice sz' n g (.own nm))),by simp[own',h1],by simp[thUp,h1,OwnLe]⟩
  ·exact⟨o,by simp[own',h1,h2,ho],by simp[thUp,h1,OwnLe.refl]⟩
 have hmono:∀ v x,Rep I st.sto.own θ w v x->Rep I own' (thUp θ nm none) w v x:=λv x h=>h.mono (λ_ _ h=>h) (λ_ _ _=>rfl) hle;have hrel:=h.chg.rel
 have k:Chg st.sto.own θ I w own' (thUp θ nm none) I w:=by
  refine{ imm:=λ_ _ h=>h,cell:=λ_ _ _=>rfl,le:=hle,rel:=?_,valid:=h.chg.valid,os:=rfl,tape:=rfl,output:=rfl,drawn:=λ_=>zzL6 _,grow:=zzL6 _,frame:=λ_ _ _=>rfl,new:=λnm' g' c ho hg=>?_,immNew:=λ_ _ h=>.inl h }
  ·refine⟨λnm' e2 cells' ho=>?_,λnm' s' e' m ho g' c hg=>?_,λn1 n2 g' c c' ho ho' hg hg'=>?_,λnm' s' e' m f' ho=>?_,λnm' x' ho=>?_,λnm' s' m ho hnn=>?_⟩
   rotate_left 5
   ·by_cases h1:nm'=nm
    ·simp only[own',h1,Mw,Ao,Own.tok.injEq]at ho;obtain⟨rfl,he,rfl⟩:=ho;exact h8 he
    ·have h2:nm'≠r:=by rintro rfl;simp[own',h1]at ho
     simp only[own',h1,h2,I5]at ho;simp only[thUp,h1,I5]at hnn;exact hrel.tok8 nm' _ _ ho hnn
   ·by_cases h1:nm'=nm
    ·simp[own',h1]at ho
    ·by_cases h2:nm'=r
     ·subst h2;simp only[own',h1,I5,Mw,Ao,Own.row.injEq]at ho;obtain⟨rfl,rfl⟩:=ho;obtain⟨g',c,vs,r1,r2,r3,r4,r5,r6⟩:=hrel.row nm' _ cells hr;refine⟨g',c,vs,by simpa [thUp,h1] using r1,r2,by simpa using r3,λj' hj'=>r4 j' (by simpa using hj'),λj' hj'=>?_,r6⟩
      have hj'':j'<cells.length:=by simpa using hj'
      by_cases hjj:j'=j
      ·subst hjj
       have e1:(cells.set j' (.slice sz' n g (.own nm))).getD j' .any = .slice sz' n g (.own nm):=by simp[List.getD,hj]
       rw[e1];have hr':=r5 j' hj'';rw[hs]at hr';obtain⟨ad,hv⟩:=hr'.exact_inv;have hV:=hr'.slice_val;rw[hv]at hV ⊢;refine .own nm sz' e n ad n n g (by simp[own']) (zzL6 _) (λ_=>by simp[thUp]) ?_;rcases hz with⟨rfl,rfl⟩|rfl
       ·exact hV
       ·obtain⟨_,ad',cap,us,he,hcap,hmax,hz,hn',h1',hl,hr⟩:=hV.slice_inv;simp only[SZ,true_and]at he;obtain⟨rfl,rfl⟩:=he;exact .slice ad 0 0 sz' g us hcap hmax (λh=>by omega) hn' (λj hj=>by omega) (λi hi=>by omega) (λi c hi=>by omega)
      ·have e1:(cells.set j (.slice sz' n g (.own nm))).getD j' .any=cells.getD j' .any:=by simp[List.getD,Ra hjj]
       rw[e1];exact hmono _ _ (r5 j' hj'')
     ·simp only[own',h1,h2,I5]at ho;obtain⟨g',c,vs,r1,r2,r3,r4,r5,r6⟩:=hrel.row nm' _ cells' ho;exact⟨g',c,vs,by simpa [thUp,h1] using r1,r2,r3,r4,λj' hj'=>hmono _ _ (r5 j' hj'),r6⟩
   ·by_cases h1:nm'=nm
    ·simp[thUp,h1]at hg
    ·have h2:nm'≠r:=by rintro rfl;simp[own',h1]at ho
     simp only[own',h1,h2,I5]at ho;simp only[thUp,h1,I5]at hg;exact hrel.tok nm' _ _ _ ho g' c hg
   ·have hx:∀ n1 g' c,own' n1≠none->thUp θ nm none n1=some (g',c)->st.sto.own n1≠none/\θ n1=some (g',c):=λn1 g' c ho hg=>by
     by_cases h1:n1=nm
     ·simp[thUp,h1]at hg
     ·simp only[thUp,h1,I5]at hg;refine⟨?_,hg⟩
      by_cases h2:n1=r
      ·subst h2;have:st.sto.own n1=some (.row e0 cells):=hr;simp[this]
      ·simpa [own',h1,h2] using ho
    obtain⟨a1,a2⟩:=hx n1 g' c ho hg;obtain⟨b1,b2⟩:=hx n2 g' c' ho' hg';exact hrel.inj n1 n2 g' c c' a1 b1 a2 b2
   ·by_cases h1:nm'=nm
    ·simp[own',h1]at ho
    ·have h2:nm'≠r:=by rintro rfl;simp[own',h1]at ho
     simp only[own',h1,h2,I5]at ho;exact Qf (hrel.arr nm' _ _ _ _ ho) (by simp[thUp,h1]) (λ_ _ _=>rfl) (λ_ _ _ _ h=>h) (λ_ _=>rfl) (λv i j _ _ hv=>hmono _ _ hv)
   ·by_cases h1:nm'=nm
    ·simp[own',h1]at ho
    ·have h2:nm'≠r:=by rintro rfl;simp[own',h1]at ho
     simp only[own',h1,h2,I5]at ho;exact Mh (hrel.obj nm' _ ho) (by simp[thUp,h1]) (λ_ _ _=>rfl) (λ_ _ _ _ h=>h) (λ_ hh=>hh.mono hmono) Vs
  ·by_cases h1:nm'=nm
   ·simp[thUp,h1]at hg
   ·simp only[thUp,h1,I5]at hg;refine .inr ⟨nm',c,?_,hg⟩
    by_cases h2:nm'=r
    ·subst h2;have:st.sto.own nm'=some (.row e0 cells):=hr;simp[this]
    ·simpa [own',h1,h2] using ho
 refine⟨I,thUp θ nm none,h.size,h.defers,λt'=>?_,?_⟩
 ·rw[hown];exact(h.slots t').chg k
 ·rw[hown];exact h.chg.trans k
theorem Ro{st:St}{t nm sz sz' n:Nat}{f:Nat->List AV}(g:Nat->List AV)(e:TypeId)(hs:st.get t = .slice sz n f .exact)(hn:Aj st.own nm=none)(hz:(sz=sz'/\f=g)\/n=0)(h8:e=EQ->n=0)  (hlt:Nat.blt nm Bn=true:=by rfl) :
  Le Γ st ⟨Ec st.tmps t (.slice sz' n g (.own nm)),Ec st.own nm (.tok sz' e n),st.fam⟩:=by
 intro I θ a w h
 have hlt:nm<Bn:=by simp_all
 have hn:st.sto.own nm=none:=(Ba hlt).trans hn
 have hown:(⟨Ec st.tmps t (.slice sz' n g (.own nm)),Ec st.own nm (.tok sz' e n),st.fam⟩:St).sto.own=Au st.sto.own nm (.tok sz' e n):=by
  funext k
  show De _ _ k=_
  rw[L8 hlt];simp only[Au]
  by_cases hk:nm=k
  ·subst hk;simp
  ·simp[hk,Ra hk];rfl
 have k:Chg _ θ I w (Au _ nm (.tok sz' e n)) (thUp θ nm none) I w:=
  CX h.chg.rel (λ_ _ h=>h) (λ_ _ _=>rfl) (.inl hn) (λ_ _ _=>rfl) (λ_ _ h=>.inl h) h.chg.valid rfl rfl rfl (zzL6 _) (by simp) (by simp) (λ_=>h8)
 refine⟨I,thUp θ nm none,h.size,h.defers,λt'=>?_,?_⟩
 ·rw[hown]
  have hget:(⟨Ec st.tmps t (.slice sz' n g (.own nm)),Ec st.own nm (.tok sz' e n),st.fam⟩:St).sto.tmp t'=if t=t' then .slice sz' n g (.own nm) else st.get t':=by
   show(match Aj (Ec st.tmps t _) t' with|some x=>x|none=>.any)=_
   rw[H9]
   by_cases hk:t=t'
   ·simp[hk]
   ·simp[hk];rfl
  rw[hget]
  split
  ·rename_i htt
   subst htt;have hr:=h.slots t
   have hr':Rep I st.sto.own θ w (a.tmps.getD t undef) (.slice sz n f .exact):=by rw[<- hs];exact hr
   obtain⟨ad,hv⟩:=hr'.exact_inv;have hV:=hr'.slice_val;rw[hv]at hV ⊢;refine .own nm sz' e n ad n n g (by simp[Au]) (zzL6 _) (λ_=>by simp[thUp]) ?_;rcases hz with⟨rfl,rfl⟩|rfl
   ·exact hV
   ·obtain⟨_,ad',cap,us,he,hcap,hmax,hz,hn',h1,hl,hr⟩:=hV.slice_inv;obtain⟨rfl,rfl⟩:=he;exact .slice ad 0 0 sz' g us hcap hmax (λh=>by omega) hn' (λj hj=>by omega) (λi hi=>by omega) (λi c hi=>by omega)
  ·exact(h.slots t').chg k
 ·rw[hown];exact h.chg.trans k
theorem QL{st:St}{t nm sz sz':Nat}{f:Nat->List AV}(g:Nat->List AV)(e:TypeId)(hs:st.get t = .slice sz 0 f .exact)(hn:Aj st.own nm=none)  (hlt:Nat.blt nm Bn=true:=by rfl) :
  Le Γ st ⟨Ec st.tmps t (.vsl nm 0),Ec st.own nm (.arr sz' e 0 g),st.fam⟩:=by
 intro I θ a w h
 have hlt:nm<Bn:=by simp_all
 have hn:st.sto.own nm=none:=(Ba hlt).trans hn
 have hown:(⟨Ec st.tmps t (.vsl nm 0),Ec st.own nm (.arr sz' e 0 g),st.fam⟩:St).sto.own=Au st.sto.own nm (.arr sz' e 0 g):=by
  funext k
  show De _ _ k=_
  rw[L8 hlt];simp only[Au]
  by_cases hk:nm=k
  ·subst hk;simp
  ·simp[hk,Ra hk];rfl
 have k:Chg _ θ I w (Au _ nm (.arr sz' e 0 g)) (thUp θ nm none) I w:=
  Mb h.chg.rel h.chg.valid (λ_ _ _=>rfl) (.inl hn) (λ_ _ _=>rfl) rfl rfl rfl (zzL6 _) (λ_=>rfl) (by simp) (by simp)
 refine⟨I,thUp θ nm none,h.size,h.defers,λt'=>?_,?_⟩
 ·rw[hown]
  have hget:(⟨Ec st.tmps t (.vsl nm 0),Ec st.own nm (.arr sz' e 0 g),st.fam⟩:St).sto.tmp t'=if t=t' then .vsl nm 0 else st.get t':=by
   show(match Aj (Ec st.tmps t _) t' with|some x=>x|none=>.any)=_
   rw[H9]
   by_cases hk:t=t'
   ·simp[hk]
   ·simp[hk];rfl
  rw[hget]
  split
  ·rename_i htt
   subst htt;have hr:=h.slots t
   have hr':Rep I st.sto.own θ w (a.tmps.getD t undef) (.slice sz 0 f .exact):=by rw[<- hs];exact hr
   obtain⟨ad,hv⟩:=hr'.exact_inv;rw[hv];exact .vsl nm sz' e 0 g ad 0 0 (by simp[Au]) (zzL6 _) (zzL6 _) (P4 _) (λ_=>rfl) (λ_=>by simp[thUp])
  ·exact(h.slots t').chg k
 ·rw[hown];exact h.chg.trans k
theorem oT{c:Code}{K K':Exit->St->Prop}{st:St}(h:Zk P Γ c K st)(hk:∀ e st,K e st->K' e st):Zk P Γ c K' st:=λI θ a w hr=>
 Uf (h I θ a w hr) λ_ _ _ ⟨st',I',θ',h1,h2⟩=>⟨st',I',θ',hk _ _ h1,h2⟩
theorem fg{c:Code}{K:Exit->St->Prop}{st st':St}(h:Le Γ st st')(k:Zk P Γ c K st'):Zk P Γ c K st:=λI θ a w hr=>let⟨I',θ',hr'⟩:=h I θ a w hr;k I' θ' a w hr'
def clK(Γ:H6)(K:Exit->St->Prop):Exit->St->Prop:=λe st=>∃ st',Le Γ st st'/\K e st'
theorem wZ{c:Code}{K:Exit->St->Prop}{st:St}(h:Zk P Γ c (clK Γ K) st):Zk P Γ c K st:=λI θ a w hr=>
 Uf (h I θ a w hr) λe a' w' ⟨st1,I1,θ1,⟨st2,hl,hk⟩,hr1⟩=>let⟨I2,θ2,hr2⟩:=hl I1 θ1 a' w' hr1;⟨st2,I2,θ2,hk,hr2⟩
theorem oV{K:Exit->St->Prop}{st:St}(h:K .normal st):Zk P Γ .skip K st:=λI θ _ _ hr=>wp_skip ⟨st,I,θ,h,hr⟩
theorem lQ{l:Nat}{K:Exit->St->Prop}{st:St}(h:K .normal st):Zk P Γ (.label l) K st:=λI θ _ _ hr=>wp_label ⟨st,I,θ,h,hr⟩
theorem sn{K:Exit->St->Prop}{st:St}(h:K .ret st):Zk P Γ .ret K st:=λI θ _ _ hr=>wp_ret ⟨st,I,θ,h,hr⟩
theorem oQ{id:Nat}{K:Exit->St->Prop}{st:St}(h:K (.exit id) st):Zk P Γ (.exit id) K st:=λI θ _ _ hr=>wp_exit ⟨st,I,θ,h,hr⟩
theorem oR{l:Nat}{K:Exit->St->Prop}{st:St}(h:K (.goto l) st):Zk P Γ (.goto l) K st:=λI θ _ _ hr=>wp_goto ⟨st,I,θ,h,hr⟩
def vP(P:Program)(Γ:H6)(y:Code)(K:Exit->St->Prop):Exit->St->Prop
 | .normal,st=>Zk P Γ y K st
 | e,st=>K e st
theorem jM{x y:Code}{K:Exit->St->Prop}{st:St}(h:Zk P Γ x (vP P Γ y K) st):Zk P Γ (.seq x y) K st:=λI θ a w hr=>
 wp_seq (Uf (h I θ a w hr) λe a' w' ⟨st',I',θ',h1,h2⟩=>by
  cases e with
  | normal=>exact h1 I' θ' a' w' h2
  | _=>exact⟨st',I',θ',h1,h2⟩)
theorem cZ{c:Operand}{x y:Code}{K:Exit->St->Prop}{st:St}(b:Bool)(hc:cy st.get c = .bool b)(ht:b=true->Zk P Γ x K st)(hf:b=false->Zk P Γ y K st):Zk P Γ (.cond c x y) K st:=λI θ a w hr=>by
 have he:=RX hr c;have hc':cy st.sto.tmp c = .bool b:=hc;rw[hc']at he;exact wp_cond_split he.bool_inv (λh=>ht h I θ a w hr) (λh=>hf h I θ a w hr)
theorem oU{c:Operand}{x y:Code}{K:Exit->St->Prop}{st:St}(pos:Bool)(n:Nat)(hc:cy st.get c = .nilq pos n)(ht:(pos=true->n=0)->Zk P Γ x K st)
  (hf:(pos=false->n=0)->Zk P Γ y K st):Zk P Γ (.cond c x y) K st:=λI θ a w hr=>by
 have he:=RX hr c;have hc':cy st.sto.tmp c = .nilq pos n:=hc;rw[hc']at he;obtain⟨b,hb,hn⟩:=he.nilq_inv;exact wp_cond_split hb (λh=>ht (λhp=>hn (h.trans hp.symm)) I θ a w hr) (λh=>hf (λhp=>hn (h.trans hp.symm)) I θ a w hr)
theorem pp{α β:Type}{l:List α}{n:Nat}{r:β}(m:Option β)(F:List α->Option β)(h:F l=some r)(hn:n=0)(hl:n=l.length)(hm:F []=some r->m=some r):m=some r:=by
 grind
def JB(id:Nat)(K:Exit->St->Prop):Exit->St->Prop
 | .exit id',st=>if id'=id then K .normal st else K (.exit id') st
 | e,st=>K e st
theorem lP{id:Nat}{c:Code}{K:Exit->St->Prop}{st:St}(h:Zk P Γ c (JB id K) st):Zk P Γ (.block id c) K st:=λI θ a w hr=>
 wp_block (Uf (h I θ a w hr) λe a' w' ⟨st',I',θ',h1,h2⟩=>by
  cases e with
  | exit id'=>
   simp only[JB]at h1;simp only[Exit.inBlock]
   split
   ·grind
   ·grind
  | _=>exact⟨st',I',θ',h1,h2⟩)
theorem YQ{c:Code}{Q:Exit->Act->World->Prop}(J:Nat->Act->World->Prop)(round:∀ n a w,J n a w->c.wp P (Exit.then (λa' w'=>∃ m,m<n/\J m a' w') Q) a w){n:Nat}{a:Act}{w:World}(h:J n a w):(Code.loop c).wp P Q a w:=by
 intro b k cs
 have key:∀ n a w,J n a w->∃ e a' w',Q e a' w'/\Arrives P (lone (b.at a (.code c::.inLoop c::k)) cs w) b k cs e a' w':=by
  intro n
  induction n using Nat.strongRecOn with
  | _ n ih=>
   intro a w hJ;obtain⟨e,a₁,w₁,hq,harr⟩:=round n a w hJ b _ cs
   cases e with
   | normal=>
    obtain⟨m,hlt,hJ'⟩:=hq;obtain⟨e₂,a₂,w₂,hq₂,harr₂⟩:=ih m hlt _ _ hJ';exact⟨e₂,a₂,w₂,hq₂,.of_steps (Steps.trans harr (.one step_inLoop)) harr₂⟩
   | exit id=>exact⟨_,a₁,w₁,hq,.pass  rfl (λ_ _=>.inl (by simp)) harr⟩
   | goto l=>exact⟨_,a₁,w₁,hq,.pass  rfl (λ_ _=>.inl (by simp)) harr⟩
   | ret=>exact⟨_,a₁,w₁,hq,.pass  rfl (λ_ _=>.inl (by simp)) harr⟩
   | panic ch=>exact⟨_,a₁,w₁,hq,.pass  rfl (λ_ _=>.inl (by simp)) harr⟩
   | outgrown=>exact⟨_,a₁,w₁,hq,.pass  rfl (λ_ _=>.inl (by simp)) harr⟩
 obtain⟨e,a',w',hq,harr⟩:=key n a w h;exact⟨e,a',w',hq,.of_steps (.one step_loop) harr⟩
def FM{S X:Type}(Γ:H6)(H:S->St)(KX:X->Exit->St->Prop):LR S X->Exit->St->Prop
 | .next s',e,st'=>e = .normal/\Le Γ st' (H s')
 | .done x,e,st'=>e≠.normal/\KX x e st'
theorem ca{S X:Type}{body:Code}(H:S->St)(f:S->Option (LR S X))(KX:X->Exit->St->Prop){K:Exit->St->Prop}
  (hb:∀ s y,f s=some y->Zk P Γ body (FM Γ H KX y) (H s)) {s:S} {x:X} (hr:Ac f s=some x) (hK:∀ e st',KX x e st'->K e st'):Zk P Γ (.loop body) K (H s):=by
 intro I θ a w hrel;obtain⟨n,hn⟩:=loopO_iff.1 hr;refine YQ (λn a w=>∃ s I θ,LRuns f s x n/\Rel Γ (H s).sto I θ a w) (λn a w ⟨s,I,θ,hs,hrel⟩=>?_)  ⟨s,I,θ,hn,hrel⟩
 cases hs with
 | done hd=>
  refine Uf (hb s _ hd I θ a w hrel) λe a' w' ⟨st',I',θ',h1,h2⟩=>?_;obtain⟨hne,hx⟩:=h1
  cases e with
  | normal=>exact(hne rfl).elim
  | _=>exact⟨st',I',θ',hK _ _ hx,h2⟩
 | @next _ s' _ m hd ht=>
  refine Uf (hb s _ hd I θ a w hrel) λe a' w' ⟨st',I',θ',h1,h2⟩=>?_;obtain⟨rfl,hle⟩:=h1;obtain⟨I'',θ'',h3⟩:=hle I' θ' a' w' h2;exact⟨m,Nat.lt_succ_self m,s',I'',θ'',ht,h3⟩
def LS(c:Code)(J:Nat->Act->World->Prop)(Q:Exit->Act->World->Prop):Exit->Act->World->Prop
 | .goto l,a,w=>match findLabel c l with|some _=>J l a w|none=>Q (.goto l) a w
 | e,a,w=>Q e a w
theorem iM{c:Code}{Q:Exit->Act->World->Prop}(J:Nat->Nat->Act->World->Prop){a:Act}{w:World}(first:c.wp P (LS c (λl a' w'=>∃ n,J n l a' w') Q) a w)
  (pass:∀ n l rest a w,findLabel c l=some rest->J n l a w->rest.wp P (LS c (λl' a' w'=>∃ m,m<n/\J m l' a' w') Q) a w):(Code.scope c).wp P Q a w:=by
 intro b k cs
 have hg:∀ l rest,findLabel c l=some rest->gotoIn l (.inScope c::k)=some (.code rest::.inScope c::k):=λl rest hf=>by simp[gotoIn,hf]
 have hg':∀ l k',findLabel c l=none->gotoIn l k=some k'->gotoIn l (.inScope c::k)=some k':=λl k' hf hk=>by simp[gotoIn,hf,hk]
 have key:∀ n l rest a w,findLabel c l=some rest->J n l a w->∃ e a' w',Q e a' w'/\Arrives P (lone (b.at a (.code rest::.inScope c::k)) cs w) b k cs e a' w':=by
  intro n
  induction n using Nat.strongRecOn with
  | _ n ih=>
   intro l rest a w hf hJ;obtain⟨e,a₁,w₁,hq,harr⟩:=pass n l _ a w hf hJ b _ cs
   cases e with
   | normal=>exact⟨.normal,a₁,w₁,hq,Steps.trans harr (.one step_inScope)⟩
   | exit id=>exact⟨.exit id,a₁,w₁,hq,λk' hk=>harr k' (by simp[exitTo,hk])⟩
   | goto l'=>
    simp only[LS]at hq
    cases hf':findLabel c l' with
    | some rest'=>
     rw[hf']at hq;obtain⟨m,hlt,hJ'⟩:=hq;obtain⟨e₂,a₂,w₂,hq₂,harr₂⟩:=ih m hlt l' _ _ _ hf' hJ';exact⟨e₂,a₂,w₂,hq₂,.of_steps (harr _ (hg l' _ hf')) harr₂⟩
    | none=>
     rw[hf']at hq;exact⟨.goto l',a₁,w₁,hq,λk' hk=>harr k' (hg' l' k' hf' hk)⟩
   | ret=>exact⟨_,a₁,w₁,hq,harr⟩
   | panic ch=>exact⟨_,a₁,w₁,hq,harr⟩
   | outgrown=>exact⟨_,a₁,w₁,hq,harr⟩
 obtain⟨e,a₁,w₁,hq,harr⟩:=first b _ cs
 cases e with
 | normal=>exact⟨.normal,a₁,w₁,hq,.head FZ (Steps.trans harr (.one step_inScope))⟩
 | exit id=>exact⟨.exit id,a₁,w₁,hq,λk' hk=>.head FZ (harr k' (by simp[exitTo,hk]))⟩
 | goto l'=>
  simp only[LS]at hq
  cases hf':findLabel c l' with
  | some rest'=>
   rw[hf']at hq;obtain⟨n,hJ'⟩:=hq;obtain⟨e₂,a₂,w₂,hq₂,harr₂⟩:=key n l' _ _ _ hf' hJ';exact⟨e₂,a₂,w₂,hq₂,.of_steps (.head FZ (harr _ (hg l' _ hf'))) harr₂⟩
  | none=>
   rw[hf']at hq;exact⟨.goto l',a₁,w₁,hq,λk' hk=>.head FZ (harr k' (hg' l' k' hf' hk))⟩
 | ret=>exact⟨_,a₁,w₁,hq,.of_steps (.one FZ) harr⟩
 | panic ch=>exact⟨_,a₁,w₁,hq,.of_steps (.one FZ) harr⟩
 | outgrown=>exact⟨_,a₁,w₁,hq,.of_steps (.one FZ) harr⟩
def QE{S X:Type}(Γ:H6)(c:Code)(lab:S->Nat)(H:S->St)(KX:X->Exit->St->Prop):LR S X->Exit->St->Prop
 | .next s',e,st'=>e = .goto (lab s')/\(findLabel c (lab s')).isSome=true/\Le Γ st' (H s')
 | .done x,e,st'=>(∀ l,e = .goto l->findLabel c l=none)/\KX x e st'
theorem lR{S X:Type}{c:Code}(lab:S->Nat)(H:S->St)(f0:Option (LR S X))(f:S->Option (LR S X))(KX:X->Exit->St->Prop){K:Exit->St->Prop}{st:St}
  (h0:∀ y,f0=some y->Zk P Γ c (QE Γ c lab H KX y) st) (hb:∀ s y rest,findLabel c (lab s)=some rest->f s=some y->Zk P Γ rest (QE Γ c lab H KX y) (H s))
  {x:X} (hr:Rz f0 f=some x) (hK:∀ e st',KX x e st'->K e st'):Zk P Γ (.scope c) K st:=by
 intro I θ a w hrel;obtain⟨y,hy,hr⟩:=bind_some hr
 have fin:∀(J:Nat->Act->World->Prop) (a':Act) (w':World) (e:Exit) st' I' θ',QE Γ c lab H KX (.done x) e st'->Rel Γ st'.sto I' θ' a' w'->LS c J (λe a' w'=>∃ st' I' θ',K e st'/\Rel Γ st'.sto I' θ' a' w') e a' w':=λJ a' w' e st' I' θ' h1 h2=>by
  obtain⟨hl,hx⟩:=h1
  cases e with
  | goto l=>simp only[LS,hl l rfl];exact⟨st',I',θ',hK _ _ hx,h2⟩
  | _=>exact⟨st',I',θ',hK _ _ hx,h2⟩
 refine iM (λn l a w=>∃ s I θ,LRuns f s x n/\lab s=l/\Rel Γ (H s).sto I θ a w) ?_ (λn l rest a w hf ⟨s,I,θ,hs,hl,hrel⟩=>?_)
 ·refine Uf (h0 y hy I θ a w hrel) λe a' w' ⟨st',I',θ',h1,h2⟩=>?_
  cases y with
  | done x'=>
   grind
  | next s=>
   obtain⟨n,hn⟩:=loopO_iff.1 hr;obtain⟨rfl,hf,hle⟩:=h1;obtain⟨I'',θ'',h3⟩:=hle I' θ' a' w' h2;obtain⟨rest,hf'⟩:=zzL85.1 hf;simp only[LS,hf'];exact⟨n,s,I'',θ'',hn,rfl,h3⟩
 ·subst hl
  cases hs with
  | done hd=>exact Uf (hb s _ _ hf hd I θ a w hrel) λe a' w' ⟨st',I',θ',h1,h2⟩=>fin _ a' w' e st' I' θ' h1 h2
  | @next _ s' _ m hd ht=>
   refine Uf (hb s _ _ hf hd I θ a w hrel) λe a' w' ⟨st',I',θ',h1,h2⟩=>?_;obtain⟨rfl,hf',hle⟩:=h1;obtain⟨I'',θ'',h3⟩:=hle I' θ' a' w' h2;obtain⟨rest',hf''⟩:=zzL85.1 hf';simp only[LS,hf''];exact⟨m,Nat.lt_succ_self m,s',I'',θ'',ht,rfl,h3⟩
theorem fk{id:Nat}{K:Exit->St->Prop}{st:St}(h:K .normal st):JB id K (.exit id) st:=by show if id=id then K _ st else K _ st;rw[if_pos rfl];exact h
theorem fj{id id':Nat}{K:Exit->St->Prop}{st:St}(hne:Nat.beq id' id=false)(h:K (.exit id') st):JB id K (.exit id') st:=by
 simp only[JB];rw[if_neg (by rintro rfl;simp at hne)];exact h
theorem A9{R:Type}{b:Bool}{x y:Option R}{r:R}(hb:b=true)(h:(bif b then x else y)=some r):x=some r:=by rw[hb]at h;exact h
theorem tQ{names:List Nat}{H:List (Nat×Own)}(h:Γ.own0=Aj H)(hm:(H.all λx=>Bv x.1 names)=true):∀ nm,Γ.own0 nm≠none->nm∈names:=λnm hn=>by
 rw[h]at hn
 cases hl:Aj H nm with
 | none=>exact(hn hl).elim
 | some o=>exact memB_mem.1 (zzL27.1 hm _ (Nn hl))
theorem oS{X:Type}{c:Code}{m:Option X}(KX:X->Exit->St->Prop){K:Exit->St->Prop}{st:St}{x:X}(hr:m=some x)(hx:∀ x,m=some x->Zk P Γ c (KX x) st)(hK:∀ e st',KX x e st'->K e st'):Zk P Γ c K st:=
 oT (hx x hr) hK
end
section
variable {P:Program} {Γ:H6}
structure RgQ(P:Program)(Γ:H6)(n:Nat)(H:List (Nat×Own)):Prop where
 hn:Γ.n=n
 mix:P.follows .mixedOrders=true
 own:Γ.own0=Aj H
theorem RgQ.hand{n:Nat}{H:List (Nat×Own)}(q:RgQ P Γ n H){names:List Nat}(h:(H.all λx=>Bv x.1 names)=true):∀ nm,Γ.own0 nm≠none->nm∈names:=tQ q.own h
end
def uN(P:Program)(st:St):ResultVar->Option AV
 | .tmp t=>some (st.get t)
 | .cell a t=>
  bif B6 P t then
   match st.get a with
   | .ptr nm off=>
    match bif Nat.blt nm Bn then Aj st.own nm else none with
    | some (.row _ cells)=>
     bif E7 P t then(bif Nat.ble (off+A8 P t) cells.length then some (.agg ((cells.drop off).take (A8 P t))) else none)
     else(bif Nat.blt off cells.length then some (cells.getD off .any) else none)
    | _=>none
   | .vpt nm n 0 0=>
    match bif Nat.blt nm Bn then Aj st.own nm else none with
    | some (.arr sz _ m f)=>bif E7 P t&&Nat.beq n m&&Nat.beq (A8 P t) (n*sz) then some (.agg (HE n f)) else none
    | _=>none
   | _=>none
  else none
def SB(P:Program)(st:St):List ResultVar->Option (List AV)
 | []=>some []
 | r::rs=>match uN P st r,SB P st rs with|some x,some l=>some (x::l)|_,_=>none
def iC(P:Program)(st:St)(rs:List ResultVar):Option AV:=
 match SB P st rs with
 | some [x]=>some x
 | some l=>some (.tuple l)
 | none=>none
def SE(ρ:List (Nat×Nat))(st:St):List (Nat×Own):=
 ρ.filterMap λx=>match Aj st.own x.1 with|some o=>some (x.2,o.ren ρ)|none=>none
def SD(H:List (Nat×Own))(ρ:List (Nat×Nat)):Bool:=
 X2 (ρ.map (·.1))&&(X2 (ρ.map (·.2))&&ρ.all (λx=>Nat.blt x.1 Bn))&&H.all (λx=>match Aj ρ x.1 with|some k=>Nat.beq k x.1|none=>false)
def kG(P:Program)(rs:List ResultVar)(ρ:List (Nat×Nat))(H:List (Nat×Own))(st:St):Option (AV×List (Nat×Own)):=
 bif SD H ρ then match iC P st rs with|some x=>some (x.ren ρ,SE ρ st)|none=>none else none
def zi(P:Program)(rs:List ResultVar)(H:List (Nat×Own))(res:AV)(H':List (Nat×Own))(e:Exit)(st:St):Prop:=
 (e = .ret\/e = .normal)/\∃ ρ,kG P rs ρ H st=some (res,H')
def cx:Nat->List AV->List (Nat×AV)
 | _,[]=>[]
 | i,x::l=>(i,x)::cx (i+1) l
def JJ(args:List AV)(H:List (Nat×Own)):St:=⟨cx 0 args,H,[]⟩
section
variable {P:Program} {Γ:H6} {I:Nat->Nat->Prop} {θ:Nat->Option (Nat×Nat)} {a:Act} {w:World} {st:St}
def resSem(a:Act)(r:ResultVar):Sem Value:=
 match r with
 | .tmp t=>Pure.pure (a.tmps.getD t undef)
 | .cell b t=>do loadVar t (<- asAddr (a.tmps.getD b undef))
theorem iB(h:Rel Γ st.sto I θ a w){r:ResultVar}{x:AV}(hx:uN P st r=some x) :
  ∃ v,(resSem a r).run P w = .ok v w/\Rep I st.sto.own θ w v x:=by
 cases r with
 | tmp t=>
  simp only[uN,Ao]at hx;subst hx;exact⟨_,rfl,h.slots t⟩
 | cell b t=>
  simp only[uN]at hx
  cases hT:B6 P t with
  | false=>simp[hT]at hx
  | true=>
   simp only[hT,Ah]at hx
   split at hx
   ·rename_i nm off hb
    split at hx
    ·rename_i e1 cells hown0
     have hown:st.sto.own nm=some (.row e1 cells):=by
      cases hb:Nat.blt nm Bn with
      | false=>rw[hb]at hown0;cases hown0
      | true=>rw[hb]at hown0;exact(Ba (by simpa [K9] using hb)).trans hown0
     have hs:=h.slots b
     have hs':Rep I st.sto.own θ w (a.tmps.getD b undef) (.ptr nm off):=by rw[<- hb];exact hs
     obtain⟨e',cells',g,c,ho',hg,he⟩:=hs'.ptr_inv;obtain⟨g',c',vs,hg',hh,hsz,h1,hrep,_⟩:=h.chg.rel.row nm _ cells hown;rw[hg]at hg';simp only[Ao,Od]at hg';obtain⟨rfl,rfl⟩:=hg'
     have hcell:∀ j,j<cells.length->w.cell? ⟨g,j,none⟩=some (vs.getD j undef):=λj hj=>by
      rw[Nf w g j vs _ (0,0) hh];exact Nk (by omega)
     simp only[resSem,he,Eg,asAddr,He,Ff]
     cases hagg:E7 P t with
     | true=>
      simp only[hagg,Ah]at hx
      cases hle:Nat.ble (off+A8 P t) cells.length with
      | false=>simp[hle]at hx
      | true=>
       simp only[hle,Ah,Ao]at hx;subst hx;have hle':=K8 hle;refine⟨_,Mu hT hagg _ (λj=>vs.getD (off+j) undef) (λj hj=>by rw[O9];exact hcell _ (by omega)),.agg _ _ (by simp;omega) (λj hj=>?_) (λj hj=>?_)⟩
       ·have hj':j<A8 P t:=by simp at hj;omega
        rw[N6 _ _ _ hj'];exact h1 _ (by omega)
       ·have hj':j<A8 P t:=by simp at hj;omega
        rw[N6 _ _ _ hj',Nl _ _ _ _ _ hj'];exact hrep _ (by omega)
     | false=>
      simp only[hagg,Aw]at hx
      cases hlt:Nat.blt off cells.length with
      | false=>simp[hlt]at hx
      | true=>
       simp only[hlt,Ah,Ao]at hx;subst hx
       have hlt':off<cells.length:=by simpa [K9] using hlt
       exact⟨_,Mv hT hagg _ _ (hcell _ hlt'),hrep _ hlt'⟩
    ·cases hx
   ·rename_i nm n hb
    split at hx
    ·rename_i sz e1 m f hown0
     have hown:st.sto.own nm=some (.arr sz e1 m f):=by
      cases hb:Nat.blt nm Bn with
      | false=>rw[hb]at hown0;cases hown0
      | true=>rw[hb]at hown0;exact(Ba (by simpa [K9] using hb)).trans hown0
     cases hk:(E7 P t&&Nat.beq n m&&Nat.beq (A8 P t) (n*sz)) with
     | false=>simp[hk]at hx
     | true=>
      simp only[hk,Ah,Ao]at hx;subst hx;simp only[A6]at hk;have hs:=h.slots b
      have hs':Rep I st.sto.own θ w (a.tmps.getD b undef) (.vpt nm n 0 0):=by rw[<- hb];exact hs
      obtain⟨ad,he,vs,hrun,hrep⟩:=YP (P:=P) h hT hk.1.1 hs' hown (C4 hk.1.2) (C4 hk.2);exact⟨_,by simp only[resSem,he,Eg,asAddr,He,Ff,hrun],hrep⟩
    ·cases hx
   ·cases hx
theorem Yk(h:Rel Γ st.sto I θ a w):∀{rs:List ResultVar} {xs:List AV},SB P st rs=some xs->
  ∃ vs:List Value,(rs.mapM (resSem a)).run P w = .ok vs w/\RepL I st.sto.own θ w vs xs
 | [],xs,hx=>by simp only[SB,Ao]at hx;subst hx;exact⟨[],by simp,.nil⟩
 | r::rs,xs,hx=>by
  simp only[SB]at hx
  split at hx
  ·rename_i x l h1 h2
   simp only[Ao]at hx;subst hx;obtain⟨v,hv,hr⟩:=iB h h1;obtain⟨vs,hvs,hrs⟩:=Yk h h2;refine⟨v::vs,?_,.cons hr hrs⟩;simp only[List.mapM_cons,Eg,hv,Ff,hvs,He]
  ·cases hx
theorem RepL.length{own:Nat->Option Own}{l:List Value}{m:List AV}(h:RepL I own θ w l m):l.length=m.length:=by induction h with|nil=>rfl|cons _ _ ih=>simp[ih]
theorem RepL.get{own:Nat->Option Own}{l:List Value}{m:List AV}(h:RepL I own θ w l m)(j:Nat)(hj:j<m.length):Rep I own θ w (l.getD j undef) (m.getD j .any):=by
 induction h generalizing j with
 | nil=>cases hj
 | cons h _ ih=>grind
theorem mb(h:Rel Γ st.sto I θ a w){fn:Func}{x:AV}(hx:iC P st fn.results.toList=some x):∃ v,(results fn a.tmps).run P w = .ok v w/\Rep I st.sto.own θ w v x:=by
 unfold iC at hx;have hrun:∀ vs ,(fn.results.toList.mapM (resSem a)).run P w = .ok vs w->
   (results fn _).run P w = .ok (if h:vs.toArray.size=1 then vs.toArray[0] else .tuple vs.toArray) w:=λvs hvs=>by
  have e:results fn a.tmps=(do let vs <- fn.results.mapM (resSem a);pure (if h:vs.size=1 then vs[0] else .tuple vs)):=by
   congr 1
  rw[e,Array.mapM_eq_mapM_toList];simp only[Eg,Sem.run_map];rw[hvs];simp only[Ff,He]
 split at hx
 ·rename_i y hy
  simp only[Ao]at hx;obtain⟨vs,hvs,hr⟩:=Yk h hy;have hl:=hr.length
  match vs,hl,hr,hvs with
  | [v],_,hr,hvs=>
   cases hr with|cons hr _=>grind
 ·rename_i l hne hl
  simp only[Ao]at hx;subst hx;obtain⟨vs,hvs,hr⟩:=Yk h hl;have hlen:=hr.length
  have hn1:vs.length≠1:=λh1=>by
   match l,hlen,hne with
   | [],hlen,_=>grind
   | [x],_,hne=>exact hne x rfl
   | _::_::_,hlen,_=>simp at hlen;omega
  refine⟨.tuple vs.toArray,by grind,.tuple _ _ (by simpa using hlen) λj hj=>?_⟩;have:=hr.get j hj;rwa[<- Us]at this
 ·cases hx
theorem XG:∀(l:List AV) (i t:Nat),Aj (cx i l) t=if i<=t/\t<i+l.length then some (l.getD (t-i) .any) else none
 | [],i,t=>by rw[if_neg (by simp)];rfl
 | x::l,i,t=>by
  simp only[cx,Aj,XG l _ t]
  cases hb:Nat.beq i t with
  | true=>
   simp_all
  | false=>
   have hne:i≠t:=by rintro rfl;simp at hb
   simp only[Aw]
   by_cases h:i+1<=t/\t<i+1+l.length
   ·grind
   ·grind
theorem YD{ρ:List (Nat×Nat)}(h2:(ρ.map (·.2)).Nodup)(st:St)(k:Nat):Aj (SE ρ st) k=(Aj (K6 ρ) k).bind λnm=>(Aj st.own nm).map (Own.ren ρ):=by
 have key:∀(l:List _),(l.map (·.2)).Nodup->Aj (l.filterMap λx=>match Aj st.own x.1 with|some o=>some (x.2,o.ren ρ)|none=>none) k=(Aj (K6 l) k).bind λnm=>(Aj st.own nm).map (Own.ren ρ):=by
  intro l
  induction l with
  | nil=>intro _;rfl
  | cons x l ih=>
   intro hn;obtain⟨nm,c⟩:=x;simp only[Cq,zzL112]at hn;have ih:=ih hn.2;simp only[List.filterMap_cons,K6,Cq,Aj]
   cases ho:Aj _ nm with
   | some o=>
    simp only[Aj]
    cases hb:Nat.beq c k with
    | true=>simp[ho]
    | false=>simpa [K6] using ih
   | none=>
    cases hb:Nat.beq c k with
    | true=>
     have:=C4 hb;simp only[Ah,An,ho]
     apply Wj
     intro hm;obtain⟨y,hy,rfl⟩:=zzL21.1 hm;obtain⟨z,hz,hzy⟩:=List.mem_filterMap.1 hy
     cases hz':Aj st.own z.1 with
     | none=>grind
     | some o'=>
      grind
    | false=>simpa [K6] using ih
 exact key ρ h2
theorem tF{own0:Nat->Option Own}{θ0:Nat->Option (Nat×Nat)}{I0:Nat->Nat->Prop}{w0:World}{own:Nat->Option Own}{ρ:List (Nat×Nat)}(hρ:∀ nm c,Aj ρ nm=some c->own nm=Aj st.own nm)(h1:(ρ.map (·.1)).Nodup)(h2:(ρ.map (·.2)).Nodup)(k:Chg own0 θ0 I0 w0 own θ I w)
  (hh:∀ nm,own0 nm≠none->Aj ρ nm=some nm) :
  Chg own0 θ0 I0 w0 (Aj (SE ρ st)) (λk=>(Aj (K6 ρ) k).bind θ) I w/\∀ v x,Rep I own θ w v x->Rep I (Aj (SE ρ st)) (λk=>(Aj (K6 ρ) k).bind θ) w v (x.ren ρ):=by
 have hfw:∀ nm c o,Aj ρ nm=some c->own nm=some o->Aj (SE ρ st) c=some (o.ren ρ)/\(Aj (K6 ρ) c).bind θ=θ nm:=λnm c o hl ho=>by
  have hs:=(Rp h1 h2).1 hl;rw[hρ nm c hl]at ho;rw[YD h2,hs];simp[ho]
 have hbw:∀ c o,Aj (SE ρ st) c=some o->∃ nm o',Aj ρ nm=some c/\own nm=some o'/\o=o'.ren ρ/\(Aj (K6 ρ) c).bind θ=θ nm:=λc o ho=>by
  rw[YD h2]at ho;obtain⟨nm,hs,ho'⟩:=zzL108.1 ho;obtain⟨o',ho'',rfl⟩:=zzL80.1 ho';exact⟨nm,o',(Rp h1 h2).2 hs,(hρ nm c ((Rp h1 h2).2 hs)).trans ho'',rfl,by simp[hs]⟩
 refine⟨{ k with le:=λnm o ho=>?_,rel:=⟨λc e' cells hc=>?_,λc sz e m hc g cc hg=>?_,λc c' g cc cc' hc hc' hg hg'=>?_,λc sz e m f hc=>?_,λc x hc=>?_,λc sz m hc hnn=>?_⟩,new:=λc g cc hc hg=>?_ },λv x hx=>hx.ren ρ hfw⟩
 ·obtain⟨o',ho',hl⟩:=k.le nm o ho;obtain⟨e1,e2⟩:=hfw nm nm o' (hh nm (by simp[ho])) ho';refine⟨_,e1,?_⟩;rw[e2]
  cases o<;>cases o'<;>simp_all [OwnLe,Own.ren]
 rotate_left 5
 ·obtain⟨nm,o',hl,ho',he,ht⟩:=hbw c _ hc
  cases o' with
  | row=>simp[Own.ren]at he
  | arr=>simp[Own.ren]at he
  | obj=>simp[Own.ren]at he
  | tok=>
   simp only[Own.ren,Own.tok.injEq]at he;obtain⟨rfl,rfl,rfl⟩:=he;exact k.rel.tok8 nm _ _ ho' (ht.symm.trans hnn)
 rotate_right 1
 ·obtain⟨nm,o',hl,ho',he,ht⟩:=hbw c _ hc
  cases o' with
  | row=>simp[Own.ren]at he
  | tok=>simp[Own.ren]at he
  | arr=>simp[Own.ren]at he
  | obj x'=>
   simp only[Own.ren,Own.obj.injEq]at he;subst he;exact Mh (θ':=λc=>(Aj (K6 ρ) c).bind θ) (nm':=c) (k.rel.obj nm _ ho') ht (λ_ _ _=>rfl) (λ_ _ _ _ h=>h) (λ_ hh=>hh.on _ (λ_ _ h=>h) (λ_ _ _=>rfl) λ_ _ hv=>hv.ren ρ hfw) RM
 rotate_left 1
 ·obtain⟨nm,o',hl,ho',he,ht⟩:=hbw c _ hc
  cases o' with
  | tok=>simp[Own.ren]at he
  | arr=>simp[Own.ren]at he
  | obj=>simp[Own.ren]at he
  | row e1 cs=>
   simp only[Own.ren,Own.row.injEq]at he;obtain⟨rfl,rfl⟩:=he;obtain⟨g,c',vs,r1,r2,r3,r4,r5,r6⟩:=k.rel.row nm _ cs ho';refine⟨g,c',vs,ht.trans r1,r2,by rw[Bl];exact r3,λj hj=>r4 j (by rwa[Bl]at hj),λj hj=>?_,r6⟩;rw[L0];exact(r5 j (by rwa[Bl]at hj)).ren ρ hfw
 ·obtain⟨nm,o',hl,ho',he,ht⟩:=hbw c _ hc
  cases o' with
  | row=>simp[Own.ren]at he
  | arr=>simp[Own.ren]at he
  | obj=>simp[Own.ren]at he
  | tok=>
   simp only[Own.ren,Own.tok.injEq]at he;obtain⟨rfl,rfl,rfl⟩:=he;exact k.rel.tok nm _ _ _ ho' g cc (by rw[<- ht];exact hg)
 ·cases hx:Aj (SE ρ st) c with
  | none=>exact(hc hx).elim
  | some o=>
   cases hx':Aj (SE ρ st) c' with
   | none=>exact(hc' hx').elim
   | some o'=>
    obtain⟨nm,o1,hl,ho1,_,ht⟩:=hbw c o hx;obtain⟨nm',o2,hl',ho2,_,ht'⟩:=hbw c' o' hx';rw[ht]at hg;rw[ht']at hg';have:=k.rel.inj nm nm' g cc cc' (by simp[ho1]) (by simp[ho2]) hg hg';subst this;rw[hl]at hl';exact OI hl'
 ·obtain⟨nm,o',hl,ho',he,ht⟩:=hbw c _ hc
  cases o' with
  | row=>simp[Own.ren]at he
  | tok=>simp[Own.ren]at he
  | obj=>simp[Own.ren]at he
  | arr sz' e' m' f'=>
   simp only[Own.ren,Own.arr.injEq]at he;obtain⟨rfl,rfl,rfl,rfl⟩:=he;exact Qf (k.rel.arr nm _ _ _ _ ho') ht (λ_ _ _=>rfl) (λ_ _ _ _ h=>h) (λi _=>Bl _ _) (λv i j _ _ hv=>by rw[L0];exact hv.ren ρ hfw)
 ·cases hx:Aj (SE ρ st) c with
  | none=>exact(hc hx).elim
  | some o=>
   obtain⟨nm,o1,hl,ho1,_,ht⟩:=hbw c o hx;rw[ht]at hg;exact k.new nm g cc (by simp[ho1]) hg
theorem eS {f : FuncId} {fn : Func} {c : Code} {args : List AV} {H H' : List (Nat × Own)} {res : AV} (hf : P.funcs[f]? = some fn) (hb : fn.body = some c) (hname : (fn.name == "runtime.NumGoroutine") = false) (hlen : Nat.ble args.length fn.ntmps = true)
    (h : ∀ Γ : H6, Γ.n = fn.ntmps → Γ.own0 = Aj H → Zk P Γ c (zi P fn.results.toList H res H') (JJ args H)) (hpl : RR H = true := by rfl) : Spec P f args H res H' := by
  have hlen := K8 hlen; refine ⟨fun az w => ?_, fun w I θ az hargs hown hval hglob => ?_⟩
  · have hn  := by simpa using hname
    simp [callFunc, hf, hn, hb]
  · let Γ : H6 := ⟨w, fn.ntmps, Aj H, θ, I, hglob, fun nm h => RS hpl h⟩
    refine calls_of_wp hf hb ?_
    have has : az.size = args.length := by simpa using hargs.length
    have hown0 : (JJ args H).sto.own = Aj H := ab hpl
    have hrel : Rel Γ (JJ args H).sto I θ ⟨az ++ Array.replicate (fn.ntmps - az.size) undef, []⟩ w := by
      refine ⟨by simp [Γ]; omega, rfl, fun t => ?_, by rw [hown0]; exact .refl hown hval⟩
      have e : (JJ args H).sto.tmp t = if t < args.length then args.getD t .any else .any := by
        show (match Aj (cx 0 args) t with | some x => x | none => .any) = _
        rw [XG]
        by_cases ht : t < args.length
        · simp [ht]
        · simp [ht]
      rw [e, hown0]
      by_cases ht : t < args.length
      · rw [if_pos ht]; have := hargs.get t ht
        have e2 : (az ++ Array.replicate (fn.ntmps - az.size) undef).getD t undef = az.toList.getD t undef := by
          have hts : t < az.size := by omega
          simp [ List.getD, Array.getElem?_append_left hts]
        rw [e2]; exact this
      · rw [if_neg ht]; exact .val _ _ (.any _)
    refine Uf (h Γ rfl rfl I θ _ w hrel) fun e a' w' ⟨st', I', θ', ⟨he, ρ, hret⟩, hr⟩ => ?_; unfold kG at hret
    cases hc : SD H ρ with
    | false => simp [hc] at hret
    | true =>
      simp only [hc, Ah] at hret
      split at hret
      · rename_i x hx
        obtain ⟨rfl, rfl⟩ := hret; simp only [SD, A6] at hc; obtain ⟨⟨c1, c2, c4⟩, c3⟩ := hc; obtain ⟨v, hv, hrep⟩ := mb (fn := fn) hr hx
        obtain ⟨k1, k2⟩ := tF (own := st'.sto.own) (st := st') (fun nm c hl => Ba (by have := zzL27.1 c4 _ (Nn hl); simpa [K9] using this)) (Oi c1) (Oi c2) hr.chg (fun nm hn => by
          cases hl : Aj H nm with
          | none => exact (hn hl).elim
          | some o =>
            have := zzL27.1 c3 _ (Nn hl)
            split at this
            · simp_all
            · cases this)
        have hfin : a'.defers = [] ∧ ∃ v, (results fn a'.tmps).run P w' = .ok v w' ∧ (∃ v_1 I' θ', Ending.returned v = .returned v_1 ∧ Chg (Aj H) θ I w (Aj (SE ρ st')) θ' I' w' ∧ Rep I' (Aj (SE ρ st')) θ' w' v_1 (x.ren ρ)) :=
          ⟨hr.defers, v, hv, v, I', _, rfl, k1, k2 _ _ hrep⟩
        rcases he with rfl | rfl <;> exact hfin
      · cases hret
theorem law_of_spec{f:FuncId}{args:List AV}(h:Spec P f args [] (.bool true) [])(w:World)(az:Array Value)(hargs:RepL (λb o=>∃ u,w.cell? ⟨b,o,none⟩=some u) (Aj []) (λ_=>none) w az.toList args)(hG:GOk (λb o=>∃ u,w.cell? ⟨b,o,none⟩=some u) w) :
  Calls P f az w λe w'=>e = .returned (.bool true)/\Below w.heap.size w w':=by
 refine Calls.mono (h.2 w _ _ az hargs ⟨(λ_ _ _ h=>by cases h),(λ_ _ _ _ h=>by cases h),(λ_ _ _ _ _ h=>(h rfl).elim),(λ_ _ _ _ _ h=>by cases h),(λ_ _ h=>by cases h),(λ_ _ _ h=>by cases h)⟩ (λ_ _ h=>h) hG) λe w' ⟨v,I',θ',he,k,hr⟩=>?_;subst he;rw[hr.bool_inv];exact⟨rfl,k.os,k.tape,k.output,k.grow,λb hb=>k.frame b hb λ_ _ h=>(h rfl).elim⟩
end
def AV.list{α:Type}(sz:Nat)(e:α->List AV)(d:α)(l:List α)(t:Tag):AV:=.slice sz l.length (λi=>e (l.getD i d)) t
section
variable {α:Type} {sz:Nat} {e:α->List AV} {d:α}
theorem Eh:AVle (.slice 0 0 (λ_=>[]) .exact) (AV.list sz e d [] .exact):=AVle.empty rfl (λ_ h=>by cases h)
theorem ZR{n:Nat}{f:Nat->List AV}{t:Tag}{xs:List α}(hn:n=xs.length)(hf:∀ i,i<n->f i=e (xs.getD i d)):AVle (.slice sz n f t) (AV.list sz e d xs t):=AVle.slice hn hf
theorem tt(xs:List α)(i:Nat)(h:i<xs.length):(xs.map e).getD i []=e (xs.getD i d):=by simp[List.getD,h]
theorem jH(l m:List α)(i:Nat)(h:i<l.length+m.length):O1 l.length (λi=>e (l.getD i d)) (λi=>e (m.getD i d)) i=e ((l++m).getD i d):=by
 by_cases hi:i<l.length
 ·rw[Qe _ _ hi,List.getD,List.getD,Ug hi]
 ·rw[Ul _ _ (by omega),List.getD,List.getD,Ve (by omega)]
theorem wY{t:Tag}{l m:List α}:AVle (.slice sz (l.length+m.length) (O1 l.length (λi=>e (l.getD i d)) (λi=>e (m.getD i d))) t) (AV.list sz e d (l++m) t):=
 AVle.slice (by simp) λi hi=>jH l m i hi
theorem E0(l m:List α):l.length+m.length=(l++m).length:=by simp
theorem jL{t:Tag}{l:List α}{k:Nat}:AVle (.slice sz (l.length-k) (λi=>e (l.getD (k+i) d)) t) (AV.list sz e d (l.drop k) t):=
 AVle.slice (by simp) λi _=>by simp[List.getD]
end
theorem Spec.drop{P:Program}{f:FuncId}{args:List AV}{res:AV}{H':List (Nat×Own)}(h:Spec P f args [] res H'):Spec P f args [] res.strip []:=by
 refine⟨h.1,λw I θ az ha ho hv hg=>Calls.mono (h.2 w I θ az ha ho hv hg) λe w' ⟨v,I',θ',he,k,hr⟩=>⟨v,I',θ',he,⟨k.imm,k.cell,(λ_ _ h=>by cases h),⟨(λ_ _ _ h=>by cases h),(λ_ _ _ _ h=>by cases h),(λ_ _ _ _ _ h=>(h rfl).elim),(λ_ _ _ _ _ h=>by cases h),(λ_ _ h=>by cases h),(λ_ _ _ h=>by cases h)⟩,k.valid,k.os,k.tape,k.output,k.drawn,k.grow,k.frame,(λ_ _ _ h=>(h rfl).elim),λb o hi=>?_⟩,.val _ _ hr.strip⟩⟩;exact k.immNew b o hi
theorem Ke{α:Type}{sz:Nat}{e:α->List AV}{d:α}{γ:Bool}{l m:List α}:AVle (.slice sz (bif γ then m.length else l.length) (λi=>bif γ then e (m.getD i d) else e (l.getD i d)) .none) (AV.list sz e d (bif γ then m else l) .none):=by cases γ<;>exact λ_ _ _ _ _ h=>h
theorem Spec.args{P:Program}{f:FuncId}{xs ys:List AV}{H:List (Nat×Own)}{res:AV}{H':List (Nat×Own)}(hl:AVleL xs ys)(h:Spec P f ys H res H'):Spec P f xs H res H':=by
 refine⟨h.1,λw I θ az ha ho hv hg=>h.2 w I θ az ?_ ho hv hg⟩
 revert hl
 have key:∀{vs:List Value} {xs ys:List AV},AVleL xs ys->RepL I (Aj H) θ w vs xs->RepL I (Aj H) θ w vs ys:=by
  intro vs xs ys hl
  induction hl generalizing vs with
  | nil=>intro h;cases h;exact .nil
  | cons h1 _ ih=>intro h;cases h with|cons h2 h3=>exact .cons (h1 _ _ _ _ _ h2) (ih h3)
 exact λhl=>key hl ha
theorem sl{α:Type}{sz:Nat}{e:α->List AV}{d:α}:AVle (.slice 0 0 (λ_=>[]) .exact) (AV.list sz e d [] .none):=λ_ _ _ _ _ hh=>AVle.untag _ _ _ _ _ (Eh _ _ _ _ _ hh)
instance (i:Int)(n:Nat):Decidable (A1 i n):=inferInstanceAs (Decidable (_/\_))
abbrev w64(n:Int):Int:=IntKind.i64.wrap n
abbrev Iy(n:Int):Int:=IntKind.u64.wrap n
open Classical in
section
variable {Γ:H6}
theorem QM{st st':St}(live names:List Nat)(h:Hs live names st=st')(hn:∀ nm,Γ.own0 nm≠none->nm∈names):Le Γ st st':=h▸dH live names hn
theorem Bg{P:Program}{n:Nat}{H:List (Nat×Own)}{st st':St}(live names:List Nat)(q:RgQ P Γ n H)(h:Hs live names st=st':=by kernel_rfl)(hh:(H.all λx=>Bv x.1 names)=true:=by kernel_rfl):Le Γ st st':=QM live names h (q.hand hh)
theorem Gt{st st':St}(h:st=st'):Le Γ st st':=h▸Le.refl _ _
end
section
variable {P:Program} {Γ:H6}
def Zl(nm:Nat)(k:Nat):Bool:=!Nat.beq k nm
mutual
def AV.frz(nm sz n:Nat)(g:Nat->List AV):AV->AV
 | .slice s m f (.own k)=>.slice s m f (bif Nat.beq k nm then .none else .own k)
 | .ptr k off=>bif Nat.beq k nm then .any else .ptr k off
 | .vsl k j=>bif Nat.beq k nm then .slice sz n g (.own nm) else .vsl k j
 | .vpt k j i c=>bif Nat.beq k nm then .any else .vpt k j i c
 | .vsub k j l h=>bif Nat.beq k nm then .slice sz (h-l) (λi=>g (l+i)) .none else .vsub k j l h
 | .optr k m=>bif Nat.beq k nm then .any else .optr k m
 | .omap k=>bif Nat.beq k nm then .any else .omap k
 | .clo f xs ys=>.clo f (AV.frzAll nm sz n g xs) (AV.frzAll nm sz n g ys)
 | .agg cs=>.agg (AV.frzAll nm sz n g cs)
 | .rpo cs=>.rpo (AV.frzAll nm sz n g cs)
 | .tuple cs=>.tuple (AV.frzAll nm sz n g cs)
 | .cond c x=>.cond c (x.frz nm sz n g)
 | x=>x
def AV.frzAll(nm sz n:Nat)(g:Nat->List AV):List AV->List AV
 | []=>[]
 | x::l=>x.frz nm sz n g::AV.frzAll nm sz n g l
end
mutual
def AV.wholes(nm n:Nat):AV->List Prop
 | .vsl k j=>bif Nat.beq k nm then[j=n] else[]
 | .vsub k j _ _=>bif Nat.beq k nm then[j=n] else[]
 | .agg cs=>AV.wholesAll nm n cs
 | .rpo cs=>AV.wholesAll nm n cs
 | .tuple cs=>AV.wholesAll nm n cs
 | .cond _ x=>x.wholes nm n
 | .clo _ xs ys=>AV.wholesAll nm n xs++AV.wholesAll nm n ys
 | _=>[]
def AV.wholesAll(nm n:Nat):List AV->List Prop
 | []=>[]
 | x::l=>x.wholes nm n++AV.wholesAll nm n l
end
mutual
def AV.frw(nm sz n:Nat)(g:Nat->List AV):AV->AV
 | .slice s m f (.own k)=>.slice s m f (bif Zl nm k then .own k else .none)
 | .slice s m f (.fam b i)=>.slice s m f (bif Zl nm b then .fam b i else .none)
 | .ptr k off=>bif Zl nm k then .ptr k off else .any
 | .vsl k j=>bif Zl nm k then .vsl k j else bif Nat.beq j n then .slice sz n g .none else .any
 | .vpt k j i c=>bif Zl nm k then .vpt k j i c else .any
 | .vsub k j l h=>bif Zl nm k then .vsub k j l h else .any
 | .optr k m=>bif Zl nm k then .optr k m else .any
 | .omap k=>bif Zl nm k then .omap k else .any
 | .clo f xs ys=>.clo f (AV.frwAll nm sz n g xs) (AV.frwAll nm sz n g ys)
 | .agg cs=>.agg (AV.frwAll nm sz n g cs)
 | .rpo cs=>.rpo (AV.frwAll nm sz n g cs)
 | .tuple cs=>.tuple (AV.frwAll nm sz n g cs)
 | .cond c x=>.cond c (x.frw nm sz n g)
 | x=>x
def AV.frwAll(nm sz n:Nat)(g:Nat->List AV):List AV->List AV
 | []=>[]
 | x::l=>x.frw nm sz n g::AV.frwAll nm sz n g l
end
theorem Du(nm sz n:Nat)(g:Nat->List AV)(l:List AV):(AV.frwAll nm sz n g l).length=l.length:=by induction l with|nil=>rfl|cons x l ih=>simp[AV.frwAll,ih]
theorem Sa(nm sz n:Nat)(g:Nat->List AV)(l:List AV)(j:Nat):(AV.frwAll nm sz n g l).getD j .any=(l.getD j .any).frw nm sz n g:=by
 induction l generalizing j with
 | nil=>simp[AV.frwAll,AV.frw]
 | cons x l ih=>cases j with
  | zero=>simp[AV.frwAll]
  | succ j=>simpa [AV.frwAll] using ih j
theorem RepV.frw{I:Nat->Nat->Prop}{w:World}{v:Value}{x:AV}(h:RepV I w v x)(nm sz n:Nat)(g:Nat->List AV):RepV I w v (x.frw nm sz n g):=by
 induction h with
 | any v=>exact .any v
 | undef=>exact .undef
 | int k n=>exact .int k n
 | bool b=>exact .bool b
 | str s=>exact .str s
 | clo f=>exact .clo f
 | nxt1 i r=>exact .nxt1 i r
 | nxt0 i r=>exact .nxt0 i r
 | nilq b pos n h=>exact .nilq b pos n h
 | err0=>exact .err0
 | err1 t v=>exact .err1 t v
 | nilp=>exact .nilp
 | nilm=>exact .nilm
 | cond v c x _ h' ih=>exact .cond v c _ ih h'
 | rptr a cells us hs hI' hc h1 hr _=>exact .rptr a _ us hs hI' hc h1 hr
 | slice a n cap sz f us hcap hmax hz hn h1 hl hr _=>exact .slice a n cap sz f us hcap hmax hz hn h1 hl hr
 | agg vs cs hl h1 _ ih=>exact .agg vs _ (by rw[Du,hl]) (λj hj=>h1 j (by rwa[Du]at hj)) (λj hj=>by rw[Sa];exact ih j (by rwa[Du]at hj))
 | tuple vs cs hl _ ih=>exact .tuple vs _ (by rw[Du,hl]) (λj hj=>by rw[Sa];exact ih j (by rwa[Du]at hj))
def Own.frz(nm sz n:Nat)(g:Nat->List AV):Own->Own
 | .row e cells=>.row e (AV.frzAll nm sz n g cells)
 | .arr s e m f=>.arr s e m (λi=>AV.frwAll nm sz n g (f i))
 | .obj x=>.obj (x.on (AV.frw nm sz n g))
 | .tok s e m=>.tok s e m
def Own.wholes(nm n:Nat):Own->List Prop
 | .row _ cells=>AV.wholesAll nm n cells
 | _=>[]
def St.wholes(st:St)(nm n:Nat):List Prop:=(st.tmps.map λx=>x.2.wholes nm n).flatten++(st.own.map λx=>x.2.wholes nm n).flatten
def St.freeze(st:St)(nm sz n:Nat)(e:TypeId)(g:Nat->List AV):St:=
 ⟨st.tmps.map λx=>(x.1,x.2.frz nm sz n g),st.own.map λx=>(x.1,bif Nat.beq x.1 nm then .tok sz e n else x.2.frz nm sz n g),st.fam⟩
theorem Cz(nm sz n:Nat)(g:Nat->List AV)(l:List AV):(AV.frzAll nm sz n g l).length=l.length:=by induction l with|nil=>rfl|cons x l ih=>simp[AV.frzAll,ih]
theorem Sb(nm sz n:Nat)(g:Nat->List AV)(l:List AV)(j:Nat):(AV.frzAll nm sz n g l).getD j .any=(l.getD j .any).frz nm sz n g:=by
 induction l generalizing j with
 | nil=>simp[AV.frzAll,AV.frz]
 | cons x l ih=>cases j with
  | zero=>simp[AV.frzAll]
  | succ j=>simpa [AV.frzAll] using ih j
theorem P0{nm n:Nat}{l:List AV}(h:∀ p∈AV.wholesAll nm n l,p)(j:Nat):∀ p∈(l.getD j .any).wholes nm n,p:=by
 induction l generalizing j with
 | nil=>intro p hp;simp[AV.wholes]at hp
 | cons x l ih=>
  cases j with
  | zero=>intro p hp;exact h p (zzL11.2 (.inl (by simpa using hp)))
  | succ j=>intro p hp;exact ih (λq hq=>h q (zzL11.2 (.inr hq))) j p (by simpa using hp)
theorem RepV.frz{I:Nat->Nat->Prop}{w:World}{v:Value}{x:AV}(h:RepV I w v x)(nm sz n:Nat)(g:Nat->List AV):RepV I w v (x.frz nm sz n g):=by
 induction h with
 | any v=>exact .any v
 | undef=>exact .undef
 | int k n=>exact .int k n
 | bool b=>exact .bool b
 | str s=>exact .str s
 | clo f=>exact .clo f
 | nxt1 i r=>exact .nxt1 i r
 | nxt0 i r=>exact .nxt0 i r
 | nilq b pos n h=>exact .nilq b pos n h
 | err0=>exact .err0
 | err1 t v=>exact .err1 t v
 | nilp=>exact .nilp
 | nilm=>exact .nilm
 | cond v c x _ h' ih=>exact .cond v c _ ih h'
 | rptr a cells us hs hI' hc h1 hr _=>exact .rptr a _ us hs hI' hc h1 hr
 | slice a n cap sz f us hcap hmax hz hn h1 hl hr _=>exact .slice a n cap sz f us hcap hmax hz hn h1 hl hr
 | agg vs cs hl h1 _ ih=>exact .agg vs _ (by rw[Cz,hl]) (λj hj=>h1 j (by rwa[Cz]at hj)) (λj hj=>by rw[Sb];exact ih j (by rwa[Cz]at hj))
 | tuple vs cs hl _ ih=>exact .tuple vs _ (by rw[Cz,hl]) (λj hj=>by rw[Sb];exact ih j (by rwa[Cz]at hj))
theorem Rep.frz{I I':Nat->Nat->Prop}{own own':Nat->Option Own}{θ:Nat->Option (Nat×Nat)}{w:World}{v:Value}{x:AV}{nm sz n:Nat}{g:Nat->List AV}(h:Rep I own θ w v x)(hp:∀ p∈x.wholes nm n,p)(hI:∀ b o,I b o->I' b o)
  (ho:∀ k o,own k=some o->Nat.beq k nm=false->own' k=some (o.frz nm sz n g)) (hk:∀ v,Rep I own θ w v (.vsl nm n)->Rep I' own' θ w v (.slice sz n g (.own nm))) (hk2:∀ v l h,Rep I own θ w v (.vsub nm n l h)->RepV I' w v (.slice sz (h-l) (λi=>g (l+i)) .none)) (hlt':∀ b i,Nat.beq (Sp b i) nm=false):Rep I' own' θ w v (x.frz nm sz n g):=by
 induction h with
 | val v x h=>exact .val _ _ ((h.frz nm sz n g).mono hI (λ_ _ _=>rfl))
 | exact a n sz f h=>exact .exact a n sz f (h.mono hI (λ_ _ _=>rfl))
 | own k sz e m a n cap f hn hm hv h=>
  simp only[AV.frz]
  cases hb:Nat.beq k nm with
  | true=>exact .val _ _ (h.mono hI (λ_ _ _=>rfl))
  | false=>exact .own k sz e m a n cap f (ho k _ hn hb) hm hv (h.mono hI (λ_ _ _=>rfl))
 | fam b i sz e m a n cap f hi hn hm hv h=>
  exact .fam b i sz e m a n cap f hi (ho _ _ hn (hlt' b i)) hm hv (h.mono hI (λ_ _ _=>rfl))
 | ptr k off e0 cells g c hn hg=>
  simp only[AV.frz]
  cases hb:Nat.beq k nm with
  | true=>exact .val _ _ (.any _)
  | false=>exact .ptr k off e0 _ g c (ho k _ hn hb) hg
 | vsl k s2 e m f a j cap hn hm hcap hmax hnn hv=>
  simp only[AV.frz]
  cases hb:Nat.beq k nm with
  | true=>
   obtain rfl:=C4 hb;obtain rfl:j=n:=hp _ (by simp[AV.wholes]);exact hk _ (.vsl k s2 e m f a j cap hn hm hcap hmax hnn hv)
  | false=>exact .vsl k s2 e m _ a j cap (ho k _ hn hb) hm hcap hmax hnn hv
 | vpt k s2 e m f j i c ad hn hm hi hv=>
  simp only[AV.frz]
  cases hb:Nat.beq k nm with
  | true=>exact .val _ _ (.any _)
  | false=>exact .vpt k s2 e m _ j i c ad (ho k _ hn hb) hm hi hv
 | clo f fs cs xs ys hl hl' _ _ ih ih'=>
  simp only[AV.wholes,zzL11]at hp;exact .clo f fs cs _ _ (by rw[Cz,hl]) (by rw[Cz,hl']) (λj hj=>by rw[Sb];exact ih j (by rwa[Cz]at hj) (P0 (λp h=>hp p (.inl h)) j)) (λj hj=>by rw[Sb];exact ih' j (by rwa[Cz]at hj) (P0 (λp h=>hp p (.inr h)) j))
 | vsub k s2 e m f j lo hi a cap hn hm hlo hhi hcap hmax hnn hv=>
  simp only[AV.frz]
  cases hb:Nat.beq k nm with
  | true=>
   obtain rfl:=C4 hb;obtain rfl:j=n:=hp _ (by simp[AV.wholes]);exact .val _ _ (hk2 _ _ _ (.vsub k s2 e m f j lo hi a cap hn hm hlo hhi hcap hmax hnn hv))
  | false=>exact .vsub k s2 e m _ j lo hi a cap (ho k _ hn hb) hm hlo hhi hcap hmax hnn hv
 | optr k mm x g c hn hg=>
  simp only[AV.frz]
  cases hb:Nat.beq k nm with
  | true=>exact .val _ _ (.any _)
  | false=>exact .optr k _ _ g c (ho k _ hn hb) hg
 | omap k x hn=>
  simp only[AV.frz]
  cases hb:Nat.beq k nm with
  | true=>exact .val _ _ (.any _)
  | false=>exact .omap k _ (ho k _ hn hb)
 | cond v c x _ h' ih=>exact .cond v c _ (λhc=>ih hc (by simpa [AV.wholes] using hp)) h'
 | agg vs cs hl h1 _ ih=>exact .agg vs _ (by rw[Cz,hl]) (λj hj=>h1 j (by rwa[Cz]at hj)) (λj hj=>by rw[Sb];exact ih j (by rwa[Cz]at hj) (P0 (by simpa [AV.wholes] using hp) j))
 | rpo a cells us hs hI' hc h1 _ ih=>exact .rpo a _ us hs (λj hj=>hI _ _ (hI' j (by rwa[Cz]at hj))) (λj hj=>hc j (by rwa[Cz]at hj)) (λj hj=>h1 j (by rwa[Cz]at hj)) (λj hj=>by rw[Sb];exact ih j (by rwa[Cz]at hj) (P0 (by simpa [AV.wholes] using hp) j))
 | tuple vs cs hl _ ih=>exact .tuple vs _ (by rw[Cz,hl]) (λj hj=>by rw[Sb];exact ih j (by rwa[Cz]at hj) (P0 (by simpa [AV.wholes] using hp) j))
theorem XH{α β:Type}(l:List (Nat×α))(g:Nat->α->β)(k:Nat):Aj (l.map λx=>(x.1,g x.1 x.2)) k=(Aj l k).map (g k):=by
 induction l with
 | nil=>rfl
 | cons x l ih=>
  obtain⟨a,b⟩:=x;simp only[Cq,Aj]
  cases hb:Nat.beq a k with
  | true=>simp_all
  | false=>simpa using ih
theorem zN{α β:Type}{l:List (Nat×α)}{g:α->List β}{k:Nat}{x:α}(h:Aj l k=some x){p:β}(hp:p∈g x):p∈(l.map λy=>g y.2).flatten:=
 List.mem_flatten.2 ⟨g x,zzL21.2 ⟨(k,x),Nn h,rfl⟩,hp⟩
theorem le_freeze{st:St}{nm sz n:Nat}{e:TypeId}{f g:Nat->List AV}(ho:Aj st.own nm=some (.arr sz e n f))(hwh:cm (st.wholes nm n))(hf:∀ i,i<n->AV.stripAll (f i)=g i)(h0:Γ.own0 nm=none)(hlt:Nat.blt nm Bn=true:=by rfl) :
  Le Γ st (st.freeze nm sz n e g):=by
 intro I θ a w h;have hall:=WK hwh
 have hlt:nm<Bn:=by simpa [K9] using hlt
 have ho:st.sto.own nm=some (.arr sz e n f):=(Ba hlt).trans ho
 have hown':(st.freeze nm sz n e g).sto.own=λk=>(st.sto.own k).map λo=>bif Nat.beq k nm then Own.tok sz e n else o.frz nm sz n g:=by
  funext k
  by_cases hk:k<Bn
  ·show De _ _ k=(De _ _ k).map _
   rw[Ba hk,Ba hk];exact XH st.own (λk o=>bif Nat.beq k nm then Own.tok sz e n else o.frz nm sz n g) k
  ·have hb:Nat.beq k nm=false:=by cases hb:Nat.beq k nm with|false=>rfl|true=>exact absurd (C4 hb) (by rintro rfl;exact hk hlt)
   show De _ _ k=(De _ _ k).map _
   rw[Ds hk,Ds hk,hb]
   show(Aj st.fam (k / Bn-1)).bind _=_
   cases Aj st.fam (k / Bn-1) with
   | none=>rfl
   | some F=>simp only[An,Option.map_map];cases F.m (k % Bn)<;>rfl
 have hnm:(st.freeze nm sz n e g).sto.own nm=some (.tok sz e n):=by rw[hown'];simp[ho]
 have hne:∀ k,k≠nm->(st.freeze nm sz n e g).sto.own k=(st.sto.own k).map (Own.frz nm sz n g):=λk hk=>by
  have:Nat.beq k nm=false:=by cases hb:Nat.beq k nm with|false=>rfl|true=>exact absurd (C4 hb) hk
  rw[hown'];simp[this]
 have hkeep:∀ k o,st.sto.own k=some o->Nat.beq k nm=false->(st.freeze nm sz n e g).sto.own k=some (o.frz nm sz n g):=λk o hk hb=>by
  have:k≠nm:=by rintro rfl;simp at hb
  rw[hne k this];rw[hk];rfl
 have hback:∀ k,k≠nm->∀ o',(st.freeze nm sz n e g).sto.own k=some o'->∃ o,st.sto.own k=some o/\o'=o.frz nm sz n g:=λk hk o' ho'=>by
  rw[hne k hk]at ho';obtain⟨o,h1,h2⟩:=zzL80.1 ho';exact⟨o,h1,h2.symm⟩
 have hnone:∀ k,(st.freeze nm sz n e g).sto.own k≠none->st.sto.own k≠none:=λk hk=>by
  by_cases hkn:k=nm
  ·subst hkn;simp[ho]
  ·cases hx:(st.freeze nm sz n e g).sto.own k with
   | none=>exact(hk hx).elim
   | some o'=>obtain⟨o,h1,_⟩:=hback k hkn o' hx;simp[h1]
 have hrel:=h.chg.rel;obtain⟨q0,q1⟩:=hrel.arr nm sz e n f ho
 let I':Nat->Nat->Prop:=λb o=>I b o\/((∃ c,θ nm=some (b,c))/\o<n*sz)
 have hII:∀ b o,I b o->I' b o:=λ_ _ h=>.inl h
 have hkey:∀ v,Rep I st.sto.own θ w v (.vsl nm n)->Rep I' (st.freeze nm sz n e g).sto.own θ w v (.slice sz n g (.own nm)):=λv hs=>by
  obtain⟨sz',e',m,f2,ad,cap,hval,ho',hmm,hcap,hmax,hnn,hvv⟩:=hs.vsl_inv;have ho'':st.sto.own nm=some (.arr sz' e' m f2):=ho';rw[ho]at ho'';simp only[Ao,Own.arr.injEq]at ho'';obtain⟨rfl,rfl,rfl,rfl⟩:=ho'';have hvv:=hvv rfl;rw[hval];refine .own nm sz e n ad n cap g hnm (zzL6 _) (λ_=>hvv) ?_
  cases hθ:θ nm with
  | none=>
   have hn0:=q0 hθ;subst hn0;exact .slice ad 0 cap sz g (λ_=>undef) hcap hmax (λh=>by omega) hnn (λj hj=>by omega) (λi hi=>by omega) (λi c hi=>by omega)
  | some gc=>
   obtain⟨b,c⟩:=gc;rw[hθ]at hvv;simp only at hvv;obtain⟨rfl,rfl⟩:=hvv;obtain⟨cur,r1,r2,r3,r4,r5,r6,r7⟩:=q1 b cap hθ
   have hcell:∀ j,j<n*sz->w.cell? ⟨b,j,none⟩=some (cur.getD j undef):=λj hj=>by
    have:n*sz<=cap*sz:=Ft _ r2;rw[Nf w b j cur e (0,0) r1];exact Nk (by omega)
   refine .slice _ n cap sz g (λj=>cur.getD j undef) hcap hmax (λ_=>⟨⟨b,0,none⟩,rfl,rfl,λj hj=>.inr ⟨⟨cap,hθ⟩,by simpa using hj⟩,λj hj=>by simpa using hcell j hj⟩) (by simp) (λj hj=>?_) (λi hi=>?_) (λi k hi hk=>?_)
   ·have hs:0<sz:=by
     rcases zzL71 sz with h0|h0
     ·rw[h0]at hj;omega
     ·exact h0
    have e2:j / sz*sz+j % sz=j:=by rw[CJ];exact IJ j sz
    have:=(r6 (j / sz) (j % sz) (by rw[TB hs];exact hj) (Nat.mod_lt _ hs)).1;rwa[e2]at this
   ·rw[<- hf i hi,Bc];exact r5 i hi
   ·rw[<- hf i hi,Ez];exact((r6 i k hi hk).2.strip).mono hII (λ_ _ _=>rfl)
 have hkey2:∀ v l h,Rep I st.sto.own θ w v (.vsub nm n l h)->RepV I' w v (.slice sz (h-l) (λi=>g (l+i)) .none):=λv l h hs=>by
  obtain⟨sz',e',m,f2,ad,cap,hval,ho',hmm,hlo,hhi,hcap,hmax,hnn,hvv⟩:=hs.vsub_inv;have ho'':st.sto.own nm=some (.arr sz' e' m f2):=ho';rw[ho]at ho'';simp only[Ao,Own.arr.injEq]at ho'';obtain⟨rfl,rfl,rfl,rfl⟩:=ho'';have hvv:=hvv rfl;rw[hval]
  by_cases hlt:l<h
  ·obtain⟨b,c,hθ,rfl⟩:=hvv.1 hlt;obtain⟨cur,r1,r2,r3,r4,r5,r6,r7⟩:=q1 b c hθ
   have hmul:∀ j,j<(h-l)*sz->l*sz+j<n*sz:=λj hj=>by
    have:(l+(h-l))*sz<=n*sz:=Ft _ (by omega);rw[Gl]at this;omega
   have hcell:∀ j,j<n*sz->w.cell? ⟨b,j,none⟩=some (cur.getD j undef):=λj hj=>by
    have:n*sz<=c*sz:=Ft _ r2;rw[Nf w b j cur e (0,0) r1];exact Nk (by omega)
   refine .slice _ (h-l) cap sz _ (λj=>cur.getD (l*sz+j) undef) hcap hmax (λ_=>⟨⟨b,l*sz,none⟩,rfl,rfl,λj hj=>.inr ⟨⟨c,hθ⟩,hmul j hj⟩,λj hj=>hcell _ (hmul j hj)⟩) (by simp) (λj hj=>?_) (λi hi=>?_) (λi k hi hk=>?_)
   ·have hs:0<sz:=by
     rcases zzL71 sz with h0|h0
     ·rw[h0]at hj;omega
     ·exact h0
    have e2:l*sz+j=(l+j / sz)*sz+j % sz:=by
     rw[Gl,Xc]
     congr 1
     rw[CJ];exact(IJ j sz).symm
    have e3:j / sz<h-l:=by rw[TB hs];exact hj
    have:=(r6 (l+j / sz) (j % sz) (by omega) (Nat.mod_lt _ hs)).1;rwa[<- e2]at this
   ·rw[<- hf (l+i) (by omega),Bc];exact r5 (l+i) (by omega)
   ·rw[<- hf (l+i) (by omega),Ez,<- Xc,<- Gl];exact((r6 (l+i) k (by omega) hk).2.strip).mono hII (λ_ _ _=>rfl)
  ·have h0:h-l=0:=by omega
   rw[h0];exact .slice ad 0 cap sz _ (λ_=>undef) (by omega) hmax (λh=>by omega) hnn (λj hj=>by omega) (λi hi=>by omega) (λi c hi=>by omega)
 have hlt':∀ b i,Nat.beq (Sp b i) nm=false:=λb i=>by cases hb:Nat.beq (Sp b i) nm with|false=>rfl|true=>exact absurd (C4 hb) (by rintro rfl;exact Rn b i hlt)
 have hcast:∀ v x,Rep I st.sto.own θ w v x->(∀ p∈x.wholes nm n,p)->Rep I' (st.freeze nm sz n e g).sto.own θ w v (x.frz nm sz n g):=λv x hx hp=>hx.frz hp hII hkeep hkey hkey2 hlt'
 have hfar:∀ k b c,k≠nm->st.sto.own k≠none->θ k=some (b,c)->∀ j,I' b j->I b j:=λk b c hk hk' hg j hj=>by
  rcases hj with hj|⟨⟨c',hc'⟩,_⟩
  ·exact hj
  ·exact(hk (hrel.inj k nm b c c' hk' (by simp[ho]) hg hc')).elim
 have hcast2:∀ v x,Rep I st.sto.own θ w v x->Rep I' (st.freeze nm sz n e g).sto.own θ w v (x.frw nm sz n g):=λv x hx=>by
  have key:∀{v:Value} {x:AV},Rep I st.sto.own θ w v x->Rep I' (st.freeze nm sz n e g).sto.own θ w v (x.frw nm sz n g):=by
   intro v x h
   induction h with
   | val v x h=>exact .val _ _ ((h.frw nm sz n g).mono hII (λ_ _ _=>rfl))
   | exact a n sz f h=>exact .exact a n sz f (h.mono hII (λ_ _ _=>rfl))
   | own k sz e m a n cap f hn hm hv h=>
    simp only[AV.frw,Zl]
    cases hb:Nat.beq k nm with
    | true=>exact .val _ _ (h.mono hII (λ_ _ _=>rfl))
    | false=>exact .own k sz e m a n cap f (hkeep k _ hn hb) hm hv (h.mono hII (λ_ _ _=>rfl))
   | fam b i sz e m a n cap f hi hn hm hv h=>
    simp only[AV.frw,Zl]
    cases hb:Nat.beq b nm with
    | true=>exact .val _ _ (h.mono hII (λ_ _ _=>rfl))
    | false=>exact .fam b i sz e m a n cap f hi (hkeep _ _ hn (hlt' b i)) hm hv (h.mono hII (λ_ _ _=>rfl))
   | ptr k off e0 cells g c hn hg=>
    simp only[AV.frw,Zl]
    cases hb:Nat.beq k nm with
    | true=>exact .val _ _ (.any _)
    | false=>exact .ptr k off e0 _ g c (hkeep k _ hn hb) hg
   | vsl k s2 e m f a j cap hn hm hcap hmax hnn hv=>
    simp only[AV.frw,Zl]
    cases hb:Nat.beq k nm with
    | true=>
     simp only[Dq,Aw]
     cases hj:Nat.beq j n with
     | false=>exact .val _ _ (.any _)
     | true=>
      obtain rfl:=C4 hb;obtain rfl:=C4 hj;exact .val _ _ (hkey _ (.vsl k s2 e m f a j cap hn hm hcap hmax hnn hv)).slice_val
    | false=>exact .vsl k s2 e m _ a j cap (hkeep k _ hn hb) hm hcap hmax hnn hv
   | vpt k s2 e m f j i c ad hn hm hi hv=>
    simp only[AV.frw,Zl]
    cases hb:Nat.beq k nm with
    | true=>exact .val _ _ (.any _)
    | false=>exact .vpt k s2 e m _ j i c ad (hkeep k _ hn hb) hm hi hv
   | clo f fs cs xs ys hl hl' _ _ ih ih'=>exact .clo f fs cs _ _ (by rw[Du,hl]) (by rw[Du,hl']) (λj hj=>by rw[Sa];exact ih j (by rwa[Du]at hj)) (λj hj=>by rw[Sa];exact ih' j (by rwa[Du]at hj))
   | vsub k s2 e m f j lo hi a cap hn hm hlo hhi hcap hmax hnn hv=>
    simp only[AV.frw,Zl]
    cases hb:Nat.beq k nm with
    | true=>exact .val _ _ (.any _)
    | false=>exact .vsub k s2 e m _ j lo hi a cap (hkeep k _ hn hb) hm hlo hhi hcap hmax hnn hv
   | optr k mm x g c hn hg=>
    simp only[AV.frw,Zl]
    cases hb:Nat.beq k nm with
    | true=>exact .val _ _ (.any _)
    | false=>exact .optr k _ _ g c (hkeep k _ hn hb) hg
   | omap k x hn=>
    simp only[AV.frw,Zl]
    cases hb:Nat.beq k nm with
    | true=>exact .val _ _ (.any _)
    | false=>exact .omap k _ (hkeep k _ hn hb)
   | cond v c x _ h' ih=>exact .cond v c _ ih h'
   | agg vs cs hl h1 _ ih=>exact .agg vs _ (by rw[Du,hl]) (λj hj=>h1 j (by rwa[Du]at hj)) (λj hj=>by rw[Sa];exact ih j (by rwa[Du]at hj))
   | rpo a cells us hs hI' hc h1 _ ih=>exact .rpo a _ us hs (λj hj=>.inl (hI' j (by rwa[Du]at hj))) (λj hj=>hc j (by rwa[Du]at hj)) (λj hj=>h1 j (by rwa[Du]at hj)) (λj hj=>by rw[Sa];exact ih j (by rwa[Du]at hj))
   | tuple vs cs hl _ ih=>exact .tuple vs _ (by rw[Du,hl]) (λj hj=>by rw[Sa];exact ih j (by rwa[Du]at hj))
  exact key hx
 refine⟨I',θ,h.size,h.defers,λt=>?_,?_⟩
 ·have hslot:(st.freeze nm sz n e g).sto.tmp t=match Aj st.tmps t with|some x=>x.frz nm sz n g|none=>.any:=by
   show(match Aj (st.tmps.map λx=>(x.1,x.2.frz nm sz n g)) t with|some x=>x|none=>.any)=_
   rw[XH st.tmps (λ_ x=>x.frz nm sz n g) t]
   cases Aj st.tmps t<;>rfl
  rw[hslot];have hs:=h.slots t
  have hget:st.sto.tmp t=match Aj st.tmps t with|some x=>x|none=>.any:=rfl
  cases hl:Aj st.tmps t with
  | none=>exact .val _ _ (.any _)
  | some x=>
   rw[hget,hl]at hs;exact hcast _ _ hs (λp hp=>hall p (zzL11.2 (.inl (zN (g:=λx=>x.wholes nm n) hl hp))))
 ·refine{ h.chg with imm:=λb o hi=>.inl (h.chg.imm b o hi),le:=λk o hk=>?_,rel:=⟨λk e0 cells hk=>?_,λk s2 e2 m hk b c hg=>?_,λk k' b c c' hk hk'=>?_,λk s2 e2 m f2 hk=>?_,λk x hk=>?_,λk s2 m hk hnn=>?_⟩,valid:=λb o hi=>?_,new:=λk b c hk hg=>?_,immNew:=λb o hi=>?_ }
  ·obtain⟨o',ho',hl⟩:=h.chg.le k o hk
   have hkn:k≠nm:=by rintro rfl;rw[h0]at hk;cases hk
   have hkb:Nat.beq k nm=false:=by cases hb:Nat.beq k nm with|false=>rfl|true=>exact absurd (C4 hb) hkn
   refine⟨_,hkeep k o' ho' hkb,?_⟩
   cases o<;>cases o'<;>first|exact hl|exact hl.elim
  rotate_left 4
  ·have hkn:k≠nm:=by rintro rfl;rw[hnm]at hk;cases hk
   obtain⟨o,h1,h2⟩:=hback k hkn _ hk
   cases o with
   | row=>simp[Own.frz]at h2
   | tok=>simp[Own.frz]at h2
   | arr=>simp[Own.frz]at h2
   | obj x'=>
    simp only[Own.frz,Own.obj.injEq]at h2;subst h2;exact Mh (hrel.obj k _ h1) rfl (λ_ _ _=>rfl) (λb c j hg hj=>hfar k b c hkn (by simp[h1]) hg j hj) (λ_ hh=>hh.on _ hII (λ_ _ _=>rfl) λv y hv=>hcast2 _ _ hv) RM
  ·by_cases hkn:k=nm
   ·subst hkn;rw[hnm]at hk;simp only[Ao,Own.tok.injEq]at hk;obtain⟨rfl,_,rfl⟩:=hk;exact q0 hnn
   ·obtain⟨o,h1,h2⟩:=hback k hkn _ hk
    cases o with
    | row=>simp[Own.frz]at h2
    | arr=>simp[Own.frz]at h2
    | obj=>simp[Own.frz]at h2
    | tok=>
     simp only[Own.frz,Own.tok.injEq]at h2;obtain⟨rfl,rfl,rfl⟩:=h2;exact hrel.tok8 k _ _ h1 hnn
  rotate_left 3
  ·have hkn:k≠nm:=by rintro rfl;rw[hnm]at hk;cases hk
   obtain⟨o,h1,h2⟩:=hback k hkn _ hk
   cases o with
   | tok=>simp[Own.frz]at h2
   | arr=>simp[Own.frz]at h2
   | obj=>simp[Own.frz]at h2
   | row e' cs=>
    simp only[Own.frz,Own.row.injEq]at h2;obtain⟨rfl,rfl⟩:=h2;obtain⟨b,c,vs,r1,r2,r3,r4,r5,r6⟩:=hrel.row k _ cs h1;refine⟨b,c,vs,r1,r2,by rw[Cz];exact r3,λj hj=>r4 j (by rwa[Cz]at hj),λj hj=>?_,λj hj=>r6 j (hfar k b c hkn (by simp[h1]) r1 j hj)⟩;rw[Sb];refine hcast _ _ (r5 j (by rwa[Cz]at hj)) (P0 (λp hp=>hall p (zzL11.2 (.inr (zN (g:=λx=>x.wholes nm n) (cz h1 (λ_ _ _ h=>by cases h)) (by simpa [Own.wholes] using hp))))) j)
  ·by_cases hkn:k=nm
   ·subst hkn;rw[hnm]at hk;simp only[Ao,Own.tok.injEq]at hk;obtain⟨rfl,rfl,rfl⟩:=hk;obtain⟨cur,r1,r2,r3,r4,r5,r6,r7⟩:=q1 b c hg;refine⟨cur,0,r1,r2,r3,r4,P4 _,λj hj=>?_⟩;rcases hj with hj|⟨_,hj⟩
    ·exact(r7 j hj).elim
    ·exact hj
   ·obtain⟨o,h1,h2⟩:=hback k hkn _ hk
    cases o with
    | row=>simp[Own.frz]at h2
    | arr=>simp[Own.frz]at h2
    | obj=>simp[Own.frz]at h2
    | tok=>
     simp only[Own.frz,Own.tok.injEq]at h2;obtain⟨rfl,rfl,rfl⟩:=h2;obtain⟨cur,fz,r1,r2,r3,r4,r5',r5⟩:=hrel.tok k _ _ _ h1 b c hg;exact⟨cur,fz,r1,r2,r3,r4,r5',λj hj=>r5 j (hfar k b c hkn (by simp[h1]) hg j hj)⟩
  ·exact hrel.inj k k' b c c' (hnone k hk) (hnone k' hk')
  ·have hkn:k≠nm:=by rintro rfl;rw[hnm]at hk;cases hk
   obtain⟨o,h1,h2⟩:=hback k hkn _ hk
   cases o with
   | row=>simp[Own.frz]at h2
   | tok=>simp[Own.frz]at h2
   | obj=>simp[Own.frz]at h2
   | arr s3 e3 m3 f3=>
    simp only[Own.frz,Own.arr.injEq]at h2;obtain⟨rfl,rfl,rfl,rfl⟩:=h2;exact Qf (hrel.arr k _ _ _ _ h1) rfl (λ_ _ _=>rfl) (λb c j hg hj=>hfar k b c hkn (by simp[h1]) hg j hj) (λi _=>Du _ _ _ _ _) (λv i j _ _ hv=>by rw[Sa];exact hcast2 _ _ hv)
  ·rcases hi with hi|⟨⟨c,hc⟩,hj⟩
   ·exact h.chg.valid b o hi
   ·obtain⟨cur,r1,r2,r3,r4,r5,r6,r7⟩:=q1 b c hc;have:n*sz<=c*sz:=Ft _ r2;exact⟨cur.getD o undef,by rw[Nf w b o cur e (0,0) r1];exact Nk (by omega)⟩
  ·exact h.chg.new k b c (hnone k hk) hg
  ·rcases hi with hi|⟨⟨c,hc⟩,_⟩
   ·exact h.chg.immNew b o hi
   ·exact .inr (h.chg.new nm b c (by simp[ho]) hc)
end
section
variable {α:Type} {e:α->List AV} {d:α}
theorem Fs{f:Nat->List AV}{l:List α}{i j:Nat}{cs:List AV}{x:α}(hf:∀ k,k<l.length->f k=e (l.getD k d))(hi:i<l.length)(hx:(e (l.getD i d)).take j++cs++(e (l.getD i d)).drop (j+cs.length)=e x) :
  ∀ k,k<(l.set i x).length->Fa f i j cs k=e ((l.set i x).getD k d):=by
 intro k hk;rw[Db]at hk
 by_cases h:k=i
 ·subst h;rw[Tq,hf k hk,hx];simp[ hk]
 ·rw[Wq f cs h,hf k hk];simp[ Ra h]
def OB{α:Type}(l:List α)(lo k:Nat)(s:Nat->α):List α:=l.mapIdx λi x=>if lo<=i/\i<lo+k then s (i-lo) else x
theorem Ei(l:List α)(lo k:Nat)(s:Nat->α):l.length=(OB l lo k s).length:=by simp[OB]
theorem GX(l:List α)(lo k:Nat)(s:Nat->α)(i:Nat)(d:α)(h:i<l.length):(OB l lo k s).getD i d=if lo<=i/\i<lo+k then s (i-lo) else l.getD i d:=by
 simp[OB, h]
theorem OA{f g:Nat->List AV}{l:List α}{s:Nat->α}{lo k:Nat}(hf:∀ i,i<l.length->f i=e (l.getD i d))(hg:∀ i,i<k->g i=e (s i)):∀ i,i<(OB l lo k s).length->WL f lo k g i=e ((OB l lo k s).getD i d):=by
 intro i hi;rw[<- Ei]at hi;rw[GX _ _ _ _ _ _ hi]
 by_cases h:lo<=i/\i<lo+k
 ·rw[ZV f g h,if_pos h,hg _ (by omega)]
 ·rw[CZ f g h,if_neg h,hf i hi]
theorem Yx(keep:Nat->Bool)(l m:List AV):AV.eraseAll keep (l++m)=AV.eraseAll keep l++AV.eraseAll keep m:=by induction l with|nil=>rfl|cons x l ih=>simp[AV.eraseAll,ih]
theorem VC(keep:Nat->Bool)(l:List AV)(n:Nat):AV.eraseAll keep (l.drop n)=(AV.eraseAll keep l).drop n:=by
 induction l generalizing n with
 | nil=>simp[AV.eraseAll]
 | cons x l ih=>cases n with
  | zero=>simp
  | succ n=>simpa [AV.eraseAll] using ih n
theorem GR{f f':Nat->List AV}{l m:List α}(hf:∀ k,k<l.length->f k=e (l.getD k d))(hf':∀ k,k<m.length->f' k=e (m.getD k d)):∀ k,k<(l++m).length->O1 l.length f f' k=e ((l++m).getD k d):=by
 intro k hk;rw[Fe]at hk;rw[<- jH (e:=e)  l m k hk]
 by_cases h:k<l.length
 ·rw[Qe _ _ h,Qe _ _ h,hf k h]
 ·rw[Ul _ _ (by omega),Ul _ _ (by omega),hf' _ (by omega)]
theorem M9{z:List AV}(h:AVleL z (e d))(n:Nat):∀ k,k<(List.replicate n d).length->AVleL z (e ((List.replicate n d).getD k d)):=λk hk=>by
 grind
theorem o7{keep:Nat->Bool}{F:Nat->List AV}{l:List α}{lo k:Nat}{z:List AV}(hz:AVleL (AV.eraseAll keep z) (e d))(hF:∀ i,i<l.length->AV.eraseAll keep (F i)=e (l.getD i d)) :
  ∀ i,i<l.length->AVleL (AV.eraseAll keep (WL F lo k (λ_=>z) i)) (e ((OB l lo k (λ_=>d)).getD i d)):=λi hi=>by
 rw[GX _ _ _ _ _ _ hi]
 by_cases h:lo<=i/\i<lo+k
 ·rw[ZV F _ h,if_pos h];exact hz
 ·rw[CZ F _ h,if_neg h,hF i hi];exact .refl _
theorem Bh{f g:Nat->List AV}{n m:Nat}(hn:n=m)(h:∀ k,k<m->f k=g k):∀ k,k<n->AVleL (f k) (g k):=λk hk=>by rw[h k (by omega)];exact .refl _
end
section
variable {α:Type} {e:α->List AV} {d:α}
end
noncomputable instance (n:Nat)(f:Nat->List AV):Decidable (nF n f):=Classical.propDecidable _
theorem nl{a b:Nat}(h:Nat.ble a b=true):a<=b:=K8 h
theorem gT{c:Bool}(h:c=true):(c==true)=true:=by rw[h];rfl
theorem gF{c:Bool}(h:c=false):(c==false)=true:=by rw[h];rfl
theorem aT{g c:Bool}(hg:g=true)(h:c=true):(g&&(c==true))=true:=by rw[hg,h];rfl
theorem aF{g c:Bool}(hg:g=true)(h:c=false):(g&&(c==false))=true:=by rw[hg,h];rfl
theorem Hx{α:Type}{i:Int}{l:List α}(h:A1 i l.length):i.toNat<l.length:=by unfold A1 at h;omega
theorem tR{α:Type}{i:Int}{l:List α}{a:Nat}{x:α}(h:A1 i l.length):i.toNat<(l.set a x).length:=by rw[Db];exact Hx h
theorem Na{α:Type}{d:α}{n k:Nat}(h:k<n):k<(List.replicate n d).length:=by grind
def P8{α:Type}(N:Nat)(d:α)(l:List α)(i:Nat)(x:α):List α:=(List.range N).map λj=>bif Nat.beq j i then x else l.getD j d
theorem YI{α:Type}{N:Nat}{d:α}{l:List α}{i:Nat}{x:α}{k:Nat}(hk:k<N):(P8 N d l i x).getD k d=bif Nat.beq k i then x else l.getD k d:=by
 unfold P8;rw[List.getD,KO,List.getElem?_range hk]
 rfl
theorem Wr{α:Type}{e:α->List AV}{d:α}{f:Nat->List AV}{l:List α}{N i j:Nat}{cs:List AV}{x:α}(hf:∀ k,k<N->f k=e (l.getD k d))(hi:i<N)(hx:(e (l.getD i d)).take j++cs++(e (l.getD i d)).drop (j+cs.length)=e x) :
  ∀ k,k<N->Fa f i j cs k=e ((P8 N d l i x).getD k d):=by
 intro k hk;rw[YI hk];unfold Fa
 cases hb:Nat.beq k i with
 | true=>
  grind
 | false=>grind
theorem Qo{i:Int}{N:Nat}(h:A1 i N):i.toNat<N:=by unfold A1 at h;omega
theorem dB{α:Type}(z:List α)(sz:Nat)(hz:z.length=sz):∀(N k:Nat),k<N->(((List.replicate N z).flatten).drop (k*sz)).take sz=z
 | 0,k,h=>by omega
 | N+1,0,h=>by
  grind
 | N+1,k+1,h=>by
  rw[List.replicate_succ,List.flatten_cons,show(k+1)*sz=z.length+k*sz by grind,List.drop_append,List.drop_eq_nil_of_le (by omega), Nat.add_sub_cancel_left];exact dB z sz hz N k (by omega)
def Ox{α:Type}(sz:Nat)(e:α->List AV)(d:α)(L:List (List α))(t:Nat->Tag):Nat->List AV:=λj=>[AV.list sz e d (L.getD j []) (t j)]
def Ht(b i k j:Nat):Tag:=bif Nat.beq j i then .own k else .fam b j
def Nm{α:Type}(L:List (List α)):Nat->Option Nat:=λj=>if j<L.length then some (L.getD j []).length else none
def AY{α:Type}(L:List (List α))(i:Nat):Nat->Option Nat:=λj=>if j=i then none else Nm L j
mutual
def AV.free(p:Tag->Bool):AV->Bool
 | .slice _ _ _ t=>p t
 | .clo _ xs ys=>AV.freeAll p xs&&AV.freeAll p ys
 | .agg cs=>AV.freeAll p cs
 | .rpo cs=>AV.freeAll p cs
 | .tuple cs=>AV.freeAll p cs
 | .cond _ x=>x.free p
 | _=>true
def AV.freeAll(p:Tag->Bool):List AV->Bool
 | []=>true
 | x::l=>x.free p&&AV.freeAll p l
end
theorem Mc{p:Tag->Bool}{l:List AV}(h:AV.freeAll p l=true)(j:Nat):(l.getD j .any).free p=true:=by
 induction l generalizing j with
 | nil=>simp[AV.free]
 | cons x l ih=>
  simp only[AV.freeAll,A6]at h
  cases j with
  | zero=>simpa using h.1
  | succ j=>simpa using ih h.2 j
def AObj.Al(P:AV->Prop):AObj->Prop
 | .iter _ _=>True
 | .map _ _ _=>True
 | .pmap _ _ _=>True
 | .miter m _ _=>P m
 | .tab _ l=>∀ i,i<l.length->P (l.getD i (0,.any)).2
theorem AObj.Al.imp{P Q:AV->Prop}{x:AObj}(h:x.Al P)(k:∀ y,P y->Q y):x.Al Q:=by
 cases x with
 | iter=>trivial
 | map=>trivial
 | pmap=>trivial
 | miter=>exact k _ h
 | tab=>exact λi hi=>k _ (h i hi)
theorem ObjR.al{P:AV->Prop}{I I':Nat->Nat->Prop}{own own':Nat->Option Own}{θ θ':Nat->Option (Nat×Nat)}{w w':World}{o:Obj}{x:AObj}(h:ObjR I own θ w o x)(hx:x.Al P)(hI:∀ b o,I b o->I' b o)(hw:∀ b o,I b o->w'.cell? ⟨b,o,none⟩=w.cell? ⟨b,o,none⟩)(hf:∀ v y,P y->Rep I own θ w v y->Rep I' own' θ' w' v y):ObjR I' own' θ' w' o x:=by
 cases h with
 | iter s p=>exact .iter s p
 | map es nn k l hs hr=>
  refine .map es nn k l hs λi hi=>?_;obtain⟨v,h1,h2,h3⟩:=hr i hi;exact⟨v,h1,h2.mono hI hw,h3⟩
 | pmap es nn k l0 l hp hk hs hr=>
  refine .pmap es nn k l0 l hp hk hs λi hi=>?_;obtain⟨v,h1,h2,h3⟩:=hr i hi;exact⟨v,h1,h2.mono hI hw,h3⟩
 | miter r m n c seen hc hr=>exact .miter r m n c _ hc (hf _ _ hx hr)
 | tab es k l hs hr=>exact .tab es k l hs λi hi=>by obtain⟨v,h1,h2⟩:=hr i hi;exact⟨v,h1,hf _ _ (hx i hi) h2⟩
def dc(b:Nat):Tag->Bool
 | .fam b' _=>!Nat.beq b' b
 | .own nm=>Nat.blt nm Bn
 | _=>true
def jt(k:Nat):Tag->Bool
 | .own k'=>!Nat.beq k' k
 | _=>true
def Fr(q:Nat)(x:AV):Prop:=∀(I:Nat->Nat->Prop) (own own':Nat->Option Own) (θ θ':Nat->Option (Nat×Nat)) (w:World) (v:Value),(∃ sz e m,own q=some (.tok sz e m))->
 (∀ nm o,nm≠q->own nm=some o->∃ o',own' nm=some o'/\OwnLe o (θ nm) o' (θ' nm))->Rep I own θ w v x->Rep I own' θ' w v x
theorem u9{q:Nat}{p:Tag->Bool}(hp:∀ nm,p (.own nm)=true->nm≠q)(hf:∀ b i,i<Bn->p (.fam b i)=true->Sp b i≠q){x:AV}(hx:x.free p=true):Fr q x:=by
 intro I own own' θ θ' w v hq ho h;obtain⟨s0,e0,m0,hq⟩:=hq
 have hne:∀{nm o},own nm=some o->(∀ sz e m,o≠.tok sz e m)->nm≠q:=λhn hh=>by
  grind
 induction h with
 | val v x h=>exact .val v x h
 | exact a n sz f h=>exact .exact a n sz f h
 | own nm sz e m a n cap f hn hm hv h=>
  obtain⟨o',ho',hle⟩:=ho nm _ (hp nm hx) hn
  cases o' with
  | tok sz' e' m'=>
   obtain⟨rfl,rfl,hmm,hθ⟩:=hle;refine .own nm _ _ m' a n cap f ho' (P3 hm hmm) (λhe=>?_) h;rw[hθ (by omega)];exact hv (by omega)
  | _=>exact hle.elim
 | fam b i sz e m a n cap f hi hn hm hv h=>
  obtain⟨o',ho',hle⟩:=ho (Sp b i) _ (hf b i hi hx) hn
  cases o' with
  | tok sz' e' m'=>
   obtain⟨rfl,rfl,hmm,hθ⟩:=hle;refine .fam b i _ _ m' a n cap f hi ho' (P3 hm hmm) (λhe=>?_) h;rw[hθ (by omega)];exact hv (by omega)
  | _=>exact hle.elim
 | ptr nm off e cells g c hn hg=>
  obtain⟨o',ho',hle⟩:=ho nm _ (hne hn (λ_ _ _ h=>by cases h)) hn
  cases o' with
  | row e' cells'=>
   have e:θ' nm=θ nm:=hle.2;exact .ptr nm off e' cells' g c ho' (e.trans hg)
  | _=>exact hle.elim
 | vsl nm sz e m f a n cap hn hm hcap hmax hnn hv=>
  obtain⟨o',ho',hle⟩:=ho nm _ (hne hn (λ_ _ _ h=>by cases h)) hn
  cases o' with
  | arr sz' e' m' f'=>
   obtain⟨rfl,rfl,hmm,hθ⟩:=hle;refine .vsl nm _ _ m' f' a n cap ho' (P3 hm hmm) hcap hmax hnn (λhe=>?_);rw[hθ (by omega)];exact hv (by omega)
  | _=>exact hle.elim
 | vpt nm sz e m f n i j ad hn hm hi hv=>
  obtain⟨o',ho',hle⟩:=ho nm _ (hne hn (λ_ _ _ h=>by cases h)) hn
  cases o' with
  | arr sz' e' m' f'=>
   obtain⟨rfl,rfl,hmm,hθ⟩:=hle;refine .vpt nm _ _ m' f' n i j ad ho' (P3 hm hmm) hi (λhe=>?_);rw[hθ (by omega)];exact hv (by omega)
  | _=>exact hle.elim
 | clo f fs cs xs ys hl hl' _ _ ih ih'=>
  simp only[AV.free,A6]at hx;exact .clo f fs cs xs ys hl hl' (λj hj=>ih j hj (Mc hx.1 j)) (λj hj=>ih' j hj (Mc hx.2 j))
 | optr nm mm x g c hn hg=>
  obtain⟨o',ho',hle⟩:=ho nm _ (hne hn (λ_ _ _ h=>by cases h)) hn
  cases o' with
  | obj x'=>exact .optr nm mm x' g c ho' (by rw[hle,hg])
  | _=>exact hle.elim
 | omap nm x hn=>
  obtain⟨o',ho',hle⟩:=ho nm _ (hne hn (λ_ _ _ h=>by cases h)) hn
  cases o' with
  | obj x'=>
   have hle:θ' nm=θ nm:=hle;rw[<- hle];exact .omap nm x' ho'
  | _=>exact hle.elim
 | vsub nm sz e m f n lo hi a cap hn hm hlo hhi hcap hmax hnn hv=>
  obtain⟨o',ho',hle⟩:=ho nm _ (hne hn (λ_ _ _ h=>by cases h)) hn
  cases o' with
  | arr sz' e' m' f'=>
   obtain⟨rfl,rfl,hmm,hθ⟩:=hle;refine .vsub nm _ _ m' f' n lo hi a cap ho' (P3 hm hmm) hlo hhi hcap hmax hnn (λhe=>?_);rw[hθ (by omega)];exact hv (by omega)
  | _=>exact hle.elim
 | cond v c x _ h' ih=>exact .cond v c x (λhc=>ih hc hx) h'
 | agg vs cs hl h1 _ ih=>exact .agg vs cs hl h1 (λj hj=>ih j hj (Mc hx j))
 | rpo a cells us hs hI' hc h1 _ ih=>exact .rpo a cells us hs hI' hc h1 (λj hj=>ih j hj (Mc hx j))
 | tuple vs cs hl _ ih=>exact .tuple vs cs hl (λj hj=>ih j hj (Mc hx j))
theorem pK{b i:Nat}(hi:i<Bn){x:AV}(hx:x.free (dc b)=true):Fr (Sp b i) x:=
 u9  (λnm hp he=>by
  have hlt :=by simpa [dc,K9] using hp
  rw[he]at hlt
  exact Rn b i hlt) (λb' i' hi' hp he=>by
  have h1:=Xk (b:=b') hi';rw[he,Xk hi]at h1;subst h1
  simp[dc]at hp) hx
theorem pL{k:Nat}(hk:k<Bn){x:AV}(hx:x.free (jt k)=true):Fr k x:=
 u9  (λnm hp he=>by subst he;simp[jt]at hp) (λb i _ _ he=>by rw[<- he]at hk;exact Rn b i hk) hx
def nJ(q:Nat):Own->Prop
 | .row _ cells=>∀ j,j<cells.length->Fr q (cells.getD j .any)
 | .arr sz _ m f=>∀ i j,i<m->j<sz->Fr q ((f i).getD j .any)
 | .obj x=>x.Al (Fr q)
 | .tok ..=>True
theorem AO{I:Nat->Nat->Prop}{own own':Nat->Option Own}{θ θ':Nat->Option (Nat×Nat)}{w:World}{nm sz m:Nat}{e:TypeId}{f f':Nat->List AV}
  (h:(θ nm=none->m=0)/\∀ g c,θ nm=some (g,c)->∃ cur,w.heap[g]?=some (.cells cur e (0,0))/\m<=c/\c<=maxLen/\cur.size=c*sz /\
   (∀ i,i<m->(f i).length=sz)/\(∀ i j,i<m->j<sz->(cur.getD (i*sz+j) undef).oneCell'=true/\Rep I own θ w (cur.getD (i*sz+j) undef) ((f i).getD j .any))/\∀ j,¬ I g j)
  (hθ:θ' nm=θ nm) (hf:∀ i,i<m->(f' i).length=(f i).length) (hr:∀ i j v,i<m->j<sz->Rep I own θ w v ((f i).getD j .any)->Rep I own' θ' w v ((f' i).getD j .any)) :
  (θ' nm=none->m=0)/\∀ g c,θ' nm=some (g,c)->∃ cur,w.heap[g]?=some (.cells cur e (0,0))/\m<=c/\c<=maxLen/\cur.size=c*sz /\
   (∀ i,i<m->(f' i).length=sz)/\(∀ i j,i<m->j<sz->(cur.getD (i*sz+j) undef).oneCell'=true/\Rep I own' θ' w (cur.getD (i*sz+j) undef) ((f' i).getD j .any))/\∀ j,¬ I g j:=by
 rw[hθ];refine⟨h.1,λg c hg=>?_⟩;obtain⟨cur,q1,q2,q3,q4,q5,q6,q7⟩:=h.2 g c hg;exact⟨cur,q1,q2,q3,q4,λi hi=>(hf i hi).trans (q5 i hi),λi j hi hj=>⟨(q6 i j hi hj).1,hr i j _ hi hj (q6 i j hi hj).2⟩,q7⟩
section
variable {Γ:H6} {σ:Sto} {I:Nat->Nat->Prop} {θ:Nat->Option (Nat×Nat)} {a:Act} {w:World}
theorem RW(h:Rel Γ σ I θ a w){p q r sz m s1 n:Nat}{e e1:TypeId}{F F':Nat->List AV}(hp:σ.own p=some (.tok sz e m))(hq:σ.own q=none)(hr:σ.own r=some (.arr s1 e1 n F))(hp0:Γ.own0 p=none)
  (hfree:∀ t,Fr p (σ.tmp t)) (hrows:∀ nm o,nm≠r->σ.own nm=some o->nJ p o) {own':Nat->Option Own} {θ':Nat->Option (Nat×Nat)}
  (hown:own'=λx=>if x=q then some (.tok sz e m) else if x=p then none else if x=r then some (.arr s1 e1 n F') else σ.own x)
  (hθ:θ'=λx=>if x=q then θ p else if x=p then none else θ x)
  (hlen:∀ j,j<n->(F' j).length=(F j).length)
  (hF:∀ j c v,j<n->c<s1->Rep I σ.own θ w v ((F j).getD c .any)->Rep I own' θ' w v ((F' j).getD c .any)) :
  Rel Γ ⟨σ.tmp,own'⟩ I θ' a w:=by
 have hpq:p≠q:=by rintro rfl;rw[hp]at hq;cases hq
 have hpr:p≠r:=by rintro rfl;rw[hp]at hr;cases hr
 have hqr:q≠r:=by rintro rfl;rw[hq]at hr;cases hr
 have hkeep:∀ nm o,nm≠p->σ.own nm=some o->∃ o',own' nm=some o'/\OwnLe o (θ nm) o' (θ' nm):=λnm o hnp ho=>by
  have hnq:nm≠q:=by rintro rfl;rw[hq]at ho;cases ho
  by_cases hnr:nm=r
  ·subst hnr;rw[hr]at ho;obtain rfl:=OI ho;exact⟨.arr s1 e1 n F',by simp[hown,hnq,hnp],by simp[hθ,hnq,hnp,OwnLe]⟩
  ·exact⟨o,by simp[hown,hnq,hnp,hnr,ho],by simp[hθ,hnq,hnp,OwnLe.refl]⟩
 have hT:∀ v x,Fr p x->Rep I σ.own θ w v x->Rep I own' θ' w v x:=λv x hx hv=>hx I _ _ _ _ w v ⟨_,_,_,hp⟩ hkeep hv
 have hinv:∀ nm o,nm≠q->nm≠r->own' nm=some o->nm≠p/\σ.own nm=some o/\θ' nm=θ nm:=λnm o h1 h2 ho=>by
  by_cases h3:nm=p
  ·simp[hown,h3,hpq]at ho
  ·simp[hown,h1,h2,h3]at ho;exact⟨h3,ho,by simp[hθ,h1,h3]⟩
 have hnone:∀ nm,own' nm≠none->∃ nm',σ.own nm'≠none/\θ' nm=θ nm'/\(nm=q->nm'=p)/\(nm≠q->nm'=nm/\nm≠p):=λnm hn=>by
  grind
 have hq':own' q=some (.tok sz e m):=by simp[hown]
 have hr':own' r=some (.arr s1 e1 n F'):=by simp[hown,Ra hqr,Ra hpr]
 have hrel:=h.chg.rel
 have hθr:θ' r=θ r:=by simp[hθ,Ra hqr,Ra hpr]
 have hθq:θ' q=θ p:=by simp[hθ]
 refine⟨h.size,h.defers,λt=>hT _ _ (hfree t) (h.slots t),{ h.chg with le:=λnm o ho=>?_,rel:=⟨λnm e0 cells ho=>?_,λnm s' e' m' ho g c hg=>?_,λnm nm' g c c' ho ho' hg hg'=>?_,λnm s' e' m' f' ho=>?_,λnm x ho=>?_,λnm s' m' ho hnn=>?_⟩,new:=λnm g c ho hg=>?_ }⟩
 ·obtain⟨o',ho',hl⟩:=h.chg.le nm o ho
  have hnp:nm≠p:=by rintro rfl;rw[hp0]at ho;cases ho
  obtain⟨o'',h1,h2⟩:=hkeep nm o' hnp ho';exact⟨o'',h1,hl.trans h2⟩
 ·replace ho:own' nm=some _:=ho
  have h1:nm≠q:=by rintro rfl;rw[hq']at ho;cases ho
  have h2:nm≠r:=by rintro rfl;rw[hr']at ho;cases ho
  obtain⟨h3,h4,h5⟩:=hinv nm _ h1 h2 ho;obtain⟨g,c,vs,r1,r2,r3,r4,r5,r6⟩:=hrel.row nm e0 cells h4;exact⟨g,c,vs,h5.trans r1,r2,r3,r4,λj hj=>hT _ _ (hrows nm _ h2 h4 j hj) (r5 j hj),r6⟩
 ·replace ho:own' nm=some _:=ho
  by_cases h1:nm=q
  ·subst h1;rw[hq']at ho;simp only[Ao,Own.tok.injEq]at ho;obtain⟨rfl,rfl,rfl⟩:=ho;exact hrel.tok p _ _ _ hp g c (hθq.symm.trans hg)
  ·have h2:nm≠r:=by rintro rfl;rw[hr']at ho;cases ho
   obtain⟨h3,h4,h5⟩:=hinv nm _ h1 h2 ho;exact hrel.tok nm _ _ _ h4 g c (h5.symm.trans hg)
 ·obtain⟨n1,a1,a2,a3,a4⟩:=hnone nm ho;obtain⟨n2,b1,b2,b3,b4⟩:=hnone nm' ho';have:=hrel.inj n1 n2 g c c' a1 b1 (a2.symm.trans hg) (b2.symm.trans hg')
  by_cases h1:nm=q
  ·by_cases h2:nm'=q
   ·rw[h1,h2]
   ·have:=a3 h1;have:=b4 h2;omega
  ·by_cases h2:nm'=q
   ·have:=a4 h1;have:=b3 h2;omega
   ·have:=a4 h1;have:=b4 h2;omega
 ·replace ho:own' nm=some _:=ho
  have h1:nm≠q:=by rintro rfl;rw[hq']at ho;cases ho
  by_cases h2:nm=r
  ·subst h2;rw[hr']at ho;simp only[Ao,Own.arr.injEq]at ho;obtain⟨rfl,rfl,rfl,rfl⟩:=ho;exact AO (hrel.arr nm _ _ _ _ hr) hθr hlen hF
  ·obtain⟨h3,h4,h5⟩:=hinv nm _ h1 h2 ho;exact AO (hrel.arr nm _ _ _ _ h4) h5 (λ_ _=>rfl) (λi j v hi hj hv=>hT _ _ (hrows nm _ h2 h4 i j hi hj) hv)
 ·replace ho:own' nm=some _:=ho
  have h1:nm≠q:=by rintro rfl;rw[hq']at ho;cases ho
  have h2:nm≠r:=by rintro rfl;rw[hr']at ho;cases ho
  obtain⟨h3,h4,h5⟩:=hinv nm _ h1 h2 ho;exact Mh (hrel.obj nm _ h4) h5 (λ_ _ _=>rfl) (λ_ _ _ _ h=>h) (λ_ hh=>hh.al (hrows nm _ h2 h4) (λ_ _ h=>h) (λ_ _ _=>rfl) λv y hy hv=>hT v y hy hv) Vs
 ·replace ho:own' nm=some _:=ho
  by_cases h1:nm=q
  ·subst h1;rw[hq']at ho;simp only[Ao,Own.tok.injEq]at ho;obtain⟨rfl,he,rfl⟩:=ho;exact hrel.tok8 p _ _ (by rw[hp,he]) (hθq.symm.trans hnn)
  ·have h2:nm≠r:=by rintro rfl;rw[hr']at ho;cases ho
   obtain⟨h3,h4,h5⟩:=hinv nm _ h1 h2 ho;exact hrel.tok8 nm _ _ h4 (h5.symm.trans hnn)
 ·obtain⟨n1,a1,a2,_,_⟩:=hnone nm ho;exact h.chg.new n1 g c a1 (a2.symm.trans hg)
theorem hZ(h:Rel Γ σ I θ a w){r s1 n:Nat}{e1:TypeId}{F F':Nat->List AV}(hr:σ.own r=some (.arr s1 e1 n F)){S:Nat->Option (Nat×TypeId×Nat)}(hS:∀ x y,S x=some y->σ.own x=none)
  (h8:∀ x sz m,S x=some (sz,EQ,m)->m=0) {own':Nat->Option Own} {θ':Nat->Option (Nat×Nat)}
  (hown:own'=λx=>match S x with|some y=>some (.tok y.1 y.2.1 y.2.2)|none=>if x=r then some (.arr s1 e1 n F') else σ.own x)
  (hθ:θ'=λx=>match S x with|some _=>none|none=>θ x) (hlen:∀ j,j<n->(F' j).length=(F j).length)
  (hF:∀ j c v,j<n->c<s1->Rep I σ.own θ w v ((F j).getD c .any)->Rep I own' θ' w v ((F' j).getD c .any)) :
  Rel Γ ⟨σ.tmp,own'⟩ I θ' a w:=by
 have hSn:∀ nm o,σ.own nm=some o->S nm=none:=λnm o ho=>by
  cases hx:S nm with
  | none=>rfl
  | some y=>rw[hS nm y hx]at ho;cases ho
 have hkeep:∀ nm o,σ.own nm=some o->∃ o',own' nm=some o'/\OwnLe o (θ nm) o' (θ' nm):=λnm o ho=>by
  have h1:=hSn nm o ho
  by_cases hnr:nm=r
  ·subst hnr;rw[hr]at ho;obtain rfl:=OI ho;exact⟨.arr s1 e1 n F',by simp[hown,h1],by simp[hθ,h1,OwnLe]⟩
  ·exact⟨o,by simp[hown,h1,hnr,ho],by simp[hθ,h1,OwnLe.refl]⟩
 have hT:∀ v x,Rep I σ.own θ w v x->Rep I own' θ' w v x:=λv x hv=>hv.mono (λ_ _ h=>h) (λ_ _ _=>rfl) hkeep
 have hinv:∀ nm o,own' nm=some o->(∀ sz e m,o≠.tok sz e m)->nm≠r->σ.own nm=some o/\θ' nm=θ nm:=λnm o ho hn h2=>by
  cases hx:S nm with
  | none=>simp[hown,hx,h2]at ho;exact⟨ho,by simp[hθ,hx]⟩
  | some y=>simp[hown,hx]at ho;exact(hn _ _ _ ho.symm).elim
 have hold:∀ nm g c,own' nm≠none->θ' nm=some (g,c)->σ.own nm≠none/\θ nm=some (g,c):=λnm g c ho hg=>by
  cases hx:S nm with
  | some y=>simp[hθ,hx]at hg
  | none=>
   simp[hθ,hx]at hg;refine⟨?_,hg⟩
   by_cases h2:nm=r
   ·subst h2;simp[hr]
   ·simpa [hown,hx,h2] using ho
 have hSr:S r=none:=hSn r _ hr
 have hr':own' r=some (.arr s1 e1 n F'):=by simp[hown,hSr]
 have hθr:θ' r=θ r:=by simp[hθ,hSr]
 have hrel:=h.chg.rel;refine⟨h.size,h.defers,λt=>hT _ _ (h.slots t),{ h.chg with le:=λnm o ho=>?_,rel:=⟨λnm e0 cells ho=>?_,λnm s' e' m' ho g c hg=>?_,λnm nm' g c c' ho ho' hg hg'=>?_,λnm s' e' m' f' ho=>?_,λnm x ho=>?_,λnm s' m' ho hnn=>?_⟩,new:=λnm g c ho hg=>?_ }⟩
 ·obtain⟨o',ho',hl⟩:=h.chg.le nm o ho;obtain⟨o'',h1,h2⟩:=hkeep nm o' ho';exact⟨o'',h1,hl.trans h2⟩
 ·replace ho:own' nm=some _:=ho
  have h2:nm≠r:=by rintro rfl;rw[hr']at ho;cases ho
  obtain⟨h4,h5⟩:=hinv nm _ ho (λ_ _ _ h=>by cases h) h2;obtain⟨g,c,vs,r1,r2,r3,r4,r5,r6⟩:=hrel.row nm e0 cells h4;exact⟨g,c,vs,h5.trans r1,r2,r3,r4,λj hj=>hT _ _ (r5 j hj),r6⟩
 ·replace ho:own' nm=some _:=ho;obtain⟨h1,h2⟩:=hold nm g c (by rw[ho];simp) hg
  cases hx:S nm with
  | some y=>simp[hθ,hx]at hg
  | none=>
   have h3:nm≠r:=by rintro rfl;rw[hr']at ho;cases ho
   simp[hown,hx,h3]at ho;exact hrel.tok nm _ _ _ ho g c h2
 ·obtain⟨a1,a2⟩:=hold nm g c ho hg;obtain⟨b1,b2⟩:=hold nm' g c' ho' hg';exact hrel.inj nm nm' g c c' a1 b1 a2 b2
 ·replace ho:own' nm=some _:=ho
  by_cases h2:nm=r
  ·subst h2;rw[hr']at ho;simp only[Ao,Own.arr.injEq]at ho;obtain⟨rfl,rfl,rfl,rfl⟩:=ho;exact AO (hrel.arr nm _ _ _ _ hr) hθr hlen hF
  ·obtain⟨h4,h5⟩:=hinv nm _ ho (λ_ _ _ h=>by cases h) h2;exact AO (hrel.arr nm _ _ _ _ h4) h5 (λ_ _=>rfl) (λi j v _ _ hv=>hT _ _ hv)
 ·replace ho:own' nm=some _:=ho
  have h2:nm≠r:=by rintro rfl;rw[hr']at ho;cases ho
  obtain⟨h4,h5⟩:=hinv nm _ ho (λ_ _ _ h=>by cases h) h2;exact Mh (hrel.obj nm _ h4) h5 (λ_ _ _=>rfl) (λ_ _ _ _ h=>h) (λ_ hh=>hh.mono hT) Vs
 ·replace ho:own' nm=some _:=ho
  cases hx:S nm with
  | some y=>
   simp only[hown,hx,Ao,Own.tok.injEq]at ho;obtain⟨h1,h2,h3⟩:=ho;rw[<- h3];exact h8 nm y.1 y.2.2 (by rw[hx,<- h2])
  | none=>
   have h3:nm≠r:=by rintro rfl;rw[hr']at ho;cases ho
   simp[hown,hx,h3]at ho;simp[hθ,hx]at hnn;exact hrel.tok8 nm _ _ ho hnn
 ·obtain⟨a1,a2⟩:=hold nm g c ho hg;exact h.chg.new nm g c a1 a2
inductive OwnsFr (p:Tag->Bool) (r:Nat):List (Nat×Own)->Prop
 | nil:OwnsFr p r []
 | row {nm:Nat} {e:TypeId} {cells:List AV} {l:List (Nat×Own)} (h:AV.freeAll p cells=true) (t:OwnsFr p r l):OwnsFr p r ((nm,.row e cells)::l)
 | here {o:Own} {l:List (Nat×Own)} (t:OwnsFr p r l):OwnsFr p r ((r,o)::l)
 | arr {nm sz m:Nat} {e:TypeId} {f:Nat->List AV} {l:List (Nat×Own)} (h:∀ j,AV.freeAll p (f j)=true) (t:OwnsFr p r l):OwnsFr p r ((nm,.arr sz e m f)::l)
 | tok {nm sz m:Nat} {e:TypeId} {l:List (Nat×Own)} (t:OwnsFr p r l):OwnsFr p r ((nm,.tok sz e m)::l)
 | obj {nm:Nat} {x:AObj} {l:List (Nat×Own)} (t:OwnsFr p r l) (h:x.Al (λy=>y.free p=true):=by first|trivial|rfl):OwnsFr p r ((nm,.obj x)::l)
theorem OwnsFr.get{p:Tag->Bool}{r q:Nat}(hp:∀ x:AV,x.free p=true->Fr q x){l:List (Nat×Own)}(h:OwnsFr p r l){nm:Nat}{o:Own}(hn:nm≠r)(ho:Aj l nm=some o):nJ q o:=by
 induction h with
 | nil=>cases ho
 | @row k e cells l h _ ih=>
  simp only[Aj]at ho
  cases hb:Nat.beq k nm with
  | true=>rw[hb]at ho;simp only[Ah,Ao]at ho;subst ho;exact λj _=>hp _ (Mc h j)
  | false=>grind
 | @here o' l _ ih=>
  simp only[Aj]at ho
  cases hb:Nat.beq r nm with
  | true=>simp_all
  | false=>grind
 | @arr k sz m e f l h _ ih=>
  simp only[Aj]at ho
  cases hb:Nat.beq k nm with
  | true=>rw[hb]at ho;simp only[Ah,Ao]at ho;subst ho;exact λi j _ _=>hp _ (Mc (h i) j)
  | false=>grind
 | @tok k sz m e l _ ih=>
  simp only[Aj]at ho
  cases hb:Nat.beq k nm with
  | true=>rw[hb]at ho;simp only[Ah,Ao]at ho;subst ho;trivial
  | false=>grind
 | @obj k x l _ h ih=>
  simp only[Aj]at ho
  cases hb:Nat.beq k nm with
  | true=>rw[hb]at ho;simp only[Ah,Ao]at ho;subst ho;exact h.imp λy hy=>hp y hy
  | false=>grind
theorem OwnsFr.sto{p:Tag->Bool}{r q:Nat}(hp:∀ x:AV,x.free p=true->Fr q x){st:St}(h:OwnsFr p r st.own){nm:Nat}{o:Own}(hn:nm≠r)(ho:st.sto.own nm=some o):nJ q o:=by
 by_cases hlt:nm<Bn
 ·exact h.get hp hn ((Ba hlt).symm.trans ho)
 ·obtain⟨sz,e,m,rfl⟩:=Xq hlt ho
  trivial
theorem kN{p:Tag->Bool}{q:Nat}(hp:∀ x:AV,x.free p=true->Fr q x){st:St}(h:st.tmps.all (λx=>x.2.free p)=true)(t:Nat):Fr q (st.sto.tmp t):=by
 show Fr q (match Aj _ t with|some x=>x|none=>.any)
 cases hx:Aj _ t with
 | none=>exact hp _ rfl
 | some x=>exact hp _ (zzL27.1 h _ (JM hx))
def mX{α:Type}(l:List (Nat×α))(k:Nat):List (Nat×α):=l.filter λp=>!Nat.beq p.1 k
theorem lp{α:Type}(l:List (Nat×α))(k n:Nat):Aj (mX l k) n=if k=n then none else Aj l n:=by
 induction l with
 | nil=>simp[mX,Aj]
 | cons p l ih=>
  obtain⟨m,x⟩:=p
  have ih':Aj (List.filter _ l) n=if k=n then none else Aj l n:=ih
  simp only[mX,List.filter_cons,Aj]
  cases hb:Nat.beq m k with
  | true=>
   have:=C4 hb;subst this;simp only[Dq,FT,I5,ih']
   by_cases h:m=n
   ·simp[h]
   ·have:Nat.beq m n=false:=by cases hb:Nat.beq m n with|false=>rfl|true=>simp_all
    simp[ this]
  | false=>
   simp only[J9,Mw,Aj,ih']
   cases hb':Nat.beq m n with
   | true=>
    grind
   | false=>simp
theorem uM{I:Nat->Nat->Prop}{own own':Nat->Option Own}{θ θ':Nat->Option (Nat×Nat)}{w:World}{v:Value}{sz n b i p q m:Nat}{e:TypeId}{f:Nat->List AV}(hv:Rep I own θ w v (.slice sz n f (.fam b i)))(hb:Sp b i=p)(hp:own p=some (.tok sz e m))
  (hq:own' q=some (.tok sz e m)) (hθ:θ' q=θ p):Rep I own' θ' w v (.slice sz n f (.own q)):=by
 cases hv with
 | val v x h =>  cases h
 | fam _ _ _ e' m a n' cap f hi' ho' hm hv' h'=>
  rw[hb]at ho' hv';rw[hp]at ho';obtain⟨_,rfl,rfl⟩:=ho';exact .own q sz e _ _ _ _ _ hq hm (λhh=>by rw[hθ];exact hv' hh) h'
theorem eI{I:Nat->Nat->Prop}{own own':Nat->Option Own}{θ θ':Nat->Option (Nat×Nat)}{w:World}{v:Value}{sz n b i p:Nat}{f:Nat->List AV}(hv:Rep I own θ w v (.slice sz n f (.fam b i)))(hb:Sp b i=p)(ho:i<Bn->own' p=own p)(hθ:i<Bn->θ' p=θ p):Rep I own' θ' w v (.slice sz n f (.fam b i)):=by
 cases hv with
 | val v x h =>  cases h
 | fam _ _ _ e' m a n' cap f hi' ho' hm hv' h'=>
  rw[hb]at ho' hv';exact .fam b i sz e' m _ _ _ _ hi' (by grind) hm (λhh=>by grind) h'
theorem qS{I:Nat->Nat->Prop}{own own':Nat->Option Own}{θ θ':Nat->Option (Nat×Nat)}{w:World}{v:Value}{sz n b i p q m:Nat}{e:TypeId}{f:Nat->List AV}(hv:Rep I own θ w v (.slice sz n f (.own p)))(hb:Sp b i=q)(hi:i<Bn)(hp:own p=some (.tok sz e m))
  (hq:own' q=some (.tok sz e m)) (hθ:θ' q=θ p):Rep I own' θ' w v (.slice sz n f (.fam b i)):=by
 cases hv with
 | val v x h =>  cases h
 | own _ _ e' m' a n' cap f ho' hm' hv' h'=>
  rw[hp]at ho';obtain⟨_,rfl,rfl⟩:=ho';exact .fam b i sz e m _ _ _ _ hi (by rw[hb];exact hq) hm' (λhh=>by grind) h'
theorem uL{I:Nat->Nat->Prop}{own own':Nat->Option Own}{θ θ':Nat->Option (Nat×Nat)}{w:World}{v:Value}{sz n b i q:Nat}{e:TypeId}{f:Nat->List AV}(hv:Rep I own θ w v (.slice sz n f .exact))(hb:Sp b i=q)(hi:i<Bn)(hq:own' q=some (.tok sz e n))(hθ:θ' q=none) :
  Rep I own' θ' w v (.slice sz n f (.fam b i)):=by
 cases hv with
 | val v x h =>  cases h
 | exact a n' s' f h'=>exact .fam b i sz e _ _ _ _ _ hi (by rw[hb];exact hq) (zzL6 _) (λ_=>by rw[hb,hθ]) h'
section
variable {α:Type} {st:St} {r b k n sz:Nat} {e1:TypeId}
theorem iF{I:Nat->Nat->Prop}{own:Nat->Option Own}{θ:Nat->Option (Nat×Nat)}{w:World}(h:Jk I own θ w){s1:Nat}{F:Nat->List AV}(hr:own r=some (.arr s1 e1 n F)){i:Nat}(hi:i<n):i<Bn:=by
 have hm:maxLen<Bn:=by decide
 obtain⟨h1,h2⟩:=h.arr r _ _ _ _ hr
 cases hx:θ r with
 | none=>have:=h1 hx;omega
 | some y=>grind
theorem jq(enc:α->List AV)(d:α)(L:List (List α))(i:Nat)(e:TypeId)(hr:Aj st.own r=some (.arr 1 e1 n (Ox sz enc d L (Tag.fam b))))(hb:Aj st.fam b=some ⟨sz,e,Nm L⟩)(hk:Aj st.own k=none)(hn:n=L.length)(hi:i<L.length)
  (ht:st.tmps.all (λx=>x.2.free (dc b))=true) (ho:OwnsFr (dc b) r st.own) (hlr:Nat.blt r Bn=true:=by rfl) (hlk:Nat.blt k Bn=true:=by rfl) :
  Le Γ st ⟨st.tmps,Ec (Ec st.own r (.arr 1 e1 n (Ox sz enc d L (Ht b i k)))) k (.tok sz e (L.getD i []).length),Ec st.fam b ⟨sz,e,AY L i⟩⟩:=by
 intro I θ a w h
 have hlr:r<Bn:=by simpa [K9] using hlr
 have hlk:k<Bn:=by simpa [K9] using hlk
 have hr':st.sto.own r=some _:=(Ba hlr).trans hr;have hk':st.sto.own k=none:=(Ba hlk).trans hk;have hib:i<Bn:=iF h.chg.rel hr' (by omega)
 have hp:st.sto.own (Sp b i)=some (.tok sz e (L.getD i []).length):=by
  show De _ _ _=_
  rw[PR hib,hb];simp[Nm,hi]
 have hown:(⟨st.tmps,Ec (Ec st.own r (.arr 1 e1 n (Ox sz enc d L (Ht b i k)))) k (.tok sz e (L.getD i []).length),Ec st.fam b ⟨sz,e,AY L i⟩⟩:St).sto.own =
   λx=>if x=k then some (.tok sz e (L.getD i []).length) else if x=Sp b i then none else if x=r then some (.arr 1 e1 n (Ox sz enc d L (Ht b i k))) else st.sto.own x:=by
  funext x
  show De (Ec (Ec st.own r _) k _) (Ec st.fam b _) x=if x=k then _ else if x=Sp b i then none else if x=r then _ else De st.own st.fam x
  by_cases hx:x<Bn
  ·have h1:x≠Sp b i:=λhe=>by rw[he]at hx;exact Rn b i hx
   rw[Ba hx,Ba hx,H9,H9];simp only[Sz (a:=k),Sz (a:=r),h1,I5]
  ·have h1:x≠k:=by rintro rfl;exact hx hlk
   have h2:x≠r:=by rintro rfl;exact hx hlr
   rw[Ds hx,Ds hx,H9,if_neg h1,if_neg h2]
   by_cases hd:b=x / Bn-1
   ·have hxe:=oa hx;rw[<- hd]at hxe
    by_cases hm:x % Bn=i
    ·rw[hm]at hxe;rw[if_pos hd,if_pos hxe,hm];simp[AY]
    ·have h3:x≠Sp b i:=λhe=>hm (by rw[he,Un hib]);rw[if_pos hd,if_neg h3,<- hd,hb];simp[AY,hm]
   ·have h3:x≠Sp b i:=λhe=>hd (by rw[he,Xk hib]);rw[if_neg hd,if_neg h3]
 let θ' :=λx=>if x=k then θ (Sp b i) else if x=Sp b i then none else θ x
 refine⟨I,θ',?_⟩;have hrr:=RW (θ':=θ') h hp hk' hr' (by cases hx:Γ.own0 (Sp b i) with|none=>rfl|some o=>exact(Rn b i (Γ.lt0 _ (by rw[hx];simp))).elim)
  (λt=>kN (λx hx=>pK hib hx) ht t) (λnm o hne ho'=>ho.sto (λx hx=>pK hib hx) hne ho') hown rfl (λj _=>rfl) (λj c v hj hc hv=>?_)
 ·exact hrr
 ·obtain rfl:c=0:=by omega
  show Rep I _ θ' w v (.slice sz _ _ (Ht b i k j))
  cases hji:Nat.beq j i with
  | true=>
   have:=C4 hji;subst this;rw[show Ht b j k j = .own k by simp[Ht]];exact uM hv rfl hp ((congrFun hown k).trans (if_pos rfl)) (if_pos rfl)
  | false=>
   have hne:j≠i:=by rintro rfl;simp at hji
   rw[show Ht b i k j = .fam b j by simp[Ht,hji]];have h3:j<Bn->Sp b j≠Sp b i:=λhi' he=>hne (by rw[<- Un (b:=b) hi',he,Un hib])
   have h4:Sp b j≠k:=λhe=>by rw[<- he]at hlk;exact Rn b j hlk
   have h5:Sp b j≠r:=λhe=>by rw[<- he]at hlr;exact Rn b j hlr
   exact eI hv rfl (λhi'=>(congrFun hown _).trans ((if_neg h4).trans ((if_neg (h3 hi')).trans (if_neg h5)))) (λhi'=>(if_neg h4).trans (if_neg (h3 hi')))
theorem pd(enc:α->List AV)(d:α)(L:List (List α))(i:Nat)(x:List α)(e:TypeId){F:Nat->List AV}{m:Nat}(hr:Aj st.own r=some (.arr 1 e1 n F))(hF:∀ j,j<n->F j=Ox sz enc d (L.set i x) (Ht b i k) j)(hb:Aj st.fam b=some ⟨sz,e,AY L i⟩)(hk:Aj st.own k=some (.tok sz e m))(hm:m=x.length)(hn:n=L.length)(hi:i<L.length)
  (ht:st.tmps.all (λx=>x.2.free (jt k))=true) (ho:OwnsFr (jt k) r st.own) (h0:Γ.own0 k=none) (hlr:Nat.blt r Bn=true:=by rfl) (hlk:Nat.blt k Bn=true:=by rfl) :
  Le Γ st ⟨st.tmps,mX (Ec st.own r (.arr 1 e1 n (Ox sz enc d (L.set i x) (Tag.fam b)))) k,Ec st.fam b ⟨sz,e,Nm (L.set i x)⟩⟩:=by
 intro I θ a w h
 have hlr:r<Bn:=by simpa [K9] using hlr
 have hlk:k<Bn:=by simpa [K9] using hlk
 have hr':st.sto.own r=some (.arr 1 e1 n F):=(Ba hlr).trans hr;have hk':st.sto.own k=some (.tok sz e m):=(Ba hlk).trans hk;have hib:i<Bn:=iF h.chg.rel hr' (by omega)
 have hp:st.sto.own (Sp b i)=none:=by
  show De _ _ _=_
  rw[PR hib,hb];simp[AY]
 have hgi:(L.set i x).getD i []=x:=by simp[List.getD,hi]
 have hgj:∀ j,j≠i->(L.set i x).getD j []=L.getD j []:=λj hj=>by simp[List.getD,Ra hj]
 have hown:(⟨st.tmps,mX (Ec st.own r (.arr 1 e1 n (Ox sz enc d (L.set i x) (Tag.fam b)))) k,Ec st.fam b ⟨sz,e,Nm (L.set i x)⟩⟩:St).sto.own =
   λy=>if y=Sp b i then some (.tok sz e m) else if y=k then none else if y=r then some (.arr 1 e1 n (Ox sz enc d (L.set i x) (Tag.fam b))) else st.sto.own y:=by
  funext y
  show De (mX (Ec st.own r _) k) (Ec st.fam b _) y=if y=Sp b i then _ else if y=k then none else if y=r then _ else De st.own st.fam y
  by_cases hx:y<Bn
  ·have h1:y≠Sp b i:=λhe=>by rw[he]at hx;exact Rn b i hx
   rw[Ba hx,Ba hx,lp,H9];simp only[Sz (a:=k),Sz (a:=r),h1,I5]
  ·have h1:y≠k:=by rintro rfl;exact hx hlk
   have h2:y≠r:=by rintro rfl;exact hx hlr
   rw[Ds hx,Ds hx,H9,if_neg h1,if_neg h2]
   by_cases hd:b=y / Bn-1
   ·have hxe:=oa hx;rw[<- hd]at hxe
    by_cases hm':y % Bn=i
    ·rw[hm']at hxe;rw[if_pos hd,if_pos hxe,hm',An];simp only[Nm,Db,hi,Mw,hgi,hm,FW]
    ·have h3:y≠Sp b i:=λhe=>hm' (by rw[he,Un hib]);rw[if_pos hd,if_neg h3,<- hd,hb];simp only[An,AY,hm',I5,Nm,Db,hgj _ hm']
   ·have h3:y≠Sp b i:=λhe=>hd (by rw[he,Xk hib]);rw[if_neg hd,if_neg h3]
 let θ':Nat->Option (Nat×Nat):=λy=>if y=Sp b i then θ k else if y=k then none else θ y
 refine⟨I,θ',?_⟩;have hrr:=RW (θ':=θ') h hk' hp hr' h0 (λt=>kN (λx hx=>pL hlk hx) ht t) (λnm o hne ho'=>ho.sto (λx hx=>pL hlk hx) hne ho') hown rfl
  (λj hj=>by rw[hF j hj];rfl) (λj c v hj hc hv=>?_)
 ·exact hrr
 ·obtain rfl:c=0:=by omega
  rw[hF j hj]at hv;replace hv:Rep I st.sto.own θ w v (.slice sz ((L.set i x).getD j []).length _ (Ht b i k j)):=hv
  cases hji:Nat.beq j i with
  | true=>
   have:=C4 hji;subst this;rw[show Ht b j k j = .own k by simp[Ht]]at hv;exact qS hv rfl hib hk' ((congrFun hown _).trans (if_pos rfl)) (if_pos rfl)
  | false=>
   have hne:j≠i:=by rintro rfl;simp at hji
   rw[show Ht b i k j = .fam b j by simp[Ht,hji]]at hv;have h3:j<Bn->Sp b j≠Sp b i:=λhi' he=>hne (by rw[<- Un (b:=b) hi',he,Un hib])
   have h4:Sp b j≠k:=λhe=>by rw[<- he]at hlk;exact Rn b j hlk
   have h5:Sp b j≠r:=λhe=>by rw[<- he]at hlr;exact Rn b j hlr
   exact eI hv rfl (λhi'=>(congrFun hown _).trans ((if_neg (h3 hi')).trans ((if_neg h4).trans (if_neg h5)))) (λhi'=>(if_neg (h3 hi')).trans (if_neg h4))
theorem dG(enc:α->List AV)(d:α)(L:List (List α))(e:TypeId)(hr:Aj st.own r=some (.arr 1 e1 n (Ox sz enc d L (λ_=>.exact))))(hb:Aj st.fam b=none)(hn:n=L.length)(h8:e=EQ->∀ j,(L.getD j []).length=0)(hlr:Nat.blt r Bn=true:=by rfl) :
  Le Γ st ⟨st.tmps,Ec st.own r (.arr 1 e1 n (Ox sz enc d L (Tag.fam b))),Ec st.fam b ⟨sz,e,Nm L⟩⟩:=by
 intro I θ a w h
 have hlr:r<Bn:=by simpa [K9] using hlr
 have hr':st.sto.own r=some _:=(Ba hlr).trans hr
 let S :=λx=>if x<Bn then none else if b=x / Bn-1 then(Nm L (x % Bn)).map λm=>(sz,e,m) else none
 have hown:(⟨st.tmps,Ec st.own r (.arr 1 e1 n (Ox sz enc d L (Tag.fam b))),Ec st.fam b ⟨sz,e,Nm L⟩⟩:St).sto.own =
   λx=>match S x with|some y=>some (.tok y.1 y.2.1 y.2.2)|none=>if x=r then some (.arr 1 e1 n (Ox sz enc d L (Tag.fam b))) else st.sto.own x:=by
  funext x
  show De (Ec st.own r _) (Ec st.fam b _) x=match S x with|some y=>_|none=>if x=r then _ else De st.own st.fam x
  by_cases hx:x<Bn
  ·have:S x=none:=by simp[S,hx]
   rw[Ba hx,Ba hx,H9,this];simp only[Sz (a:=r)]
  ·have h2:x≠r:=by rintro rfl;exact hx hlr
   rw[Ds hx,Ds hx,H9]
   by_cases hd:b=x / Bn-1
   ·have:S x=(Nm L (x % Bn)).map λm=>(sz,e,m):=by simp only[S,hx,I5,if_pos hd]
    rw[if_pos hd,this,if_neg h2,<- hd,hb];simp only[An]
    cases Nm L (x % Bn)<;>rfl
   ·grind
 have hS:∀ x y,S x=some y->st.sto.own x=none:=λx y hx=>by
  by_cases h1:x<Bn
  ·simp[S,h1]at hx
  ·by_cases hd:b=x / Bn-1
   ·show De _ _ x=none
    rw[Ds h1,<- hd,hb];rfl
   ·grind
 refine⟨I,_,hZ h hr' hS (λx s m hx=>?_) hown rfl (λj _=>rfl) (λj c v hj hc hv=>?_)⟩
 ·by_cases h1:x<Bn
  ·simp[S,h1]at hx
  ·by_cases hd:b=x / Bn-1
   ·simp only[S,h1,I5,if_pos hd]at hx;obtain⟨m',hm',he⟩:=zzL80.1 hx;unfold Nm at hm'
    split at hm'
    ·grind
    ·cases hm'
   ·grind
 ·obtain rfl:c=0:=by omega
  have hjb:j<Bn:=iF h.chg.rel hr' hj
  have hSj:S (Sp b j)=some (sz,e,(L.getD j []).length):=by
   simp only[S,Rn b j,I5,Xk hjb,Mw,Un hjb,Nm];rw[if_pos (by omega)];rfl
  exact uL hv rfl hjb ((congrFun hown _).trans (by rw[hSj])) (by rw[hSj])
end
end
theorem WI{α:Type}{sz b i k:Nat}{e:α->List AV}{d:α}{l:List α}:AVle (AV.list sz e d l (Ht b i k i)) (AV.list sz e d l (.own k)):=by
 have:Ht b i k i = .own k:=by simp[Ht]
 rw[this];exact AVle.refl _
theorem eC{α:Type}{sz b i k k0:Nat}{e:α->List AV}{d:α}{L:List (List α)}{x:List α}{n:Nat}{keep:Nat->Bool}(hi:i<L.length)(hk:keep k=true)(hb:keep b=true) :
  ∀ j,j<n->AV.eraseAll keep (Fa (Ox sz e d L (Ht b i k0)) i 0 [AV.list sz e d x (.own k)] j)=Ox sz e d (L.set i x) (Ht b i k) j:=λj _=>by
 unfold Fa
 cases hji:Nat.beq j i with
 | true=>
  have:=C4 hji;subst this;simp[Ox,AV.eraseAll,AV.erase,AV.list,Ht,hk, hi]
 | false=>
  have hne:i≠j:=by rintro rfl;simp at hji
  simp[Ox,AV.eraseAll,AV.erase,AV.list,Ht,hji,hb, hne]
theorem dA{α:Type}{sz n:Nat}{e:α->List AV}{d:α}{keep:Nat->Bool}:∀ k,k<n->AVleL (AV.eraseAll keep [.slice 0 0 (λ_=>[]) .exact]) (Ox sz e d (List.replicate n []) (λ_=>.exact) k):=λk hk=>by
 have:(List.replicate n ([]:List α)).getD k []=[]:=by simp[ hk]
 unfold Ox;rw[this];exact .cons Eh .nil
mutual
def AV.freeN(r:Nat):AV->Bool
 | .vsl nm _=>!Nat.beq nm r
 | .vpt nm _ _ _=>!Nat.beq nm r
 | .vsub nm _ _ _=>!Nat.beq nm r
 | .clo _ xs ys=>AV.freeNAll r xs&&AV.freeNAll r ys
 | .agg cs=>AV.freeNAll r cs
 | .rpo cs=>AV.freeNAll r cs
 | .tuple cs=>AV.freeNAll r cs
 | .cond _ x=>x.freeN r
 | _=>true
def AV.freeNAll(r:Nat):List AV->Bool
 | []=>true
 | x::l=>x.freeN r&&AV.freeNAll r l
end
theorem Jb{r:Nat}{l:List AV}(h:AV.freeNAll r l=true)(j:Nat):(l.getD j .any).freeN r=true:=by
 induction l generalizing j with
 | nil=>simp[AV.freeN]
 | cons x l ih=>
  simp only[AV.freeNAll,A6]at h
  cases j with
  | zero=>simpa using h.1
  | succ j=>simpa using ih h.2 j
theorem ma{I:Nat->Nat->Prop}{own own':Nat->Option Own}{θ:Nat->Option (Nat×Nat)}{w:World}{v:Value}{x:AV}{r:Nat}(h:Rep I own θ w v x)(hx:x.freeN r=true)(hr:∃ sz e m f,own r=some (.arr sz e m f))
  (ho:∀ nm,nm≠r->own' nm=own nm):Rep I own' θ w v x:=by
 have hne:∀{nm o},own nm=some o->(∀ sz e m f,o≠.arr sz e m f)->own' nm=some o:=λ{nm o} hn hh=>by
  grind
 have hbq:∀{nm:Nat},(!Nat.beq nm r)=true->nm≠r:=λh e=>by subst e;simp at h
 induction h with
 | val v x h=>exact .val v x h
 | exact a n sz f h=>exact .exact a n sz f h
 | own nm sz e m a n cap f hn hm hv h=>exact .own nm sz e m a n cap f (hne hn (λ_ _ _ _ h=>by cases h)) hm hv h
 | fam b i sz e m a n cap f hi hn hm hv h=>exact .fam b i sz e m a n cap f hi (hne hn (λ_ _ _ _ h=>by cases h)) hm hv h
 | ptr nm off e cells g c hn hg=>exact .ptr nm off e _ g c (hne hn (λ_ _ _ _ h=>by cases h)) hg
 | vsl nm sz e m f a n cap hn hm hcap hmax hnn hv=>exact .vsl nm sz e m f a n cap ((ho nm (hbq hx)).trans hn) hm hcap hmax hnn hv
 | vpt nm sz e m f n i j ad hn hm hi hv=>exact .vpt nm sz e m f n i j ad ((ho nm (hbq hx)).trans hn) hm hi hv
 | clo f fs cs xs ys hl hl' _ _ ih ih'=>
  simp only[AV.freeN,A6]at hx;exact .clo f fs cs xs ys hl hl' (λj hj=>ih j hj (Jb hx.1 j)) (λj hj=>ih' j hj (Jb hx.2 j))
 | optr nm mm x g c hn hg=>exact .optr nm mm x g c (hne hn (λ_ _ _ _ h=>by cases h)) hg
 | omap nm x hn=>exact .omap nm x (hne hn (λ_ _ _ _ h=>by cases h))
 | vsub nm sz e m f n lo hi a cap hn hm hlo hhi hcap hmax hnn hv=>exact .vsub nm sz e m f n lo hi a cap ((ho nm (hbq hx)).trans hn) hm hlo hhi hcap hmax hnn hv
 | cond v c x _ h' ih=>exact .cond v c x (λhc=>ih hc hx) h'
 | agg vs cs hl h1 _ ih=>exact .agg vs cs hl h1 (λj hj=>ih j hj (Jb hx j))
 | rpo a cells us hs hI' hc h1 _ ih=>exact .rpo a _ us hs hI' hc h1 (λj hj=>ih j hj (Jb hx j))
 | tuple vs cs hl _ ih=>exact .tuple vs cs hl (λj hj=>ih j hj (Jb hx j))
inductive OwnsFrN (r:Nat):List (Nat×Own)->Prop
 | nil:OwnsFrN r []
 | row {nm:Nat} {e:TypeId} {cells:List AV} {l:List (Nat×Own)} (h:AV.freeNAll r cells=true) (t:OwnsFrN r l):OwnsFrN r ((nm,.row e cells)::l)
 | arr {nm sz m:Nat} {e:TypeId} {f:Nat->List AV} {l:List (Nat×Own)} (h:∀ j,AV.freeNAll r (f j)=true) (t:OwnsFrN r l):OwnsFrN r ((nm,.arr sz e m f)::l)
 | tok {nm sz m:Nat} {e:TypeId} {l:List (Nat×Own)} (t:OwnsFrN r l):OwnsFrN r ((nm,.tok sz e m)::l)
 | obj {nm:Nat} {x:AObj} {l:List (Nat×Own)} (t:OwnsFrN r l) (h:x.Al (λy=>y.freeN r=true):=by first|trivial|rfl):OwnsFrN r ((nm,.obj x)::l)
def xi(r:Nat):Own->Prop
 | .row _ cells=>AV.freeNAll r cells=true
 | .arr _ _ _ f=>∀ j,AV.freeNAll r (f j)=true
 | .obj x=>x.Al (λy=>y.freeN r=true)
 | .tok ..=>True
theorem OwnsFrN.get{r:Nat}{l:List (Nat×Own)}(h:OwnsFrN r l){nm:Nat}{o:Own}(ho:Aj l nm=some o):xi r o:=by
 induction h with
 | nil=>cases ho
 | @row k e cells l h _ ih=>
  simp only[Aj]at ho
  cases hb:Nat.beq k nm with
  | true=>rw[hb]at ho;simp only[Ah,Ao]at ho;subst ho;exact h
  | false=>grind
 | @arr k sz m e f l h _ ih=>
  simp only[Aj]at ho
  cases hb:Nat.beq k nm with
  | true=>rw[hb]at ho;simp only[Ah,Ao]at ho;subst ho;exact h
  | false=>grind
 | @tok k sz m e l _ ih=>
  simp only[Aj]at ho
  cases hb:Nat.beq k nm with
  | true=>rw[hb]at ho;simp only[Ah,Ao]at ho;subst ho;trivial
  | false=>grind
 | @obj k x l _ h ih=>
  simp only[Aj]at ho
  cases hb:Nat.beq k nm with
  | true=>rw[hb]at ho;simp only[Ah,Ao]at ho;subst ho;exact h
  | false=>grind
theorem dI{Γ:H6}{st:St}{t r s n k:Nat}{e:TypeId}{f:Nat->List AV}(hs:st.get t = .vsub r n 0 k)(hr:Aj st.own r=some (.arr s e n f))(hk:k<=n)
  (ht:(st.tmps.all λx=>Nat.beq x.1 t || x.2.freeN r)=true) (ho:OwnsFrN r st.own) (h0:Γ.own0 r=none) (hlt:Nat.blt r Bn=true:=by rfl) (hB:oH e=false:=by rfl) :
  Le Γ st ⟨Ec st.tmps t (.vsl r k),Ec st.own r (.arr s e k f),st.fam⟩:=by
 intro I θ a w h
 have hlt:r<Bn:=by simpa [K9] using hlt
 have hr':st.sto.own r=some (.arr s e n f):=(Ba hlt).trans hr
 have hown:(⟨Ec st.tmps t (.vsl r k),Ec st.own r (.arr s e k f),st.fam⟩:St).sto.own=Au st.sto.own r (.arr s e k f):=by
  funext x
  show De (Ec st.own r _) _ x=_
  rw[L8 hlt];simp only[Au]
  by_cases hx:r=x
  ·subst hx;simp
  ·simp[hx,Ra hx];rfl
 have hsame:∀ nm,nm≠r->Au st.sto.own r (.arr s e k f) nm=st.sto.own nm:=λnm hn=>by simp[Au,hn]
 have hT:∀ v x,x.freeN r=true->Rep I st.sto.own θ w v x->Rep I (Au st.sto.own r (.arr s e k f)) θ w v x:=λv x hx hv=>ma hv hx ⟨_,_,_,_,hr'⟩ hsame;have hrel:=h.chg.rel
 have hrows:∀ nm o,st.sto.own nm=some o->xi r o:=λnm o hn=>by
  by_cases hl:nm<Bn
  ·exact ho.get ((Ba hl).symm.trans hn)
  ·obtain⟨_,_,_,rfl⟩:=Xq hl hn;trivial
 have hget:∀ t',(⟨Ec st.tmps t (.vsl r k),Ec st.own r (.arr s e k f),st.fam⟩:St).sto.tmp t'=if t=t' then .vsl r k else st.get t':=λt'=>by
  show(match Aj (Ec st.tmps t _) t' with|some x=>x|none=>.any)=_
  rw[H9]
  by_cases hk:t=t'
  ·simp[hk]
  ·simp[hk];rfl
 refine⟨I,θ,h.size,h.defers,λt'=>?_,?_⟩
 ·rw[hown,hget]
  split
  ·rename_i htt
   subst htt;have hv:=h.slots t
   have hv':Rep I st.sto.own θ w (a.tmps.getD t undef) (.vsub r n 0 k):=by rw[<- hs];exact hv
   obtain⟨sz,e',m,f',ad,cap,he,ho',hm,_,hhi,hcap,hmax,hn,hvv⟩:=hv'.vsub_inv;rw[hr']at ho';simp only[Ao,Own.arr.injEq]at ho';obtain⟨rfl,rfl,rfl,rfl⟩:=ho';rw[he];refine .vsl r s e k f ad _ cap (by simp[Au]) (zzL6 _) hcap hmax hn (λ_=>?_);have hz:=(hvv rfl).2 rfl
   cases hθ:θ r with
   | none=>rw[hθ]at hz;have:=(hrel.arr r _ _ _ _ hr').1 hθ;simp only at hz ⊢;omega
   | some gc=>rw[hθ]at hz;exact⟨hz.1,hz.2.resolve_right (by rw[hB];decide)⟩
  ·rename_i htt
   have hx:(st.get t').freeN r=true:=by
    unfold St.get
    cases hl:Aj st.tmps t' with
    | none=>rfl
    | some x=>
     have:=zzL27.1 ht _ (JM hl);simp only[FV]at this;rcases this with h'|h'
     ·exact(htt (C4 h').symm).elim
     ·exact h'
   exact hT _ _ hx (h.slots t')
 ·rw[hown];refine{ h.chg with le:=λnm o hno=>?_,rel:=⟨λnm e0 cells hn=>?_,λnm s' e' m' hn g c hg=>?_,λnm nm' g c c' hn hn' hg hg'=>?_,λnm s' e' m' f' hn=>?_,λnm x hn=>?_,λnm s' m' hn hnn=>?_⟩,new:=λnm g c hn hg=>?_ }
  ·obtain⟨o',ho',hl⟩:=h.chg.le nm o hno;exact⟨o',(hsame nm (by rintro rfl;rw[h0]at hno;cases hno)).trans ho',hl⟩
  ·have hne:nm≠r:=by rintro rfl;simp[Au]at hn
   rw[hsame nm hne]at hn;obtain⟨g,c,vs,r1,r2,r3,r4,r5,r6⟩:=hrel.row nm e0 cells hn;exact⟨g,c,vs,r1,r2,r3,r4,λj hj=>hT _ _ (Jb (hrows nm _ hn) j) (r5 j hj),r6⟩
  ·have hne:nm≠r:=by rintro rfl;simp[Au]at hn
   rw[hsame nm hne]at hn;exact hrel.tok nm _ _ _ hn g c hg
  ·have hx:∀ nm,Au st.sto.own r (.arr s e k f) nm≠none->st.sto.own nm≠none:=λnm hn=>by
    by_cases hne:nm=r
    ·subst hne;rw[hr'];simp
    ·rwa[hsame nm hne]at hn
   exact hrel.inj nm nm' g c c' (hx nm hn) (hx nm' hn') hg hg'
  ·by_cases hne:nm=r
   ·subst hne;simp only[Au,Mw,Ao,Own.arr.injEq]at hn;obtain⟨rfl,rfl,rfl,rfl⟩:=hn;obtain⟨q0,q1⟩:=hrel.arr nm _ _ _ _ hr';refine⟨λhθ=>by have:=q0 hθ;omega,λg c hg=>?_⟩;obtain⟨cur,p1,p2,p3,p4,p5,p6,p7⟩:=q1 g c hg;exact⟨cur,p1,by omega,p3,p4,λi hi=>p5 i (by omega),λi j hi hj=>⟨(p6 i j (by omega) hj).1,hT _ _ (Jb (hrows nm _ hr' i) j) (p6 i j (by omega) hj).2⟩,p7⟩
   ·rw[hsame nm hne]at hn;exact AO (hrel.arr nm _ _ _ _ hn) rfl (λ_ _=>rfl) (λi j v _ _ hv=>hT _ _ (Jb (hrows nm _ hn i) j) hv)
  ·have hne:nm≠r:=by rintro rfl;simp[Au]at hn
   rw[hsame nm hne]at hn;exact Mh (hrel.obj nm _ hn) rfl (λ_ _ _=>rfl) (λ_ _ _ _ h=>h) (λ_ hh=>hh.al (P:=λy=>y.freeN r=true) (hrows nm _ hn) (λ_ _ h=>h) (λ_ _ _=>rfl) λv y hy hv=>hT v y hy hv) Vs
  ·have hne:nm≠r:=by rintro rfl;simp[Au]at hn
   rw[hsame nm hne]at hn;exact hrel.tok8 nm _ _ hn hnn
  ·have hx:st.sto.own nm≠none:=by
    by_cases hne:nm=r
    ·subst hne;rw[hr'];simp
    ·rwa[hsame nm hne]at hn
   exact h.chg.new nm g c hx hg
theorem oP{α:Type}{sz k:Nat}{e:α->List AV}{d:α}{l:List α}(h:k<=l.length):AVle (.slice sz (k-0) (λi=>e (l.getD (0+i) d)) .none) (AV.list sz e d (l.take k) .none):=
 ZR (by simp;omega) (λi hi=>by
  have:(l.take k).getD i d=l.getD i d:=by grind
  rw[this,E6])
theorem jp{Γ:H6}{st:St}{t r s n:Nat}{e:TypeId}{f:Nat->List AV}(hs:st.get t = .vsl r n)(hr:Aj st.own r=some (.arr s e n f))(hlt:Nat.blt r Bn=true:=by rfl) :
  Le Γ st ⟨Ec st.tmps t (.vsub r n 0 n),st.own,st.fam⟩:=by
 intro I θ a w h
 have hlt:r<Bn:=by simpa [K9] using hlt
 have hr':st.sto.own r=some (.arr s e n f):=(Ba hlt).trans hr
 have hget:∀ t',(⟨Ec st.tmps t (.vsub r n 0 n),st.own,st.fam⟩:St).sto.tmp t'=if t=t' then .vsub r n 0 n else st.get t':=λt'=>by
  show(match Aj (Ec st.tmps t _) t' with|some x=>x|none=>.any)=_
  rw[H9]
  by_cases hk:t=t'
  ·simp[hk]
  ·simp[hk];rfl
 refine⟨I,θ,h.size,h.defers,λt'=>?_,h.chg⟩;rw[hget]
 split
 ·rename_i htt
  subst htt;have hx:=h.slots t
  have hx':Rep I st.sto.own θ w (a.tmps.getD t undef) (.vsl r n):=by
   have e:st.sto.tmp t = .vsl r n:=hs;rw[<- e];exact hx
  obtain⟨sz',e',m,f2,ad,cap,hval,ho,hm,hcap,hmax,hn,hv⟩:=hx'.vsl_inv;rw[hr']at ho;simp only[Ao,Own.arr.injEq]at ho;obtain⟨rfl,rfl,rfl,rfl⟩:=ho;have hv:=hv rfl;rw[hval];refine .vsub r s e n f n 0 n ad cap hr' (zzL6 _) (P4 _) (zzL6 _) (by omega) hmax hn (λ_=>⟨λhlt=>?_,λ_=>?_⟩)
  ·cases hθ:θ r with
   | none=>have:=(h.chg.rel.arr r _ _ _ _ hr').1 hθ;omega
   | some gc=>
    obtain⟨g,c⟩:=gc;rw[hθ]at hv;exact⟨g,c,rfl,by rw[hv.1];simp⟩
  ·cases hθ:θ r with
   | none=>rw[hθ]at hv;exact hv
   | some gc=>obtain⟨g,c⟩:=gc;rw[hθ]at hv;exact⟨hv.1,.inl hv.2⟩
 ·exact h.slots t'
theorem kM{α:Type}{e:α->List AV}{d:α}{l:List α}{k:Nat}:∀ i,i<0+k->AVleL (e (l.getD i d)) (e ((l.take k).getD i d)):=λi hi=>by
 have:(l.take k).getD i d=l.getD i d:=by grind
 rw[this];exact .refl _
theorem eV{α:Type}{l:List α}{k:Nat}(h:0+k<=l.length):0+k=(l.take k).length:=by simp;omega
theorem g6{f g:Nat->List AV}:∀ k,k<0->f k=g k:=λ_ h=>by omega
theorem bU{n:Nat}{f g:Nat->List AV}(h:∀ k,k<n->f k=g k)(h':f n=g n):∀ k,k<n+1->f k=g k:=λk hk=>by
 grind
theorem WH{α:Type}{keep:Nat->Bool}{e:α->List AV}{d:α}{z:List AV}{N sz:Nat}(hz:z.length=sz)(h:z=e d)(hk:AV.eraseAll keep z=z):∀ k,k<N->AVleL (AV.eraseAll keep ((((List.replicate N z).flatten).drop (k*sz)).take sz)) (e ((List.replicate N d).getD k d)):=λk hk'=>by
 have:(List.replicate N d).getD k d=d:=by simp[ hk']
 rw[dB z sz hz N k hk',this,hk,h];exact .refl _
theorem lm{f:Nat->List AV}{i:Nat}{x:AV}:AVle ((Fa f i 0 [x] i).getD 0 .any) x:=by
 rw[Tq]
 simpa using AVle.refl x
theorem Mx{keep:Nat->Bool}{f:Nat->List AV}{i k R m:Nat}(hf:∀ j,AV.eraseAll keep (f j)=f j)(hk:keep R=true):∀ j,j<k->AVleL (AV.eraseAll keep (Fa f i 0 [.vsl R m] j)) (Fa f i 0 [.vsl R m] j):=λj _=>by
 have h:AV.eraseAll keep (Fa f i 0 [.vsl R m] j)=Fa f i 0 [.vsl R m] j:=by
  by_cases hj:j=i
  ·subst hj;rw[Tq,Yx,Yx, VC,hf];simp[AV.eraseAll,AV.erase,hk]
  ·rw[Wq f _ hj,hf]
 rw[h];exact .refl _
theorem pf{α:Type}{enc:α->List AV}{d x:α}{l:List α}{i nm sz n:Nat}{g:Nat->List AV}(hf:∀ a,AV.frwAll nm sz n g (enc a)=enc a)(h1:∀ a,(enc a).length=1)(hx:enc x=[.slice sz n g .none]) :
  ∀ j,j<l.length->AVleL (AV.frwAll nm sz n g (Fa (λk=>enc (l.getD k d)) i 0 [.vsl nm n] j)) (enc ((l.set i x).getD j d)):=λj hl=>by
 have h:AV.frwAll nm sz n g (Fa (λk=>enc (l.getD k d)) i 0 [.vsl nm n] j)=enc ((l.set i x).getD j d):=by
  by_cases hj:j=i
  ·subst hj
   have e1:(l.set j x).getD j d=x:=by simp[ hl]
   have e2:(enc (l.getD j d)).drop (0+[AV.vsl nm n].length)=[]:=List.drop_eq_nil_of_le (by grind)
   have e3:Zl nm nm=false:=by simp[Zl]
   rw[Tq,e1,e2,hx];simp[AV.frwAll,AV.frw,e3]
  ·have e1:(l.set i x).getD j d=l.getD j d:=by grind
   rw[Wq _ _ hj,e1,hf]
 rw[h];exact .refl _
section
variable {α:Type} {g:Bool} {a b:List α}
theorem jN:(bif g then a.length else b.length)=(bif g then a else b).length:=by cases g<;>rfl
theorem so{e:α->List AV}{d:α}{k:Nat}:(bif g then e (a.getD k d) else e (b.getD k d))=e ((bif g then a else b).getD k d):=by cases g<;>rfl
theorem sq(h:g=true->b.length=a.length):b.length=(bif g then a else b).length:=by
 grind
end
abbrev Bt{V:Type}(f:V->AV)(l:List (Int×V)):List (Int×AV):=l.map λp=>(p.1,f p.2)
section
variable {V:Type} {f:V->AV} {l:List (Int×V)} {r:List (Int×AV)} {k:Int}
theorem XP(k:Int):∀ l:List (Int×V),D9 (Bt f l) k=D9 l k
 | []=>rfl
 | (a,b)::l=>by
  simp only[ Cq,D9];rw[<- XP k l]
theorem XQ(k:Int)(v:V):∀ l:List (Int×V),Jq (Bt f l) k (f v)=Bt f (Jq l k v)
 | []=>rfl
 | (a,b)::l=>by
  simp only[ Cq,Jq]
  cases k==a with
  | true=>rfl
  | false=>
   simp only[Aw];exact Bi _ (XQ k v l)
theorem bB{z:V}{zz:AV}(hz:AVle zz (f z))(hr:r=Bt f l):AVle (Fu zz r k) (f (Fu z l k)):=by
 subst hr
 induction l with
 | nil=>exact hz
 | cons p l ih=>
  obtain⟨a,b⟩:=p;simp only[ Cq,Fu]
  cases k==a with
  | true=>exact AVle.refl _
  | false=>exact ih
theorem QZ{z:V}{zz:AV}(hz:AVle zz (f z))(hr:r=Bt f l):AVle (.tuple [Fu zz r k,.bool (D9 r k)]) (.tuple [f (Fu z l k),.bool (D9 l k)]):=by
 have h:=bB (k:=k) hz hr;subst hr;rw[XP];exact AVle.tuple (.cons h (.cons (AVle.refl _) .nil))
theorem bD{v:V}{x:AV}(hx:x=f v)(hr:r=Bt f l):Jq r k x=Bt f (Jq l k v):=by
 subst hr hx;exact XQ k v l
theorem oY{g:Bool}{a b:List (Int×V)}{ra rb:List (Int×AV)}(ha:ra=Bt f a)(hb:rb=Bt f b):(bif g then ra else rb)=Bt f (bif g then a else b):=by
 grind
end
theorem gV{Γ:H6}{st:St}{nm:Nat}{x:AObj}(y:AObj)(hn:Aj st.own nm=some (.obj x))(hxy:∀ I own θ w,LF I own θ w nm x->LF I own θ w nm y)(hlt:Nat.blt nm Bn=true:=by rfl) :
  Le Γ st ⟨st.tmps,Ec st.own nm (.obj y),st.fam⟩:=by
 intro I θ a w h
 have hlt:nm<Bn:=by simp_all
 have hn:st.sto.own nm=some _:=(Ba hlt).trans hn
 have hown:(⟨st.tmps,Ec st.own nm (.obj y),st.fam⟩:St).sto.own=Au st.sto.own nm (.obj y):=by
  funext k
  show De _ _ k=_
  rw[L8 hlt];simp only[Au]
  by_cases hk:nm=k
  ·subst hk;simp
  ·simp[hk,Ra hk];rfl
 have hle:∀ k o,st.sto.own k=some o->∃ o',Au st.sto.own nm (.obj y) k=some o'/\OwnLe o (θ k) o' (θ k):=λk o ho=>by
  by_cases hk:k=nm
  ·subst hk;rw[hn]at ho;obtain rfl:=OI ho;exact⟨.obj y,by simp[Au],rfl⟩
  ·exact⟨o,by simp[Au,hk,ho],OwnLe.refl _ _⟩
 have hrel:=h.chg.rel;have hmono:∀ v z,Rep I _ θ w v z->Rep I _ θ w v z:=λv z hz=>hz.mono (λ_ _ h=>h) (λ_ _ _=>rfl) hle
 have k:Chg st.sto.own θ I w (Au st.sto.own nm (.obj y)) θ I w:=by
  refine{ imm:=λ_ _ h=>h,cell:=λ_ _ _=>rfl,le:=hle,rel:=?_,valid:=h.chg.valid,os:=rfl,tape:=rfl,output:=rfl,drawn:=λ_=>zzL6 _,grow:=zzL6 _,frame:=λ_ _ _=>rfl,new:=λk g c ho hg=>?_,immNew:=λb o h=>.inl h }
  ·refine N5 hrel (·=nm) hmono (λk hne=>⟨by simp[Au,hne],rfl⟩) (λk g c hne ho hg=>⟨rfl,λj h=>h⟩) ?_ ?_ ?_ (λ_ _ h h'=>h.trans h'.symm) (hobj:=?_)
   ·rintro k e' cells rfl ho;simp[Au]at ho
   ·rintro k sz e' m rfl ho;simp[Au]at ho
   ·rintro k k' g c c' rfl hne _ ho' hg hg';exact hne (hrel.inj k' k _ _ _ ho' (by simp[hn]) hg' hg)
   ·rintro k z rfl ho;simp only[Au,Mw,Ao,Own.obj.injEq]at ho;subst ho;exact Mh (hxy _ _ _ _ (hrel.obj k x hn)) rfl (λ_ _ _=>rfl) (λ_ _ _ _ h=>h) (λ_ hh=>hh.mono hmono) Vs
  ·by_cases hk:k=nm
   ·grind
   ·exact .inr ⟨k,c,by simpa [Au,hk] using ho,hg⟩
 exact⟨I,θ,h.size,h.defers,λt'=>by rw[hown];exact(h.slots t').chg k,by rw[hown];exact h.chg.trans k⟩
theorem RD{I:Nat->Nat->Prop}{own:Nat->Option Own}{θ:Nat->Option (Nat×Nat)}{w:World}{nm:Nat}{nn:Bool}{k:IntKind}{l:List (Int×AV)}(h:LF I own θ w nm (.map nn k l)):LF I own θ w nm (.map false k l):=by
 rcases h with⟨g,c,o,h1,h2,h3,h4⟩|⟨h1,h2⟩
 ·refine .inl ⟨g,c,o,h1,h2,?_,h4⟩
  cases h3 with
  | map es nn k l hs hr=>exact .map es _ k l hs hr
 ·cases nn<;>cases l<;>first|exact .inr ⟨h1,trivial⟩|cases h2
theorem Xx{Γ:H6}{st:St}{r j nm:Nat}{e0:TypeId}{cells:List AV}(km:IntKind)(hr:Aj st.own r=some (.row e0 cells))(hs:cells.getD j .any = .nilm)(hj:j<cells.length)(hn:Aj st.own nm=none)(hlt:Nat.blt nm Bn=true:=by rfl)(hltr:Nat.blt r Bn=true:=by rfl) :
  Le Γ st ⟨st.tmps,Ec (Ec st.own r (.row e0 (cells.set j (.omap nm)))) nm (.obj (.map false km [])),st.fam⟩:=by
 intro I θ a w h
 have hlt:nm<Bn:=by simpa [K9] using hlt
 have hltr:r<Bn:=by simpa [K9] using hltr
 have hn:st.sto.own nm=none:=(Ba hlt).trans hn;have hr:st.sto.own r=some (.row e0 cells):=(Ba hltr).trans hr
 have hne:r≠nm:=by rintro rfl;rw[hr]at hn;cases hn
 let own':Nat->Option Own:=λk=>if k=nm then some (.obj (.map false km [])) else if k=r then some (.row e0 (cells.set j (.omap nm))) else st.sto.own k
 have hown:(⟨st.tmps,Ec (Ec st.own r (.row e0 (cells.set j (.omap nm)))) nm (.obj (.map false km [])),st.fam⟩:St).sto.own=own':=by
  funext k
  show De (Ec (Ec st.own r _) nm _) _ k=_
  rw[L8 hlt,L8 hltr];simp only[own',Sz (a:=nm),Sz (a:=r)]
  rfl
 have hle:∀ nm' o,st.sto.own nm'=some o->∃ o',own' nm'=some o'/\OwnLe o (θ nm') o' (thUp θ nm none nm'):=λnm' o ho=>by
  have h1:nm'≠nm:=by rintro rfl;have:st.sto.own nm'=some o:=ho;rw[hn]at this;cases this
  by_cases h2:nm'=r
  ·subst h2;have:st.sto.own nm'=some o:=ho;rw[hr]at this;obtain rfl:=OI this;exact⟨.row e0 (cells.set j (.omap nm)),by simp[own',h1],by simp[thUp,h1,OwnLe]⟩
  ·exact⟨o,by simp[own',h1,h2,ho],by simp[thUp,h1,OwnLe.refl]⟩
 have hmono:∀ v x,Rep I st.sto.own θ w v x->Rep I own' (thUp θ nm none) w v x:=λv x h=>h.mono (λ_ _ h=>h) (λ_ _ _=>rfl) hle;have hrel:=h.chg.rel
 have k:Chg st.sto.own θ I w own' (thUp θ nm none) I w:=by
  refine{ imm:=λ_ _ h=>h,cell:=λ_ _ _=>rfl,le:=hle,rel:=?_,valid:=h.chg.valid,os:=rfl,tape:=rfl,output:=rfl,drawn:=λ_=>zzL6 _,grow:=zzL6 _,frame:=λ_ _ _=>rfl,new:=λnm' g' c ho hg=>?_,immNew:=λ_ _ h=>.inl h }
  ·refine⟨λnm' e2 cells' ho=>?_,λnm' s' e' m ho g' c hg=>?_,λn1 n2 g' c c' ho ho' hg hg'=>?_,λnm' s' e' m f' ho=>?_,λnm' x' ho=>?_,λnm' s' m ho hnn=>?_⟩
   ·by_cases h1:nm'=nm
    ·simp[own',h1]at ho
    ·by_cases h2:nm'=r
     ·subst h2;simp only[own',h1,I5,Mw,Ao,Own.row.injEq]at ho;obtain⟨rfl,rfl⟩:=ho;obtain⟨g',c,vs,r1,r2,r3,r4,r5,r6⟩:=hrel.row nm' _ cells hr;refine⟨g',c,vs,by simpa [thUp,h1] using r1,r2,by simpa using r3,λj' hj'=>r4 j' (by simpa using hj'),λj' hj'=>?_,r6⟩
      have hj'':j'<cells.length:=by simpa using hj'
      by_cases hjj:j'=j
      ·subst hjj
       have e1:(cells.set j' (.omap nm)).getD j' .any = .omap nm:=by simp[List.getD,hj]
       rw[e1];have hr':=r5 j' hj'';rw[hs]at hr';rw[hr'.nilm_inv];have:=Rep.omap (I:=I) (own:=own') (θ:=thUp θ nm none) (w:=w) nm (.map false km []) (by simp[own'])
       simpa [thUp] using this
      ·have e1:(cells.set j (.omap nm)).getD j' .any=cells.getD j' .any:=by simp[List.getD,Ra hjj]
       rw[e1];exact hmono _ _ (r5 j' hj'')
     ·simp only[own',h1,h2,I5]at ho;obtain⟨g',c,vs,r1,r2,r3,r4,r5,r6⟩:=hrel.row nm' _ cells' ho;exact⟨g',c,vs,by simpa [thUp,h1] using r1,r2,r3,r4,λj' hj'=>hmono _ _ (r5 j' hj'),r6⟩
   ·by_cases h1:nm'=nm
    ·simp[thUp,h1]at hg
    ·have h2:nm'≠r:=by rintro rfl;simp[own',h1]at ho
     simp only[own',h1,h2,I5]at ho;simp only[thUp,h1,I5]at hg;exact hrel.tok nm' _ _ _ ho g' c hg
   ·have hx:∀ n1 g' c,own' n1≠none->thUp θ nm none n1=some (g',c)->st.sto.own n1≠none/\θ n1=some (g',c):=λn1 g' c ho hg=>by
     by_cases h1:n1=nm
     ·simp[thUp,h1]at hg
     ·simp only[thUp,h1,I5]at hg;refine⟨?_,hg⟩
      by_cases h2:n1=r
      ·subst h2;have:st.sto.own n1=some (.row e0 cells):=hr;simp[this]
      ·simpa [own',h1,h2] using ho
    obtain⟨a1,a2⟩:=hx n1 g' c ho hg;obtain⟨b1,b2⟩:=hx n2 g' c' ho' hg';exact hrel.inj n1 n2 g' c c' a1 b1 a2 b2
   ·by_cases h1:nm'=nm
    ·simp[own',h1]at ho
    ·have h2:nm'≠r:=by rintro rfl;simp[own',h1]at ho
     simp only[own',h1,h2,I5]at ho;exact Qf (hrel.arr nm' _ _ _ _ ho) (by simp[thUp,h1]) (λ_ _ _=>rfl) (λ_ _ _ _ h=>h) (λ_ _=>rfl) (λv i j _ _ hv=>hmono _ _ hv)
   ·by_cases h1:nm'=nm
    ·simp only[own',h1,Mw,Ao,Own.obj.injEq]at ho;subst ho;subst h1;exact .inr ⟨by simp[thUp],trivial⟩
    ·have h2:nm'≠r:=by rintro rfl;simp[own',h1]at ho
     simp only[own',h1,h2,I5]at ho;exact Mh (hrel.obj nm' _ ho) (by simp[thUp,h1]) (λ_ _ _=>rfl) (λ_ _ _ _ h=>h) (λ_ hh=>hh.mono hmono) Vs
   ·by_cases h1:nm'=nm
    ·simp[own',h1]at ho
    ·have h2:nm'≠r:=by rintro rfl;simp[own',h1]at ho
     simp only[own',h1,h2,I5]at ho;simp only[thUp,h1,I5]at hnn;exact hrel.tok8 nm' _ _ ho hnn
  ·by_cases h1:nm'=nm
   ·simp[thUp,h1]at hg
   ·simp only[thUp,h1,I5]at hg;refine .inr ⟨nm',c,?_,hg⟩
    by_cases h2:nm'=r
    ·subst h2;have:st.sto.own nm'=some (.row e0 cells):=hr;simp[this]
    ·simpa [own',h1,h2] using ho
 refine⟨I,thUp θ nm none,h.size,h.defers,λt'=>?_,?_⟩
 ·rw[hown];exact(h.slots t').chg k
 ·rw[hown];exact h.chg.trans k
section
variable {P:Program} {Γ:H6} {σ:Sto} {I:Nat->Nat->Prop} {θ:Nat->Option (Nat×Nat)} {a:Act} {w:World} {o:Oper}
end
open Classical in
open Classical in
section
variable {P:Program} {Γ:H6}
end
section
variable {P:Program} {Γ:H6}
def NS(P:Program)(Γ:H6)(body:Code)(K:Exit->St->Prop):Nat->St->Prop
 | 0,_=>False
 | n+1,st=>Zk P Γ body (λe st'=>(e = .normal/\NS P Γ body K n st')\/(e≠.normal/\K e st')) st
theorem fi{body:Code}{K:Exit->St->Prop}{st:St}(n:Nat)(h:NS P Γ body K n st):Zk P Γ (.loop body) K st:=by
 intro I θ a w hrel;refine YQ (λm a w=>∃ st I θ,NS P Γ body K m st/\Rel Γ st.sto I θ a w) (λm a w ⟨st,I,θ,hu,hrel⟩=>?_) (n:=n) ⟨st,I,θ,h,hrel⟩
 cases m with
 | zero=>exact hu.elim
 | succ m=>
  refine Uf (hu I θ a w hrel) λe a' w' ⟨st',I',θ',h1,h2⟩=>?_;rcases h1 with⟨rfl,h1⟩|⟨hne,h1⟩
  ·exact⟨m,Nat.lt_succ_self m,st',I',θ',h1,h2⟩
  ·cases e with
   | normal=>exact(hne rfl).elim
   | _=>exact⟨st',I',θ',h1,h2⟩
end
end
end Go.Proofs.YtfhggcbcamamdaaGreat
