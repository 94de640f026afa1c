/-
  The machine, the program's functions and the laws' arithmetic: part 5 of 5.
-/
import Derived.Test.YtlnbjgmjaioagaaGreatPk4
import Derived.Lib.RowBridge
set_option linter.unusedSectionVars false
set_option linter.unusedVariables false
set_option linter.unusedSimpArgs false
namespace Go.Proofs.YtlnbjgmjaioagaaGreat
noncomputable section
open Go Go.RowKit
theorem jQ(l:List Int)(hl:l.length<4611686018427387904):Ea l=some l.reverse:=by
 unfold Ea
 by_cases h0:l.length=0
 ·obtain rfl:l=[]:=zzL106.1 h0
  have:Af Bg ((0:Int),(A3 ((([]:List Int).length:Int)-1)),([]:List Int))=some []:=by
   apply Am
   unfold Bg;rw[Hj (by simp) (by simp)]
   rfl
  rw[this];rfl
 ·have hw:A3 ((l.length:Int)-1)=((l.length-1:Nat):Int):=by rw[Hj (by omega) (by omega)];omega
  rw[hw]
  let C:Nat->List Int:=λk=>(List.range l.length).map λi=>if i<k\/l.length-1-k<i then l.getD (l.length-1-i) 0 else l.getD i 0
  have hC:∀ k i,i<l.length->(C k).getD i 0=if i<k\/l.length-1-k<i then l.getD (l.length-1-i) 0 else l.getD i 0:=λk i hi=>by simp only[C];rw[Vn hi]
  have hlen:∀ k,(C k).length=l.length:=λk=>by simp[C]
  have:=FG Bg (λk=>(((k:Nat):Int),((l.length-1-k:Nat):Int),C k)) l.reverse (l.length / 2) (λk hk=>?_) ?_
  ·have e0:C 0=l:=by
    apply QQ (by simp[C])
    intro i h1 h2;have:=hC 0 i h2;rw[Ai _ _ _ h1,Ai _ _ _ h2]at this;rw[this,if_neg (by omega)]
   have this':Af Bg ((0:Int),((l.length-1:Nat):Int),l)=some l.reverse:=by
    have h2:=this;simp only[e0]at h2;exact h2
   rw[this'];rfl
  ·show Bg (_,_,_)=_
   unfold Bg
   have hlt:k<l.length-1-k:=by omega
   simp only[Er hlt,Aj,A2];rw[Ah (M7 (by rw[hlen];omega)),Ah (M7 (by rw[hlen];omega)),Ah (M7 (by rw[hlen];omega)),Ah (M7 (by rw[hlen];omega))];rw[w1 (by omega),show A3 (((l.length-1-k:Nat):Int)-1)=((l.length-1-(k+1):Nat):Int) by rw[Hj (by omega) (by omega)];omega]
   congr 4
   rw[hC k _ (by omega),hC k _ (by omega),if_neg (by omega),if_neg (by omega)];simp only[C];rw[YB,YB]
   apply Ul
   intro i hi
   by_cases h1:i=k
   ·subst h1;rw[if_neg (by omega),if_pos rfl,if_pos (by omega)]
   ·by_cases h2:i=l.length-1-k
    ·subst h2;rw[if_pos rfl,if_pos (by omega)]
     congr 1;omega
    ·rw[if_neg h2,if_neg h1]
     by_cases h3:i<k\/l.length-1-k<i
     ·rw[if_pos h3,if_pos (by omega)]
     ·rw[if_neg h3,if_neg (by omega)]
  ·show Bg (_,_,_)=_
   unfold Bg;have hd:decide (((l.length / 2:Nat):Int)<((l.length-1-l.length / 2:Nat):Int))=false:=J0 (by omega);simp only[hd,Bi]
   congr 2
   apply QQ (by simp[C])
   intro i h1 h2
   have h3:i<l.length:=by simpa [C] using h1
   have:=hC (l.length / 2) i h3;rw[Ai _ _ _ h1]at this;rw[this,List.getElem_reverse]
   split
   ·rw[Ai _ _ _ (by omega)]
   ·rw[Ai _ _ _ h3]
    congr 1;omega
theorem top{st:List Int}{a:Int}(h:st.length<4611686018427387904):(st++[a]).getD (A3 (((st++[a]).length:Int)-1)).toNat 0=a:=by
 have:A3 ((st++[a]).length-1)=(st.length:Int):=by rw[G7,QW,Hj (by omega) (by omega)];omega
 rw[this];simp[List.getD]
theorem wT{st:List Int}{a:Int}(h:st.length<4611686018427387904):A3 (((st++[a]).length:Int)-1)=((st.length:Nat):Int):=by
 rw[G7,QW,Hj (by omega) (by omega)];omega
theorem oR{g:C5}{R:List Bool}{st T:List Int}{a:Nat}(hst:st.length<64)(ha:a<g.Succ.length)(h64:g.Succ.length<=64)(ht:T.getD a 0=((g.Succ.getD a []).length:Int)) :
  G0 g R (st++[(a:Int)]) T=some (.done (.inl T)):=by
 unfold G0;simp only[top (st:=st)  (by omega),A2];rw[Ah (M7 (by omega)),Ah (M7 ha),ht,Ir,Bi]
theorem ff{g:C5}{R:List Bool}{st T:List Int}{a t y:Nat}(hst:st.length<64)(ha:a<g.Succ.length)(h64:g.Succ.length<=64)(ht:T.getD a 0=(t:Int))(htl:t<(g.Succ.getD a []).length)(htm:t<64)
  (hy:(g.Succ.getD a []).getD t 0=(y:Int)) (hyn:y<g.Succ.length) :
  G0 g R (st++[(a:Int)]) T=bif R.getD y false then some (.next (M6 64 (0:Int) T a ((t+1:Nat):Int))) else some (.done (.inr (M6 64 false R y true,M6 64 (0:Int) T a ((t+1:Nat):Int),(st++[(a:Int)])++[(y:Int)]))):=by
 have hroom:1000<=room:=by decide
 unfold G0;simp only[top (st:=st)  (by omega),A2,ht,hy];rw[Ah (M7 (by omega)),Ah (M7 ha),Er htl, Ah (M7 ha),Ah (M7 (by omega)),Ah (M7 htl),Ah (M7 (by omega)),Ah (M7 (by omega)),Ah (M7 (by omega)),w1 (by omega)]
 cases R.getD y _ with
 | true=>rfl
 | false=>
  simp only[Qg,Aj,Bi];rw[Ah (M7 (by omega)),Ah (by grind)]
theorem fe{g:C5}{R:List Bool}{st T Lf:List Int}{a:Nat}(hst:st.length<64)(hLf:Lf.length<64) :
  Dp g (R,T,st++[(a:Int)],Lf)=(Af (G0 g R (st++[(a:Int)])) T).bind λx=>match x with
   | .inl T'=>if st=[] then some (.done (Lf++[(a:Int)]).reverse) else some (.next (R,T',st,Lf++[(a:Int)]))
   | .inr (R',T',st')=>some (.next (R',T',st',Lf)):=by
 have hroom:1000<=room:=by decide
 unfold Dp;simp only
 have hb:Ay (A3 ((st++[(a:Int)]).length-1)) (st++[(a:Int)]).length:=by rw[wT (by omega)];exact M7 (by simp)
 rw[Ah hb]
 congr 1
 funext x
 cases x with
 | inr y =>  rfl
 | inl T'=>
  simp only[top (st:=st)  (by omega)];rw[wT (by omega),A2,Ah (by grind),Ah ⟨by omega,by simp⟩];have e:(st++[(a:Int)]).take _=st:=List.take_left' rfl;rw[e]
  cases st with
  | nil=>
   rw[if_pos rfl]
   have:decide (0<(([]:List Int).length:Int))=false:=by decide
   rw[this,Bi,jQ _ (by simp;omega)];simp only[A1];rw[Ah (by simp)]
  | cons b st'=>
   simp_all
theorem d5{S X:Type}{f:S->Option (LR S X)}{a b:S}(h:f a=f b):Af f a=Af f b:=by
 cases hb:f b with
 | none=>rw[DH (h.trans hb),DH hb]
 | some r=>cases r with
  | done x=>rw[Am (h.trans hb),Am hb]
  | next s=>rw[Ap (h.trans hb),Ap hb]
theorem KN{S X:Type}{f:S->Option (LR S X)}{s:S}:Ms (f s) f=Af f s:=by
 cases hb:f s with
 | none=>rw[DH hb];rfl
 | some r=>cases r with
  | done x=>rw[Am hb];rfl
  | next s'=>rw[Ap hb];rfl
def sN(L:List (List Int))(k:Nat):List Nat:=(L.getD k []).map Int.toNat
def RelS(R:List Bool)(s:Nat->Bool):Prop:=∀ z,z<64->R.getD z false=s z
theorem Qv{α:Type}{d:α}{l:List α}{i:Nat}{x:α}{k:Nat}(hk:k<64):(M6 64 d l i x).getD k d=if k=i then x else l.getD k d:=by
 rw[VH hk]
 by_cases h:k=i
 · simp
 ·have:Nat.beq k i=false:=by cases hb:Nat.beq k i with|false=>rfl|true=>simp_all
  rw[this,if_neg h];rfl
theorem RelS.set{R:List Bool}{s:Nat->Bool}(h:RelS R s){y:Nat}:RelS (M6 64 false R y true) (upd s y):=λz hz=>by
 rw[Qv hz,h z hz]
 by_cases hzy:z=y
 ·simp[upd]
 ·simp[upd]
def T4(o:List Nat):List Int:=o.map Int.ofNat
theorem eJ{g:C5}(hm:Ob g.Succ=true){s s':Nat->Bool}{l o:List Nat}(hv:VL (sN g.Succ) s l s' o) :
  ∀(R:List Bool) (T st Lf:List Int) (a t:Nat),RelS R s->a<g.Succ.length->l=(sN g.Succ a).drop t->T.getD a 0=(t:Int)->t<=(sN g.Succ a).length->s a=true->(∀ z,z<64->s z=false->T.getD z 0=0)->
   Lf.length+ar 64 s+st.length+1<=64->
   ∃(R':List Bool) (T':List Int),RelS R' s'/\(∀ z,z<64->s' z=false->T'.getD z 0=0)/\(∀ z,z<64->s z=true->z≠a->T'.getD z 0=T.getD z 0)/\Lf.length+o.length+ar 64 s'+st.length+1<=64 /\
    Af (Dp g) (R,T,st++[(a:Int)],Lf)=if st=[] then some (Lf++T4 o++[(a:Int)]).reverse else Af (Dp g) (R',T',st,Lf++T4 o++[(a:Int)]):=by
 obtain⟨hL1,hL64,hLok⟩:=mayS_iff.1 hm
 have hlenS:∀ a,(sN g.Succ a).length=(g.Succ.getD a []).length:=λa=>by simp[sN]
 have hdrop:∀(a t y:Nat) (l':List Nat),a<g.Succ.length->y::l'=(sN g.Succ a).drop t->t<(g.Succ.getD a []).length/\(g.Succ.getD a []).getD t 0=(y:Int)/\y<g.Succ.length/\l'=(sN g.Succ a).drop (t+1):=λa t y l' ha he=>by
  have ht:t<(sN g.Succ a).length:=by
   rcases zzL113 t (sN g.Succ a).length with h|h
   ·exact h
   ·rw[List.drop_eq_nil_of_le h]at he;cases he
  rw[iB ht]at he;simp only[C8]at he;obtain⟨h1,h2⟩:=he
  have ht':t<(g.Succ.getD a []).length:=by rw[<- hlenS];exact ht
  obtain⟨b0,b1⟩:=HT (hLok a ha) ht'
  have h3:(sN g.Succ a)[t]=((g.Succ.getD a []).getD t 0).toNat:=by rw[Ai _ _ _ ht'];simp[sN]
  exact⟨ht',by omega,by omega,h2⟩
 induction hv with
 | nil s=>
  intro R T st Lf a t hR ha hl hT htl hsa hz hc
  have ht:t=(g.Succ.getD a []).length:=by
   have:=Bn List.length hl;simp at this;rw[hlenS]at htl this;omega
  refine⟨R,T,hR,hz,λ_ _ _ _=>rfl,by simpa using hc,?_⟩
  have hF:Dp g (R,T,st++[(a:Int)],Lf)=if st=[] then some (.done (Lf++[(a:Int)]).reverse) else some (.next (R,T,st,Lf++[(a:Int)])):=by
   rw[fe (by omega) (by omega),Am (oR (by omega) ha hL64 (by rw[hT,ht]))]
   rfl
  by_cases hst:st=[]
  ·rw[if_pos hst]at hF ⊢;rw[Am hF];simp[T4]
  ·rw[if_neg hst]at hF ⊢;rw[Ap hF];simp[T4]
 | @skip s s' y l o h tl ih=>
  intro R T st Lf a t hR ha hl hT htl hsa hz hc;obtain⟨h1,h2,h3,h4⟩:=hdrop a t y l ha hl;have hb:=MW (hLok a ha);have hs:=ff (g:=g) (R:=R) (st:=st) (T:=T) (a:=a) (t:=t) (y:=y) (by omega) ha hL64 hT h1 (by omega) h2 h3;rw[hR y (by omega),h,Aj]at hs;obtain⟨R',T',a1,a2,a3,a4,a5⟩:=ih R (M6 64 (0:Int) T a ((t+1:Nat):Int)) st Lf a (t+1) hR ha h4 (by rw[Qv (by omega),if_pos rfl]) (by rw[hlenS];omega) hsa
   (λz hz1 hz2=>by rw[Qv hz1,if_neg (by rintro rfl;rw[hsa]at hz2;cases hz2)];exact hz z hz1 hz2) hc
  refine⟨R',T',a1,a2,λz hz1 hz2 hz3=>by rw[a3 z hz1 hz2 hz3,Qv hz1,if_neg hz3],a4,?_⟩;rw[<- a5]
  apply d5
  rw[fe (by omega) (by omega),fe (by omega) (by omega),Ap hs]
 | @step s s1 s2 y l o1 o2 h tl tr ih1 ih2=>
  intro R T st Lf a t hR ha hl hT htl hsa hz hc;obtain⟨h1,h2,h3,h4⟩:=hdrop a t y l ha hl;have hb:=MW (hLok a ha)
  have hay:y≠a:=by rintro rfl;rw[hsa]at h;cases h
  have hs:=ff (g:=g) (R:=R) (st:=st) (T:=T) (a:=a) (t:=t) (y:=y) (by omega) ha hL64 hT h1 (by omega) h2 h3;rw[hR y (by omega),h,Bi]at hs;have hcu:=AP (n:=64) (show y<64 by omega) h
  have hF:Dp g (R,T,st++[(a:Int)],Lf)=some (.next (M6 64 false R y true,M6 64 (0:Int) T a ((t+1:Nat):Int),(st++[(a:Int)])++[(y:Int)],Lf)):=by
   rw[fe (by omega) (by omega),Am hs]
   rfl
  obtain⟨R1,T1,b1,b2,b3,b4,b5⟩:=ih1 (M6 64 false R y true) (M6 64 (0:Int) T a ((t+1:Nat):Int)) (st++[(a:Int)]) Lf y 0 hR.set h3 (by simp)
   (by rw[Qv (by omega),if_neg hay];exact hz y (by omega) h) (Qh _) (upd_true.2 (.inl rfl))
   (λz hz1 hz2=>by
    obtain⟨c1,c2⟩:=upd_false.1 hz2;rw[Qv hz1,if_neg (by rintro rfl;rw[hsa]at c2;cases c2)]
    exact hz z hz1 c2) (by rw[G7,QW];omega)
  rw[if_neg (by simp)]at b5
  have hTa:T1.getD a 0=((t+1:Nat):Int):=by rw[b3 a (by omega) (upd_true.2 (.inr hsa)) (M2 hay),Qv (by omega),if_pos rfl]
  rw[G7,QW]at b4;obtain⟨R2,T2,c1,c2,c3,c4,c5⟩:=ih2 R1 T1 st (Lf++T4 o1++[(y:Int)]) a (t+1) b1 ha h4 hTa (by rw[hlenS];omega) ((tl.seen a).2 (.inl (upd_true.2 (.inr hsa)))) b2
   (by simp only[G7,QW,T4,Ky];omega)
  refine⟨R2,T2,c1,c2,λz hz1 hz2 hz3=>?_,?_,?_⟩
  ·rw[c3 z hz1 ((tl.seen z).2 (.inl (upd_true.2 (.inr hz2)))) hz3,b3 z hz1 (upd_true.2 (.inr hz2)) (by rintro rfl;rw[h]at hz2;cases hz2),Qv hz1,if_neg hz3]
  ·simp only[G7,QW,T4,Ky,AA]at c4 ⊢;omega
  ·rw[Ap hF,b5,c5]
   have e:Lf++T4 o1++[(y:Int)]++T4 o2++[(a:Int)]=Lf++T4 (o1++y::o2)++[(a:Int)]:=by simp[T4]
   rw[e]
theorem CH{L:List (List Int)}(h:Ob L=true):∀ z,z<L.length->∀ y∈sN L z,y<L.length:=λz hz y hy=>by
 obtain⟨_,_,h3⟩:=mayS_iff.1 h;obtain⟨x,hx,rfl⟩:=zzL20.1 hy;have:=XJ (h3 z hz) hx;omega
theorem qA{r:Nat}(hr:r<64):ar 64 (one r)=63:=by
 have h:=AP  (s:=λ_=>false) hr rfl
 have e:upd (λ_=>false) r=one r:=by funext z;simp[upd,one]
 rw[e]at h
 have:ar 64 (λ_=>false)=64:=by decide
 omega
theorem GC{α:Type}{n z:Nat}{d:α}:(List.replicate n d).getD z d=d:=by grind
theorem XE(g:C5)(h:Fits g.Succ)(hP:True)(r:Int) :
  (HN g=true->0<=r->r<(g.Succ.length:Int)->∀ L,Ord (sN g.Succ) r.toNat L->H3 g r=some (T4 L)) /\
  ((HN g&&(decide (0<=r)&&decide (r<(g.Succ.length:Int))))=false->H3 g r=some []):=by
 refine⟨λhm h0 h1 L hL=>?_,λhf=>?_⟩
 ·have hms:Ob g.Succ=true:=by unfold HN at hm;exact(A9 _ _▸hm).1
  obtain⟨hL1,hL64,hLok⟩:=mayS_iff.1 hms;obtain⟨s',o,hv,rfl⟩:=hL;have hrn :=M1 h0
  have hr:r.toNat<g.Succ.length:=by omega
  obtain⟨R',T',_,_,_,_,hmain⟩:=eJ hms hv (M6 64 false (List.replicate 64 false) r.toNat true) _ [] [] r.toNat 0
   (λz hz=>by rw[Qv hz,GC];by_cases hzr:z=r.toNat<;>simp[one,hzr]) hr (by simp) GC (Qh _) (by simp[one])
   (λz hz _=>GC) (by rw[qA (by omega)];simp)
  rw[if_pos rfl,hrn]at hmain;unfold H3;rw[sC _ h,hm,A1];simp only[J1,Zz,Aj,Bi,Uj,H8 h0,H8 h1,Bool.and_self,A1];rw[Ah ⟨h0,by omega⟩];have hF:∀ X,Af (Dp g) (M6 64 false (List.replicate 64 false) r.toNat true,List.replicate 64 (0:Int),[]++[r],[])=some X->
    (Ms _ (Dp g)).bind (λx=>some x)=some X:=λX hX=>by
   rw[KN];rw[hX];rfl
  refine(hF _ hmain).trans ?_;simp only[Wx,List.reverse_append,T4,Cl,List.map_reverse,List.reverse_cons,List.reverse_nil]
  simp
  omega
 ·unfold H3;rw[sC _ h,A1]
  cases hm:HN g with
  | false=>rfl
  | true=>
   rw[hm,Kz]at hf;simp only[J1,Zz,Aj,Bi,Uj,hf,A1,Qg]
   rfl
def RelN(n:Nat)(R:List Bool)(s:Nat->Bool):Prop:=R.length=n/\∀ z,z<n->R.getD z false=s z
theorem RelN.set{n:Nat}{R:List Bool}{s:Nat->Bool}(h:RelN n R s){y:Nat}(hy:y<n):RelN n (R.set y true) (upd s y):=by
 refine⟨by rw[Cp];exact h.1,λz hz=>?_⟩;rw[QU,List.getElem?_set]
 by_cases hzy:y=z
 ·subst hzy;simp[upd,h.1,hy]
 ·rw[if_neg hzy,<- QU,h.2 z hz];simp[upd,M2 hzy]
theorem Q0:∀(n:Nat) (l:List Nat),l.Nodup->(∀ x∈l,x<n)->l.length<=n
 | 0,l,_,h=>by
  cases l with
  | nil=>simp
  | cons x l=>have:=h x (zzL42 ..);omega
 | n+1,l,hd,h=>by
  by_cases hn:n∈l
  ·have h1:=Q0 n _ (hd.erase n) λx hx=>by
    grind
   rw[List.length_erase_of_mem hn]at h1;omega
  ·have h1:=Q0 n l hd λx hx=>by
    grind
   omega
theorem PZ:∀{a b:List Int},a.Pairwise (·<·)->b.Pairwise (·<·)->(∀ x,x∈a↔x∈b)->a=b
 | [],[],_,_,_=>rfl
 | [],y::b,_,_,h=>by have:=(h y).2 (zzL42 ..);cases this
 | x::a,[],_,_,h=>by have:=(h x).1 (zzL42 ..);cases this
 | x::a,y::b,ha,hb,h=>by
  have ha':=zzL85.1 ha;have hb':=zzL85.1 hb
  have hxy:x=y:=by
   rcases zzL26.1 ((h x).1 (zzL42 ..)) with h1|h1
   ·exact h1
   ·rcases zzL26.1 ((h y).2 (zzL42 ..)) with h2|h2
    ·exact h2.symm
    ·grind
  congr 1
  refine PZ ha'.2 hb'.2 λz=>⟨λhz=>?_,λhz=>?_⟩
  ·grind
  ·grind
theorem JQ(p:Nat->Bool)(n:Nat):(((List.range n).filter p).map Int.ofNat).Pairwise (·<·):=by
 rw[List.pairwise_map];have:=(List.pairwise_lt_range (n:=n)).filter p
 exact this.imp λh=>by simpa using h
theorem be{p:Nat->Bool}{n:Nat}{x:Int}:x∈((List.range n).filter p).map Int.ofNat↔∃ k:Nat,x=(k:Int)/\k<n/\p k=true:=by
 grind
theorem lu{L:List (List Int)}{k i:Nat}:EZ L k i=true↔(i:Int)∈L.getD k []:=by unfold EZ;rw[QV]
theorem mQ{L:List (List Int)}(h:Ob L=true){x y:Nat}(hx:x<L.length):y∈sN L x↔(y:Int)∈L.getD x []:=by
 obtain⟨_,_,h3⟩:=mayS_iff.1 h;unfold sN;rw[zzL20]
 constructor
 ·rintro⟨z,hz,rfl⟩;have:=XJ (h3 x hx) hz;rw[M1 this.1];exact hz
 ·grind
def mk(o:List Bool)(l:List Nat):List Bool:=l.foldl (λo y=>o.set y true) o
theorem t6(l:List Nat):∀ o:List Bool,(mk o l).length=o.length:=by
 induction l with
 | nil=>intro o;rfl
 | cons y l ih=>intro o;show(mk _ l).length=_;rw[ih,Cp]
theorem mk_at{n:Nat}(l:List Nat):∀(o:List Bool),o.length=n->(∀ y∈l,y<n)->∀ z,(mk o l).getD z false=true↔o.getD z false=true\/z∈l:=by
 induction l with
 | nil =>  simp[mk]
 | cons y l ih=>
  intro o ho hl z
  show(mk _ l).getD z _=true↔_
  rw[ih _ (by grind) (λu hu=>hl u (Jz _ hu)) z]
  have e:(o.set y true).getD z false=true↔o.getD z false=true\/z=y:=by
   grind
  rw[e,zzL26]
  constructor
  ·grind
  ·rintro(h|h|h)
   ·exact .inl (.inl h)
   ·exact .inl (.inr h)
   ·exact .inr h
def sw(S:Nat->List Nat)(o:List Bool):Nat->List Bool
 | 0=>o
 | i+1=>if(sw S o i).getD i false=true then mk (sw S o i) (S i) else sw S o i
def VB(S:Nat->List Nat)(n:Nat)(o:List Bool):Nat->List Bool
 | 0=>o
 | j+1=>sw S (VB S n o j) n
section
variable {S:Nat->List Nat} {n:Nat} (hS:∀ z,z<n->∀ y∈S z,y<n)
theorem sw_len(o:List Bool):∀ i,(sw S o i).length=o.length:=by
 intro i
 induction i with
 | zero=>rfl
 | succ i ih=>unfold sw;split;rw[t6,ih];exact ih
theorem qs(o:List Bool):∀ j,(VB S n o j).length=o.length:=by
 intro j
 induction j with
 | zero=>rfl
 | succ j ih=>unfold VB;rw[sw_len,ih]
include hS
theorem NB{o:List Bool}(ho:o.length=n):∀ i,i<=n->∀ z,o.getD z false=true->(sw S o i).getD z false=true:=by
 intro i
 induction i with
 | zero=>intro _ z h;exact h
 | succ i ih=>
  intro hi z h;unfold sw
  split
  ·exact(mk_at  _ _ (by rw[sw_len];exact ho) (hS i (by omega)) z).2 (.inl (ih (by omega) z h))
  ·exact ih (by omega) z h
theorem nD{o:List Bool}{r:Nat}(ho:o.length=n)(h:∀ z,o.getD z false=true->Rch S r z):∀ i,i<=n->∀ z,(sw S o i).getD z false=true->Rch S r z:=by
 intro i
 induction i with
 | zero=>intro _ z hz;exact h z hz
 | succ i ih=>
  intro hi z hz;unfold sw at hz
  split at hz
  ·rename_i hsi
   rcases(mk_at  _ _ (by rw[sw_len];exact ho) (hS i (by omega)) z).1 hz with h1|h1
   ·exact ih (by omega) z h1
   ·exact(ih (by omega) i hsi).tail h1
  ·exact ih (by omega) z hz
theorem rE{o:List Bool}(ho:o.length=n):∀ i,i<=n->∀ j,j<i->o.getD j false=true->∀ y∈S j,(sw S o i).getD y false=true:=by
 intro i
 induction i with
 | zero =>  omega
 | succ i ih=>
  intro hi j hj hoj y hy;unfold sw
  by_cases hji:j=i
  ·subst hji;have h1:=NB hS ho j (by omega) j hoj;rw[if_pos h1];exact(mk_at  _ _ (by rw[sw_len];exact ho) (hS j (by omega)) y).2 (.inr hy)
  ·have h1:=ih (by omega) j (by omega) hoj y hy
   split
   ·exact(mk_at  _ _ (by rw[sw_len];exact ho) (hS i (by omega)) y).2 (.inl h1)
   ·exact h1
theorem jo{o:List Bool}(ho:o.length=n)(hc:∀ j,j<n->o.getD j false=true->∀ y∈S j,o.getD y false=true):∀ i,i<=n->∀ z,(sw S o i).getD z false=true->o.getD z false=true:=by
 intro i
 induction i with
 | zero=>intro _ z h;exact h
 | succ i ih=>
  intro hi z hz;unfold sw at hz
  split at hz
  ·rcases(mk_at  _ _ (by rw[sw_len];exact ho) (hS i (by omega)) z).1 hz with h1|h1
   ·exact ih (by omega) z h1
   ·grind
  ·exact ih (by omega) z hz
theorem FY{r:Nat}(hr:r<n)(z:Nat):(VB S n ((List.replicate n false).set r true) n).getD z false=true↔Rch S r z:=by
 let o0:=(List.replicate n false).set r true
 have ho0:o0.length=n:=by simp[o0]
 have hat0:∀ z,o0.getD z false=true↔z=r:=λz=>by
  grind
 have hlen:∀ j,(VB S n o0 j).length=n:=λj=>by rw[qs,ho0]
 have hsound:∀ j z,(VB S n o0 j).getD z false=true->Rch S r z:=by
  intro j
  induction j with
  | zero=>intro z hz;rw[(hat0 z).1 hz];exact .refl _
  | succ j ih=>intro z hz;exact nD hS (hlen j) ih n (zzL5 _) z hz
 have hmono:∀ j,∀ z,o0.getD z false=true->(VB S n o0 j).getD z false=true:=by
  intro j
  induction j with
  | zero=>intro z h;exact h
  | succ j ih=>intro z h;exact NB hS (hlen j) n (zzL5 _) z (ih z h)
 let C:Nat->Prop:=λj=>∀ i,i<n->(VB S n o0 j).getD i false=true->∀ y∈S i,(VB S n o0 j).getD y false=true
 have key:∀ j,C j\/ar n (λz=>(VB S n o0 j).getD z false)+j+1<=n:=by
  intro j
  induction j with
  | zero=>
   refine .inr ?_;have h1:=AP (n:=n) (s:=λ_=>false) hr rfl
   have e:upd (λ_=>false) r=λz=>(VB S n o0 0).getD z false:=by
    funext z
    rw[IR,upd_true]
    show _↔o0.getD z false=true
    rw[hat0]
    simp
   rw[e]at h1
   have hcl:ar n (λ_=>false)=n:=by
    unfold ar;rw[List.filter_eq_self.2 (by simp)]
    simp
   omega
  | succ j ih=>
   by_cases hc:C j
   ·refine .inl λi hi h y hy=>?_;have h1:=jo hS (hlen j) hc n (zzL5 _) i h;exact NB hS (hlen j) n (zzL5 _) y (hc i hi h1 y hy)
   ·rcases ih with ih|ih
    ·exact(hc ih).elim
    ·refine .inr ?_
     have hex:∃ i,i<n/\(VB S n o0 j).getD i false=true/\∃ y,y∈S i/\(VB S n o0 j).getD y false=false:=by
      grind
     obtain⟨i,hi,h1,y,hy,h2⟩:=hex;have h3:=rE hS (hlen j) n (zzL5 _) i hi h1 y hy;have hyn:=hS i hi y hy;have h4:=AP (n:=n) (s:=λz=>(VB S n o0 j).getD z false) hyn h2
     have h5:ar n (λz=>(VB S n o0 (j+1)).getD z false)<=ar n (upd (λz=>(VB S n o0 j).getD z false) y):=au λz hz=>by
      rcases upd_true.1 hz with rfl|hz
      ·exact h3
      ·exact NB hS (hlen j) n (zzL5 _) z hz
     omega
 constructor
 ·exact hsound n z
 ·intro hrch
  have hlt:∀ x z,Rch S x z->x<n->z<n/\((VB S n o0 n).getD x false=true->(VB S n o0 n).getD z false=true):=by
   intro x z hxz
   induction hxz with
   | refl x=>exact λhx=>⟨hx,id⟩
   | @head x y z hy _ ih=>
    grind
  exact(hlt r z hrch hr).2 (hmono n r ((hat0 r).2 rfl))
end
def pos:List Nat->Nat->Nat
 | [],_=>0
 | x::l,z=>if x=z then 0 else pos l z+1
theorem PK(x:Nat)(l:List Nat)(z:Nat):pos (x::l) z=if x=z then 0 else pos l z+1:=rfl
theorem qo{A l:List Nat}{z:Nat}(h:z∉A):pos (A++l) z=A.length+pos l z:=by
 induction A with
 | nil=>simp
 | cons x A ih=>
  have h1:x≠z:=λe=>h (by grind);have h2 :=λe=>h (Jz _ e);rw[KU,PK,if_neg h1,ih h2,AA];omega
theorem MZ{P:List Nat}(hd:P.Nodup){i:Nat}(hi:i<P.length):P[i]∉P.take i/\pos P P[i]=i:=by
 have e:P=P.take i++P[i]::P.drop (i+1):=by simp_all
 have hn:P[i]∉P.take i:=by
  grind
 refine⟨hn,?_⟩
 have h2:pos (P.take i++P[i]::P.drop (i+1)) P[i]=i:=by
  rw[qo hn]
  have:pos (P[i]::P.drop (i+1)) P[i]=0:=by rw[PK,if_pos rfl]
  rw[ GO];omega
 rw[<- e]at h2;exact h2
theorem ax(d:Array Int)(hs:∀ i j,i<=j->j<d.size->d[i]!<=d[j]!):∀ m,m<=d.size->(∀ x∈Lib.compactUpTo d m,∃ j,j<m/\x=d[j]!)/\(∀ j,j<m->d[j]!∈Lib.compactUpTo d m)/\(Lib.compactUpTo d m).Pairwise (·<·):=by
 intro m
 induction m with
 | zero=>intro _;exact⟨(λx hx=>by simp[Lib.compactUpTo]at hx),(λj hj=>by omega),by simp[Lib.compactUpTo]⟩
 | succ m ih=>
  intro hm;obtain⟨h1,h2,h3⟩:=ih (by omega);rw[Lib.compactUpTo_succ]
  cases hk:Lib.keeps d m with
  | true=>
   rw[if_pos rfl];refine⟨λx hx=>?_,λj hj=>?_,?_⟩
   ·grind
   ·grind
   ·rw[zzL115];refine⟨h3,List.pairwise_singleton _ _,λx hx y hy=>?_⟩;obtain⟨j,hj,rfl⟩:=h1 x hx
    have hy':y=d[m]!:=by simpa using hy
    subst hy'
    have hk':m=0\/d[m]!≠d[m-1]!:=by simpa [Lib.keeps] using hk
    rcases hk' with h0|h0
    ·omega
    ·have a1:=hs j (m-1) (by omega) (by omega);have a2:=hs (m-1) m (by omega) (by omega);omega
  | false=>
   have hk':m≠0/\d[m]! = d[m-1]!:=by
    have:¬ (m=0\/d[m]!≠d[m-1]!):=by
     intro h
     have:Lib.keeps d m=true:=by simpa [Lib.keeps] using h
     rw[hk]at this;cases this
    exact⟨λh=>this (.inl h),Classical.not_not.1 λh=>this (.inr h)⟩
   simp only[QX,Gk,List.append_nil];refine⟨λx hx=>by grind,λj hj=>?_,h3⟩
   by_cases hjm:j=m
   ·subst hjm;rw[hk'.2];exact h2 _ (by omega)
   ·exact h2 j (by omega)
def KK(l:List Int):List Int:=Lib.compact (l.mergeSort λx y=>decide (x<=y))
theorem II(l:List Int):(KK l).Pairwise (·<·)/\∀ x,x∈KK l↔x∈l:=by
 unfold KK Lib.compact;have hp:(l.mergeSort _).Pairwise (λa b=>decide (a<=b)=true):=List.pairwise_mergeSort (λa b c h1 h2=>by simp at *;omega) (λa b=>by simp;omega) l;have hm:∀ x,x∈(l.mergeSort λx y=>decide (x<=y))↔x∈l:=λx=>List.mem_mergeSort
 generalize l.mergeSort _=z at hp hm ⊢
 have hz:∀ j,j<z.length->z.toArray[j]! = z.getD j 0:=λj hj=>by simp[ hj]
 obtain⟨h1,h2,h3⟩:=ax z.toArray (λi j hij hj=>by
  have hj' :=by simpa using hj
  rw[hz i (by omega),hz j hj']
  by_cases he:i=j
  ·grind
  ·have:=(zzL86.1 hp) i j (by omega) hj' (by omega);rw[Ai _ _ _ _,Ai _ _ _ hj']
   simpa using this) z.length (by simp)
 refine⟨h3,λx=>?_⟩;rw[<- hm x]
 constructor
 ·grind
 ·intro hx;obtain⟨j,hj,rfl⟩:=Lm hx;have:=h2 j hj;rwa[hz j hj,Ai _ _ _ hj]at this
def uP(n:Nat)(l:List Int):Bool:=(List.range l.length).all λi=>decide (0<l.getD i 0)&&decide (l.getD i 0<(n:Int))
def GJ(k:Int):Int:=([0,1,2,0]:List Int).getD k.toNat 0
def OG(e:Eo):Bool:=(decide (0<=e.Kind)&&decide (e.Kind<=3))&&decide ((e.To.length:Int)=GJ e.Kind)
def Of(e:Eo)(n:Nat):Bool:=OG e&&uP n e.To
theorem toB_iff{n:Nat}{l:List Int}:uP n l=true↔∀ x∈l,0<x/\x<n:=by
 unfold uP;rw[all_range];simp only[A9,Gj]
 constructor
 ·intro h x hx;obtain⟨i,hi,rfl⟩:=Lm hx;have:=h i hi;rwa[Ai _ _ _ hi]at this
 ·simp_all
theorem li(e:Eo)(n:Nat)(hl:e.To.length<4611686018427387904):Af (Ef e (n:Int)) (0:Int)=some (bif uP n e.To then .inl () else .inr false):=by
 have step:∀ j ,j<e.To.length->Ef e n j=bif (decide (0<e.To.getD j 0)&&decide (e.To.getD j 0<n)) then some (.next ((j+1:Int))) else some _:=λj hj=>by
  unfold Ef;simp only[A2,Er hj, Uj,w1 (show j<4611686018427387904 by omega)];rw[Ah (M7 hj)]
  by_cases h0:e.To.getD j 0=0
  ·rw[h0];rfl
  ·grind
 have:=Qz (Ef e n) (λj=>(j:Nat)) (λi=>decide (0<e.To.getD i 0)&&decide (e.To.getD i 0<n)) (.inl ()) (.inr false) e.To.length (λj hj hp=>?_) (λj hj hp=>?_) ?_
 ·exact this
 ·grind
 ·rw[step j hj,hp];rfl
 ·unfold Ef;simp only[Ir,Bi]
theorem EV(e:Eo)(n:Nat)(w:Int)(hw:0<=w/\w<=2) :
  (bif ((e.To.length:Int)!=w) then(some false) else((Af (Ef e (n:Int)) (0:Int)).bind (λx10=>(match x10 with|(.inl _)=>(some true)|(.inr r12)=>(some r12)))))=some (decide ((e.To.length:Int)=w)&&uP n e.To):=by
 by_cases h:e.To.length=w
 ·rw[show(e.To.length !=w)=false by simpa using h, li e n (by omega),H8 h]
  cases uP n _<;>rfl
 ·grind
theorem jO(e:Eo)(n:Nat):Me e (n:Int)=some (Of e n):=by
 unfold Me Of OG
 by_cases h0:e.Kind=0
 ·rw[h0];exact EV e n 0 (by omega)
 by_cases h1:e.Kind=1
 ·rw[h1];exact EV e n 1 (by omega)
 by_cases h2:e.Kind=2
 ·rw[h2];exact EV e n 2 (by omega)
 by_cases h3:e.Kind=3
 ·rw[h3];exact EV e n 0 (by omega)
 have e0:(e.Kind==0)=false:=by rw[zzL43];exact h0
 have e1:(e.Kind==1)=false:=by rw[zzL43];exact h1
 have e2:(e.Kind==2)=false:=by rw[zzL43];exact h2
 have e3:(e.Kind==3)=false:=by rw[zzL43];exact h3
 rw[e0,e1,e2,e3]
 have:(decide (0<=e.Kind)&&decide (e.Kind<=3))=false:=by
  by_cases h:0<=e.Kind
  ·rw[J0 (show ¬ e.Kind<=3 by omega)];simp
  ·rw[J0 h];rfl
 rw[this]
 rfl
theorem ln{e:Eo}{n:Nat}(h:Of e n=true):e.To.length<=2:=by
 unfold Of OG at h;simp only[A9,Gj]at h;obtain⟨⟨⟨h0,h1⟩,h2⟩,_⟩:=h
 have:GJ e.Kind<=2:=by
  have:e.Kind=0\/e.Kind=1\/e.Kind=2\/e.Kind=3:=by omega
  rcases this with h|h|h|h<;>rw[h]<;>decide
 omega
theorem gE{e:Eo}{n:Nat}(h:Of e n=true):uP n e.To=true:=by unfold Of at h;exact(A9 _ _▸h).2
def Re(f:Aa)(i:Nat):Eo:=(f.Blocks.getD i (default:Ab)).End
def Da(f:Aa):List (List Int):=(List.range f.Blocks.length).map λi=>KK (Re f i).To
def Zn(f:Aa):Bool:=(decide (1<=f.Blocks.length)&&decide (f.Blocks.length<=64))&&(List.range f.Blocks.length).all λi=>Of (Re f i) f.Blocks.length
theorem shape_iff{f:Aa}:Zn f=true↔(1<=f.Blocks.length/\f.Blocks.length<=64)/\∀ i,i<f.Blocks.length->Of (Re f i) f.Blocks.length=true:=by
 unfold Zn;rw[A9,A9,all_range];simp only[Gj]
theorem qx{f:Aa}{i:Nat}(h:Of (Re f i) f.Blocks.length=true):oO f.Blocks.length (KK (Re f i).To)=true:=by
 obtain⟨h1,h2⟩:=II (Re f i).To;exact uA (λx hx=>by have:=(toB_iff.1 (gE h)) x ((h2 x).1 hx);omega) h1
theorem Uw{f:Aa}(h:Zn f=true):Ob (Da f)=true:=by
 obtain⟨⟨h1,h2⟩,h3⟩:=shape_iff.1 h
 have hl:(Da f).length=f.Blocks.length:=by simp[Da]
 refine mayS_iff.2 ⟨by omega,by omega,λi hi=>?_⟩;rw[hl]at hi ⊢;unfold Da;rw[Vn hi];exact qx (h3 i hi)
theorem wF(f:Aa)(hf:f.Blocks.length<=maxLen):Rk f=some (bif Zn f then(EY (Da f),0) else(g0,5)):=by
 have hroom:(1000:Nat)<=room:=by decide
 unfold Rk;rw[UM,A1];have hsh:Zn f=((decide (1<=f.Blocks.length)&&decide (f.Blocks.length<=64))&&(List.range f.Blocks.length).all λi=>Of (Re f i) f.Blocks.length):=rfl
 cases hc:(decide (1<=f.Blocks.length)&&decide (f.Blocks.length<=64)) with
 | false=>rw[hsh,hc];rfl
 | true=>
  have hc':=hc;simp only[A9,Gj]at hc';simp only[J1,Bi];rw[Ah ⟨by omega,Int.le_refl _,by omega⟩,A2]
  let U:Nat->List (List Int):=λi=>(List.range f.Blocks.length).map λj=>if j<i then KK (Re f j).To else[]
  have e0:List.replicate f.Blocks.length ([]:List Int)=U 0:=by
   simp only[U]
   apply List.ext_getElem?
   intro j
   by_cases hj:j<f.Blocks.length<;>simp[hj,List.getElem?_replicate]
  have eN:U f.Blocks.length=Da f:=by
   simp only[U,Da]
   apply Ul
   intro j hj;rw[if_pos hj]
  rw[e0]
  have hstep:∀ i:Nat,i<f.Blocks.length->Fs f ((i:Int),U i)=bif Of (Re f i) f.Blocks.length then some (.next (((i+1:Nat):Int),U (i+1))) else some (.done (.inr (g0,5))):=λi hi=>by
   unfold Fs;simp only[Er hi,Aj,A2];rw[Ah (M7 hi)];have he:(⟨(f.Blocks.getD i (default:Ab)).End.Kind,(f.Blocks.getD i (default:Ab)).End.Arg,(f.Blocks.getD i (default:Ab)).End.To⟩:Eo)=Re f i:=rfl;rw[he,jO,A1]
   cases hfit:Of (Re f i) f.Blocks.length with
   | false=>rfl
   | true=>
    have hl2:=ln hfit;simp only[J1,Bi,Aj]
    have hx:GL (f.Blocks.getD i (default:Ab)).End.To=some (KK (Re f i).To):=by
     unfold GL;rw[gP,Ah (by show(Re f i).To.length<=_;omega)]
     rfl
    rw[hx,A1,Ah (M7 (by simp[U];omega)),w1 (by omega)]
    congr 3
    simp only[U];rw[YB]
    apply Ul
    intro j hj
    by_cases h1:j=i
    ·subst h1;rw[if_pos rfl,if_pos (by omega)]
    ·rw[if_neg h1]
     by_cases h2:j<i
     ·rw[if_pos h2,if_pos (by omega)]
     ·rw[if_neg h2,if_neg (by omega)]
  have:=Qz (Fs f) (λi=>(((i:Nat):Int),U i)) (λi=>Of (Re f i) f.Blocks.length) (.inl (U f.Blocks.length)) (.inr (g0,5)) f.Blocks.length (λi hi hp=>?_) (λi hi hp=>?_) ?_
  ·rw[show Af (Fs f) ((0:Int),U 0)=_ from this,hsh,hc,eN,Kz]
   cases hall:(List.range f.Blocks.length).all λi=>Of (Re f i) f.Blocks.length with
   | false=>rfl
   | true=>
    simp only[Aj,A1];rw[bZ _ (Uw (by rw[hsh,hc,hall];rfl))]
    rfl
  ·show Fs f (_,_)=_
   rw[hstep i hi,hp];rfl
  ·show Fs f (_,_)=_
   rw[hstep i hi,hp];rfl
  ·show Fs f (_,_)=_
   unfold Fs;simp only[Ir,Bi]
inductive Rc (S:Nat->List Nat) (r:Nat):Nat->Prop
 | root:Rc S r r
 | step {x y:Nat} (h:Rc S r x) (hy:y∈S x):Rc S r y
inductive Av (S:Nat->List Nat) (r z:Nat):Nat->Prop
 | root (h:r≠z):Av S r z r
 | step {x y:Nat} (h:Av S r z x) (hy:y∈S x) (hz:y≠z):Av S r z y
inductive AvN (S:Nat->List Nat) (r z:Nat):Nat->Nat->Prop
 | root (h:r≠z) (k:Nat):AvN S r z k r
 | step {k x y:Nat} (h:AvN S r z k x) (hy:y∈S x) (hz:y≠z):AvN S r z (k+1) y
section
variable {S:Nat->List Nat} {r:Nat}
theorem rc_iff{x:Nat}:Rc S r x↔Rch S r x:=by
 constructor
 ·intro h
  induction h with
  | root=>exact .refl _
  | step _ hy ih=>exact ih.tail hy
 ·intro h
  have key:∀ a b,Rch S a b->Rc S r a->Rc S r b:=by
   intro a b hab
   induction hab with
   | refl x=>exact id
   | head hy _ ih=>exact λha=>ih (.step ha hy)
  exact key _ _ h .root
def wo(S:Nat->List Nat)(z:Nat):Nat->List Nat:=λx=>(S x).filter λy=>decide (y≠z)
theorem av_iff{z x:Nat}:Av S r z x↔r≠z/\Rch (wo S z) r x:=by
 constructor
 ·intro h
  induction h with
  | root h=>exact⟨h,.refl _⟩
  | step _ hy hz ih=>exact⟨ih.1,ih.2.tail (zzL110.2 ⟨hy,by simpa using hz⟩)⟩
 ·rintro⟨hr,h⟩
  have key:∀ a b,Rch (wo S z) a b->Av S r z a->Av S r z b:=by
   intro a b hab
   induction hab with
   | refl x=>exact id
   | head hy _ ih=>
    obtain⟨h1,h2⟩:=zzL110.1 hy;exact λha=>ih (.step ha h1 (by simpa using h2))
  exact key _ _ h (.root hr)
theorem Av.rc{z x:Nat}(h:Av S r z x):Rc S r x:=by
 induction h with
 | root _=>exact .root
 | step _ hy _ ih=>exact .step ih hy
theorem Av.ne{z x:Nat}(h:Av S r z x):x≠z:=by
 cases h with
 | root h=>exact h
 | step _ _ hz=>exact hz
theorem AvN.av{z k x:Nat}(h:AvN S r z k x):Av S r z x:=by
 induction h with
 | root h=>exact .root h
 | step _ hy hz ih=>exact .step ih hy hz
theorem AvN.up{z k x:Nat}(h:AvN S r z k x):AvN S r z (k+1) x:=by
 induction h with
 | root h k=>exact .root h _
 | step _ hy hz ih=>exact .step ih hy hz
theorem AvN.mono{z k m x:Nat}(h:AvN S r z k x)(hm:k<=m):AvN S r z m x:=by
 obtain⟨d,rfl⟩:=Nat.exists_eq_add_of_le hm;clear hm
 induction d with
 | zero=>exact h
 | succ d ih=>exact ih.up
theorem Av.avn{z x:Nat}(h:Av S r z x):∃ k,AvN S r z k x:=by
 induction h with
 | root h=>exact⟨0,.root h 0⟩
 | step _ hy hz ih=>obtain⟨k,hk⟩:=ih;exact⟨k+1,.step hk hy hz⟩
theorem AvN.via {z k x : Nat} (h : AvN S r z k x) (y : Nat) : AvN S r y k x ∨ AvN S r z k y := by
  induction h with
  | root h k => by_cases hy : r = y
                · subst hy; exact .inr (.root h _)
                · exact .inl (.root hy _)
  | @step k x w h hy hz ih =>
    rcases ih with h1 | h1
    · by_cases hw : w = y
      · subst hw; exact .inr (.step h hy hz)
      · exact .inl (.step h1 hy hw)
    · exact .inr h1.up
theorem ip(n:Nat):∃ K,∀ z,z<n->∀ x,x<n->Av S r z x->AvN S r z K x:=by
 have one:∀ z m,∃ K,∀ x,x<m->Av S r z x->AvN S r z K x:=by
  intro z m
  induction m with
  | zero=>simp_all
  | succ m ih=>
   obtain⟨K,hK⟩:=ih
   by_cases h:Av S r z m
   ·obtain⟨k,hk⟩:=h.avn;refine⟨max K k,λx hx ha=>?_⟩;rcases Nat.lt_succ_iff_lt_or_eq.1 hx with h1|rfl
    ·exact(hK x h1 ha).mono (Nat.le_max_left ..)
    ·exact hk.mono (Nat.le_max_right ..)
   ·refine⟨K,λx hx ha=>?_⟩;rcases Nat.lt_succ_iff_lt_or_eq.1 hx with h1|rfl
    ·exact hK x h1 ha
    ·exact absurd ha h
 have two:∀ m,∃ K,∀ z,z<m->∀ x,x<n->Av S r z x->AvN S r z K x:=by
  intro m
  induction m with
  | zero=>simp_all
  | succ m ih=>
   obtain⟨K,hK⟩:=ih;obtain⟨k,hk⟩:=one m n;refine⟨max K k,λz hz x hx ha=>?_⟩;rcases Nat.lt_succ_iff_lt_or_eq.1 hz with h1|rfl
   ·exact(hK z h1 x hx ha).mono (Nat.le_max_left ..)
   ·exact(hk x hx ha).mono (Nat.le_max_right ..)
 exact two n
end
inductive UpTo (par:Nat->Int):Nat->Nat->Prop
 | refl (x:Nat):UpTo par x x
 | up {x y z:Nat} (h:par x=(y:Int)) (t:UpTo par y z):UpTo par x z
inductive Fw (S:Nat->List Nat) (at_:Nat->Nat) (u:Nat):Nat->Prop
 | refl:Fw S at_ u u
 | step {v w:Nat} (h:Fw S at_ u v) (hw:w∈S v) (hl:at_ v<at_ w):Fw S at_ u w
section
variable {S:Nat->List Nat} {at_:Nat->Nat} {par:Nat->Int}
theorem Fw.le{u w:Nat}(h:Fw S at_ u w):at_ u<=at_ w:=by
 induction h with
 | refl=>exact zzL5 _
 | step _ _ hl ih=>omega
theorem Fw.trans{u v w:Nat}(h:Fw S at_ u v)(k:Fw S at_ v w):Fw S at_ u w:=by
 induction k with
 | refl=>exact h
 | step _ hw hl ih=>exact .step ih hw hl
theorem Fw.av{r d u w:Nat}(h:Fw S at_ u w)(ha:Av S r d u)(hd:at_ d<at_ u):Av S r d w:=by
 induction h with
 | refl=>exact ha
 | @step v w h hw hl ih=>exact .step ih hw (by rintro rfl;have:=h.le;omega)
theorem UpTo.trans{x y z:Nat}(h:UpTo par x y)(k:UpTo par y z):UpTo par x z:=by
 induction h with
 | refl x=>exact k
 | up h _ ih=>exact .up h (ih k)
theorem anc_up{x p z:Nat}(h:par x=(p:Int)):UpTo par x z↔z=x\/UpTo par p z:=by
 constructor
 ·intro k
  cases k with
  | refl=>exact .inl rfl
  | up h' t=>grind
 ·rintro(rfl|k)
  ·exact .refl _
  ·exact .up h k
theorem ML{x z:Nat}(h:∀ p:Nat,par x≠(p:Int)):UpTo par x z↔z=x:=by
 constructor
 ·intro k
  cases k with
  | refl=>rfl
  | up h' t=>exact absurd h' (h _)
 ·rintro rfl;exact .refl _
structure Inv(S:Nat->List Nat)(r n:Nat)(at_:Nat->Nat)(par:Nat->Int):Prop where
 top:par r = -1
 kind:∀ x,x<n->par x = -2\/x=r\/∃ z:Nat,par x=(z:Int)
 up:∀ x,x<n->∀ z:Nat,par x=(z:Int)->z<n/\par z≠-2/\at_ z<at_ x/\Fw S at_ z x
 rc:∀ x,x<n->par x≠-2->Rc S r x
 all:∀ x,x<n->par x≠-2->∀ d,¬ UpTo par x d->Av S r d x
end
section
variable {S:Nat->List Nat} {at_:Nat->Nat} {par:Nat->Int} {r n:Nat}
theorem Inv.anc(h:Inv S r n at_ par){x z:Nat}(k:UpTo par x z)(hx:x<n)(hp:par x≠-2):z<n/\par z≠-2/\at_ z<=at_ x/\Fw S at_ z x:=by
 induction k with
 | refl x=>exact⟨hx,hp,zzL5 _,.refl⟩
 | @up x y z hxy t ih=>
  obtain⟨h1,h2,h3,h4⟩:=h.up x hx y hxy;obtain⟨i1,i2,i3,i4⟩:=ih h1 h2;exact⟨i1,i2,by omega,i4.trans h4⟩
theorem Inv.root_anc(h:Inv S r n at_ par){z:Nat}:UpTo par r z↔z=r:=ML λp hp=>by rw[h.top]at hp;omega
theorem Inv.strict(h:Inv S r n at_ par){x z:Nat}(k:UpTo par x z)(hx:x<n)(hp:par x≠-2):z=x\/at_ z<at_ x:=by
 cases k with
 | refl=>exact .inl rfl
 | up hxy t=>
  obtain⟨h1,h2,h3,h4⟩:=h.up x hx _ hxy;obtain⟨i1,i2,i3,i4⟩:=h.anc t h1 h2;exact .inr (by omega)
theorem Inv.antisymm(h:Inv S r n at_ par){x z:Nat}(k:UpTo par x z)(m:UpTo par z x)(hx:x<n)(hp:par x≠-2):z=x:=by
 rcases h.strict k hx hp with rfl|h1
 ·rfl
 ·obtain⟨i1,i2,i3,i4⟩:=h.anc k hx hp;have:=(h.anc m i1 i2).2.2.1;omega
def MeetAt(par:Nat->Int)(a b m:Nat):Prop:=∀ w,UpTo par m w↔UpTo par a w/\UpTo par b w
theorem UO{a:Nat}:MeetAt par a a a:=λw=>by simp
theorem jU{a b m:Nat}(h:MeetAt par a b m):MeetAt par b a m:=λw=>by rw[h w];exact And.comm
theorem Inv.meet_left(h:Inv S r n at_ par)(hinj:∀ x y,x<n->y<n->par x≠-2->par y≠-2->at_ x=at_ y->x=y){a b p m:Nat}(ha:a<n)(hpa:par a≠-2)(hb:b<n)(hpb:par b≠-2)(hab:a≠b)(hl:at_ b<=at_ a)(hp:par a=(p:Int))(k:MeetAt par p b m):MeetAt par a b m:=λw=>by
 rw[k w]
 constructor
 ·rintro⟨h1,h2⟩;exact⟨.up hp h1,h2⟩
 ·rintro⟨h1,h2⟩;rcases(anc_up hp).1 h1 with rfl|h1
  ·exfalso
   rcases h.strict h2 hb hpb with h3|h3
   ·exact hab h3
   ·omega
  ·exact⟨h1,h2⟩
end
section
variable {S:Nat->List Nat} {at_:Nat->Nat} {par:Nat->Int} {r n:Nat}
def O3(par:Nat->Int)(y:Nat)(v:Int):Nat->Int:=λx=>if x=y then v else par x
def dB(S:Nat->List Nat)(n:Nat)(par:Nat->Int)(y z:Nat):Prop:=∀ w,UpTo par z w↔∀ p,p<n->y∈S p->par p≠-2->UpTo par p w
theorem JL{y:Nat}{v:Int}{x z:Nat}(k:UpTo par x z)(hy:¬ UpTo par x y):UpTo (O3 par y v) x z:=by
 induction k with
 | refl x=>exact .refl _
 | @up x q z h t ih=>
  have hxy:x≠y:=by rintro rfl;exact hy (.refl _)
  refine .up  ?_ (ih λk=>hy (.up h k));unfold O3;rw[if_neg hxy];exact h
theorem ZX{y:Nat}{v:Int}{x:Nat}(k:UpTo par x y):UpTo (O3 par y v) x y:=by
 induction k with
 | refl x=>exact .refl _
 | @up x q z h t ih=>
  by_cases hxy:x=z
  ·subst hxy;exact .refl _
  ·refine .up  ?_ ih;unfold O3;rw[if_neg hxy];exact h
theorem anc_upd_inv{y:Nat}{v:Int}{x w:Nat}(k:UpTo (O3 par y v) x w):UpTo par x w\/(UpTo par x y/\UpTo (O3 par y v) y w):=by
 induction k with
 | refl x=>exact .inl (.refl _)
 | @up x q w h t ih=>
  by_cases hxy:x=y
  ·subst hxy;exact .inr ⟨.refl _,.up h t⟩
  ·unfold O3 at h;rw[if_neg hxy]at h;rcases ih with h1|⟨h1,h2⟩
   ·exact .inl (.up h h1)
   ·exact .inr ⟨.up h h1,h2⟩
theorem low_or{y:Nat}{v:Int}{x d:Nat}(k:UpTo par x y)(hd:UpTo par x d):UpTo par y d\/UpTo (O3 par y v) x d:=by
 induction k with
 | refl x=>exact .inl hd
 | @up x q y hq t ih=>
  by_cases e:x=y
  ·subst e;exact .inl hd
  ·rcases(anc_up hq).1 hd with rfl|k
   ·exact .inr (.refl _)
   ·rcases ih k with h1|h1
    ·exact .inl h1
    ·exact .inr (.up  (by unfold O3;rw[if_neg e];exact hq) h1)
structure Better(S:Nat->List Nat)(r n:Nat)(at_:Nat->Nat)(par:Nat->Int)(y z:Nat):Prop where
 inv:Inv S r n at_ par
 hy:y<n
 hr:y≠r
 hz:z<n
 best:dB S n par y z
 fwd:∃ p,p<n/\y∈S p/\par p≠-2/\at_ p<at_ y
variable {y z:Nat}
theorem Better.zlt(h:Better S r n at_ par y z):UpTo par z z/\par z≠-2/\at_ z<at_ y/\Fw S at_ z y:=by
 obtain⟨p,hp,hyp,hpp,hl⟩:=h.fwd;obtain⟨h1,h2,h3,h4⟩:=h.inv.anc ((h.best z).1 (.refl _) p hp hyp hpp) hp hpp;exact⟨.refl _,h2,by omega,.step h4 hyp hl⟩
theorem Better.above(h:Better S r n at_ par y z){w:Nat}:UpTo (O3 par y z) z w↔UpTo par z w:=by
 obtain⟨_,h2,h3,_⟩:=h.zlt
 have hn:¬ UpTo par z y:=λk=>by have:=(h.inv.anc k h.hz h2).2.2.1;omega
 constructor
 ·intro k;rcases anc_upd_inv k with h1|⟨h1,_⟩
  ·exact h1
  ·exact absurd h1 hn
 ·intro k;exact JL k hn
theorem Better.here(h:Better S r n at_ par y z){w:Nat}:UpTo (O3 par y z) y w↔w=y\/UpTo par z w:=by
 rw[anc_up (p:=z) (by simp[O3]),h.above]
theorem Better.av_here(h:Better S r n at_ par y z){d:Nat}(hd:¬ UpTo (O3 par y z) y d):Av S r d y:=by
 rw[h.here]at hd;have h1:¬ ∀ p,p<n->y∈S p->par p≠-2->UpTo par p d:=λhh=>hd (.inr ((h.best d).2 hh));simp only[Classical.not_forall]at h1;obtain⟨p,hp,hyp,hpp,hnp⟩:=h1;exact .step (h.inv.all p hp hpp d hnp) hyp λe=>hd (.inl e.symm)
theorem Better.inv'(h:Better S r n at_ par y z):Inv S r n at_ (O3 par y z):=by
 obtain⟨hzz,hz2,hzl,hzf⟩:=h.zlt;obtain⟨p,hp,hyp,hpp,hl⟩:=h.fwd
 have hne:∀ x,O3 par y z x≠-2->x=y\/par x≠-2:=λx hx=>by
  by_cases e:x=y
  ·exact .inl e
  ·unfold O3 at hx;rw[if_neg e]at hx;exact .inr hx
 have hyv:O3 par y z y=z:=by simp[O3]
 have hyo:∀ x,x≠y->O3 par y z x=par x:=λx e=>by unfold O3;rw[if_neg e]
 refine⟨by rw[hyo _ (M2 h.hr)];exact h.inv.top,λx hx=>?_,λx hx w hw=>?_,λx hx hxp=>?_,λx hx hxp d hd=>?_⟩
 ·by_cases e:x=y
  ·grind
  ·rw[hyo x e];exact h.inv.kind x hx
 ·have hzn:∀ w,par w≠-2->O3 par y z w≠-2:=λw hw=>by
   grind
  by_cases e:x=y
  ·subst e;rw[hyv]at hw
   cases IU hw
   exact⟨h.hz,hzn _ hz2,hzl,hzf⟩
  ·rw[hyo x e]at hw;obtain⟨h1,h2,h3,h4⟩:=h.inv.up x hx w hw;exact⟨h1,hzn _ h2,h3,h4⟩
 ·rcases hne x hxp with rfl|h1
  ·exact .step (h.inv.rc p hp hpp) hyp
  ·exact h.inv.rc x hx h1
 ·by_cases e:x=y
  ·subst e;exact h.av_here hd
  ·rw[hyo x e]at hxp
   by_cases hxd:UpTo par x d
   ·
    by_cases hxy:UpTo par x y
    ·have hyd :=λk=>hd ((ZX hxy).trans k);have hav:=h.av_here hyd;have hf:=(h.inv.anc hxy hx hxp).2.2.2
     have hdy:UpTo par y d:=by
      rcases low_or  hxy hxd with h1|h1
      ·exact h1
      ·exact absurd h1 hd
     by_cases hpy:par y = -2
     ·
      have :=by
       refine(ML  λp hp=>?_).1 hdy;rw[hpy]at hp;omega
      subst this;exact absurd (.refl _) hyd
     ·rcases h.inv.strict hdy h.hy hpy with rfl|hlt
      ·exact absurd (.refl _) hyd
      ·exact hf.av hav hlt
    ·exact absurd (JL hxd hxy) hd
   ·exact h.inv.all x hx hxp d hxd
end
section
variable {S:Nat->List Nat} {at_:Nat->Nat} {par:Nat->Int} {r n:Nat}
def QB(S:Nat->List Nat)(r n:Nat)(par:Nat->Int)(b:Nat->Nat):Prop:=∀ x,x<n->par x≠-2->∀ z,AvN S r z (b x) x->¬ UpTo par x z
def dC(S:Nat->List Nat)(r n:Nat)(par:Nat->Int):Prop:=∀ x,x<n->Rc S r x->par x≠-2
def fc(S:Nat->List Nat)(r n:Nat)(par:Nat->Int):Prop:=∀ x,x<n->par x≠-2->∀ d,UpTo par x d↔¬ Av S r d x
theorem qr(h:Inv S r n at_ par):QB S r n par λ_=>0:=λx hx hp z hz k=>by
 cases hz with
 | root hr _=>exact hr (h.root_anc.1 k).symm
theorem gq(hS:∀ x,x<n->∀ w∈S x,w<n)(hr:r<n){x:Nat}(h:Rc S r x):x<n:=by
 induction h with
 | root=>exact hr
 | step _ hy ih=>exact hS _ ih _ hy
theorem Better.qb{y z k:Nat}{b:Nat->Nat}(h:Better S r n at_ par y z)(hS:∀ x,x<n->∀ w∈S x,w<n)(hrn:r<n)(full:dC S r n par)(hb:∀ x,x<n->k<=b x/\b x<=k+1)(q:QB S r n par b) :
  QB S r n (O3 par y z) λx=>if x=y then k+1 else b x:=by
 have here:∀ w,AvN S r w (k+1) y->¬ UpTo _ y w:=λw hw hu=>by
  rcases h.here.1 hu with rfl|hu
  ·exact hw.av.ne rfl
  ·cases hw with
   | root hr _=>exact h.hr rfl
   | @step _ p _ hp hyp hne=>
    have hpn:=gq hS hrn hp.av.rc;have hpp:=full p hpn hp.av.rc;exact q p hpn hpp w (hp.mono (hb p hpn).1) ((h.best w).1 hu p hpn hyp hpp)
 intro x hx hxp w hw hu
 dsimp only at hw
 by_cases e:x=y
 ·grind
 ·rw[if_neg e]at hw;unfold O3 at hxp;rw[if_neg e]at hxp;rcases anc_upd_inv hu with h1|⟨h1,h2⟩
  ·exact q x hx hxp w hw h1
  ·rcases hw.via y with h3|h3
   ·exact q x hx hxp y h3 h1
   ·exact here w (h3.mono (hb x hx).2) h2
theorem lj(h:Inv S r n at_ par){K:Nat}(hK:∀ z,z<n->∀ x,x<n->Av S r z x->AvN S r z K x)(q:QB S r n par λ_=>K):fc S r n par:=λx hx hp d=>by
 constructor
 ·intro hu ha;exact q x hx hp d (hK d (h.anc hu hx hp).1 x hx ha) hu
 ·intro ha;exact iC λhn=>ha (h.all x hx hp d hn)
theorem Better.same{y z:Nat}(h:Better S r n at_ par y z)(hS:∀ x,x<n->∀ w∈S x,w<n)(hrn:r<n)(full:dC S r n par)(hy2:par y≠-2)(ex:fc S r n par):par y=(z:Int):=by
 obtain⟨hzz,hz2,hzl,hzf⟩:=h.zlt;rcases h.inv.kind y h.hy with h1|h1|⟨q,hq⟩
 ·exact absurd h1 hy2
 ·exact absurd h1 h.hr
 ·obtain⟨q1,q2,q3,q4⟩:=h.inv.up y h.hy q hq
  have key:∀ w,UpTo par z w↔UpTo par q w:=λw=>by
   rw[h.best w]
   constructor
   ·intro hall
    have hwy:¬ Av S r w y:=λha=>by
     cases ha with
     | root _=>exact h.hr rfl
     | @step p _ hp hyp hne=>
      have hpn:=gq hS hrn hp.rc;have hpp:=full p hpn hp.rc;exact(ex p hpn hpp w).1 (hall p hpn hyp hpp) hp
    rcases(anc_up hq).1 ((ex y h.hy hy2 w).2 hwy) with rfl|hu
    ·have:=(h.inv.anc ((h.best _).2 hall) h.hz hz2).2.2.1;omega
    ·exact hu
   ·intro hu p hp hyp hpp;have hwy:UpTo par y w:=.up hq hu;refine(ex p hp hpp w).2 λha=>?_
    have hne:y≠w:=by rintro rfl;have:=(h.inv.anc hu q1 q2).2.2.1;omega
    exact(ex y h.hy hy2 w).1 hwy (.step ha hyp hne)
  have:=h.inv.antisymm ((key q).2 (.refl _)) ((key z).1 (.refl _)) h.hz hz2;rw[hq,this]
theorem jH(h:Inv S r n at_ par)(hS:∀ x,x<n->∀ w∈S x,w<n)(hrn:r<n)(full:dC S r n par)(fix:∀ y,y<n->y≠r->Rc S r y->∃ z:Nat,par y=(z:Int)/\dB S n par y z):fc S r n par:=λx hx hp d=>by
 constructor
 ·intro hu ha
  induction ha with
  | root hne=>exact hne (h.root_anc.1 hu).symm
  | @step p y hp' hyp hne ih=>
   have hpn:=gq hS hrn hp'.rc;have hpp:=full p hpn hp'.rc
   by_cases e:y=r
   ·subst e;exact hne (h.root_anc.1 hu).symm
   ·obtain⟨z,hz,hb⟩:=fix y hx e (.step hp'.rc hyp);rcases(anc_up hz).1 hu with rfl|hu
    ·exact hne rfl
    ·exact ih hpn hpp ((hb d).1 hu p hpn hyp hpp)
 ·intro ha;exact iC λhn=>ha (h.all x hx hp d hn)
end
def Bo(t:List Int):Nat->Int:=λx=>t.getD x 0
theorem cD{t:List Int}{y:Nat}{v:Int}(hy:y<t.length):Bo (t.set y v)=O3 (Bo t) y v:=by
 funext x
 unfold Bo O3
 by_cases e:x=y
 ·grind
 ·grind
open Classical in
def Mj(S:Nat->List Nat)(n:Nat)(t:List Int)(y:Nat):Nat:=if h:∃ z,z<n/\dB S n (Bo t) y z then Classical.choose h else 0
def X1(S:Nat->List Nat)(n:Nat)(P:List Nat)(t:List Int):Nat->List Int
 | 0=>t
 | i+1=>(X1 S n P t i).set (P.getD i 0) (Mj S n (X1 S n P t i) (P.getD i 0):Int)
def RW(S:Nat->List Nat)(n:Nat)(P:List Nat)(t:List Int):Nat->List Int
 | 0=>t
 | j+1=>X1 S n P (RW S n P t j) P.length
def Gw(n r:Nat):List Int:=(List.replicate n (-2:Int)).set r (-1)
structure Ordered(S:Nat->List Nat)(r n:Nat)(P:List Nat):Prop where
 hr:r<n
 hS:∀ x,x<n->∀ w∈S x,w<n
 nodup:(r::P).Nodup
 mem:∀ x,x∈r::P↔Rc S r x
 fwd:∀ i,i<P.length->∃ p,p∈r::P.take i/\P.getD i 0∈S p
section
variable {S:Nat->List Nat} {r n:Nat} {P:List Nat}
theorem Ordered.lt(o:Ordered S r n P){x:Nat}(h:x∈r::P):x<n:=gq o.hS o.hr ((o.mem x).1 h)
theorem Ua{i:Nat}(hi:i<P.length):P.getD i 0∈P:=by grind
theorem Ordered.at_lt(o:Ordered S r n P){i:Nat}(hi:i<P.length){p:Nat}(hp:p∈r::P.take i):pos (r::P) p<pos (r::P) (P.getD i 0):=by
 have hd:=o.nodup
 have h1:pos (r::P) (P.getD i 0)=i+1:=by
  have:=(MZ hd (i:=i+1) (by simpa using hi)).2;rw[Ai _ _ _ hi]
  simpa using this
 rw[h1];obtain⟨j,hj,rfl⟩:=Lm hp
 have hj':j<i+1:=by simp at hj;omega
 have hjl:j<(r::P).length:=by simp;omega
 have e:(r::P.take i)[j]=(r::P)[j]:=by
  grind
 rw[e,(MZ hd hjl).2];exact hj'
theorem yC(o:Ordered S r n P):Inv S r n (pos (r::P)) (Bo (Gw n r))/\(Gw n r).length=n/\Bo (Gw n r) r≠-2:=by
 have hlen:(Gw n r).length=n:=by simp[Gw]
 have hr:=o.hr
 have at_:∀ x,x<n->Bo (Gw n r) x=if x=r then -1 else -2:=λx hx=>by
  unfold Bo Gw
  by_cases e:x=r
  ·grind
  ·grind
 have hno:∀ x,x<n->∀ p:Nat,Bo (Gw n r) x≠p:=λx hx p hp=>by grind
 refine⟨⟨by grind,λx hx=>?_,λx hx z hz=>absurd hz (hno x hx z),λx hx hp=>?_,λx hx hp d hd=>?_⟩,hlen,by grind⟩
 ·grind
 ·by_cases e:x=r
  ·subst e;exact .root
  ·grind
 ·by_cases e:x=r
  ·subst e;exact .root (λe=>hd (by rw[e];exact .refl _))
  ·grind
structure Ready(S:Nat->List Nat)(r n:Nat)(P:List Nat)(t:List Int)(i:Nat):Prop where
 inv:Inv S r n (pos (r::P)) (Bo t)
 len:t.length=n
 done:∀ x∈r::P.take i,Bo t x≠-2
theorem Inv.meets{at_:Nat->Nat}{par:Nat->Int}(h:Inv S r n at_ par)(hinj:∀ x y,x<n->y<n->par x≠-2->par y≠-2->at_ x=at_ y->x=y)(hr:at_ r=0):∀ m a b,at_ a+at_ b<=m->a<n->b<n->par a≠-2->par b≠-2->∃ c,MeetAt par a b c/\c<n/\par c≠-2:=by
 intro m
 induction m with
 | zero=>
  intro a b hm ha hb hpa hpb;have:a=b:=hinj a b ha hb hpa hpb (by omega);subst this;exact⟨a,UO,ha,hpa⟩
 | succ m ih=>
  have go:∀ a b,at_ a+at_ b<=m+1->a<n->b<n->par a≠-2->par b≠-2->at_ b<=at_ a->∃ c,MeetAt par a b c/\c<n/\par c≠-2:=λa b hm ha hb hpa hpb hl=>by
   by_cases e:a=b
   ·subst e;exact⟨a,UO,ha,hpa⟩
   ·rcases h.kind a ha with h1|h1|⟨p,hp⟩
    ·exact absurd h1 hpa
    ·subst h1;exact absurd (hinj a b ha hb hpa hpb (by omega)) e
    ·obtain⟨p1,p2,p3,p4⟩:=h.up a ha p hp;obtain⟨c,hc,hc2⟩:=ih p b (by omega) p1 hb p2 hpb;exact⟨c,h.meet_left hinj ha hpa hb hpb e hl hp hc,hc2⟩
  intro a b hm ha hb hpa hpb;rcases Nat.le_total (at_ b) (at_ a) with hl|hl
  ·exact go a b hm ha hb hpa hpb hl
  ·obtain⟨c,hc,hc2⟩:=go b a (by omega) hb ha hpb hpa hl;exact⟨c,jU hc,hc2⟩
theorem Ready.inj(o:Ordered S r n P){t:List Int}{i:Nat}(h:Ready S r n P t i):∀ x y,x<n->y<n->Bo t x≠-2->Bo t y≠-2->pos (r::P) x=pos (r::P) y->x=y:=λx y hx hy hpx hpy he=>by
 have hm :=λx hx hp=>(o.mem x).2 (h.inv.rc x hx hp)
 have back:∀ x∈r::P,(r::P).getD (pos _ x) 0=x:=λx hx=>by
  obtain⟨j,hj,rfl⟩:=Lm hx;rw[(MZ o.nodup hj).2,Ai _ _ _ hj]
 rw[<- back x (hm x hx hpx),<- back y (hm y hy hpy),he]
theorem cG:pos (r::P) r=0:=by rw[PK,if_pos rfl]
theorem Ready.meetAll(o:Ordered S r n P){t:List Int}{i:Nat}(h:Ready S r n P t i):∀ l:List Nat,(∀ p∈l,p<n/\Bo t p≠-2)->l≠[]->∃ z,z<n/\Bo t z≠-2/\∀ w,UpTo (Bo t) z w↔∀ p∈l,UpTo (Bo t) p w:=by
 intro l
 induction l with
 | nil=>grind
 | cons p l ih=>
  intro hl _;obtain⟨hp1,hp2⟩:=hl p (zzL42 ..)
  by_cases hl0:l=[]
  ·grind
  ·obtain⟨z,hz1,hz2,hz3⟩:=ih (λq hq=>hl q (Jz _ hq)) hl0;obtain⟨c,hc1,hc2,hc3⟩:=h.inv.meets (h.inj o) cG _ p z (zzL5 _) hp1 hz1 hp2 hz2;exact⟨c,hc2,hc3,λw=>by rw[hc1 w,hz3 w];simp⟩
theorem Ready.best(o:Ordered S r n P){t:List Int}{i:Nat}(h:Ready S r n P t i)(hi:i<P.length):Better S r n (pos (r::P)) (Bo t) (P.getD i 0) (Mj S n t (P.getD i 0)):=by
 have hy:=Ua hi;have hyr:P.getD i 0≠r:=λe=>(zzL95.1 o.nodup).1 (e▸hy);have hyn:=o.lt (Jz _ hy);obtain⟨p,hp,hyp⟩:=o.fwd i hi;have hp2:=h.done p hp
 have hpP:p∈r::P:=by
  grind
 have hpn:=o.lt hpP
 have hex:∃ z,z<n/\dB S n (Bo t) (P.getD i 0) z:=by
  classical
  obtain⟨z,hz1,hz2,hz3⟩:=h.meetAll o ((List.range n).filter λp=>decide (P.getD i 0∈S p/\Bo t p≠-2)) (λp hp=>by
   grind) (λe=>by
   simp_all)
  refine⟨z,hz1,λw=>?_⟩
  constructor
  ·grind
  ·grind
 have hb:Mj S n t (P.getD i 0)<n/\dB S n (Bo t) (P.getD i 0) (Mj S n t (P.getD i 0)):=by
  unfold Mj;rw[dif_pos hex];exact Classical.choose_spec hex
 exact⟨h.inv,hyn,hyr,hb.1,hb.2,p,hpn,hyp,hp2,o.at_lt hi hp⟩
theorem Ready.best_eq(o:Ordered S r n P){t:List Int}{i:Nat}(h:Ready S r n P t i)(hi:i<P.length){z:Nat}(hz:z<n)(hz2:Bo t z≠-2)(hb:dB S n (Bo t) (P.getD i 0) z):z=Mj S n t (P.getD i 0):=by
 have b:=h.best o hi;exact(h.inv.antisymm ((hb _).2 ((b.best _).1 (.refl _))) ((b.best _).2 ((hb _).1 (.refl _))) hz hz2).symm
theorem Ready.next(o:Ordered S r n P){t:List Int}{i:Nat}(h:Ready S r n P t i)(hi:i<P.length):Ready S r n P (t.set (P.getD i 0) (Mj S n t (P.getD i 0):Int)) (i+1):=by
 have b:=h.best o hi;have e:=cD   (v:=Mj S n t (P.getD i 0)) (by rw[h.len];exact b.hy);refine⟨by rw[e];exact b.inv',by rw[Cp];exact h.len,λx hx=>?_⟩;rw[e];unfold O3
 split
 ·omega
 ·refine h.done x ?_;rcases zzL26.1 hx with rfl|hx
  ·grind
  ·rw[List.take_succ_eq_append_getElem hi]at hx;rcases zzL13.1 hx with hx|hx
   ·grind
   ·grind
theorem Ready.more(o:Ordered S r n P){t:List Int}(h:Ready S r n P t P.length)(i:Nat):Ready S r n P t i:=
 ⟨h.inv,h.len,λx hx=>h.done x (by
  grind)⟩
theorem Ready.full(o:Ordered S r n P){t:List Int}(h:Ready S r n P t P.length):dC S r n (Bo t):=λx hx hr=>h.done x (by rw[QP];exact(o.mem x).2 hr)
theorem Ready.round(o:Ordered S r n P){t:List Int}(h:Ready S r n P t 0):∀ i,i<=P.length->Ready S r n P (X1 S n P t i) i:=by
 intro i
 induction i with
 | zero=>intro _;exact h
 | succ i ih=>intro hi;exact(ih (by omega)).next o (by omega)
theorem uN(o:Ordered S r n P):Ready S r n P (Gw n r) 0:=by
 obtain⟨h1,h2,h3⟩:=yC o;exact⟨h1,h2,λx hx=>by grind⟩
theorem Ready.rounds(o:Ordered S r n P):∀ j,Ready S r n P (RW S n P (Gw n r) j) 0:=by
 intro j
 induction j with
 | zero=>exact uN o
 | succ j ih=>exact((ih.round o) _ (zzL5 _)).more o 0
theorem Ready.rounds'(o:Ordered S r n P)(j:Nat):Ready S r n P (RW S n P (Gw n r) (j+1)) P.length:=(Ready.rounds o j).round o _ (zzL5 _)
theorem mt(o:Ordered S r n P){t:List Int}{k:Nat}(h:Ready S r n P t P.length)(q:QB S r n (Bo t) λ_=>k):QB S r n (Bo (X1 S n P t P.length)) λ_=>k+1:=by
 have key:∀ i,i<=P.length->QB S r n (Bo (X1 S n P t i)) (λx=>if x∈P.take i then k+1 else k)/\dC S r n (Bo (X1 S n P t i)):=by
  intro i
  induction i with
  | zero=>intro _;exact⟨by simpa [X1] using q,h.full o⟩
  | succ i ih=>
   intro hi;obtain⟨q1,f1⟩:=ih (by omega);have rd:=(h.more o 0).round o i (by omega);have b:=rd.best o (by omega);have e:=cD   (v:=Mj S n (X1 S n P t i) (P.getD i 0)) (by rw[rd.len];exact b.hy)
   constructor
   ·show QB S r n (Bo ((X1 S n P t i).set _ _)) _
    rw[e];have:=b.qb (k:=k) o.hS o.hr f1 (λx _=>by split<;>omega) q1;intro x hx hp z hz;refine this x hx hp z ?_;rw[List.take_succ_eq_append_getElem (by omega)]at hz
    by_cases e1:x=P.getD i 0
    ·grind
    ·grind
   ·show dC S r n (Bo ((X1 S n P t i).set _ _))
    rw[e];intro x hx hr;unfold O3
    split
    ·omega
    ·exact f1 x hx hr
 have q1:=(key _ (zzL5 _)).1;rw[QP]at q1;have rd:=(h.more o 0).round o _ (zzL5 _);intro x hx hp z hz;refine q1 x hx hp z ?_
 dsimp only at hz ⊢
 by_cases e:x∈P
 ·rw[if_pos e];exact hz
 ·rw[if_neg e]
  have hxr:x=r:=by
   rcases zzL26.1 ((o.mem x).2 (rd.inv.rc x hx hp)) with h1|h1
   ·exact h1
   ·exact absurd h1 e
  subst hxr;exact .root hz.av.ne k
def X8(S:Nat->List Nat)(n:Nat)(P:List Nat)(t:List Int):Prop:=∀ i,i<P.length->Bo t (P.getD i 0)=(Mj S n t (P.getD i 0):Int)
theorem Zp{t:List Int}(o:Ordered S r n P)(hl:t.length=n)(h:X8 S n P t):∀ i,i<=P.length->X1 S n P t i=t:=by
 intro i
 induction i with
 | zero=>intro _;rfl
 | succ i ih=>
  intro hi;unfold X1;rw[ih (by omega),<- h i (by omega)]
  have hlt:P.getD i 0<t.length:=by rw[hl];exact o.lt (Jz _ (Ua (by omega)))
  unfold Bo;rw[Ai _ _ _ hlt];exact List.set_getElem_self hlt
theorem sH(o:Ordered S r n P):∃ J,(∀ j,j<J->¬ X8 S n P (RW S n P (Gw n r) j))/\X8 S n P (RW S n P (Gw n r) J):=by
 obtain⟨K,hK⟩:=ip   n
 have hq:∀ k,QB S r n (Bo (RW S n P (Gw n r) (k+1))) λ_=>k:=by
  intro k
  induction k with
  | zero=>exact qr (Ready.rounds' o 0).inv
  | succ k ih=>exact mt o (Ready.rounds' o k) ih
 have hst :=λi hi=>by
  have rd:=Ready.rounds' o K;exact((rd.more o i).best o hi).same o.hS o.hr (rd.full o) (rd.done _ (Jz _ (by grind))) (lj rd.inv hK (hq K))
 have key:∀ m,(∃ J,J<=m/\X8 S n P (RW S n P (Gw n r) J))->∃ J,(∀ j,j<J->¬ X8 S n P (RW S n P (Gw n r) j))/\X8 S n P (RW S n P (Gw n r) J):=by
  intro m
  induction m with
  | zero=>grind
  | succ m ih=>
   rintro⟨J,hJ,h⟩
   by_cases hm:∃ J,J<=m/\X8 S n P (RW S n P (Gw n r) J)
   ·exact ih hm
   ·grind
 exact key _ ⟨K+1,zzL5 _,hst⟩
structure DomTree(S:Nat->List Nat)(r n:Nat)(P:List Nat)(t:List Int):Prop where
 inv:Inv S r n (pos (r::P)) (Bo t)
 len:t.length=n
 full:dC S r n (Bo t)
 exact_:fc S r n (Bo t)
theorem KQ(o:Ordered S r n P){j:Nat}(h:X8 S n P (RW S n P (Gw n r) j)):DomTree S r n P (RW S n P (Gw n r) j):=by
 have rd:=Ready.rounds o j
 have hall :=by
  have:=rd.round o _ (zzL5 _);rwa[Zp o rd.len h _ (zzL5 _)]at this
 refine⟨rd.inv,rd.len,hall.full o,jH rd.inv o.hS o.hr (hall.full o) λy hy hne hr=>?_⟩
 have hm:y∈P:=by
  rcases zzL26.1 ((o.mem y).2 hr) with h1|h1
  ·exact absurd h1 hne
  ·exact h1
 obtain⟨i,hi,rfl⟩:=Lm hm;have b:=(hall.more o i).best o hi;rw[Ai _ _ _ hi]at b;have hs:=h i hi;rw[Ai _ _ _ hi]at hs;exact⟨_,hs,b.best⟩
end
section
variable {S:Nat->List Nat} {s s':Nat->Bool} {l o:List Nat}
theorem VL.before(h:VL S s l s' o):∀ A z B,o=A++z::B->z∈l\/∃ p∈B,z∈S p:=by
 induction h with
 | nil s=>intro A z B e;simp at e
 | skip h _ ih=>
  grind
 | @step s s1 s2 y l o1 o2 h a b iha ihb=>
  intro A z B e;rcases List.append_eq_append_iff.1 e with⟨C,hC1,hC2⟩|⟨C,hC1,hC2⟩
  ·
   cases C with
   | nil=>
    grind
   | cons c C=>
    grind
  ·cases C with
   | nil=>
    grind
   | cons c C=>
    grind
theorem Ord.ordered{n r:Nat}{L:List Nat}(hr:r<n)(hS:∀ x,x<n->∀ w∈S x,w<n)(h:Ord S r L):∃ P,L=r::P/\Ordered S r n P:=by
 have h1:=h.nodup;have h2:=h.mem;obtain⟨s',o,hv,rfl⟩:=h;refine⟨o.reverse,rfl,hr,hS,h1,λx=>by rw[h2 x,rc_iff],λi hi=>?_⟩
 have e:o.reverse=o.reverse.take i++o.reverse[i]::o.reverse.drop (i+1):=by rw[<- iB hi,List.take_append_drop]
 have e2:o=(o.reverse.drop (i+1)).reverse++o.reverse[i]::(o.reverse.take i).reverse:=by
  have:=Bn List.reverse e
  simpa using this
 rw[Ai _ _ _ hi];rcases hv.before _ _ _ e2 with h3|⟨p,hp,hz⟩
 ·exact⟨r,zzL42 ..,h3⟩
 ·grind
end
def xJ(S:Nat->List Nat)(w:Int):Nat->List Nat:=λx=>(S x).filter λy=>decide ((y:Int)≠w)
theorem nL(S:Nat->List Nat):xJ S (-1)=S:=by
 funext x
 exact List.filter_eq_self.2 λy _=>H8 (by omega)
theorem rH(S:Nat->List Nat)(z:Nat):xJ S (z:Int)=wo S z:=by
 funext x
 unfold xJ wo
 congr 1
 funext y
 exact decide_eq_decide.2 ⟨λh e=>h (by rw[e]),λh e=>h (IU e)⟩
def IH(L:List (List Int))(r:Nat)(w:Int):List Bool:=if(r:Int)=w then List.replicate L.length false else VB (xJ (sN L) w) L.length ((List.replicate L.length false).set r true) L.length
theorem mu{L:List (List Int)}(hm:Ob L=true){r:Nat}(hr:r<L.length){b:Nat}:(IH L r (-1)).getD b false=true↔Rc (sN L) r b:=by
 unfold IH;rw[if_neg (by omega),nL,FY (CH hm) hr b,rc_iff]
theorem eO{L:List (List Int)}(hm:Ob L=true){r:Nat}(hr:r<L.length){a b:Nat}(hb:b<L.length):(IH L r (a:Int)).getD b false=true↔Av (sN L) r a b:=by
 unfold IH;rw[av_iff]
 by_cases h:r=a
 ·grind
 ·rw[if_neg (by omega),rH,FY (S:=wo _ a) (λz hz y hy=>CH hm z hz y (zzL110.1 hy).1) hr b];simp[h]
def CE(L:List (List Int))(r a b:Nat):Bool:=(IH L r (-1)).getD b false&&!(IH L r (a:Int)).getD b false
theorem cC{L:List (List Int)}(hm:Ob L=true){r a b:Nat}(hr:r<L.length)(hb:b<L.length):CE L r a b=true↔Rc (sN L) r b/\¬ Av (sN L) r a b:=by
 unfold CE;rw[A9,U3,<- Bool.not_eq_true,mu hm hr,eO hm hr hb]
def bj(L:List (List Int))(r a b:Nat):Bool:=(List.range L.length).all λc=>decide (c=b) || !CE L r c b || CE L r c a
def cF(L:List (List Int))(r b:Nat):Nat->Int
 | 0=>-2
 | a+1=>if a≠b/\CE L r a b=true/\bj L r a b=true then(a:Int) else cF L r b a
def ed(L:List (List Int))(r b:Nat):Int:=if b=r then -1 else cF L r b L.length
def GH(L:List (List Int))(r:Nat):List Int:=(List.range L.length).map (ed L r)
theorem VK(L:List (List Int))(r:Nat):(GH L r).length=L.length:=by simp[GH]
theorem nG{L:List (List Int)}{r b:Nat}(hb:b<L.length):(GH L r).getD b 0=ed L r b:=by unfold GH;rw[Vn hb]
theorem pick_cases(L:List (List Int))(r b:Nat):∀ m,(cF L r b m = -2/\∀ a,a<m->¬ (a≠b/\CE L r a b=true/\bj L r a b=true))\/∃ a,a<m/\cF L r b m=(a:Int)/\a≠b/\CE L r a b=true/\bj L r a b=true:=by
 intro m
 induction m with
 | zero=>exact .inl ⟨rfl,λa ha=>absurd ha (S5 a)⟩
 | succ m ih=>
  unfold cF
  by_cases h:m≠b/\CE L r m b=true/\bj L r m b=true
  ·grind
  ·grind
theorem DomTree.eq{L:List (List Int)}(hm:Ob L=true){r:Nat}(hr:r<L.length){P t:List _}(o:Ordered (sN L) r L.length P)(h:DomTree (sN L) r L.length P t):t=GH L r:=by
 refine QQ (by rw[h.len,VK]) λb h1 h2=>?_
 have hb:b<L.length:=by rw[<- h.len];exact h1
 rw[<- Ai _ _ 0 h1,<- Ai _ _ 0 h2,nG hb]
 show Bo t b=_
 have hov:∀ a b,b<L.length->Bo t b≠-2->(CE L r a b=true↔UpTo _ b a):=λa b hb hp=>by
  rw[cC hm hr hb,h.exact_ b hb hp];exact⟨λk=>k.2,λk=>⟨h.inv.rc b hb hp,k⟩⟩
 unfold ed
 by_cases hbr:b=r
 ·subst hbr;rw[if_pos rfl];exact h.inv.top
 ·rw[if_neg hbr];rcases h.inv.kind b hb with hk|hk|⟨z,hz⟩
  ·
   have hn :=λk=>h.full b hb k hk;rcases pick_cases L r b _ with⟨h3,_⟩|⟨a,_,_,_,h6,_⟩
   ·rw[hk,h3]
   ·exact absurd ((cC hm hr hb).1 h6).1 hn
  ·exact absurd hk hbr
  ·obtain⟨z1,z2,z3,z4⟩:=h.inv.up b hb z hz
   have hp:Bo t b≠-2:=by omega
   have hzo :=(hov z b hb hp).2 (.up hz (.refl _))
   have hzb:z≠b:=by rintro rfl;omega
   have hnear:bj L r z b=true:=all_range.2 λc hc=>by
    by_cases e:c=b
    ·simp[e]
    ·cases ho:CE L r c b with
     | false=>simp
     | true=>
      have:=(hov c b hb hp).1 ho;rcases(anc_up hz).1 this with h3|h3
      ·exact absurd h3 e
      ·grind
   rcases pick_cases L r b L.length with⟨_,h3⟩|⟨a,h3,h4,h5,h6,h7⟩
   ·grind
   ·rw[h4,hz];have haU:=(hov a b hb hp).1 h6
    have ha1:UpTo (Bo t) z a:=by
     rcases(anc_up hz).1 haU with h8|h8
     ·exact absurd h8 h5
     ·exact h8
    have hap:=(h.inv.anc ha1 z1 z2).2.1
    have hza :=by
     have:=all_range.1 h7 z z1;simp only[hzo,hzb, J1]at this;exact(hov z a h3 hap).1 this
    rw[h.inv.antisymm ha1 hza z1 z2]
theorem qT{g:C5}(h:HN g=true):Ob g.Succ=true/\g=EY g.Succ:=by
 unfold HN at h;rw[A9]at h;refine⟨h.1,?_⟩;obtain⟨s,p⟩:=g;have:=QY h.2;simp only at this;unfold EY;rw[this]
section
variable {L:List (List Int)} (hm:Ob L=true) {r:Nat} (hr:r<L.length)
include hm hr
omit hr in
omit hr in
omit hm hr in
omit hm hr in
omit hm hr in
omit hr in
omit hr in
end
def cX(g:C5)(r:Int):List Int:=if HN g=true/\0<=r/\r<(g.Succ.length:Int) then GH g.Succ r.toNat else[]
def upD(t:List Int):Nat->Int->Option (List Int)
 | 0,_=>none
 | k+1,a=>if 0<=a/\a<(t.length:Int) then(if t.getD a.toNat 0 = -1 then some [a] else(upD t k (t.getD a.toNat 0)).map λl=>a::l) else none
def Iw(t:List Int)(a:Int):List Int:=(upD t t.length a).getD []
theorem rF(t:List Int):∀ k a q,upD t k a=some q->q.length<=k/\1<=q.length:=by
 intro k
 induction k with
 | zero=>intro a q h;cases h
 | succ k ih=>
  intro a q h;unfold upD at h
  split at h
  ·split at h
   ·cases h;simp
   ·cases hu:upD t k _ with
    | none=>rw[hu]at h;cases h
    | some q'=>grind
  ·cases h
theorem pathD_nil{t:List Int}{a:Int}:Iw t a=[]↔upD t t.length a=none:=by
 unfold Iw
 cases h:upD t _ a with
 | none=>simp
 | some q=>have:=(rF t _ _ _ h).2;simp;intro e;subst e;simp at this
def GF(t:List Int)(k:Nat):Nat:=((List.range k).filter λa=>decide (t.getD a 0 = -1)).length
def xI(t:List Int)(a:Nat):Bool:=decide (t.getD a 0 = -2) || !decide (Iw t (a:Int)=[])
def Mr(t:List Int):Bool:=(List.range t.length).all (xI t)&&decide (GF t t.length=1)
theorem QG(t:List Int)(k:Nat):GF t (k+1)=GF t k+if t.getD k 0 = -1 then 1 else 0:=by
 unfold GF;rw[CL,YI]
 by_cases h:t.getD k 0 = -1
 ·grind
 ·grind
def Qb(t:List Int)(a b:Int):Int:=if Mr t=true then((Iw t a).find? λx=>(Iw t b).contains x).getD (-2) else -2
def KH(t:List Int)(a b:Int):Bool:=Qb t a b==a&&Qb t a b !=-2
section
variable {S:Nat->List Nat} {r n:Nat} {P:List Nat} {t:List Int}
theorem DomTree.up(h:DomTree S r n P t):∀ k x,x<n->Bo t x≠-2->pos (r::P) x<k->∃ q,upD t k (x:Int)=some q/\(∀ w:Int,w∈q↔∃ z:Nat,w=(z:Int)/\UpTo (Bo t) x z) /\
  ∀ p:Int->Bool,(q.find? p=none/\∀ z:Nat,UpTo (Bo t) x z->p (z:Int)=false)\/∃ f:Nat,q.find? p=some (f:Int)/\UpTo (Bo t) x f/\p (f:Int)=true/\∀ z:Nat,UpTo (Bo t) x z->p (z:Int)=true->UpTo (Bo t) f z:=by
 intro k
 induction k with
 | zero=>omega
 | succ k ih=>
  intro x hx hp hk
  have hxt:(0:Int)<=(x:Int)/\(x:Int)<(t.length:Int):=by rw[h.len];omega
  unfold upD;rw[if_pos hxt,A2];have hpx:t.getD x 0=Bo t x:=rfl;rw[hpx];rcases h.inv.kind x hx with h1|rfl|⟨z,hz⟩
  ·exact absurd h1 hp
  ·rw[if_pos h.inv.top];refine⟨_,rfl,λw=>?_,λp=>?_⟩
   ·rw[zzL17]
    constructor
    ·rintro rfl;exact⟨x,rfl,.refl _⟩
    ·rintro⟨z,rfl,hz⟩;rw[h.inv.root_anc.1 hz]
   ·cases hpp:p (x:Int) with
    | false=>exact .inl ⟨by simp[List.find?,hpp],λz hz=>by rw[h.inv.root_anc.1 hz];exact hpp⟩
    | true=>exact .inr ⟨x,by simp[List.find?,hpp],.refl _,hpp,λz hz _=>hz⟩
  ·obtain⟨z1,z2,z3,z4⟩:=h.inv.up x hx z hz;rw[hz,if_neg (by omega)];obtain⟨q,hq1,hq2,hq3⟩:=ih z z1 z2 (by omega);rw[hq1];refine⟨(x:Int)::q,rfl,λw=>?_,λp=>?_⟩
   ·rw[zzL26,hq2 w]
    constructor
    ·rintro(rfl|⟨y,rfl,hy⟩)
     ·exact⟨x,rfl,.refl _⟩
     ·exact⟨y,rfl,.up hz hy⟩
    ·rintro⟨y,rfl,hy⟩;rcases(anc_up hz).1 hy with rfl|hy
     ·exact .inl rfl
     ·exact .inr ⟨y,rfl,hy⟩
   ·cases hpp:p (x:Int) with
    | true=>exact .inr ⟨x,by simp[List.find?,hpp],.refl _,hpp,λy hy _=>hy⟩
    | false=>
     have hf:((x:Int)::q).find? p=q.find? p:=by simp[List.find?,hpp]
     rw[hf];rcases hq3 p with⟨e1,e2⟩|⟨f,e1,e2,e3,e4⟩
     ·refine .inl ⟨e1,λy hy=>?_⟩;rcases(anc_up hz).1 hy with rfl|hy
      ·exact hpp
      ·exact e2 y hy
     ·refine .inr ⟨f,e1,.up hz e2,e3,λy hy hpy=>?_⟩;rcases(anc_up hz).1 hy with rfl|hy
      ·rw[hpp]at hpy;cases hpy
      ·exact e4 y hy hpy
theorem Ordered.pos_lt(o:Ordered S r n P){x:Nat}(hx:x∈r::P):pos (r::P) x<n:=by
 obtain⟨j,hj,rfl⟩:=Lm hx;rw[(MZ o.nodup hj).2];have:=Q0 n _ o.nodup λy hy=>o.lt hy;omega
theorem DomTree.path(h:DomTree S r n P t)(o:Ordered S r n P){x:Nat}(hx:x<n)(hp:Bo t x≠-2):Iw t (x:Int)≠[]/\(∀ w:Int,w∈Iw t (x:Int)↔∃ z:Nat,w=(z:Int)/\UpTo (Bo t) x z) /\
  ∀ p:Int->Bool,((Iw t (x:Int)).find? p=none/\∀ z:Nat,UpTo (Bo t) x z->p (z:Int)=false)\/∃ f:Nat,(Iw t (x:Int)).find? p=some (f:Int)/\UpTo (Bo t) x f/\p (f:Int)=true/\∀ z:Nat,UpTo (Bo t) x z->p (z:Int)=true->UpTo (Bo t) f z:=by
 have hm:=(o.mem x).2 (h.inv.rc x hx hp);obtain⟨q,h1,h2,h3⟩:=h.up n x hx hp (o.pos_lt hm)
 have e:Iw t x=q:=by unfold Iw;rw[h.len,h1];rfl
 rw[e];refine⟨λe=>?_,h2,h3⟩;have:=(h2 _).2 ⟨x,rfl,.refl _⟩;rw[e]at this
 cases this
theorem DomTree.nopath(h:DomTree S r n P t){x:Nat}(hx:x<n)(hp:Bo t x = -2):Iw t (x:Int)=[]:=by
 rw[pathD_nil]
 cases hl:t.length with
 | zero=>rfl
 | succ k=>
  unfold upD;rw[if_pos ⟨by omega,by rw[h.len];omega⟩,A2,show t.getD x 0=Bo t x from rfl,hp]
  cases k with
  | zero=>rfl
  | succ k =>   rfl
theorem DomTree.right(h:DomTree S r n P t)(o:Ordered S r n P):Mr t=true:=by
 unfold Mr;rw[A9]
 constructor
 ·refine all_range.2 λx hx=>?_;rw[h.len]at hx;unfold xI
  by_cases hp:Bo t x = -2
  ·rw[show t.getD x 0=Bo t x from rfl,hp];rfl
  ·rw[J0 (h.path o hx hp).1];simp
 ·apply H8
  have key:∀ k,k<=n->GF t k=if r<k then 1 else 0:=by
   intro k
   induction k with
   | zero=>intro _;rfl
   | succ k ih=>
    intro hk;rw[QG]
    have hr:t.getD k 0 = -1↔k=r:=by
     constructor
     ·intro he;rcases h.inv.kind k (by omega) with h1|h1|⟨z,hz⟩
      ·rw[show t.getD k 0=Bo t k from rfl]at he;omega
      ·exact h1
      ·rw[show t.getD k 0=Bo t k from rfl]at he;omega
     ·rintro rfl;exact h.inv.top
    by_cases hkr:k=r
    ·grind
    ·grind
  rw[h.len,key n (zzL5 _),if_pos o.hr]
theorem DomTree.meet(h:DomTree S r n P t)(o:Ordered S r n P){a b:Nat}(ha:a<n)(hb:b<n)(hpa:Bo t a≠-2)(hpb:Bo t b≠-2):∃ m:Nat,Qb t (a:Int) (b:Int)=(m:Int)/\MeetAt (Bo t) a b m/\m<n/\Bo t m≠-2:=by
 have rd:Ready S r n P t _:=⟨h.inv,h.len,λx hx=>by rw[QP]at hx;exact h.full x (o.lt hx) ((o.mem x).1 hx)⟩;obtain⟨c,hc1,hc2,hc3⟩:=h.inv.meets (rd.inj o) cG _ a b (zzL5 _) ha hb hpa hpb;refine⟨c,?_,hc1,hc2,hc3⟩;unfold Qb;rw[if_pos (h.right o)];obtain⟨hca,hcb⟩:=(hc1 c).1 (.refl _)
 have hin:∀ z:Nat,(Iw t _).contains z=true↔UpTo (Bo t) b z:=λz=>by
  rw[QV,(h.path o hb hpb).2.1]
  constructor
  ·grind
  ·grind
 rcases(h.path o ha hpa).2.2 λx=>(Iw t b).contains x with⟨_,h2⟩|⟨f,h1,h2,h3,h4⟩
 ·grind
 ·rw[h1];have hfc:=h4 c hca ((hin c).2 hcb);have hcf:=(hc1 f).2 ⟨h2,(hin f).1 h3⟩;rw[h.inv.antisymm hcf hfc hc2 hc3]
  rfl
theorem DomTree.meet_none(h:DomTree S r n P t)(o:Ordered S r n P){a b:Nat}(ha:a<n)(hb:b<n)(hp:Bo t a = -2\/Bo t b = -2):Qb t (a:Int) (b:Int) = -2:=by
 unfold Qb;rw[if_pos (h.right o)];rcases hp with hp|hp
 ·rw[h.nopath ha hp];rfl
 ·rw[h.nopath hb hp]
  have:(Iw t a).find? (λx=>[].contains x)=none:=List.find?_eq_none.2 λx _=>by simp
  rw[this];rfl
theorem DomTree.over(h:DomTree S r n P t)(o:Ordered S r n P){a b:Nat}(ha:a<n)(hb:b<n):KH t (a:Int) (b:Int)=true↔Bo t b≠-2/\UpTo (Bo t) b a:=by
 unfold KH;rw[A9,zzL56,Tz]
 by_cases hpa:Bo t a = -2
 ·rw[h.meet_none o ha hb (.inl hpa)]
  constructor
  ·omega
  ·rintro⟨h1,h2⟩;exact absurd hpa (h.inv.anc h2 hb h1).2.1
 ·by_cases hpb:Bo t b = -2
  ·rw[h.meet_none o ha hb (.inr hpb)]
   constructor
   ·omega
   ·grind
  ·obtain⟨m,hm1,hm2,hm3,hm4⟩:=h.meet o ha hb hpa hpb;rw[hm1]
   constructor
   ·rintro⟨h1,_⟩;have h1:=IU h1;subst h1;exact⟨hpb,((hm2 _).1 (.refl _)).2⟩
   ·rintro⟨_,h2⟩;have:=(hm2 a).2 ⟨.refl _,h2⟩;have h3:=((hm2 m).1 (.refl _)).1;rw[h.inv.antisymm h3 this ha hpa];exact⟨rfl,by omega⟩
theorem DomTree.over_dom(h:DomTree S r n P t)(o:Ordered S r n P){a b:Nat}(ha:a<n)(hb:b<n):KH t (a:Int) (b:Int)=true↔Rc S r b/\¬ Av S r a b:=by
 rw[h.over o ha hb]
 constructor
 ·rintro⟨h1,h2⟩;exact⟨h.inv.rc b hb h1,(h.exact_ b hb h1 a).1 h2⟩
 ·rintro⟨h1,h2⟩;have:=h.full b hb h1;exact⟨this,(h.exact_ b hb this a).2 h2⟩
end
section
variable {L:List (List Int)} (hm:Ob L=true) {r:Nat} (hr:r<L.length)
include hm hr
theorem jp:∃ P,Ord (sN L) r (r::P)/\Ordered (sN L) r L.length P/\DomTree (sN L) r L.length P (GH L r):=by
 obtain⟨O,hO⟩:=Ord.exist (CH hm) hr;obtain⟨P,rfl,o⟩:=hO.ordered hr (CH hm);obtain⟨J,_,hJ⟩:=sH o;have hd:=KQ o hJ;refine⟨P,hO,o,?_⟩;rw[<- hd.eq hm hr o];exact hd
end
theorem jM{X:Type}(n:Nat)(p:Nat->Bool)(f:Int->Option (LR Int X))(yes no:X)(hn:∀ i:Nat,i<n->p i=true->f (i:Int)=some (.next ((i:Int)+1)))
  (hf:∀ i:Nat,i<n->p i=false->f (i:Int)=some (.done no)) (he:f (n:Int)=some (.done yes)):Af f (0:Int)=some (bif (List.range n).all p then yes else no):=by
 have hg:∀ i,i<(List.range n).length->(List.range n).getD i 0=i:=λi hi=>by grind
 have:=Yn (List.range n) 0 p f yes no (λi hi hp=>by grind) (λi hi hp=>by grind) (by simpa using he) n 0 (by simp);rw[show(0:Int)=(0:Nat) from rfl,this,DZ]
theorem tH{n:Nat}{p:Nat->Bool}(h:(List.range n).all p=true):∀ i,i<n->p i=true:=λi hi=>zzL27.1 h i (by simpa using hi)
def NA(L:List (List Int)):List Bool:=VB (sN L) L.length ((List.replicate L.length false).set 0 true) L.length
def Jj(l:List Int)(p:Bb):Bool:=decide (p.From=l)&&((p.Args.length:Int)==(l.length:Int))
def On(L:List (List Int))(b:Ab)(i:Nat):Bool:=(NA L).getD i false&&!((b.End.Kind==1 || b.End.Kind==3)&&(b.End.Arg !=0))&&b.Phis.all (Jj ((Dl L).getD i []))
def Ep(f:Aa):Bool:=Zn f&&(List.range f.Blocks.length).all λi=>On (Da f) (f.Blocks.getD i default) i
theorem Nz(f:Aa):(Da f).length=f.Blocks.length:=by simp[Da]
theorem jn{f:Aa}(h:Ep f=true):qn f:=λb hb p hp=>by
 simp only[Ep,A9]at h;obtain⟨i,hi,rfl⟩:=Lm hb;have h1:=tH h.2 i hi;rw[Ai _ _ _ hi]at h1;simp only[On,A9]at h1;have h2:=zzL27.1 h1.2 p hp;simp only[Jj,A9,Gj,zzL56]at h2;rw[h2.1];omega
def Y0(l:List M3)(i:Nat):Bool:=DY (l.getD i default).V&&(Pe l (l.getD i default).V==(i:Int))
def Vw(l:List M3)(u:Xo):Bool:=!decide (Pe l u.V<0)
def defOf(l:List M3)(v:Int):M3:=l.getD (Pe l v).toNat default
def bq(l:List M3)(u:Xo):Bool:=((defOf l u.V).Shape.1==u.Shape.1)&&(((defOf l u.V).Shape.2==u.Shape.2)&&true)
def bp(l:List M3)(t:List Int)(u:Xo):Bool:=
 (decide ((defOf l u.V).Block<0) || ((defOf l u.V).Block==u.Block&&decide ((defOf l u.V).At<u.At))) || (!((defOf l u.V).Block==u.Block)&&!(Qb t (defOf l u.V).Block u.Block !=(defOf l u.V).Block))
def Es(f:Aa):List Int:=cX (EY (Da f)) 0
def YE(f:Aa)(l:Int):Int:=
 bif !Ep f then 5 else bif !N3 f l then 6 else bif !(List.range (D6 f).length).all (Y0 (D6 f)) then 7 else bif !(Gi f).all (Vw (D6 f)) then 7 else
 bif !(Gi f).all (bq (D6 f)) then 6 else bif !(Gi f).all (bp (D6 f) (Es f)) then 7 else 0
def G3(f:Aa)(l:Int):Int:=bif decide (l<0) || decide (2<l) then 1 else bif !Ox f then 4 else YE f l
theorem lm{l:List M3}{v:Int}(h:¬ Pe l v<0):Ay (Pe l v) l.length:=by
 unfold Pe at h ⊢
 cases hx:l.findIdx? _ with
 | none=>grind
 | some i=>
  obtain⟨hi,_⟩:=List.findIdx?_eq_some_iff_getElem.1 hx;exact Ax hi
theorem nH{f:Aa}(h:Zn f=true):(Es f).length<=1000:=by
 have h1:=(HO (Uw h)).1;unfold Es cX
 split
 ·rw[VK];show(Da f).length<=1000;omega
 ·simp
theorem UL{α S:Type}(l:List α)(d:α)(g:S->α->S)(f:S×Int->Option (LR (S×Int) S))(hn:∀(s:S) (i:Nat),i<l.length->f (s,(i:Int))=some (.next (g s (l.getD i d),(i:Int)+1)))
  (hd:∀ s:S,f (s,(l.length:Int))=some (.done s)):∀(k i:Nat) (s:S),i+k=l.length->Af f (s,(i:Int))=some ((l.drop i).foldl g s)
 | 0,i,s,h=>by
  obtain rfl:i=l.length:=by omega
  rw[Am (hd s)]
  simp
 | k+1,i,s,h=>by
  have hi:i<l.length:=by omega
  have hdr:l.drop i=l.getD i d::l.drop (i+1):=by simp_all
  rw[Ap (hn s i hi),show(i+1)=((i+1:Nat):Int) by omega,UL l d g f hn hd k _ _ (by omega),hdr,KV]
theorem DI{α S:Type}(l:List α)(d:α)(g:S->α->S)(f:S×Int->Option (LR (S×Int) S))(hn:∀(s:S) (i:Nat),i<l.length->f (s,(i:Int))=some (.next (g s (l.getD i d),(i:Int)+1)))
  (hd:∀ s:S,f (s,(l.length:Int))=some (.done s)) (s:S):Af f (s,(0:Int))=some (l.foldl g s):=by
 have:=UL l d g f hn hd l.length 0 s (by omega);exact this
def grow(n d:Int):Int:=bif decide (n<d) then d else n
def FE(f:Aa):Int:=f.Blocks.foldl (λn b=>b.Ops.foldl (λn o=>grow n o.Dst) (b.Phis.foldl (λn p=>grow n p.Dst) n)) (f.Params.length:Int)
theorem eg{i n:Nat}(h:i<n)(hn:n<=maxLen):A3 ((i:Int)+1)=(i:Int)+1:=E2 h (by rw[Jq]at hn;omega)
def Sm(f:Aa):Prop:=iO f/\Bx f=some true
theorem sF{f:Aa}(h:Sm f)(hm:Ox f=true):OkF f:=by
 obtain⟨sm,h1,h2⟩:=KP f h.1;rw[h.2]at h1;exact(h2 (OI h1).symm hm).1
structure vU(f:Aa)(s:List (Int×(Int×Int))):Prop where
 none:G3 f 2≠0->s.length=0
 len:G3 f 2=0->s.length=(D6 f).length
 get:G3 f 2=0->∀ d∈D6 f,Fu ((0:Int),(0:Int)) s d.V=d.Shape
 has:G3 f 2=0->∀ v,Eg s v=true->∃ d∈D6 f,d.V=v
theorem wS{f:Aa}(hf:iO f)(h0:f.Params.length<=64)(hb:∀ b∈f.Blocks,b.End.To.length<=64/\(∀ p∈b.Phis,p.From.length<=64/\p.Args.length<=64)/\∀ o∈b.Ops,o.Args.length<=64)(he:dh f<=20000):Sm f:=
 ⟨hf,by rw[cS f hf h0 hb,H8 he]⟩
def gt(f:Aa):Int:=
 bif !(List.range (D6 f).length).all (Y0 (D6 f)) then 7 else bif !(Gi f).all (Vw (D6 f)) then 7 else
 bif !(Gi f).all (bq (D6 f)) then 6 else bif !(Gi f).all (bp (D6 f) (Es f)) then 7 else 0
theorem G4{f:Aa}{l:Int}(h0:0<=l)(h2:l<=2):G3 f l=0↔Ox f=true/\Ep f=true/\N3 f l=true/\gt f=0:=by
 unfold G3 YE;rw[J0 (show ¬ l<0 by omega),J0 (show ¬ 2<l by omega)]
 have e:(bif !(List.range _).all _ then 7 else bif !(Gi f).all _ then 7 else
  bif !(Gi f).all _ then 6 else bif !(Gi f).all _ then 7 else 0)=gt f:=rfl
 rw[e]
 cases Ox f<;>cases Ep f<;>cases N3 f l<;>simp
theorem mF{o:A6}(h:Iu o=true):1<=o.Lanes:=by
 simp only[Iu,A9]at h;have:=shape_lanes h.1.1;omega
theorem cB{l m:Int}(hm:MU l=m)(o:A6):Pd l o=true↔Iu o=true/\o.Kind<=m/\(l<2->o.Lanes<=1):=by
 unfold Pd
 by_cases a:m<o.Kind<;>by_cases b:l<2<;>by_cases c:1<o.Lanes<;>cases Iu o<;>simp[ b]<;>omega
theorem rD{α:Type}(l:List α)(g:α->Nat):(l.map λa=>g a+1).sum=l.length+(l.map g).sum:=by
 induction l with
 | nil=>rfl
 | cons a l ih=>grind
theorem nJ(a b:Int):A3 (a+A3 b)=A3 (a+b):=by rw[Int.add_comm,hZ,Int.add_comm]
theorem wW(f:Aa)(hf:iO f):Sq f=some (sizeW f):=by
 have hl:=UJ f.Blocks default (λb=>b.Phis.length+b.Ops.length) id (Ni f) (λn i hi=>?_) (λn=>?_) _ 0 f.Blocks.length (Gc _)
 ·unfold Sq;rw[GI (by have:=hf.blocks;rw[Jq]at this;omega),show((0:Nat):Int)=0 from rfl]at hl;rw[hl,  sizeW,Qf,show Zo=(λb=>(b.Phis.length+b.Ops.length)+1) from rfl,rD]
  rfl
 ·have e1:decide (i<(f.Blocks.length:Int))=true:=H8 (by omega);unfold Ni;simp only[e1,Aj,Ac (Ax hi),G1,Kx hi hf.blocks,nJ,hZ];rw[show n+((f.Blocks.getD i default).Phis.length+(f.Blocks.getD i default).Ops.length)=((n+((f.Blocks.getD i default).Phis.length+(f.Blocks.getD i default).Ops.length):Nat):Int) by omega]
 ·have e1:decide (f.Blocks.length<(f.Blocks.length:Int))=false:=by simp
  unfold Ni;simp only[e1,Bi,id]
theorem EN{α:Type}(l:List α)(d:α)(p:α->Bool)(f:Int->Option (LR Int (Unit ⊕ Bool)))(hn:∀ i:Nat,i<l.length->f i=bif p (l.getD i d) then some (.next ((i:Int)+1)) else some (.done (.inr false)))
  (he:f l.length=some (.done (.inl ()))):Af f 0=some (bif l.all p then .inl () else .inr false):=by
 have:=Yn l d p f _ _ (λi hi hp=>by rw[hn i hi,hp];rfl) (λi hi hp=>by rw[hn i hi,hp];rfl) he _ 0 (Gc _)
 simpa using this
theorem jY(x:Int):(bif decide (x<0) then true else decide (2147483647<x)) = !numB x:=by
 unfold numB
 by_cases h1:x<0
 ·grind
 ·grind
theorem VP(l:List Int)(h:l.length<=maxLen):C4 l=some (l.all numB):=by
 have hl:=EN l 0 numB (Hs l) (λi hi=>?_) ?_
 ·unfold C4;rw[hl]
  cases l.all _<;>rfl
 ·have e1:decide ((i:Int)<l.length)=true:=H8 (by omega);unfold Hs;simp only[e1, Ac (Ax hi),G1,jY,Kx hi h]
  cases numB _<;>simp
 ·unfold Hs
  simp
theorem BG(l:List Int)(h:l.length<=maxLen):Gd l=some (Ph l):=by
 unfold Gd;rw[VP l h]
 by_cases h1:l.length<=64
 ·have e1:decide ((l.length:Int)<=64)=true:=H8 (by omega);rw[e1];simp[Ph,h1]
 ·have e1:decide ((l.length:Int)<=64)=false:=J0 (by omega);rw[e1];simp[Ph,h1]
theorem BF{l:List Int}(h:l.length<=10):l.length<=maxLen:=by rw[Jq];omega
theorem nQ(p:Bb)(h1:p.From.length<=maxLen)(h2:p.Args.length<=maxLen):Nk p=some (TC p):=by
 unfold Nk TC;rw[VP _ (BF (by simp)),BG _ h1,BG _ h2];simp only[CN,List.all_nil,QT]
 cases numB p.Bits<;>cases numB p.Dst<;>cases Ph p.From<;>cases Ph p.Args<;>rfl
theorem rI(o:A6)(h1:o.Args.length<=maxLen):Pc o=some (mh o):=by
 unfold Pc mh;rw[VP _ (BF (by simp)),BG _ h1];simp only[CN,List.all_nil,QT]
 cases numB o.Kind<;>cases numB o.Bits<;>cases numB o.Lanes<;>cases numB o.Dst<;>cases Ph o.Args<;>rfl
theorem nO(e:Eo)(h1:e.To.length<=maxLen):Nj e=some (jF e):=by
 unfold Nj jF;rw[VP _ (BF (by simp)),BG _ h1];simp only[CN,List.all_nil,QT]
 cases numB e.Kind<;>cases numB e.Arg<;>cases Ph e.To<;>rfl
theorem OX{X:Type}(b:Bool)(x y:X):(bif !b then x else y)=bif b then y else x:=by cases b<;>rfl
theorem js(l:List Bb)(hl:l.length<=maxLen)(h:∀ p∈l,p.From.length<=maxLen/\p.Args.length<=maxLen):Hc l=some (l.all TC):=by
 have hl':=EN l (default:Bb) TC (Fp l) (λi hi=>?_) ?_
 ·unfold Hc;rw[hl']
  cases l.all TC<;>rfl
 ·have e1:decide ((i:Int)<(l.length:Int))=true:=H8 (by omega);have:=h _ (Ar (d:=(default:Bb)) hi);unfold Fp;simp only[e1,Aj,Ac (Ax hi),G1,nQ _ this.1 this.2,A1,OX,Kx hi hl,Int.natCast_add,Int.natCast_one]
 ·unfold Fp
  simp
theorem nP(l:List A6)(hl:l.length<=maxLen)(h:∀ o∈l,o.Args.length<=maxLen):Hr l=some (l.all mh):=by
 have hl':=EN l (default:A6) mh (F9 l) (λi hi=>?_) ?_
 ·unfold Hr;rw[hl']
  cases l.all mh<;>rfl
 ·have e1:decide ((i:Int)<(l.length:Int))=true:=H8 (by omega);have:=h _ (Ar (d:=(default:A6)) hi);unfold F9;simp only[e1,Aj,Ac (Ax hi),G1,rI _ this,A1,OX,Kx hi hl,Int.natCast_add,Int.natCast_one]
 ·unfold F9
  simp
theorem ek(b:Ab)(h1:b.Phis.length<=maxLen)(h2:b.Ops.length<=maxLen)(h3:b.End.To.length<=maxLen)(h4:∀ p∈b.Phis,p.From.length<=maxLen/\p.Args.length<=maxLen)(h5:∀ o∈b.Ops,o.Args.length<=maxLen):K3 b=some (blockB b):=by
 unfold K3 blockB;rw[js _ h1 h4,nP _ h2 h5,nO _ h3]
 cases b.Phis.all TC<;>cases b.Ops.all mh<;>cases jF b.End<;>rfl
theorem cj(f:Aa)(hf:iO f):F8 f.Blocks=some (f.Blocks.all blockB):=by
 have hl':=EN f.Blocks (default:Ab) blockB (Ey f.Blocks) (λi hi=>?_) ?_
 ·unfold F8;rw[hl']
  cases f.Blocks.all blockB<;>rfl
 ·have e1:decide ((i:Int)<(f.Blocks.length:Int))=true:=H8 (by omega);have hm:=Ar (d:=(default:Ab)) hi;have q:=hf.block _ hm;unfold Ey;simp only[e1,Aj,Ac (Ax hi),G1,ek _ q.1 q.2.1 q.2.2 (hf.phi _ hm) (λo ho=>(hf.op _ hm o ho).1),A1,OX,Kx hi hf.blocks,Int.natCast_add,Int.natCast_one]
 ·unfold Ey
  simp
theorem wV(f:Aa)(hf:iO f):Rg f=some (Ox f):=by
 unfold Rg Ox;rw[wW f hf,VP _ hf.params,VP _ (BF (by simp)),cj f hf];simp only[CN,List.all_nil,QT,Ph]
 have d1:∀ n:Nat,decide ((n:Int)<1) = !decide (1<=n):=λn=>by by_cases h:1<=n<;>simp[h]<;>omega
 have d2:∀ n:Nat,decide ((64:Int)<(n:Int)) = !decide (n<=64):=λn=>by by_cases h:n<=64<;>simp[h]<;>omega
 have d3:∀ n:Nat,decide ((16:Int)<(n:Int)) = !decide (n<=16):=λn=>by by_cases h:n<=16<;>simp[h]<;>omega
 have d4:∀ n:Int,decide ((512:Int)<n) = !decide (n<=512):=λn=>by by_cases h:n<=512<;>simp[h]<;>omega
 simp only[d1,d2,d3,d4]
 have himp:decide (f.Params.length<=16)=true->decide (f.Params.length<=64)=true:=λh=>by simp at h ⊢;omega
 revert himp
 generalize decide (1<=f.Blocks.length)=c1
 generalize decide (f.Blocks.length<=64)=c2
 generalize decide (f.Params.length<=16)=c3
 generalize decide (f.Params.length<=64)=c4
 generalize f.Params.all numB=c6
 generalize numB f.Ret=c7
 generalize f.Blocks.all blockB=c8
 cases c3 with
 | true=>
  intro h;obtain rfl:=h rfl;simp only[J1,Zz,Aj,A1,Bi]
  generalize decide (sizeW f<=512)=c5
  cases c1<;>cases c2<;>cases c6<;>cases c7<;>cases c8<;>cases c5<;>rfl
 | false=>
  intro _
  cases c1<;>cases c2<;>rfl
inductive Tp (t:List Int):Nat->Nat->Nat->Prop
 | top {x:Nat} (hx:x<t.length) (h:t.getD x 0 = -1):Tp t x x 0
 | up {x y r k:Nat} (hx:x<t.length) (h:t.getD x 0=(y:Int)) (hk:Tp t y r k):Tp t x r (k+1)
section
variable {t:List Int}
theorem Tp.lt{x r k:Nat}(h:Tp t x r k):x<t.length:=by cases h<;>assumption
theorem Tp.tops{x r k:Nat}(h:Tp t x r k):r<t.length/\t.getD r 0 = -1:=by
 induction h with
 | top hx h=>exact⟨hx,h⟩
 | up _ _ _ ih=>exact ih
theorem Tp.det{x r k r' k':Nat}(h:Tp t x r k)(h':Tp t x r' k'):r=r'/\k=k':=by
 induction h generalizing k' with
 | top hx h=>cases h' with
  | top=>exact⟨rfl,rfl⟩
  | up _ h2 _=>omega
 | up hx h1 _ ih=>cases h' with
  | top _ h2=>omega
  | up _ h2 k2=>
   grind
theorem Tp.upTo{x r k:Nat}(h:Tp t x r k):UpTo (Bo t) x r:=by
 induction h with
 | top=>exact .refl _
 | up _ h _ ih=>exact .up h ih
theorem Tp.on{x r k z:Nat}(h:Tp t x r k)(hz:UpTo (Bo t) x z):∃ j,j<=k/\Tp t z r j/\(j=k->z=x):=by
 induction hz generalizing k with
 | refl x=>grind
 | up hp _ ih=>
  cases h with
  | top _ h2=>have :=hp.symm.trans h2;omega
  | up _ h2 k2=>
   have :=hp.symm.trans h2
   cases IU this
   obtain⟨j,h1,h3,_⟩:=ih k2;exact⟨j,by omega,h3,λe=>by omega⟩
theorem Tp.anti{x r k z:Nat}(h:Tp t x r k)(h1:UpTo (Bo t) x z)(h2:UpTo (Bo t) z x):z=x:=by
 obtain⟨j,j1,j2,j3⟩:=h.on h1;obtain⟨i,i1,i2,i3⟩:=j2.on h2;have:=h.det i2;exact j3 (by omega)
theorem Tp.list{x r k:Nat}(h:Tp t x r k):∃ l:List Nat,l.length=k+1/\l.Nodup/\∀ y∈l,y<t.length/\∃ j,j<=k/\Tp t y r j:=by
 induction h with
 | top hx h=>exact⟨[_],rfl,by simp,λy hy=>by rw[zzL17.1 hy];exact⟨hx,0,zzL5 _,.top hx h⟩⟩
 | @up x y r k hx h hk ih=>
  obtain⟨l,h1,h2,h3⟩:=ih;refine⟨x::l,by simp[h1],zzL95.2 ⟨λhm=>?_,h2⟩,λz hz=>?_⟩
  ·obtain⟨_,j,hj,hj2⟩:=h3 _ hm;have:=(Tp.up hx h hk).det hj2;omega
  ·rcases zzL26.1 hz with rfl|hz
   ·exact⟨hx,k+1,zzL5 _,.up hx h hk⟩
   ·grind
theorem Tp.short{x r k:Nat}(h:Tp t x r k):k<t.length:=by
 obtain⟨l,h1,h2,h3⟩:=h.list;have:=Q0 _ l h2 λy hy=>(h3 y hy).1;omega
theorem Tp.upD{x r k:Nat}(h:Tp t x r k):∀ m,k<m->∃ q,upD t m (x:Int)=some q/\(∀ w:Int,w∈q↔∃ z:Nat,w=(z:Int)/\UpTo (Bo t) x z) /\
  ∀ p:Int->Bool,(q.find? p=none/\∀ z:Nat,UpTo (Bo t) x z->p (z:Int)=false)\/∃ f:Nat,q.find? p=some (f:Int)/\UpTo (Bo t) x f/\p (f:Int)=true/\∀ z:Nat,UpTo (Bo t) x z->p (z:Int)=true->UpTo (Bo t) f z:=by
 induction h with
 | @top x hx h=>
  intro m hm;obtain⟨m,rfl⟩:∃ i,m=i+1:=⟨m-1,by omega⟩
  have htop:∀ z,UpTo (Bo t) x z↔z=x:=λz=>ML λp hp=>by have:_=_:=hp.symm.trans h;omega
  unfold Go.Proofs.YtlnbjgmjaioagaaGreat.upD;rw[if_pos ⟨by omega,by omega⟩,A2,if_pos h];refine⟨_,rfl,λw=>?_,λp=>?_⟩
  ·grind
  ·grind
 | @up x y r k hx h hk ih=>
  intro m hm;obtain⟨m,rfl⟩:∃ i,m=i+1:=⟨m-1,by omega⟩;unfold Go.Proofs.YtlnbjgmjaioagaaGreat.upD;rw[if_pos ⟨by omega,by omega⟩,A2,if_neg (by omega),h];obtain⟨q,hq1,hq2,hq3⟩:=ih m (by omega);rw[hq1];refine⟨(x:Int)::q,rfl,λw=>?_,λp=>?_⟩
  ·rw[zzL26,hq2 w]
   constructor
   ·rintro(rfl|⟨y,rfl,hy⟩)
    ·exact⟨x,rfl,.refl _⟩
    ·exact⟨y,rfl,.up h hy⟩
   ·rintro⟨y,rfl,hy⟩;rcases(anc_up h).1 hy with rfl|hy
    ·exact .inl rfl
    ·exact .inr ⟨y,rfl,hy⟩
  ·cases hpp:p (x:Int) with
   | true=>exact .inr ⟨x,by simp[List.find?,hpp],.refl _,hpp,λy hy _=>hy⟩
   | false=>
    have hf:((x:Int)::q).find? p=q.find? p:=by simp[List.find?,hpp]
    rw[hf];rcases hq3 p with⟨e1,e2⟩|⟨f,e1,e2,e3,e4⟩
    ·refine .inl ⟨e1,λy hy=>?_⟩;rcases(anc_up h).1 hy with rfl|hy
     ·exact hpp
     ·exact e2 y hy
    ·refine .inr ⟨f,e1,.up h e2,e3,λy hy hpy=>?_⟩;rcases(anc_up h).1 hy with rfl|hy
     ·rw[hpp]at hpy;cases hpy
     ·exact e4 y hy hpy
theorem uQ:∀ m (a:Int) q,upD t m a=some q->∃ x r k:Nat,a=(x:Int)/\k<m/\Tp t x r k:=by
 intro m
 induction m with
 | zero=>intro a q h;cases h
 | succ m ih=>
  intro a q h;unfold Go.Proofs.YtlnbjgmjaioagaaGreat.upD at h
  by_cases ha:0<=a/\a<t.length
  ·rw[if_pos ha]at h;have e :=M1 ha.1
   by_cases h1:t.getD a.toNat 0 = -1
   ·exact⟨a.toNat,a.toNat,0,e.symm,by omega,.top (by omega) h1⟩
   ·rw[if_neg h1]at h
    cases hu:Go.Proofs.YtlnbjgmjaioagaaGreat.upD t m _ with
    | none=>rw[hu]at h;cases h
    | some q'=>
     obtain⟨y,r,k,e1,e2,e3⟩:=ih _ _ hu;exact⟨a.toNat,r,k+1,e.symm,by omega,.up (by omega) e1 e3⟩
  ·grind
theorem pathD_tp{a:Int}:Iw t a≠[]↔∃ x r k:Nat,a=(x:Int)/\Tp t x r k:=by
 constructor
 ·intro h
  cases hu:upD t _ a with
  | none=>exact absurd (pathD_nil.2 hu) h
  | some q=>obtain⟨x,r,k,e1,_,e2⟩:=uQ _ _ _ hu;exact⟨x,r,k,e1,e2⟩
 ·rintro⟨x,r,k,rfl,h⟩ e;obtain⟨q,hq,_⟩:=h.upD _ h.short;rw[pathD_nil.1 e]at hq;cases hq
theorem Tp.path{x r k:Nat}(h:Tp t x r k):(∀ w:Int,w∈Iw t (x:Int)↔∃ z:Nat,w=(z:Int)/\UpTo (Bo t) x z) /\
  ∀ p:Int->Bool,((Iw t (x:Int)).find? p=none/\∀ z:Nat,UpTo (Bo t) x z->p (z:Int)=false)\/∃ f:Nat,(Iw t (x:Int)).find? p=some (f:Int)/\UpTo (Bo t) x f/\p (f:Int)=true/\∀ z:Nat,UpTo (Bo t) x z->p (z:Int)=true->UpTo (Bo t) f z:=by
 obtain⟨q,h1,h2,h3⟩:=h.upD _ h.short
 have e:Iw t x=q:=by unfold Iw;rw[h1];rfl
 rw[e];exact⟨h2,h3⟩
theorem Yi{α:Type}{l:List α}{i j:Nat}{x d:α}(hi:i<l.length):(l.set i x).getD j d=if j=i then x else l.getD j d:=by
 grind
theorem qV{x r k:Nat}(h:Tp t x r k):∀ l:List Bool,l.length=t.length->∃ l',Af (H2 t) ((x:Int),l)=some l'/\l'.length=t.length/\∀ z,z<t.length->(l'.getD z false=true↔l.getD z false=true\/UpTo (Bo t) x z):=by
 induction h with
 | @top x hx h=>
  intro l hl
  have hs:H2 t (x,l)=some (.next (-1,l.set x true)):=by
   unfold H2
   have hb:((x:Int)!=-1)=true:=by rw[Tz];omega
   simp only[hb,Aj,A2,h];rw[Ah (M7 (by omega)),Ah (M7 hx)]
  have hd:H2 t (-1,l.set x true)=some (.done (l.set x true)):=by
   rfl
  refine⟨l.set x _,by rw[Ap hs,Am hd],by simp[hl],λz hz=>?_⟩;rw[Yi (by omega)]
  have htop:UpTo (Bo t) x z↔z=x:=ML λp hp=>by have :=hp.symm.trans h;omega
  rw[htop]
  by_cases e:z=x
  ·simp[e]
  ·simp[e]
 | @up x y r k hx h hk ih=>
  intro l hl
  have hs:H2 t (x,l)=some (.next (y,l.set x true)):=by
   unfold H2
   have hb:(x !=(-1:Int))=true:=by rw[Tz];omega
   simp only[hb,Aj,A2,h];rw[Ah (M7 (by omega)),Ah (M7 hx)]
  obtain⟨l',e1,e2,e3⟩:=ih (l.set x _) (by simp[hl]);refine⟨l',by rw[Ap hs,e1],e2,λz hz=>?_⟩;rw[e3 z hz,Yi (by omega),anc_up (par:=Bo t) h]
  by_cases e:z=x
  ·simp[e]
  ·simp[e]
theorem qW{b r k:Nat}(h:Tp t b r k)(l:List Bool)(hl:l.length=t.length):l.getD r false=true->∃ c:Nat,Af (Gt t l) (b:Int)=some (c:Int)/\UpTo (Bo t) b c/\l.getD c false=true/\∀ z,UpTo (Bo t) b z->l.getD z false=true->UpTo (Bo t) c z:=by
 induction h with
 | @top x hx h=>
  intro hr
  have hd:Gt t l x=some (.done x):=by
   unfold Gt;rw[Ah (M7 (by omega)),A2,hr]
   rfl
  exact⟨x,Am hd,.refl _,hr,λz hz _=>hz⟩
 | @up x y r k hx h hk ih=>
  intro hr
  cases hx2:l.getD x _ with
  | true=>
   have hd:Gt t l x=some (.done x):=by
    unfold Gt;rw[Ah (M7 (by omega)),A2,hx2]
    rfl
   exact⟨x,Am hd,.refl _,hx2,λz hz _=>hz⟩
  | false=>
   have hs:Gt t l x=some (.next y):=by
    unfold Gt;rw[Ah (M7 (by omega)),A2,hx2,Qg,Aj,Ah (M7 hx),h]
   obtain⟨c,e1,e2,e3,e4⟩:=ih hr;refine⟨c,by rw[Ap hs,e1],.up h e2,e3,λz hz hlz=>?_⟩;rcases(anc_up  h).1 hz with rfl|hz
   ·grind
   ·exact e4 z hz hlz
theorem JY(ht:t.length<=1000){a b r k m:Nat}(ha:Tp t a r k)(hb:Tp t b r m):∃ c:Nat,Ov t (a:Int) (b:Int)=some (c:Int)/\MeetAt (Bo t) a b c:=by
 unfold Ov
 have hroom:1000<=room:=by decide
 rw[Ah ⟨by omega,by omega,by omega⟩,A2];obtain⟨l',h1,h2,h3⟩:=qV ha (List.replicate t.length _) (by simp);rw[h1,A1]
 have h3':∀ z,z<t.length->(l'.getD z false=true↔UpTo (Bo t) a z):=λz hz=>by grind
 obtain⟨c,e1,e2,e3,e4⟩:=qW hb l' h2 ((h3' r ha.tops.1).2 ha.upTo)
 have hc:c<t.length:=by grind
 refine⟨c,by rw[e1];rfl,λw=>⟨λhw=>⟨((h3' c hc).1 e3).trans hw,e2.trans hw⟩,λ⟨hw1,hw2⟩=>?_⟩⟩;obtain⟨j,_,hj,_⟩:=ha.on hw1;exact e4 w hw2 ((h3' w hj.lt).2 hw1)
theorem mP(hR:Mr t=true){a b r k m:Nat}(ha:Tp t a r k)(hb:Tp t b r m):∃ c:Nat,Qb t (a:Int) (b:Int)=(c:Int)/\MeetAt (Bo t) a b c:=by
 unfold Qb;rw[if_pos hR]
 have hcon:∀ z:Nat,(Iw t b).contains z=true↔UpTo (Bo t) b z:=λz=>by
  rw[QV,hb.path.1]
  constructor
  ·grind
  ·grind
 rcases ha.path.2 (λx=>(Iw t _).contains x) with⟨e1,e2⟩|⟨f,e1,e2,e3,e4⟩
 ·have:=e2 r ha.upTo;rw[(hcon r).2 hb.upTo]at this
  cases this
 ·exact⟨f,by rw[e1];rfl,λw=>⟨λhw=>⟨e2.trans hw,((hcon f).1 e3).trans hw⟩,λ⟨hw1,hw2⟩=>e4 w hw1 ((hcon w).2 hw2)⟩⟩
theorem MeetAt.same{a b r k c d:Nat}(ha:Tp t a r k)(hc:MeetAt (Bo t) a b c)(hd:MeetAt (Bo t) a b d):c=d:=by
 obtain⟨j,_,hj,_⟩:=ha.on ((hc c).1 (.refl _)).1;exact(hj.anti ((hc d).2 ((hd d).1 (.refl _))) ((hd c).2 ((hc c).1 (.refl _)))).symm
end
theorem m_index(t:List Int)(v:Int)(ht:t.length<=1000):(∃ r:Nat,r<t.length/\t.getD r 0=v/\(∀ i,i<r->t.getD i 0≠v)/\Cw t v=some (r:Int))\/((∀ i,i<t.length->t.getD i 0≠v)/\Cw t v=some (-1)):=by
 have key:∀ k i:Nat,i+k=t.length->(∀ j,j<i->t.getD j 0≠v)->
   (∃ r:Nat,r<t.length/\t.getD r 0=v/\(∀ i,i<r->t.getD i 0≠v)/\Af (B7 t v) (i:Int)=some (.inr (r:Int)))\/((∀ i,i<t.length->t.getD i 0≠v)/\Af (B7 t v) (i:Int)=some (.inl ())):=by
  intro k
  induction k with
  | zero=>
   intro i hi hj
   obtain rfl:i=t.length:=by omega
   refine .inr ⟨hj,Am ?_⟩;unfold B7;rw[Ir];rfl
  | succ k ih=>
   intro i hi hj
   by_cases e:v=t.getD i 0
   ·refine .inl ⟨i,by omega,e.symm,hj,Am ?_⟩;unfold B7;have hb:((v:Int)==t.getD i 0)=true:=zzL56.2 e;simp only[Er (show i<t.length by omega),Aj,A2,hb];rw[Ah (M7 (by omega))]
   ·have hs:B7 t v (i:Int)=some (.next ((i+1:Nat):Int)):=by
     unfold B7;have hb:((v:Int)==t.getD i 0)=false:=zzL43.2 e;simp only[Er (show i<t.length by omega),Aj,A2,hb,Bi];rw[Ah (M7 (by omega)),w1 (by omega)]
    rw[Ap hs]
    exact ih (i+1) (by omega) λj hj2=>by
     by_cases ej:j=i
     ·subst ej;exact λh=>e h.symm
     ·exact hj j (by omega)
 have h0:=key t.length 0 (by omega) (λj hj=>absurd hj (S5 _));unfold Cw;rcases h0 with⟨r,h1,h2,h3,h4⟩|⟨h1,h2⟩
 ·exact .inl ⟨r,h1,h2,h3,by rw[show((0:Int))=((0:Nat):Int) from rfl,h4];rfl⟩
 ·exact .inr ⟨h1,by rw[show((0:Int))=((0:Nat):Int) from rfl,h2];rfl⟩
section
variable {t:List Int}
structure BT(t:List Int)(r f:Nat)(w:List Int):Prop where
 len:w.length=t.length
 old:∀ y,y<t.length->w.getD y 0≠0->(w.getD y 0<=(f:Int))/\∃ k,Tp t y r k
structure ka(t:List Int)(r f x:Nat)(w:List Int):Prop where
 len:w.length=t.length
 hx:x<t.length
 old:∀ y,y<t.length->w.getD y 0≠0->w.getD y 0<=(f:Int)/\(∃ k,Tp t y r k)\/w.getD y 0=((f+1:Nat):Int)/\∀ r' k,Tp t x r' k->∃ j,k<j/\Tp t y r' j
 fwd:∀ r' k,Tp t x r' k->∃ j,k<=j/\Tp t f r' j
 back:∀ r' k,Tp t f r' k->∃ j,Tp t x r' j
def VR(w:List Int):Nat:=w.countP λz=>z==0
theorem jz{w:List Int}{x:Nat}{v:Int}(hx:x<w.length)(h0:w.getD x 0=0)(hv:v≠0):VR (w.set x v)<VR w:=by
 unfold VR;rw[List.countP_set hx];rw[Ai _ _ _ hx]at h0;have hp:0<w.countP λz=>z==0:=List.countP_pos_iff.2 ⟨w[x],IQ hx,by simp[h0]⟩;have hb :=zzL43.2 hv;simp only[h0,Zz,Jm,hb,QX,Gk];omega
theorem leads_loop(ht:t.length<=1000){r:Nat}(hr:r<t.length)(htop:t.getD r 0 = -1){f:Nat}(hf:f<t.length):∀(m x:Nat) (w:List Int),VR w<=m->ka t r f x w->
  (∃ w',Af (C1 t (f:Int) (r:Int)) ((x:Int),w)=some (.inl w')/\BT t r (f+1) w'/\∃ k,Tp t f r k) \/
  ∃ b w',Af (C1 t (f:Int) (r:Int)) ((x:Int),w)=some (.inr (b,w'))/\w'.length=t.length/\(b=true->BT t r (f+1) w'/\∃ k,Tp t f r k)/\(b=false->∀ k,¬ Tp t f r k):=by
 intro m
 induction m with
 | zero=>
  intro x w hz hw;exact go 0 (λx w hz=>absurd hz (S5 _)) x w hz hw
 | succ m ih=>
  intro x w hz hw;exact go (m+1) (λx w hz=>ih x w (Nat.le_of_lt_succ hz)) x w hz hw
where
 go (m:Nat) (ih:∀(x:Nat) (w:List Int),VR w<m->ka t r f x w->
  (∃ w',Af (C1 t (f:Int) (r:Int)) ((x:Int),w)=some (.inl w')/\BT t r (f+1) w'/\∃ k,Tp t f r k) \/
  ∃ b w',Af (C1 t (f:Int) (r:Int)) ((x:Int),w)=some (.inr (b,w'))/\w'.length=t.length/\(b=true->BT t r (f+1) w'/\∃ k,Tp t f r k)/\(b=false->∀ k,¬ Tp t f r k)) (x:Nat) (w:List Int) (hz:VR w<=m) (hw:ka t r f x w) :
  (∃ w',Af (C1 t (f:Int) (r:Int)) ((x:Int),w)=some (.inl w')/\BT t r (f+1) w'/\∃ k,Tp t f r k) \/
  ∃ b w',Af (C1 t (f:Int) (r:Int)) ((x:Int),w)=some (.inr (b,w'))/\w'.length=t.length/\(b=true->BT t r (f+1) w'/\∃ k,Tp t f r k)/\(b=false->∀ k,¬ Tp t f r k):=by
  have hxl:=hw.hx
  have told:∀ k,Tp t x r k->BT t r (f+1) w/\∃ k,Tp t f r k:=λk hk=>by
   obtain⟨j,_,hj⟩:=hw.fwd _ _ hk;refine⟨⟨hw.len,λy hy hy0=>?_⟩,j,hj⟩;rcases hw.old y hy hy0 with⟨h1,h2⟩|⟨h1,h2⟩
   ·exact⟨by omega,h2⟩
   ·obtain⟨i,_,hi⟩:=h2 _ _ hk;exact⟨by omega,i,hi⟩
  by_cases hxr:x=r
  ·subst hxr;refine .inl ⟨w,Am ?_,told 0 (.top hr htop)⟩;unfold C1
   have hb:((x:Int)!=(x:Int))=false:=by simp
   simp only[hb,Bi]
  ·have hb:((x:Int)!=(r:Int))=true:=by rw[Tz];omega
   have hin:Ay (x:Int) w.length:=M7 (by rw[hw.len];exact hxl)
   by_cases hw0:w.getD x 0=0
   ·have hb0:((w.getD x 0:Int)!=0)=false:=by rw[hw0];rfl
    by_cases hpl:0<=t.getD x 0/\t.getD x 0<(t.length:Int)
    ·have hwf:A3 ((f:Int)+1)=((f+1:Nat):Int):=w1 (by omega)
     have hs:C1 t (f:Int) (r:Int) ((x:Int),w)=some (.next (t.getD x 0,w.set x ((f+1:Nat):Int))):=by
      unfold C1 Jo;simp only[hb,Aj,A2,hb0,Bi];rw[Ah hin,Ah (M7 hxl),H8 hpl.1,H8 hpl.2,Aj,A1,J1,Bi,Ah hin,Ah (M7 hxl),hwf]
     rw[Ap hs];obtain⟨y,hy⟩:∃ y:Nat,t.getD x 0=(y:Int):=⟨(t.getD x 0).toNat,(M1 hpl.1).symm⟩;rw[hy]at hpl ⊢
     have hyl:y<t.length:=by omega
     have hst:∀ r' k,Tp t y r' k->Tp t x r' (k+1):=λr' k hk=>.up hxl hy hk
     have hset:∀ z,z<t.length->(w.set x ((f+1:Nat):Int)).getD z 0=if z=x then((f+1:Nat):Int) else w.getD z 0:=λz _=>Yi (by rw[hw.len];exact hxl)
     have hW:ka t r f y (w.set x ((f+1:Nat):Int)):=by
      refine⟨by simp[hw.len],hyl,λz hzl hz0=>?_,λr' k hk=>?_,λr' k hk=>?_⟩
      ·rw[hset z hzl]at hz0 ⊢
       by_cases e:z=x
       ·subst e;rw[if_pos rfl];exact .inr ⟨rfl,λr' k hk=>⟨k+1,by omega,hst r' k hk⟩⟩
       ·rw[if_neg e]at hz0 ⊢;rcases hw.old z hzl hz0 with h1|⟨h1,h2⟩
        ·exact .inl h1
        ·refine .inr ⟨h1,λr' k hk=>?_⟩;obtain⟨j,hj1,hj2⟩:=h2 _ _ (hst r' k hk);exact⟨j,by omega,hj2⟩
      ·obtain⟨j,hj1,hj2⟩:=hw.fwd _ _ (hst r' k hk);exact⟨j,by omega,hj2⟩
      ·obtain⟨j,hj⟩:=hw.back _ _ hk
       cases hj with
       | top _ h2=>omega
       | up _ h2 h3=>
        have:=hy.symm.trans h2
        cases IU this
        exact⟨_,h3⟩
     have hzz:=jz (x:=x) (v:=((f+1:Nat):Int)) (by rw[hw.len];exact hxl) hw0 (by omega);exact ih y _ (by omega) hW
    ·refine .inr ⟨false,w,Am ?_,hw.len,⟨λh=>(by cases h),λ_ k hk=>?_⟩⟩
     ·unfold C1 Jo;simp only[hb,Aj,A2,hb0,Bi];rw[Ah hin,Ah (M7 hxl)]
      have:(bif decide ((0:Int)<=t.getD x 0) then decide (t.getD x 0<(t.length:Int)) else false)=false:=by
       cases h1:decide ((0:Int)<=t.getD x 0) with
       | false=>rfl
       | true=>rw[Aj];exact J0 λh2=>hpl ⟨QY h1,h2⟩
      rw[this,A1]
      rfl
     ·obtain⟨j,hj⟩:=hw.back _ _ hk
      cases hj with
      | top=>exact hxr rfl
      | up _ h2 h3=>have:=h3.lt;exact hpl ⟨by omega,by omega⟩
   ·have hb0:((w.getD x 0:Int)!=0)=true:=by rw[Tz];exact hw0
    have hwf:A3 ((f:Int)+1)=((f+1:Nat):Int):=w1 (by omega);refine .inr ⟨w.getD x 0 !=((f+1:Nat):Int),w,Am ?_,hw.len,⟨λh=>?_,λh k hk=>?_⟩⟩
    ·unfold C1;simp only[hb,Aj,A2,hb0];rw[Ah hin,Ah hin,hwf]
    ·rcases hw.old x hxl hw0 with⟨_,k,hk⟩|⟨h1,_⟩
     ·exact told k hk
     ·rw[h1]at h;simp at h
    ·have he:w.getD x 0=((f+1:Nat):Int):=by simpa using h
     obtain⟨j,hj⟩:=hw.back _ _ hk;rcases hw.old x hxl hw0 with⟨h1,_⟩|⟨_,h2⟩
     ·omega
     ·obtain⟨i,hi1,hi2⟩:=h2 _ _ hj;have:=hj.det hi2;omega
end
section
variable {t:List Int}
theorem qR(ht:t.length<=1000){r:Nat}(hr:r<t.length)(htop:t.getD r 0 = -1){f:Nat}(hf:f<t.length){w:List Int}(hw:BT t r f w) :
  ∃ b w',Ss t w (f:Int) (r:Int)=some (b,w')/\w'.length=t.length/\(b=true->BT t r (f+1) w'/\∃ k,Tp t f r k)/\(b=false->∀ k,¬ Tp t f r k):=by
 unfold Ss;have hW:ka t r f f w:=⟨hw.len,hf,λy hy h0=>.inl (hw.old y hy h0),λr' k hk=>⟨k,zzL5 _,hk⟩,λr' k hk=>⟨k,hk⟩⟩;rcases leads_loop ht hr htop hf _ f w (zzL5 _) hW with⟨w',e1,e2⟩|⟨b,w',e1,e2,e3,e4⟩
 ·exact⟨true,w',by rw[e1];rfl,e2.1.len,λ_=>e2,λh=>by cases h⟩
 ·grind
def TH(t:List Int)(r:Nat):Prop:=∀ f,f<t.length->t.getD f 0≠-2->∃ k,Tp t f r k
open Classical in
theorem bP(ht:t.length<=1000){r:Nat}(hr:r<t.length)(htop:t.getD r 0 = -1):∀(k f:Nat) (w:List Int),f+k=t.length->BT t r f w->(∀ y,y<f->t.getD y 0≠-2->∃ k,Tp t y r k)->
  Af (E6 t (r:Int)) ((f:Int),w)=some (if TH t r then .inl () else .inr false):=by
 intro k
 induction k with
 | zero=>
  intro f w hk hw hd
  obtain rfl:f=t.length:=by omega
  apply Am
  unfold E6;simp only[Ir,Bi];rw[if_pos (show TH t r from hd)]
 | succ k ih=>
  intro f w hk hw hd
  have hf:f<t.length:=by omega
  by_cases h2:t.getD f 0 = -2
  ·have hb:((t.getD f 0:Int)!=(-2))=false:=by rw[h2];rfl
   have hs:E6 t (r:Int) ((f:Int),w)=some (.next (((f+1:Nat):Int),w)):=by
    unfold E6;simp only[Er hf,Aj,A2,hb,show(false==true)=false from rfl,Bi,A1];rw[Ah (M7 hf),Ah (λh=>by cases h),w1 (by omega)]
   rw[Ap hs];refine ih (f+1) w (by omega) ⟨hw.len,λy hy h0=>?_⟩ λy hy hy2=>?_
   ·obtain⟨e1,e2⟩:=hw.old y hy h0;exact⟨by omega,e2⟩
   ·by_cases e:y=f
    ·subst e;exact absurd h2 hy2
    ·exact hd y (by omega) hy2
  ·have hb:((t.getD f 0:Int)!=(-2))=true:=by rw[Tz];exact h2
   obtain⟨b,w',e1,e2,e3,e4⟩:=qR ht hr htop hf hw
   cases b with
   | false=>
    rw[if_neg (λhA:TH t r=>by obtain⟨k,hk⟩:=hA f hf h2;exact e4 rfl k hk)]
    apply Am
    unfold E6;simp only[Er hf,Aj,A2,hb,show(true==true)=true from rfl,e1,A1];rw[Ah (M7 hf),Ah (λ_=>by rw[hw.len,e2])]
    rfl
   | true=>
    have hs:E6 t (r:Int) ((f:Int),w)=some (.next (((f+1:Nat):Int),w')):=by
     unfold E6;simp only[Er hf,Aj,A2,hb,show(true==true)=true from rfl,e1,A1];rw[Ah (M7 hf),Ah (λ_=>by rw[hw.len,e2]),w1 (by omega)]
     rfl
    rw[Ap hs];obtain⟨e5,e6⟩:=e3 rfl;refine ih (f+1) w' (by omega) e5 λy hy hy2=>?_
    by_cases e:y=f
    ·subst e;exact e6
    ·exact hd y (by omega) hy2
theorem nF:GF t t.length=1↔∃ r,r<t.length/\t.getD r 0 = -1/\∀ x,x<t.length->t.getD x 0 = -1->x=r:=by
 have key:∀ n,(GF t n=0↔∀ x,x<n->t.getD x 0≠-1)/\(GF t n=1↔∃ r,r<n/\t.getD r 0 = -1/\∀ x,x<n->t.getD x 0 = -1->x=r):=by
  intro n
  induction n with
  | zero=>exact⟨⟨λ_ x hx=>absurd hx (S5 _),λ_=>rfl⟩,⟨λh=>by simp[GF]at h,λ⟨r,h,_⟩=>absurd h (S5 _)⟩⟩
  | succ n ih=>
   rw[QG]
   by_cases e:t.getD n 0 = -1
   ·rw[if_pos e];refine⟨⟨λh=>by omega,λh=>absurd e (h n (by omega))⟩,⟨λh=>⟨n,by omega,e,λx hx hx1=>?_⟩,λ⟨r,h1,h2,h3⟩=>?_⟩⟩
    ·by_cases ex:x=n
     ·exact ex
     ·grind
    ·have:=ih.1.2 λx hx hx1=>by
      grind
     omega
   ·grind
 exact(key _).2
theorem rightD_iff:Mr t=true↔∃ r,r<t.length/\t.getD r 0 = -1/\TH t r:=by
 unfold Mr;rw[A9,all_range,Gj,nF]
 constructor
 ·rintro⟨h1,r,h2,h3,h4⟩;refine⟨r,h2,h3,λf hf hf2=>?_⟩;have:=h1 f hf;unfold xI at this;rw[RB,Gj,U3,YG]at this;rcases this with h|h
  ·exact absurd h hf2
  ·obtain⟨x,r',k,e,hk⟩:=pathD_tp.1 h
   cases IU e
   have:=h4 _ hk.tops.1 hk.tops.2;subst this;exact⟨k,hk⟩
 ·rintro⟨r,h2,h3,h4⟩;refine⟨λf hf=>?_,r,h2,h3,λx hx hx1=>?_⟩
  ·unfold xI;rw[RB,Gj,U3,YG]
   by_cases e:t.getD f 0 = -2
   ·exact .inl e
   ·obtain⟨k,hk⟩:=h4 f hf e;exact .inr (pathD_tp.2 ⟨f,r,k,rfl,hk⟩)
  ·obtain⟨k,hk⟩:=h4 x hx (by omega);exact((hk.det (.top hx hx1)).1).symm
theorem VD(hR:Mr t=true):∃ r,TH t r:=by obtain⟨r,_,_,h⟩:=rightD_iff.1 hR;exact⟨r,h⟩
theorem mL(ht:t.length<=1000):Qn t=some (Mr t):=by
 unfold Qn
 have hroom:1000<=room:=by decide
 rcases m_index t _ ht with⟨r,h1,h2,h3,h4⟩|⟨h1,h2⟩
 ·rw[h4,A1,J0 (by omega),Bi,Ah ⟨by omega,by omega,by omega⟩,A2];have hl:=bP ht h1 h2 t.length 0 (List.replicate t.length 0) (by omega) ⟨by simp,λy hy h0=>absurd GC h0⟩ (λy hy=>absurd hy (S5 _));rw[show(((0:Nat):Int))=0 from rfl]at hl;rw[hl,A1]
  by_cases hA:TH t r
  ·rw[if_pos hA,rightD_iff.2 ⟨r,h1,h2,hA⟩]
  ·rw[if_neg hA]
   have :=Bool.eq_false_iff.2 λhR=>by
    obtain⟨r',g1,g2,g3⟩:=rightD_iff.1 hR;obtain⟨k,hk⟩:=g3 r h1 (by omega);have:=(hk.det (.top h1 h2)).1;subst this;exact hA g3
   rw[this]
 ·rw[h2]
  have :=Bool.eq_false_iff.2 λhR=>by
   obtain⟨r',g1,g2,g3⟩:=rightD_iff.1 hR;exact h1 r' g1 g2
  rw[this]
  rfl
def DF(t:List Int)(a:Int):Bool:=decide (0<=a)&&decide (a<(t.length:Int))&&decide (t.getD a.toNat 0≠-2)
theorem OC(hR:Mr t=true){a:Int}:DF t a=true↔∃ x k r:Nat,a=(x:Int)/\Tp t x r k:=by
 unfold DF;rw[A9,A9,Gj,Gj,Gj]
 constructor
 ·rintro⟨⟨h1,h2⟩,h3⟩;obtain⟨r,hA⟩:=VD hR;obtain⟨k,hk⟩:=hA _ (by omega) h3;exact⟨a.toNat,k,r,(M1 h1).symm,hk⟩
 ·rintro⟨x,k,r,rfl,h⟩;rw[A2]
  cases h with
  | top _ h2=>omega
  | up _ h2 _=>omega
theorem d7(a:Int):Kg t a=some (DF t a):=by
 unfold Kg Jo DF;rw[A1]
 cases h1:decide (0<=a) with
 | false=>rfl
 | true=>
  rw[Aj,Kz]
  cases h2:decide (a<t.length) with
  | false=>rfl
  | true=>
   rw[Ah (λ_=>⟨QY h1,QY h2⟩),Aj,Kz]
   congr 1
   rw[IR,Tz,Gj]
theorem qQ(ht:t.length<=1000)(a b:Int):Sr t a b=some (Mr t&&DF t a&&DF t b):=by
 unfold Sr;rw[mL ht]
 cases Mr t with
 | false=>rfl
 | true=>
  simp only[  d7, Kz]
  cases DF t a with
  | false=>rfl
  | true=>grind
theorem jT{a b:Int}(h:(Mr t&&DF t a&&DF t b)=false):Qb t a b = -2:=by
 unfold Qb
 by_cases hR:Mr t=true
 ·rw[if_pos hR];rw[hR]at h
  have hno:∀ c,DF t c=false->Iw t c=[]:=λc hc=>by
   by_cases e:Iw t c=[]
   ·exact e
   ·obtain⟨x,r,k,e1,e2⟩:=pathD_tp.1 e;rw[(OC hR).2 ⟨x,k,r,e1,e2⟩]at hc;cases hc
  cases ha:DF t a with
  | false=>rw[hno a ha];rfl
  | true=>
   rw[ha]at h;rw[hno b h]
   have:((Iw t a).find? λx=>[].contains x)=none:=List.find?_eq_none.2 λx _=>by simp
   rw[this]
   rfl
 ·rw[if_neg hR]
theorem SO(ht:t.length<=1000){a b:Int}(h:(Mr t&&DF t a&&DF t b)=true):Ov t a b=some (Qb t a b)/\0<=Qb t a b:=by
 rw[A9,A9]at h;obtain⟨⟨hR,ha⟩,hb⟩:=h;obtain⟨x,k,r,rfl,hx⟩:=(OC hR).1 ha;obtain⟨y,m,r',rfl,hy⟩:=(OC hR).1 hb;obtain⟨rr,hA⟩:=VD hR
 have top:∀{x r k},Tp t x r k->r=rr:=λ{x r k} h=>by
  obtain⟨i,hi⟩:=hA r h.tops.1 (by rw[h.tops.2];omega);exact((Tp.top h.tops.1 h.tops.2).det hi).1
 obtain rfl:=top hx;obtain rfl:=top hy;obtain⟨c,h1,h2⟩:=JY ht hx hy;obtain⟨d,h3,h4⟩:=mP hR hx hy;have:=h2.same hx h4;subst this;exact⟨by rw[h1,h3],by omega⟩
theorem tv(ht:t.length<=1000)(a b:Int):Vr t a b=some (KH t a b):=by
 unfold Vr KH;rw[qQ ht]
 cases h:(Mr t&&DF t a&&DF t b) with
 | false=>
  rw[jT h]
  have:(-2==a&&(-2 !=-2))=false:=by simp
  rw[this]
  rfl
 | true=>
  obtain⟨h1,h2⟩:=SO ht h;simp only[show(true==true)=true from rfl,Aj,h1,A1]
  have:(Qb t a b !=-2)=true:=by rw[Tz];omega
  rw[this,QT]
end
theorem qa:∀ n:Fin 65,Ml (Du 1) (Du ((n.val:Nat):Int))=some (0,((n.val:Nat):Int)):=by decide +kernel
theorem jX{n:Nat}(h:n<=64):Ml (Du 1) (Du (n:Int))=some (0,(n:Int)):=qa ⟨n,by omega⟩
theorem cO{v:Int}{n:Nat}(hn:n<=64):∀(m i:Nat) (l:List Int),n-i<=m->1<=i->i<=n->l.length=n->(∀ j,j<i->l.getD j 0=v)->Af Ck ((i:Int),l)=some (List.replicate n v):=by
 intro m
 induction m with
 | zero=>
  intro i l hm h1 h2 hl hv
  obtain rfl:i=n:=by omega
  exact fin l hl hv
 | succ m ih=>
  intro i l hm h1 h2 hl hv
  by_cases e:i=n
  ·grind
  ·have hs:Ck ((i:Int),l)=some (.next (((i+Nat.min i (n-i):Nat):Int),WX l i (Nat.min i (n-i)) (λj=>l.getD (0+j) 0))):=by
    unfold Ck;simp only[hl,Er (show i<n by omega),Aj,A2,Gc,IW];have hc:(0:Int)<=(i:Int)/\i<=n:=⟨by omega,h2⟩;have hmn:Nat.min i (n-i)<=i:=Nat.min_le_left _ _;rw[Ah hc,Ah hc,Hj (by omega) (by omega),Int.natCast_add]
   rw[Ap hs];have hmn:Nat.min i (n-i)<=i/\Nat.min i (n-i)<=n-i:=⟨Nat.min_le_left _ _,Nat.min_le_right _ _⟩;have hge:1<=Nat.min i (n-i):=Nat.le_min.2 ⟨h1,by omega⟩;refine ih _ _ (by omega) (by omega) (by omega) (by rw[<- Ee];exact hl) λj hj=>?_;rw[NS _ _ _ _ _ _ (by omega)]
   by_cases hji:i<=j/\j<i+Nat.min i (n-i)
   ·grind
   ·grind
where
 fin {v:Int} {i:Nat} (l:List Int) (hl:l.length=i) (hv:∀ j,j<i->l.getD j 0=v):Af Ck ((i:Int),l)=some (List.replicate i v):=by
  apply Am
  unfold Ck;simp only[hl,Ir,Bi]
  congr 2
  refine QQ (by simp[hl]) λj h1 h2=>?_;rw[<- Ai _ _ 0 h1,hv j (by omega)]
  simp
theorem mM{v:Int}{n:Nat}(h1:1<=n)(hn:n<=64):Gb [v] (n:Int)=some (List.replicate n v):=by
 have hroom:64<=room:=by decide
 unfold Gb;rw[J0 (by omega),Bi,A1]
 show Option.bind (Ml (Du 1) _) _=_
 rw[jX hn,A1];have e1:decide (0<0)=false:=rfl;have e2:decide (9223372036854775807<(n:Int))=false:=J0 (by omega);simp only[ e2,Bi];have ew:A3 n=n:=Hj (by omega) (by omega);rw[ew,Ah ⟨by omega,by omega,by omega⟩,A2,Pu,IW];have em:Nat.min [v].length n=1:=Nat.min_eq_left h1;rw[em,cO hn n 1 _ (by omega) (zzL5 _) h1 (by rw[<- Ee];simp) (λj hj=>?_)]
 ·rfl
 ·rw[NS _ _ _ _ _ _ (by simp;omega),if_pos ⟨by omega,by omega⟩]
  have:j-0=0:=by omega
  rw[this];rfl
section
variable {S:Nat->List Nat} {r n:Nat} {P:List Nat}
theorem Inv.tp{at_:Nat->Nat}{t:List Int}(h:Inv S r n at_ (Bo t))(hl:t.length=n):∀ m x,at_ x<=m->x<n->Bo t x≠-2->∃ k,Tp t x r k:=by
 intro m
 induction m with
 | zero=>
  intro x hm hx hp;rcases h.kind x hx with h1|h1|⟨z,hz⟩
  ·exact absurd h1 hp
  ·subst h1;exact⟨0,.top (by omega) h.top⟩
  ·obtain⟨_,_,h3,_⟩:=h.up x hx z hz;omega
 | succ m ih=>
  intro x hm hx hp;rcases h.kind x hx with h1|h1|⟨z,hz⟩
  ·exact absurd h1 hp
  ·subst h1;exact⟨0,.top (by omega) h.top⟩
  ·obtain⟨z1,z2,z3,_⟩:=h.up x hx z hz;obtain⟨k,hk⟩:=ih z (by omega) z1 z2;exact⟨k+1,.up (by omega) hz hk⟩
def EG(t l:List Int)(i:Nat)(v:Int):Prop:=
 (v = -2/\∀ j,j<i->Bo t (l.getD j 0).toNat = -2) \/
 ∃ z:Nat,v=(z:Int)/\z<t.length/\Bo t z≠-2/\(∀ w,UpTo (Bo t) z w↔∀ j,j<i->Bo t (l.getD j 0).toNat≠-2->UpTo (Bo t) (l.getD j 0).toNat w)
theorem XG{at_:Nat->Nat}{t l:List Int}(ht:t.length<=64)(hll:l.length<=64)(h:Inv S r n at_ (Bo t))(hl:t.length=n)(hin:∀ x∈l,0<=x/\x<(n:Int)):∀(k i:Nat) (v:Int),i+k=l.length->EG t l i v->
  ∃ v',Af (Ek t l) (v,(i:Int))=some v'/\EG t l l.length v':=by
 intro k
 induction k with
 | zero=>
  intro i v hi hv
  obtain rfl:i=l.length:=by omega
  refine⟨v,Am ?_,hv⟩;unfold Ek;simp only[Ir,Bi]
 | succ k ih=>
  intro i v hi hv
  have hil:i<l.length:=by omega
  obtain⟨x0,x1⟩:=hin _ (Ar (d:=0) hil);have hxe:(((l.getD i 0).toNat:Nat):Int)=l.getD i 0:=M1 x0;have hxin:Ay (l.getD i 0) t.length:=vv x0 (by omega)
  have next:∀ v',Ek t l (v,(i:Int))=some (.next (v',((i+1:Nat):Int)))->EG t l (i+1) v'->∃ v',Af (Ek t l) (v,(i:Int))=some v'/\EG t l l.length v':=λv' hs hv'=>by
   rw[Ap hs];exact ih (i+1) v' (by omega) hv'
  by_cases hp:Bo t (l.getD i 0).toNat = -2
  ·have hb:((t.getD (l.getD i 0).toNat 0:Int)==-2)=true:=zzL56.2 hp;refine next v ?_ ?_
   ·unfold Ek;simp only[Er hil,Aj,A2,hb];rw[Ah (M7 hil),Ah hxin,A1,w1 (by omega)]
   ·have hstep:∀ w,(∀ j,j<i->Bo t (l.getD j 0).toNat≠-2->UpTo (Bo t) (l.getD j 0).toNat w)↔∀ j,j<i+1->Bo t (l.getD j 0).toNat≠-2->UpTo (Bo t) (l.getD j 0).toNat w:=λw=>by
     refine⟨λhj j hj1 hj2=>?_,λhj j hj1=>hj j (by omega)⟩
     by_cases e:j=i
     ·subst e;exact absurd hp hj2
     ·exact hj j (by omega) hj2
    rcases hv with⟨h1,h2⟩|⟨z,h1,h2,h3,h4⟩
    ·refine .inl ⟨h1,λj hj=>?_⟩
     by_cases e:j=i
     ·subst e;exact hp
     ·exact h2 j (by omega)
    ·exact .inr ⟨z,h1,h2,h3,λw=>by rw[h4 w,hstep w]⟩
  ·have hb:((t.getD (l.getD i 0).toNat 0:Int)==-2)=false:=zzL43.2 hp;rcases hv with⟨h1,h2⟩|⟨z,h1,h2,h3,h4⟩
   ·subst h1;refine next (l.getD i 0) ?_ (.inr ⟨(l.getD i 0).toNat,hxe.symm,by omega,hp,λw=>⟨λhw j hj hj2=>?_,λhw=>hw i (by omega) hp⟩⟩)
    ·unfold Ek;simp only[Er hil,Aj,A2,hb,Bi,show((-2:Int)==-2)=true from rfl];rw[Ah (M7 hil),Ah hxin,A1,w1 (by omega)]
    ·by_cases e:j=i
     ·subst e;exact hw
     ·exact absurd (h2 j (by omega)) hj2
   ·subst h1;have hb2:((z:Int)==-2)=false:=zzL43.2 (by omega);obtain⟨k1,hk1⟩:=h.tp hl _ z (zzL5 _) (by omega) h3;obtain⟨k2,hk2⟩:=h.tp hl _ (l.getD i 0).toNat (zzL5 _) (by omega) hp;obtain⟨c,c1,c2⟩:=JY (by omega) hk1 hk2;have hcz:=(c2 c).1 (.refl _);obtain⟨jc,_,hjc,_⟩:=hk1.on hcz.1
    have hcp:Bo t c≠-2:=by
     show t.getD c 0≠-2
     cases hjc with
     | top _ h=>omega
     | up _ h _=>omega
    refine next (c:Int) ?_ (.inr ⟨c,rfl,hjc.lt,hcp,λw=>?_⟩)
    ·rw[hxe]at c1;unfold Ek;simp only[Er hil,Aj,A2,hb,Bi,hb2,c1,A1];rw[Ah (M7 hil),Ah hxin,A1,w1 (by omega)]
    ·rw[c2 w,h4 w];refine⟨λ⟨a1,a2⟩ j hj hj2=>?_,λha=>⟨λj hj=>ha j (by omega),ha i (by omega) hp⟩⟩
     by_cases e:j=i
     ·subst e;exact a2
     ·exact a1 j (by omega) hj2
theorem jP{at_:Nat->Nat}{t l:List Int}(ht:t.length<=64)(hll:l.length<=64)(h:Inv S r n at_ (Bo t))(hl:t.length=n)(hin:∀ x∈l,0<=x/\x<(n:Int)) :
  ∃ v,Jp t l=some v/\EG t l l.length v:=by
 obtain⟨v,h1,h2⟩:=XG ht hll h hl hin l.length 0 _ (by omega) (.inl ⟨rfl,λj hj=>absurd hj (S5 _)⟩);refine⟨v,?_,h2⟩;unfold Jp;rw[show((0:Int))=(0:Nat) from rfl,h1]
 rfl
end
section
variable {L:List (List Int)} (hm:Ob L=true) {r:Nat} {P:List Nat}
include hm
theorem m8{p y:Nat}(hp:p<L.length):y∈sN L p↔EZ L p y=true:=by
 rw[lu];obtain⟨_,_,h3⟩:=mayS_iff.1 hm
 constructor
 ·intro h;obtain⟨x,hx,rfl⟩:=zzL20.1 h;have:=XJ (h3 p hp) hx;rw[M1 this.1];exact hx
 ·intro h;exact zzL20.2 ⟨_,h,A2 y⟩
theorem Zg{y:Nat}(hy:y<L.length){x:Int}:x∈(Dl L).getD y []↔∃ p:Nat,x=(p:Int)/\p<L.length/\y∈sN L p:=by
 rw[BB hy];unfold Lu;rw[be]
 constructor
 ·rintro⟨k,h1,h2,h3⟩;exact⟨k,h1,h2,(m8 hm h2).2 h3⟩
 ·rintro⟨k,h1,h2,h3⟩;exact⟨k,h1,h2,(m8 hm h2).1 h3⟩
theorem XF(o:Ordered (sN L) r L.length P){t:List Int}{i:Nat}(h:Ready (sN L) r L.length P t i)(hi:i<P.length) :
  Jp t ((Dl L).getD (P.getD i 0) [])=some (Mj (sN L) L.length t (P.getD i 0):Int):=by
 obtain⟨hL1,hL64,_⟩:=mayS_iff.1 hm;have hyn:P.getD i 0<L.length:=o.lt (Jz _ (Ua hi))
 have hlen:((Dl L).getD (P.getD i 0) []).length<=64:=by
  rw[BB hyn];have:=DR L L.length (P.getD i 0);omega
 obtain⟨v,h1,h2⟩:=jP (by rw[h.len];exact hL64) hlen h.inv h.len λx hx=>by
  obtain⟨p,rfl,hp,_⟩:=(Zg hm hyn).1 hx;omega
 rw[h1];have hb:=h.best o hi
 have mem:∀ p,p<L.length->P.getD i 0∈sN L p->∃ j,j<((Dl L).getD (P.getD i 0) []).length/\(((Dl L).getD (P.getD i 0) []).getD j 0).toNat=p:=λp hp hy=>by
  obtain⟨j,hj,e⟩:=Lm ((Zg hm hyn).2 ⟨p,rfl,hp,hy⟩);exact⟨j,hj,by rw[Ai _ _ _ hj,e,A2]⟩
 have mem':∀ j,j<((Dl L).getD (P.getD i 0) []).length->(((Dl L).getD (P.getD i 0) []).getD j 0).toNat<L.length/\P.getD i 0∈sN L (((Dl L).getD (P.getD i 0) []).getD j 0).toNat:=λj hj=>by
  obtain⟨p,e,hp,hy⟩:=(Zg hm hyn).1 (Ar (d:=(0:Int)) hj);rw[e,A2];exact⟨hp,hy⟩
 rcases h2 with⟨rfl,h3⟩|⟨z,rfl,hz,hz2,h4⟩
 ·obtain⟨p,hp,hyp,hp2,_⟩:=hb.fwd;obtain⟨j,hj,e⟩:=mem p hp hyp;exact absurd (by rw[<- e];exact h3 j hj) hp2
 ·have hbest:dB (sN L) L.length (Bo t) (P.getD i 0) z:=λw=>by
   rw[h4 w];refine⟨λha p hp hyp hp2=>?_,λha j hj hj2=>?_⟩
   ·obtain⟨j,hj,e⟩:=mem p hp hyp;have:=ha j hj (by rw[e];exact hp2);rwa[e]at this
   ·grind
  rw[h.best_eq o hi (by rw[<- h.len];exact hz) hz2 hbest]
end
theorem bo{P:List Nat}{i:Nat}(h:i<P.length):(T4 P).getD i 0=((P.getD i 0:Nat):Int):=by
 unfold T4;rw[Ai _ _ _ (by simpa using h),Ai _ _ _ h,List.getElem_map]
 rfl
theorem cQ{t:List Int}{x:Nat}{v:Int}(hx:x<t.length)(h:t.getD x 0=v):t.set x v=t:=by
 subst h;rw[Ai _ _ _ hx];exact List.set_getElem_self hx
section
variable {L:List (List Int)} (hm:Ob L=true) {r:Nat} {P:List Nat} (o:Ordered (sN L) r L.length P)
include hm o
theorem eU{t0:List Int}(h:Ready (sN L) r L.length P t0 0):∀(k i:Nat) (b:Bool),i+k=P.length->
  ∃ b',Af (D8 (EY L) (T4 (r::P))) (b,(i:Int),X1 (sN L) L.length P t0 i)=some (b',X1 (sN L) L.length P t0 P.length) /\
   (b'=false↔b=false/\∀ j,i<=j->j<P.length->Bo (X1 (sN L) L.length P t0 j) (P.getD j 0)=(Mj (sN L) L.length (X1 (sN L) L.length P t0 j) (P.getD j 0):Int)):=by
 have hP64:P.length<=64:=by
  have h1:=Q0 L.length (r::P) o.nodup λx hx=>o.lt hx;have h2:=(mayS_iff.1 hm).2.1;simp at h1;omega
 have hdl:(T4 (r::P)).drop (1:Int).toNat=T4 P:=rfl
 have hlen:(T4 P).length=P.length:=by simp[T4]
 intro k
 induction k with
 | zero=>
  intro i b hi
  obtain rfl:i=P.length:=by omega
  refine⟨b,Am ?_,λh=>⟨h,λj h1 h2=>by omega⟩,λh=>h.1⟩;unfold D8;simp only[hdl,hlen,Ir,Bi]
 | succ k ih=>
  intro i b hi
  have hil:i<P.length:=by omega
  have rd:=h.round o i (by omega);have hma:=XF hm o rd hil;have hyn:P.getD i 0<L.length:=o.lt (Jz _ (Ua hil))
  have hyt:P.getD i 0<(X1 (sN L) L.length P t0 i).length:=by rw[rd.len];exact hyn
  have hpred:(EY L).Pred=Dl L:=rfl
  by_cases he:Bo (X1 (sN L) L.length P t0 i) (P.getD i 0)=(Mj (sN L) L.length (X1 (sN L) L.length P t0 i) (P.getD i 0):Int)
  ·have hb:((Mj (sN L) L.length (X1 (sN L) L.length P t0 i) (P.getD i 0):Int)!=(X1 (sN L) L.length P t0 i).getD (P.getD i 0) 0)=false:=by
    have:(X1 (sN L) L.length P t0 i).getD (P.getD i 0) 0=_:=he;rw[this];simp
   have hnx:X1 (sN L) L.length P t0 (i+1)=X1 (sN L) L.length P t0 i:=cQ hyt he
   have hs:D8 (EY L) (T4 (r::P)) (b,(i:Int),X1 (sN L) L.length P t0 i)=some (.next (b,((i+1:Nat):Int),X1 (sN L) L.length P t0 (i+1))):=by
    unfold D8;simp only[hdl,hlen,Er hil,Aj,A2,bo hil,hpred,hma,A1,hb,Bi];rw[Ah (M7 hil),Ah (M7 (by rw[O1];exact hyn)),Ah (M7 hyt),A1,w1 (by omega),hnx]
   obtain⟨b',e1,e2⟩:=ih (i+1) b (by omega);refine⟨b',by rw[Ap hs,e1],λh=>?_,λ⟨h1,h2⟩=>e2.2 ⟨h1,λj hj=>h2 j (by omega)⟩⟩;obtain⟨h1,h2⟩:=e2.1 h;refine⟨h1,λj hj1 hj2=>?_⟩
   by_cases e:j=i
   ·subst e;exact he
   ·exact h2 j (by omega) hj2
  ·have hb:((Mj (sN L) L.length (X1 (sN L) L.length P t0 i) (P.getD i 0):Int)!=(X1 (sN L) L.length P t0 i).getD (P.getD i 0) 0)=true:=by
    rw[Tz];exact λe=>he e.symm
   have hs:D8 (EY L) (T4 (r::P)) (b,(i:Int),X1 (sN L) L.length P t0 i)=some (.next (true,((i+1:Nat):Int),X1 (sN L) L.length P t0 (i+1))):=by
    unfold D8;simp only[hdl,hlen,Er hil,Aj,A2,bo hil,hpred,hma,A1,hb];rw[Ah (M7 hil),Ah (M7 (by rw[O1];exact hyn)),Ah (M7 hyt),Ah (M7 hyt),A1,w1 (by omega)]
    rfl
   obtain⟨b',e1,e2⟩:=ih (i+1) true (by omega);refine⟨b',by rw[Ap hs,e1],λh=>?_,λ⟨h1,h2⟩=>absurd (h2 i (zzL5 _) hil) he⟩;obtain⟨h1,_⟩:=e2.1 h;cases h1
theorem jj{t0:List Int}(h:Ready (sN L) r L.length P t0 0):∃ b,Af (D8 (EY L) (T4 (r::P))) (false,(0:Int),t0)=some (b,X1 (sN L) L.length P t0 P.length)/\(b=false↔X8 (sN L) L.length P t0):=by
 obtain⟨b,e1,e2⟩:=eU hm o h P.length 0 _ (by omega);refine⟨b,e1,e2.trans ⟨λ⟨_,h2⟩=>?_,λhs=>⟨rfl,λj _ hj=>?_⟩⟩⟩
 ·have key:∀ j,j<=P.length->X1 (sN L) L.length P t0 j=t0:=by
   intro j
   induction j with
   | zero=>intro _;rfl
   | succ j ih=>
    intro hj;have ih':=ih (by omega);have rd:=h.round o j (by omega)
    have hyn:P.getD j 0<(X1 (sN L) L.length P t0 j).length:=by rw[rd.len];exact o.lt (Jz _ (Ua (by omega)))
    have:X1 _ _ P t0 (j+1)=X1 _ _ P t0 j:=cQ hyn (h2 j (Qh _) (by omega));rw[this,ih']
  intro i hi;have:=h2 i (Qh _) hi;rwa[key i (by omega)]at this
 ·rw[Zp o h.len hs j (by omega)];exact hs j hj
open Classical in
theorem hY(j:Nat):Fq (EY L) (T4 (r::P),RW (sN L) L.length P (Gw L.length r) j)=some (if X8 (sN L) L.length P (RW (sN L) L.length P (Gw L.length r) j) then .done (RW (sN L) L.length P (Gw L.length r) (j+1)) else .next (T4 (r::P),RW (sN L) L.length P (Gw L.length r) (j+1))):=by
 obtain⟨b,e1,e2⟩:=jj hm o (Ready.rounds o j);have hL2:Tg (EY L) (T4 (r::P))=D8 (EY L) (T4 (r::P)):=rfl
 have hlen:(0:Int)<=1/\(1:Int)<=((T4 (r::P)).length:Int):=by simp[T4];omega
 unfold Fq;simp only[hL2,e1,A1];rw[Ah hlen]
 cases b with
 | false=>rw[if_pos (e2.1 rfl)];rfl
 | true=>rw[if_neg (λh=>by have:=e2.2 h;cases this)];rfl
theorem cY:∃ J,X8 (sN L) L.length P (RW (sN L) L.length P (Gw L.length r) J)/\Af (Fq (EY L)) (T4 (r::P),Gw L.length r)=some (RW (sN L) L.length P (Gw L.length r) J):=by
 obtain⟨J,h1,h2⟩:=sH o;refine⟨J,h2,?_⟩
 have key:∀ d j,j+d=J->Af (Fq (EY L)) (T4 (r::P),RW (sN L) L.length P (Gw L.length r) j)=some (RW (sN L) L.length P (Gw L.length r) J):=by
  intro d
  induction d with
  | zero=>
   intro j hj
   obtain rfl:j=J:=by omega
   have hF:=hY hm o j;rw[if_pos h2]at hF;rw[Am hF];have:RW _ _ P _ (j+1)=RW _ _ P _ j:=Zp o (Ready.rounds o j).len h2 _ (zzL5 _);rw[this]
  | succ d ih=>
   intro j hj;have hF:=hY hm o j;rw[if_neg (h1 j (by omega))]at hF;rw[Ap hF];exact ih _ (by omega)
 exact key J 0 (by omega)
end
theorem tw(g:C5)(r:Int)(h1:Fits g.Succ)(h2:Fits g.Pred):Rh g r=some (cX g r):=by
 unfold cX
 by_cases hc:HN g=true/\0<=r/\r<g.Succ.length
 ·rw[if_pos hc];obtain⟨hG,h0,hlt⟩:=hc;obtain⟨hm,hg⟩:=qT hG;obtain⟨hL1,hL64,_⟩:=mayS_iff.1 hm
  have hr:r.toNat<g.Succ.length:=by omega
  obtain⟨O,hO⟩:=Ord.exist (CH hm) hr;have hord:=(XE g h1 trivial r).1 hG h0 hlt O hO;obtain⟨P,rfl,o⟩:=hO.ordered hr (CH hm);obtain⟨J,hJ,hl⟩:=cY hm o;have ht:=(KQ o hJ).eq hm hr o;rw[ht]at hl;have hlen:(((T4 (r.toNat::P)).length:Int)==0)=false:=zzL43.2 (by simp[T4];omega)
  have hlen2:(0:Int)<=1/\(1:Int)<=(T4 (r.toNat::P)).length:=by simp[T4];omega
  have hL2:Tg g _=D8 g (T4 (r.toNat::P)):=rfl
  have hst:(Ms (Fq g (T4 (r.toNat::P),Gw g.Succ.length r.toNat)) (Fq g))=some (GH g.Succ r.toNat):=by
   rw[KN,hg];exact hl
  unfold Rh;rw[hord,A1,  mM hL1 hL64,A1,Ah (vv h0 (by simpa using hlt)),Ah hlen2]
  have:(Fq g (T4 (r.toNat::P),Gw g.Succ.length r.toNat))=(Af (D8 g (T4 (r.toNat::P))) (false,0,(List.replicate g.Succ.length (-2)).set r.toNat (-1))).bind (λx22=>(match x22 with|(b10,l11)=>(bif b10 then(some (.next (T4 (r.toNat::P),l11))) else(some (.done l11))))):=by
   unfold Fq Gw;simp only[hL2];rw[Ah hlen2]
  rw[this]at hst;refine Eq.trans ?_ (Bn (λx =>x.bind λx42=>some x42) hst)
  rfl
 ·rw[if_neg hc];unfold Rh
  have:(HN g&&(decide (0<=r)&&decide (r<g.Succ.length)))=false:=by
   grind
  rw[(XE g h1 trivial r).2 this]
  rfl
theorem tI{α:Type}(l:List α)(d:α)(p:α->Bool){X:Type}(f:Int->Option (LR Int X))(yes no:X)(hl:l.length<9223372036854775808)(hk:∀ i:Nat,i<l.length->f i=some (bif p (l.getD i d) then .next (A3 ((i:Int)+1)) else .done no))
  (he:f l.length=some (.done yes)):Af f (0:Int)=some (bif l.all p then yes else no):=by
 have:=Yn l d p f yes no (λi hi hp=>by rw[hk i hi,hp,Aj,E2 hi hl]) (λi hi hp=>by grind) he l.length 0 (by omega);rwa[DZ]at this
theorem td(f:Aa)(hf:iO f)(l:Int)(t:List Int)(u:List Bd):Hp f l t u=some (bif Ox f then 0 else 4,f,l,t,u):=by
 unfold Hp Kf;rw[wV f hf]
 cases Ox f<;>rfl
theorem jE(phis:List Bb)(l:List Int)(h1:phis.length<9223372036854775808)(h2:l.length<4611686018427387904):Mc phis l=some (phis.all (Jj l)):=by
 unfold Mc
 rw[tI _ _ (Jj l) _ (.inl ()) _ h1 (λi hi=>by
  unfold Mn
  have hd:decide ((i:Int)<phis.length)=true:=by simpa using hi
  simp only[hd, Ac (Ax hi),G1,MV _ _ h2, Jj]
  cases decide ((phis.getD i _).From=l) with
  | false=>rfl
  | true=>
   grind) (by unfold Mn;simp)]
 cases phis.all _<;>rfl
def dV(e:Eo):Bool:=!((e.Kind==1 || e.Kind==3)&&(e.Arg !=0))
theorem iw{n:Nat}(e:Eo)(hk:Of e n=true):Mb e=some (dV e):=by
 have h4 :=by
  have:=(A9 _ _▸hk).1;unfold OG at this;simp only[A9,Gj]at this;omega
 unfold Mb dV
 have:e.Kind=0\/e.Kind=1\/e.Kind=2\/e.Kind=3:=by omega
 rcases this with h|h|h|h<;>rw[h]<;>cases hb:(e.Arg==0)<;>simp[hb,bne]
theorem eI{L:List (List Int)}(hm:Ob L=true){P:List Nat}(h0:0<L.length)(o:Ord (sN L) 0 P):decide (P.length<L.length) = !(List.range L.length).all λi=>(NA L).getD i false:=by
 have hin:∀ x∈P,x<L.length:=λx hx=>(by obtain⟨Q,rfl,oo⟩:=o.ordered h0 (CH hm);exact oo.lt hx)
 have hr:∀ z,(NA L).getD z _=true↔z∈P:=λz=>by
  rw[o.mem z];exact FY (CH hm) h0 z
 cases ha:(List.range _).all _ with
 | true=>
  have:=((List.perm_ext_iff_of_nodup o.nodup List.nodup_range).2 λi=>⟨λh=>zzL77.2 (hin i h),λh=>(hr i).1 (zzL27.1 ha i h)⟩).length_eq;rw[Zy]at this
  simp;omega
 | false=>
  obtain⟨i,hi,hni⟩:∃ i,i<L.length/\i∉P:=iC λhc=>by
   grind
  have :=Q0 L.length _ (zzL95.2 ⟨hni,o.nodup⟩) (λx hx=>by grind);simp at this ⊢;omega
theorem lY{f:Aa}(hf:OkF f)(l:Int)(t:List Int)(u:List Bd):∃ t',Gm f l t u=some (bif Ep f then 0 else 5,f,l,t',u)/\(Ep f=true->t'=Es f):=by
 have hmax:f.Blocks.length<=maxLen:=by
  have:=hf.blocks;have:(64:Nat)<=maxLen:=by decide
  omega
 unfold Gm;rw[wF f hmax,A1]
 cases hs:Zn f with
 | false=>exact⟨t,by unfold Ep;rw[hs];rfl,λh=>by unfold Ep at h;rw[hs]at h;cases h⟩
 | true=>
  have hm:=Uw hs;have hlen:=Nz f
  have hpos:0<(Da f).length:=by have:=(shape_iff.1 hs).1.1;omega
  obtain⟨h1,h2⟩:=lr hm;obtain⟨P,hP⟩:=Ord.exist (CH hm) hpos;have ho:=(XE (EY (Da f)) h1 trivial 0).1 (bc hm) (by omega) (by show(0:Int)<((Da f).length:Int);omega) P hP;have hfull:=eI hm hpos hP;simp only[Aj, show((0:Int)!=0)=false from rfl,Bi,ho,A1,show(false==false)=true from rfl]
  have e1:decide (((T4 P).length:Int)<(f.Blocks.length:Int))=decide (P.length<(Da f).length):=by
   rw[hlen];apply decide_eq_decide.2;simp[T4]
  rw[e1,hfull]
  have hsd:Ep f=(((List.range f.Blocks.length).all λi=>(NA (Da f)).getD i false)&&(List.range f.Blocks.length).all λi=>dV (f.Blocks.getD i default).End&&(f.Blocks.getD i default).Phis.all (Jj ((Dl (Da f)).getD i []))):=by
   unfold Ep;rw[hs,Kz]
   have:∀(n:Nat) (p q:Nat->Bool),((List.range n).all λi=>p i&&q i)=((List.range n).all p&&(List.range n).all q):=λn p q=>by
    grind
   rw[<- this]
   congr 1
   funext i
   show(_&&_&&_)=_
   rw[Bool.and_assoc]
   rfl
  rw[hlen];rw[hsd]
  cases hr:(List.range f.Blocks.length).all _ with
  | false=>exact⟨t,rfl,λh=>by cases h⟩
  | true=>
   refine⟨Es f,?_,λ_=>rfl⟩;rw[J1,Bi,tw _ 0 h1 h2,A1,Kz];have hp:=Qs hm
   have hpl:(EY (Da f)).Pred.length=f.Blocks.length:=by rw[<- hlen];exact O1 _
   have key:Af (Cs f l u (EY (Da f),0) (Es f)) (0:Int)=some (bif (List.range f.Blocks.length).all (λi=>dV (f.Blocks.getD i default).End&&(f.Blocks.getD i default).Phis.all (Jj ((Dl (Da f)).getD i []))) then .inl () else .inr ((5:Int),f,l,Es f,u)):=by
    have hk:∀ i:Nat,i<f.Blocks.length->Cs f l u (EY (Da f),0) (Es f) (i:Int)=some (bif (dV (f.Blocks.getD i default).End&&(f.Blocks.getD i default).Phis.all (Jj ((Dl (Da f)).getD i []))) then .next ((i:Int)+1) else .done (.inr ((5:Int),f,l,Es f,u))):=λi hi=>by
     have hB:=hf.block _ (Ar (d:=(default:Ab)) hi);have hpi:Ay (i:Int) (EY (Da f)).Pred.length:=Ax (by omega);have hpg:((EY (Da f)).Pred.getD i []).length<=64:=hp.2 _ (Ar (by rw[O1];omega));unfold Cs
     have hd:decide ((i:Int)<(f.Blocks.length:Int))=true:=by simpa using hi
     simp only[hd,Aj,Ac (Ax hi),Ac hpi,G1,jE (f.Blocks.getD i default).Phis ((EY (Da f)).Pred.getD i []) (by have:=hB.phis;omega) (by omega),A1];have ha :=iw (n:=f.Blocks.length) (f.Blocks.getD i default).End ((shape_iff.1 hs).2 i hi);rw[ha,E2 hi (by have:=hf.blocks;omega)]
     show _=some (bif (dV (f.Blocks.getD i default).End&&(f.Blocks.getD i default).Phis.all (Jj ((EY (Da f)).Pred.getD i []))) then _ else _)
     cases(f.Blocks.getD i default).Phis.all _<;>cases dV (f.Blocks.getD i default).End<;>rfl
    exact jM _ _ _ _ _ (λi hi hp=>by rw[hk i hi,hp];rfl) (λi hi hp=>by rw[hk i hi,hp];rfl) (by unfold Cs;simp)
   show((Af (Cs f l u (EY (Da f),0) (Es f)) (0:Int)).bind _)=_
   rw[key,A1]
   cases(List.range f.Blocks.length).all _<;>rfl
theorem tX(o:A6)(l:Int)(h0:0<=l)(h2:l<=2)(hk:Iu o=true):Qm o l=some (!decide (MU l<o.Kind)&&!(decide (l<2)&&decide (1<o.Lanes))):=by
 have hl:=mF hk
 have hK :=by
  simp only[Iu,A9]at hk;have:=hk.1.2.1.1.1;unfold j8 at this;simp only[A9,Gj]at this;omega
 unfold Qm MU
 have:l=0\/l=1\/l=2:=by omega
 rcases this with rfl|rfl|rfl
 ·have ha:decide (o.Kind<=17) = !decide (17<o.Kind):=by grind
  have hb:(o.Lanes==1) = !decide (1<o.Lanes):=by grind
  show some _=some (!decide (17<o.Kind)&&!(true&&decide _))
  rw[ha,hb]
  cases decide (17<o.Kind)<;>cases decide (1<o.Lanes)<;>rfl
 ·have ha:decide (o.Kind<=20) = !decide (20<o.Kind):=by grind
  have hb:(o.Lanes==1) = !decide (1<o.Lanes):=by grind
  show some _=some (!decide (20<o.Kind)&&!(true&&decide _))
  rw[ha,hb]
  cases decide (20<o.Kind)<;>cases decide (1<o.Lanes)<;>rfl
 ·grind
theorem jD(o:A6)(ho:kD o)(f:Aa)(l:Int)(h0:0<=l)(h2:l<=2)(t:List Int)(u:List Bd):F7 o f l t u=some (Pd l o,f,l,t,u):=by
 unfold F7 Pd;rw[OH o ho,A1]
 cases hk:Iu o with
 | false=>rfl
 | true=>
  rw[show(true==true)=true from rfl,Aj,tX o l h0 h2 hk,A1,Aj,Kz]
theorem pj(b:Ab){f:Aa}(hf:OkF f)(hb:b∈f.Blocks)(l:Int)(h0:0<=l)(h2:l<=2)(t:List Int)(u:List Bd):I7 b.Ops f l t u=some (b.Ops.all (Pd l),f,l,t,u):=by
 have hB:=hf.block b hb
 have key:∀ k i ,i+k=b.Ops.length->Af (Fc b.Ops) (i,f.Params,f.Ret,f.Blocks,l,t,u)=some (bif (b.Ops.drop i).all (Pd l) then .inl (f.Params,f.Ret,f.Blocks,l,t,u) else .inr (false,f,l,t,u)):=by
  intro k
  induction k with
  | zero=>
   intro i h
   obtain rfl:i=b.Ops.length:=by omega
   rw[Am (x:=.inl (f.Params,f.Ret,f.Blocks,l,t,u)) (by unfold Fc;simp)]
   simp
  | succ k ih=>
   intro i h
   have hi:i<b.Ops.length:=by omega
   have hd:decide (i<(b.Ops.length:Int))=true:=by simpa using hi
   have hdr:b.Ops.drop i=b.Ops.getD i default::b.Ops.drop (i+1):=by simp_all
   have hx:=jD (b.Ops.getD i default) (uH hf hb (Ar hi)) f l h0 h2 t u;rw[hdr,CN]
   cases ho:Pd l _ with
   | true=>
    rw[ho]at hx
    rw[Ap (s':=(((i+1:Nat):Int),f.Params,f.Ret,f.Blocks,l,t,u)) (by
     unfold Fc;simp only[hd, Ac (Ax hi),G1,hx,   E2 hi (by have:=hB.ops;omega)]
     rfl),ih _ (by omega),Kz]
   | false=>
    rw[ho]at hx
    rw[Am (x:=.inr (false,f,l,t,u)) (by
     unfold Fc
     simp only[hd,Aj,Ac (Ax hi),G1,hx,A1,Qg])]
    rfl
 unfold I7;rw[show(0:Int)=(0:Nat) from rfl,key b.Ops.length 0 (by omega),DZ]
 cases b.Ops.all _<;>rfl
theorem lR(b:Ab)(h:b.Phis.length<9223372036854775808):Ib b.Phis=some (b.Phis.all λp=>Gg p.Bits):=by
 unfold Ib
 rw[tI _ _ (λp=>Gg _) _ (.inl ()) _ h (λi hi=>by
  unfold I8 Ou
  have hd:decide (i<(b.Phis.length:Int))=true:=by simpa using hi
  simp only[hd, Ac (Ax hi),G1,U1]
  cases Gg _<;>rfl) (by unfold I8;simp)]
 cases b.Phis.all _<;>rfl
theorem lQ(p:List Int)(h:p.length<9223372036854775808):Ma p=some (p.all Gg):=by
 unfold Ma
 rw[tI p 0 Gg _ (.inl ()) _ h (λi hi=>by
  unfold Mm
  have hd:decide (i<(p.length:Int))=true:=by simpa using hi
  simp only[hd, Ac (Ax hi),G1,U1]
  cases Gg _<;>rfl) (by unfold Mm;simp)]
 cases p.all _<;>rfl
theorem WV(b:Ab){f:Aa}(hf:OkF f)(hb:b∈f.Blocks)(l:Int)(h0:0<=l)(h2:l<=2)(t:List Int)(u:List Bd):Eu b f l t u=some (Iz l b,f,l,t,u):=by
 unfold Eu Iz;rw[lR b (by have:=(hf.block b hb).phis;omega), pj b hf hb l h0 h2 t u]
 cases(b.Phis.all _)<;>rfl
theorem pu{f:Aa}(hf:OkF f)(l:Int)(h0:0<=l)(h2:l<=2)(t:List Int)(u:List Bd):Ha f l t u=some (bif N3 f l then 0 else 6,f,l,t,u):=by
 have key:∀ k i ,i+k=f.Blocks.length->Af (D7 f.Blocks) (i,f.Params,f.Ret,f.Blocks,l,t,u)=some (bif (f.Blocks.drop i).all (Iz l) then .inl (f.Params,f.Ret,f.Blocks,l,t,u) else .inr (false,f,l,t,u)):=by
  intro k
  induction k with
  | zero=>
   intro i h
   obtain rfl:i=f.Blocks.length:=by omega
   rw[Am (x:=.inl (f.Params,f.Ret,f.Blocks,l,t,u)) (by unfold D7;simp)]
   simp
  | succ k ih=>
   intro i h
   have hi:i<f.Blocks.length:=by omega
   have hd:decide ((i:Int)<f.Blocks.length)=true:=by simpa using hi
   have hdr:f.Blocks.drop i=f.Blocks.getD i default::f.Blocks.drop (i+1):=by simp_all
   have hx:=WV (f.Blocks.getD i default) hf (Ar hi) l h0 h2 t u;rw[hdr,CN]
   cases ho:Iz l _ with
   | true=>
    rw[ho]at hx
    rw[Ap (s':=(((i+1:Nat):Int),f.Params,f.Ret,f.Blocks,l,t,u)) (by
     unfold D7;simp only[hd, Ac (Ax hi),G1,hx,   E2 hi (by have:=hf.blocks;omega)]
     rfl),ih _ (by omega),Kz]
   | false=>
    rw[ho]at hx
    rw[Am (x:=.inr (false,f,l,t,u)) (by
     unfold D7
     simp only[hd,Aj,Ac (Ax hi),G1,hx,A1,Qg])]
    rfl
 have hall:G9 f.Blocks f l t u=some (f.Blocks.all (Iz l),f,l,t,u):=by
  unfold G9;rw[show(0:Int)=(0:Nat) from rfl,key f.Blocks.length 0 (by omega),DZ]
  cases f.Blocks.all _<;>rfl
 unfold Ha N3 Kf;rw[lQ _ (by have:=hf.few;omega), hall,U1]
 cases f.Params.all _<;>cases Gg f.Ret<;>cases f.Blocks.all _<;>rfl
def rq(d:M3):Ix:=bif decide (d.Block<0) then⟨0,-1⟩ else⟨d.Block,d.At⟩
def QH(d:M3):Aw:=⟨d.Shape,rq d⟩
def dv(l:List M3):List (Int×Aw):=l.map λd=>(d.V,QH d)
def SF(acc:List (Int×Aw))(v:Int):Bool:=(Eg acc v || decide (v<1)) || decide (1023<v)
def H6:List (Int×Aw)->List M3->Bool×List (Int×Aw)
 | acc,[]=>(true,acc)
 | acc,d::ds=>bif SF acc d.V then(false,acc) else H6 (Kp acc d.V (QH d)) ds
theorem HC:∀(a b:List M3) (acc:List (Int×Aw)),H6 acc (a++b)=bif (H6 acc a).1 then H6 (H6 acc a).2 b else H6 acc a
 | [],b,acc=>rfl
 | d::a,b,acc=>by
  rw[KU];simp only[H6]
  cases SF acc d.V with
  | true=>rfl
  | false =>  exact HC a b _
theorem OU{V:Type}(k:Int):∀ l:List (Int×V),Eg l k=l.any λq=>k==q.1
 | []=>rfl
 | (a,b)::l=>by rw[List.any_cons,<- OU k l];rfl
theorem HS{V:Type}(k:Int)(v:V):∀{l:List (Int×V)},Eg l k=false->Kp l k v=l++[(k,v)]
 | [],_=>rfl
 | (a,b)::l,h=>by
  simp only[Eg,cq]at h;simp only[Kp,h.1,Bi,HS k v h.2,KU]
theorem an(v:Int)(s:Int×Int)(p:Ix)(f:Aa)(l:Int)(t:List Int)(vs:List (Int×Aw))(u:List Bd) :
  Ew v s p f l t vs u=some (bif SF vs v then(false,f,l,t,u,vs) else(true,f,l,t,u,Kp vs v ⟨s,p⟩)):=by
 unfold Ew SF
 cases Eg vs v<;>cases decide (v<1)<;>cases decide (1023<v)<;>rfl
def qw(f:Aa)(l:Int)(t:List Int)(u:List Bd)(r:Bool×List (Int×Aw)):(List Int×Int×List Ab×Int×List Int×List Bd×List (Int×Aw)) ⊕ (Bool×Aa×Int×List Int×List Bd×List (Int×Aw)):=
 bif r.1 then .inl (f.Params,f.Ret,f.Blocks,l,t,u,r.2) else .inr (false,f,l,t,u,r.2)
theorem tb(b:Ab)(h:b.Phis.length<9223372036854775808)(i:Nat)(f:Aa)(l:Int)(t:List Int)(u:List Bd):∀(k j:Nat) (vs:List (Int×Aw)),j+k=b.Phis.length->
  Af (C0 (i:Int) b) ((j:Int),f.Params,f.Ret,f.Blocks,l,t,u,vs)=some (qw f l t u (H6 vs ((List.range' j k).flatMap λ(k:Nat)=>[(⟨(b.Phis.getD k default).Dst,i,-1,((b.Phis.getD k default).Bits,1)⟩:M3)]))):=by
 intro k
 induction k with
 | zero=>
  intro j vs hj
  obtain rfl:j=b.Phis.length:=by omega
  rw[Am (x:=.inl (f.Params,f.Ret,f.Blocks,l,t,u,vs)) (by unfold C0;simp)]
  rfl
 | succ k ih=>
  intro j vs hj
  have hi:j<b.Phis.length:=by omega
  have hd:decide (j<(b.Phis.length:Int))=true:=by simpa using hi
  have hx:=an (b.Phis.getD j default).Dst ((b.Phis.getD j default).Bits,1) ⟨(i:Int),-1⟩ f l t vs u
  have hat:rq ⟨(b.Phis.getD j default).Dst,i,-1,((b.Phis.getD j default).Bits,1)⟩=⟨i,-1⟩:=by   rfl
  rw[CK,VS,List.singleton_append];simp only[H6]
  cases hb:SF vs _ with
  | true=>
   rw[hb]at hx
   rw[Am  (by
    unfold C0 Di;simp only[hd, Ac (Ax hi),G1,A1];rw[ hx]
    rfl)]
   rfl
  | false=>
   rw[hb]at hx
   rw[Ap (s':=(((j+1:Nat):Int),f.Params,f.Ret,f.Blocks,l,t,u,Kp vs _ _)) (by
    unfold C0 Di;simp only[hd, Ac (Ax hi),G1,A1];rw[ hx,E2 hi h]
    rfl),ih _ _ (by omega)]
   unfold QH
   rfl
theorem vq{f0:Aa}(hf:OkF f0){b:Ab}(hb:b∈f0.Blocks)(i:Nat)(f:Aa)(l:Int)(t:List Int)(u:List Bd):∀(k j:Nat) (vs:List (Int×Aw)),j+k=b.Ops.length->
  Af (B8 (i:Int) b) ((j:Int),f.Params,f.Ret,f.Blocks,l,t,u,vs)=some (qw f l t u (H6 vs ((List.range' j k).flatMap λ(k:Nat)=>bif decide (0<(Oo (b.Ops.getD k default)).1) then[(⟨(b.Ops.getD k default).Dst,i,k,Oo (b.Ops.getD k default)⟩:M3)] else[]))):=by
 have hB:=hf.block b hb;intro k
 induction k with
 | zero=>
  intro j vs hj
  obtain rfl:j=b.Ops.length:=by omega
  rw[Am (x:=.inl (f.Params,f.Ret,f.Blocks,l,t,u,vs)) (by unfold B8;simp)]
  rfl
 | succ k ih=>
  intro j vs hj
  have hi:j<b.Ops.length:=by omega
  have hd:decide ((j:Int)<(b.Ops.length:Int))=true:=by simpa using hi
  have hg:Nq _=some (Oo (b.Ops.getD j default)):=du _ (uH hf hb (Ar hi));have hx:=an (b.Ops.getD j default).Dst (Oo (b.Ops.getD j default)) (⟨(i:Int),(j:Int)⟩:Ix) f l t vs u
  have hat:rq (⟨(b.Ops.getD j default).Dst,i,j,Oo (b.Ops.getD j default)⟩:M3)=⟨(i:Int),(j:Int)⟩:=by unfold rq; rfl
  rw[CK,VS]
  cases hp:decide (0<(Oo _).1) with
  | false=>
   rw[Bi,Wx,<- ih (j+1) vs (by omega),Ap (s':=(((j+1:Nat):Int),f.Params,f.Ret,f.Blocks,l,t,u,vs)) (by
    unfold B8;simp only[hd,Aj,Ac (Ax hi),G1,hg,A1,hp];rw[E2 hi (by have:=hB.ops;omega)]
    rfl)]
  | true=>
   rw[Aj,List.singleton_append];simp only[H6]
   cases hb:SF vs _ with
   | true=>
    rw[hb]at hx
    rw[Am  (by
     unfold B8;simp only[hd,Aj,Ac (Ax hi),G1,hg,A1,hp];rw[show(true==true)=true from rfl,Aj, hx]
     rfl)]
    rfl
   | false=>
    rw[hb]at hx
    rw[Ap (s':=(((j+1:Nat):Int),f.Params,f.Ret,f.Blocks,l,t,u,Kp vs _ _)) (by
     unfold B8;simp only[hd,Aj,Ac (Ax hi),G1,hg,A1,hp];rw[show(true==true)=true from rfl,Aj, hx,E2 hi (by have:=hB.ops;omega)]
     rfl),ih (j+1) _ (by omega)]
    unfold QH
    rfl
theorem ao{f:Aa}(hf:OkF f){b:Ab}(hb:b∈f.Blocks)(i:Nat)(l:Int)(t:List Int)(u:List Bd)(vs:List (Int×Aw)) :
  E8 (i:Int) b f l t vs u=some ((H6 vs (T8 b i)).1,f,l,t,u,(H6 vs (T8 b i)).2):=by
 unfold E8 T8;rw[show 0=((0:Nat):Int) from rfl,tb b (by have:=(hf.block b hb).phis;omega) i f l t u b.Phis.length 0 vs (by omega),A1,HC];rw[show(List.range' 0 _).flatMap _=ET b i by rw[ET,GN]];unfold qw
 cases h1:(H6 vs _).1 with
 | false=>grind
 | true=>
  simp only[Aj];rw[vq hf hb i f l t u b.Ops.length 0 _ (by omega)];rw[show(List.range' 0 _).flatMap _=NV b i by rw[NV,GN]];unfold qw;cases h2:(H6 _ _).1<;>rfl
theorem UU{l:List M3}{i:Nat}(hi:i<l.length):Y0 l i=true↔DY (l.getD i default).V=true/\∀ j,j<i->(l.getD j default).V≠(l.getD i default).V:=by
 unfold Y0;rw[A9];refine and_congr Iff.rfl ?_;unfold Pe
 cases hx:l.findIdx? _ with
 | none=>
  rw[List.findIdx?_eq_none_iff]at hx;have:=hx _ (Ar (d:=default) hi);simp at this
 | some j=>
  obtain⟨hj,h1,h2⟩:=List.findIdx?_eq_some_iff_getElem.1 hx;simp only[zzL56]
  constructor
  ·grind
  ·intro h
   have hv:(l.getD j default).V=(l.getD i default).V:=by grind
   rcases Nat.lt_trichotomy j i with hlt|rfl|hgt
   ·grind
   ·rfl
   ·grind
theorem qX(l:List M3)(v:Int):Eg (dv l) v=l.any λd=>v==d.V:=by
 rw[OU,dv,List.any_map];rfl
theorem NU:∀(ds pre:List M3),(H6 (dv pre) ds).1=(List.range' pre.length ds.length).all (Y0 (pre++ds))/\((H6 (dv pre) ds).1=true->(H6 (dv pre) ds).2=dv (pre++ds))
 | [],pre=>by simp[H6]
 | d::ds,pre=>by
  have hi:pre.length<(pre++d::ds).length:=by simp
  have hg:(pre++d::ds).getD pre.length default=d:=by simp[List.getD]
  have hj:∀ j,j<pre.length->(pre++d::ds).getD j default=pre.getD j default:=λj h=>by grind
  have hok:Y0 (pre++d::ds) pre.length = !SF (dv pre) d.V:=by
   rw[IR,UU hi,hg];unfold SF DY;rw[qX];simp only[U3,cq,YG,List.any_eq_false,zzL56,A9,Gj]
   constructor
   ·rintro⟨⟨h1,h2⟩,h3⟩;refine⟨⟨λx hx he=>?_,by omega⟩,by omega⟩;obtain⟨j,hjl,rfl⟩:=Lm hx;have:=h3 j hjl;rw[hj j hjl,Ai _ _ _ hjl]at this;exact this he.symm
   ·grind
  rw[AA,CK,CN,hok];simp only[H6]
  cases hb:SF _ d.V with
  | true=>grind
  | false=>
   have hn :=by
    unfold SF at hb;simp only[cq]at hb;exact hb.1.1
   have hs:Kp (dv pre) d.V (QH d)=dv (pre++[d]):=by rw[HS _ _ hn,dv,dv,RA];rfl
   have:=NU ds (pre++[d]);rw[G7,KT]at this;rw[ hs,Qg];exact this
def pv(f:Aa)(n:Nat):List (Int×Aw):=(List.range n).map λ(j:Nat)=>((j:Int)+1,⟨(f.Params.getD j 0,1),⟨0,-1⟩⟩)
theorem wK(f:Aa):pv f f.Params.length=dv (Rd f):=by
 unfold pv dv Rd
 induction List.range _ with
 | nil=>rfl
 | cons a l ih=>rw[Cl, ih];rfl
theorem lX{f:Aa}(hf:OkF f):∀(k i:Nat),i+k=f.Params.length->Af (Ex f) ((i:Int),pv f i)=some (pv f f.Params.length):=by
 intro k
 induction k with
 | zero=>
  intro i h
  obtain rfl:i=f.Params.length:=by omega
  exact Am (by unfold Ex;simp)
 | succ k ih=>
  intro i h
  have hi:i<f.Params.length:=by omega
  have hd:decide ((i:Int)<(f.Params.length:Int))=true:=by simpa using hi
  have hn:Eg (pv f i) ((i:Int)+1)=false:=by
   rw[OU,pv,List.any_map,List.any_eq_false];intro j hj;have:=zzL77.1 hj
   simp;omega
  have hs:Kp (pv f i) ((i:Int)+1) ⟨(f.Params.getD i 0,1),⟨0,-1⟩⟩=pv f (i+1):=by
   rw[HS _ _ hn,pv,pv,CL,RA];rfl
  rw[Ap  (by
   unfold Ex Di;simp only[hd,Aj,Ac (Ax hi),G1,A1,E2 hi (by have:=hf.few;omega),hs]
   rfl)]
  exact ih (i+1) (by omega)
theorem lS{f:Aa}(hf:OkF f)(l:Int)(t:List Int)(u:List Bd):∀(k i:Nat) (vs:List (Int×Aw)),i+k=f.Blocks.length->
  Af (Dh f) ((i:Int),vs,f.Params,f.Ret,f.Blocks,l,t,u)=some (bif (H6 vs ((List.range' i k).flatMap λi=>T8 (f.Blocks.getD i default) i)).1 then .inl ((H6 vs ((List.range' i k).flatMap λi=>T8 (f.Blocks.getD i default) i)).2,f.Params,f.Ret,f.Blocks,l,t,u) else
   .inr (7,f,l,t,u,(H6 vs ((List.range' i k).flatMap λi=>T8 (f.Blocks.getD i default) i)).2)):=by
 intro k
 induction k with
 | zero=>
  intro i vs h
  obtain rfl:i=f.Blocks.length:=by omega
  rw[Am (x:=.inl (vs,f.Params,f.Ret,f.Blocks,l,t,u)) (by unfold Dh;simp)]
  rfl
 | succ k ih=>
  intro i vs h
  have hi:i<f.Blocks.length:=by omega
  have hd:decide (i<(f.Blocks.length:Int))=true:=by simpa using hi
  have hx:=ao hf (Ar (d:=default) hi) i l t u vs;rw[CK,VS,HC]
  cases hb:(H6 vs _).1 with
  | false=>
   rw[hb]at hx
   rw[Am  (by
    unfold Dh;simp only[hd, Ac (Ax hi),G1];rw[ hx]
    rfl),Bi,hb]
   rfl
  | true=>
   rw[hb]at hx
   rw[Ap (s':=(((i+1:Nat):Int),(H6 vs _).2,f.Params,f.Ret,f.Blocks,l,t,u)) (by
    unfold Dh;simp only[hd, Ac (Ax hi),G1];rw[ hx,E2 hi (by have:=hf.blocks;omega)]
    rfl),ih _ _ (by omega),Aj]
theorem yx{f:Aa}(hf:OkF f):∀ i,i<f.Params.length->Y0 (D6 f) i=true:=λi hi=>by
 have hl:=TU f
 have hg:∀ j,j<f.Params.length->(D6 f).getD j default=⟨j+1,-1,0,(f.Params.getD j 0,1)⟩:=λj hj=>by
  have e:Rd f=(List.range f.Params.length).map λi=>⟨(i:Int)+1,-1,0,(f.Params.getD i 0,1)⟩:=by
   unfold Rd
   induction List.range _ with
   | nil=>rfl
   | cons a l ih=>grind
  rw[D6,List.getD,U2 (by omega),e];simp[hj]
 have hle:i<(D6 f).length:=by rw[D6,G7];omega
 rw[UU hle,hg i hi];refine⟨?_,λj hj=>?_⟩
 ·have:=hf.few;simp only[DY,A9,Gj];omega
 ·grind
theorem jA{f:Aa}(hf:OkF f)(l:Int)(t:List Int)(u:List Bd):∃ vs,F5 f l t u=some (bif (List.range (D6 f).length).all (Y0 (D6 f)) then 0 else 7,f,l,t,u,vs)/\((List.range (D6 f).length).all (Y0 (D6 f))=true->vs=dv (D6 f)):=by
 have hsp:=NU ((List.range f.Blocks.length).flatMap λi=>T8 (f.Blocks.getD i default) i) (Rd f)
 have hall:(List.range (D6 f).length).all (Y0 (D6 f))=(H6 (dv (Rd f)) ((List.range f.Blocks.length).flatMap λi=>T8 (f.Blocks.getD i default) i)).1:=by
  rw[hsp.1]
  show(List.range _).all _=(List.range' _ _).all (Y0 (D6 f))
  have hs:List.range (D6 f).length=List.range (Rd f).length++List.range' (Rd f).length ((List.range f.Blocks.length).flatMap λi=>T8 (f.Blocks.getD i default) i).length:=by
   rw[GN,GN,D6,G7];have:=List.range'_append_1 (s:=0) (m:=(Rd f).length) (n:=((List.range f.Blocks.length).flatMap λi=>T8 (f.Blocks.getD i default) i).length);rw[Gc]at this;exact this.symm
  rw[hs,List.all_append];have :=zzL27.2 λi hi=>yx hf i (by rw[<- TU f];exact zzL77.1 hi);rw[this,Kz]
 unfold F5;have hp:=lX hf f.Params.length 0 (by omega);have e0:pv f 0=[]:=rfl;rw[e0,show(((0:Nat):Int))=0 from rfl]at hp;rw[hp,A1,wK];have hb:=lS hf l t u f.Blocks.length 0 (dv (Rd f)) (by omega);rw[show(((0:Nat):Int))=0 from rfl,<- GN]at hb;rw[hb, hall];refine⟨(H6 _ _).2,?_,hsp.2⟩
 cases(H6 _ _).1<;>rfl
theorem AY{β S X:Type}(B:Nat)(mk:Int->List β->S)(out:List β->X)(n:Nat)(E:Nat->List β)(f:S->Option (LR S X))(hn:∀(acc:List β) (i:Nat),i<n->(acc++E i).length<=B->f (mk i acc)=some (.next (mk ((i:Int)+1) (acc++E i))))
  (hd:∀ acc:List β,f (mk n acc)=some (.done (out acc))):∀(k i:Nat) (acc:List β),i+k=n->(acc++(List.range' i k).flatMap E).length<=B->Af f (mk i acc)=some (out (acc++(List.range' i k).flatMap E))
 | 0,i,acc,h,_=>by
  obtain rfl:i=n:=by omega
  rw[Am (hd acc)]
  simp
 | k+1,i,acc,h,hB=>by
  have hi:i<n:=by omega
  rw[CK,VS,<- KT]at hB ⊢;rw[Ap (hn acc i hi (by grind)),show(i+1)=((i+1:Nat):Int) by omega,AY B mk out n E f hn hd k _ _ (by omega) hB]
theorem bb{β γ:Type}(h:β->γ)(n:Nat)(g:Nat->β):(List.range' 0 n).flatMap (λj=>[h (g j)])=((List.range n).flatMap λj=>[g j]).map h:=by
 rw[List.map_flatMap,GN];rfl
theorem OT{β γ:Type}(h:β->γ)(n:Nat)(g:Nat->List β):(List.range' 0 n).flatMap (λj=>(g j).map h)=((List.range n).flatMap g).map h:=by
 rw[List.map_flatMap,GN]
def P6(f:Aa)(b:Int):Int:=((f.Blocks.getD b.toNat default).Ops.length:Int)
def G6(f:Aa)(u:Xo):Bd:=⟨u.V,u.Shape,⟨u.Block,bif u.At==1000 then P6 f u.Block else u.At⟩⟩
theorem f4(f:Aa)(l:Int)(t:List Int)(vs:List (Int×Aw))(v:Int)(s:Int×Int)(p:Ix)(u:List Bd)(h:(u++[(⟨v,s,p⟩:Bd)]).length<=10000000):Dz v s p f l t vs u=some (f,l,t,u++[⟨v,s,p⟩]):=by
 unfold Dz;rw[Ah (by rw[G7]at h;rw[qy];omega)]
theorem lV(f:Aa)(l:Int)(t:List Int)(vs:List (Int×Aw))(b:Int)(hb:Ay b f.Blocks.length)(u:List Bd):E4 b f l t vs u=some (⟨b,P6 f b⟩,f,l,t,u):=by
 unfold E4;rw[Ah hb];rfl
section
variable {f:Aa} (hf:OkF f) (l:Int) (t:List Int) (vs:List (Int×Aw))
include hf
theorem ta(i k:Nat)(hi:i<f.Blocks.length)(hk:k<(f.Blocks.getD i default).Phis.length)(hfit:((f.Blocks.getD i default).Phis.getD k default).Args.length<=((f.Blocks.getD i default).Phis.getD k default).From.length)
  (hin:∀ x∈((f.Blocks.getD i default).Phis.getD k default).From,Ay x f.Blocks.length) (u:List Bd) (hB:(u++(R5 ((f.Blocks.getD i default).Phis.getD k default)).map (G6 f)).length<=10000000) :
  Af (Dc f vs (i:Int) (k:Int)) ((0:Int),f.Params,f.Ret,f.Blocks,l,t,u)=some (f.Params,f.Ret,f.Blocks,l,t,u++(R5 ((f.Blocks.getD i default).Phis.getD k default)).map (G6 f)):=by
 have hlen:=me hf (Ar  hi) (Ar (d:=default) hk)
 generalize hp:(f.Blocks.getD i _).Phis.getD k _=p at *
 have e:=bb (G6 f) p.Args.length λj=>⟨p.Args.getD j 0,p.From.getD j 0,1000,(p.Bits,1)⟩
 have:=AY _ (λj u=>(j,f.Params,f.Ret,f.Blocks,l,t,u)) (λu=>(f.Params,f.Ret,f.Blocks,l,t,u)) _ (λj=>[G6 f _]) (Dc f vs i k) (λacc j hj hacc=>by
  unfold Dc Di
  have hd:decide (j<(p.Args.length:Int))=true:=by simpa using hj
  have hjf:j<p.From.length:=by omega
  simp only[G1,hp,hd,Aj,Ac (Ax hj),A1,Ac (Ax hjf)];rw[ lV f l t vs _ (hin _ (Ar hjf)),A1];have eu:G6 f ⟨p.Args.getD j 0,p.From.getD j 0,1000,(p.Bits,1)⟩=⟨p.Args.getD j 0,(p.Bits,1),⟨p.From.getD j 0,P6 f _⟩⟩:=rfl;rw[eu]at hacc ⊢
  rw[f4 f l t vs _ _ _ acc hacc,A1,E2 hj (by omega)]) (λacc=>by unfold Dc;simp only[G1,hp,show decide (p.Args.length<(p.Args.length:Int))=false by simp,Bi]) p.Args.length 0 u (by omega) (by rw[e];exact hB)
 rw[e]at this;exact this
theorem pr(i:Nat)(hi:i<f.Blocks.length)(hfit:∀ p∈(f.Blocks.getD i default).Phis,p.Args.length<=p.From.length/\∀ x∈p.From,Ay x f.Blocks.length)(u:List Bd)(hB:(u++(S4 (f.Blocks.getD i default)).map (G6 f)).length<=10000000) :
  Af (Dd f vs (i:Int)) ((0:Int),f.Params,f.Ret,f.Blocks,l,t,u)=some (f.Params,f.Ret,f.Blocks,l,t,u++(S4 (f.Blocks.getD i default)).map (G6 f)):=by
 have hBk:=hf.block _ (Ar (d:=default) hi);have e:=OT (G6 f) (f.Blocks.getD i default).Phis.length λk=>R5 ((f.Blocks.getD i default).Phis.getD k default)
 have:=AY _ (λj u=>(j,f.Params,f.Ret,f.Blocks,l,t,u)) (λu=>(f.Params,f.Ret,f.Blocks,l,t,u)) _ _ (Dd f vs i) (λacc k hk hacc=>by
  have hq:=hfit _ (Ar (d:=default) hk);have h1:=ta hf l t vs i k hi hk hq.1 hq.2 acc hacc;unfold Dd
  have hd:decide ((k:Int)<(f.Blocks.getD i default).Phis.length)=true:=by simpa using hk
  simp only[G1,hd,Aj,Ac (Ax hk),h1,A1,E2 hk (by have:=hBk.phis;omega)]) (λacc=>by unfold Dd;simp) (f.Blocks.getD i default).Phis.length 0 u (by omega) (by rw[e];exact hB)
 rw[e]at this;exact this
theorem vp(i k:Nat)(hi:i<f.Blocks.length)(hk:k<(f.Blocks.getD i default).Ops.length)(u:List Bd)(hB:(u++(Qw ((f.Blocks.getD i default).Ops.getD k default) i k).map (G6 f)).length<=10000000) :
  Af (De f vs (i:Int) (k:Int) (Jf ((f.Blocks.getD i default).Ops.getD k default))) ((0:Int),f.Params,f.Ret,f.Blocks,l,t,u)=some (f.Params,f.Ret,f.Blocks,l,t,u++(Qw ((f.Blocks.getD i default).Ops.getD k default) i k).map (G6 f)):=by
 have hBk:=hf.block _ (Ar (d:=default) hi);have hlen:=QD (gi hf (Ar  hi) (Ar (d:=default) hk));have hk512:=hBk.ops
 generalize hp:(f.Blocks.getD i _).Ops.getD k _=o at *
 have e:=bb (G6 f) (Jf o).length λj=>⟨o.Args.getD j 0,i,k,(Jf o).getD j (0,0)⟩
 have:=AY _ (λj u=>(j,f.Params,f.Ret,f.Blocks,l,t,u)) (λu=>(f.Params,f.Ret,f.Blocks,l,t,u)) _ (λj=>[G6 f _]) (De f vs i k (Jf o)) (λacc j hj hacc=>by
  have hkk:((k:Int)==1000)=false:=by simp;omega
  have eu:G6 f ⟨o.Args.getD j 0,i,k,(Jf o).getD j (0,0)⟩=⟨o.Args.getD j 0,(Jf o).getD j (0,0),⟨i,k⟩⟩:=by unfold G6;simp only[hkk,Bi]
  rw[eu]at hacc ⊢;unfold De
  have hd:decide (j<((Jf o).length:Int))=true:=by simpa using hj
  have hja:j<o.Args.length:=by omega
  simp only[G1,hp,hd,Aj,Ac (Ax hj),Ac (Ax hja)]
  rw[ f4 f l t vs _ _ _ acc hacc,A1,E2 hj (by omega)]) (λacc=>by unfold De;simp) (Jf o).length 0 u (by omega) (by rw[e];exact hB)
 rw[e]at this;exact this
theorem tZ(i:Nat)(hi:i<f.Blocks.length)(u:List Bd)(hB:(u++(DX (f.Blocks.getD i default) i).map (G6 f)).length<=10000000) :
  Af (Df f vs (i:Int)) ((0:Int),f.Params,f.Ret,f.Blocks,l,t,u)=some (f.Params,f.Ret,f.Blocks,l,t,u++(DX (f.Blocks.getD i default) i).map (G6 f)):=by
 have hmem:=Ar (d:=default) hi;have hBk:=hf.block _ hmem;have e:=OT (G6 f) (f.Blocks.getD i default).Ops.length λk=>Qw ((f.Blocks.getD i default).Ops.getD k default) i k
 have:=AY _ (λj u=>(j,f.Params,f.Ret,f.Blocks,l,t,u)) (λu=>(f.Params,f.Ret,f.Blocks,l,t,u)) _ _ (Df f vs i) (λacc k hk hacc=>by
  have h1:=vp hf l t vs i k hi hk acc hacc;have ht:Nr _=some (Jf ((f.Blocks.getD i _).Ops.getD k default)):=dy _ (uH hf hmem (Ar hk));unfold Df
  have hd:decide (k<((f.Blocks.getD i default).Ops.length:Int))=true:=by simpa using hk
  simp only[G1,hd,Aj,Ac (Ax hk),ht,h1,A1,E2 hk (by have:=hBk.ops;omega)]) (λacc=>by unfold Df;simp) (f.Blocks.getD i default).Ops.length 0 u (by omega) (by rw[e];exact hB)
 rw[e]at this;exact this
theorem iy(hfit:∀ b∈f.Blocks,∀ p∈b.Phis,p.Args.length<=p.From.length/\∀ x∈p.From,Ay x f.Blocks.length):F4 f l t vs []=some (f,l,t,(Gi f).map (G6 f)):=by
 have e:=OT (G6 f) f.Blocks.length λ(i:Nat)=>KR f (f.Blocks.getD i default) i;have hul:=VM hf
 have:=AY 10000000 (λj u=>(j,f.Params,f.Ret,f.Blocks,l,t,u)) (λu=>(f.Params,f.Ret,f.Blocks,l,t,u)) f.Blocks.length (λ(i:Nat)=>(KR f (f.Blocks.getD i default) i).map (G6 f)) (Dg f vs) (λacc i hi hacc=>by
  have hmem:=Ar (d:=(default:Ab)) hi;unfold KR at hacc ⊢;rw[RA,RA,<- KT,<- KT]at hacc ⊢;have l1:=hacc;simp only[G7,Ky]at l1;have h1:=pr hf l t vs i hi (hfit _ hmem) acc (by simp only[G7,Ky];omega);have h2:=tZ hf l t vs i hi (acc++(S4 (f.Blocks.getD i default)).map (G6 f)) (by simp only[G7,Ky];omega);have hinb:Ay (i:Int) f.Blocks.length:=Ax hi;unfold Dg Di
  have hd:decide ((i:Int)<(f.Blocks.length:Int))=true:=by simpa using hi
  simp only[hd,Aj,Ac (Ax hi),h1,A1,h2,G1];have hF:(⟨f.Params,f.Ret,f.Blocks⟩:Aa)=f:=rfl;have hw:A3 ((i:Int)+1)=(i:Int)+1:=E2 hi (by have:=hf.blocks;omega);unfold V5 at hacc ⊢
  cases hz:((f.Blocks.getD i default).End.Kind==0) with
  | true=>
   have hz2:((f.Blocks.getD i default).End.Kind==2)=false:=by
    have:(f.Blocks.getD i default).End.Kind=0:=by simpa using hz
    rw[this];rfl
   rw[hz,hz2]at hacc;simp only[Aj,Bi,hz2,List.append_nil,Cl,Cn]at hacc ⊢;rw[hF,lV f l t vs _ hinb,A1];simp only;rw[f4 f l t vs _ _ _ _ (show(_++[(⟨_,_,⟨(i:Int),P6 f (i:Int)⟩⟩:Bd)]).length<=10000000 from hacc),A1,A1,hw]
   rfl
  | false=>
   rw[hz]at hacc
   cases hz2:((f.Blocks.getD i default).End.Kind==2) with
   | true=>
    rw[hz2]at hacc;simp only[Aj,Bi,Wx,Cl,Cn]at hacc ⊢;rw[hF,lV f l t vs _ hinb,A1];simp only;rw[f4 f l t vs _ _ _ _ (show(_++[(⟨_,_,⟨(i:Int),P6 f (i:Int)⟩⟩:Bd)]).length<=10000000 from hacc),A1,A1,hw]
    rfl
   | false=>
    simp only[Bi,Wx,Cn,List.append_nil,A1,hw]) (λacc=>by unfold Dg;simp) f.Blocks.length 0 [] (by omega) (by rw[e];simpa [Gi] using(by omega:(Gi f).length<=10000000))
 rw[e,Wx]at this;unfold F4;rw[show(0:Int)=((0:Nat):Int) from rfl]
 show((Af (Dg f vs) (((0:Nat):Int),f.Params,f.Ret,f.Blocks,l,t,[])).bind _)=_
 rw[this,A1]
 rfl
end
theorem pc{σ X:Type}(mk:Int->σ)(U:List Bd)(p:Bd->Bool)(f:σ->Option (LR σ X))(yes no:X)(hk:∀ i:Nat,i<U.length->f (mk i)=some (bif p (U.getD i default) then .next (mk ((i:Int)+1)) else .done no))(he:f (mk U.length)=some (.done yes)) :
  ∀ k i:Nat,i+k=U.length->Af f (mk i)=some (bif (U.drop i).all p then yes else no)
 | 0,i,h=>by
  obtain rfl:i=U.length:=by omega
  rw[Am he]
  simp
 | k+1,i,h=>by
  have hi:i<U.length:=by omega
  have hdr:U.drop i=U.getD i default::U.drop (i+1):=by simp_all
  have hx:=hk i hi;rw[hdr,CN]
  cases hp:p _ with
  | true=>
   rw[hp]at hx;rw[Ap hx,show((i:Int)+1)=(i+1:Nat) by omega,pc mk U p f yes no hk he k _ (by omega),Kz]
  | false=>
   rw[hp]at hx;rw[Am hx]
   rfl
theorem OA(d:M3)(l:List M3)(v:Int):Pe (d::l) v=bif d.V==v then 0 else bif decide (Pe l v<0) then -1 else Pe l v+1:=by
 unfold Pe;rw[List.findIdx?_cons]
 cases d.V==v with
 | true=>rfl
 | false=>
  grind
theorem OV(v:Int):∀ l:List M3,Eg (dv l) v = !decide (Pe l v<0)
 | []=>rfl
 | d::l=>by
  rw[OA]
  show((v==d.V) || Eg (dv l) v)=_
  rw[OV v l,show(v==d.V)=(d.V==v) by grind]
  cases d.V==v with
  | true=>rfl
  | false=>
   grind
theorem DM(v:Int):∀ l:List M3,¬ Pe l v<0->Fu (default:Aw) (dv l) v=QH (defOf l v)
 | [],h=>absurd (show -1<0 by decide) h
 | d::l,h=>by
  unfold defOf;rw[OA]at h ⊢
  show(bif v==d.V then QH d else Fu _ (dv l) v)=_
  rw[show(v==d.V)=(d.V==v) by grind]
  cases hb:d.V==v with
  | true=>rfl
  | false=>
   rw[hb]at h
   by_cases hn:Pe l v<0
   ·simp[hn]at h
   ·have hz :=J0 hn;simp only[Bi,hz];rw[DM v l hn,show(Pe l v+1).toNat=(Pe l v).toNat+1 by omega]
    rfl
def kC(f:Aa)(d:M3):Prop:=d.Block = -1\/(Ay d.Block f.Blocks.length/\d.At<P6 f d.Block/\d.At<1000)
def rh(f:Aa)(u:Xo):Prop:=Ay u.Block f.Blocks.length/\0<=u.At
theorem qB{f:Aa}(hf:OkF f):∀ d∈D6 f,kC f d:=λd hd=>by
 rcases zzL13.1 hd with h|h
 ·obtain⟨i,_,hi⟩:=zzL69.1 h;rw[zzL17.1 hi];exact .inl rfl
 ·obtain⟨i,hi,h⟩:=zzL69.1 h
  have hi :=by simpa using hi
  have hB:=hf.block _ (Ar (d:=default) hi);have ho:P6 f i=(f.Blocks.getD i default).Ops.length:=rfl;rcases zzL13.1 h with h|h
  ·obtain⟨k,hk,h⟩:=zzL69.1 h;rw[zzL17.1 h];refine .inr ⟨Ax hi,?_,?_⟩
   ·grind
   ·grind
  ·obtain⟨k,hk,h⟩:=zzL69.1 h
   have hk:k<(f.Blocks.getD i default).Ops.length:=by simpa using hk
   cases hg:decide (0<(Oo _).1) with
   | false=>rw[hg]at h;cases h
   | true=>
    rw[hg]at h;rw[zzL17.1 h];refine .inr ⟨Ax hi,?_,?_⟩
    ·grind
    ·show(k:Int)<1000;have:=hB.ops;omega
theorem rG{f:Aa}(hfit:∀ b∈f.Blocks,∀ p∈b.Phis,p.Args.length<=p.From.length/\∀ x∈p.From,Ay x f.Blocks.length):∀ u∈Gi f,rh f u:=λu hu=>by
 obtain⟨i,hi,h⟩:=zzL69.1 hu
 have hi :=by simpa using hi
 have hmem:=Ar (d:=default) hi;rcases zzL13.1 h with h|h
 ·rcases zzL13.1 h with h|h
  ·obtain⟨k,hk,h⟩:=zzL69.1 h
   have hk :=by simpa using hk
   obtain⟨j,hj,h⟩:=zzL69.1 h;have hj:=zzL77.1 hj;have hq:=hfit _ hmem _ (Ar (d:=default) hk);rw[zzL17.1 h];exact⟨hq.2 _ (Ar (by omega)),by grind⟩
  ·obtain⟨k,hk,h⟩:=zzL69.1 h;obtain⟨j,hj,h⟩:=zzL69.1 h;rw[zzL17.1 h];exact⟨Ax hi,by grind⟩
 ·unfold V5 at h
  have:u=⟨(f.Blocks.getD i default).End.Arg,i,1000,(f.Ret,1)⟩\/u=⟨(f.Blocks.getD i default).End.Arg,i,1000,(1,1)⟩:=by
   grind
  rcases this with rfl|rfl<;>exact⟨Ax hi,by grind⟩
theorem tj{f:Aa}(h:Ep f=true):∀ b∈f.Blocks,∀ p∈b.Phis,p.Args.length<=p.From.length/\∀ x∈p.From,Ay x f.Blocks.length:=λb hb p hp=>by
 have hs :=by simp only[Ep,A9]at h;exact h.1
 refine⟨jn h b hb p hp,λx hx=>?_⟩;obtain⟨i,hi,rfl⟩:=Lm hb;simp only[Ep,A9]at h;have h1:=tH h.2 i hi;simp only[On,A9,zzL27]at h1;rw[Ai _ _ _ hi]at h1;have h2:=h1.2 p hp;simp only[Jj,A9,Gj]at h2;rw[h2.1]at hx;obtain⟨q,rfl,hq,_⟩:=(Zg  (Uw hs)  (by rw[Nz];exact hi)).1 hx;exact Ax (by rw[Nz]at hq;exact hq)
theorem eK{f:Aa}(h:Ep f=true){b:Int}(hb:Ay b f.Blocks.length):KH (Es f) 0 b=true:=by
 have hs :=by simp only[Ep,A9]at h;exact h.1
 have hm:=Uw hs;have hlen:=Nz f
 have hpos:0<(Da f).length:=by have:=(shape_iff.1 hs).1.1;omega
 obtain⟨P,hP,o,ht⟩:=jp hm hpos
 have e:Es f=GH (Da f) 0:=by
  unfold Es cX;rw[if_pos ⟨bc hm,Int.le_refl _,by show(0:Int)<(Da f).length;omega⟩]
  rfl
 obtain⟨k,rfl⟩:∃ k:Nat,b=k:=⟨b.toNat,(M1 hb.1).symm⟩
 have hk:k<f.Blocks.length:=by have:=hb.2;omega
 simp only[Ep,A9]at h;have h1:=tH h.2 k hk;simp only[On,A9]at h1;have hr :=(FY (CH hm) hpos k).1 h1.1.1;rw[e];refine(ht.over_dom o hpos (by omega)).2 ⟨rc_iff.2 hr,λha=>?_⟩;exact(av_iff.1 ha).1 rfl
theorem Yb{l:List Xo}{g:Xo->Bd}{p:Bd->Bool}{q:Xo->Bool}(h:∀ u∈l,p (g u)=q u):(l.map g).all p=l.all q:=by
 grind
def qC(vs:List (Int×Aw))(u:Bd):Bool:=((Fu (default:Aw) vs u.v).shape.1==u.shape.1)&&(((Fu (default:Aw) vs u.v).shape.2==u.shape.2)&&true)
def DA(vs:List (Int×Aw))(t:List Int)(u:Bd):Bool:=bif (Fu (default:Aw) vs u.v).place.block==u.place.block then decide ((Fu (default:Aw) vs u.v).place.at_<u.place.at_) else KH t (Fu (default:Aw) vs u.v).place.block u.place.block
theorem ky{f:Aa}(hs:Ep f=true){D:List M3}(hD:∀ d∈D,kC f d){u:Xo}(hu:rh f u)(hfd:Vw D u=true):DA (dv D) (Es f) (G6 f u)=bp D (Es f) u:=by
 have hF:¬ Pe D u.V<0:=by simpa [Vw] using hfd
 have hin:=lm hF;have hd:kC f (defOf D u.V):=hD _ (by unfold defOf;exact Ar (by have:=hin.1;have:=hin.2;omega));have hg:Fu (default:Aw) (dv D) (G6 f u).v=QH (defOf D u.V):=DM u.V D hF;unfold DA bp;rw[hg]
 generalize defOf D u.V=d at *
 have hub:=hu.1.1
 have hul:0<=P6 f u.Block:=by unfold P6;omega
 have hat:∀ a:Int,a<0\/(a<P6 f u.Block/\a<1000)->decide (a<(G6 f u).place.at_)=decide (a<u.At)\/a<0:=λa ha=>by
  rcases ha with ha|ha
  ·exact .inr ha
  ·refine .inl ?_
   show decide (a<bif u.At==1000 then P6 f u.Block else u.At)=_
   by_cases h:u.At=1000
   ·rw[h];simp only[show((1000:Int)==1000)=true from rfl,Aj];rw[H8 ha.1,H8 ha.2]
   ·have:(u.At==1000)=false:=by simpa using h
    rw[this];rfl
 have hpos:0<=(G6 f u).place.at_:=by
  show 0<=bif u.At==1000 then P6 f u.Block else u.At
  cases u.At==1000
  ·exact hu.2
  ·exact hul
 have hblk:(G6 f u).place.block=u.Block:=rfl;rw[hblk];rcases hd with hd|⟨hd1,hd2,hd3⟩
 ·have e:(QH d).place=⟨0,-1⟩:=by show rq d=_;unfold rq;rw[hd];rfl
  rw[e,hd,H8 (show(-1:Int)<0 by decide)];rw[Bool.true_or,Bool.true_or,eK hs hu.1,H8 (show(-1:Int)<(G6 f u).place.at_ by omega)]
  cases(0:Int)==u.Block<;>rfl
 ·have hn:¬ d.Block<0:=by have:=hd1.1;omega
  have e:(QH d).place=⟨d.Block,d.At⟩:=by show rq d=_;unfold rq;rw[J0 hn];rfl
  rw[e,J0 hn,Bool.false_or]
  cases hb:d.Block==u.Block with
  | true=>
   have hbe:d.Block=u.Block:=by simpa using hb
   simp only[Aj,Kz,J1,QS,Bool.or_false];rcases hat d.At (.inr ⟨by rw[<- hbe];exact hd2,hd3⟩) with h|h
   ·exact h
   ·rw[H8 (by omega),H8 (by have:=hu.2;omega)]
  | false=>
   simp only[Bi,QS,Bool.false_or,Qg,Kz];unfold KH
   by_cases hm:Qb (Es f) d.Block u.Block=d.Block
   ·rw[hm]
    have:(d.Block !=-2)=true:=by simp;omega
    simp[this]
   ·have:(Qb (Es f) d.Block u.Block==d.Block)=false:=by simpa using hm
    simp[this,bne]
section
variable {f:Aa} (l:Int) (vs:List (Int×Aw))
def j9(f:Aa)(l:Int)(U:List Bd)(i:Int):Int×List Int×Int×List Ab×Int×List Int×List Bd:=(i,f.Params,f.Ret,f.Blocks,l,Es f,U)
def kA(f:Aa)(l:Int)(U:List Bd):List Int×Int×List Ab×Int×List Int×List Bd:=(f.Params,f.Ret,f.Blocks,l,Es f,U)
theorem pw(U:List Bd)(hU:U.length<9223372036854775808):Af (Eh vs (f,l,Es f,U)) (j9 f l U 0)=some (bif U.all (λu=>Eg vs u.v) then .inl (kA f l U) else .inr (kA f l U)):=by
 have:=pc (j9 f l U) U (λu=>Eg vs u.v) (Eh vs (f,l,Es f,U)) _ _ (λi hi=>by
  unfold Eh j9 Ih
  have hd:decide (i<(U.length:Int))=true:=by simpa using hi
  simp only[hd, Ac (Ax hi),G1, E2 hi hU]
  cases Eg vs _<;>rfl) (by unfold Eh j9;simp;rfl) U.length 0 (by omega)
 exact this
theorem px(U:List Bd)(hU:U.length<9223372036854775808):Af (Ei vs U) (j9 f l U 0)=some (bif U.all (qC vs) then .inl (kA f l U) else .inr (kA f l U)):=by
 have:=pc (j9 f l U) U (qC vs) (Ei vs U) _ _ (λi hi=>by
  unfold Ei j9 Ke
  have hd:decide (i<(U.length:Int))=true:=by simpa using hi
  simp only[hd, Ac (Ax hi),G1, E2 hi hU];unfold qC
  cases(((Fu _ vs _).shape.1==(U.getD i _).shape.1)&&(((Fu _ vs _).shape.2==(U.getD i _).shape.2)&&true))<;>rfl) (by unfold Ei j9;simp;rfl) U.length 0 (by omega)
 exact this
theorem py(htl:(Es f).length<=1000)(U:List Bd)(hU:U.length<9223372036854775808):Af (Ej vs U) (j9 f l U 0)=some (bif U.all (DA vs (Es f)) then .inl (kA f l U) else .inr (kA f l U)):=by
 have:=pc (j9 f l U) U (DA vs _) (Ej vs U) _ _ (λi hi=>by
  have hx:F6 (U.getD i default) f l (Es f) vs U=some (DA vs (Es f) (U.getD i default),f,l,Es f,U):=by
   unfold F6 DA;rw[tv htl]
   cases(Fu _ vs _).place.block==(U.getD i _).place.block<;>rfl
  unfold Ej j9
  have hd:decide ((i:Int)<U.length)=true:=by simpa using hi
  simp only[hd, Ac (Ax hi),G1];rw[ hx, E2 hi hU]
  cases DA vs _ _<;>rfl) (by unfold Ej j9;simp;rfl) U.length 0 (by omega)
 exact this
end
def ca(f:Aa):Int:=bif !(Gi f).all (Vw (D6 f)) then 7 else bif !(Gi f).all (bq (D6 f)) then 6 else bif !(Gi f).all (bp (D6 f) (Es f)) then 7 else 0
theorem te{f:Aa}(hf:OkF f)(hs:Ep f=true)(l:Int):∃ U,Hq f l (Es f) (dv (D6 f)) []=some (ca f,f,l,Es f,U):=by
 have hfit:=tj hs;have hul:=VM hf
 have hsB :=by simp only[Ep,A9]at hs;exact hs.1
 refine⟨(Gi f).map (G6 f),?_⟩
 have hU:((Gi f).map (G6 f)).length<9223372036854775808:=by grind
 have h1:=pw (f:=f) l (dv (D6 f)) _ hU;have h2:=px (f:=f) l (dv (D6 f)) _ hU;have h3:=py  l (dv (D6 f)) (nH hsB) _ hU;rw[Yb (q:=Vw _) (λu _=>OV u.V _)]at h1;unfold Hq ca Ms;rw[iy hf l _ _ hfit,A1];rw[show(Af _ ((0:Int),f.Params,f.Ret,f.Blocks,l,Es f,(Gi f).map _))=_ from h1,A1];have fin:∀ e ,Af Mv (e,f.Params,f.Ret,f.Blocks,l,Es f,(Gi f).map (G6 f))=some _:=λe=>Am rfl
 cases hfd:(Gi f).all _ with
 | false=>simp only[Bi,Qg,Aj,kA,A1,fin]
 | true=>
  have hmf:=zzL27.1 hfd
  rw[Yb (q:=bq _) (λu hu=>by
   have:=hmf u hu;simp only[Vw,U3,YG]at this;have hg:Fu _ _ (G6 f u).v=QH _:=DM u.V _ this;unfold qC bq
   rw[hg];rfl)]at h2
  rw[Yb  (λu hu=>ky hs (qB hf) (rG hfit u hu) (hmf u hu))]at h3;simp only[Aj,J1, kA];rw[show(Af _ ((0:Int),f.Params,f.Ret,f.Blocks,l,Es f,(Gi f).map _))=_ from h2,A1]
  cases(Gi f).all _ with
  | false=>simp only[Bi,Qg,Aj,kA,A1,fin]
  | true=>
   simp only[Aj,J1, kA];rw[show(Af _ ((0:Int),f.Params,f.Ret,f.Blocks,l,Es f,(Gi f).map _))=_ from h3]
   cases(Gi f).all _ with
   | false=>simp only[Bi,Qg,Aj,kA,A1,fin]
   | true=>simp only[Aj,J1,Bi,kA,A1]
theorem pz{f:Aa}(h:Sm f)(l:Int)(h0:0<=l)(h2:l<=2):∃ t u vs,Hb f l [] []=some (G3 f l,f,l,t,u,vs)/\(G3 f l=0->vs=dv (D6 f)):=by
 have hc:G3 f l=bif !Ox f then 4 else YE f l:=by
  unfold G3;rw[J0 (by omega),J0 (by omega)];rfl
 rw[hc];unfold Hb;rw[td f h.1,A1]
 cases hm:Ox f with
 | false=>simp_all
 | true=>
  have hf:=sF h hm;simp only[    YE];obtain⟨t',hsh,hst⟩:=lY hf l [] [];rw[hsh,A1]
  cases hs:Ep f with
  | false=>simp_all
  | true=>
   obtain rfl:=hst hs;rw[pu hf l h0 h2,A1]
   cases N3 f l with
   | false=>simp_all
   | true=>
    obtain⟨vs,hd,hv⟩:=jA hf l _ [];rw[hd,A1]
    cases hdd:(List.range _).all _ with
    | false=>grind
    | true=>
     obtain rfl:=hv hdd;obtain⟨U,hu⟩:=te hf hs l;rw[hu];refine⟨Es f,U,dv _,?_,λ_=>rfl⟩
     show(bif ca f !=0 then some _ else some _)=some (ca f,f,l,Es f,U,dv _)
     cases hz:ca f !=0 with
     | true=>rfl
     | false=>
      grind
theorem ER(f:Aa)(l:Int)(h:Sm f):Fo f l=some (G3 f l):=by
 unfold Fo
 by_cases h0:l<0
 · unfold G3;rw[H8 h0];rfl
 ·by_cases h2:2<l
  · unfold G3;rw[J0 h0,H8 h2];rfl
  ·obtain⟨t,u,vs,hw,_⟩:=pz h l (by omega) (by omega);rw[J0 h0,J0 h2,hw];rfl
abbrev bA(f:Aa)(i:Nat):Ab:=f.Blocks.getD i default
def Fj(f:Aa)(i:Nat)(k:Nat):Int:=(bA f i).End.To.getD k 0
def PL(f:Aa)(i:Nat):List Int:=(Dl (Da f)).getD i []
structure Rt(f:Aa):Prop where
 lo:1<=f.Blocks.length
 hi:f.Blocks.length<=64
 to:∀ i,i<f.Blocks.length->∀ k,k<(bA f i).End.To.length->0<Fj f i k/\Fj f i k<f.Blocks.length
 one:∀ i,i<f.Blocks.length->(bA f i).End.Kind=1->(bA f i).End.To.length=1
 two:∀ i,i<f.Blocks.length->(bA f i).End.Kind=2->(bA f i).End.To.length=2
 may:Ob (Da f)=true
 ok:OkF f
theorem VF{f:Aa}(h:Sm f)(hc:G3 f 2=0):Rt f:=by
 have hz:=(G4   (by omega) (by omega)).1 hc
 have hs :=by
  have:=hz.2.1;unfold Ep at this;rw[A9]at this;exact this.1
 obtain⟨⟨h1,h2⟩,h3⟩:=shape_iff.1 hs
 have hw:∀ i,i<f.Blocks.length->((bA f i).End.To.length:Nat)=GJ (bA f i).End.Kind:=λi hi=>by
  have:=h3 i hi;unfold Of OG at this;simp only[A9,Gj]at this;exact this.1.2
 refine⟨h1,h2,λi hi k hk=>?_,λi hi hk=>?_,λi hi hk=>?_,Uw hs,sF h hz.1⟩
 ·exact toB_iff.1 (gE (h3 i hi)) _ (Ar  hk)
 ·have:=hw i hi;rw[hk,show GJ 1=1 from rfl]at this;omega
 ·have:=hw i hi;rw[hk,show GJ 2=2 from rfl]at this;omega
theorem gx{f:Aa}{i:Nat}(hi:i<f.Blocks.length):(Da f).getD i []=KK (bA f i).End.To:=by
 unfold Da;rw[Vn hi];rfl
theorem uM(f:Aa):(Dl (Da f)).length=f.Blocks.length:=by rw[O1,Nz]
theorem Zf{f:Aa}(R:Rt f){y:Nat}(hy:y<f.Blocks.length){x:Int}:x∈PL f y↔∃ p:Nat,x=(p:Int)/\p<f.Blocks.length/\(y:Int)∈(bA f p).End.To:=by
 unfold PL;have hl:=Nz f;rw[Zg R.may (by omega)]
 constructor
 ·rintro⟨p,h1,h2,h3⟩;rw[mQ R.may (by omega),gx (by omega),(II _).2]at h3;exact⟨p,h1,by omega,h3⟩
 ·rintro⟨p,h1,h2,h3⟩;exact⟨p,h1,by omega,by rw[mQ R.may (by omega),gx (by omega),(II _).2];exact h3⟩
theorem mp{f:Aa}(R:Rt f)(i:Nat):(PL f i).length<=64:=by
 unfold PL
 by_cases hi:i<(Dl (Da f)).length
 ·exact(Qs R.may).2 _ (Ar hi)
 ·grind
def Sd(f:Aa)(a x:Int):Bool:=((bA f x.toNat).End.Kind==1)&&decide ((bA f x.toNat).Phis.length=0)&&decide (PL f x.toNat=[a])
theorem pk{f:Aa}(R:Rt f)(a x:Int)(hx:Ay x f.Blocks.length):Ez x f.Blocks (Dl (Da f)) a=some (bif Sd f a x then(x,Fj f x.toNat 0,true) else(-1,-1,false)):=by
 have hxn:x.toNat<f.Blocks.length:=by have:=hx.1;have:=hx.2;omega
 unfold Ez Sd;rw[Ac hx]
 have hlen:Ay x (Dl (Da f)).length:=by rw[uM];exact hx
 rw[Ac (λ_=>hlen)]
 by_cases hk:(bA f x.toNat).End.Kind=1
 ·have hk':((f.Blocks.getD x.toNat default).End.Kind !=1)=false:=by simpa using hk
  have hto:=R.one _ hxn hk
  by_cases hp:(bA f x.toNat).Phis.length=0
  ·have hp':decide ((0:Int)<(f.Blocks.getD x.toNat default).Phis.length)=false:=by grind
   rw[hk',Bi,hp',show(false==false)=true from rfl,Aj,MV _ _ (by simp),A1]
   have e1:((bA f x.toNat).End.Kind==1)=true:=by simpa using hk
   rw[e1,H8 hp,Kz];unfold PL Fj
   cases decide ((Dl _).getD _ []=[a]) with
   | true=>rw[J1, Ac (show Ay 0 _ from⟨by omega,by grind⟩)];rfl
   | false=>rfl
  ·grind
 ·grind
def zH:THammock:=⟨0,0,0,0⟩
def tP(f:Aa)(a:Int)(x y:Int):Bool:=Sd f a x&&Sd f a y&&(Fj f x.toNat 0==Fj f y.toNat 0)&&!(Fj f x.toNat 0==a)
def fx(f:Aa)(a:Int)(x y:Int):Bool:=Sd f a x&&(Fj f x.toNat 0==y)&&!(y==a)
def OB(f:Aa)(i:Nat):Option THammock:=
 bif ((bA f i).End.Kind==2)&&!(Fj f i 0==Fj f i 1) then
  bif tP f i (Fj f i 0) (Fj f i 1) then some ⟨i,Fj f i 0,Fj f i 1,Fj f (Fj f i 0).toNat 0⟩ else
  bif fx f i (Fj f i 0) (Fj f i 1) then some ⟨i,Fj f i 0,-1,Fj f i 1⟩ else
  bif fx f i (Fj f i 1) (Fj f i 0) then some ⟨i,-1,Fj f i 1,Fj f i 0⟩ else none
 else none
section
variable {f:Aa} (R:Rt f) {a:Int} {i:Nat} (hi:i<f.Blocks.length) (hk:(bA f i).End.Kind=2)
include R hi hk
theorem S3(k:Nat)(hk2:k<2):Ay (Fj f i k) f.Blocks.length:=by
 have:=R.to i hi k (by rw[R.two i hi hk];exact hk2);exact⟨by omega,this.2⟩
theorem pn:Jx i (bA f i).End.To f.Blocks (Dl (Da f)) i f.Blocks (Dl (Da f)) i =
  some (bif tP f i (Fj f i 0) (Fj f i 1) then(⟨i,Fj f i 0,Fj f i 1,Fj f (Fj f i 0).toNat 0⟩,true) else(zH,false)):=by
 have h2:=R.two i hi hk;unfold Jx;rw[Ac (⟨by omega,by omega⟩)];have e0:=pk R i _ (S3 R hi hk 0 (by omega));have e1:=pk R i _ (S3 R hi hk 1 (by omega));have g0:(bA f i).End.To.getD (0:Int).toNat 0=Fj f i 0:=rfl;have g1:(bA f i).End.To.getD (1:Int).toNat 0=Fj f i 1:=rfl;rw[g0,g1,e0,A1,Ac (⟨by omega,by omega⟩),e1,A1];unfold tP
 cases Sd f i _ with
 | false=>rfl
 | true=>
  cases Sd f i _ with
  | false=>rfl
  | true=>
   simp only[Aj,   bne]
   cases(Fj f _ 0==Fj f _ 0) with
   | false=>rfl
   | true=>cases(Fj f _ 0==i)<;>rfl
theorem po:Hv i (bA f i).End.To f.Blocks (Dl (Da f)) i =
  some (bif fx f i (Fj f i 0) (Fj f i 1) then(⟨i,Fj f i 0,-1,Fj f i 1⟩,true) else(zH,false)):=by
 have h2:=R.two i hi hk;unfold Hv;rw[Ac (⟨by omega,by omega⟩)];have e0:=pk R i _ (S3 R hi hk 0 (by omega));have g0:(bA f i).End.To.getD (0:Int).toNat 0=Fj f i 0:=rfl;have g1:(bA f i).End.To.getD (1:Int).toNat 0=Fj f i 1:=rfl;rw[g0,g1,e0,A1,Ac (⟨by omega,by omega⟩),Hx,A1];unfold fx
 cases Sd f i _ with
 | false=>rfl
 | true=>
  simp only[Aj,   bne]
  cases h:(Fj f _ 0==Fj f i 1) with
  | false=>rfl
  | true=>
   have h' :=by simpa using h
   rw[h']
   cases(Fj f i 1==i)<;>rfl
theorem pp:Hw i (bA f i).End.To f.Blocks (Dl (Da f)) i =
  some (bif fx f i (Fj f i 1) (Fj f i 0) then(⟨i,-1,Fj f i 1,Fj f i 0⟩,true) else(zH,false)):=by
 have h2:=R.two i hi hk;unfold Hw;rw[Ac (⟨by omega,by omega⟩)];have e1:=pk R i _ (S3 R hi hk 1 (by omega));have g0:(bA f i).End.To.getD (0:Int).toNat 0=Fj f i 0:=rfl;have g1:(bA f i).End.To.getD (1:Int).toNat 0=Fj f i 1:=rfl;rw[g0,g1,Hx,A1,Ac (⟨by omega,by omega⟩),e1,A1];unfold fx
 cases Sd f i _ with
 | false=>rfl
 | true=>
  simp only[Aj,   bne];rw[show(Fj f i 0==Fj f _ 0)=(Fj f (Fj f i 1).toNat 0==Fj f i 0) by grind]
  cases(Fj f _ 0==Fj f i 0) with
  | false=>rfl
  | true=>cases(Fj f i 0==i)<;>rfl
end
def DB(f:Aa):List THammock:=(List.range f.Blocks.length).flatMap λi=>(OB f i).toList
theorem VJ{α:Type}(o:Option α):o.toList.length<=1:=by cases o<;>simp
theorem kz{f:Aa}(R:Rt f){i:Nat}(hi:i<f.Blocks.length)(l:List THammock)(hl:l.length<=0+i*1)(c:Int) :
  K4 f (EY (Da f),c) (l,(i:Int))=some (.next (l++(OB f i).toList,(i:Int)+1)):=by
 have hroom:(1000:Nat)<=room:=by decide
 have hi64:=R.hi;unfold K4 OB;have hg:f.Blocks.getD (i:Int).toNat default=bA f i:=rfl;simp only[hg,Er hi,Aj,Ac (Ax hi),w1 (show i<4611686018427387904 by omega)]
 have hap:∀ h:THammock,l.length+[h].length<=room:=λh=>by simp;omega
 have ie :=by omega
 by_cases hk:(bA f i).End.Kind=2
 ·have hk':((bA f i).End.Kind !=2)=false:=by simpa using hk
  have hk2:((bA f i).End.Kind==2)=true:=by simpa using hk
  have h2:=R.two i hi hk;have i0:Ay (0:Int) (bA f i).End.To.length:=⟨by omega,by omega⟩;have i1:Ay (1:Int) (bA f i).End.To.length:=⟨by omega,by omega⟩;simp only[hk',hk2,Ac (λ_=>i0),Ac (λ_=>i1),Bi];have g0:(bA f i).End.To.getD (0:Int).toNat 0=Fj f i 0:=rfl;have g1:(bA f i).End.To.getD (1:Int).toNat 0=Fj f i 1:=rfl;rw[g0,g1]
  cases(Fj f i 0==Fj f i 1) with
  | true=>simp[ie]
  | false=>
   have hpred:(EY (Da f)).Pred=Dl (Da f):=rfl;simp only[Bi, Aj,Py,A1,hpred,pn R hi hk,po R hi hk,pp R hi hk]
   cases tP f i (Fj f i 0) (Fj f i 1) with
   | true =>  rw[Ah (hap _)];simp[ie]
   | false=>
    simp only[Bi]
    cases fx f i (Fj f i 0) (Fj f i 1) with
    | true =>  rw[Ah (hap _)];simp[ie]
    | false=>
     simp only[Bi]
     cases fx f i (Fj f i 1) (Fj f i 0) with
     | true =>  rw[Ah (hap _)];simp[ie]
     | false=>simp[ie]
 ·have hk':((bA f i).End.Kind !=2)=true:=by simpa using hk
  have hk2:((bA f i).End.Kind==2)=false:=by simpa using hk
  simp only[hk',hk2,Aj, Bi];rw[Ac (λh=>by cases h),Ac (λh=>by cases h)];simp[ie]
theorem wD{f:Aa}(h:Sm f):H4 f=some (bif G3 f 2==0 then DB f else[]):=by
 have hmax :=h.1.blocks;unfold H4;rw[ER f 2 h,A1]
 by_cases hc:G3 f 2=0
 ·have R:=VF h hc
  have hs :=by
   have:=((G4   (by omega) (by omega)).1 hc).2.1;unfold Ep at this;rw[A9]at this;exact this.1
  rw[hc,show((0:Int)!=0)=false from rfl,show((0:Int)==0)=true from rfl,  wF f hmax,hs,Aj,A1];have hL:=UK _ 0 1 _ (λi _=>VJ _) _ (λacc i hi ha=>kz R hi acc ha 0)
   (λacc=>by unfold K4;simp only[Ir,Bi]) f.Blocks.length 0 [] (by omega) (by simp)
  have hL':Af _ ([],(0:Int))=_:=hL;rw[hL'];unfold Ms DB;rw[GN];rfl
 ·have e1:((G3 f 2)!=0)=true:=by simpa using hc
  have e2:((G3 f 2)==0)=false:=by simpa using hc
  rw[e1,e2,Aj]
  rfl
theorem loop_first{X:Type}(f:Int->Option (LR Int X))(p:Nat->Bool)(out:Nat->X)(no:X)(n:Nat)(hn:∀ i,i<n->p i=false->f (i:Int)=some (.next (((i+1:Nat):Int))))
  (hf:∀ i,i<n->p i=true->f (i:Int)=some (.done (out i))) (he:f (n:Int)=some (.done no)) :
  (∃ i,i<n/\p i=true/\Af f (0:Int)=some (out i))\/((∀ i,i<n->p i=false)/\Af f (0:Int)=some no):=by
 suffices h:∀ k i,i+k=n->(∀ j,j<i->p j=false)->(∃ i',i'<n/\p i'=true/\Af f (i:Int)=some (out i'))\/((∀ i,i<n->p i=false)/\Af f (i:Int)=some no) from
  h n 0 (by omega) (λj hj=>absurd hj (S5 _))
 intro k
 induction k with
 | zero=>
  intro i hi hj
  obtain rfl:i=n:=by omega
  exact .inr ⟨hj,Am he⟩
 | succ k ih=>
  intro i hi hj
  cases hp:p i with
  | true=>exact .inl ⟨i,by omega,hp,Am (hf i (by omega) hp)⟩
  | false=>
   rw[Ap (hn i (by omega) hp)];refine ih (i+1) (by omega) λj hj2=>?_
   by_cases e:j=i
   ·subst e;exact hp
   ·exact hj j (by omega)
theorem lw{f:Aa}{i:Nat}{h:THammock}(hh:OB f i=some h):h.At=i:=by
 unfold OB at hh
 revert hh
 cases(((bA f i).End.Kind==2)&&!(Fj f i 0==Fj f i 1))<;>cases tP f i (Fj f i 0) (Fj f i 1)<;>cases fx f i (Fj f i 0) (Fj f i 1)<;>cases fx f i (Fj f i 1) (Fj f i 0)<;>intro hh<;>cases hh<;>rfl
theorem mem_all{f:Aa}{h:THammock}:h∈DB f↔∃ i,i<f.Blocks.length/\OB f i=some h:=by
 unfold DB;rw[zzL69]
 constructor
 ·rintro⟨i,h1,h2⟩;exact⟨i,zzL77.1 h1,by simpa using h2⟩
 ·rintro⟨i,h1,h2⟩;exact⟨i,zzL77.2 h1,by simpa using h2⟩
theorem pd{f:Aa}:(DB f).length<=f.Blocks.length:=by
 unfold DB;have:=J9 1 (λi=>(OB f i).toList) (List.range f.Blocks.length) (λi _=>VJ _)
 simpa using this
def yD(f:Aa)(h:THammock):Bool:=decide (Ay h.At f.Blocks.length)&&decide (OB f h.At.toNat=some h)
theorem is_mem{f:Aa}{h:THammock}:yD f h=true↔h∈DB f:=by
 unfold yD;rw[mem_all,A9,Gj,Gj]
 constructor
 ·rintro⟨h1,h2⟩;exact⟨_,by have:=h1.1;have:=h1.2;omega,h2⟩
 ·rintro⟨i,h1,h2⟩;have:=lw h2;exact⟨by rw[this];exact Ax h1,by rw[this,A2];exact h2⟩
def Wn(f:Aa):Bool:=G3 f 2==0
def allHR(f:Aa):List THammock:=bif Wn f then DB f else[]
def Ub(f:Aa)(h:THammock):Bool:=Wn f&&yD f h
theorem isHR_mem{f:Aa}{h:THammock}:Ub f h=true↔h∈allHR f:=by
 unfold Ub allHR
 cases Wn f with
 | true=>rw[Kz];exact is_mem
 | false=>simp
theorem OQ{f:Aa}(h:Sm f):H4 f=some (allHR f):=wD h
theorem im{f:Aa}:(allHR f).length<=f.Blocks.length:=by
 unfold allHR;cases Wn f
 ·simp
 ·exact pd
theorem g7{f:Aa}(h:Sm f):(allHR f).length<4611686018427387904:=by
 by_cases hc:Wn f=true
 ·have:=(VF h (by simpa [Wn] using hc)).hi;have:=im (f:=f);omega
 ·unfold allHR;rw[Bool.eq_false_iff.2 hc];simp
theorem lx(v x:THammock):((v.At==x.At)&&((v.Then==x.Then)&&((v.Else==x.Else)&&((v.Join==x.Join)&&true))))=decide (v=x):=by
 cases v;cases x
 rw[IR];simp[THammock.mk.injEq]
theorem yF{f:Aa}(h:Sm f)(v:THammock):Qo f v=some (Ub f v):=by
 unfold Qo C2 Dk;rw[OQ h,A1];have hn:=g7 h
 rcases loop_first (m_slices_Index_api_Hammock_api_Hammock_L1 (allHR f) v) (λi=>decide (v=(allHR f).getD i default)) (λi=>.inr (i:Int)) (.inl ()) (allHR f).length (λi hi hp=>by
   unfold m_slices_Index_api_Hammock_api_Hammock_L1
   simp only[Er hi,Aj,A2,Ac (Ax hi),lx,hp,Bi,w1 (show i<4611686018427387904 by omega)]) (λi hi hp=>by
   unfold m_slices_Index_api_Hammock_api_Hammock_L1
   simp only[Er hi,Aj,A2,Ac (Ax hi),lx,hp]) (by unfold m_slices_Index_api_Hammock_api_Hammock_L1;simp only[Ir,Bi]) with⟨i,hi,hp,hl⟩|⟨hp,hl⟩
 ·rw[hl];have hm:Ub f v=true:=isHR_mem.2 (by rw[Gj]at hp;rw[hp];exact Ar hi);rw[hm]
  simp
 ·rw[hl]
  have hm:Ub f v=false:=by
   rw[Bool.eq_false_iff];intro hm;obtain⟨i,hi,he⟩:=Lm (isHR_mem.1 hm);have:=hp i hi;rw[Ai _ _ _ hi,he]at this;simp at this
  rw[hm];rfl
def Pp(f:Aa)(x:Int):List A6:=bif x !=-1 then(bA f x.toNat).Ops else[]
def MC(f:Aa)(h:THammock):List A6:=Pp f h.Then++Pp f h.Else
theorem ly{f:Aa}(R:Rt f){i:Nat}(hi:i<f.Blocks.length){h:THammock}(hh:OB f i=some h) :
  (bA f i).End.Kind=2/\Fj f i 0≠Fj f i 1/\Ay h.Join f.Blocks.length/\h.Join≠i /\
  ((h.Then=Fj f i 0/\h.Else=Fj f i 1/\Sd f i h.Then=true/\Sd f i h.Else=true/\Fj f h.Then.toNat 0=h.Join/\Fj f h.Else.toNat 0=h.Join)\/(h.Then=Fj f i 0/\h.Else = -1/\h.Join=Fj f i 1/\Sd f i h.Then=true/\Fj f h.Then.toNat 0=h.Join)\/(h.Then = -1/\h.Else=Fj f i 1/\h.Join=Fj f i 0/\Sd f i h.Else=true/\Fj f h.Else.toNat 0=h.Join)):=by
 unfold OB at hh
 cases hk:(((bA f i).End.Kind==2)&&!(Fj f i 0==Fj f i 1)) with
 | false=>rw[hk]at hh;cases hh
 | true=>
  rw[hk,Aj]at hh;simp only[A9,zzL56,U3,zzL43]at hk;obtain⟨hk1,hk2⟩:=hk;have t0:=S3 R hi hk1 0 (by omega);have t1:=S3 R hi hk1 1 (by omega)
  have hb:∀ x,Ay x f.Blocks.length->Sd f i x=true->Ay (Fj f x.toNat 0) f.Blocks.length:=λx hx hm=>by
   have hxn:x.toNat<f.Blocks.length:=by have:=hx.1;have:=hx.2;omega
   unfold Sd at hm;simp only[A9,zzL56]at hm;have:=R.to _ hxn 0 (by rw[R.one _ hxn hm.1.1];omega);exact⟨by omega,this.2⟩
  refine⟨hk1,hk2,?_⟩
  cases h1:tP f i (Fj f i 0) (Fj f i 1) with
  | true=>
   rw[h1,Aj]at hh;cases hh;unfold tP at h1;simp only[A9,zzL56,U3,zzL43]at h1;obtain⟨⟨⟨a1,a2⟩,a3⟩,a4⟩:=h1;exact⟨hb _ t0 a1,a4,.inl ⟨rfl,rfl,a1,a2,rfl,a3.symm⟩⟩
  | false=>
   rw[h1,Bi]at hh
   cases h2:fx f i (Fj f i 0) (Fj f i 1) with
   | true=>
    rw[h2,Aj]at hh;cases hh;unfold fx at h2;simp only[A9,zzL56,U3,zzL43]at h2;obtain⟨⟨a1,a3⟩,a4⟩:=h2;exact⟨t1,a4,.inr (.inl ⟨rfl,rfl,rfl,a1,a3⟩)⟩
   | false=>
    rw[h2,Bi]at hh
    cases h3:fx f i (Fj f i 1) (Fj f i 0) with
    | true=>
     rw[h3,Aj]at hh;cases hh;unfold fx at h3;simp only[A9,zzL56,U3,zzL43]at h3;obtain⟨⟨a1,a3⟩,a4⟩:=h3;exact⟨t0,a4,.inr (.inr ⟨rfl,rfl,rfl,a1,a3⟩)⟩
    | false=>rw[h3]at hh;cases hh
theorem HF{f:Aa}(R:Rt f){i:Nat}(hi:i<f.Blocks.length){h:THammock}(hh:OB f i=some h):(h.Then = -1\/Ay h.Then f.Blocks.length)/\(h.Else = -1\/Ay h.Else f.Blocks.length):=by
 obtain⟨hk,_,_,_,hc⟩:=ly R hi hh;have t0:=S3 R hi hk 0 (by omega);have t1:=S3 R hi hk 1 (by omega);rcases hc with⟨a,b,_⟩|⟨a,b,_⟩|⟨a,b,_⟩
 ·exact⟨.inr (a▸t0),.inr (b▸t1)⟩
 ·exact⟨.inr (a▸t0),.inl b⟩
 ·exact⟨.inl a,.inr (b▸t1)⟩
theorem Pq{f:Aa}(R:Rt f){x:Int}(hx:x = -1\/Ay x f.Blocks.length):(Pp f x).length<=512:=by
 unfold Pp
 by_cases e:x = -1
 ·subst e;exact Qh _
 ·rcases hx with hx|hx
  ·exact absurd hx e
  ·rw[show(x !=-1)=true by simpa using e,Aj];exact(R.ok.block _ (Ar (by have:=hx.1;have:=hx.2;omega))).ops
theorem am{f:Aa}(R:Rt f)(h:THammock){k:Nat}(hk:k<2)(x:Int)(he:([h.Then,h.Else]:List Int).getD k 0=x)(hx:x = -1\/Ay x f.Blocks.length)(l:List A6)(hl:l.length<=512) :
  Dj f h (l,(k:Int))=some (.next (l++Pp f x,((k+1:Nat):Int))):=by
 have hroom:(2000:Nat)<=room:=by decide
 unfold Dj;have hlen:=Pq R hx;simp only[A2,he,Er (show k<([h.Then,h.Else]:List Int).length from hk),Aj,Ac (Ax (show k<([h.Then,h.Else]:List Int).length from hk)),w1 (show k<4611686018427387904 by omega)];unfold Pp at hlen ⊢
 by_cases e:x = -1
 ·subst e;rw[show((-1:Int)!=-1)=false from rfl,Bi,Bi,A1,List.append_nil]
 ·have e':(x !=-1)=true:=by simpa using e
  rw[e']at hlen ⊢;rcases hx with hx|hx
  ·exact absurd hx e
  ·rw[Aj]at hlen;rw[Aj,Ac hx,Aj,Ac (show l.length+(bA f x.toNat).Ops.length<=room by omega),A1]
theorem sB{f:Aa}(h:Sm f)(v:THammock):Hu f v=some (bif Ub f v then(MC f v,true) else([],false)):=by
 unfold Hu;rw[yF h,A1]
 cases hi:Ub f v with
 | false=>rfl
 | true=>
  rw[J1,Bi,Aj];unfold Ub at hi;rw[A9]at hi;have R:=VF h (by simpa [Wn] using hi.1);obtain⟨i,hin,ho⟩:=mem_all.1 (is_mem.1 hi.2);obtain⟨h1,h2⟩:=HF R hin ho;have s0:=am R v (k:=0) (by omega) v.Then rfl h1 [] (by simp);have s1:=am R v (k:=1) (by omega) v.Else rfl h2 ([]++Pp f v.Then) (by rw[Wx];exact Pq R h1)
  have hL:Af (Dj f v) (([]:List A6),(0:Int))=some (MC f v):=by
   have e0:Af (Dj f v) (([]:List A6),(0:Int))=_:=Ap s0;rw[e0];have e1:Af (Dj f v) ([]++Pp f v.Then,((0+1:Nat):Int))=_:=Ap s1;rw[e1];refine Am ?_;unfold Dj MC;rw[Wx];rfl
  rw[hL];rfl
theorem tu{f:Aa}(h:Sm f)(v:THammock):Kk f v=some (bif Ub f v then((MC f v).length:Int) else 0):=by
 unfold Kk;rw[sB h,A1]
 cases Ub f v<;>rfl
theorem qP(l:List A6)(hl:l.length<4611686018427387904):Cm l=some (l.any λo=>o.Lanes !=1):=by
 unfold Cm E0
 rcases loop_first (m_slices_IndexFunc_api_Op_api_Op_L1 l) (λi=>(l.getD i default).Lanes !=1) (λi=>.inr (i:Int)) (.inl ()) l.length (λi hi hp=>by
   unfold m_slices_IndexFunc_api_Op_api_Op_L1
   simp only[Er hi,Aj,A2,Ac (Ax hi),I9,A1,hp,Bi,w1 (show i<4611686018427387904 by omega)]) (λi hi hp=>by
   unfold m_slices_IndexFunc_api_Op_api_Op_L1
   simp only[Er hi,Aj,A2,Ac (Ax hi),I9,A1,hp]) (by unfold m_slices_IndexFunc_api_Op_api_Op_L1;simp only[Ir,Bi]) with⟨i,hi,hp,hl⟩|⟨hp,hl⟩
 ·rw[hl,List.any_eq_true.2 ⟨_,Ar hi,hp⟩]
  simp
 ·rw[hl]
  have:(l.any λo=>o.Lanes !=1)=false:=by
   rw[Bool.eq_false_iff];intro h;obtain⟨o,ho,hb⟩:=List.any_eq_true.1 h;obtain⟨i,hi,he⟩:=Lm ho;have:=hp i hi;rw[Ai _ _ _ hi,he,hb]at this
   cases this
  rw[this];rfl
def Sy(f:Aa)(v:THammock):Bool:=Ub f v&&(MC f v).all λo=>o.Lanes==1
theorem mi{f:Aa}(h:Sm f){v:THammock}(hi:Ub f v=true):(MC f v).length<=1024:=by
 unfold Ub at hi;rw[A9]at hi;have R:=VF h (by simpa [Wn] using hi.1);obtain⟨i,hin,ho⟩:=mem_all.1 (is_mem.1 hi.2);obtain⟨h1,h2⟩:=HF R hin ho;have:=Pq R h1;have:=Pq R h2;unfold MC;rw[G7];omega
theorem mK{f:Aa}(h:Sm f)(v:THammock):K5 f v=some (Sy f v):=by
 unfold K5 Sy;rw[sB h,A1]
 cases hi:Ub f v with
 | false=>rfl
 | true=>
  have hl:=mi h hi;simp only[Aj,show((true:Bool)==true)=true from rfl,qP _ (show(MC f v).length<4611686018427387904 by omega),A1,Kz]
  congr 1
  rw[List.not_any_eq_all_not]
  congr 1
  funext o
  simp[bne]
theorem Pl{f:Aa}{a x:Int}(hm:Sd f a x=true):(bA f x.toNat).End.Kind=1:=by
 unfold Sd at hm;simp only[A9,zzL56]at hm;exact hm.1.1
def lone(e:Eo)(b r:Int):Aa:=⟨[b],r,[⟨[],[],e⟩]⟩
theorem yy{α:Type}(l:List α):(l.map λ_=>1).sum=l.length:=by induction l with|nil=>rfl|cons a l ih=>simp[ih];omega
theorem cZ{f:Aa}(h:N3 f 2=true){b:Ab}(hb:b∈f.Blocks){o:A6}(ho:o∈b.Ops):Iu o=true:=by
 simp only[N3,Iz,A9,zzL27]at h;have:=(h.1.2 b hb).2 o ho;rw[cB  rfl]at this;exact this.1
set_option maxRecDepth 100000
theorem qf{f:Aa}(h:Wn f=true):Ox f=true:=((G4  (l:=2) (by omega) (by omega)).1 (by simpa [Wn] using h)).1
theorem bX{α σ S X:Type}(l:List α)(d:α)(mk:Nat->σ->S)(P:Nat->σ->Prop)(g:σ->α->σ)(out:σ->X)(f:S->Option (LR S X))
  (hn:∀ i s,i<l.length->P i s->f (mk i s)=some (.next (mk (i+1) (g s (l.getD i d))))/\P (i+1) (g s (l.getD i d)))
  (hd:∀ s,P l.length s->f (mk l.length s)=some (.done (out s))):∀(k i:Nat) (s:σ),i+k=l.length->P i s->Af f (mk i s)=some (out ((l.drop i).foldl g s))/\P l.length ((l.drop i).foldl g s)
 | 0,i,s,h,hP=>by
  obtain rfl:i=l.length:=by omega
  rw[Am (hd s hP)]
  simpa using hP
 | k+1,i,s,h,hP=>by
  have hi:i<l.length:=by omega
  obtain⟨h1,h2⟩:=hn i s hi hP;obtain⟨h3,h4⟩:=bX l d mk P g out f hn hd k _ _ (by omega) h2
  have hdr:l.drop i=l.getD i d::l.drop (i+1):=by simp_all
  rw[Ap h1,h3,hdr];exact⟨rfl,h4⟩
theorem Ue{α σ S X:Type}(l:List α)(d:α)(mk:Nat->σ->S)(P:Nat->σ->Prop)(g:σ->α->σ)(out:σ->X)(f:S->Option (LR S X))
  (hn:∀ i s,i<l.length->P i s->f (mk i s)=some (.next (mk (i+1) (g s (l.getD i d))))/\P (i+1) (g s (l.getD i d)))
  (hd:∀ s,P l.length s->f (mk l.length s)=some (.done (out s))) (s:σ) (hP:P 0 s):Af f (mk 0 s)=some (out (l.foldl g s))/\P l.length (l.foldl g s):=
 bX l d mk P g out f hn hd l.length 0 s (by omega) hP
abbrev Pt:=List A6×Int
def Sc(s:Pt)(k b m:Int)(az:List Int):Pt:=(s.1++[⟨k,b,1,A3 (s.2+1),az,m⟩],A3 (s.2+1))
def DE(o:A6)(g:Int)(s:Pt):A6×Pt:=
 bif o.Kind==16 then(⟨18,o.Bits,o.Lanes,o.Dst,[g,o.Args.getD 0 0,A3 (s.2+1)],o.Imm⟩,Sc s 0 o.Bits 0 []) else
 bif o.Kind==17 then(⟨19,o.Bits,o.Lanes,o.Dst,[g,o.Args.getD 0 0,o.Args.getD 1 0],o.Imm⟩,s) else
 bif o.Kind==4 then(⟨20,o.Bits,o.Lanes,o.Dst,[g,o.Args.getD 0 0,o.Args.getD 1 0,A3 (s.2+1)],o.Imm⟩,Sc s 0 o.Bits 0 []) else
 bif o.Kind==18 || (o.Kind==19 || o.Kind==20) then(⟨o.Kind,o.Bits,o.Lanes,o.Dst,A3 (s.2+1)::o.Args.drop 1,o.Imm⟩,Sc s 5 1 0 [o.Args.getD 0 0,g]) else(o,s)
def je(g:Int)(s:Pt)(o:A6):Pt:=((DE o g s).2.1++[(DE o g s).1],(DE o g s).2.2)
def GE(ops:List A6)(g:Int)(s:Pt):Pt:=ops.foldl (je g) s
theorem NL(s:Pt)(k b m:Int)(az:List Int):(Sc s k b m az).1.length=s.1.length+1:=by simp[Sc]
theorem bN(o:A6)(g:Int)(s:Pt):(DE o g s).2.1.length<=s.1.length+1:=by
 unfold DE
 cases o.Kind==16<;>cases o.Kind==17<;>cases o.Kind==4<;>cases o.Kind==18 || (o.Kind==19 || o.Kind==20)<;>simp[Sc]
theorem cI(g:Int)(s:Pt)(o:A6):(je g s o).1.length<=s.1.length+2:=by
 have:=bN o g s;simp[je];omega
theorem VI(ops:List A6)(g:Int):∀ s:Pt,(GE ops g s).1.length<=s.1.length+2*ops.length:=by
 unfold GE
 induction ops with
 | nil =>  simp
 | cons o l ih=>
  intro s;have h1:=ih (je g s o);have h2:=cI g s o;simp only[KV,AA];omega
theorem grd_cases(o:A6)(g:Int)(s:Pt) :
  (o.Kind=16/\DE o g s=(⟨18,o.Bits,o.Lanes,o.Dst,[g,o.Args.getD 0 0,A3 (s.2+1)],o.Imm⟩,Sc s 0 o.Bits 0 []))\/(o.Kind=17/\DE o g s=(⟨19,o.Bits,o.Lanes,o.Dst,[g,o.Args.getD 0 0,o.Args.getD 1 0],o.Imm⟩,s)) \/
  (o.Kind=4/\DE o g s=(⟨20,o.Bits,o.Lanes,o.Dst,[g,o.Args.getD 0 0,o.Args.getD 1 0,A3 (s.2+1)],o.Imm⟩,Sc s 0 o.Bits 0 [])) \/
  ((o.Kind=18\/o.Kind=19\/o.Kind=20)/\DE o g s=(⟨o.Kind,o.Bits,o.Lanes,o.Dst,A3 (s.2+1)::o.Args.drop 1,o.Imm⟩,Sc s 5 1 0 [o.Args.getD 0 0,g])) \/
  ((o.Kind≠16/\o.Kind≠17/\o.Kind≠4/\o.Kind≠18/\o.Kind≠19/\o.Kind≠20)/\DE o g s=(o,s)):=by
 unfold DE
 by_cases h1:o.Kind=16
 ·grind
 by_cases h2:o.Kind=17
 ·grind
 by_cases h3:o.Kind=4
 ·grind
 rw[ show(o.Kind==17)=false by simpa using h2]
 by_cases h4:o.Kind=18\/o.Kind=19\/o.Kind=20
 ·grind
 ·grind
def WQ(o:A6):Prop:=((o.Kind=16\/o.Kind=18\/o.Kind=19\/o.Kind=20)->1<=o.Args.length)/\((o.Kind=17\/o.Kind=4)->2<=o.Args.length)/\o.Args.length<=64
theorem pe{o:A6}(h:Iu o=true)(hl:o.Args.length<=64):WQ o:=by
 simp only[Iu,A9]at h;have hn:=h.1.2.2;refine⟨λhk=>?_,λhk=>?_,hl⟩
 ·rcases hk with e|e|e|e<;>rw[e]at hn<;>simp[Rn]at hn<;>omega
 ·rcases hk with e|e<;>rw[e]at hn<;>simp[Rn]at hn<;>omega
theorem AN(d b m:Int)(az:List Int)(f:Aa)(h:THammock)(s:Pt)(hl:s.1.length<=1000000) :
  B6 d b m az f h s.1 s.2=some (A3 (s.2+1),f,h,(Sc s d b m az).1,(Sc s d b m az).2):=by
 have hroom:1000001<=room:=by decide
 unfold B6 Sc;rw[Ah (by grind)]
theorem jB{o:A6}(ha:WQ o)(g:Int)(f:Aa)(h:THammock)(s:Pt)(hl:s.1.length<=1000000) :
  Ga o g f h s.1 s.2=some ((DE o g s).1,f,h,(DE o g s).2.1,(DE o g s).2.2):=by
 have hroom:(1000001:Nat)<=room:=by decide
 obtain⟨a1,a2,a3⟩:=ha;unfold Ga DE
 by_cases h16:o.Kind=16
 ·have hi:Ay (0:Int) o.Args.length:=⟨by omega,by grind⟩;rw[h16,show((16:Int)==16)=true from rfl,Aj,Aj,Ac hi,AN _ _ _ _ _ _ _ hl]
  rfl
 ·rw[show(o.Kind==16)=false by simpa using h16,Bi,Bi]
  by_cases h17:o.Kind=17
  ·have hi:Ay (0:Int) o.Args.length:=⟨by omega,by omega⟩;have hj:Ay (1:Int) o.Args.length:=⟨by omega,by omega⟩;rw[h17,show((17:Int)==17)=true from rfl,Aj,Aj,Ac hi,Ac hj]
   rfl
  ·rw[show(o.Kind==17)=false by simpa using h17,Bi,Bi]
   by_cases h4:o.Kind=4
   ·have hi:Ay (0:Int) o.Args.length:=⟨by omega,by omega⟩;have hj:Ay (1:Int) o.Args.length:=⟨by omega,by omega⟩;rw[h4,show((4:Int)==4)=true from rfl,Aj,Aj,Ac hi,Ac hj,AN _ _ _ _ _ _ _ hl]
    rfl
   ·rw[show(o.Kind==4)=false by simpa using h4,Bi]
    have e:(bif (o.Kind==18) then some (o.Kind==18) else bif (o.Kind==19) then some (o.Kind==19) else some (o.Kind==20))=some (o.Kind==18 || (o.Kind==19 || o.Kind==20)):=by
     grind
    rw[e,A1]
    cases hb:(o.Kind==18 || (o.Kind==19 || o.Kind==20)) with
    | false=>rfl
    | true=>
     simp only[RB,zzL56]at hb;have hi:Ay (0:Int) o.Args.length:=⟨by omega,by omega⟩;rw[Aj,Aj,Ac hi,AN _ _ _ _ _ _ _ hl];simp only[A1];rw[Ah (by omega),Ah (by simp;omega)]
     rfl
theorem ap{ops:List A6}(ho:∀ o∈ops,WQ o)(hn:ops.length<=100000)(g:Int)(f:Aa)(h:THammock)(s:Pt)(hl:s.1.length<=100000) :
  Dq ops g f h s.1 s.2=some (f,h,(GE ops g s).1,(GE ops g s).2):=by
 have hroom:1000001<=room:=by decide
 have key:=Ue ops default (λi t=>((i:Int),f.Params,f.Ret,f.Blocks,h.At,h.Then,h.Else,h.Join,t.1,t.2)) (λi t=>t.1.length<=s.1.length+2*i) (je g) (λt=>(f.Params,f.Ret,f.Blocks,h.At,h.Then,h.Else,h.Join,t.1,t.2)) (Fa ops g)
  (λi t hi hP=>by
   have h2:=cI g t (ops.getD i default);refine⟨?_,by omega⟩;have h3:=bN (ops.getD i default) g t;unfold Fa;simp only[Er hi, Ac (Ax hi),A2,w1 (show i<4611686018427387904 by omega)];rw[  jB (ho _ (Ar hi)) g f h t (by omega),A1];rw[Ah (by grind)]
   rfl)
  (λt _=>by unfold Fa;simp only[Ir,Bi]) s (by omega)
 unfold Dq;rw[show(0,f.Params,f.Ret,f.Blocks,h.At,h.Then,h.Else,h.Join,s.1,s.2)=(((0:Nat):Int),f.Params,f.Ret,f.Blocks,h.At,h.Then,h.Else,h.Join,s.1,s.2) from rfl,key.1]
 rfl
def Fb(h:THammock)(x:Int):Int:=bif x==-1 then h.At else x
structure Hm(f:Aa)(h:THammock):Prop where
 R:Rt f
 at_:Ay h.At f.Blocks.length
 kind:(bA f h.At.toNat).End.Kind=2
 sides:(h.Then = -1\/Ay h.Then f.Blocks.length)/\(h.Else = -1\/Ay h.Else f.Blocks.length)
 join:Ay h.Join f.Blocks.length
 jne:h.Join≠h.At
 thenJ:Fb h h.Then∈PL f h.Join.toNat
 elseJ:Fb h h.Else∈PL f h.Join.toNat
 apart:Fb h h.Then≠Fb h h.Else
 atJ:h.At∈PL f h.Join.toNat->Fb h h.Then=h.At\/Fb h h.Else=h.At
 tne:h.Then≠h.At/\h.Else≠h.At/\h.Then≠h.Join/\h.Else≠h.Join
 mid:(h.Then≠-1->Sd f h.At h.Then=true/\Fj f h.Then.toNat 0=h.Join)/\(h.Else≠-1->Sd f h.At h.Else=true/\Fj f h.Else.toNat 0=h.Join)
 to:(h.Then≠-1->Fj f h.At.toNat 0=h.Then)/\(h.Then = -1->Fj f h.At.toNat 0=h.Join)/\(h.Else≠-1->Fj f h.At.toNat 1=h.Else)/\(h.Else = -1->Fj f h.At.toNat 1=h.Join)
 one:h.Then≠-1\/h.Else≠-1
theorem rz{f:Aa}(hs:Sm f){h:THammock}(hi:Ub f h=true):Hm f h:=by
 have hi':=hi;unfold Ub at hi';rw[A9]at hi';have R:=VF hs (by simpa [Wn] using hi'.1);obtain⟨i,hin,ho⟩:=mem_all.1 (is_mem.1 hi'.2);have ea:=lw ho;obtain⟨hk,hne,hJ,hJA,hcs⟩:=ly R hin ho;have hsd:=HF R hin ho;have e2:=R.two i hin hk
 have ei:h.At.toNat=i:=by rw[ea];simp
 have hJn:h.Join.toNat<f.Blocks.length:=by have:=hJ.1;have:=hJ.2;omega
 have hJc:((h.Join.toNat:Nat):Int)=h.Join:=M1 hJ.1
 have mpos:∀ x,Sd f i x=true->Ay x f.Blocks.length->x≠i/\x≠h.Join:=λx hm hx=>by
  have hk1:=Pl hm
  constructor
  ·rintro rfl;rw[show((i:Int)).toNat=i by simp,hk]at hk1;cases hk1
  ·rintro rfl
   have hp:PL f h.Join.toNat=[(i:Int)]:=by
    unfold Sd at hm;simp only[A9,Gj]at hm;exact hm.2
   rcases hcs with⟨a1,a2,a3,a4,a5,a6⟩|⟨a1,a2,a3,a4,a5⟩|⟨a1,a2,a3,a4,a5⟩
   all_goals
    have hx0:=hx.1
   ·have h1:Ay h.Then f.Blocks.length:=hsd.1.resolve_left λe=>by rw[e]at a1;have:=S3 R hin hk 0 (by omega);rw[<- a1]at this;exact absurd this.1 (by omega)
    have hin2:h.Then∈PL f h.Join.toNat:=(Zf R hJn).2 ⟨h.Then.toNat,(M1 h1.1).symm,(by have:=h1.1;have:=h1.2;omega),by rw[hJc,<- a5];exact Ar (by rw[R.one _ (by have:=h1.1;have:=h1.2;omega) (Pl a3)];omega)⟩
    have h2:Ay h.Else f.Blocks.length:=hsd.2.resolve_left λe=>by rw[e]at a2;have:=S3 R hin hk 1 (by omega);rw[<- a2]at this;exact absurd this.1 (by omega)
    have hin3:h.Else∈PL f h.Join.toNat:=(Zf R hJn).2 ⟨h.Else.toNat,(M1 h2.1).symm,(by have:=h2.1;have:=h2.2;omega),by rw[hJc,<- a6];exact Ar (by rw[R.one _ (by have:=h2.1;have:=h2.2;omega) (Pl a4)];omega)⟩;rw[hp]at hin2 hin3;simp only[zzL17]at hin2 hin3;exact hne (by rw[<- a1,<- a2,hin2,hin3])
   ·have h1:Ay h.Then f.Blocks.length:=hsd.1.resolve_left λe=>by rw[e]at a1;have:=S3 R hin hk 0 (by omega);rw[<- a1]at this;exact absurd this.1 (by omega)
    have hin2:h.Then∈PL f h.Join.toNat:=(Zf R hJn).2 ⟨h.Then.toNat,(M1 h1.1).symm,(by have:=h1.1;have:=h1.2;omega),by rw[hJc,<- a5];exact Ar (by rw[R.one _ (by have:=h1.1;have:=h1.2;omega) (Pl a4)];omega)⟩;rw[hp]at hin2;simp only[zzL17]at hin2;have:=Pl a4;rw[hin2,show((i:Int)).toNat=i by simp,hk]at this
    cases this
   ·have h2:Ay h.Else f.Blocks.length:=hsd.2.resolve_left λe=>by rw[e]at a2;have:=S3 R hin hk 1 (by omega);rw[<- a2]at this;exact absurd this.1 (by omega)
    have hin3:h.Else∈PL f h.Join.toNat:=(Zf R hJn).2 ⟨h.Else.toNat,(M1 h2.1).symm,(by have:=h2.1;have:=h2.2;omega),by rw[hJc,<- a5];exact Ar (by rw[R.one _ (by have:=h2.1;have:=h2.2;omega) (Pl a4)];omega)⟩;rw[hp]at hin3;simp only[zzL17]at hin3;have:=Pl a4;rw[hin3,show((i:Int)).toNat=i by simp,hk]at this
    cases this
 have t0:=S3 R hin hk 0 (by omega);have t1:=S3 R hin hk 1 (by omega);have here:∀ k,k<2->Fj f i k=h.Join->(i:Int)∈PL f h.Join.toNat:=λk hk2 e=>(Zf R hJn).2 ⟨i,rfl,hin,by rw[hJc,<- e];exact Ar (by rw[e2];exact hk2)⟩;have there:∀ x,Ay x f.Blocks.length->Sd f i x=true->Fj f x.toNat 0=h.Join->x∈PL f h.Join.toNat:=λx hx hm e=>(Zf R hJn).2 ⟨x.toNat,(M1 hx.1).symm,(by have:=hx.1;have:=hx.2;omega),by rw[hJc,<- e];exact Ar (by rw[R.one _ (by have:=hx.1;have:=hx.2;omega) (Pl hm)];omega)⟩
 have pos:∀ x,Ay x f.Blocks.length->x≠-1:=λx hx e=>by have:=hx.1;omega
 have ce:∀ x,Ay x f.Blocks.length->Fb h x=x:=λx hx=>by unfold Fb;rw[show(x==-1)=false by simpa using pos x hx];rfl
 have cm:Fb h (-1)=i:=by unfold Fb;rw[ea];rfl
 have at_to:h.At∈PL f h.Join.toNat->h.Join=Fj f i 0\/h.Join=Fj f i 1:=λhm=>by
  obtain⟨p,hp,hpn,hto⟩:=(Zf R hJn).1 hm
  obtain rfl:p=i:=by omega
  rw[hJc]at hto;obtain⟨k,hk3,hk4⟩:=Lm hto
  have hk5:Fj f p k=h.Join:=by unfold Fj;rw[Ai _ _ _ hk3];exact hk4
  rw[e2]at hk3
  have:k=0\/k=1:=by omega
  rcases this with rfl|rfl
  ·exact .inl hk5.symm
  ·exact .inr hk5.symm
 rw[<- ei]at hk
 have hA:Ay h.At f.Blocks.length:=by rw[ea];exact Ax hin
 rcases hcs with⟨a1,a2,a3,a4,a5,a6⟩|⟨a1,a2,a3,a4,a5⟩|⟨a1,a2,a3,a4,a5⟩
 ·have i1:Ay h.Then f.Blocks.length:=by rw[a1];exact t0
  have i2:Ay h.Else f.Blocks.length:=by rw[a2];exact t1
  obtain⟨m1,m2⟩:=mpos _ a3 i1;obtain⟨m3,m4⟩:=mpos _ a4 i2;refine⟨R,hA,hk,hsd,hJ,by rw[ea];exact hJA,by rw[ce _ i1];exact there _ i1 a3 a5,by rw[ce _ i2];exact there _ i2 a4 a6,by rw[ce _ i1,ce _ i2,a1,a2];exact hne,λhm=>?_,⟨by rw[ea];exact m1,by rw[ea];exact m3,m2,m4⟩,by rw[ea];exact⟨λ_=>⟨a3,a5⟩,λ_=>⟨a4,a6⟩⟩,?_,.inl (pos _ i1)⟩
  ·rcases at_to hm with e|e
   ·exact absurd (by rw[e,a1]) m2
   ·exact absurd (by rw[e,a2]) m4
  ·rw[ei];exact⟨λ_=>a1.symm,λe=>absurd e (pos _ i1),λ_=>a2.symm,λe=>absurd e (pos _ i2)⟩
 ·have i1:Ay h.Then f.Blocks.length:=by rw[a1];exact t0
  obtain⟨m1,m2⟩:=mpos _ a4 i1;refine⟨R,hA,hk,hsd,hJ,by rw[ea];exact hJA,by rw[ce _ i1];exact there _ i1 a4 a5,by rw[a2,cm];exact here 1 (by omega) a3.symm,by rw[ce _ i1,a2,cm];exact m1,λ_=>.inr (by rw[a2,cm,ea]),⟨by rw[ea];exact m1,by rw[a2,ea];omega,m2,by rw[a2];exact λe=>pos _ hJ e.symm⟩,by rw[ea];exact⟨λ_=>⟨a4,a5⟩,λe=>absurd a2 e⟩,?_,.inl (pos _ i1)⟩;rw[ei];exact⟨λ_=>a1.symm,λe=>absurd e (pos _ i1),λe=>absurd a2 e,λ_=>a3.symm⟩
 ·have i2:Ay h.Else f.Blocks.length:=by rw[a2];exact t1
  obtain⟨m3,m4⟩:=mpos _ a4 i2;refine⟨R,hA,hk,hsd,hJ,by rw[ea];exact hJA,by rw[a1,cm];exact here 0 (by omega) a3.symm,by rw[ce _ i2];exact there _ i2 a4 a5,by rw[ce _ i2,a1,cm];exact λe=>m3 e.symm,λ_=>.inl (by rw[a1,cm,ea]),⟨by rw[a1,ea];omega,by rw[ea];exact m3,by rw[a1];exact λe=>pos _ hJ e.symm,m4⟩,by rw[ea];exact⟨λe=>absurd a1 e,λ_=>⟨a4,a5⟩⟩,?_,.inr (pos _ i2)⟩;rw[ei];exact⟨λe=>absurd a1 e,λ_=>a3.symm,λ_=>a2.symm,λe=>absurd e (pos _ i2)⟩
theorem qF{a b:Nat}(h:a+b<4000000):A3 (R3 .u64 (Du (A3 ((a:Int)+(b:Int)))) (1:Int))=(((a+b) / 2:Nat):Int):=by
 have e:(a+b)=((a+b:Nat):Int):=by omega
 rw[e,Hj (n:=(a+b:Nat)) (by omega) (by omega),GK (by omega) (by omega)];unfold R3;rw[show(1:Int).toNat=1 from rfl,show min 1 _=1 from rfl, Int.fdiv_eq_ediv_of_nonneg _ (by omega),Hj (by omega) (by omega)];omega
theorem mN{l:List Int}(hs:l.Pairwise (·<·))(hl:l.length<=1000)(x:Int):∃(i:Nat) (b:Bool),D4 l x=some ((i:Int),b)/\i<=l.length/\(∀ k,k<i->l.getD k 0<x)/\∀ k,i<=k->k<l.length->x<=l.getD k 0:=by
 have hmono:∀ i j,i<j->j<l.length->l.getD i 0<l.getD j 0:=λi j hij hj=>by
  rw[Ai _ _ _ hj,Ai _ _ _ (by omega)];exact zzL86.1 hs i j (by omega) hj hij
 have key:∀ d (a b:Nat),b-a<=d->a<=b->b<=l.length->(∀ k,k<a->l.getD k 0<x)->(∀ k,b<=k->k<l.length->x<=l.getD k 0)->
   ∃ i:Nat,Af (Bu l x) ((a:Int),(b:Int))=some (i:Int)/\i<=l.length/\(∀ k,k<i->l.getD k 0<x)/\∀ k,i<=k->k<l.length->x<=l.getD k 0:=by
  intro d
  induction d with
  | zero=>
   intro a b h1 h2 h3 h4 h5
   obtain rfl:a=b:=by omega
   refine⟨a,Am ?_,h3,h4,h5⟩;unfold Bu;simp only[Ir,Bi]
  | succ d ih=>
   intro a b h1 h2 h3 h4 h5
   by_cases hab:a<b
   ·have hm:(a+b) / 2<l.length:=by omega
    have e:Bu l x ((a:Int),(b:Int))=some (.next (bif decide (l.getD ((a+b) / 2) 0<x) then((((a+b) / 2+1:Nat):Int),(b:Int)) else((a:Int),(((a+b) / 2:Nat):Int)))):=by
     unfold Bu Rf Md;simp only[Er hab,Aj,qF (show a+b<4000000 by omega),Ac (Ax hm),A2,A1,bne_self_eq_false,w1 (show(a+b) / 2<4611686018427387904 by omega)]
     cases decide (l.getD ((a+b) / 2) 0<x)<;>rfl
    rw[Ap e]
    by_cases hx:l.getD ((a+b) / 2) 0<x
    ·rw[H8 hx,Aj];refine ih _ _ (by omega) (by omega) h3 (λk hk=>?_) h5;rcases zzL113 k ((a+b) / 2) with h6|h6
     ·exact Int.lt_trans (hmono k _ h6 hm) hx
     ·obtain rfl:k=(a+b) / 2:=by omega
      exact hx
    ·rw[J0 hx,Bi];refine ih _ _ (by omega) (by omega) (by omega) h4 (λk hk hkl=>?_);rcases zzL113 ((a+b) / 2) k with h6|h6
     ·have:=hmono _ k h6 hkl;omega
     ·obtain rfl:k=(a+b) / 2:=by omega
      omega
   ·exact ih a b (by omega) h2 h3 h4 h5
 obtain⟨i,h1,h2,h3,h4⟩:=key l.length 0 l.length (by omega) (by omega) (zzL5 _) (λk hk=>by omega) (λk hk hk2=>by omega);have h1':Af (Bu l x) ((0:Int),(l.length:Int))=some (i:Int):=h1;unfold D4 Jb;rw[h1',A1]
 have hin:(decide ((i:Int)<(l.length:Int)))=true->Ay (i:Int) l.length:=λh=>by have:=QY h;exact⟨by omega,this⟩
 rw[Ac (λh=>hin (by simpa using h)),Ac (λh=>hin (by simp at h;simpa using h.1))];simp only[bne_self_eq_false];refine⟨i,(bif decide ((i:Int)<(l.length:Int)) then(bif (l.getD (i:Int).toNat 0==x) then true else(bif false then false else false)) else false),?_,h2,h3,h4⟩
 have e:∀ b:Bool,(bif b then some false else some false)=some false:=λb=>by cases b<;>rfl
 rw[e,A1];simp only[Bool.and_false,show((false:Bool)==true)=false from rfl,Bi,A1]
def EF(p:Bb)(x:Int):Int:=match p.From.findIdx? (λy=>y==x) with|some i=>p.Args.getD i 0|none=>0
theorem lP{p:Bb}(hs:p.From.Pairwise (·<·)){i:Nat}(hi:i<p.From.length):EF p (p.From.getD i 0)=p.Args.getD i 0:=by
 have hfi:p.From.findIdx? (λy=>y==p.From.getD i 0)=some i:=by
  rw[List.findIdx?_eq_some_iff_getElem];rw[Ai _ _ _ hi];refine⟨hi,by simp,λj hj=>?_⟩;have:=zzL86.1 hs j i (by omega) hi hj
  simp;omega
 unfold EF;rw[hfi]
theorem wE{p:Bb}(hs:p.From.Pairwise (·<·))(hl:p.From.length<=1000)(ha:p.Args.length=p.From.length){x:Int}(hx:x∈p.From):Pj p x=some (EF p x):=by
 unfold Pj
 rcases m_index _ x hl with⟨r,h1,h2,_,h3⟩|⟨h1,_⟩
 ·rw[h3,A1,Ac (by rw[ha];exact Ax h1),A2,<- h2,lP hs h1]
 ·obtain⟨i,hi,he⟩:=Lm hx;exact absurd (by grind) (h1 i hi)
def US(h:THammock)(x:Int):Int:=(λy:Int=>bif (h.Else !=-1)&&decide (h.Else<x) then y-1 else y) (bif (h.Then !=-1)&&decide (h.Then<x) then x-1 else x)
def mS(h:THammock)(p:Bb):Bb:=⟨p.Bits,p.Dst,p.From.map (US h),p.Args⟩
def jW(h:THammock)(b:Ab):Ab:=⟨b.Phis.map (mS h),b.Ops,⟨b.End.Kind,b.End.Arg,b.End.To.map (US h)⟩⟩
theorem MN(a b:Bool):(bif a then b else false)=(a&&b):=by cases a<;>rfl
theorem lN{α:Type}(b:Bool)(x y:α):(bif b then some x else some y)=some (bif b then x else y):=by cases b<;>rfl
theorem pt{h:THammock}{x:Int}(hx:0<=x/\x<1000000):Jy x h=some (US h x):=by
 unfold Jy US;rw[MN,MN,lN,A1,Hj (n:=x-1) (by omega) (by omega)]
 generalize hz:(bif ((h.Then !=-1)&&decide (h.Then<x)) then x-1 else x)=z
 have hz2:-1<=z/\z<1000000:=by grind
 rw[Hj  (by omega) (by omega),lN]
 rfl
theorem bK{α β:Type}(F:α->β):∀(l:List α) (k:Nat) (s:List β),s.length=k+l.length->(l.foldl (λ(t:Nat×List β) b=>(t.1+1,t.2.set t.1 (F b))) (k,s)).2=s.take k++l.map F
 | [],k,s,h=>by simp at h;simp[<- h]
 | b::l,k,s,h=>by
  simp only[AA]at h;rw[KV,bK F l _ _ (by simp;omega)]
  have e:(s.set k (F b)).take (k+1)=s.take k++[F b]:=by
   rw[List.take_add_one,List.take_set_of_le (by omega)];simp[ show k<s.length by omega]
  rw[e,KT];rfl
theorem bY{α β X:Type}(l:List α)(d:α)(F:α->β)(out:List β->X)(f:Int×List β->Option (LR (Int×List β) X))(hn:∀(i:Nat) (s:List β),i<l.length->s.length=l.length->f ((i:Int),s)=some (.next (((i+1:Nat):Int),s.set i (F (l.getD i d)))))
  (hd:∀ s,f ((l.length:Int),s)=some (.done (out s))) (s:List β) (hs:s.length=l.length):Af f ((0:Int),s)=some (out (l.map F)):=by
 have key:=Ue l d (λi t=>((i:Int),t.2)) (λi t=>t.1=i/\t.2.length=l.length) (λt b=>(t.1+1,t.2.set t.1 (F b))) _ f
  (λi t hi hP=>by grind) (λt _=>hd t.2) (0,s) ⟨rfl,hs⟩
 have:=key.1;rw[bK F l 0 s (by omega)]at this
 simpa using this
theorem NP{l:List Int}{h:THammock}(hl:l.length<=100000)(hx:∀ x∈l,0<=x/\x<1000000):Hy l h=some (l.map (US h)):=by
 have hroom:1000001<=room:=by decide
 unfold Hy
 rw[Ac (by omega),bY l 0 _ id _ (λi s hi hs=>by
  unfold Kl;simp only[Er hi,Aj,Ac (Ax hi),A2,pt (hx _ (Ar hi)),A1,w1 (show i<4611686018427387904 by omega)]
  rw[Ac (by rw[hs];exact Ax hi)]) (λs=>by unfold Kl;simp only[Ir];rfl) _ (by simp)]
 rfl
def rX(b:Ab):Prop:=b.Phis.length<=100000/\(∀ p∈b.Phis,p.From.length<=100000/\∀ x∈p.From,0<=x/\x<1000000)/\b.End.To.length<=100000/\∀ x∈b.End.To,0<=x/\x<1000000
theorem pq{b:Ab}(hb:rX b)(h:THammock):Nn b h=some (jW h b):=by
 have hroom:1000001<=room:=by decide
 obtain⟨b1,b2,b3,b4⟩:=hb;unfold Nn
 rw[Ac (by omega),bY _ _ (mS h) id _ (λi s hi hs=>by
  unfold Np;have hm:=b2 _ (Ar (d:=default) hi);simp only[Er hi, Ac (Ax hi),A2,NP hm.1 hm.2,A1,w1 (show i<4611686018427387904 by omega)];rw[Ac (by rw[hs];exact Ax hi)]
  rfl) (λs=>by unfold Np;simp only[Ir];rfl) _ (by simp), NP b3 b4]
 rfl
def gV(h:THammock)(p:Bb)(k:Nat):Bool:=((k:Int)==h.At) || (((k:Int)!=Fb h h.Then)&&(((k:Int)!=Fb h h.Else)&&p.From.contains (k:Int)))
def Yh(n:Nat)(h:THammock)(p:Bb):List Int:=((List.range n).filter (gV h p)).map Int.ofNat
def bO(n:Nat)(h:THammock)(p:Bb)(v:Int):Bb:=⟨p.Bits,p.Dst,Yh n h p,(Yh n h p).map λx=>bif x==h.At then v else EF p x⟩
theorem TY{α β:Type}(c:α->Bool)(F:α->β):∀(l:List α) (s:List α×List β),l.foldl (λs b=>bif c b then(s.1++[b],s.2++[F b]) else s) s=(s.1++l.filter c,s.2++(l.filter c).map F)
 | [],s=>by simp
 | b::l,s=>by
  rw[KV,TY c F l];cases h:c b<;>simp[h]
theorem jC{n:Nat}{h:THammock}{p:Bb}(hs:p.From.Pairwise (·<·))(hl:p.From.length<=1000)(ha:p.Args.length=p.From.length)(hin:∀ x∈p.From,Ay x n)(hA:Ay h.At n)(hat:h.At∈p.From->Fb h h.Then=h.At\/Fb h h.Else=h.At)(v:Int) :
  K6 p (Fb h h.Then) (Fb h h.Else) h.At v=some (bO n h p v):=by
 have hroom:(1000001:Nat)<=room:=by decide
 have key:=Ue p.From (0:Int) (λi (t:List Int×List Int)=>((i:Int),t.1,t.2)) (λi t=>t.1.length<=i/\t.2.length<=i) (λs b=>bif (b !=Fb h h.Then)&&(b !=Fb h h.Else) then(s.1++[b],s.2++[EF p b]) else s) (λt=>(t.1,t.2)) (Ie p (Fb h h.Then) (Fb h h.Else))
  (λi t hi hP=>by
   unfold Ie;simp only[Er hi,Aj,Ac (Ax hi),A2,w1 (show i<4611686018427387904 by omega),MN];rw[lP hs hi]
   cases((p.From.getD i 0 !=Fb h h.Then)&&(p.From.getD i 0 !=Fb h h.Else)) with
   | false=>exact⟨rfl,by simp only[Bi];omega⟩
   | true=>
    simp only[Aj];rw[Ah (by simp;omega),Ac (by rw[ha];exact Ax hi),Ah (by simp;omega)]
    exact⟨rfl,by simp;omega⟩)
  (λt _=>by unfold Ie;simp only[Ir,Bi]) ([],[]) (by simp)
 rw[TY]at key;simp only[Wx]at key;obtain⟨L,hL⟩:∃ L,L=p.From.filter λb=>(b !=Fb h h.Then)&&(b !=Fb h h.Else):=⟨_,rfl⟩;rw[<- hL]at key
 have hLs:L.Pairwise (·<·):=by rw[hL];exact hs.filter _
 have hLl:L.length<=1000:=by rw[hL];exact N4 (List.length_filter_le ..) hl
 have hLm:∀ x,x∈L↔x∈p.From/\x≠Fb h h.Then/\x≠Fb h h.Else:=λx=>by rw[hL,zzL110];simp
 have hLa:h.At∉L:=λhm=>by
  obtain⟨h1,h2,h3⟩:=(hLm _).1 hm;rcases hat h1 with e|e
  ·exact h2 e.symm
  ·exact h3 e.symm
 unfold K6;rw[show((0:Int),([]:List Int),([]:List Int))=(((0:Nat):Int),[],[]) from rfl,key.1];obtain⟨i,b,hb,hi,hlt,hge⟩:=mN hLs hLl h.At
 have hI:∀ M:List Int,M.length=L.length->∀ z,Zs M (i:Int) [z]=some (M.take i++[z]++M.drop i,M.take i++[z]++M.drop i,[z]):=λM hM z=>by
  unfold Zs;rw[Ah ⟨by omega,by omega,by simp,by simp;omega⟩,A2]
 simp only[A1,hb,hI L rfl,hI (L.map (EF p)) (by simp)];rw[Ah (show 1=[h.At].length from rfl),Ah (show 1=[v].length from rfl)]
 have hF:L.take i++[h.At]++L.drop i=Yh n h p:=by
  have hgt:∀ y∈L.drop i,h.At<y:=λy hy=>by
   obtain⟨k,hk,rfl⟩:=Lm hy;rw[List.getElem_drop];rw[Z0]at hk;have h1:=hge (i+k) (by omega) (by omega);rw[Ai _ _ _ (show i+k<L.length by omega)]at h1;have h2:L[i+k]≠h.At:=λe=>hLa (e▸IQ _);omega
  have hlt':∀ y∈L.take i,y<h.At:=λy hy=>by
   obtain⟨k,hk,rfl⟩:=Lm hy;rw[List.getElem_take];rw[GO]at hk;have h1:=hlt k (by omega);rwa[Ai _ _ _ (show k<L.length by omega)]at h1
  refine PZ ?_ (JQ _ _) λx=>?_
  ·grind
  ·unfold Yh;rw[be]
   have hx:x∈L.take i++[h.At]++L.drop i↔x=h.At\/x∈L:=by
    conv=>rhs;rw[<- List.take_append_drop i L]
    simp only[zzL13,zzL17]
    constructor
    ·rintro((h1|h1)|h1)
     ·exact .inr (.inl h1)
     ·exact .inl h1
     ·exact .inr (.inr h1)
    ·rintro(h1|h1|h1)
     ·exact .inl (.inr h1)
     ·exact .inl (.inl h1)
     ·exact .inr h1
   rw[hx]
   constructor
   ·intro h1
    have hxn:Ay x n:=by
     rcases h1 with rfl|h1
     ·exact hA
     ·exact hin x ((hLm x).1 h1).1
    refine⟨x.toNat,(M1 hxn.1).symm,(by have:=hxn.1;have:=hxn.2;omega),?_⟩;unfold gV;rw[M1 hxn.1];rcases h1 with rfl|h1
    ·simp
    ·obtain⟨h2,h3,h4⟩:=(hLm x).1 h1;simp[h2,h3,h4]
   ·rintro⟨k,rfl,hk,h1⟩;unfold gV at h1;simp only[RB,zzL56,A9,Tz,QV,ne_eq]at h1;rcases h1 with h1|⟨h1,h2,h3⟩
    ·exact .inl h1
    ·exact .inr ((hLm _).2 ⟨h3,h1,h2⟩)
 have hG:(L.map (EF p)).take i++[v]++(L.map (EF p)).drop i=(Yh n h p).map λx=>bif x==h.At then v else EF p x:=by
  rw[<- hF,RA,RA,<- List.map_take,<- List.map_drop]
  have e:∀ M:List Int,(∀ x∈M,x∈L)->M.map (EF p)=M.map λx=>bif x==h.At then v else EF p x:=λM hM=>YH λx hx=>by
   have:(x==h.At)=false:=by simp;exact λe=>hLa (e▸hM x hx)
   rw[this];rfl
  rw[e _ (λx hx=>List.mem_of_mem_take hx),e _ (λx hx=>List.mem_of_mem_drop hx)]
  simp
 rw[hF,hG]
 rfl
set_option linter.unusedSectionVars false
theorem tQ(k:Int):Sv k=some (UZ k):=by
 unfold Sv UZ
 have e:(bif (k==4) then some (k==4) else bif (k==16) then some (k==16) else bif (k==17) then some (k==17) else bif (k==18) then some (k==18) else bif (k==19) then some (k==19) else some (k==20))=some (k==4 || k==16 || k==17 || k==18 || k==19 || k==20):=by
  grind
 rw[e, JW]
 cases(k==4 || k==16 || k==17 || k==18 || k==19 || k==20)<;>simp
def ZY(l:List A6):Bool:=l.any λo=>!UZ o.Kind
theorem tR(l:List A6)(hl:l.length<4611686018427387904):Ca l=some (ZY l):=by
 unfold Ca D9 ZY
 have hk:∀ i,i<l.length->m_slices_IndexFunc_api_Op_api_Op_v2_L1 l i=bif !UZ (l.getD i default).Kind then some (.done (.inr i)) else some (.next ((i+1:Nat))):=λi hi=>by
  unfold m_slices_IndexFunc_api_Op_api_Op_v2_L1 Lr;simp only[Er hi,Aj,A2,Ac (Ax hi),tQ,A1,w1 (show i<4611686018427387904 by omega)]
 rcases loop_first (m_slices_IndexFunc_api_Op_api_Op_v2_L1 l) (λi=>!UZ _) _ (.inl ()) _ (λi hi hp=>by rw[hk i hi,hp];rfl) (λi hi hp=>by rw[hk i hi,hp];rfl)
  (by unfold m_slices_IndexFunc_api_Op_api_Op_v2_L1;simp only[Ir,Bi]) with⟨i,hi,hp,hl⟩|⟨hp,hl⟩
 ·rw[hl,List.any_eq_true.2 ⟨_,Ar hi,hp⟩]
  simp
 ·rw[hl]
  have:(l.any λo=>!UZ o.Kind)=false:=by
   rw[Bool.eq_false_iff];intro h;obtain⟨o,ho,hb⟩:=List.any_eq_true.1 h;obtain⟨i,hi,he⟩:=Lm ho;have:=hp i hi;rw[Ai _ _ _ hi,he,hb]at this
   cases this
  rw[this];rfl
def sE(f:Aa)(h:THammock):Pt:=GE (Pp f h.Then) (bA f h.At.toNat).End.Arg ((bA f h.At.toNat).Ops,FE f)
def gz(f:Aa)(h:THammock):Pt:=bif ZY (Pp f h.Else) then Sc (Sc (sE f h) 0 1 1 []) 7 1 0 [(bA f h.At.toNat).End.Arg,(Sc (sE f h) 0 1 1 []).2] else sE f h
def mV(f:Aa)(h:THammock):Int:=bif ZY (Pp f h.Else) then(gz f h).2 else 0
def cP(f:Aa)(h:THammock):Pt:=GE (Pp f h.Else) (mV f h) (gz f h)
section
variable {f:Aa} {h:THammock} (H:Hm f h)
include H
theorem mj(hc:Wn f=true){x:Int}(hx:x = -1\/Ay x f.Blocks.length):∀ o∈Pp f x,WQ o:=by
 intro o ho;unfold Pp at ho;rcases hx with rfl|hx
 ·cases ho
 ·rw[show(x !=-1)=true by grind]at ho;have hm:bA f x.toNat∈f.Blocks:=Ar (by have:=hx.1;have:=hx.2;omega);exact pe (cZ ((G4   (by omega) (by omega)).1 (by simpa [Wn] using hc)).2.2.1 hm ho) (gi H.R.ok hm ho)
theorem dX:(bA f h.At.toNat).Ops.length<=512:=by
 have:=(H.R.ok.block _ (Ar  (i:=h.At.toNat) (d:=default) (by have:=H.at_.1;have:=H.at_.2;omega))).ops;exact this
theorem gy:(sE f h).1.length<=2000:=by
 have h1:=VI (Pp f h.Then) (bA f h.At.toNat).End.Arg ((bA f h.At.toNat).Ops,FE f);have h2:=Pq H.R H.sides.1;have h3:=dX H;unfold sE;simp only at h1;omega
theorem g5:(gz f h).1.length<=2002:=by
 have:=gy H;unfold gz
 cases ZY _ with
 | false=>rw[Bi];omega
 | true=>rw[Aj,NL,NL];omega
theorem g6:(cP f h).1.length<=4000:=by
 have h1:=VI (Pp f h.Else) (mV f h) (gz f h);have h2:=Pq H.R H.sides.2;have h3:=g5 H;unfold cP;omega
theorem TQ{x:Int}(hx:x = -1\/Ay x f.Blocks.length)(s:List A6)(l:Int):El x f h s l=some (Pp f x):=by
 unfold El Pp;rcases hx with rfl|hx
 ·rfl
 ·have e:(x==-1)=false:=by have:=hx.1;simp;omega
  rw[e, Ac hx,show(x !=-1)=true by simpa using e]
  rfl
theorem de(hc:Wn f=true):Ft (bA f h.At.toNat).End.Arg f h (bA f h.At.toNat).Ops (FE f)=some (f,h,(cP f h).1,(cP f h).2):=by
 have l1:=Pq H.R H.sides.1;have l2:=Pq H.R H.sides.2;have k1:=gy H;have k2:=g5 H;unfold Ft;rw[TQ H H.sides.1,A1,ap (mj H hc H.sides.1) (by omega) _ _ _ ((bA f h.At.toNat).Ops,FE f) (by have:=dX H;simp only;omega),A1];simp only;rw[show GE (Pp f h.Then) (bA f h.At.toNat).End.Arg ((bA f h.At.toNat).Ops,FE f)=sE f h from rfl,TQ H H.sides.2,A1,tR _ (by omega),A1];have e:∀ z ,z=(mV f h,f.Params,f.Ret,f.Blocks,h.At,h.Then,h.Else,h.Join,(gz f h).1,(gz f h).2)->
   (Option.bind (some z) λx17=>(match x17 with|(i4,l5,i6,l7,i8,i9,i10,i11,l12,i13)=>((Dq (Pp f h.Else) i4 (⟨l5,i6,l7⟩:Aa) _ l12 i13).bind _)))=some (f,h,(cP f h).1,(cP f h).2):=λz hz=>by
  subst hz;simp only[A1];rw[  ap (mj H hc H.sides.2) (by omega) _ _ _ (gz f h) (by omega),A1]
  rfl
 cases hg:ZY (Pp f h.Else) with
 | false=>
  rw[Bi];refine e _ ?_;unfold mV gz;rw[hg];rfl
 | true=>
  rw[Aj,AN _ _ _ _ _ _ _ (by omega),A1];simp only;rw[AN _ _ _ _ _ _ _ (by rw[NL];omega),A1];refine e _ ?_;unfold mV gz;rw[hg];rfl
end
def XX(f:Aa)(h:THammock)(s:List Bb×Pt)(p:Bb):List Bb×Pt:=
 bif EF p (Fb h h.Then)==EF p (Fb h h.Else) then(s.1++[bO f.Blocks.length h p (EF p (Fb h h.Then))],s.2) else
  (s.1++[bO f.Blocks.length h p (A3 (s.2.2+1))],Sc s.2 13 p.Bits 0 [(bA f h.At.toNat).End.Arg,EF p (Fb h h.Then),EF p (Fb h h.Else)])
def GX(f:Aa)(h:THammock):List Bb×Pt:=(bA f h.Join.toNat).Phis.foldl (XX f h) ([],cP f h)
theorem gp(f:Aa)(h:THammock)(s:List Bb×Pt)(p:Bb):(XX f h s p).1.length=s.1.length+1/\(XX f h s p).2.1.length<=s.2.1.length+1:=by
 unfold XX
 cases EF p _==EF p _<;>simp[Sc]
section
variable {f:Aa} {h:THammock} (H:Hm f h)
include H
theorem UY(hc:Wn f=true){i:Nat}(hi:i<f.Blocks.length){p:Bb}(hp:p∈(bA f i).Phis):p.From=PL f i/\p.From.Pairwise (·<·)/\p.From.length<=64/\p.Args.length=p.From.length/\∀ x∈p.From,Ay x f.Blocks.length:=by
 have hsh:=((G4  (l:=2) (by omega) (by omega)).1 (by simpa [Wn] using hc)).2.1;unfold Ep at hsh;rw[A9]at hsh;have hb:=zzL27.1 hsh.2 i (by simpa using hi);unfold On at hb;rw[A9]at hb;have hp2:=zzL27.1 hb.2 p hp;simp only[Jj,A9,Gj]at hp2;have e:p.From=PL f i:=hp2.1;refine⟨e,?_,by rw[e];exact mp H.R i,by grind,λx hx=>?_⟩
 ·rw[e];unfold PL;rw[BB (by rw[Nz];exact hi)];exact JQ _ _
 ·rw[e]at hx;obtain⟨q,rfl,hq,_⟩:=(Zf H.R hi).1 hx;exact Ax hq
theorem FC:h.Join.toNat<f.Blocks.length:=by have:=H.join.1;have:=H.join.2;omega
theorem Ry{i:Nat}(hi:i<f.Blocks.length):(bA f i).Phis.length<=512:=(H.R.ok.block _ (Ar   hi)).phis
theorem fy(s:List A6)(l x:Int):Fd x f h s l=some (Fb h x):=by
 unfold Fd Fb
 cases x==-1<;>rfl
theorem lT(b c v w:Int)(s:Pt)(hs:s.1.length<=1000000):Gn b c v w f h s.1 s.2=some (bif v==w then(v,f,h,s.1,s.2) else(A3 (s.2+1),f,h,(Sc s 13 b 0 [c,v,w]).1,(Sc s 13 b 0 [c,v,w]).2)):=by
 unfold Gn
 cases v==w with
 | true=>rfl
 | false=>rw[ AN _ _ _ _ _ _ _ hs];rfl
theorem vo(hc:Wn f=true):Ig (bA f h.At.toNat).End.Arg f h (cP f h).1 (cP f h).2=some ((GX f h).1,f,h,(GX f h).2.1,(GX f h).2.2):=by
 have hroom:(1000001:Nat)<=room:=by decide
 have hJ:=FC H;have hpl:=Ry H hJ;have hsl:=g6 H;unfold Ig;rw[fy H,A1,fy H,A1,Ac H.join];have key:=Ue (bA f h.Join.toNat).Phis (default:Bb) (λi t=>(t.1,(i:Int),f.Params,f.Ret,f.Blocks,h.At,h.Then,h.Else,h.Join,t.2.1,t.2.2)) (λi t=>t.1.length=i/\t.2.1.length<=4000+i) (XX f h)
  (λt=>(t.1,f.Params,f.Ret,f.Blocks,h.At,h.Then,h.Else,h.Join,t.2.1,t.2.2)) (Gq _ f h (Fb h h.Then) (Fb h h.Else)) (λi t hi hP=>by
   obtain⟨g1,g2⟩:=gp f h t ((bA f h.Join.toNat).Phis.getD i default);refine⟨?_,by omega,by omega⟩;obtain⟨p1,p2,p3,p4,p5⟩:=UY H hc hJ (Ar (d:=(default:Bb)) hi);unfold Gq;have eb:f.Blocks.getD h.Join.toNat default=bA f _:=rfl;simp only[eb,Er hi,Aj,Ac (Ax hi),A2,w1 (show i<4611686018427387904 by omega)]
   revert p1 p2 p3 p4 p5 g1
   generalize (bA f _).Phis.getD i default=p
   intro g1 p1 p2 p3 p4 p5;rw[wE p2 (by omega) p4 (by rw[p1];exact H.thenJ),A1,wE p2 (by omega) p4 (by rw[p1];exact H.elseJ),A1,lT H _ _ _ _ t.2 (by omega),A1];unfold XX;have hI:=λv=>jC  (h:=h) p2 (by omega) p4 p5 H.at_ (λhm=>H.atJ (p1▸hm)) v
   cases(EF p _==EF p _) with
   | true=>
    simp only[Aj];rw[hI,A1,Ah (by simp;omega)]
   | false=>
    simp only[Bi]
    rw[hI,A1,Ah (by simp;omega)]) (λt _=>by
   unfold Gq;have eb:f.Blocks.getD _ default=bA f h.Join.toNat:=rfl
   simp only[eb,Ir,Bi]) ([],cP f h) (by simp;omega)
 have k1:=key.1;rw[show([],(0:Int),f.Params,f.Ret,f.Blocks,h.At,h.Then,h.Else,h.Join,(cP f h).1,(cP f h).2)=([],((0:Nat):Int),f.Params,f.Ret,f.Blocks,h.At,h.Then,h.Else,h.Join,(cP f h).1,(cP f h).2) from rfl,k1]
 rfl
theorem MY(hc:Wn f=true):(GX f h).1.length=(bA f h.Join.toNat).Phis.length/\(GX f h).2.1.length<=4000+(bA f h.Join.toNat).Phis.length:=by
 have key:∀(l:List _) (s:List _×Pt),(l.foldl (XX f h) s).1.length=s.1.length+l.length/\(l.foldl (XX f h) s).2.1.length<=s.2.1.length+l.length:=λl=>by
  induction l with
  | nil =>  simp
  | cons p l ih=>
   intro s;obtain⟨g1,g2⟩:=gp f h s p;obtain⟨k1,k2⟩:=ih (XX f h s p);simp only[KV,AA];omega
 have hsl:=g6 H;obtain⟨k1,k2⟩:=key (bA f h.Join.toNat).Phis ([],cP f h);unfold GX;simp only[List.length_nil]at k1 k2;omega
end
theorem gH(n d:Int):(if n<d then d else n)=grow n d:=by
 unfold grow
 by_cases h:n<d<;>simp[h]
theorem tY(f:Aa)(h:Sm f):Nh f=some (FE f):=by
 have hf:=h.1
 have h1:∀(i:Nat),i<f.Blocks.length->∀ n ,Af (L8 f i) _=some ((f.Blocks.getD i _).Phis.foldl (λn p=>grow n p.Dst) n):=λi hi n=>by
  have hB:=hf.block _ (Ar (d:=default) hi);refine DI _ default _ _ (λs j hj=>?_) (λs=>?_) n
  ·unfold L8
   have hd:decide ((j:Int)<(f.Blocks.getD i default).Phis.length)=true:=by simpa using hj
   simp only[G1,hd,Aj,Ac (Ax hj),eg hj hB.1,gH]
  ·unfold L8
   simp
 have h2:∀(i:Nat),i<f.Blocks.length->∀ n ,Af (L9 f i) _=some ((f.Blocks.getD i _).Ops.foldl (λn p=>grow n p.Dst) n):=λi hi n=>by
  have hB:=hf.block _ (Ar (d:=default) hi);refine DI _ default _ _ (λs j hj=>?_) (λs=>?_) n
  ·unfold L9
   have hd:decide (j<((f.Blocks.getD i default).Ops.length:Int))=true:=by simpa using hj
   simp only[G1,hd,Aj,Ac (Ax hj),eg hj hB.2.1,gH]
  ·unfold L9
   simp
 unfold Nh FE
 rw[DI f.Blocks default (λn b=>b.Ops.foldl (λn o=>grow n o.Dst) (b.Phis.foldl (λn p=>grow n p.Dst) n)) _ (λs i hi=>by
  unfold Px
  have hd:decide (i<(f.Blocks.length:Int))=true:=by simpa using hi
  simp only[hd,Aj,Ac (Ax hi),h1 i hi,h2 i hi,A1,eg hi hf.blocks]) (λs=>by unfold Px;simp)]
 rfl
def BX(h:THammock)(x:Nat):Bool:=((x:Int)!=h.Then)&&((x:Int)!=h.Else)
def EP(f:Aa)(h:THammock)(x:Nat):Ab:=
 bif (x:Int)==h.At then⟨(bA f h.At.toNat).Phis,(GX f h).2.1,⟨1,0,[h.Join]⟩⟩ else bif (x:Int)==h.Join then⟨(GX f h).1,(bA f h.Join.toNat).Ops,(bA f h.Join.toNat).End⟩ else bA f x
def DN(f:Aa)(h:THammock):Aa:=⟨f.Params,f.Ret,((List.range f.Blocks.length).filter (BX h)).map λx=>jW h (EP f h x)⟩
theorem TZ{α β:Type}(c:α->Bool)(F:α->β):∀(l:List α) (s:List β),l.foldl (λs b=>bif c b then s++[F b] else s) s=s++(l.filter c).map F
 | [],s=>by simp
 | b::l,s=>by
  rw[KV,TZ c F l];cases h:c b<;>simp[h]
section
variable {f:Aa} {h:THammock} (H:Hm f h) (hc:Wn f=true)
include H hc
theorem QF{i:Nat}(hi:i<f.Blocks.length):(bA f i).End.To.length<=2/\∀ x∈(bA f i).End.To,0<=x/\x<1000000:=by
 have hsh:=((G4  (l:=2) (by omega) (by omega)).1 (by simpa [Wn] using hc)).2.1;unfold Ep at hsh;rw[A9]at hsh;have h3:=(shape_iff.1 hsh.1).2 i hi
 constructor
 ·unfold Of OG at h3;simp only[A9,Gj]at h3;have h4:((bA f i).End.To.length:Nat)=GJ (bA f i).End.Kind:=h3.1.2
  have h5:∀ k ,([0,1,2,0]:List Int).getD k 0<=2:=λk=>by
   match k with
   | 0=>decide
   | 1=>decide
   | 2=>decide
   | 3=>decide
   | k+4=>simp
  have h5:GJ (bA f i).End.Kind<=2:=h5 _;omega
 ·intro x hx;obtain⟨k,hk,rfl⟩:=Lm hx;have h4:=H.R.to i hi k hk;unfold Fj at h4;rw[Ai _ _ _ hk]at h4;have:=H.R.hi;omega
theorem dp{p:Bb}(v:Int):(bO f.Blocks.length h p v).From.length<=64/\∀ x∈(bO f.Blocks.length h p v).From,0<=x/\x<1000000:=by
 have hn:=H.R.hi
 show(Yh _ h p).length<=64/\∀ x∈Yh _ h p,_
 unfold Yh
 constructor
 ·grind
 ·grind
theorem uL:∀ p∈(GX f h).1,p.From.length<=64/\∀ x∈p.From,0<=x/\x<1000000:=by
 have key:∀(l:List _) (s:List _×Pt),(∀ p∈s.1,p.From.length<=64/\∀ x∈p.From,0<=x/\x<1000000)->∀ p∈(l.foldl (XX f h) s).1,p.From.length<=64/\∀ x∈p.From,0<=x/\x<1000000:=λl=>by
  induction l with
  | nil=>intro s hs;exact hs
  | cons q l ih=>
   intro s hs;refine ih _ λp hp=>?_;unfold XX at hp
   cases hb:EF q _==EF q _ with
   | true=>
    rw[hb]at hp;rcases zzL13.1 hp with h1|h1
    ·exact hs p h1
    ·rw[zzL17.1 h1];exact dp H hc _
   | false=>
    rw[hb]at hp;rcases zzL13.1 hp with h1|h1
    ·exact hs p h1
    ·rw[zzL17.1 h1];exact dp H hc _
 exact key _ _ (λp hp=>by cases hp)
theorem da{x:Nat}(hx:x<f.Blocks.length):rX (EP f h x):=by
 have hJ:=FC H
 have hA:h.At.toNat<f.Blocks.length:=by  have:=H.at_.2;omega
 have hn:=H.R.hi
 have ph:∀ i,i<f.Blocks.length->(bA f i).Phis.length<=100000/\∀ p∈(bA f i).Phis,p.From.length<=100000/\∀ x∈p.From,0<=x/\x<1000000:=λi hi=>⟨by have:=Ry H hi;omega,λp hp=>by
  obtain⟨_,_,p3,_,p5⟩:=UY H hc hi hp
  exact⟨by omega,λx hx=>by have:=p5 x hx;exact⟨this.1,by have:=this.2;omega⟩⟩⟩
 unfold EP
 cases x==h.At with
 | true=>
  rw[Aj]
  exact⟨(ph _ hA).1,(ph _ hA).2,by simp,λy hy=>by
   simp only[zzL17]at hy
   have:=H.join.1; omega⟩
 | false=>
  rw[Bi]
  cases x==h.Join with
  | true=>
   obtain⟨t1,t2⟩:=QF H hc hJ;exact⟨by have:=(MY H hc).1;have:=Ry H hJ;show(GX f h).1.length<=_;omega,λp hp=>by obtain⟨g1,g2⟩:=uL H hc p hp;exact⟨by omega,g2⟩,by grind,t2⟩
  | false=>
   rw[Bi];obtain⟨t1,t2⟩:=QF H hc hx;exact⟨(ph _ hx).1,(ph _ hx).2,by omega,t2⟩
theorem qz{x:Nat}:((f.Blocks.set h.Join.toNat ⟨(GX f h).1,(f.Blocks.getD h.Join.toNat default).Ops,⟨(f.Blocks.getD h.Join.toNat default).End.Kind,(f.Blocks.getD h.Join.toNat default).End.Arg,(f.Blocks.getD h.Join.toNat default).End.To⟩⟩).set h.At.toNat ⟨(f.Blocks.getD h.At.toNat default).Phis,(GX f h).2.1,⟨1,0,[h.Join]⟩⟩).getD x default=EP f h x:=by
 have hJ:=FC H
 have hA:h.At.toNat<f.Blocks.length:=by  have:=H.at_.2;omega
 rw[Yi (by simpa using hA),Yi hJ];unfold EP;have a0:=H.at_.1;have j0:=H.join.1
 by_cases h1:x=h.At.toNat
 ·grind
 ·have e:(x==h.At)=false:=by simp;omega
  rw[if_neg h1,e]
  by_cases h2:x=h.Join.toNat
  ·have e:(x==h.Join)=true:=by simp;omega
   rw[if_pos h2,e];rfl
  ·grind
omit H hc in
theorem yz{n i:Nat}(hi:i<n):(List.range n).getD i 0=i:=by simp[hi]
theorem lW:Gp ⟨f,h,[],FE f⟩=some (DN f h,⟨f,h,(GX f h).2.1,(GX f h).2.2⟩):=by
 have hroom:1000001<=room:=by decide
 have hn:=H.R.hi;have hA :=H.at_;have hal:=dX H;unfold Gp Ec Cg;have eA:f.Blocks.getD h.At.toNat default=bA f _:=rfl;rw[Ac hA,eA,Ah (show[].length+(bA f _).Ops.length<=room by grind),A1,Wx];rw[  de H hc,A1];rw[vo H hc,A1];rw[Ah (show f.Blocks.length<=room by omega),A1,Ac H.join,Ac (by simpa using hA)];unfold Pz;have key:=Ue (List.range f.Blocks.length) _ (λi t=>((i:Int),t)) (λi t=>t.length<=i) (λt x=>bif BX h x then t++[jW h _] else t) id
  (E9 ⟨f,h,[],FE f⟩ ((GX f h).1,f,h,(GX f h).2.1,(GX f h).2.2) f.Blocks) (λi t hi hP=>by
   rw[Zy]at hi;rw[yz hi];unfold E9;simp only[Cp,Er hi, Ac (Ax hi),A2,qz H hc,pq (da H hc hi),A1,w1 (show i<4611686018427387904 by omega),MN];unfold BX
   cases((i !=h.Then)&&(i !=h.Else)) with
   | false=>grind
   | true=>
    rw[Ah (by simp;omega)]
    exact⟨rfl,by simp;omega⟩) (λt _=>by
   unfold E9;simp only[Cp,Zy,Ir]
   rfl) [] (by simp)
 have k1:=key.1;rw[TZ]at k1;rw[show(0,[])=(((0:Nat):Int),[]) from rfl,k1]
 rfl
end
def DL(f:Aa)(h:THammock):Aa×Int:=
 bif Sy f h then(bif decide (1023<(GX f h).2.2) || !Ox (DN f h) then(⟨[],0,[]⟩,4) else(DN f h,0)) else(⟨[],0,[]⟩,10)
def X7(o:A6):Prop:=o.Args.length<=1000000/\0<=o.Imm/\o.Imm<18446744073709551616
theorem AJ{s:Pt}(hs:∀ o∈s.1,X7 o){k b m:Int}{az:List Int}(hm:0<=m/\m<18446744073709551616)(ha:az.length<=1000000):∀ o∈(Sc s k b m az).1,X7 o:=λo ho=>by
 rcases zzL13.1 ho with h1|h1
 ·exact hs o h1
 ·rw[zzL17.1 h1];exact⟨ha,hm⟩
theorem qq{s:Pt}(hs:∀ o∈s.1,X7 o){o:A6}(ho:X7 o)(g:Int):∀ x∈(je g s o).1,X7 x:=λx hx=>by
 have h0:(0:Int)<=0/\(0:Int)<18446744073709551616:=by omega
 have hd:(o.Args.drop 1).length<=999999:=by have:=ho.1;simp;omega
 rcases zzL13.1 hx with h1|h1
 ·rcases grd_cases o g s with⟨_,e⟩|⟨_,e⟩|⟨_,e⟩|⟨_,e⟩|⟨_,e⟩<;>rw[e]at h1
  ·exact AJ hs h0 (by simp) x h1
  ·exact hs x h1
  ·exact AJ hs h0 (by simp) x h1
  ·exact AJ hs h0 (by simp) x h1
  ·exact hs x h1
 ·rw[zzL17.1 h1];rcases grd_cases o g s with⟨_,e⟩|⟨_,e⟩|⟨_,e⟩|⟨_,e⟩|⟨_,e⟩<;>rw[e]
  ·exact⟨by simp,ho.2⟩
  ·exact⟨by simp,ho.2⟩
  ·exact⟨by simp,ho.2⟩
  ·exact⟨by grind,ho.2⟩
  ·exact ho
theorem PY(g:Int):∀(ops:List A6) (s:Pt),(∀ o∈s.1,X7 o)->(∀ o∈ops,X7 o)->∀ x∈(GE ops g s).1,X7 x
 | [],s,hs,_=>hs
 | o::l,s,hs,ho=>PY g l _ (qq hs (ho o (zzL42 ..)) g) λx hx=>ho x (Jz _ hx)
section
variable {f:Aa} {h:THammock} (H:Hm f h) (hc:Wn f=true) (hf:iO f)
include H hc hf
theorem XW{i:Nat}(hi:i<f.Blocks.length):∀ o∈(bA f i).Ops,X7 o:=λo ho=>by
 have hm:bA f i∈f.Blocks:=Ar hi;have h1:=hf.op _ hm o ho;have h2:=gi H.R.ok hm ho;exact⟨by omega,h1.2⟩
theorem gj{x:Int}(hx:x = -1\/Ay x f.Blocks.length):∀ o∈Pp f x,X7 o:=λo ho=>by
 unfold Pp at ho;rcases hx with rfl|hx
 ·cases ho
 ·rw[show(x !=-1)=true by grind]at ho;exact XW H hc hf (by have:=hx.1;have:=hx.2;omega) o ho
theorem uJ:∀ o∈(GX f h).2.1,X7 o:=by
 have hA:h.At.toNat<f.Blocks.length:=by have:=H.at_.1;have:=H.at_.2;omega
 have h1:∀ o∈(sE f h).1,X7 o:=PY _ _ _ (XW H hc hf hA) (gj H hc hf H.sides.1)
 have h2:∀ o∈(gz f h).1,X7 o:=by
  unfold gz
  cases ZY _ with
  | false=>exact h1
  | true=>exact AJ (AJ h1 (by omega) (by simp)) (by omega) (by simp)
 have h3:∀ o∈(cP f h).1,X7 o:=PY _ _ _ h2 (gj H hc hf H.sides.2)
 have key:∀(l:List _) (s:List _×Pt),(∀ o∈s.2.1,X7 o)->∀ o∈(l.foldl (XX f h) s).2.1,X7 o:=λl=>by
  induction l with
  | nil=>intro s hs;exact hs
  | cons q l ih=>
   intro s hs;refine ih _ ?_;unfold XX
   cases EF q _==EF q _ with
   | true=>exact hs
   | false=>exact AJ hs (by omega) (by simp)
 exact key _ _ h3
theorem mo:∀ p∈(GX f h).1,p.Args.length<=64:=by
 have key:∀(l:List _) (s:List _×Pt),(∀ p∈s.1,p.Args.length<=64)->∀ p∈(l.foldl (XX f h) s).1,p.Args.length<=64:=λl=>by
  have hl:∀ q v,(bO _ h q v).Args.length<=64:=λq v=>by
   have:=(dp H hc (p:=q) v).1
   show((Yh _ h q).map _).length<=64
   rw[Ky];exact this
  induction l with
  | nil=>intro s hs;exact hs
  | cons q l ih=>
   intro s hs;refine ih _ λp hp=>?_;unfold XX at hp;cases hb:EF q _==EF q _<;>rw[hb]at hp<;>simp only[Aj,Bi]at hp
   all_goals
    grind
 exact key _ _ (λp hp=>by cases hp)
theorem mT:iO (DN f h):=by
 have hmx:(1000001:Nat)<=maxLen:=by decide
 have hn:=H.R.hi;have hJ:=FC H
 have hA:h.At.toNat<f.Blocks.length:=by have:=H.at_.1;have:=H.at_.2;omega
 have hb:∀ b∈(DN f h).Blocks,∃ x,x<f.Blocks.length/\b=jW h (EP f h x):=λb hb=>by
  obtain⟨x,hx,rfl⟩:=zzL20.1 hb;exact⟨x,by grind,rfl⟩
 refine⟨hf.params,?_,λb hb'=>?_,λb hb' p hp=>?_,λb hb' o ho=>?_⟩
 ·show(List.map _ _).length<=_
  rw[Ky];have:=List.length_filter_le (BX h) (List.range f.Blocks.length);rw[Zy]at this;omega
 ·obtain⟨x,hx,rfl⟩:=hb b hb';obtain⟨b1,_,b3,_⟩:=da H hc hx;refine⟨?_,?_,?_⟩
  ·show((EP f h x).Phis.map _).length<=_
   rw[Ky];omega
  ·unfold EP
   cases(x:Int)==h.At with
   | true=>
    have:=(MY H hc).2;have:=Ry H hJ
    show(GX f h).2.1.length<=_
    omega
   | false=>
    rw[Bi]
    cases(x:Int)==h.Join with
    | true =>  exact(hf.block _ (Ar hJ)).2.1
    | false=>exact(hf.block _ (Ar hx)).2.1
  ·show((EP f h x).End.To.map _).length<=_
   rw[Ky];omega
 ·obtain⟨x,hx,rfl⟩:=hb b hb';obtain⟨q,hq,rfl⟩:=zzL20.1 (hp);obtain⟨_,b2,_,_⟩:=da H hc hx;have h1:=(b2 q hq).1;refine⟨by show(q.From.map _).length<=_;rw[Ky];omega,?_⟩
  show q.Args.length<=_
  have ph:∀ i,i<f.Blocks.length->∀ q∈(bA f i).Phis,q.Args.length<=maxLen:=λi hi q hq=>(hf.phi _ (Ar hi) q hq).2
  revert hq
  unfold EP
  cases(x:Int)==h.At with
  | true=>exact λhq=>ph _ hA q hq
  | false=>
   rw[Bi]
   cases(x:Int)==h.Join with
   | true=>exact λhq=>by have:=mo H hc hf q hq;omega
   | false=>exact λhq=>ph _ hx q hq
 ·obtain⟨x,hx,rfl⟩:=hb b hb';have ho':o∈(EP f h x).Ops:=ho;have fin:X7 o->o.Args.length<=maxLen/\0<=o.Imm/\o.Imm<18446744073709551616:=λh1=>⟨by have:=h1.1;omega,h1.2⟩;refine fin ?_
  revert ho'
  unfold EP
  cases(x:Int)==h.At with
  | true=>exact λho'=>uJ H hc hf o ho'
  | false=>
   rw[Bi]
   cases(x:Int)==h.Join with
   | true=>exact λho'=>XW H hc hf hJ o ho'
   | false=>exact λho'=>XW H hc hf hx o ho'
end
theorem qO{f:Aa}(hs:Sm f)(h:THammock):G5 f h=some (DL f h):=by
 unfold G5 DL;rw[mK hs,A1]
 cases hm:Sy f h with
 | false=>rfl
 | true=>
  have hi :=by unfold Sy at hm;rw[A9]at hm;exact hm.1
  have hc :=by unfold Ub at hi;rw[A9]at hi;exact hi.1
  have H:=rz hs hi;rw[J1, tY f hs,A1,lW H hc,A1, wV _ (mT H hc hs.1)]
  cases decide (1023<(GX f h).2.2) with
  | true=>rfl
  | false=>
   grind
section
variable {f:Aa} {h:THammock} (H:Hm f h)
include H
end
structure sU(f:Aa):Prop where
 inf:iO f
 blocks:f.Blocks.length<=16
 params:f.Params.length<=64
 to:∀ b∈f.Blocks,b.End.To.length<=2
 phi:∀ b∈f.Blocks,∀ p∈b.Phis,p.From.length<=16/\p.Args.length<=16
 op:∀ b∈f.Blocks,∀ o∈b.Ops,o.Args.length<=16
 size:Qf f<=512
theorem XI{f:Aa}(h:sU f):Sm f:=by
 refine wS h.inf h.params (λb hb=>⟨by have:=h.to b hb;omega,λp hp=>by have:=h.phi b hb p hp;omega,λo ho=>by have:=h.op b hb o ho;omega⟩) ?_
 have hB:∀ b∈f.Blocks,SH b<=33*Zo b:=λb hb=>by
  have h1:(b.Phis.map bE).sum<=b.Phis.length*33:=YC _ _ _ λp hp=>by have:=h.phi b hb p hp;unfold bE;omega
  have h2:(b.Ops.map bD).sum<=b.Ops.length*33:=YC _ _ _ λo ho=>by have:=h.op b hb o ho;unfold bD;omega
  have h3:=h.to b hb;unfold SH Zo;omega
 have hS:∀ l:List _,(∀ b∈l,SH b<=33*Zo b)->(l.map SH).sum<=33*(l.map Zo).sum:=λl=>by
  induction l with
  | nil =>  simp
  | cons b l ih=>
   grind
 have h1:=hS _ hB;have h2:=h.size;have h3:=h.params;unfold Qf at h2;unfold dh;omega
theorem mU{k n:Int}(hn:n<=16):Rn k n<=16:=by
 unfold Rn
 cases k==0<;>cases(k==13 || k==18 || k==19)<;>cases(k==14 || k==15 || k==16 || k==22)<;>cases k==20<;>cases k==21<;>simp only[Aj,Bi]<;>omega
theorem mO{o:A6}(h:Iu o=true):o.Args.length<=16:=by
 simp only[Iu,A9,zzL56]at h;have h2:=mU (k:=o.Kind) (n:=o.Lanes) (by rcases shape_lanes h.1.1 with e|e|e|e|e<;>omega);omega
theorem t7{f:Aa}(hs:Sm f)(h16:Ox f=true->f.Blocks.length<=16)(hc:Wn f=true):sU f:=by
 have hz:=(G4 (f:=f) (l:=2) (by omega) (by omega)).1 (by simpa [Wn] using hc);have R:=VF hs (by simpa [Wn] using hc);have hn:=h16 hz.1;obtain⟨sm,hsm,hp⟩:=KP f hs.1;rw[hs.2]at hsm;obtain⟨_,hsz,_⟩:=hp (OI hsm).symm hz.1
 have hi:∀ b∈f.Blocks,∃ i,i<f.Blocks.length/\bA f i=b:=λb hb=>by
  obtain⟨i,hi,he⟩:=Lm hb;exact⟨i,hi,by grind⟩
 have hsh:=hz.2.1;unfold Ep at hsh;rw[A9]at hsh;refine⟨hs.1,hn,by have:=R.ok.few;omega,λb hb=>?_,λb hb p hp=>?_,λb hb o ho=>mO (cZ hz.2.2.1 hb ho),hsz⟩
 ·obtain⟨i,hi',rfl⟩:=hi b hb;have h3:=(shape_iff.1 hsh.1).2 i hi';unfold Of OG at h3;simp only[A9,Gj]at h3;have h4:(((bA f i).End.To.length:Nat):Int)=GJ (bA f i).End.Kind:=h3.1.2
  have h5:∀ k:Nat,([0,1,2,0]:List Int).getD k 0<=2:=λk=>by
   grind
  have h5:GJ (bA f i).End.Kind<=2:=h5 _;omega
 ·obtain⟨i,hi',rfl⟩:=hi b hb;have hb2:=zzL27.1 hsh.2 i (by simpa using hi');unfold On at hb2;rw[A9]at hb2;have hp2:=zzL27.1 hb2.2 p hp;simp only[Jj,A9,Gj,zzL56]at hp2;have e :=hp2.1
  have hl:(PL f i).length<=f.Blocks.length:=by
   unfold PL;rw[BB (by rw[Nz];exact hi')];unfold Lu;rw[Ky];have:=List.length_filter_le (λk=>EZ (Da f) k i) (List.range (Da f).length);rw[Zy]at this;rw[Nz]at this ⊢;exact this
  have h2:(p.Args.length:Int)=((PL f i).length:Int):=hp2.2;rw[e];omega
section
variable {f:Aa} {h:THammock} (H:Hm f h) (hc:Wn f=true) (hN:sU f)
include H hc hN
theorem IK(g:Int):∀(ops:List A6) (s:Pt),(∀ o∈s.1,o.Args.length<=16)->(∀ o∈ops,o.Args.length<=16)->∀ x∈(GE ops g s).1,x.Args.length<=16
 | [],s,hs,_=>hs
 | o::l,s,hs,ho=>IK g l _ (λx hx=>by
   have h0:=ho o (zzL42 ..)
   have ha:∀ k b m az,az.length<=16->∀ y∈(Sc s k b m az).1,y.Args.length<=16:=λk b m az hz y hy=>by
    rcases zzL13.1 hy with h1|h1
    ·exact hs y h1
    ·grind
   rcases zzL13.1 hx with h1|h1
   ·rcases grd_cases o g s with⟨_,e⟩|⟨_,e⟩|⟨_,e⟩|⟨_,e⟩|⟨_,e⟩<;>rw[e]at h1
    ·grind
    ·exact hs x h1
    ·grind
    ·grind
    ·exact hs x h1
   ·rw[zzL17.1 h1];rcases grd_cases o g s with⟨_,e⟩|⟨_,e⟩|⟨_,e⟩|⟨_,e⟩|⟨_,e⟩<;>rw[e]
    ·simp
    ·simp
    ·simp
    ·grind
    ·exact h0) λx hx=>ho x (Jz _ hx)
theorem mn:∀ o∈(GX f h).2.1,o.Args.length<=16:=by
 have hA:h.At.toNat<f.Blocks.length:=by have:=H.at_.1;have:=H.at_.2;omega
 have hb:∀ i,i<f.Blocks.length->∀ o∈(bA f i).Ops,o.Args.length<=16:=λi hi o ho=>hN.op _ (Ar hi) o ho
 have hX:∀ x:Int,(x = -1\/Ay x f.Blocks.length)->∀ o∈Pp f x,o.Args.length<=16:=λx hx o ho=>by
  unfold Pp at ho;rcases hx with rfl|hx
  ·cases ho
  ·rw[show(x !=-1)=true by grind]at ho;exact hb _ (by  have:=hx.2;omega) o ho
 have ha:∀(s:Pt),(∀ o∈s.1,o.Args.length<=16)->∀ k b m az,az.length<=16->∀ y∈(Sc s k b m az).1,y.Args.length<=16:=λs hs k b m az hz y hy=>by
  rcases zzL13.1 hy with h1|h1
  ·exact hs y h1
  ·grind
 have h1:∀ o∈(sE f h).1,o.Args.length<=16:=IK H hc hN _ _ _ (hb _ hA) (hX _ H.sides.1)
 have h2:∀ o∈(gz f h).1,o.Args.length<=16:=by
  unfold gz
  cases ZY (Pp f h.Else) with
  | false=>exact h1
  | true=>grind
 have h3:∀ o∈(cP f h).1,o.Args.length<=16:=IK H hc hN _ _ _ h2 (hX _ H.sides.2)
 have key:∀(l:List Bb) (s:List Bb×Pt),(∀ o∈s.2.1,o.Args.length<=16)->∀ o∈(l.foldl (XX f h) s).2.1,o.Args.length<=16:=λl=>by
  induction l with
  | nil=>intro s hs;exact hs
  | cons q l ih=>
   intro s hs;refine ih _ ?_;unfold XX
   cases EF q (Fb h h.Then)==EF q (Fb h h.Else) with
   | true=>exact hs
   | false=>grind
 exact key _ _ h3
theorem tq{p:Bb}(v:Int):(bO f.Blocks.length h p v).From.length<=16/\(bO f.Blocks.length h p v).Args.length<=16:=by
 have hn:=hN.blocks
 have:(Yh f.Blocks.length h p).length<=16:=by
  unfold Yh;rw[Ky];have:=List.length_filter_le (gV h p) (List.range f.Blocks.length);rw[Zy]at this;omega
 exact⟨this,by show(List.map _ _).length<=16;rw[Ky];exact this⟩
theorem uK:∀ p∈(GX f h).1,p.From.length<=16/\p.Args.length<=16:=by
 have key:∀(l:List _) (s:List _×Pt),(∀ p∈s.1,p.From.length<=16/\p.Args.length<=16)->∀ p∈(l.foldl (XX f h) s).1,p.From.length<=16/\p.Args.length<=16:=λl=>by
  induction l with
  | nil=>intro s hs;exact hs
  | cons q l ih=>
   intro s hs;refine ih _ λp hp=>?_;unfold XX at hp;cases hb:EF q _==EF q _<;>rw[hb]at hp<;>simp only[Aj,Bi]at hp
   all_goals
    rcases zzL13.1 hp with h1|h1
    ·exact hs p h1
    ·rw[zzL17.1 h1];exact tq H hc hN _
 exact key _ _ (λp hp=>by cases hp)
theorem qY{b:Ab}(hb:b∈(DN f h).Blocks):∃ x,x<f.Blocks.length/\BX h x=true/\b=jW h (EP f h x):=by
 obtain⟨x,hx,rfl⟩:=zzL20.1 hb;exact⟨x,by grind,(zzL110.1 hx).2,rfl⟩
theorem gZ:(DN f h).Blocks.length<f.Blocks.length:=by
 show(List.map _ _).length<_
 rw[Ky]
 obtain⟨x,hx,hk⟩:∃ x,x<f.Blocks.length/\BX h x=false:=by
  rcases H.one with e|e
  ·have q:=H.sides.1.resolve_left e;refine⟨h.Then.toNat,by have:=q.1;have:=q.2;omega,?_⟩;unfold BX;rw[M1 q.1];simp
  ·have q:=H.sides.2.resolve_left e;refine⟨h.Else.toNat,by have:=q.1;have:=q.2;omega,?_⟩;unfold BX;rw[M1 q.1];simp
 have h1:(List.filter (BX h) _).length≠(List.range _).length:=λe=>by
  have:=List.length_filter_eq_length_iff.1 e x (by simpa using hx);rw[hk]at this;cases this
 have h2:=List.length_filter_le (BX h) (List.range f.Blocks.length);rw[Zy]at h1 h2;omega
theorem qZ(hm:Ox (DN f h)=true):sU (DN f h):=by
 have hJ:=FC H
 have hA:h.At.toNat<f.Blocks.length:=by have:=H.at_.1;have:=H.at_.2;omega
 have hin:=mT H hc hN.inf;have hlen:=gZ H hc hN;have hbl:=hN.blocks
 have hblk:∀ b∈(DN f h).Blocks,b.End.To.length<=2/\(∀ p∈b.Phis,p.From.length<=16/\p.Args.length<=16)/\(∀ o∈b.Ops,o.Args.length<=16)/\b.Phis.length<=512/\b.Ops.length<=5000:=λb hb=>by
  obtain⟨x,hx,_,rfl⟩:=qY H hc hN hb
  have ph:∀ i,i<f.Blocks.length->∀ p∈((bA f i).Phis.map (mS h)),p.From.length<=16/\p.Args.length<=16:=λi hi p hp=>by
   obtain⟨q,hq,rfl⟩:=zzL20.1 hp;have:=hN.phi _ (Ar hi) q hq;exact⟨by show(q.From.map _).length<=16;rw[Ky];exact this.1,this.2⟩
  have pl:∀ i,i<f.Blocks.length->((bA f i).Phis.map (mS h)).length<=512:=λi hi=>by rw[Ky];exact Ry H hi
  have ol:∀ i,i<f.Blocks.length->(bA f i).Ops.length<=5000:=λi hi=>by have:=(H.R.ok.block _ (Ar (l:=f.Blocks) (d:=default) hi)).ops;exact N4 this (by omega)
  have tl:∀ i,i<f.Blocks.length->((bA f i).End.To.map (US h)).length<=2:=λi hi=>by rw[Ky];exact(QF H hc hi).1
  unfold jW EP
  cases(x:Int)==h.At with
  | true=>
   refine⟨by simp,ph _ hA,mn H hc hN,pl _ hA,?_⟩;have:=(MY H hc).2;have:=Ry H hJ
   show(GX f h).2.1.length<=_
   omega
  | false=>
   rw[Bi]
   cases(x:Int)==h.Join with
   | true=>
    refine⟨tl _ hJ,λp hp=>?_,λo ho=>hN.op _ (Ar hJ) o ho,?_,ol _ hJ⟩
    ·obtain⟨q,hq,rfl⟩:=zzL20.1 hp;have:=uK H hc hN q hq;exact⟨by show(q.From.map _).length<=16;rw[Ky];exact this.1,this.2⟩
    ·show((GX f h).1.map (mS h)).length<=512
     rw[Ky,(MY H hc).1];exact Ry H hJ
   | false=>exact⟨tl _ hx,ph _ hx,λo ho=>hN.op _ (Ar hx) o ho,pl _ hx,ol _ hx⟩
 refine⟨hin,by omega,hN.params,λb hb=>(hblk b hb).1,λb hb=>(hblk b hb).2.1,λb hb=>(hblk b hb).2.2.1,?_⟩
 have hs:Qf (DN f h)<=(DN f h).Blocks.length*6000:=YC _ _ _ λb hb=>by
  obtain⟨_,_,_,h1,h2⟩:=hblk b hb;unfold Zo;omega
 unfold Ox at hm;simp only[A9,Gj]at hm;have h5:=hm.1.2;unfold sizeW at h5;rw[GI (by omega)]at h5;omega
end
def b8(f:Aa)(most:Int)(h:THammock):Option Aa:=bif decide (most<((MC f h).length:Int)) then none else bif (DL f h).2==0 then some (DL f h).1 else none
def N2(f:Aa)(most:Int):Option Aa:=(allHR f).findSome? (b8 f most)
def LI:Nat->Aa->Int->Aa
 | 0,f,_=>f
 | n+1,f,most=>match N2 f most with|some g=>LI n g most|none=>f
theorem qk{f:Aa}{most:Int}{h:THammock}{g:Aa}(hh:b8 f most h=some g):g=DN f h/\Sy f h=true/\Ox g=true/\(GX f h).2.2<=1023/\((MC f h).length:Int)<=most:=by
 unfold b8 DL at hh
 cases hd:decide (most<(MC f h).length) with
 | true=>rw[hd]at hh;cases hh
 | false=>
  grind
theorem rA{f:Aa}{most:Int}{g:Aa}(hh:N2 f most=some g):∃ h,h∈allHR f/\b8 f most h=some g:=by
 obtain⟨h,h1,h2⟩:=List.exists_of_findSome?_eq_some hh;exact⟨h,h1,h2⟩
theorem QA{f:Aa}(hN:sU f){most:Int}{g:Aa}(hh:N2 f most=some g):∃ h,Hm f h/\Wn f=true/\Ub f h=true/\g=DN f h/\sU g/\g.Blocks.length<f.Blocks.length:=by
 obtain⟨h,h1,h2⟩:=rA hh;have hi:=isHR_mem.2 h1
 have hc :=by unfold Ub at hi;rw[A9]at hi;exact hi.1
 have H:=rz (XI hN) hi;obtain⟨e,_,hm,_⟩:=qk h2;subst e;exact⟨h,H,hc,hi,rfl,qZ H hc hN hm,gZ H hc hN⟩
theorem d6{α β X:Type}(l:List α)(d:α)(q:α->Option β)(out:β->X)(no:X)(f:Int->Option (LR Int X))(hn:∀ i,i<l.length->q (l.getD i d)=none->f (i:Int)=some (.next (((i+1:Nat):Int))))
  (hf:∀ i,i<l.length->∀ b,q (l.getD i d)=some b->f (i:Int)=some (.done (out b))) (he:f (l.length:Int)=some (.done no)):Af f (0:Int)=some (match l.findSome? q with|some b=>out b|none=>no):=by
 have key:∀ k i ,i+k=l.length->Af f i=some (match(l.drop i).findSome? q with|some b=>out b|none=>no):=by
  intro k
  induction k with
  | zero=>
   intro i h
   obtain rfl:i=l.length:=by omega
   rw[Am he];simp
  | succ k ih=>
   intro i h
   have hi:i<l.length:=by omega
   have hdr:l.drop i=l.getD i d::l.drop (i+1):=by simp_all
   rw[hdr,List.findSome?_cons]
   cases hq:q _ with
   | some b=>rw[Am (hf i hi b hq)]
   | none=>rw[Ap (hn i hi hq),ih _ (by omega)]
 have:=key l.length 0 (by omega)
 simpa using this
theorem lZ{f:Aa}(hs:Sm f)(most:Int):Af (Ge f most (allHR f)) (0:Int)=some (match N2 f most with|some g=>.inr (g.Params,g.Ret,g.Blocks)|none=>.inl ()):=by
 have hl :=g7 hs
 have hk:∀ i,i<(allHR f).length->Ge f _ (allHR f) i=(match b8 f _ _ with|some g=>some (.done (.inr (g.Params,g.Ret,g.Blocks)))|none=>some _):=λi hi=>by
  have hiv:=isHR_mem.2 (Ar (d:=default) hi);unfold Ge b8;simp only[Er hi,Aj,Ac (Ax hi),A2,tu hs,hiv, A1,qO hs,w1 (show i<4611686018427387904 by omega)]
  cases decide (most<((MC f _).length:Int)) with
  | true=>rfl
  | false=>
   grind
 have:=d6  _ _ (b8 f _) _ (.inl ()) (Ge f _ _) (λi hi hq=>by rw[hk i hi,hq]) (λi hi b hq=>by rw[hk i hi,hq]) (by unfold Ge;simp only[Ir,Bi]);rw[this];unfold N2
 cases List.findSome? _ _<;>rfl
theorem nB{f:Aa}(hc:Wn f=false)(most:Int):N2 f most=none:=by
 unfold N2 allHR;rw[hc];rfl
theorem vn{f:Aa}(hs:Sm f)(h16:Ox f=true->f.Blocks.length<=16)(most:Int):Ja f most=some (LI f.Blocks.length f most):=by
 have hL2:∀ g ,Wi _ _ _ _ (allHR g)=Ge g most _:=λg=>rfl
 have hF:∀ g ,Sm g->Mg _ (g.Params,g.Ret,g.Blocks)=(match N2 g _ with|some g'=>some _|none=>some _):=λg hg=>by
  unfold Mg
  dsimp only
  rw[OQ hg,A1,hL2,lZ hg]
  cases N2 g _<;>rfl
 have key:∀(n:Nat) (g:Aa),sU g->g.Blocks.length<=n->Af (Mg most) (g.Params,g.Ret,g.Blocks)=some (LI n g most):=by
  intro n
  induction n with
  | zero=>
   intro g hg hn
   have:N2 g most=none:=by
    cases h:N2 g _ with
    | none=>rfl
    | some g'=>obtain⟨_,_,_,_,_,_,h2⟩:=QA hg h;omega
   rw[Am  (by rw[hF g (XI hg),this])]
   rfl
  | succ n ih=>
   intro g hg hn;unfold LI
   cases h:N2 g _ with
   | none=>rw[Am  (by rw[hF g (XI hg),h])]
   | some g'=>
    obtain⟨_,_,_,_,_,h1,h2⟩:=QA hg h;rw[Ap  (by rw[hF g (XI hg),h]),ih g' h1 (by omega)]
 unfold Ja;rw[OQ hs,A1,lZ hs]
 cases h:N2 f _ with
 | none=>
  have:LI f.Blocks.length f most=f:=by
   cases f.Blocks.length with
   | zero=>rfl
   | succ n=>unfold LI;rw[h]
  rw[this];rfl
 | some g=>
  have hc:Wn f=true:=by
   cases hc:Wn f with
   | true=>rfl
   | false=>rw[nB hc]at h;cases h
  have hN:=t7 hs h16 hc;obtain⟨_,_,_,_,_,h1,h2⟩:=QA hN h
  show(Af _ _).bind _=_
  have e:LI f.Blocks.length f most=LI (f.Blocks.length-1) g most:=by
   obtain⟨n,hn⟩:∃ n,f.Blocks.length=n+1:=⟨f.Blocks.length-1,by omega⟩;rw[hn]
   show(match N2 f _ with|some g=>LI n g _|none=>f)=_
   rw[h];rfl
  rw[key (f.Blocks.length-1) g h1 (by omega),e]
  rfl
noncomputable section
theorem jN:m_locksteplaw15_awake=some true:=by kernel_rfl
def fC(x y:Int):Aa:=⟨[1],8,[⟨[],[],⟨2,1,[1,2]⟩⟩,⟨[],[⟨0,8,1,2,[],x⟩],⟨1,0,[3]⟩⟩,⟨[],[⟨0,8,1,3,[],y⟩],⟨1,0,[3]⟩⟩,⟨[⟨8,4,[1,2],[2,3]⟩],[],⟨0,4,[]⟩⟩]⟩
variable {x y:Int}
theorem FO{d:Int}(hx:0<=x/\x<256)(hd:DY d=true):Iu ⟨0,8,1,d,[],x⟩=true:=by
 have:(x % 256==x)=true:=by rw[zzL56];omega
 show(true&&(true&&true&&(x % 256==x)&&true)&&(true&&DY d))=true
 rw[this,hd];rfl
def X0(x y:Int):Aa:=⟨[1],8,[⟨[],[⟨0,8,1,2,[],x⟩,⟨0,8,1,3,[],y⟩,⟨13,8,1,5,[1,2,3],0⟩],⟨1,0,[1]⟩⟩,⟨[⟨8,4,[0],[5]⟩],[],⟨0,4,[]⟩⟩]⟩
theorem q8(hx:0<=x/\x<256)(hy:0<=y/\y<256):Sm (fC x y):=by
 refine⟨?_,?_⟩
 ·refine⟨by rw[Jq];show(1:Nat)<=_;omega,by rw[Jq];show(4:Nat)<=_;omega,λb hb=>?_,λb hb=>?_,λb hb=>?_⟩<;>simp only[fC,zzL26,List.not_mem_nil,or_false]at hb<;>rcases hb with rfl|rfl|rfl|rfl<;>simp[Jq]<;>omega
 ·exact(show Bx (fC x y)=Bx (fC 0 0) by kernel_rfl).trans (by kernel_rfl)
theorem uO(hx:0<=x/\x<256)(hy:0<=y/\y<256):Sm (X0 x y):=by
 refine⟨?_,?_⟩
 ·refine⟨by rw[Jq];show(1:Nat)<=_;omega,by rw[Jq];show(2:Nat)<=_;omega,λb hb=>?_,λb hb=>?_,λb hb=>?_⟩<;>simp only[X0,zzL26,List.not_mem_nil,or_false]at hb<;>rcases hb with rfl|rfl<;>simp[Jq]<;>omega
 ·exact(show Bx (X0 x y)=Bx (X0 0 0) by kernel_rfl).trans (by kernel_rfl)
theorem z_:0<=(0:Int)/\(0:Int)<256:=by omega
theorem yl:G3 (fC 0 0) 2=0:=OI ((ER _ 2 (q8 z_ z_)).symm.trans (by kernel_rfl))
theorem ym:G3 (X0 0 0) 2=0:=OI ((ER _ 2 (uO z_ z_)).symm.trans (by kernel_rfl))
theorem ZV{f:Aa}(h:Wn f=true):allHR f=DB f:=by unfold allHR;rw[h];rfl
theorem h0:DB (fC x y)=[⟨0,1,2,3⟩]:=(show DB (fC x y)=DB (fC 0 0) by kernel_rfl).trans ((ZV (by unfold Wn;rw[yl];rfl)).symm.trans (OI ((OQ (q8 z_ z_)).symm.trans (by kernel_rfl))))
theorem hG:DB (X0 x y)=[]:=(show DB (X0 x y)=DB (X0 0 0) by kernel_rfl).trans ((ZV (by unfold Wn;rw[ym];rfl)).symm.trans (OI ((OQ (uO z_ z_)).symm.trans (by kernel_rfl))))
theorem S2{d:Int}(hx:0<=x/\x<256)(hd:DY d=true):Jf ⟨0,8,1,d,[],x⟩=[]:=by unfold Jf;rw[FO hx hd];rfl
section
variable (hx:0<=x/\x<256) (hy:0<=y/\y<256)
include hx hy
theorem uC:Wn (fC x y)=true:=by
 have a:=FO (d:=2) hx rfl;have b:=FO (d:=3) hy rfl;have a0:=FO (d:=2) z_ rfl;have b0:=FO (d:=3) z_ rfl;have c:=S2 (d:=2) hx rfl;have d:=S2 (d:=3) hy rfl;have c0:=S2 (d:=2) z_ rfl;have d0:=S2 (d:=3) z_ rfl;obtain⟨h1,h2,h3,h4⟩:=(G4 (by omega) (by omega)).1 yl
 have e1:D6 (fC x y)=D6 (fC 0 0):=by simp[D6,Rd,T8,ET,NV,fC,Oo,CL,a,b,a0,b0]
 have e2:Gi (fC x y)=Gi (fC 0 0):=by simp[Gi,KR,S4,DX,Qw,V5,fC,Oo,CL,c,d,c0,d0]
 have e3:N3 (fC x y) 2=N3 (fC 0 0) 2:=by simp[N3,Iz,Pd,fC,a,b,a0,b0]
 have e4:Es (fC x y)=Es (fC 0 0):=by kernel_rfl
 have:G3 (fC x y) 2=0:=(G4 (by omega) (by omega)).2 ⟨(show Ox (fC x y)=Ox (fC 0 0) by kernel_rfl).trans h1,(show Ep (fC x y)=Ep (fC 0 0) by kernel_rfl).trans h2,e3.trans h3,by unfold gt at h4 ⊢;rw[e1,e2,e4];exact h4⟩;unfold Wn;rw[this];rfl
theorem uD:Wn (X0 x y)=true:=by
 have a:=FO (d:=2) hx rfl;have b:=FO (d:=3) hy rfl;have a0:=FO (d:=2) z_ rfl;have b0:=FO (d:=3) z_ rfl;have c:=S2 (d:=2) hx rfl;have d:=S2 (d:=3) hy rfl;have c0:=S2 (d:=2) z_ rfl;have d0:=S2 (d:=3) z_ rfl;obtain⟨h1,h2,h3,h4⟩:=(G4 (by omega) (by omega)).1 ym
 have e1:D6 (X0 x y)=D6 (X0 0 0):=by simp[D6,Rd,T8,ET,NV,X0,Oo,CL,a,b,a0,b0]
 have e2:Gi (X0 x y)=Gi (X0 0 0):=by simp[Gi,KR,S4,DX,Qw,V5,X0,Oo,CL,c,d,c0,d0]
 have e3:N3 (X0 x y) 2=N3 (X0 0 0) 2:=by simp[N3,Iz,Pd,X0,a,b,a0,b0]
 have e4:Es (X0 x y)=Es (X0 0 0):=by kernel_rfl
 have:G3 (X0 x y) 2=0:=(G4 (by omega) (by omega)).2 ⟨(show Ox (X0 x y)=Ox (X0 0 0) by kernel_rfl).trans h1,(show Ep (X0 x y)=Ep (X0 0 0) by kernel_rfl).trans h2,e3.trans h3,by unfold gt at h4 ⊢;rw[e1,e2,e4];exact h4⟩;unfold Wn;rw[this];rfl
theorem vk:Ja (fC x y) 2=some (X0 x y):=by
 have i1:Ub (fC x y) ⟨0,1,2,3⟩=true:=isHR_mem.2 (by rw[ZV (uC hx hy),h0];simp)
 have m0:DN (fC x y) ⟨0,1,2,3⟩=X0 x y:=by kernel_rfl
 have y1:Ox (X0 x y)=true:=qf (uD hx hy);rw[vn (q8 hx hy) (λ_=>by show(4:Nat)<=16;omega)]
 have s1:N2 (fC x y) 2=some (X0 x y):=by
  have hm:Sy (fC x y) ⟨0,1,2,3⟩=true:=by unfold Sy;rw[i1];rfl
  have p0:(GX (fC x y) ⟨0,1,2,3⟩).2.2=5:=by kernel_rfl
  have h2:DL (fC x y) ⟨0,1,2,3⟩=(X0 x y,0):=by unfold DL;rw[hm,p0,m0,y1];rfl
  unfold N2;rw[ZV (uC hx hy),h0,List.findSome?_cons];unfold b8;rw[h2];rfl
 have s2:N2 (X0 x y) 2=none:=by
  unfold N2;rw[ZV (uD hx hy),hG];rfl
 have e:∀ n f,LI (n+1) f 2=match N2 f 2 with|some g=>LI n g 2|none=>f:=λ_ _=>rfl
 rw[show(fC x y).Blocks.length=3+1 from rfl,e,s1]
 show some (LI (2+1) (X0 x y) 2)=_
 rw[e,s2]
end
theorem wN{a:Int}{b:Bool}(ha:a=bif b then 1 else 0)(hc:Fo (fC x y) 2=some 0):Mo (fC x y) [a] 9 [] []=some (⟨0,bif b then x else y,4⟩,0,[],[]):=by
 unfold Mo;rw[hc]
 cases b<;>subst ha<;>kernel_rfl
theorem wO{a:Int}{b:Bool}(ha:a=bif b then 1 else 0)(hc:Fo (X0 x y) 2=some 0):Mo (X0 x y) [a] 9 [] []=some (⟨0,bif b then x else y,5⟩,0,[],[]):=by
 unfold Mo;rw[hc]
 cases b<;>subst ha<;>kernel_rfl
theorem wH:HM ([]:List Int)=some ((true,⟨[],[]⟩),0):=by kernel_rfl
theorem chooses15(a0:Bool)(a1:Int×Int)(h:okA2U8 a1):D3 a0 a1=some true:=by
 obtain⟨x,y⟩:=a1
 have hx:0<=x/\x<256:=by have:(decide ((0:Int)<=x)&&decide (x<=255))=true:=h.1;simp at this;omega
 have hy:0<=y/\y<256:=by have:(decide ((0:Int)<=y)&&decide (y<=255))=true:=h.2;simp at this;omega
 have ex:Du x=x:=GK hx.1 (by omega);have ey:Du y=y:=GK hy.1 (by omega)
 have k1:Fo (fC x y) 2=some 0:=by rw[ER _ 2 (q8 hx hy)];have:=uC hx hy;unfold Wn at this;exact Bn some (eq_of_beq this)
 have k2:Fo (X0 x y) 2=some 0:=by rw[ER _ 2 (uO hx hy)];have:=uD hx hy;unfold Wn at this;exact Bn some (eq_of_beq this)
 have h1:=vk hx hy;have r1:=wN (b:=a0) rfl k1;have r2:=wO (b:=a0) rfl k2;unfold fC at h1 r1;unfold D3;simp only[ex,ey];rw[jN,A1,show(!true)=false from rfl,Bi,h1,A1,wH,A1]
 cases a0<;>simp only[Aj,Bi,A1]at r1 r2 ⊢<;>rw[show(((X0 x y).Blocks.length:Int)!=2)=false from rfl,Bi,r1,A1]<;>dsimp only<;>rw[Ac rfl,r2,A1]<;>dsimp only<;>rw[Ac rfl]<;>simp
end
end
end Go.Proofs.YtlnbjgmjaioagaaGreat
