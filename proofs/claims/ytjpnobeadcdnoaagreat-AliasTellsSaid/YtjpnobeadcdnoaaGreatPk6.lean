/-
  The machine, the program's functions and the laws' arithmetic: part 6 of 6.
-/
import Derived.Test.YtjpnobeadcdnoaaGreatPk5
set_option linter.unusedSectionVars false
set_option linter.defProp false
set_option linter.unusedVariables false
set_option linter.unusedSimpArgs false
namespace Go.Proofs.YtjpnobeadcdnoaaGreat
noncomputable section
open Go Go.RowKit
theorem uI{α:Type}(l:List α)(g:α->Nat):(l.map λa=>g a+1).sum=l.length+(l.map g).sum:=by
 induction l with
 | nil=>rfl
 | cons a l ih=>grind
theorem qL(a b:Int):w64 (a+w64 b)=w64 (a+b):=by rw[Int.add_comm,IV,Int.add_comm]
theorem zJ(f:TFunc)(hf:fA f):Va f=some (sizeW f):=by
 have hl:=JY f.Blocks default (λb=>b.Phis.length+b.Ops.length) id (Qd f) (λn i hi=>?_) (λn=>?_) _ 0 f.Blocks.length (Ha _)
 ·unfold Va;rw[PH (by have:=hf.blocks;rw[Lq]at this;omega),show((0:Nat):Int)=0 from rfl]at hl;rw[hl,  sizeW,Vo,show NG=(λb=>(b.Phis.length+b.Ops.length)+1) from rfl,uI]
  rfl
 ·have e1:decide (i<(f.Blocks.length:Int))=true:=Bv (by omega);unfold Qd;simp only[e1,Ae,Ad (Ao hi),Ec,Lx hi hf.blocks,qL,IV];rw[show n+((f.Blocks.getD i default).Phis.length+(f.Blocks.getD i default).Ops.length)=((n+((f.Blocks.getD i default).Phis.length+(f.Blocks.getD i default).Ops.length):Nat):Int) by omega]
 ·have e1:decide (f.Blocks.length<(f.Blocks.length:Int))=false:=by simp
  unfold Qd;simp only[e1,An,id]
theorem GY{α:Type}(l:List α)(d:α)(p:α->Bool)(f:Int->Option (LR Int (Unit ⊕ Bool)))(hn:∀ i:Nat,i<l.length->f i=bif p (l.getD i d) then some (.next ((i:Int)+1)) else some (.done (.inr false)))
  (he:f l.length=some (.done (.inl ()))):Ab f 0=some (bif l.all p then .inl () else .inr false):=by
 have:=Hj l d p f _ _ (λi hi hp=>by rw[hn i hi,hp];rfl) (λi hi hp=>by rw[hn i hi,hp];rfl) he _ 0 (Ha _)
 simpa using this
theorem lj(x:Int):(bif decide (x<0) then true else decide (2147483647<x)) = !numB x:=by
 unfold numB
 by_cases h1:x<0
 ·grind
 ·grind
theorem YL(l:List Int)(h:l.length<=maxLen):Eh l=some (l.all numB):=by
 have hl:=GY l 0 numB (Ko l) (λi hi=>?_) ?_
 ·unfold Eh;rw[hl]
  cases l.all _<;>rfl
 ·have e1:decide ((i:Int)<l.length)=true:=Bv (by omega);unfold Ko;simp only[e1, Ad (Ao hi),Ec,lj,Lx hi h]
  cases numB _<;>simp
 ·unfold Ko
  simp
theorem DS(l:List Int)(h:l.length<=maxLen):Iy l=some (listB l):=by
 unfold Iy;rw[YL l h]
 by_cases h1:l.length<=64
 ·have e1:decide ((l.length:Int)<=64)=true:=Bv (by omega);rw[e1];simp[listB,h1]
 ·have e1:decide ((l.length:Int)<=64)=false:=B7 (by omega);rw[e1];simp[listB,h1]
theorem DQ{l:List Int}(h:l.length<=10):l.length<=maxLen:=by rw[Lq];omega
theorem qR(p:Ic)(h1:p.From.length<=maxLen)(h2:p.Args.length<=maxLen):Qf p=some (IB p):=by
 unfold Qf IB;rw[YL _ (DQ (by simp)),DS _ h1,DS _ h2];simp only[FC,List.all_nil,LN]
 cases numB p.Bits<;>cases numB p.Dst<;>cases listB p.From<;>cases listB p.Args<;>rfl
theorem uS(o:Ce)(h1:o.Args.length<=maxLen):Sb o=some (gf o):=by
 unfold Sb gf;rw[YL _ (DQ (by simp)),DS _ h1];simp only[FC,List.all_nil,LN]
 cases numB o.Kind<;>cases numB o.Bits<;>cases numB o.Lanes<;>cases numB o.Dst<;>cases listB o.Args<;>rfl
theorem qP(e:M0)(h1:e.To.length<=maxLen):Qe e=some (fw e):=by
 unfold Qe fw;rw[YL _ (DQ (by simp)),DS _ h1];simp only[FC,List.all_nil,LN]
 cases numB e.Kind<;>cases numB e.Arg<;>cases listB e.To<;>rfl
theorem RH{X:Type}(b:Bool)(x y:X):(bif !b then x else y)=bif b then y else x:=by cases b<;>rfl
theorem mQ(l:List Ic)(hl:l.length<=maxLen)(h:∀ p∈l,p.From.length<=maxLen/\p.Args.length<=maxLen):Jy l=some (l.all IB):=by
 have hl':=GY l (default:Ic) IB (H1 l) (λi hi=>?_) ?_
 ·unfold Jy;rw[hl']
  cases l.all IB<;>rfl
 ·have e1:decide ((i:Int)<(l.length:Int))=true:=Bv (by omega);have:=h _ (getD_mem (d:=(default:Ic)) hi);unfold H1;simp only[e1,Ae,Ad (Ao hi),Ec,qR _ this.1 this.2,Ai,RH,Lx hi hl,Int.natCast_add,Int.natCast_one]
 ·unfold H1
  simp
theorem qQ(l:List Ce)(hl:l.length<=maxLen)(h:∀ o∈l,o.Args.length<=maxLen):Kn l=some (l.all gf):=by
 have hl':=GY l (default:Ce) gf (Im l) (λi hi=>?_) ?_
 ·unfold Kn;rw[hl']
  cases l.all gf<;>rfl
 ·have e1:decide ((i:Int)<(l.length:Int))=true:=Bv (by omega);have:=h _ (getD_mem (d:=(default:Ce)) hi);unfold Im;simp only[e1,Ae,Ad (Ao hi),Ec,uS _ this,Ai,RH,Lx hi hl,Int.natCast_add,Int.natCast_one]
 ·unfold Im
  simp
theorem iB(b:Am)(h1:b.Phis.length<=maxLen)(h2:b.Ops.length<=maxLen)(h3:b.End.To.length<=maxLen)(h4:∀ p∈b.Phis,p.From.length<=maxLen/\p.Args.length<=maxLen)(h5:∀ o∈b.Ops,o.Args.length<=maxLen):N8 b=some (blockB b):=by
 unfold N8 blockB;rw[mQ _ h1 h4,qQ _ h2 h5,qP _ h3]
 cases b.Phis.all IB<;>cases b.Ops.all gf<;>cases fw b.End<;>rfl
theorem eX(f:TFunc)(hf:fA f):Il f.Blocks=some (f.Blocks.all blockB):=by
 have hl':=GY f.Blocks (default:Am) blockB (Gq f.Blocks) (λi hi=>?_) ?_
 ·unfold Il;rw[hl']
  cases f.Blocks.all blockB<;>rfl
 ·have e1:decide ((i:Int)<(f.Blocks.length:Int))=true:=Bv (by omega);have hm:=getD_mem (d:=(default:Am)) hi;have q:=hf.block _ hm;unfold Gq;simp only[e1,Ae,Ad (Ao hi),Ec,iB _ q.1 q.2.1 q.2.2 (hf.phi _ hm) (λo ho=>(hf.op _ hm o ho).1),Ai,RH,Lx hi hf.blocks,Int.natCast_add,Int.natCast_one]
 ·unfold Gq
  simp
theorem Aap(f:TFunc)(hf:fA f):Xu f=some (V1 f):=by
 unfold Xu V1;rw[zJ f hf,YL _ hf.params,YL _ (DQ (by simp)),eX f hf];simp only[FC,List.all_nil,LN,listB]
 have d1:∀ n:Nat,decide ((n:Int)<1) = !decide (1<=n):=λn=>by by_cases h:1<=n<;>simp[h]<;>omega
 have d2:∀ n:Nat,decide ((64:Int)<(n:Int)) = !decide (n<=64):=λn=>by by_cases h:n<=64<;>simp[h]<;>omega
 have d3:∀ n:Nat,decide ((16:Int)<(n:Int)) = !decide (n<=16):=λn=>by by_cases h:n<=16<;>simp[h]<;>omega
 have d4:∀ n:Int,decide ((512:Int)<n) = !decide (n<=512):=λn=>by by_cases h:n<=512<;>simp[h]<;>omega
 simp only[d1,d2,d3,d4]
 have himp:decide (f.Params.length<=16)=true->decide (f.Params.length<=64)=true:=λh=>by simp at h ⊢;omega
 revert himp
 generalize decide (1<=f.Blocks.length)=c1
 generalize decide (f.Blocks.length<=64)=c2
 generalize decide (f.Params.length<=16)=c3
 generalize decide (f.Params.length<=64)=c4
 generalize f.Params.all numB=c6
 generalize numB f.Ret=c7
 generalize f.Blocks.all blockB=c8
 cases c3 with
 | true=>
  intro h;obtain rfl:=h rfl;simp only[E7,Vp,Ae,Ai,An]
  generalize decide (sizeW f<=512)=c5
  cases c1<;>cases c2<;>cases c6<;>cases c7<;>cases c8<;>cases c5<;>rfl
 | false=>
  intro _
  cases c1<;>cases c2<;>rfl
inductive Tp (t:List Int):Nat->Nat->Nat->Prop
 | top {x:Nat} (hx:x<t.length) (h:t.getD x 0 = -1):Tp t x x 0
 | up {x y r k:Nat} (hx:x<t.length) (h:t.getD x 0=(y:Int)) (hk:Tp t y r k):Tp t x r (k+1)
section
variable {t:List Int}
theorem Tp.lt{x r k:Nat}(h:Tp t x r k):x<t.length:=by cases h<;>assumption
theorem Tp.tops{x r k:Nat}(h:Tp t x r k):r<t.length/\t.getD r 0 = -1:=by
 induction h with
 | top hx h=>exact⟨hx,h⟩
 | up _ _ _ ih=>exact ih
theorem Tp.det{x r k r' k':Nat}(h:Tp t x r k)(h':Tp t x r' k'):r=r'/\k=k':=by
 induction h generalizing k' with
 | top hx h=>cases h' with
  | top=>exact⟨rfl,rfl⟩
  | up _ h2 _=>omega
 | up hx h1 _ ih=>cases h' with
  | top _ h2=>omega
  | up _ h2 k2=>
   grind
theorem Tp.upTo{x r k:Nat}(h:Tp t x r k):UpTo (B3 t) x r:=by
 induction h with
 | top=>exact .refl _
 | up _ h _ ih=>exact .up h ih
theorem Tp.on{x r k z:Nat}(h:Tp t x r k)(hz:UpTo (B3 t) x z):∃ j,j<=k/\Tp t z r j/\(j=k->z=x):=by
 induction hz generalizing k with
 | refl x=>grind
 | up hp _ ih=>
  cases h with
  | top _ h2=>have :=hp.symm.trans h2;omega
  | up _ h2 k2=>
   have :=hp.symm.trans h2
   cases LM this
   obtain⟨j,h1,h3,_⟩:=ih k2;exact⟨j,by omega,h3,λe=>by omega⟩
theorem Tp.anti{x r k z:Nat}(h:Tp t x r k)(h1:UpTo (B3 t) x z)(h2:UpTo (B3 t) z x):z=x:=by
 obtain⟨j,j1,j2,j3⟩:=h.on h1;obtain⟨i,i1,i2,i3⟩:=j2.on h2;have:=h.det i2;exact j3 (by omega)
theorem Tp.list{x r k:Nat}(h:Tp t x r k):∃ l:List Nat,l.length=k+1/\l.Nodup/\∀ y∈l,y<t.length/\∃ j,j<=k/\Tp t y r j:=by
 induction h with
 | top hx h=>exact⟨[_],rfl,by simp,λy hy=>by rw[zzL24.1 hy];exact⟨hx,0,zzL7 _,.top hx h⟩⟩
 | @up x y r k hx h hk ih=>
  obtain⟨l,h1,h2,h3⟩:=ih;refine⟨x::l,by simp[h1],zzL81.2 ⟨λhm=>?_,h2⟩,λz hz=>?_⟩
  ·obtain⟨_,j,hj,hj2⟩:=h3 _ hm;have:=(Tp.up hx h hk).det hj2;omega
  ·rcases zzL28.1 hz with rfl|hz
   ·exact⟨hx,k+1,zzL7 _,.up hx h hk⟩
   ·grind
theorem Tp.short{x r k:Nat}(h:Tp t x r k):k<t.length:=by
 obtain⟨l,h1,h2,h3⟩:=h.list;have:=T3 _ l h2 λy hy=>(h3 y hy).1;omega
theorem Tp.upD{x r k:Nat}(h:Tp t x r k):∀ m,k<m->∃ q,upD t m (x:Int)=some q/\(∀ w:Int,w∈q↔∃ z:Nat,w=(z:Int)/\UpTo (B3 t) x z) /\
  ∀ p:Int->Bool,(q.find? p=none/\∀ z:Nat,UpTo (B3 t) x z->p (z:Int)=false)\/∃ f:Nat,q.find? p=some (f:Int)/\UpTo (B3 t) x f/\p (f:Int)=true/\∀ z:Nat,UpTo (B3 t) x z->p (z:Int)=true->UpTo (B3 t) f z:=by
 induction h with
 | @top x hx h=>
  intro m hm;obtain⟨m,rfl⟩:∃ i,m=i+1:=⟨m-1,by omega⟩
  have htop:∀ z,UpTo (B3 t) x z↔z=x:=λz=>OO λp hp=>by have:_=_:=hp.symm.trans h;omega
  unfold Go.Proofs.YtjpnobeadcdnoaaGreat.upD;rw[if_pos ⟨by omega,by omega⟩,Ap,if_pos h];refine⟨_,rfl,λw=>?_,λp=>?_⟩
  ·grind
  ·grind
 | @up x y r k hx h hk ih=>
  intro m hm;obtain⟨m,rfl⟩:∃ i,m=i+1:=⟨m-1,by omega⟩;unfold Go.Proofs.YtjpnobeadcdnoaaGreat.upD;rw[if_pos ⟨by omega,by omega⟩,Ap,if_neg (by omega),h];obtain⟨q,hq1,hq2,hq3⟩:=ih m (by omega);rw[hq1];refine⟨(x:Int)::q,rfl,λw=>?_,λp=>?_⟩
  ·rw[zzL28,hq2 w]
   constructor
   ·rintro(rfl|⟨y,rfl,hy⟩)
    ·exact⟨x,rfl,.refl _⟩
    ·exact⟨y,rfl,.up h hy⟩
   ·rintro⟨y,rfl,hy⟩;rcases(anc_up h).1 hy with rfl|hy
    ·exact .inl rfl
    ·exact .inr ⟨y,rfl,hy⟩
  ·cases hpp:p (x:Int) with
   | true=>exact .inr ⟨x,by simp[List.find?,hpp],.refl _,hpp,λy hy _=>hy⟩
   | false=>
    have hf:((x:Int)::q).find? p=q.find? p:=by simp[List.find?,hpp]
    rw[hf];rcases hq3 p with⟨e1,e2⟩|⟨f,e1,e2,e3,e4⟩
    ·refine .inl ⟨e1,λy hy=>?_⟩;rcases(anc_up h).1 hy with rfl|hy
     ·exact hpp
     ·exact e2 y hy
    ·refine .inr ⟨f,e1,.up h e2,e3,λy hy hpy=>?_⟩;rcases(anc_up h).1 hy with rfl|hy
     ·rw[hpp]at hpy;cases hpy
     ·exact e4 y hy hpy
theorem wx:∀ m (a:Int) q,upD t m a=some q->∃ x r k:Nat,a=(x:Int)/\k<m/\Tp t x r k:=by
 intro m
 induction m with
 | zero=>intro a q h;cases h
 | succ m ih=>
  intro a q h;unfold Go.Proofs.YtjpnobeadcdnoaaGreat.upD at h
  by_cases ha:0<=a/\a<t.length
  ·rw[if_pos ha]at h;have e :=CN ha.1
   by_cases h1:t.getD a.toNat 0 = -1
   ·exact⟨a.toNat,a.toNat,0,e.symm,by omega,.top (by omega) h1⟩
   ·rw[if_neg h1]at h
    cases hu:Go.Proofs.YtjpnobeadcdnoaaGreat.upD t m _ with
    | none=>rw[hu]at h;cases h
    | some q'=>
     obtain⟨y,r,k,e1,e2,e3⟩:=ih _ _ hu;exact⟨a.toNat,r,k+1,e.symm,by omega,.up (by omega) e1 e3⟩
  ·grind
theorem pathD_tp{a:Int}:Dl t a≠[]↔∃ x r k:Nat,a=(x:Int)/\Tp t x r k:=by
 constructor
 ·intro h
  cases hu:upD t _ a with
  | none=>exact absurd (pathD_nil.2 hu) h
  | some q=>obtain⟨x,r,k,e1,_,e2⟩:=wx _ _ _ hu;exact⟨x,r,k,e1,e2⟩
 ·rintro⟨x,r,k,rfl,h⟩ e;obtain⟨q,hq,_⟩:=h.upD _ h.short;rw[pathD_nil.1 e]at hq;cases hq
theorem Tp.path{x r k:Nat}(h:Tp t x r k):(∀ w:Int,w∈Dl t (x:Int)↔∃ z:Nat,w=(z:Int)/\UpTo (B3 t) x z) /\
  ∀ p:Int->Bool,((Dl t (x:Int)).find? p=none/\∀ z:Nat,UpTo (B3 t) x z->p (z:Int)=false)\/∃ f:Nat,(Dl t (x:Int)).find? p=some (f:Int)/\UpTo (B3 t) x f/\p (f:Int)=true/\∀ z:Nat,UpTo (B3 t) x z->p (z:Int)=true->UpTo (B3 t) f z:=by
 obtain⟨q,h1,h2,h3⟩:=h.upD _ h.short
 have e:Dl t x=q:=by unfold Dl;rw[h1];rfl
 rw[e];exact⟨h2,h3⟩
theorem QM{α:Type}{l:List α}{i j:Nat}{x d:α}(hi:i<l.length):(l.set i x).getD j d=if j=i then x else l.getD j d:=by
 grind
theorem tJ{x r k:Nat}(h:Tp t x r k):∀ l:List Bool,l.length=t.length->∃ l',Ab (K5 t) ((x:Int),l)=some l'/\l'.length=t.length/\∀ z,z<t.length->(l'.getD z false=true↔l.getD z false=true\/UpTo (B3 t) x z):=by
 induction h with
 | @top x hx h=>
  intro l hl
  have hs:K5 t (x,l)=some (.next (-1,l.set x true)):=by
   unfold K5
   have hb:((x:Int)!=-1)=true:=by rw[zzL75];omega
   simp only[hb,Ae,Ap,h];rw[Aa (Eo (by omega)),Aa (Eo hx)]
  have hd:K5 t (-1,l.set x true)=some (.done (l.set x true)):=by
   rfl
  refine⟨l.set x _,by rw[Aq hs,Ah hd],by simp[hl],λz hz=>?_⟩;rw[QM (by omega)]
  have htop:UpTo (B3 t) x z↔z=x:=OO λp hp=>by have :=hp.symm.trans h;omega
  rw[htop]
  by_cases e:z=x
  ·simp[e]
  ·simp[e]
 | @up x y r k hx h hk ih=>
  intro l hl
  have hs:K5 t (x,l)=some (.next (y,l.set x true)):=by
   unfold K5
   have hb:(x !=(-1:Int))=true:=by rw[zzL75];omega
   simp only[hb,Ae,Ap,h];rw[Aa (Eo (by omega)),Aa (Eo hx)]
  obtain⟨l',e1,e2,e3⟩:=ih (l.set x _) (by simp[hl]);refine⟨l',by rw[Aq hs,e1],e2,λz hz=>?_⟩;rw[e3 z hz,QM (by omega),anc_up (par:=B3 t) h]
  by_cases e:z=x
  ·simp[e]
  ·simp[e]
theorem tK{b r k:Nat}(h:Tp t b r k)(l:List Bool)(hl:l.length=t.length):l.getD r false=true->∃ c:Nat,Ab (Je t l) (b:Int)=some (c:Int)/\UpTo (B3 t) b c/\l.getD c false=true/\∀ z,UpTo (B3 t) b z->l.getD z false=true->UpTo (B3 t) c z:=by
 induction h with
 | @top x hx h=>
  intro hr
  have hd:Je t l x=some (.done x):=by
   unfold Je;rw[Aa (Eo (by omega)),Ap,hr]
   rfl
  exact⟨x,Ah hd,.refl _,hr,λz hz _=>hz⟩
 | @up x y r k hx h hk ih=>
  intro hr
  cases hx2:l.getD x _ with
  | true=>
   have hd:Je t l x=some (.done x):=by
    unfold Je;rw[Aa (Eo (by omega)),Ap,hx2]
    rfl
   exact⟨x,Ah hd,.refl _,hx2,λz hz _=>hz⟩
  | false=>
   have hs:Je t l x=some (.next y):=by
    unfold Je;rw[Aa (Eo (by omega)),Ap,hx2,Mr,Ae,Aa (Eo hx),h]
   obtain⟨c,e1,e2,e3,e4⟩:=ih hr;refine⟨c,by rw[Aq hs,e1],.up h e2,e3,λz hz hlz=>?_⟩;rcases(anc_up  h).1 hz with rfl|hz
   ·grind
   ·exact e4 z hz hlz
theorem MS(ht:t.length<=1000){a b r k m:Nat}(ha:Tp t a r k)(hb:Tp t b r m):∃ c:Nat,Rp t (a:Int) (b:Int)=some (c:Int)/\MeetAt (B3 t) a b c:=by
 unfold Rp
 have hroom:1000<=room:=by decide
 rw[Aa ⟨by omega,by omega,by omega⟩,Ap];obtain⟨l',h1,h2,h3⟩:=tJ ha (List.replicate t.length _) (by simp);rw[h1,Ai]
 have h3':∀ z,z<t.length->(l'.getD z false=true↔UpTo (B3 t) a z):=λz hz=>by grind
 obtain⟨c,e1,e2,e3,e4⟩:=tK hb l' h2 ((h3' r ha.tops.1).2 ha.upTo)
 have hc:c<t.length:=by grind
 refine⟨c,by rw[e1];rfl,λw=>⟨λhw=>⟨((h3' c hc).1 e3).trans hw,e2.trans hw⟩,λ⟨hw1,hw2⟩=>?_⟩⟩;obtain⟨j,_,hj,_⟩:=ha.on hw1;exact e4 w hw2 ((h3' w hj.lt).2 hw1)
theorem pI(hR:M6 t=true){a b r k m:Nat}(ha:Tp t a r k)(hb:Tp t b r m):∃ c:Nat,Qn t (a:Int) (b:Int)=(c:Int)/\MeetAt (B3 t) a b c:=by
 unfold Qn;rw[if_pos hR]
 have hcon:∀ z:Nat,(Dl t b).contains z=true↔UpTo (B3 t) b z:=λz=>by
  rw[zzL80,hb.path.1]
  constructor
  ·grind
  ·grind
 rcases ha.path.2 (λx=>(Dl t _).contains x) with⟨e1,e2⟩|⟨f,e1,e2,e3,e4⟩
 ·have:=e2 r ha.upTo;rw[(hcon r).2 hb.upTo]at this
  cases this
 ·exact⟨f,by rw[e1];rfl,λw=>⟨λhw=>⟨e2.trans hw,((hcon f).1 e3).trans hw⟩,λ⟨hw1,hw2⟩=>e4 w hw1 ((hcon w).2 hw2)⟩⟩
theorem MeetAt.same{a b r k c d:Nat}(ha:Tp t a r k)(hc:MeetAt (B3 t) a b c)(hd:MeetAt (B3 t) a b d):c=d:=by
 obtain⟨j,_,hj,_⟩:=ha.on ((hc c).1 (.refl _)).1;exact(hj.anti ((hc d).2 ((hd d).1 (.refl _))) ((hd c).2 ((hc c).1 (.refl _)))).symm
end
theorem m_index(t:List Int)(v:Int)(ht:t.length<=1000):(∃ r:Nat,r<t.length/\t.getD r 0=v/\(∀ i,i<r->t.getD i 0≠v)/\G1 t v=some (r:Int))\/((∀ i,i<t.length->t.getD i 0≠v)/\G1 t v=some (-1)):=by
 have key:∀ k i:Nat,i+k=t.length->(∀ j,j<i->t.getD j 0≠v)->
   (∃ r:Nat,r<t.length/\t.getD r 0=v/\(∀ i,i<r->t.getD i 0≠v)/\Ab (Cx t v) (i:Int)=some (.inr (r:Int)))\/((∀ i,i<t.length->t.getD i 0≠v)/\Ab (Cx t v) (i:Int)=some (.inl ())):=by
  intro k
  induction k with
  | zero=>
   intro i hi hj
   obtain rfl:i=t.length:=by omega
   refine .inr ⟨hj,Ah ?_⟩;unfold Cx;rw[Ei];rfl
  | succ k ih=>
   intro i hi hj
   by_cases e:v=t.getD i 0
   ·refine .inl ⟨i,by omega,e.symm,hj,Ah ?_⟩;unfold Cx;have hb:((v:Int)==t.getD i 0)=true:=zzL61.2 e;simp only[Cr (show i<t.length by omega),Ae,Ap,hb];rw[Aa (Eo (by omega))]
   ·have hs:Cx t v (i:Int)=some (.next ((i+1:Nat):Int)):=by
     unfold Cx;have hb:((v:Int)==t.getD i 0)=false:=zzL17.2 e;simp only[Cr (show i<t.length by omega),Ae,Ap,hb,An];rw[Aa (Eo (by omega)),w1 (by omega)]
    rw[Aq hs]
    exact ih (i+1) (by omega) λj hj2=>by
     by_cases ej:j=i
     ·subst ej;exact λh=>e h.symm
     ·exact hj j (by omega)
 have h0:=key t.length 0 (by omega) (λj hj=>absurd hj (Us _));unfold G1;rcases h0 with⟨r,h1,h2,h3,h4⟩|⟨h1,h2⟩
 ·exact .inl ⟨r,h1,h2,h3,by rw[show((0:Int))=((0:Nat):Int) from rfl,h4];rfl⟩
 ·exact .inr ⟨h1,by rw[show((0:Int))=((0:Nat):Int) from rfl,h2];rfl⟩
section
variable {t:List Int}
structure ED(t:List Int)(r f:Nat)(w:List Int):Prop where
 len:w.length=t.length
 old:∀ y,y<t.length->w.getD y 0≠0->(w.getD y 0<=(f:Int))/\∃ k,Tp t y r k
structure nT(t:List Int)(r f x:Nat)(w:List Int):Prop where
 len:w.length=t.length
 hx:x<t.length
 old:∀ y,y<t.length->w.getD y 0≠0->w.getD y 0<=(f:Int)/\(∃ k,Tp t y r k)\/w.getD y 0=((f+1:Nat):Int)/\∀ r' k,Tp t x r' k->∃ j,k<j/\Tp t y r' j
 fwd:∀ r' k,Tp t x r' k->∃ j,k<=j/\Tp t f r' j
 back:∀ r' k,Tp t f r' k->∃ j,Tp t x r' j
def YN(w:List Int):Nat:=w.countP λz=>z==0
theorem mV{w:List Int}{x:Nat}{v:Int}(hx:x<w.length)(h0:w.getD x 0=0)(hv:v≠0):YN (w.set x v)<YN w:=by
 unfold YN;rw[List.countP_set hx];rw[Af _ _ _ hx]at h0;have hp:0<w.countP λz=>z==0:=List.countP_pos_iff.2 ⟨w[x],LI hx,by simp[h0]⟩;have hb :=zzL17.2 hv;simp only[h0,Vp,Lz,hb,IY,Hz];omega
theorem leads_loop(ht:t.length<=1000){r:Nat}(hr:r<t.length)(htop:t.getD r 0 = -1){f:Nat}(hf:f<t.length):∀(m x:Nat) (w:List Int),YN w<=m->nT t r f x w->
  (∃ w',Ab (D4 t (f:Int) (r:Int)) ((x:Int),w)=some (.inl w')/\ED t r (f+1) w'/\∃ k,Tp t f r k) \/
  ∃ b w',Ab (D4 t (f:Int) (r:Int)) ((x:Int),w)=some (.inr (b,w'))/\w'.length=t.length/\(b=true->ED t r (f+1) w'/\∃ k,Tp t f r k)/\(b=false->∀ k,¬ Tp t f r k):=by
 intro m
 induction m with
 | zero=>
  intro x w hz hw;exact go 0 (λx w hz=>absurd hz (Us _)) x w hz hw
 | succ m ih=>
  intro x w hz hw;exact go (m+1) (λx w hz=>ih x w (Nat.le_of_lt_succ hz)) x w hz hw
where
 go (m:Nat) (ih:∀(x:Nat) (w:List Int),YN w<m->nT t r f x w->
  (∃ w',Ab (D4 t (f:Int) (r:Int)) ((x:Int),w)=some (.inl w')/\ED t r (f+1) w'/\∃ k,Tp t f r k) \/
  ∃ b w',Ab (D4 t (f:Int) (r:Int)) ((x:Int),w)=some (.inr (b,w'))/\w'.length=t.length/\(b=true->ED t r (f+1) w'/\∃ k,Tp t f r k)/\(b=false->∀ k,¬ Tp t f r k)) (x:Nat) (w:List Int) (hz:YN w<=m) (hw:nT t r f x w) :
  (∃ w',Ab (D4 t (f:Int) (r:Int)) ((x:Int),w)=some (.inl w')/\ED t r (f+1) w'/\∃ k,Tp t f r k) \/
  ∃ b w',Ab (D4 t (f:Int) (r:Int)) ((x:Int),w)=some (.inr (b,w'))/\w'.length=t.length/\(b=true->ED t r (f+1) w'/\∃ k,Tp t f r k)/\(b=false->∀ k,¬ Tp t f r k):=by
  have hxl:=hw.hx
  have told:∀ k,Tp t x r k->ED t r (f+1) w/\∃ k,Tp t f r k:=λk hk=>by
   obtain⟨j,_,hj⟩:=hw.fwd _ _ hk;refine⟨⟨hw.len,λy hy hy0=>?_⟩,j,hj⟩;rcases hw.old y hy hy0 with⟨h1,h2⟩|⟨h1,h2⟩
   ·exact⟨by omega,h2⟩
   ·obtain⟨i,_,hi⟩:=h2 _ _ hk;exact⟨by omega,i,hi⟩
  by_cases hxr:x=r
  ·subst hxr;refine .inl ⟨w,Ah ?_,told 0 (.top hr htop)⟩;unfold D4
   have hb:((x:Int)!=(x:Int))=false:=by simp
   simp only[hb,An]
  ·have hb:((x:Int)!=(r:Int))=true:=by rw[zzL75];omega
   have hin:A5 (x:Int) w.length:=Eo (by rw[hw.len];exact hxl)
   by_cases hw0:w.getD x 0=0
   ·have hb0:((w.getD x 0:Int)!=0)=false:=by rw[hw0];rfl
    by_cases hpl:0<=t.getD x 0/\t.getD x 0<(t.length:Int)
    ·have hwf:w64 ((f:Int)+1)=((f+1:Nat):Int):=w1 (by omega)
     have hs:D4 t (f:Int) (r:Int) ((x:Int),w)=some (.next (t.getD x 0,w.set x ((f+1:Nat):Int))):=by
      unfold D4 Mx;simp only[hb,Ae,Ap,hb0,An];rw[Aa hin,Aa (Eo hxl),Bv hpl.1,Bv hpl.2,Ae,Ai,E7,An,Aa hin,Aa (Eo hxl),hwf]
     rw[Aq hs];obtain⟨y,hy⟩:∃ y:Nat,t.getD x 0=(y:Int):=⟨(t.getD x 0).toNat,(CN hpl.1).symm⟩;rw[hy]at hpl ⊢
     have hyl:y<t.length:=by omega
     have hst:∀ r' k,Tp t y r' k->Tp t x r' (k+1):=λr' k hk=>.up hxl hy hk
     have hset:∀ z,z<t.length->(w.set x ((f+1:Nat):Int)).getD z 0=if z=x then((f+1:Nat):Int) else w.getD z 0:=λz _=>QM (by rw[hw.len];exact hxl)
     have hW:nT t r f y (w.set x ((f+1:Nat):Int)):=by
      refine⟨by simp[hw.len],hyl,λz hzl hz0=>?_,λr' k hk=>?_,λr' k hk=>?_⟩
      ·rw[hset z hzl]at hz0 ⊢
       by_cases e:z=x
       ·subst e;rw[if_pos rfl];exact .inr ⟨rfl,λr' k hk=>⟨k+1,by omega,hst r' k hk⟩⟩
       ·rw[if_neg e]at hz0 ⊢;rcases hw.old z hzl hz0 with h1|⟨h1,h2⟩
        ·exact .inl h1
        ·refine .inr ⟨h1,λr' k hk=>?_⟩;obtain⟨j,hj1,hj2⟩:=h2 _ _ (hst r' k hk);exact⟨j,by omega,hj2⟩
      ·obtain⟨j,hj1,hj2⟩:=hw.fwd _ _ (hst r' k hk);exact⟨j,by omega,hj2⟩
      ·obtain⟨j,hj⟩:=hw.back _ _ hk
       cases hj with
       | top _ h2=>omega
       | up _ h2 h3=>
        have:=hy.symm.trans h2
        cases LM this
        exact⟨_,h3⟩
     have hzz:=mV (x:=x) (v:=((f+1:Nat):Int)) (by rw[hw.len];exact hxl) hw0 (by omega);exact ih y _ (by omega) hW
    ·refine .inr ⟨false,w,Ah ?_,hw.len,⟨λh=>(by cases h),λ_ k hk=>?_⟩⟩
     ·unfold D4 Mx;simp only[hb,Ae,Ap,hb0,An];rw[Aa hin,Aa (Eo hxl)]
      have:(bif decide ((0:Int)<=t.getD x 0) then decide (t.getD x 0<(t.length:Int)) else false)=false:=by
       cases h1:decide ((0:Int)<=t.getD x 0) with
       | false=>rfl
       | true=>rw[Ae];exact B7 λh2=>hpl ⟨EX h1,h2⟩
      rw[this,Ai]
      rfl
     ·obtain⟨j,hj⟩:=hw.back _ _ hk
      cases hj with
      | top=>exact hxr rfl
      | up _ h2 h3=>have:=h3.lt;exact hpl ⟨by omega,by omega⟩
   ·have hb0:((w.getD x 0:Int)!=0)=true:=by rw[zzL75];exact hw0
    have hwf:w64 ((f:Int)+1)=((f+1:Nat):Int):=w1 (by omega);refine .inr ⟨w.getD x 0 !=((f+1:Nat):Int),w,Ah ?_,hw.len,⟨λh=>?_,λh k hk=>?_⟩⟩
    ·unfold D4;simp only[hb,Ae,Ap,hb0];rw[Aa hin,Aa hin,hwf]
    ·rcases hw.old x hxl hw0 with⟨_,k,hk⟩|⟨h1,_⟩
     ·exact told k hk
     ·rw[h1]at h;simp at h
    ·have he:w.getD x 0=((f+1:Nat):Int):=by simpa using h
     obtain⟨j,hj⟩:=hw.back _ _ hk;rcases hw.old x hxl hw0 with⟨h1,_⟩|⟨_,h2⟩
     ·omega
     ·obtain⟨i,hi1,hi2⟩:=h2 _ _ hj;have:=hj.det hi2;omega
end
section
variable {t:List Int}
theorem s9(ht:t.length<=1000){r:Nat}(hr:r<t.length)(htop:t.getD r 0 = -1){f:Nat}(hf:f<t.length){w:List Int}(hw:ED t r f w) :
  ∃ b w',Vc t w (f:Int) (r:Int)=some (b,w')/\w'.length=t.length/\(b=true->ED t r (f+1) w'/\∃ k,Tp t f r k)/\(b=false->∀ k,¬ Tp t f r k):=by
 unfold Vc;have hW:nT t r f f w:=⟨hw.len,hf,λy hy h0=>.inl (hw.old y hy h0),λr' k hk=>⟨k,zzL7 _,hk⟩,λr' k hk=>⟨k,hk⟩⟩;rcases leads_loop ht hr htop hf _ f w (zzL7 _) hW with⟨w',e1,e2⟩|⟨b,w',e1,e2,e3,e4⟩
 ·exact⟨true,w',by rw[e1];rfl,e2.1.len,λ_=>e2,λh=>by cases h⟩
 ·grind
def WG(t:List Int)(r:Nat):Prop:=∀ f,f<t.length->t.getD f 0≠-2->∃ k,Tp t f r k
open Classical in
theorem dE(ht:t.length<=1000){r:Nat}(hr:r<t.length)(htop:t.getD r 0 = -1):∀(k f:Nat) (w:List Int),f+k=t.length->ED t r f w->(∀ y,y<f->t.getD y 0≠-2->∃ k,Tp t y r k)->
  Ab (G7 t (r:Int)) ((f:Int),w)=some (if WG t r then .inl () else .inr false):=by
 intro k
 induction k with
 | zero=>
  intro f w hk hw hd
  obtain rfl:f=t.length:=by omega
  apply Ah
  unfold G7;simp only[Ei,An];rw[if_pos (show WG t r from hd)]
 | succ k ih=>
  intro f w hk hw hd
  have hf:f<t.length:=by omega
  by_cases h2:t.getD f 0 = -2
  ·have hb:((t.getD f 0:Int)!=(-2))=false:=by rw[h2];rfl
   have hs:G7 t (r:Int) ((f:Int),w)=some (.next (((f+1:Nat):Int),w)):=by
    unfold G7;simp only[Cr hf,Ae,Ap,hb,show(false==true)=false from rfl,An,Ai];rw[Aa (Eo hf),Aa (λh=>by cases h),w1 (by omega)]
   rw[Aq hs];refine ih (f+1) w (by omega) ⟨hw.len,λy hy h0=>?_⟩ λy hy hy2=>?_
   ·obtain⟨e1,e2⟩:=hw.old y hy h0;exact⟨by omega,e2⟩
   ·by_cases e:y=f
    ·subst e;exact absurd h2 hy2
    ·exact hd y (by omega) hy2
  ·have hb:((t.getD f 0:Int)!=(-2))=true:=by rw[zzL75];exact h2
   obtain⟨b,w',e1,e2,e3,e4⟩:=s9 ht hr htop hf hw
   cases b with
   | false=>
    rw[if_neg (λhA:WG t r=>by obtain⟨k,hk⟩:=hA f hf h2;exact e4 rfl k hk)]
    apply Ah
    unfold G7;simp only[Cr hf,Ae,Ap,hb,show(true==true)=true from rfl,e1,Ai];rw[Aa (Eo hf),Aa (λ_=>by rw[hw.len,e2])]
    rfl
   | true=>
    have hs:G7 t (r:Int) ((f:Int),w)=some (.next (((f+1:Nat):Int),w')):=by
     unfold G7;simp only[Cr hf,Ae,Ap,hb,show(true==true)=true from rfl,e1,Ai];rw[Aa (Eo hf),Aa (λ_=>by rw[hw.len,e2]),w1 (by omega)]
     rfl
    rw[Aq hs];obtain⟨e5,e6⟩:=e3 rfl;refine ih (f+1) w' (by omega) e5 λy hy hy2=>?_
    by_cases e:y=f
    ·subst e;exact e6
    ·exact hd y (by omega) hy2
theorem qH:topsK t t.length=1↔∃ r,r<t.length/\t.getD r 0 = -1/\∀ x,x<t.length->t.getD x 0 = -1->x=r:=by
 have key:∀ n,(topsK t n=0↔∀ x,x<n->t.getD x 0≠-1)/\(topsK t n=1↔∃ r,r<n/\t.getD r 0 = -1/\∀ x,x<n->t.getD x 0 = -1->x=r):=by
  intro n
  induction n with
  | zero=>exact⟨⟨λ_ x hx=>absurd hx (Us _),λ_=>rfl⟩,⟨λh=>by simp[topsK]at h,λ⟨r,h,_⟩=>absurd h (Us _)⟩⟩
  | succ n ih=>
   rw[GF]
   by_cases e:t.getD n 0 = -1
   ·rw[if_pos e];refine⟨⟨λh=>by omega,λh=>absurd e (h n (by omega))⟩,⟨λh=>⟨n,by omega,e,λx hx hx1=>?_⟩,λ⟨r,h1,h2,h3⟩=>?_⟩⟩
    ·by_cases ex:x=n
     ·exact ex
     ·grind
    ·have:=ih.1.2 λx hx hx1=>by
      grind
     omega
   ·grind
 exact(key _).2
theorem rightD_iff:M6 t=true↔∃ r,r<t.length/\t.getD r 0 = -1/\WG t r:=by
 unfold M6;rw[Be,all_range,En,qH]
 constructor
 ·rintro⟨h1,r,h2,h3,h4⟩;refine⟨r,h2,h3,λf hf hf2=>?_⟩;have:=h1 f hf;unfold pP at this;rw[Vr,En,Su,TG]at this;rcases this with h|h
  ·exact absurd h hf2
  ·obtain⟨x,r',k,e,hk⟩:=pathD_tp.1 h
   cases LM e
   have:=h4 _ hk.tops.1 hk.tops.2;subst this;exact⟨k,hk⟩
 ·rintro⟨r,h2,h3,h4⟩;refine⟨λf hf=>?_,r,h2,h3,λx hx hx1=>?_⟩
  ·unfold pP;rw[Vr,En,Su,TG]
   by_cases e:t.getD f 0 = -2
   ·exact .inl e
   ·obtain⟨k,hk⟩:=h4 f hf e;exact .inr (pathD_tp.2 ⟨f,r,k,rfl,hk⟩)
  ·obtain⟨k,hk⟩:=h4 x hx (by omega);exact((hk.det (.top hx hx1)).1).symm
theorem YA(hR:M6 t=true):∃ r,WG t r:=by obtain⟨r,_,_,h⟩:=rightD_iff.1 hR;exact⟨r,h⟩
theorem pE(ht:t.length<=1000):Tl t=some (M6 t):=by
 unfold Tl
 have hroom:1000<=room:=by decide
 rcases m_index t _ ht with⟨r,h1,h2,h3,h4⟩|⟨h1,h2⟩
 ·rw[h4,Ai,B7 (by omega),An,Aa ⟨by omega,by omega,by omega⟩,Ap];have hl:=dE ht h1 h2 t.length 0 (List.replicate t.length 0) (by omega) ⟨by simp,λy hy h0=>absurd II h0⟩ (λy hy=>absurd hy (Us _));rw[show(((0:Nat):Int))=0 from rfl]at hl;rw[hl,Ai]
  by_cases hA:WG t r
  ·rw[if_pos hA,rightD_iff.2 ⟨r,h1,h2,hA⟩]
  ·rw[if_neg hA]
   have :=Bool.eq_false_iff.2 λhR=>by
    obtain⟨r',g1,g2,g3⟩:=rightD_iff.1 hR;obtain⟨k,hk⟩:=g3 r h1 (by omega);have:=(hk.det (.top h1 h2)).1;subst this;exact hA g3
   rw[this]
 ·rw[h2]
  have :=Bool.eq_false_iff.2 λhR=>by
   obtain⟨r',g1,g2,g3⟩:=rightD_iff.1 hR;exact h1 r' g1 g2
  rw[this]
  rfl
def FS(t:List Int)(a:Int):Bool:=decide (0<=a)&&decide (a<(t.length:Int))&&decide (t.getD a.toNat 0≠-2)
theorem QO(hR:M6 t=true){a:Int}:FS t a=true↔∃ x k r:Nat,a=(x:Int)/\Tp t x r k:=by
 unfold FS;rw[Be,Be,En,En,En]
 constructor
 ·rintro⟨⟨h1,h2⟩,h3⟩;obtain⟨r,hA⟩:=YA hR;obtain⟨k,hk⟩:=hA _ (by omega) h3;exact⟨a.toNat,k,r,(CN h1).symm,hk⟩
 ·rintro⟨x,k,r,rfl,h⟩;rw[Ap]
  cases h with
  | top _ h2=>omega
  | up _ h2 _=>omega
theorem gH(a:Int):Nt t a=some (FS t a):=by
 unfold Nt Mx FS;rw[Ai]
 cases h1:decide (0<=a) with
 | false=>rfl
 | true=>
  rw[Ae,Ly]
  cases h2:decide (a<t.length) with
  | false=>rfl
  | true=>
   rw[Aa (λ_=>⟨EX h1,EX h2⟩),Ae,Ly]
   congr 1
   rw[CK,zzL75,En]
theorem s8(ht:t.length<=1000)(a b:Int):Vb t a b=some (M6 t&&FS t a&&FS t b):=by
 unfold Vb;rw[pE ht]
 cases M6 t with
 | false=>rfl
 | true=>
  simp only[  gH, Ly]
  cases FS t a with
  | false=>rfl
  | true=>grind
theorem lg{a b:Int}(h:(M6 t&&FS t a&&FS t b)=false):Qn t a b = -2:=by
 unfold Qn
 by_cases hR:M6 t=true
 ·rw[if_pos hR];rw[hR]at h
  have hno:∀ c,FS t c=false->Dl t c=[]:=λc hc=>by
   by_cases e:Dl t c=[]
   ·exact e
   ·obtain⟨x,r,k,e1,e2⟩:=pathD_tp.1 e;rw[(QO hR).2 ⟨x,k,r,e1,e2⟩]at hc;cases hc
  cases ha:FS t a with
  | false=>rw[hno a ha];rfl
  | true=>
   rw[ha]at h;rw[hno b h]
   have:((Dl t a).find? λx=>[].contains x)=none:=List.find?_eq_none.2 λx _=>by simp
   rw[this]
   rfl
 ·rw[if_neg hR]
theorem VJ(ht:t.length<=1000){a b:Int}(h:(M6 t&&FS t a&&FS t b)=true):Rp t a b=some (Qn t a b)/\0<=Qn t a b:=by
 rw[Be,Be]at h;obtain⟨⟨hR,ha⟩,hb⟩:=h;obtain⟨x,k,r,rfl,hx⟩:=(QO hR).1 ha;obtain⟨y,m,r',rfl,hy⟩:=(QO hR).1 hb;obtain⟨rr,hA⟩:=YA hR
 have top:∀{x r k},Tp t x r k->r=rr:=λ{x r k} h=>by
  obtain⟨i,hi⟩:=hA r h.tops.1 (by rw[h.tops.2];omega);exact((Tp.top h.tops.1 h.tops.2).det hi).1
 obtain rfl:=top hx;obtain rfl:=top hy;obtain⟨c,h1,h2⟩:=MS ht hx hy;obtain⟨d,h3,h4⟩:=pI hR hx hy;have:=h2.same hx h4;subst this;exact⟨by rw[h1,h3],by omega⟩
theorem wU(ht:t.length<=1000)(a b:Int):Xv t a b=some (Wx t a b):=by
 unfold Xv Wx;rw[s8 ht]
 cases h:(M6 t&&FS t a&&FS t b) with
 | false=>
  rw[lg h]
  have:(-2==a&&(-2 !=-2))=false:=by simp
  rw[this]
  rfl
 | true=>
  obtain⟨h1,h2⟩:=VJ ht h;simp only[show(true==true)=true from rfl,Ae,h1,Ai]
  have:(Qn t a b !=-2)=true:=by rw[zzL75];omega
  rw[this,LN]
end
theorem tY:∀ n:Fin 65,Rn (Bo 1) (Bo ((n.val:Nat):Int))=some (0,((n.val:Nat):Int)):=by decide +kernel
theorem li{n:Nat}(h:n<=64):Rn (Bo 1) (Bo (n:Int))=some (0,(n:Int)):=tY ⟨n,by omega⟩
theorem eF{v:Int}{n:Nat}(hn:n<=64):∀(m i:Nat) (l:List Int),n-i<=m->1<=i->i<=n->l.length=n->(∀ j,j<i->l.getD j 0=v)->Ab Dk ((i:Int),l)=some (List.replicate n v):=by
 intro m
 induction m with
 | zero=>
  intro i l hm h1 h2 hl hv
  obtain rfl:i=n:=by omega
  exact fin l hl hv
 | succ m ih=>
  intro i l hm h1 h2 hl hv
  by_cases e:i=n
  ·grind
  ·have hs:Dk ((i:Int),l)=some (.next (((i+Nat.min i (n-i):Nat):Int),fq l i (Nat.min i (n-i)) (λj=>l.getD (0+j) 0))):=by
    unfold Dk;simp only[hl,Cr (show i<n by omega),Ae,Ap,Ha,CL];have hc:(0:Int)<=(i:Int)/\i<=n:=⟨by omega,h2⟩;have hmn:Nat.min i (n-i)<=i:=Nat.min_le_left _ _;rw[Aa hc,Aa hc,F0 (by omega) (by omega),Int.natCast_add]
   rw[Aq hs];have hmn:Nat.min i (n-i)<=i/\Nat.min i (n-i)<=n-i:=⟨Nat.min_le_left _ _,Nat.min_le_right _ _⟩;have hge:1<=Nat.min i (n-i):=Nat.le_min.2 ⟨h1,by omega⟩;refine ih _ _ (by omega) (by omega) (by omega) (by rw[<- Jm];exact hl) λj hj=>?_;rw[QA _ _ _ _ _ _ (by omega)]
   by_cases hji:i<=j/\j<i+Nat.min i (n-i)
   ·grind
   ·grind
where
 fin {v:Int} {i:Nat} (l:List Int) (hl:l.length=i) (hv:∀ j,j<i->l.getD j 0=v):Ab Dk ((i:Int),l)=some (List.replicate i v):=by
  apply Ah
  unfold Dk;simp only[hl,Ei,An]
  congr 2
  refine EZ (by simp[hl]) λj h1 h2=>?_;rw[<- Af _ _ 0 h1,hv j (by omega)]
  simp
theorem pF{v:Int}{n:Nat}(h1:1<=n)(hn:n<=64):Iw [v] (n:Int)=some (List.replicate n v):=by
 have hroom:64<=room:=by decide
 unfold Iw;rw[B7 (by omega),An,Ai]
 show Option.bind (Rn (Bo 1) _) _=_
 rw[li hn,Ai];have e1:decide (0<0)=false:=rfl;have e2:decide (9223372036854775807<(n:Int))=false:=B7 (by omega);simp only[ e2,An];have ew:w64 n=n:=F0 (by omega) (by omega);rw[ew,Aa ⟨by omega,by omega,by omega⟩,Ap,Uq,CL];have em:Nat.min [v].length n=1:=Nat.min_eq_left h1;rw[em,eF hn n 1 _ (by omega) (zzL7 _) h1 (by rw[<- Jm];simp) (λj hj=>?_)]
 ·rfl
 ·rw[QA _ _ _ _ _ _ (by simp;omega),if_pos ⟨by omega,by omega⟩]
  have:j-0=0:=by omega
  rw[this];rfl
section
variable {S:Nat->List Nat} {r n:Nat} {P:List Nat}
theorem Inv.tp{at_:Nat->Nat}{t:List Int}(h:Inv S r n at_ (B3 t))(hl:t.length=n):∀ m x,at_ x<=m->x<n->B3 t x≠-2->∃ k,Tp t x r k:=by
 intro m
 induction m with
 | zero=>
  intro x hm hx hp;rcases h.kind x hx with h1|h1|⟨z,hz⟩
  ·exact absurd h1 hp
  ·subst h1;exact⟨0,.top (by omega) h.top⟩
  ·obtain⟨_,_,h3,_⟩:=h.up x hx z hz;omega
 | succ m ih=>
  intro x hm hx hp;rcases h.kind x hx with h1|h1|⟨z,hz⟩
  ·exact absurd h1 hp
  ·subst h1;exact⟨0,.top (by omega) h.top⟩
  ·obtain⟨z1,z2,z3,_⟩:=h.up x hx z hz;obtain⟨k,hk⟩:=ih z (by omega) z1 z2;exact⟨k+1,.up (by omega) hz hk⟩
def GQ(t l:List Int)(i:Nat)(v:Int):Prop:=
 (v = -2/\∀ j,j<i->B3 t (l.getD j 0).toNat = -2) \/
 ∃ z:Nat,v=(z:Int)/\z<t.length/\B3 t z≠-2/\(∀ w,UpTo (B3 t) z w↔∀ j,j<i->B3 t (l.getD j 0).toNat≠-2->UpTo (B3 t) (l.getD j 0).toNat w)
theorem bD{at_:Nat->Nat}{t l:List Int}(ht:t.length<=64)(hll:l.length<=64)(h:Inv S r n at_ (B3 t))(hl:t.length=n)(hin:∀ x∈l,0<=x/\x<(n:Int)):∀(k i:Nat) (v:Int),i+k=l.length->GQ t l i v->
  ∃ v',Ab (F5 t l) (v,(i:Int))=some v'/\GQ t l l.length v':=by
 intro k
 induction k with
 | zero=>
  intro i v hi hv
  obtain rfl:i=l.length:=by omega
  refine⟨v,Ah ?_,hv⟩;unfold F5;simp only[Ei,An]
 | succ k ih=>
  intro i v hi hv
  have hil:i<l.length:=by omega
  obtain⟨x0,x1⟩:=hin _ (getD_mem (d:=0) hil);have hxe:(((l.getD i 0).toNat:Nat):Int)=l.getD i 0:=CN x0;have hxin:A5 (l.getD i 0) t.length:=yh x0 (by omega)
  have next:∀ v',F5 t l (v,(i:Int))=some (.next (v',((i+1:Nat):Int)))->GQ t l (i+1) v'->∃ v',Ab (F5 t l) (v,(i:Int))=some v'/\GQ t l l.length v':=λv' hs hv'=>by
   rw[Aq hs];exact ih (i+1) v' (by omega) hv'
  by_cases hp:B3 t (l.getD i 0).toNat = -2
  ·have hb:((t.getD (l.getD i 0).toNat 0:Int)==-2)=true:=zzL61.2 hp;refine next v ?_ ?_
   ·unfold F5;simp only[Cr hil,Ae,Ap,hb];rw[Aa (Eo hil),Aa hxin,Ai,w1 (by omega)]
   ·have hstep:∀ w,(∀ j,j<i->B3 t (l.getD j 0).toNat≠-2->UpTo (B3 t) (l.getD j 0).toNat w)↔∀ j,j<i+1->B3 t (l.getD j 0).toNat≠-2->UpTo (B3 t) (l.getD j 0).toNat w:=λw=>by
     refine⟨λhj j hj1 hj2=>?_,λhj j hj1=>hj j (by omega)⟩
     by_cases e:j=i
     ·subst e;exact absurd hp hj2
     ·exact hj j (by omega) hj2
    rcases hv with⟨h1,h2⟩|⟨z,h1,h2,h3,h4⟩
    ·refine .inl ⟨h1,λj hj=>?_⟩
     by_cases e:j=i
     ·subst e;exact hp
     ·exact h2 j (by omega)
    ·exact .inr ⟨z,h1,h2,h3,λw=>by rw[h4 w,hstep w]⟩
  ·have hb:((t.getD (l.getD i 0).toNat 0:Int)==-2)=false:=zzL17.2 hp;rcases hv with⟨h1,h2⟩|⟨z,h1,h2,h3,h4⟩
   ·subst h1;refine next (l.getD i 0) ?_ (.inr ⟨(l.getD i 0).toNat,hxe.symm,by omega,hp,λw=>⟨λhw j hj hj2=>?_,λhw=>hw i (by omega) hp⟩⟩)
    ·unfold F5;simp only[Cr hil,Ae,Ap,hb,An,show((-2:Int)==-2)=true from rfl];rw[Aa (Eo hil),Aa hxin,Ai,w1 (by omega)]
    ·by_cases e:j=i
     ·subst e;exact hw
     ·exact absurd (h2 j (by omega)) hj2
   ·subst h1;have hb2:((z:Int)==-2)=false:=zzL17.2 (by omega);obtain⟨k1,hk1⟩:=h.tp hl _ z (zzL7 _) (by omega) h3;obtain⟨k2,hk2⟩:=h.tp hl _ (l.getD i 0).toNat (zzL7 _) (by omega) hp;obtain⟨c,c1,c2⟩:=MS (by omega) hk1 hk2;have hcz:=(c2 c).1 (.refl _);obtain⟨jc,_,hjc,_⟩:=hk1.on hcz.1
    have hcp:B3 t c≠-2:=by
     show t.getD c 0≠-2
     cases hjc with
     | top _ h=>omega
     | up _ h _=>omega
    refine next (c:Int) ?_ (.inr ⟨c,rfl,hjc.lt,hcp,λw=>?_⟩)
    ·rw[hxe]at c1;unfold F5;simp only[Cr hil,Ae,Ap,hb,An,hb2,c1,Ai];rw[Aa (Eo hil),Aa hxin,Ai,w1 (by omega)]
    ·rw[c2 w,h4 w];refine⟨λ⟨a1,a2⟩ j hj hj2=>?_,λha=>⟨λj hj=>ha j (by omega),ha i (by omega) hp⟩⟩
     by_cases e:j=i
     ·subst e;exact a2
     ·exact a1 j (by omega) hj2
theorem lX{at_:Nat->Nat}{t l:List Int}(ht:t.length<=64)(hll:l.length<=64)(h:Inv S r n at_ (B3 t))(hl:t.length=n)(hin:∀ x∈l,0<=x/\x<(n:Int)) :
  ∃ v,My t l=some v/\GQ t l l.length v:=by
 obtain⟨v,h1,h2⟩:=bD ht hll h hl hin l.length 0 _ (by omega) (.inl ⟨rfl,λj hj=>absurd hj (Us _)⟩);refine⟨v,?_,h2⟩;unfold My;rw[show((0:Int))=(0:Nat) from rfl,h1]
 rfl
end
section
variable {L:List (List Int)} (hm:Oa L=true) {r:Nat} {P:List Nat}
include hm
theorem p9{p y:Nat}(hp:p<L.length):y∈sN L p↔AZ L p y=true:=by
 rw[om];obtain⟨_,_,h3⟩:=mayS_iff.1 hm
 constructor
 ·intro h;obtain⟨x,hx,rfl⟩:=zzL27.1 h;have:=jh (h3 p hp) hx;rw[CN this.1];exact hx
 ·intro h;exact zzL27.2 ⟨_,h,Ap y⟩
theorem IC{y:Nat}(hy:y<L.length){x:Int}:x∈(Ff L).getD y []↔∃ p:Nat,x=(p:Int)/\p<L.length/\y∈sN L p:=by
 rw[XW hy];unfold K8;rw[dX]
 constructor
 ·rintro⟨k,h1,h2,h3⟩;exact⟨k,h1,h2,(p9 hm h2).2 h3⟩
 ·rintro⟨k,h1,h2,h3⟩;exact⟨k,h1,h2,(p9 hm h2).1 h3⟩
theorem bC(o:Ordered (sN L) r L.length P){t:List Int}{i:Nat}(h:Ready (sN L) r L.length P t i)(hi:i<P.length) :
  My t ((Ff L).getD (P.getD i 0) [])=some (Pe (sN L) L.length t (P.getD i 0):Int):=by
 obtain⟨hL1,hL64,_⟩:=mayS_iff.1 hm;have hyn:P.getD i 0<L.length:=o.lt (Nf _ (Wm hi))
 have hlen:((Ff L).getD (P.getD i 0) []).length<=64:=by
  rw[XW hyn];have:=Yh L L.length (P.getD i 0);omega
 obtain⟨v,h1,h2⟩:=lX (by rw[h.len];exact hL64) hlen h.inv h.len λx hx=>by
  obtain⟨p,rfl,hp,_⟩:=(IC hm hyn).1 hx;omega
 rw[h1];have hb:=h.best o hi
 have mem:∀ p,p<L.length->P.getD i 0∈sN L p->∃ j,j<((Ff L).getD (P.getD i 0) []).length/\(((Ff L).getD (P.getD i 0) []).getD j 0).toNat=p:=λp hp hy=>by
  obtain⟨j,hj,e⟩:=Qw ((IC hm hyn).2 ⟨p,rfl,hp,hy⟩);exact⟨j,hj,by rw[Af _ _ _ hj,e,Ap]⟩
 have mem':∀ j,j<((Ff L).getD (P.getD i 0) []).length->(((Ff L).getD (P.getD i 0) []).getD j 0).toNat<L.length/\P.getD i 0∈sN L (((Ff L).getD (P.getD i 0) []).getD j 0).toNat:=λj hj=>by
  obtain⟨p,e,hp,hy⟩:=(IC hm hyn).1 (getD_mem (d:=(0:Int)) hj);rw[e,Ap];exact⟨hp,hy⟩
 rcases h2 with⟨rfl,h3⟩|⟨z,rfl,hz,hz2,h4⟩
 ·obtain⟨p,hp,hyp,hp2,_⟩:=hb.fwd;obtain⟨j,hj,e⟩:=mem p hp hyp;exact absurd (by rw[<- e];exact h3 j hj) hp2
 ·have hbest:e8 (sN L) L.length (B3 t) (P.getD i 0) z:=λw=>by
   rw[h4 w];refine⟨λha p hp hyp hp2=>?_,λha j hj hj2=>?_⟩
   ·obtain⟨j,hj,e⟩:=mem p hp hyp;have:=ha j hj (by rw[e];exact hp2);rwa[e]at this
   ·grind
  rw[h.best_eq o hi (by rw[<- h.len];exact hz) hz2 hbest]
end
theorem dc{P:List Nat}{i:Nat}(h:i<P.length):(Wh P).getD i 0=((P.getD i 0:Nat):Int):=by
 unfold Wh;rw[Af _ _ _ (by simpa using h),Af _ _ _ h,List.getElem_map]
 rfl
theorem eJ{t:List Int}{x:Nat}{v:Int}(hx:x<t.length)(h:t.getD x 0=v):t.set x v=t:=by
 subst h;rw[Af _ _ _ hx];exact List.set_getElem_self hx
section
variable {L:List (List Int)} (hm:Oa L=true) {r:Nat} {P:List Nat} (o:Ordered (sN L) r L.length P)
include hm o
theorem g7{t0:List Int}(h:Ready (sN L) r L.length P t0 0):∀(k i:Nat) (b:Bool),i+k=P.length->
  ∃ b',Ab (Fm (K4 L) (Wh (r::P))) (b,(i:Int),AD (sN L) L.length P t0 i)=some (b',AD (sN L) L.length P t0 P.length) /\
   (b'=false↔b=false/\∀ j,i<=j->j<P.length->B3 (AD (sN L) L.length P t0 j) (P.getD j 0)=(Pe (sN L) L.length (AD (sN L) L.length P t0 j) (P.getD j 0):Int)):=by
 have hP64:P.length<=64:=by
  have h1:=T3 L.length (r::P) o.nodup λx hx=>o.lt hx;have h2:=(mayS_iff.1 hm).2.1;simp at h1;omega
 have hdl:(Wh (r::P)).drop (1:Int).toNat=Wh P:=rfl
 have hlen:(Wh P).length=P.length:=by simp[Wh]
 intro k
 induction k with
 | zero=>
  intro i b hi
  obtain rfl:i=P.length:=by omega
  refine⟨b,Ah ?_,λh=>⟨h,λj h1 h2=>by omega⟩,λh=>h.1⟩;unfold Fm;simp only[hdl,hlen,Ei,An]
 | succ k ih=>
  intro i b hi
  have hil:i<P.length:=by omega
  have rd:=h.round o i (by omega);have hma:=bC hm o rd hil;have hyn:P.getD i 0<L.length:=o.lt (Nf _ (Wm hil))
  have hyt:P.getD i 0<(AD (sN L) L.length P t0 i).length:=by rw[rd.len];exact hyn
  have hpred:(K4 L).Pred=Ff L:=rfl
  by_cases he:B3 (AD (sN L) L.length P t0 i) (P.getD i 0)=(Pe (sN L) L.length (AD (sN L) L.length P t0 i) (P.getD i 0):Int)
  ·have hb:((Pe (sN L) L.length (AD (sN L) L.length P t0 i) (P.getD i 0):Int)!=(AD (sN L) L.length P t0 i).getD (P.getD i 0) 0)=false:=by
    have:(AD (sN L) L.length P t0 i).getD (P.getD i 0) 0=_:=he;rw[this];simp
   have hnx:AD (sN L) L.length P t0 (i+1)=AD (sN L) L.length P t0 i:=eJ hyt he
   have hs:Fm (K4 L) (Wh (r::P)) (b,(i:Int),AD (sN L) L.length P t0 i)=some (.next (b,((i+1:Nat):Int),AD (sN L) L.length P t0 (i+1))):=by
    unfold Fm;simp only[hdl,hlen,Cr hil,Ae,Ap,dc hil,hpred,hma,Ai,hb,An];rw[Aa (Eo hil),Aa (Eo (by rw[Rv];exact hyn)),Aa (Eo hyt),Ai,w1 (by omega),hnx]
   obtain⟨b',e1,e2⟩:=ih (i+1) b (by omega);refine⟨b',by rw[Aq hs,e1],λh=>?_,λ⟨h1,h2⟩=>e2.2 ⟨h1,λj hj=>h2 j (by omega)⟩⟩;obtain⟨h1,h2⟩:=e2.1 h;refine⟨h1,λj hj1 hj2=>?_⟩
   by_cases e:j=i
   ·subst e;exact he
   ·exact h2 j (by omega) hj2
  ·have hb:((Pe (sN L) L.length (AD (sN L) L.length P t0 i) (P.getD i 0):Int)!=(AD (sN L) L.length P t0 i).getD (P.getD i 0) 0)=true:=by
    rw[zzL75];exact λe=>he e.symm
   have hs:Fm (K4 L) (Wh (r::P)) (b,(i:Int),AD (sN L) L.length P t0 i)=some (.next (true,((i+1:Nat):Int),AD (sN L) L.length P t0 (i+1))):=by
    unfold Fm;simp only[hdl,hlen,Cr hil,Ae,Ap,dc hil,hpred,hma,Ai,hb];rw[Aa (Eo hil),Aa (Eo (by rw[Rv];exact hyn)),Aa (Eo hyt),Aa (Eo hyt),Ai,w1 (by omega)]
    rfl
   obtain⟨b',e1,e2⟩:=ih (i+1) true (by omega);refine⟨b',by rw[Aq hs,e1],λh=>?_,λ⟨h1,h2⟩=>absurd (h2 i (zzL7 _) hil) he⟩;obtain⟨h1,_⟩:=e2.1 h;cases h1
theorem mF{t0:List Int}(h:Ready (sN L) r L.length P t0 0):∃ b,Ab (Fm (K4 L) (Wh (r::P))) (false,(0:Int),t0)=some (b,AD (sN L) L.length P t0 P.length)/\(b=false↔AN (sN L) L.length P t0):=by
 obtain⟨b,e1,e2⟩:=g7 hm o h P.length 0 _ (by omega);refine⟨b,e1,e2.trans ⟨λ⟨_,h2⟩=>?_,λhs=>⟨rfl,λj _ hj=>?_⟩⟩⟩
 ·have key:∀ j,j<=P.length->AD (sN L) L.length P t0 j=t0:=by
   intro j
   induction j with
   | zero=>intro _;rfl
   | succ j ih=>
    intro hj;have ih':=ih (by omega);have rd:=h.round o j (by omega)
    have hyn:P.getD j 0<(AD (sN L) L.length P t0 j).length:=by rw[rd.len];exact o.lt (Nf _ (Wm (by omega)))
    have:AD _ _ P t0 (j+1)=AD _ _ P t0 j:=eJ hyn (h2 j (Rh _) (by omega));rw[this,ih']
  intro i hi;have:=h2 i (Rh _) hi;rwa[key i (by omega)]at this
 ·rw[CE o h.len hs j (by omega)];exact hs j hj
open Classical in
theorem j6(j:Nat):H2 (K4 L) (Wh (r::P),UR (sN L) L.length P (Jh L.length r) j)=some (if AN (sN L) L.length P (UR (sN L) L.length P (Jh L.length r) j) then .done (UR (sN L) L.length P (Jh L.length r) (j+1)) else .next (Wh (r::P),UR (sN L) L.length P (Jh L.length r) (j+1))):=by
 obtain⟨b,e1,e2⟩:=mF hm o (Ready.rounds o j);have hL2:V0 (K4 L) (Wh (r::P))=Fm (K4 L) (Wh (r::P)):=rfl
 have hlen:(0:Int)<=1/\(1:Int)<=((Wh (r::P)).length:Int):=by simp[Wh];omega
 unfold H2;simp only[hL2,e1,Ai];rw[Aa hlen]
 cases b with
 | false=>rw[if_pos (e2.1 rfl)];rfl
 | true=>rw[if_neg (λh=>by have:=e2.2 h;cases this)];rfl
theorem eU:∃ J,AN (sN L) L.length P (UR (sN L) L.length P (Jh L.length r) J)/\Ab (H2 (K4 L)) (Wh (r::P),Jh L.length r)=some (UR (sN L) L.length P (Jh L.length r) J):=by
 obtain⟨J,h1,h2⟩:=u9 o;refine⟨J,h2,?_⟩
 have key:∀ d j,j+d=J->Ab (H2 (K4 L)) (Wh (r::P),UR (sN L) L.length P (Jh L.length r) j)=some (UR (sN L) L.length P (Jh L.length r) J):=by
  intro d
  induction d with
  | zero=>
   intro j hj
   obtain rfl:j=J:=by omega
   have hF:=j6 hm o j;rw[if_pos h2]at hF;rw[Ah hF];have:UR _ _ P _ (j+1)=UR _ _ P _ j:=CE o (Ready.rounds o j).len h2 _ (zzL7 _);rw[this]
  | succ d ih=>
   intro j hj;have hF:=j6 hm o j;rw[if_neg (h1 j (by omega))]at hF;rw[Aq hF];exact ih _ (by omega)
 exact key J 0 (by omega)
end
theorem wV(g:TGraph)(r:Int)(h1:Fits g.Succ)(h2:Fits g.Pred):Ud g r=some (SW g r):=by
 unfold SW
 by_cases hc:DX g=true/\0<=r/\r<g.Succ.length
 ·rw[if_pos hc];obtain⟨hG,h0,hlt⟩:=hc;obtain⟨hm,hg⟩:=jd hG;obtain⟨hL1,hL64,_⟩:=mayS_iff.1 hm
  have hr:r.toNat<g.Succ.length:=by omega
  obtain⟨O,hO⟩:=Ord.exist (Zb hm) hr;have hord:=(bB g h1 trivial r).1 hG h0 hlt O hO;obtain⟨P,rfl,o⟩:=hO.ordered hr (Zb hm);obtain⟨J,hJ,hl⟩:=eU hm o;have ht:=(NH o hJ).eq hm hr o;rw[ht]at hl;have hlen:(((Wh (r.toNat::P)).length:Int)==0)=false:=zzL17.2 (by simp[Wh];omega)
  have hlen2:(0:Int)<=1/\(1:Int)<=(Wh (r.toNat::P)).length:=by simp[Wh];omega
  have hL2:V0 g _=Fm g (Wh (r.toNat::P)):=rfl
  have hst:(Ym (H2 g (Wh (r.toNat::P),Jh g.Succ.length r.toNat)) (H2 g))=some (CF g.Succ r.toNat):=by
   rw[NF,hg];exact hl
  unfold Ud;rw[hord,Ai,  pF hL1 hL64,Ai,Aa (yh h0 (by simpa using hlt)),Aa hlen2]
  have:(H2 g (Wh (r.toNat::P),Jh g.Succ.length r.toNat))=(Ab (Fm g (Wh (r.toNat::P))) (false,0,(List.replicate g.Succ.length (-2)).set r.toNat (-1))).bind (λx22=>(match x22 with|(b10,l11)=>(bif b10 then(some (.next (Wh (r.toNat::P),l11))) else(some (.done l11))))):=by
   unfold H2 Jh;simp only[hL2];rw[Aa hlen2]
  rw[this]at hst;refine Eq.trans ?_ (Ci (λx =>x.bind λx42=>some x42) hst)
  rfl
 ·rw[if_neg hc];unfold Ud
  have:(DX g&&(decide (0<=r)&&decide (r<g.Succ.length)))=false:=by
   grind
  rw[(bB g h1 trivial r).2 this]
  rfl
theorem vr{α:Type}(l:List α)(d:α)(p:α->Bool){X:Type}(f:Int->Option (LR Int X))(yes no:X)(hl:l.length<9223372036854775808)(hk:∀ i:Nat,i<l.length->f i=some (bif p (l.getD i d) then .next (w64 ((i:Int)+1)) else .done no))
  (he:f l.length=some (.done yes)):Ab f (0:Int)=some (bif l.all p then yes else no):=by
 have:=Hj l d p f yes no (λi hi hp=>by rw[hk i hi,hp,Ae,A3 hi hl]) (λi hi hp=>by grind) he l.length 0 (by omega);rwa[Js]at this
theorem wK(f:TFunc)(hf:fA f)(l:Int)(t:List Int)(u:List Bm):Kl f l t u=some (bif V1 f then 0 else 4,f,l,t,u):=by
 unfold Kl Ns;rw[Aap f hf]
 cases V1 f<;>rfl
theorem lF(phis:List Ic)(l:List Int)(h1:phis.length<9223372036854775808)(h2:l.length<4611686018427387904):O7 phis l=some (phis.all (Lt l)):=by
 unfold O7
 rw[vr _ _ (Lt l) _ (.inl ()) _ h1 (λi hi=>by
  unfold Pl
  have hd:decide ((i:Int)<phis.length)=true:=by simpa using hi
  simp only[hd, Ad (Ao hi),Ec,ax _ _ h2, Lt]
  cases decide ((phis.getD i _).From=l) with
  | false=>rfl
  | true=>
   grind) (by unfold Pl;simp)]
 cases phis.all _<;>rfl
def fe(e:M0):Bool:=!((e.Kind==1 || e.Kind==3)&&(e.Arg !=0))
theorem lA{n:Nat}(e:M0)(hk:Oy e n=true):O6 e=some (fe e):=by
 have h4 :=by
  have:=(Be _ _▸hk).1;unfold MP at this;simp only[Be,En]at this;omega
 unfold O6 fe
 have:e.Kind=0\/e.Kind=1\/e.Kind=2\/e.Kind=3:=by omega
 rcases this with h|h|h|h<;>rw[h]<;>cases hb:(e.Arg==0)<;>simp[hb,bne]
theorem gj{L:List (List Int)}(hm:Oa L=true){P:List Nat}(h0:0<L.length)(o:Ord (sN L) 0 P):decide (P.length<L.length) = !(List.range L.length).all λi=>(Sd L).getD i false:=by
 have hin:∀ x∈P,x<L.length:=λx hx=>(by obtain⟨Q,rfl,oo⟩:=o.ordered h0 (Zb hm);exact oo.lt hx)
 have hr:∀ z,(Sd L).getD z _=true↔z∈P:=λz=>by
  rw[o.mem z];exact IG (Zb hm) h0 z
 cases ha:(List.range _).all _ with
 | true=>
  have:=((List.perm_ext_iff_of_nodup o.nodup List.nodup_range).2 λi=>⟨λh=>zzL44.2 (hin i h),λh=>(hr i).1 (zzL30.1 ha i h)⟩).length_eq;rw[Zd]at this
  simp;omega
 | false=>
  obtain⟨i,hi,hni⟩:∃ i,i<L.length/\i∉P:=bb λhc=>by
   grind
  have :=T3 L.length _ (zzL81.2 ⟨hni,o.nodup⟩) (λx hx=>by grind);simp at this ⊢;omega
theorem oP {f : TFunc} (hf : OkF f) (l : Int) (t : List Int) (u : List Bm) : ∃ t', Jc f l t u = some (bif Ia f then 0 else 5, f, l, t', u) ∧ (Ia f = true → t' = Dy f) := by
  have hmax : f.Blocks.length ≤ maxLen := by have := hf.blocks; have : (64 : Nat) ≤ maxLen := by decide
                                             omega
  unfold Jc; rw [Aam f hmax, Ai]
  cases hs : Ry f with
  | false => exact ⟨t, by unfold Ia; rw [hs]; rfl, fun h => by unfold Ia at h; rw [hs] at h; cases h⟩
  | true =>
    have hm := So hs; have hlen := BU f
    have hpos : 0 < (Dm f).length := by have := (shape_iff.1 hs).1.1; omega
    obtain ⟨h1, h2⟩ := HH hm; obtain ⟨P, hP⟩ := Ord.exist (Zb hm) hpos; have ho := (bB (K4 (Dm f)) h1 trivial 0).1 (dW hm) (by omega) (by show (0 : Int) < ((Dm f).length : Int); omega) P hP; have hfull := gj hm hpos hP; simp only [Ae,  show ((0 : Int) != 0) = false from rfl, An, ho, Ai, show (false == false) = true from rfl]
    have e1 : decide (((Wh P).length : Int) < (f.Blocks.length : Int)) = decide (P.length < (Dm f).length) := by
      rw [hlen]; apply zzL76.2; simp [Wh]
    rw [e1, hfull]
    have hsd : Ia f = (((List.range f.Blocks.length).all fun i => (Sd (Dm f)).getD i false) && (List.range f.Blocks.length).all fun i => fe (f.Blocks.getD i default).End && (f.Blocks.getD i default).Phis.all (Lt ((Ff (Dm f)).getD i []))) := by
      unfold Ia; rw [hs, Ly]
      have : ∀ (n : Nat) (p q : Nat → Bool), ((List.range n).all fun i => p i && q i) = ((List.range n).all p && (List.range n).all q) := fun n p q => by
        grind
      rw [← this]
      congr 1
      funext i
      show (_ && _ && _) = _
      rw [Bool.and_assoc]
      rfl
    rw [hlen]; rw [hsd]
    cases hr : (List.range f.Blocks.length).all _ with
    | false => exact ⟨t, rfl, fun h => by cases h⟩
    | true =>
      refine ⟨Dy f, ?_, fun _ => rfl⟩; rw [E7, An, wV _ 0 h1 h2, Ai, Ly]; have hp := Yi hm
      have hpl : (K4 (Dm f)).Pred.length = f.Blocks.length := by rw [← hlen]; exact Rv _
      have key : Ab (Du f l u (K4 (Dm f), 0) (Dy f)) (0 : Int) = some (bif (List.range f.Blocks.length).all (fun i => fe (f.Blocks.getD i default).End && (f.Blocks.getD i default).Phis.all (Lt ((Ff (Dm f)).getD i []))) then .inl () else .inr ((5 : Int), f, l, Dy f, u)) := by
        have hk : ∀ i : Nat, i < f.Blocks.length → Du f l u (K4 (Dm f), 0) (Dy f) (i : Int) = some (bif (fe (f.Blocks.getD i default).End && (f.Blocks.getD i default).Phis.all (Lt ((Ff (Dm f)).getD i []))) then .next ((i : Int) + 1) else .done (.inr ((5 : Int), f, l, Dy f, u))) := fun i hi => by
          have hB := hf.block _ (getD_mem (d := (default : Am)) hi); have hpi : A5 (i : Int) (K4 (Dm f)).Pred.length := Ao (by omega); have hpg : ((K4 (Dm f)).Pred.getD i []).length ≤ 64 := hp.2 _ (getD_mem (by rw [Rv]; omega)); unfold Du
          have hd : decide ((i : Int) < (f.Blocks.length : Int)) = true := by simpa using hi
          simp only [hd, Ae, Ad (Ao hi), Ad hpi, Ec, lF (f.Blocks.getD i default).Phis ((K4 (Dm f)).Pred.getD i []) (by have := hB.phis; omega) (by omega), Ai]; have ha  := lA (n := f.Blocks.length) (f.Blocks.getD i default).End ((shape_iff.1 hs).2 i hi); rw [ha, A3 hi (by have := hf.blocks; omega)]
          show _ = some (bif (fe (f.Blocks.getD i default).End && (f.Blocks.getD i default).Phis.all (Lt ((K4 (Dm f)).Pred.getD i []))) then _ else _)
          cases (f.Blocks.getD i default).Phis.all _ <;> cases fe (f.Blocks.getD i default).End <;> rfl
        exact JZ _ _ _ _ _ (fun i hi hp => by rw [hk i hi, hp]; rfl) (fun i hi hp => by rw [hk i hi, hp]; rfl) (by unfold Du; simp)
      show ((Ab (Du f l u (K4 (Dm f), 0) (Dy f)) (0 : Int)).bind _) = _
      rw [key, Ai]
      cases (List.range f.Blocks.length).all _ <;> rfl
theorem wC(o:Ce)(l:Int)(h0:0<=l)(h2:l<=2)(hk:Lb o=true):Tk o l=some (!decide (OX l<o.Kind)&&!(decide (l<2)&&decide (1<o.Lanes))):=by
 have hl:=o6 hk
 have hK :=by
  simp only[Lb,Be]at hk;have:=hk.1.2.1.1.1;unfold jW at this;simp only[Be,En]at this;omega
 unfold Tk OX
 have:l=0\/l=1\/l=2:=by omega
 rcases this with rfl|rfl|rfl
 ·have ha:decide (o.Kind<=17) = !decide (17<o.Kind):=by grind
  have hb:(o.Lanes==1) = !decide (1<o.Lanes):=by grind
  show some _=some (!decide (17<o.Kind)&&!(true&&decide _))
  rw[ha,hb]
  cases decide (17<o.Kind)<;>cases decide (1<o.Lanes)<;>rfl
 ·have ha:decide (o.Kind<=20) = !decide (20<o.Kind):=by grind
  have hb:(o.Lanes==1) = !decide (1<o.Lanes):=by grind
  show some _=some (!decide (20<o.Kind)&&!(true&&decide _))
  rw[ha,hb]
  cases decide (20<o.Kind)<;>cases decide (1<o.Lanes)<;>rfl
 ·grind
theorem lE(o:Ce)(ho:bz o)(f:TFunc)(l:Int)(h0:0<=l)(h2:l<=2)(t:List Int)(u:List Bm):Ik o f l t u=some (Qq l o,f,l,t,u):=by
 unfold Ik Qq;rw[QS o ho,Ai]
 cases hk:Lb o with
 | false=>rfl
 | true=>
  rw[show(true==true)=true from rfl,Ae,wC o l h0 h2 hk,Ai,Ae,Ly]
theorem sZ(b:Am){f:TFunc}(hf:OkF f)(hb:b∈f.Blocks)(l:Int)(h0:0<=l)(h2:l<=2)(t:List Int)(u:List Bm):L7 b.Ops f l t u=some (b.Ops.all (Qq l),f,l,t,u):=by
 have hB:=hf.block b hb
 have key:∀ k i ,i+k=b.Ops.length->Ab (Hk b.Ops) (i,f.Params,f.Ret,f.Blocks,l,t,u)=some (bif (b.Ops.drop i).all (Qq l) then .inl (f.Params,f.Ret,f.Blocks,l,t,u) else .inr (false,f,l,t,u)):=by
  intro k
  induction k with
  | zero=>
   intro i h
   obtain rfl:i=b.Ops.length:=by omega
   rw[Ah (x:=.inl (f.Params,f.Ret,f.Blocks,l,t,u)) (by unfold Hk;simp)]
   simp
  | succ k ih=>
   intro i h
   have hi:i<b.Ops.length:=by omega
   have hd:decide (i<(b.Ops.length:Int))=true:=by simpa using hi
   have hdr:b.Ops.drop i=b.Ops.getD i default::b.Ops.drop (i+1):=by simp_all
   have hx:=lE (b.Ops.getD i default) (ln hf hb (getD_mem hi)) f l h0 h2 t u;rw[hdr,FC]
   cases ho:Qq l _ with
   | true=>
    rw[ho]at hx
    rw[Aq (s':=(((i+1:Nat):Int),f.Params,f.Ret,f.Blocks,l,t,u)) (by
     unfold Hk;simp only[hd, Ad (Ao hi),Ec,hx,   A3 hi (by have:=hB.ops;omega)]
     rfl),ih _ (by omega),Ly]
   | false=>
    rw[ho]at hx
    rw[Ah (x:=.inr (false,f,l,t,u)) (by
     unfold Hk
     simp only[hd,Ae,Ad (Ao hi),Ec,hx,Ai,Mr])]
    rfl
 unfold L7;rw[show(0:Int)=(0:Nat) from rfl,key b.Ops.length 0 (by omega),Js]
 cases b.Ops.all _<;>rfl
theorem oI(b:Am)(h:b.Phis.length<9223372036854775808):Lg b.Phis=some (b.Phis.all λp=>widthB p.Bits):=by
 unfold Lg
 rw[vr _ _ (λp=>widthB _) _ (.inl ()) _ h (λi hi=>by
  unfold L8 Ro
  have hd:decide (i<(b.Phis.length:Int))=true:=by simpa using hi
  simp only[hd, Ad (Ao hi),Ec,W6]
  cases widthB _<;>rfl) (by unfold L8;simp)]
 cases b.Phis.all _<;>rfl
theorem oH(p:List Int)(h:p.length<9223372036854775808):O5 p=some (p.all widthB):=by
 unfold O5
 rw[vr p 0 widthB _ (.inl ()) _ h (λi hi=>by
  unfold Pk
  have hd:decide (i<(p.length:Int))=true:=by simpa using hi
  simp only[hd, Ad (Ao hi),Ec,W6]
  cases widthB _<;>rfl) (by unfold Pk;simp)]
 cases p.all _<;>rfl
theorem ZY(b:Am){f:TFunc}(hf:OkF f)(hb:b∈f.Blocks)(l:Int)(h0:0<=l)(h2:l<=2)(t:List Int)(u:List Bm):Gm b f l t u=some (Jk l b,f,l,t,u):=by
 unfold Gm Jk;rw[oI b (by have:=(hf.block b hb).phis;omega), sZ b hf hb l h0 h2 t u]
 cases(b.Phis.all _)<;>rfl
theorem se{f:TFunc}(hf:OkF f)(l:Int)(h0:0<=l)(h2:l<=2)(t:List Int)(u:List Bm):Jx f l t u=some (bif Uo f l then 0 else 6,f,l,t,u):=by
 have key:∀ k i ,i+k=f.Blocks.length->Ab (Fl f.Blocks) (i,f.Params,f.Ret,f.Blocks,l,t,u)=some (bif (f.Blocks.drop i).all (Jk l) then .inl (f.Params,f.Ret,f.Blocks,l,t,u) else .inr (false,f,l,t,u)):=by
  intro k
  induction k with
  | zero=>
   intro i h
   obtain rfl:i=f.Blocks.length:=by omega
   rw[Ah (x:=.inl (f.Params,f.Ret,f.Blocks,l,t,u)) (by unfold Fl;simp)]
   simp
  | succ k ih=>
   intro i h
   have hi:i<f.Blocks.length:=by omega
   have hd:decide ((i:Int)<f.Blocks.length)=true:=by simpa using hi
   have hdr:f.Blocks.drop i=f.Blocks.getD i default::f.Blocks.drop (i+1):=by simp_all
   have hx:=ZY (f.Blocks.getD i default) hf (getD_mem hi) l h0 h2 t u;rw[hdr,FC]
   cases ho:Jk l _ with
   | true=>
    rw[ho]at hx
    rw[Aq (s':=(((i+1:Nat):Int),f.Params,f.Ret,f.Blocks,l,t,u)) (by
     unfold Fl;simp only[hd, Ad (Ao hi),Ec,hx,   A3 hi (by have:=hf.blocks;omega)]
     rfl),ih _ (by omega),Ly]
   | false=>
    rw[ho]at hx
    rw[Ah (x:=.inr (false,f,l,t,u)) (by
     unfold Fl
     simp only[hd,Ae,Ad (Ao hi),Ec,hx,Ai,Mr])]
    rfl
 have hall:Jw f.Blocks f l t u=some (f.Blocks.all (Jk l),f,l,t,u):=by
  unfold Jw;rw[show(0:Int)=(0:Nat) from rfl,key f.Blocks.length 0 (by omega),Js]
  cases f.Blocks.all _<;>rfl
 unfold Jx Uo Ns;rw[oH _ (by have:=hf.few;omega), hall,W6]
 cases f.Params.all _<;>cases widthB f.Ret<;>cases f.Blocks.all _<;>rfl
def un(d:TDef):L3:=bif decide (d.Block<0) then⟨0,-1⟩ else⟨d.Block,d.At⟩
def OK(d:TDef):Ay:=⟨d.Shape,un d⟩
def dv(l:List TDef):List (Int×Ay):=l.map λd=>(d.V,OK d)
def VC(acc:List (Int×Ay))(v:Int):Bool:=(C2 acc v || decide (v<1)) || decide (1023<v)
def K9:List (Int×Ay)->List TDef->Bool×List (Int×Ay)
 | acc,[]=>(true,acc)
 | acc,d::ds=>bif VC acc d.V then(false,acc) else K9 (Hr acc d.V (OK d)) ds
theorem JP:∀(a b:List TDef) (acc:List (Int×Ay)),K9 acc (a++b)=bif (K9 acc a).1 then K9 (K9 acc a).2 b else K9 acc a
 | [],b,acc=>rfl
 | d::a,b,acc=>by
  rw[CJ];simp only[K9]
  cases VC acc d.V with
  | true=>rfl
  | false =>  exact JP a b _
theorem BE{V:Type}(k:Int):∀ l:List (Int×V),C2 l k=l.any λq=>k==q.1
 | []=>rfl
 | (a,b)::l=>by rw[List.any_cons,<- BE k l];rfl
theorem DG{V:Type}(k:Int)(v:V):∀{l:List (Int×V)},C2 l k=false->Hr l k v=l++[(k,v)]
 | [],_=>rfl
 | (a,b)::l,h=>by
  simp only[C2,TI]at h;simp only[Hr,h.1,An,DG k v h.2,CJ]
theorem ce(v:Int)(s:Int×Int)(p:L3)(f:TFunc)(l:Int)(t:List Int)(vs:List (Int×Ay))(u:List Bm) :
  Gn v s p f l t vs u=some (bif VC vs v then(false,f,l,t,u,vs) else(true,f,l,t,u,Hr vs v ⟨s,p⟩)):=by
 unfold Gn VC
 cases C2 vs v<;>cases decide (v<1)<;>cases decide (1023<v)<;>rfl
def uA(f:TFunc)(l:Int)(t:List Int)(u:List Bm)(r:Bool×List (Int×Ay)):(List Int×Int×List Am×Int×List Int×List Bm×List (Int×Ay)) ⊕ (Bool×TFunc×Int×List Int×List Bm×List (Int×Ay)):=
 bif r.1 then .inl (f.Params,f.Ret,f.Blocks,l,t,u,r.2) else .inr (false,f,l,t,u,r.2)
theorem wG(b:Am)(h:b.Phis.length<9223372036854775808)(i:Nat)(f:TFunc)(l:Int)(t:List Int)(u:List Bm):∀(k j:Nat) (vs:List (Int×Ay)),j+k=b.Phis.length->
  Ab (D3 (i:Int) b) ((j:Int),f.Params,f.Ret,f.Blocks,l,t,u,vs)=some (uA f l t u (K9 vs ((List.range' j k).flatMap λ(k:Nat)=>[(⟨(b.Phis.getD k default).Dst,i,-1,((b.Phis.getD k default).Bits,1)⟩:TDef)]))):=by
 intro k
 induction k with
 | zero=>
  intro j vs hj
  obtain rfl:j=b.Phis.length:=by omega
  rw[Ah (x:=.inl (f.Params,f.Ret,f.Blocks,l,t,u,vs)) (by unfold D3;simp)]
  rfl
 | succ k ih=>
  intro j vs hj
  have hi:j<b.Phis.length:=by omega
  have hd:decide (j<(b.Phis.length:Int))=true:=by simpa using hi
  have hx:=ce (b.Phis.getD j default).Dst ((b.Phis.getD j default).Bits,1) ⟨(i:Int),-1⟩ f l t vs u
  have hat:un ⟨(b.Phis.getD j default).Dst,i,-1,((b.Phis.getD j default).Bits,1)⟩=⟨i,-1⟩:=by   rfl
  rw[EY,Ur,List.singleton_append];simp only[K9]
  cases hb:VC vs _ with
  | true=>
   rw[hb]at hx
   rw[Ah  (by
    unfold D3 E0;simp only[hd, Ad (Ao hi),Ec,Ai];rw[ hx]
    rfl)]
   rfl
  | false=>
   rw[hb]at hx
   rw[Aq (s':=(((j+1:Nat):Int),f.Params,f.Ret,f.Blocks,l,t,u,Hr vs _ _)) (by
    unfold D3 E0;simp only[hd, Ad (Ao hi),Ec,Ai];rw[ hx,A3 hi h]
    rfl),ih _ _ (by omega)]
   unfold OK
   rfl
theorem yc{f0:TFunc}(hf:OkF f0){b:Am}(hb:b∈f0.Blocks)(i:Nat)(f:TFunc)(l:Int)(t:List Int)(u:List Bm):∀(k j:Nat) (vs:List (Int×Ay)),j+k=b.Ops.length->
  Ab (Cz (i:Int) b) ((j:Int),f.Params,f.Ret,f.Blocks,l,t,u,vs)=some (uA f l t u (K9 vs ((List.range' j k).flatMap λ(k:Nat)=>bif decide (0<(Ll (b.Ops.getD k default)).1) then[(⟨(b.Ops.getD k default).Dst,i,k,Ll (b.Ops.getD k default)⟩:TDef)] else[]))):=by
 have hB:=hf.block b hb;intro k
 induction k with
 | zero=>
  intro j vs hj
  obtain rfl:j=b.Ops.length:=by omega
  rw[Ah (x:=.inl (f.Params,f.Ret,f.Blocks,l,t,u,vs)) (by unfold Cz;simp)]
  rfl
 | succ k ih=>
  intro j vs hj
  have hi:j<b.Ops.length:=by omega
  have hd:decide ((j:Int)<(b.Ops.length:Int))=true:=by simpa using hi
  have hg:Qg _=some (Ll (b.Ops.getD j default)):=f8 _ (ln hf hb (getD_mem hi));have hx:=ce (b.Ops.getD j default).Dst (Ll (b.Ops.getD j default)) (⟨(i:Int),(j:Int)⟩:L3) f l t vs u
  have hat:un (⟨(b.Ops.getD j default).Dst,i,j,Ll (b.Ops.getD j default)⟩:TDef)=⟨(i:Int),(j:Int)⟩:=by unfold un; rfl
  rw[EY,Ur]
  cases hp:decide (0<(Ll _).1) with
  | false=>
   rw[An,W9,<- ih (j+1) vs (by omega),Aq (s':=(((j+1:Nat):Int),f.Params,f.Ret,f.Blocks,l,t,u,vs)) (by
    unfold Cz;simp only[hd,Ae,Ad (Ao hi),Ec,hg,Ai,hp];rw[A3 hi (by have:=hB.ops;omega)]
    rfl)]
  | true=>
   rw[Ae,List.singleton_append];simp only[K9]
   cases hb:VC vs _ with
   | true=>
    rw[hb]at hx
    rw[Ah  (by
     unfold Cz;simp only[hd,Ae,Ad (Ao hi),Ec,hg,Ai,hp];rw[show(true==true)=true from rfl,Ae, hx]
     rfl)]
    rfl
   | false=>
    rw[hb]at hx
    rw[Aq (s':=(((j+1:Nat):Int),f.Params,f.Ret,f.Blocks,l,t,u,Hr vs _ _)) (by
     unfold Cz;simp only[hd,Ae,Ad (Ao hi),Ec,hg,Ai,hp];rw[show(true==true)=true from rfl,Ae, hx,A3 hi (by have:=hB.ops;omega)]
     rfl),ih (j+1) _ (by omega)]
    unfold OK
    rfl
theorem cf{f:TFunc}(hf:OkF f){b:Am}(hb:b∈f.Blocks)(i:Nat)(l:Int)(t:List Int)(u:List Bm)(vs:List (Int×Ay)) :
  He (i:Int) b f l t vs u=some ((K9 vs (Tc b i)).1,f,l,t,u,(K9 vs (Tc b i)).2):=by
 unfold He Tc;rw[show 0=((0:Nat):Int) from rfl,wG b (by have:=(hf.block b hb).phis;omega) i f l t u b.Phis.length 0 vs (by omega),Ai,JP];rw[show(List.range' 0 _).flatMap _=Tj b i by rw[Tj,Qv]];unfold uA
 cases h1:(K9 vs _).1 with
 | false=>grind
 | true=>
  simp only[Ae];rw[yc hf hb i f l t u b.Ops.length 0 _ (by omega)];rw[show(List.range' 0 _).flatMap _=AU b i by rw[AU,Qv]];unfold uA;cases h2:(K9 _ _).1<;>rfl
theorem DI{l:List TDef}{i:Nat}(hi:i<l.length):Qo l i=true↔valS (l.getD i default).V=true/\∀ j,j<i->(l.getD j default).V≠(l.getD i default).V:=by
 unfold Qo;rw[Be];refine and_congr Iff.rfl ?_;unfold Lk
 cases hx:l.findIdx? _ with
 | none=>
  rw[List.findIdx?_eq_none_iff]at hx;have:=hx _ (getD_mem (d:=default) hi);simp at this
 | some j=>
  obtain⟨hj,h1,h2⟩:=List.findIdx?_eq_some_iff_getElem.1 hx;simp only[zzL61]
  constructor
  ·grind
  ·intro h
   have hv:(l.getD j default).V=(l.getD i default).V:=by grind
   rcases Nat.lt_trichotomy j i with hlt|rfl|hgt
   ·grind
   ·rfl
   ·grind
theorem tO(l:List TDef)(v:Int):C2 (dv l) v=l.any λd=>v==d.V:=by
 rw[BE,dv,List.any_map];rfl
theorem QD:∀(ds pre:List TDef),(K9 (dv pre) ds).1=(List.range' pre.length ds.length).all (Qo (pre++ds))/\((K9 (dv pre) ds).1=true->(K9 (dv pre) ds).2=dv (pre++ds))
 | [],pre=>by simp[K9]
 | d::ds,pre=>by
  have hi:pre.length<(pre++d::ds).length:=by simp
  have hg:(pre++d::ds).getD pre.length default=d:=by simp[List.getD]
  have hj:∀ j,j<pre.length->(pre++d::ds).getD j default=pre.getD j default:=λj h=>by grind
  have hok:Qo (pre++d::ds) pre.length = !VC (dv pre) d.V:=by
   rw[CK,DI hi,hg];unfold VC valS;rw[tO];simp only[Su,TI,TG,List.any_eq_false,zzL61,Be,En]
   constructor
   ·rintro⟨⟨h1,h2⟩,h3⟩;refine⟨⟨λx hx he=>?_,by omega⟩,by omega⟩;obtain⟨j,hjl,rfl⟩:=Qw hx;have:=h3 j hjl;rw[hj j hjl,Af _ _ _ hjl]at this;exact this he.symm
   ·grind
  rw[Vq,EY,FC,hok];simp only[K9]
  cases hb:VC _ d.V with
  | true=>grind
  | false=>
   have hn :=by
    unfold VC at hb;simp only[TI]at hb;exact hb.1.1
   have hs:Hr (dv pre) d.V (OK d)=dv (pre++[d]):=by rw[DG _ _ hn,dv,dv,LJ];rfl
   have:=QD ds (pre++[d]);rw[Gk,Px]at this;rw[ hs,Mr];exact this
def pv(f:TFunc)(n:Nat):List (Int×Ay):=(List.range n).map λ(j:Nat)=>((j:Int)+1,⟨(f.Params.getD j 0,1),⟨0,-1⟩⟩)
theorem yx(f:TFunc):pv f f.Params.length=dv (Sh f):=by
 unfold pv dv Sh
 induction List.range _ with
 | nil=>rfl
 | cons a l ih=>rw[Cy, ih];rfl
theorem oO{f:TFunc}(hf:OkF f):∀(k i:Nat),i+k=f.Params.length->Ab (Gp f) ((i:Int),pv f i)=some (pv f f.Params.length):=by
 intro k
 induction k with
 | zero=>
  intro i h
  obtain rfl:i=f.Params.length:=by omega
  exact Ah (by unfold Gp;simp)
 | succ k ih=>
  intro i h
  have hi:i<f.Params.length:=by omega
  have hd:decide ((i:Int)<(f.Params.length:Int))=true:=by simpa using hi
  have hn:C2 (pv f i) ((i:Int)+1)=false:=by
   rw[BE,pv,List.any_map,List.any_eq_false];intro j hj;have:=zzL44.1 hj
   simp;omega
  have hs:Hr (pv f i) ((i:Int)+1) ⟨(f.Params.getD i 0,1),⟨0,-1⟩⟩=pv f (i+1):=by
   rw[DG _ _ hn,pv,pv,JA,LJ];rfl
  rw[Aq  (by
   unfold Gp E0;simp only[hd,Ae,Ad (Ao hi),Ec,Ai,A3 hi (by have:=hf.few;omega),hs]
   rfl)]
  exact ih (i+1) (by omega)
theorem oJ{f:TFunc}(hf:OkF f)(l:Int)(t:List Int)(u:List Bm):∀(k i:Nat) (vs:List (Int×Ay)),i+k=f.Blocks.length->
  Ab (Ez f) ((i:Int),vs,f.Params,f.Ret,f.Blocks,l,t,u)=some (bif (K9 vs ((List.range' i k).flatMap λi=>Tc (f.Blocks.getD i default) i)).1 then .inl ((K9 vs ((List.range' i k).flatMap λi=>Tc (f.Blocks.getD i default) i)).2,f.Params,f.Ret,f.Blocks,l,t,u) else
   .inr (7,f,l,t,u,(K9 vs ((List.range' i k).flatMap λi=>Tc (f.Blocks.getD i default) i)).2)):=by
 intro k
 induction k with
 | zero=>
  intro i vs h
  obtain rfl:i=f.Blocks.length:=by omega
  rw[Ah (x:=.inl (vs,f.Params,f.Ret,f.Blocks,l,t,u)) (by unfold Ez;simp)]
  rfl
 | succ k ih=>
  intro i vs h
  have hi:i<f.Blocks.length:=by omega
  have hd:decide (i<(f.Blocks.length:Int))=true:=by simpa using hi
  have hx:=cf hf (getD_mem (d:=default) hi) i l t u vs;rw[EY,Ur,JP]
  cases hb:(K9 vs _).1 with
  | false=>
   rw[hb]at hx
   rw[Ah  (by
    unfold Ez;simp only[hd, Ad (Ao hi),Ec];rw[ hx]
    rfl),An,hb]
   rfl
  | true=>
   rw[hb]at hx
   rw[Aq (s':=(((i+1:Nat):Int),(K9 vs _).2,f.Params,f.Ret,f.Blocks,l,t,u)) (by
    unfold Ez;simp only[hd, Ad (Ao hi),Ec];rw[ hx,A3 hi (by have:=hf.blocks;omega)]
    rfl),ih _ _ (by omega),Ae]
theorem okP{f:TFunc}(hf:OkF f):∀ i,i<f.Params.length->Qo (A1 f) i=true:=λi hi=>by
 have hl:=CY f
 have hg:∀ j,j<f.Params.length->(A1 f).getD j default=⟨j+1,-1,0,(f.Params.getD j 0,1)⟩:=λj hj=>by
  have e:Sh f=(List.range f.Params.length).map λi=>⟨(i:Int)+1,-1,0,(f.Params.getD i 0,1)⟩:=by
   unfold Sh
   induction List.range _ with
   | nil=>rfl
   | cons a l ih=>grind
  rw[A1,List.getD,Zc (by omega),e];simp[hj]
 have hle:i<(A1 f).length:=by rw[A1,Gk];omega
 rw[DI hle,hg i hi];refine⟨?_,λj hj=>?_⟩
 ·have:=hf.few;simp only[valS,Be,En];omega
 ·grind
theorem lD{f:TFunc}(hf:OkF f)(l:Int)(t:List Int)(u:List Bm):∃ vs,Ii f l t u=some (bif (List.range (A1 f).length).all (Qo (A1 f)) then 0 else 7,f,l,t,u,vs)/\((List.range (A1 f).length).all (Qo (A1 f))=true->vs=dv (A1 f)):=by
 have hsp:=QD ((List.range f.Blocks.length).flatMap λi=>Tc (f.Blocks.getD i default) i) (Sh f)
 have hall:(List.range (A1 f).length).all (Qo (A1 f))=(K9 (dv (Sh f)) ((List.range f.Blocks.length).flatMap λi=>Tc (f.Blocks.getD i default) i)).1:=by
  rw[hsp.1]
  show(List.range _).all _=(List.range' _ _).all (Qo (A1 f))
  have hs:List.range (A1 f).length=List.range (Sh f).length++List.range' (Sh f).length ((List.range f.Blocks.length).flatMap λi=>Tc (f.Blocks.getD i default) i).length:=by
   rw[Qv,Qv,A1,Gk];have:=List.range'_append_1 (s:=0) (m:=(Sh f).length) (n:=((List.range f.Blocks.length).flatMap λi=>Tc (f.Blocks.getD i default) i).length);rw[Ha]at this;exact this.symm
  rw[hs,List.all_append];have :=zzL30.2 λi hi=>okP hf i (by rw[<- CY f];exact zzL44.1 hi);rw[this,Ly]
 unfold Ii;have hp:=oO hf f.Params.length 0 (by omega);have e0:pv f 0=[]:=rfl;rw[e0,show(((0:Nat):Int))=0 from rfl]at hp;rw[hp,Ai,yx];have hb:=oJ hf l t u f.Blocks.length 0 (dv (Sh f)) (by omega);rw[show(((0:Nat):Int))=0 from rfl,<- Qv]at hb;rw[hb, hall];refine⟨(K9 _ _).2,?_,hsp.2⟩
 cases(K9 _ _).1<;>rfl
theorem DF{β S X:Type}(B:Nat)(mk:Int->List β->S)(out:List β->X)(n:Nat)(E:Nat->List β)(f:S->Option (LR S X))(hn:∀(acc:List β) (i:Nat),i<n->(acc++E i).length<=B->f (mk i acc)=some (.next (mk ((i:Int)+1) (acc++E i))))
  (hd:∀ acc:List β,f (mk n acc)=some (.done (out acc))):∀(k i:Nat) (acc:List β),i+k=n->(acc++(List.range' i k).flatMap E).length<=B->Ab f (mk i acc)=some (out (acc++(List.range' i k).flatMap E))
 | 0,i,acc,h,_=>by
  obtain rfl:i=n:=by omega
  rw[Ah (hd acc)]
  simp
 | k+1,i,acc,h,hB=>by
  have hi:i<n:=by omega
  rw[EY,Ur,<- Px]at hB ⊢;rw[Aq (hn acc i hi (by grind)),show(i+1)=((i+1:Nat):Int) by omega,DF B mk out n E f hn hd k _ _ (by omega) hB]
theorem dV{β γ:Type}(h:β->γ)(n:Nat)(g:Nat->β):(List.range' 0 n).flatMap (λj=>[h (g j)])=((List.range n).flatMap λj=>[g j]).map h:=by
 rw[List.map_flatMap,Qv];rfl
theorem RC{β γ:Type}(h:β->γ)(n:Nat)(g:Nat->List β):(List.range' 0 n).flatMap (λj=>(g j).map h)=((List.range n).flatMap g).map h:=by
 rw[List.map_flatMap,Qv]
def S4(f:TFunc)(b:Int):Int:=((f.Blocks.getD b.toNat default).Ops.length:Int)
def Jr(f:TFunc)(u:C9):Bm:=⟨u.V,u.Shape,⟨u.Block,bif u.At==1000 then S4 f u.Block else u.At⟩⟩
theorem jM(f:TFunc)(l:Int)(t:List Int)(vs:List (Int×Ay))(v:Int)(s:Int×Int)(p:L3)(u:List Bm)(h:(u++[(⟨v,s,p⟩:Bm)]).length<=10000000):Fe v s p f l t vs u=some (f,l,t,u++[⟨v,s,p⟩]):=by
 unfold Fe;rw[Aa (by rw[Gk]at h;rw[DO];omega)]
theorem oL(f:TFunc)(l:Int)(t:List Int)(vs:List (Int×Ay))(b:Int)(hb:A5 b f.Blocks.length)(u:List Bm):G4 b f l t vs u=some (⟨b,S4 f b⟩,f,l,t,u):=by
 unfold G4;rw[Aa hb];rfl
section
variable {f:TFunc} (hf:OkF f) (l:Int) (t:List Int) (vs:List (Int×Ay))
include hf
theorem wF(i k:Nat)(hi:i<f.Blocks.length)(hk:k<(f.Blocks.getD i default).Phis.length)(hfit:((f.Blocks.getD i default).Phis.getD k default).Args.length<=((f.Blocks.getD i default).Phis.getD k default).From.length)
  (hin:∀ x∈((f.Blocks.getD i default).Phis.getD k default).From,A5 x f.Blocks.length) (u:List Bm) (hB:(u++(N3 ((f.Blocks.getD i default).Phis.getD k default)).map (Jr f)).length<=10000000) :
  Ab (Et f vs (i:Int) (k:Int)) ((0:Int),f.Params,f.Ret,f.Blocks,l,t,u)=some (f.Params,f.Ret,f.Blocks,l,t,u++(N3 ((f.Blocks.getD i default).Phis.getD k default)).map (Jr f)):=by
 have hlen:=RS hf (getD_mem  hi) (getD_mem (d:=default) hk)
 generalize hp:(f.Blocks.getD i _).Phis.getD k _=p at *
 have e:=dV (Jr f) p.Args.length λj=>⟨p.Args.getD j 0,p.From.getD j 0,1000,(p.Bits,1)⟩
 have:=DF _ (λj u=>(j,f.Params,f.Ret,f.Blocks,l,t,u)) (λu=>(f.Params,f.Ret,f.Blocks,l,t,u)) _ (λj=>[Jr f _]) (Et f vs i k) (λacc j hj hacc=>by
  unfold Et E0
  have hd:decide (j<(p.Args.length:Int))=true:=by simpa using hj
  have hjf:j<p.From.length:=by omega
  simp only[Ec,hp,hd,Ae,Ad (Ao hj),Ai,Ad (Ao hjf)];rw[ oL f l t vs _ (hin _ (getD_mem hjf)),Ai];have eu:Jr f ⟨p.Args.getD j 0,p.From.getD j 0,1000,(p.Bits,1)⟩=⟨p.Args.getD j 0,(p.Bits,1),⟨p.From.getD j 0,S4 f _⟩⟩:=rfl;rw[eu]at hacc ⊢
  rw[jM f l t vs _ _ _ acc hacc,Ai,A3 hj (by omega)]) (λacc=>by unfold Et;simp only[Ec,hp,show decide (p.Args.length<(p.Args.length:Int))=false by simp,An]) p.Args.length 0 u (by omega) (by rw[e];exact hB)
 rw[e]at this;exact this
theorem sd(i:Nat)(hi:i<f.Blocks.length)(hfit:∀ p∈(f.Blocks.getD i default).Phis,p.Args.length<=p.From.length/\∀ x∈p.From,A5 x f.Blocks.length)(u:List Bm)(hB:(u++(Nd (f.Blocks.getD i default)).map (Jr f)).length<=10000000) :
  Ab (Eu f vs (i:Int)) ((0:Int),f.Params,f.Ret,f.Blocks,l,t,u)=some (f.Params,f.Ret,f.Blocks,l,t,u++(Nd (f.Blocks.getD i default)).map (Jr f)):=by
 have hBk:=hf.block _ (getD_mem (d:=default) hi);have e:=RC (Jr f) (f.Blocks.getD i default).Phis.length λk=>N3 ((f.Blocks.getD i default).Phis.getD k default)
 have:=DF _ (λj u=>(j,f.Params,f.Ret,f.Blocks,l,t,u)) (λu=>(f.Params,f.Ret,f.Blocks,l,t,u)) _ _ (Eu f vs i) (λacc k hk hacc=>by
  have hq:=hfit _ (getD_mem (d:=default) hk);have h1:=wF hf l t vs i k hi hk hq.1 hq.2 acc hacc;unfold Eu
  have hd:decide ((k:Int)<(f.Blocks.getD i default).Phis.length)=true:=by simpa using hk
  simp only[Ec,hd,Ae,Ad (Ao hk),h1,Ai,A3 hk (by have:=hBk.phis;omega)]) (λacc=>by unfold Eu;simp) (f.Blocks.getD i default).Phis.length 0 u (by omega) (by rw[e];exact hB)
 rw[e]at this;exact this
theorem yb(i k:Nat)(hi:i<f.Blocks.length)(hk:k<(f.Blocks.getD i default).Ops.length)(u:List Bm)(hB:(u++(Qt ((f.Blocks.getD i default).Ops.getD k default) i k).map (Jr f)).length<=10000000) :
  Ab (Ew f vs (i:Int) (k:Int) (Hc ((f.Blocks.getD i default).Ops.getD k default))) ((0:Int),f.Params,f.Ret,f.Blocks,l,t,u)=some (f.Params,f.Ret,f.Blocks,l,t,u++(Qt ((f.Blocks.getD i default).Ops.getD k default) i k).map (Jr f)):=by
 have hBk:=hf.block _ (getD_mem (d:=default) hi);have hlen:=Yo (jl hf (getD_mem  hi) (getD_mem (d:=default) hk));have hk512:=hBk.ops
 generalize hp:(f.Blocks.getD i _).Ops.getD k _=o at *
 have e:=dV (Jr f) (Hc o).length λj=>⟨o.Args.getD j 0,i,k,(Hc o).getD j (0,0)⟩
 have:=DF _ (λj u=>(j,f.Params,f.Ret,f.Blocks,l,t,u)) (λu=>(f.Params,f.Ret,f.Blocks,l,t,u)) _ (λj=>[Jr f _]) (Ew f vs i k (Hc o)) (λacc j hj hacc=>by
  have hkk:((k:Int)==1000)=false:=by simp;omega
  have eu:Jr f ⟨o.Args.getD j 0,i,k,(Hc o).getD j (0,0)⟩=⟨o.Args.getD j 0,(Hc o).getD j (0,0),⟨i,k⟩⟩:=by unfold Jr;simp only[hkk,An]
  rw[eu]at hacc ⊢;unfold Ew
  have hd:decide (j<((Hc o).length:Int))=true:=by simpa using hj
  have hja:j<o.Args.length:=by omega
  simp only[Ec,hp,hd,Ae,Ad (Ao hj),Ad (Ao hja)]
  rw[ jM f l t vs _ _ _ acc hacc,Ai,A3 hj (by omega)]) (λacc=>by unfold Ew;simp) (Hc o).length 0 u (by omega) (by rw[e];exact hB)
 rw[e]at this;exact this
theorem wE(i:Nat)(hi:i<f.Blocks.length)(u:List Bm)(hB:(u++(S5 (f.Blocks.getD i default) i).map (Jr f)).length<=10000000) :
  Ab (Ex f vs (i:Int)) ((0:Int),f.Params,f.Ret,f.Blocks,l,t,u)=some (f.Params,f.Ret,f.Blocks,l,t,u++(S5 (f.Blocks.getD i default) i).map (Jr f)):=by
 have hmem:=getD_mem (d:=default) hi;have hBk:=hf.block _ hmem;have e:=RC (Jr f) (f.Blocks.getD i default).Ops.length λk=>Qt ((f.Blocks.getD i default).Ops.getD k default) i k
 have:=DF _ (λj u=>(j,f.Params,f.Ret,f.Blocks,l,t,u)) (λu=>(f.Params,f.Ret,f.Blocks,l,t,u)) _ _ (Ex f vs i) (λacc k hk hacc=>by
  have h1:=yb hf l t vs i k hi hk acc hacc;have ht:Qh _=some (Hc ((f.Blocks.getD i _).Ops.getD k default)):=gB _ (ln hf hmem (getD_mem hk));unfold Ex
  have hd:decide (k<((f.Blocks.getD i default).Ops.length:Int))=true:=by simpa using hk
  simp only[Ec,hd,Ae,Ad (Ao hk),ht,h1,Ai,A3 hk (by have:=hBk.ops;omega)]) (λacc=>by unfold Ex;simp) (f.Blocks.getD i default).Ops.length 0 u (by omega) (by rw[e];exact hB)
 rw[e]at this;exact this
theorem lB (hfit : ∀ b ∈ f.Blocks, ∀ p ∈ b.Phis, p.Args.length ≤ p.From.length ∧ ∀ x ∈ p.From, A5 x f.Blocks.length) : Ih f l t vs [] = some (f, l, t, (B5 f).map (Jr f)) := by
  have e := RC (Jr f) f.Blocks.length fun (i : Nat) => IR f (f.Blocks.getD i default) i; have hul := KZ hf
  have := DF 10000000 (fun j u => (j, f.Params, f.Ret, f.Blocks, l, t, u)) (fun u => (f.Params, f.Ret, f.Blocks, l, t, u)) f.Blocks.length (fun (i : Nat) => (IR f (f.Blocks.getD i default) i).map (Jr f)) (Ey f vs) (fun acc i hi hacc => by
    have hmem := getD_mem (d := (default : Am)) hi; unfold IR at hacc ⊢; rw [LJ, LJ, ← Px, ← Px] at hacc ⊢; have l1 := hacc; simp only [Gk, Ze] at l1; have h1 := sd hf l t vs i hi (hfit _ hmem) acc (by simp only [Gk, Ze]; omega); have h2 := wE hf l t vs i hi (acc ++ (Nd (f.Blocks.getD i default)).map (Jr f)) (by simp only [Gk, Ze]; omega); have hinb : A5 (i : Int) f.Blocks.length := Ao hi; unfold Ey E0
    have hd : decide ((i : Int) < (f.Blocks.length : Int)) = true := by simpa using hi
    simp only [hd, Ae, Ad (Ao hi), h1, Ai, h2, Ec]; have hF : (⟨f.Params, f.Ret, f.Blocks⟩ : TFunc) = f := rfl; have hw : w64 ((i : Int) + 1) = (i : Int) + 1 := A3 hi (by have := hf.blocks; omega); unfold Yq at hacc ⊢
    cases hz : ((f.Blocks.getD i default).End.Kind == 0) with
    | true =>
      have hz2 : ((f.Blocks.getD i default).End.Kind == 2) = false := by have : (f.Blocks.getD i default).End.Kind = 0 := by simpa using hz
                                                                         rw [this]; rfl
      rw [hz, hz2] at hacc; simp only [Ae, An, hz2, List.append_nil, Cy, Dn] at hacc ⊢; rw [hF, oL f l t vs _ hinb, Ai]; simp only; rw [jM f l t vs _ _ _ _ (show (_ ++ [(⟨_, _, ⟨(i : Int), S4 f (i : Int)⟩⟩ : Bm)]).length ≤ 10000000 from hacc), Ai, Ai, hw]
      rfl
    | false =>
      rw [hz] at hacc
      cases hz2 : ((f.Blocks.getD i default).End.Kind == 2) with
      | true =>
        rw [hz2] at hacc; simp only [Ae, An, W9, Cy, Dn] at hacc ⊢; rw [hF, oL f l t vs _ hinb, Ai]; simp only; rw [jM f l t vs _ _ _ _ (show (_ ++ [(⟨_, _, ⟨(i : Int), S4 f (i : Int)⟩⟩ : Bm)]).length ≤ 10000000 from hacc), Ai, Ai, hw]
        rfl
      | false =>
        simp only [An, W9, Dn, List.append_nil, Ai, hw]) (fun acc => by unfold Ey; simp) f.Blocks.length 0 [] (by omega) (by rw [e]; simpa [B5] using (by omega : (B5 f).length ≤ 10000000))
  rw [e, W9] at this; unfold Ih; rw [show (0 : Int) = ((0 : Nat) : Int) from rfl]
  show ((Ab (Ey f vs) (((0 : Nat) : Int), f.Params, f.Ret, f.Blocks, l, t, [])).bind _) = _
  rw [this, Ai]
  rfl
end
theorem sR{σ X:Type}(mk:Int->σ)(U:List Bm)(p:Bm->Bool)(f:σ->Option (LR σ X))(yes no:X)(hk:∀ i:Nat,i<U.length->f (mk i)=some (bif p (U.getD i default) then .next (mk ((i:Int)+1)) else .done no))(he:f (mk U.length)=some (.done yes)) :
  ∀ k i:Nat,i+k=U.length->Ab f (mk i)=some (bif (U.drop i).all p then yes else no)
 | 0,i,h=>by
  obtain rfl:i=U.length:=by omega
  rw[Ah he]
  simp
 | k+1,i,h=>by
  have hi:i<U.length:=by omega
  have hdr:U.drop i=U.getD i default::U.drop (i+1):=by simp_all
  have hx:=hk i hi;rw[hdr,FC]
  cases hp:p _ with
  | true=>
   rw[hp]at hx;rw[Aq hx,show((i:Int)+1)=(i+1:Nat) by omega,sR mk U p f yes no hk he k _ (by omega),Ly]
  | false=>
   rw[hp]at hx;rw[Ah hx]
   rfl
theorem QH(d:TDef)(l:List TDef)(v:Int):Lk (d::l) v=bif d.V==v then 0 else bif decide (Lk l v<0) then -1 else Lk l v+1:=by
 unfold Lk;rw[List.findIdx?_cons]
 cases d.V==v with
 | true=>rfl
 | false=>
  grind
theorem RE(v:Int):∀ l:List TDef,C2 (dv l) v = !decide (Lk l v<0)
 | []=>rfl
 | d::l=>by
  rw[QH]
  show((v==d.V) || C2 (dv l) v)=_
  rw[RE v l,show(v==d.V)=(d.V==v) by grind]
  cases d.V==v with
  | true=>rfl
  | false=>
   grind
theorem FW(v:Int):∀ l:List TDef,¬ Lk l v<0->mget (default:Ay) (dv l) v=OK (defOf l v)
 | [],h=>absurd (show -1<0 by decide) h
 | d::l,h=>by
  unfold defOf;rw[QH]at h ⊢
  show(bif v==d.V then OK d else mget _ (dv l) v)=_
  rw[show(v==d.V)=(d.V==v) by grind]
  cases hb:d.V==v with
  | true=>rfl
  | false=>
   rw[hb]at h
   by_cases hn:Lk l v<0
   ·simp[hn]at h
   ·have hz :=B7 hn;simp only[An,hz];rw[FW v l hn,show(Lk l v+1).toNat=(Lk l v).toNat+1 by omega]
    rfl
def mn(f:TFunc)(d:TDef):Prop:=d.Block = -1\/(A5 d.Block f.Blocks.length/\d.At<S4 f d.Block/\d.At<1000)
def ug(f:TFunc)(u:C9):Prop:=A5 u.Block f.Blocks.length/\0<=u.At
theorem sl{f:TFunc}(hf:OkF f):∀ d∈A1 f,mn f d:=λd hd=>by
 rcases zzL18.1 hd with h|h
 ·obtain⟨i,_,hi⟩:=zzL72.1 h;rw[zzL24.1 hi];exact .inl rfl
 ·obtain⟨i,hi,h⟩:=zzL72.1 h
  have hi :=by simpa using hi
  have hB:=hf.block _ (getD_mem (d:=default) hi);have ho:S4 f i=(f.Blocks.getD i default).Ops.length:=rfl;rcases zzL18.1 h with h|h
  ·obtain⟨k,hk,h⟩:=zzL72.1 h;rw[zzL24.1 h];refine .inr ⟨Ao hi,?_,?_⟩
   ·grind
   ·grind
  ·obtain⟨k,hk,h⟩:=zzL72.1 h
   have hk:k<(f.Blocks.getD i default).Ops.length:=by simpa using hk
   cases hg:decide (0<(Ll _).1) with
   | false=>rw[hg]at h;cases h
   | true=>
    rw[hg]at h;rw[zzL24.1 h];refine .inr ⟨Ao hi,?_,?_⟩
    ·grind
    ·show(k:Int)<1000;have:=hB.ops;omega
theorem uQ{f:TFunc}(hfit:∀ b∈f.Blocks,∀ p∈b.Phis,p.Args.length<=p.From.length/\∀ x∈p.From,A5 x f.Blocks.length):∀ u∈B5 f,ug f u:=λu hu=>by
 obtain⟨i,hi,h⟩:=zzL72.1 hu
 have hi :=by simpa using hi
 have hmem:=getD_mem (d:=default) hi;rcases zzL18.1 h with h|h
 ·rcases zzL18.1 h with h|h
  ·obtain⟨k,hk,h⟩:=zzL72.1 h
   have hk :=by simpa using hk
   obtain⟨j,hj,h⟩:=zzL72.1 h;have hj:=zzL44.1 hj;have hq:=hfit _ hmem _ (getD_mem (d:=default) hk);rw[zzL24.1 h];exact⟨hq.2 _ (getD_mem (by omega)),by grind⟩
  ·obtain⟨k,hk,h⟩:=zzL72.1 h;obtain⟨j,hj,h⟩:=zzL72.1 h;rw[zzL24.1 h];exact⟨Ao hi,by grind⟩
 ·unfold Yq at h
  have:u=⟨(f.Blocks.getD i default).End.Arg,i,1000,(f.Ret,1)⟩\/u=⟨(f.Blocks.getD i default).End.Arg,i,1000,(1,1)⟩:=by
   grind
  rcases this with rfl|rfl<;>exact⟨Ao hi,by grind⟩
theorem wQ{f:TFunc}(h:Ia f=true):∀ b∈f.Blocks,∀ p∈b.Phis,p.Args.length<=p.From.length/\∀ x∈p.From,A5 x f.Blocks.length:=λb hb p hp=>by
 have hs :=by simp only[Ia,Be]at h;exact h.1
 refine⟨YG h b hb p hp,λx hx=>?_⟩;obtain⟨i,hi,rfl⟩:=Qw hb;simp only[Ia,Be]at h;have h1:=nj h.2 i hi;simp only[Pf,Be,zzL30]at h1;rw[Af _ _ _ hi]at h1;have h2:=h1.2 p hp;simp only[Lt,Be,En]at h2;rw[h2.1]at hx;obtain⟨q,rfl,hq,_⟩:=(IC  (So hs)  (by rw[BU];exact hi)).1 hx;exact Ao (by rw[BU]at hq;exact hq)
theorem gp{f:TFunc}(h:Ia f=true){b:Int}(hb:A5 b f.Blocks.length):Wx (Dy f) 0 b=true:=by
 have hs :=by simp only[Ia,Be]at h;exact h.1
 have hm:=So hs;have hlen:=BU f
 have hpos:0<(Dm f).length:=by have:=(shape_iff.1 hs).1.1;omega
 obtain⟨P,hP,o,ht⟩:=mO hm hpos
 have e:Dy f=CF (Dm f) 0:=by
  unfold Dy SW;rw[if_pos ⟨dW hm,Int.le_refl _,by show(0:Int)<(Dm f).length;omega⟩]
  rfl
 obtain⟨k,rfl⟩:∃ k:Nat,b=k:=⟨b.toNat,(CN hb.1).symm⟩
 have hk:k<f.Blocks.length:=by have:=hb.2;omega
 simp only[Ia,Be]at h;have h1:=nj h.2 k hk;simp only[Pf,Be]at h1;have hr :=(IG (Zb hm) hpos k).1 h1.1.1;rw[e];refine(ht.over_dom o hpos (by omega)).2 ⟨rc_iff.2 hr,λha=>?_⟩;exact(av_iff.1 ha).1 rfl
theorem AQ{l:List C9}{g:C9->Bm}{p:Bm->Bool}{q:C9->Bool}(h:∀ u∈l,p (g u)=q u):(l.map g).all p=l.all q:=by
 grind
def sq(vs:List (Int×Ay))(u:Bm):Bool:=((mget (default:Ay) vs u.v).shape.1==u.shape.1)&&(((mget (default:Ay) vs u.v).shape.2==u.shape.2)&&true)
def FN(vs:List (Int×Ay))(t:List Int)(u:Bm):Bool:=bif (mget (default:Ay) vs u.v).place.block==u.place.block then decide ((mget (default:Ay) vs u.v).place.at_<u.place.at_) else Wx t (mget (default:Ay) vs u.v).place.block u.place.block
theorem ng{f:TFunc}(hs:Ia f=true){D:List TDef}(hD:∀ d∈D,mn f d){u:C9}(hu:ug f u)(hfd:Ma D u=true):FN (dv D) (Dy f) (Jr f u)=Y2 D (Dy f) u:=by
 have hF:¬ Lk D u.V<0:=by simpa [Ma] using hfd
 have hin:=QI hF;have hd:mn f (defOf D u.V):=hD _ (by unfold defOf;exact getD_mem (by have:=hin.1;have:=hin.2;omega));have hg:mget (default:Ay) (dv D) (Jr f u).v=OK (defOf D u.V):=FW u.V D hF;unfold FN Y2;rw[hg]
 generalize defOf D u.V=d at *
 have hub:=hu.1.1
 have hul:0<=S4 f u.Block:=by unfold S4;omega
 have hat:∀ a:Int,a<0\/(a<S4 f u.Block/\a<1000)->decide (a<(Jr f u).place.at_)=decide (a<u.At)\/a<0:=λa ha=>by
  rcases ha with ha|ha
  ·exact .inr ha
  ·refine .inl ?_
   show decide (a<bif u.At==1000 then S4 f u.Block else u.At)=_
   by_cases h:u.At=1000
   ·rw[h];simp only[show((1000:Int)==1000)=true from rfl,Ae];rw[Bv ha.1,Bv ha.2]
   ·have:(u.At==1000)=false:=by simpa using h
    rw[this];rfl
 have hpos:0<=(Jr f u).place.at_:=by
  show 0<=bif u.At==1000 then S4 f u.Block else u.At
  cases u.At==1000
  ·exact hu.2
  ·exact hul
 have hblk:(Jr f u).place.block=u.Block:=rfl;rw[hblk];rcases hd with hd|⟨hd1,hd2,hd3⟩
 ·have e:(OK d).place=⟨0,-1⟩:=by show un d=_;unfold un;rw[hd];rfl
  rw[e,hd,Bv (show(-1:Int)<0 by decide)];rw[Bool.true_or,Bool.true_or,gp hs hu.1,Bv (show(-1:Int)<(Jr f u).place.at_ by omega)]
  cases(0:Int)==u.Block<;>rfl
 ·have hn:¬ d.Block<0:=by have:=hd1.1;omega
  have e:(OK d).place=⟨d.Block,d.At⟩:=by show un d=_;unfold un;rw[B7 hn];rfl
  rw[e,B7 hn,TE]
  cases hb:d.Block==u.Block with
  | true=>
   have hbe:d.Block=u.Block:=by simpa using hb
   simp only[Ae,Ly,E7,Yr,Bool.or_false];rcases hat d.At (.inr ⟨by rw[<- hbe];exact hd2,hd3⟩) with h|h
   ·exact h
   ·rw[Bv (by omega),Bv (by have:=hu.2;omega)]
  | false=>
   simp only[An,Yr,TE,Mr,Ly];unfold Wx
   by_cases hm:Qn (Dy f) d.Block u.Block=d.Block
   ·rw[hm]
    have:(d.Block !=-2)=true:=by simp;omega
    simp[this]
   ·have:(Qn (Dy f) d.Block u.Block==d.Block)=false:=by simpa using hm
    simp[this,bne]
section
variable {f:TFunc} (l:Int) (vs:List (Int×Ay))
def me(f:TFunc)(l:Int)(U:List Bm)(i:Int):Int×List Int×Int×List Am×Int×List Int×List Bm:=(i,f.Params,f.Ret,f.Blocks,l,Dy f,U)
def mf(f:TFunc)(l:Int)(U:List Bm):List Int×Int×List Am×Int×List Int×List Bm:=(f.Params,f.Ret,f.Blocks,l,Dy f,U)
theorem sf(U:List Bm)(hU:U.length<9223372036854775808):Ab (F2 vs (f,l,Dy f,U)) (me f l U 0)=some (bif U.all (λu=>C2 vs u.v) then .inl (mf f l U) else .inr (mf f l U)):=by
 have:=sR (me f l U) U (λu=>C2 vs u.v) (F2 vs (f,l,Dy f,U)) _ _ (λi hi=>by
  unfold F2 me Lp
  have hd:decide (i<(U.length:Int))=true:=by simpa using hi
  simp only[hd, Ad (Ao hi),Ec, A3 hi hU]
  cases C2 vs _<;>rfl) (by unfold F2 me;simp;rfl) U.length 0 (by omega)
 exact this
theorem sg(U:List Bm)(hU:U.length<9223372036854775808):Ab (F3 vs U) (me f l U 0)=some (bif U.all (sq vs) then .inl (mf f l U) else .inr (mf f l U)):=by
 have:=sR (me f l U) U (sq vs) (F3 vs U) _ _ (λi hi=>by
  unfold F3 me Nr
  have hd:decide (i<(U.length:Int))=true:=by simpa using hi
  simp only[hd, Ad (Ao hi),Ec, A3 hi hU];unfold sq
  cases(((mget _ vs _).shape.1==(U.getD i _).shape.1)&&(((mget _ vs _).shape.2==(U.getD i _).shape.2)&&true))<;>rfl) (by unfold F3 me;simp;rfl) U.length 0 (by omega)
 exact this
theorem si(htl:(Dy f).length<=1000)(U:List Bm)(hU:U.length<9223372036854775808):Ab (F4 vs U) (me f l U 0)=some (bif U.all (FN vs (Dy f)) then .inl (mf f l U) else .inr (mf f l U)):=by
 have:=sR (me f l U) U (FN vs _) (F4 vs U) _ _ (λi hi=>by
  have hx:Ij (U.getD i default) f l (Dy f) vs U=some (FN vs (Dy f) (U.getD i default),f,l,Dy f,U):=by
   unfold Ij FN;rw[wU htl]
   cases(mget _ vs _).place.block==(U.getD i _).place.block<;>rfl
  unfold F4 me
  have hd:decide ((i:Int)<U.length)=true:=by simpa using hi
  simp only[hd, Ad (Ao hi),Ec];rw[ hx, A3 hi hU]
  cases FN vs _ _<;>rfl) (by unfold F4 me;simp;rfl) U.length 0 (by omega)
 exact this
end
def eV(f:TFunc):Int:=bif !(B5 f).all (Ma (A1 f)) then 7 else bif !(B5 f).all (Y3 (A1 f)) then 6 else bif !(B5 f).all (Y2 (A1 f) (Dy f)) then 7 else 0
theorem wL{f:TFunc}(hf:OkF f)(hs:Ia f=true)(l:Int):∃ U,Km f l (Dy f) (dv (A1 f)) []=some (eV f,f,l,Dy f,U):=by
 have hfit:=wQ hs;have hul:=KZ hf
 have hsB :=by simp only[Ia,Be]at hs;exact hs.1
 refine⟨(B5 f).map (Jr f),?_⟩
 have hU:((B5 f).map (Jr f)).length<9223372036854775808:=by grind
 have h1:=sf (f:=f) l (dv (A1 f)) _ hU;have h2:=sg (f:=f) l (dv (A1 f)) _ hU;have h3:=si  l (dv (A1 f)) (eT hsB) _ hU;rw[AQ (q:=Ma _) (λu _=>RE u.V _)]at h1;unfold Km eV Ym;rw[lB hf l _ _ hfit,Ai];rw[show(Ab _ ((0:Int),f.Params,f.Ret,f.Blocks,l,Dy f,(B5 f).map _))=_ from h1,Ai];have fin:∀ e ,Ab Pq (e,f.Params,f.Ret,f.Blocks,l,Dy f,(B5 f).map (Jr f))=some _:=λe=>Ah rfl
 cases hfd:(B5 f).all _ with
 | false=>simp only[An,Mr,Ae,mf,Ai,fin]
 | true=>
  have hmf:=zzL30.1 hfd
  rw[AQ (q:=Y3 _) (λu hu=>by
   have:=hmf u hu;simp only[Ma,Su,TG]at this;have hg:mget _ _ (Jr f u).v=OK _:=FW u.V _ this;unfold sq Y3
   rw[hg];rfl)]at h2
  rw[AQ  (λu hu=>ng hs (sl hf) (uQ hfit u hu) (hmf u hu))]at h3;simp only[Ae,E7, mf];rw[show(Ab _ ((0:Int),f.Params,f.Ret,f.Blocks,l,Dy f,(B5 f).map _))=_ from h2,Ai]
  cases(B5 f).all _ with
  | false=>simp only[An,Mr,Ae,mf,Ai,fin]
  | true=>
   simp only[Ae,E7, mf];rw[show(Ab _ ((0:Int),f.Params,f.Ret,f.Blocks,l,Dy f,(B5 f).map _))=_ from h3]
   cases(B5 f).all _ with
   | false=>simp only[An,Mr,Ae,mf,Ai,fin]
   | true=>simp only[Ae,E7,An,mf,Ai]
theorem jN{f:TFunc}(h:Sm f)(l:Int)(h0:0<=l)(h2:l<=2):∃ t u vs,Hl f l [] []=some (Da f l,f,l,t,u,vs)/\(Da f l=0->vs=dv (A1 f)):=by
 have hc:Da f l=bif !V1 f then 4 else TA f l:=by
  unfold Da;rw[B7 (by omega),B7 (by omega)];rfl
 rw[hc];unfold Hl;rw[wK f h.1,Ai]
 cases hm:V1 f with
 | false=>simp_all
 | true=>
  have hf:=qA h hm;simp only[    TA];obtain⟨t',hsh,hst⟩:=oP hf l [] [];rw[hsh,Ai]
  cases hs:Ia f with
  | false=>simp_all
  | true=>
   obtain rfl:=hst hs;rw[se hf l h0 h2,Ai]
   cases Uo f l with
   | false=>simp_all
   | true=>
    obtain⟨vs,hd,hv⟩:=lD hf l _ [];rw[hd,Ai]
    cases hdd:(List.range _).all _ with
    | false=>grind
    | true=>
     obtain rfl:=hv hdd;obtain⟨U,hu⟩:=wL hf hs l;rw[hu];refine⟨Dy f,U,dv _,?_,λ_=>rfl⟩
     show(bif eV f !=0 then some _ else some _)=some (eV f,f,l,Dy f,U,dv _)
     cases hz:eV f !=0 with
     | true=>rfl
     | false=>
      grind
theorem sa(f:TFunc)(l:Int)(h:Sm f):Sa f l=some (Da f l):=by
 unfold Sa
 by_cases h0:l<0
 · unfold Da;rw[Bv h0];rfl
 ·by_cases h2:2<l
  · unfold Da;rw[B7 h0,Bv h2];rfl
  ·obtain⟨t,u,vs,hw,_⟩:=jN h l (by omega) (by omega);rw[B7 h0,B7 h2,hw];rfl
def lone(e:M0)(b r:Int):TFunc:=⟨[b],r,[⟨[],[],e⟩]⟩
theorem Aas{α:Type}(l:List α):(l.map λ_=>1).sum=l.length:=by induction l with|nil=>rfl|cons a l ih=>simp[ih];omega
def uF(l:List TDef):List (Int×(Int×Int)):=l.map λd=>(d.V,d.Shape)
theorem FR{f:TFunc}(h:(List.range (A1 f).length).all (Qo (A1 f))=true):((A1 f).map (·.V)).Nodup:=by
 rw[List.nodup_iff_pairwise_ne,List.pairwise_map,zzL105];intro i j hi hj hij he;have:=((DI hj).1 (nj h j hj)).2 i hij;rw[Af _ _ _ hi,Af _ _ _ hj]at this;exact this he
theorem SO{x1:Int×TFunc×Int×List Int×List Bm×List (Int×Ay)}(D:List TDef)(hx:x1.2.2.2.2.2=dv D)(hn:(D.map (·.V)).Nodup):∀(τ:List Nat) (acc:List (Int×(Int×Int))),τ.Nodup->(∀ i∈τ,i<D.length)->(∀ i∈τ,C2 acc (D.getD i default).V=false)->
  BV (Kk x1) M9 τ acc=some (acc++τ.map λi=>((D.getD i default).V,(D.getD i default).Shape))
 | [],acc,_,_,_=>by simp[BV,M9]
 | i::τ,acc,hd,hin,hf=>by
  have hi:=hin i (by simp)
  have hg:(dv D).getD i ((0:Int),(default:Ay))=((D.getD i default).V,OK (D.getD i default)):=by
   unfold dv;simp[List.getD,hi]
  have hm:=DG (D.getD i default).V (D.getD i default).Shape (hf i (by simp))
  have hstep:Kk x1 i acc=some (.next (acc++[((D.getD i default).V,(D.getD i default).Shape)])):=by
   unfold Kk;rw[hx,hg]
   show some (LR.next (Hr acc (D.getD i default).V ((D.getD i default).Shape.1,(D.getD i default).Shape.2)))=_
   rw[show((D.getD i default).Shape.1,(D.getD i default).Shape.2)=(D.getD i default).Shape from rfl,hm]
  unfold BV;rw[hstep]
  show BV _ _ τ _=_
  rw[SO D hx hn τ _ (zzL81.1 hd).2 (λj hj=>hin j (by simp[hj])) (λj hj=>?_),Cy,Px]
  ·rfl
  ·have h1:=hf j (by simp[hj]);rw[BE]at h1 ⊢;rw[List.any_append,h1,TE];have hj':=hin j (by simp[hj]);have hne:j≠i:=λe=>(zzL81.1 hd).1 (e▸hj)
   have:(D.getD j default).V≠(D.getD i default).V:=λe=>by
    rw[List.nodup_iff_pairwise_ne,List.pairwise_map,zzL105]at hn;rw[Af _ _ _ hi,Af _ _ _ hj']at e;rcases Nat.lt_or_gt_of_ne hne with h|h
    ·exact hn j i hj' hi h e
    ·exact hn i j hi hj' h e.symm
   simpa using this
theorem cg(f:TFunc)(h:Sm f):∃ s,Qc f=some s/\nR f s:=by
 obtain⟨t,u,vs,hw,hv⟩:=jN h 2 (by omega) (by omega);unfold Qc;rw[hw,Ai]
 cases hc:(Da f 2 !=0) with
 | true=>
  have hne:Da f 2≠0:=by simpa using hc
  exact⟨[],rfl,λ_=>rfl,λe=>absurd e hne,λe=>absurd e hne,λe=>absurd e hne⟩
 | false=>
  have h0:Da f 2=0:=by simpa using hc
  obtain rfl:=hv h0;have hz:=(FP (f:=f) (l:=2) (by omega) (by omega)).1 h0
  have hall:(List.range (A1 f).length).all (Qo (A1 f))=true:=by
   have:=hz.2.2.2;unfold eG at this
   cases hb:(List.range (A1 f).length).all (Qo (A1 f)) with
   | true=>rfl
   | false=>rw[hb]at this;cases this
  have hn:=FR hall
  have hlen:(mapE (λ(v_:Ay)=>((.agg (Xk v_)):AV)) (dv (A1 f))).length=(A1 f).length:=by simp[mapE,dv]
  have hkeys:((uF (A1 f)).map (·.1)).Nodup:=by
   have:(uF (A1 f)).map (·.1)=(A1 f).map (·.V):=by unfold uF;rw[List.map_map];rfl
   rw[this];exact hn
  have hrun:∀ τ:List Nat,τ.Perm (List.range (mapE (λ(v_:Ay)=>((.agg (Xk v_)):AV)) (dv (A1 f))).length)->∃ x',BV (Kk (Da f 2,f,2,t,u,dv (A1 f))) M9 τ ([]:List (Int×(Int×Int)))=some x'/\XU x' (uF (A1 f)):=λτ hτ=>by
   rw[hlen]at hτ;have hr:=SO (x1:=(Da f 2,f,2,t,u,dv (A1 f))) (A1 f) rfl hn τ [] (hτ.nodup_iff.2 List.nodup_range) (λi hi=>zzL44.1 (hτ.mem_iff.1 hi)) (λ_ _=>rfl);refine⟨_,hr,?_,hkeys⟩;rw[W9];have:=hτ.map λi=>(((A1 f).getD i default).V,((A1 f).getD i default).Shape);refine this.trans ?_
   have e:(List.range (A1 f).length).map (λi=>(((A1 f).getD i default).V,((A1 f).getD i default).Shape))=uF (A1 f):=by
    unfold uF
    apply EZ
    ·simp
    ·intro i h1 h2;simp only[Ze,Zd]at h1;simp only[List.getElem_map,List.getElem_range,Af _ _ _ h1]
   rw[e]
  obtain⟨s,hs⟩:=lv ⟨uF (A1 f),hrun⟩
  have hp:s.Perm (uF (A1 f))/\(s.map (·.1)).Nodup:=by
   have hsp:=MZ hs (List.range _) (List.Perm.refl _);obtain⟨x',h1,h2⟩:=hsp;obtain⟨x2,h3,h4⟩:=hrun (List.range _) (List.Perm.refl _);rw[h1]at h3;obtain rfl:=OI h3;exact⟨h2.1.symm.trans h4.1,h2.2⟩
  refine⟨s,?_,λhne=>absurd h0 hne,λ_=>?_,λ_ d hd=>?_,λ_ v hv=>?_⟩
  ·show(FY XU _ _ _ _).bind _=_
   rw[hs];rfl
  ·rw[hp.1.length_eq];simp[uF]
  ·have hm:(d.V,d.Shape)∈s:=hp.1.mem_iff.2 (zzL27.2 ⟨d,hd,rfl⟩);exact RD hp.2 hm
  ·rw[BE,List.any_eq_true]at hv;obtain⟨q,hq,he⟩:=hv;obtain⟨d,hd,rfl⟩:=zzL27.1 (hp.1.mem_iff.1 hq);exact⟨d,hd,by simpa using(by simpa using he:v=d.V).symm⟩
abbrev bA(f:TFunc)(i:Nat):Am:=f.Blocks.getD i default
def ton(f:TFunc)(i:Nat)(k:Nat):Int:=(bA f i).End.To.getD k 0
structure Rt(f:TFunc):Prop where
 lo:1<=f.Blocks.length
 hi:f.Blocks.length<=64
 to:∀ i,i<f.Blocks.length->∀ k,k<(bA f i).End.To.length->0<ton f i k/\ton f i k<f.Blocks.length
 one:∀ i,i<f.Blocks.length->(bA f i).End.Kind=1->(bA f i).End.To.length=1
 two:∀ i,i<f.Blocks.length->(bA f i).End.Kind=2->(bA f i).End.To.length=2
 may:Oa (Dm f)=true
 ok:OkF f
set_option maxRecDepth 100000
def Thr(f:TFunc)(d:TDef)(b a:Int):Prop:=d.Block<0\/(d.Block=b/\d.At<a)\/(d.Block≠b/\Wx (Dy f) d.Block b=true)
theorem ft{l:List TDef}(hn:(l.map (·.V)).Nodup){d:TDef}(hd:d∈l):0<=Lk l d.V/\defOf l d.V=d:=by
 obtain⟨i,hi,rfl⟩:=Qw hd
 have hx:∃ k,l.findIdx? (λe=>e.V==l[i].V)=some k:=by
  cases h:l.findIdx? _ with
  | some k=>exact⟨k,rfl⟩
  | none=>
   grind
 obtain⟨k,hk⟩:=hx;obtain⟨hk1,hk2,_⟩:=List.findIdx?_eq_some_iff_getElem.1 hk
 have e :=by
  have h1:(l.map (·.V))[k]'(by simpa using hk1)=(l.map (·.V))[i]'(by simpa using hi):=by simpa using hk2
  exact(List.getElem_inj hn).1 h1
 subst e;unfold defOf Lk;rw[hk];refine⟨by simp,?_⟩;rw[Ap,Af _ _ _ hi]
structure vk(f:TFunc)(l:Int):Prop where
 may:V1 f=true
 shape:Ia f=true
 typed:Uo f l=true
 rest:eG f=0
theorem uB{f:TFunc}{l:Int}(hl:0<=l/\l<=2):Da f l=0↔vk f l:=
 ⟨λh=>by obtain⟨a,b,c,d⟩:=(FP hl.1 hl.2).1 h;exact⟨a,b,c,d⟩,λh=>(FP hl.1 hl.2).2 ⟨h.1,h.2,h.3,h.4⟩⟩
section
variable {f:TFunc} {l:Int} (R:vk f l)
include R
theorem pr{b:Am}(hb:b∈f.Blocks){o:Ce}(ho:o∈b.Ops):Qq l o=true:=by
 have h:=R.typed;simp only[Uo,Jk,Be,zzL30]at h;exact(h.1.2 b hb).2 o ho
theorem pq{b:Am}(hb:b∈f.Blocks){o:Ce}(ho:o∈b.Ops):Lb o=true:=by
 have:=pr R hb ho;unfold Qq at this;simp only[Be]at this;exact this.1.1
theorem PD:(List.range (A1 f).length).all (Qo (A1 f))=true/\(∀ u∈B5 f,Ma (A1 f) u=true)/\(∀ u∈B5 f,Y3 (A1 f) u=true)/\∀ u∈B5 f,Y2 (A1 f) (Dy f) u=true:=by
 have h:=R.rest;unfold eG at h
 cases h1:(List.range _).all _ with
 | false=>rw[h1]at h;cases h
 | true=>grind
theorem g5{d e:TDef}(hd:d∈A1 f)(he:e∈A1 f)(hv:d.V=e.V):d=e:=by
 have hn:=FR (PD R).1;have h1:=(ft hn hd).2;rw[hv,(ft hn he).2]at h1;exact h1.symm
theorem pu{d:TDef}(hd:d∈A1 f):valS d.V=true:=by
 obtain⟨i,hi,rfl⟩:=Qw hd;have:=((DI hi).1 (nj (PD R).1 i hi)).1;rw[Af _ _ _ hi]at this;exact this
theorem pt{u:C9}(hu:u∈B5 f):∃ d∈A1 f,d.V=u.V/\d.Shape=u.Shape/\Thr f d u.Block u.At:=by
 obtain⟨_,h2,h3,h4⟩:=PD R;have hf:=h2 u hu;have hfit:=h3 u hu;have hdom:=h4 u hu;unfold Ma at hf
 have hneg:¬ Lk (A1 f) u.V<0:=by simpa using hf
 have hin:=QI hneg;have hmem:defOf _ u.V∈A1 f:=getD_mem (by  have:=hin.2;omega)
 have hV:(defOf (A1 f) u.V).V=u.V:=by
  unfold defOf;unfold Lk at hneg ⊢
  cases hx:(A1 f).findIdx? _ with
  | none=>grind
  | some i=>
   obtain⟨hi,hp,_⟩:=List.findIdx?_eq_some_iff_getElem.1 hx;rw[Ap,Af _ _ _ hi]
   simpa using hp
 refine⟨_,hmem,hV,?_,?_⟩
 ·unfold Y3 at hfit;simp only[Be,zzL61]at hfit;exact Prod.ext hfit.1 hfit.2.1
 ·unfold Y2 at hdom;simp only[Vr,Be,En,zzL61,Su,zzL17]at hdom;rcases hdom with(h|h)|⟨h,h'⟩
  ·exact .inl h
  ·exact .inr (.inl h)
  ·by_cases hb:(defOf (A1 f) u.V).Block<0
   ·exact .inl hb
   ·refine .inr (.inr ⟨h,?_⟩);rw[bne_eq_false_iff_eq]at h';unfold Wx;rw[h',Be];exact⟨by simp,by rw[zzL75];omega⟩
end
theorem ri_def{f:TFunc}{d:TDef}:d∈A1 f↔(∃ i,i<f.Params.length/\d=⟨(i:Int)+1,-1,0,(f.Params.getD i 0,1)⟩) \/
  ∃ i,i<f.Blocks.length/\((∃ k,k<(bA f i).Phis.length/\d=⟨((bA f i).Phis.getD k default).Dst,i,-1,(((bA f i).Phis.getD k default).Bits,1)⟩) \/
   ∃ k,k<(bA f i).Ops.length/\0<(Ll ((bA f i).Ops.getD k default)).1/\d=⟨((bA f i).Ops.getD k default).Dst,i,k,Ll ((bA f i).Ops.getD k default)⟩):=by
 unfold A1 Sh Tc Tj AU;simp only[zzL18,zzL72,zzL44,zzL24]
 constructor
 ·grind
 ·rintro(h|⟨i,hi,⟨k,hk,h⟩|⟨k,hk,hg,h⟩⟩)
  ·exact .inl h
  ·exact .inr ⟨i,hi,.inl ⟨k,hk,h⟩⟩
  ·exact .inr ⟨i,hi,.inr ⟨k,hk,by simp_all⟩⟩
theorem YH{o:Ce}(hm:Lb o=true):(Hc o).length=o.Args.length/\∀ j,j<o.Args.length->(Hc o).getD j (0,0)=Wl o j:=by
 obtain⟨_,_,_,_,hn,_,_⟩:=Xy hm
 have ht:Hc o=Rz o:=by unfold Hc;rw[hm];rfl
 have htl:(Rz o).length=o.Args.length:=by unfold Rz;rw[Ze,Zd];omega
 refine⟨by rw[ht,htl],λj hj=>?_⟩;rw[ht];unfold Rz;rw[R7 (by omega)]
theorem jx {f : TFunc} (hk : ∀ b ∈ f.Blocks, ∀ o ∈ b.Ops, Lb o = true) {u : C9} : u ∈ B5 f ↔ ∃ i, i < f.Blocks.length ∧
    ((∃ k j, k < (bA f i).Phis.length ∧ j < ((bA f i).Phis.getD k default).Args.length ∧ u = ⟨((bA f i).Phis.getD k default).Args.getD j 0, ((bA f i).Phis.getD k default).From.getD j 0, 1000, (((bA f i).Phis.getD k default).Bits, 1)⟩) ∨
     (∃ k j, k < (bA f i).Ops.length ∧ j < ((bA f i).Ops.getD k default).Args.length ∧ u = ⟨((bA f i).Ops.getD k default).Args.getD j 0, i, k, Wl ((bA f i).Ops.getD k default) j⟩) ∨
     ((bA f i).End.Kind = 0 ∧ u = ⟨(bA f i).End.Arg, i, 1000, (f.Ret, 1)⟩) ∨ ((bA f i).End.Kind = 2 ∧ u = ⟨(bA f i).End.Arg, i, 1000, (1, 1)⟩)) := by
  unfold B5 IR Nd N3 S5 Qt Yq; simp only [zzL18, zzL72, zzL44, zzL24]
  have hE : ∀ (k c : Int) (x : C9), u ∈ (bif k == c then [x] else []) ↔ (k = c ∧ u = x) := fun k c x => by
    grind
  simp only [hE]
  constructor
  · rintro ⟨i, hi, (⟨k, hk', j, hj, h⟩ | ⟨k, hk', j, hj, h⟩) | h⟩
    · exact ⟨i, hi, .inl ⟨k, j, hk', hj, h⟩⟩
    · obtain ⟨e1, e2⟩ := YH (hk _ (getD_mem  hi) _ (getD_mem  hk')); rw [e1] at hj; rw [e2 j hj] at h; exact ⟨i, hi, .inr (.inl ⟨k, j, hk', hj, h⟩)⟩
    · exact ⟨i, hi, .inr (.inr h)⟩
  · rintro ⟨i, hi, ⟨k, j, hk', hj, h⟩ | ⟨k, j, hk', hj, h⟩ | h⟩
    · grind
    · obtain ⟨e1, e2⟩ := YH (hk _ (getD_mem  hi) _ (getD_mem  hk')); exact ⟨i, hi, .inl (.inr ⟨k, hk', j, by rw [e1]; exact hj, by rw [e2 j hj]; exact h⟩)⟩
    · grind
def Nl:List Ar->Int->Int
 | [],_=>0
 | t::r,v=>bif t.V==v then t.Scale else Nl r v
def E2:Int->List Ar->Bool
 | _,[]=>true
 | lo,t::r=>(decide (lo<t.V)&&decide (t.V<=1023)&&!(t.Scale==0))&&E2 t.V r
def Lv(g:Int->Int):Nat->Nat->List Ar
 | _,0=>[]
 | a,n+1=>bif g (a:Int)==0 then Lv g (a+1) n else⟨(a:Int),g (a:Int)⟩::Lv g (a+1) n
def kx(g:Int->Int):List Ar:=Lv g 1 1023
theorem FZ{g h:Int->Int}:∀{n a:Nat},(∀ v:Int,(a:Int)<=v->g v=h v)->Lv g a n=Lv h a n
 | 0,_,_=>rfl
 | n+1,a,e=>by
  unfold Lv;rw[e a (Int.le_refl _),FZ (n:=n) (a:=a+1) λv hv=>e v (by omega)]
theorem Xi:∀{l:List Ar} {lo v:Int},E2 lo l=true->v<=lo->Nl l v=0
 | [],_,_,_,_=>rfl
 | t::r,lo,v,h,hv=>by
  simp only[E2,Be,En]at h;unfold Nl;rw[show(t.V==v)=false from zzL17.2 (by omega),An];exact Xi h.2 (by omega)
theorem BT:∀(n a:Nat) {l:List Ar},a+n=1024->E2 ((a:Int)-1) l=true->Lv (Nl l) a n=l
 | 0,a,[],_,_=>rfl
 | 0,a,t::r,h,hm=>by
  simp only[E2,Be,En]at hm;omega
 | n+1,a,[],h,_=>by
  unfold Lv;rw[show(Nl [] (a:Int)==0)=true from rfl,Ae];exact BT n (a+1) (by omega) rfl
 | n+1,a,t::r,h,hm=>by
  have hm':=hm;simp only[E2,Be,En,Su,zzL17]at hm;obtain⟨⟨⟨h1,h2⟩,h3⟩,h4⟩:=hm;unfold Lv
  by_cases e:t.V=a
  ·have e1:Nl (t::r) (a:Int)=t.Scale:=by unfold Nl;rw[e];simp
   rw[e1,show(t.Scale==0)=false from zzL17.2 h3,An];rw[e]at h4
   have e2:Lv (Nl (t::r)) (a+1) n=Lv (Nl r) (a+1) n:=FZ λv hv=>by
    unfold Nl;rw[show(t.V==v)=false from zzL17.2 (by omega),An]
    cases r<;>rfl
   rw[e2,BT n (a+1) (by omega) (by rw[show(((a+1:Nat):Int)-1)=a by omega];exact h4),<- e]
  ·have e1:Nl (t::r) (a:Int)=0:=by
    unfold Nl;rw[show(t.V==(a:Int))=false from zzL17.2 e,An];exact Xi h4 (by omega)
   rw[e1];simp only[BEq.rfl,Ae];refine BT n (a+1) (by omega) ?_;simp only[E2,Be,En,Su,zzL17];exact⟨⟨⟨by omega,h2⟩,h3⟩,h4⟩
theorem nk{l:List Ar}(h:E2 0 l=true):kx (Nl l)=l:=BT 1023 1 rfl h
theorem oS{g:Int->Int}:∀(n a:Nat) (v:Int),Nl (Lv g a n) v=bif decide ((a:Int)<=v)&&decide (v<((a+n:Nat):Int)) then g v else 0
 | 0,a,v=>by
  unfold Lv Nl
  by_cases h:(a:Int)<=v
  ·rw[show decide (v<((a+0:Nat):Int))=false from B7 (by omega)];simp
  ·rw[B7 h];rfl
 | n+1,a,v=>by
  have ih:=oS (g:=g) n (a+1) v
  by_cases e:v=a
  ·subst e;rw[show decide (((a:Nat):Int)<=a)=true from Bv (Int.le_refl _),show decide ((a:Int)<((a+(n+1):Nat):Int))=true from Bv (by omega)];simp only[FB,Ae];unfold Lv
   by_cases h0:g a=0
   ·rw[h0];simp only[BEq.rfl,Ae];rw[ih,B7 (by omega),Yr];rfl
   ·rw[zzL17.2 h0,An];unfold Nl
    simp
  ·have e2:(decide (((a+1:Nat):Int)<=v)&&decide (v<((a+1+n:Nat):Int)))=(decide ((a:Int)<=v)&&decide (v<((a+(n+1):Nat):Int))):=by
    rw[CK];simp only[Be,En];omega
   rw[<- e2,<- ih]
   conv=>lhs;unfold Lv
   cases g (a:Int)==0 with
   | true=>rfl
   | false=>
    rw[An]
    conv=>lhs;unfold Nl
    rw[show((a:Int)==v)=false from zzL17.2 (Ol e),An]
theorem bT{g:Int->Int}:∀(n a:Nat) (lo:Int),lo<a->a+n<=1024->E2 lo (Lv g a n)=true
 | 0,_,_,_,_=>rfl
 | n+1,a,lo,h,h2=>by
  unfold Lv
  cases e:g (a:Int)==0 with
  | true=>exact bT n (a+1) lo (by omega) (by omega)
  | false=>
   simp only[An,E2,Be,En,e,Mr,Bz];exact⟨⟨h,by omega⟩,bT n (a+1) a (by omega) (by omega)⟩
theorem sS(g:Int->Int):E2 0 (kx g)=true:=bT 1023 1 0 (by omega) (by omega)
theorem jy{g:Int->Int}:∀(n a:Nat),(Lv g a n).length<=n
 | 0,_=>zzL7 _
 | n+1,a=>by
  have:=jy (g:=g) n (a+1);unfold Lv
  cases g (a:Int)==0<;>simp<;>omega
theorem tI{l:List Ar}(h:E2 0 l=true):l.length<=1023:=by rw[<- nk h];exact jy _ _
theorem wN{g:Int->Int}(v:Int):Nl (kx g) v=bif decide (1<=v)&&decide (v<1024) then g v else 0:=oS 1023 1 v
theorem ky{g h:Int->Int}(e:∀ v:Int,1<=v->v<1024->g v=h v):kx g=kx h:=by
 have:∀ n a:Nat,1<=a->a+n<=1024->Lv g a n=Lv h a n:=by
  intro n
  induction n with
  | zero=>intros;rfl
  | succ n ih=>
   intro a h1 h2;unfold Lv;rw[e a (by omega) (by omega),ih (a+1) (by omega) (by omega)]
 exact this 1023 1 (zzL7 _) (zzL7 _)
theorem WN{x:Au}(hl:x.Terms.length<9223372036854775808):Jb x=some (E2 0 x.Terms):=by
 have key:∀(k i:Nat) (lo:Int),i+k=x.Terms.length->Ab (Mh x) (lo,(i:Int))=some (bif E2 lo (x.Terms.drop i) then .inl () else .inr false):=by
  intro k
  induction k with
  | zero=>
   intro i lo h
   obtain rfl:i=x.Terms.length:=by omega
   rw[List.drop_length];exact Ah (by unfold Mh;simp only[Ei,An];rfl)
  | succ k ih=>
   intro i lo h
   have hi:i<x.Terms.length:=by omega
   have hd:x.Terms.drop i=x.Terms.getD i default::x.Terms.drop (i+1):=by rw[W8 hi,Af _ _ _ hi]
   rw[hd]
   have hs:Mh x (lo,(i:Int))=some (bif decide (lo<(x.Terms.getD i default).V)&&decide ((x.Terms.getD i default).V<=1023)&&!((x.Terms.getD i default).Scale==0) then .next ((x.Terms.getD i default).V,((i+1:Nat):Int)) else .done (.inr false)):=by
    unfold Mh;simp only[Cr hi,Ae,Ap];rw[Aa (Eo hi),A3 hi hl]
    generalize x.Terms.getD i default=t
    have a1:decide (t.V<=lo) = !decide (lo<t.V):=by by_cases h:lo<t.V<;>simp[h]<;>omega
    have a2:decide ((1023:Int)<t.V) = !decide (t.V<=1023):=by by_cases h:t.V<=1023<;>simp[h]<;>omega
    rw[a1,a2]
    cases decide (lo<t.V)<;>cases decide (t.V<=1023)<;>cases(t.Scale==0)<;>rfl
   cases hb:(decide (lo<(x.Terms.getD i default).V)&&decide ((x.Terms.getD i default).V<=1023)&&!((x.Terms.getD i default).Scale==0)) with
   | true=>
    rw[hb,Ae]at hs;rw[Aq hs,ih (i+1) _ (by omega)];simp only[E2,hb,Ly]
   | false=>
    rw[hb,An]at hs;rw[Ah hs];simp only[E2,hb,Yr,An]
 unfold Jb;have:=key x.Terms.length 0 0 (by omega);rw[show(((0:Nat):Int))=0 from rfl,Js]at this;rw[this]
 cases E2 0 x.Terms<;>rfl
def ot(l:List Ar):Int:=match l with|[]=>1024|t::_=>t.V
def xV(l:List Ar)(v:Int):Int×List Ar:=match l with|[]=>(0,[])|t::r=>bif t.V==v then(t.Scale,r) else(0,t::r)
theorem aa(l:List Ar):D2 l=some (ot l):=by
 cases l with
 | nil=>rfl
 | cons t r=>
  unfold D2;rw[show((((t::r).length:Int))==0)=false from zzL17.2 (by simp;omega),An,Aa ⟨by omega,by simp⟩]
  rfl
theorem jL(l:List Ar){v:Int}(hv:v<1024):Es l v=some (xV l v):=by
 unfold Es;rw[aa,Ai]
 cases l with
 | nil=>rw[show(ot []!=v)=true from zzL75.2 (by simp[ot];omega)];rfl
 | cons t r=>
  show(bif t.V !=v then _ else _)=some (bif t.V==v then _ else _)
  by_cases e:t.V=v
  ·rw[show(t.V !=v)=false by simp[e],show(t.V==v)=true by simp[e],An,Ae,Aa ⟨by omega,by simp⟩,Aa ⟨by omega,by simp only[Vq];omega⟩]
   rfl
  ·rw[show(t.V !=v)=true by simp[e],show(t.V==v)=false by simp[e]]
   rfl
theorem vB{l:List Ar}{a:Int}(h:E2 (a-1) l=true):(xV l a).1=Nl l a/\E2 a (xV l a).2=true/\∀ v,a<v->Nl (xV l a).2 v=Nl l v:=by
 cases l with
 | nil=>exact⟨rfl,rfl,λ_ _=>rfl⟩
 | cons t r=>
  have h':=h;simp only[E2,Be,En]at h
  show(bif t.V==a then(t.Scale,r) else(0,t::r)).1=_/\E2 a (bif t.V==a then(t.Scale,r) else(0,t::r)).2=true/\∀ v,a<v->Nl (bif t.V==a then(t.Scale,r) else(0,t::r)).2 v=_
  by_cases e:t.V=a
  ·rw[show(t.V==a)=true by simp[e]];refine⟨by simp[Nl,e],by rw[<- e];exact h.2,λv hv=>?_⟩;simp only[Nl,show(t.V==v)=false from zzL17.2 (by omega),show(t.V==a)=true by simp[e],Ae,An]
  ·rw[show(t.V==a)=false by simp[e]];refine⟨?_,?_,λv hv=>rfl⟩
   ·simp only[An,Nl,show(t.V==a)=false by simp[e]];exact(Xi h.2 (by omega)).symm
   ·simp only[An,E2,Be,En];exact⟨⟨⟨by omega,h.1.1.2⟩,h.1.2⟩,h.2⟩
theorem uw{l:List Ar}{a:Int}(h:E2 (a-1) l=true)(ha:a<=1024):a<=ot l:=by
 cases l with
 | nil=>exact ha
 | cons t r=>
  simp only[E2,Be,En]at h
  show a<=t.V
  omega
theorem pH{l:List Ar}{a:Int}(h:E2 (a-1) l=true)(hn:ot l≠a):E2 a l=true:=by
 cases l with
 | nil=>rfl
 | cons t r=>
  simp only[E2,Be,En]at h ⊢;have:t.V≠a:=hn;exact⟨⟨⟨by omega,h.1.1.2⟩,h.1.2⟩,h.2⟩
def wv{S X:Type}(g:Int->Int->Int)(mk:List Ar->List Ar->List Ar->S)(out:List Ar->X)(xs ys acc:List Ar):Option (LR S X):=
 bif bif decide ((0:Int)<(xs.length:Int)) then true else decide ((0:Int)<(ys.length:Int)) then
  (D2 xs).bind λp=>(D2 ys).bind λq=>(Es xs (if q<p then q else p)).bind λu=>(Es ys (if q<p then q else p)).bind λw=>
   bif g u.1 w.1 !=0 then A7 (acc.length+1<=room) (some (.next (mk u.2 w.2 (acc++[⟨if q<p then q else p,g u.1 w.1⟩])))) else some (.next (mk u.2 w.2 acc))
 else some (.done (out acc))
theorem FU{S X:Type}(g:Int->Int->Int)(mk:List Ar->List Ar->List Ar->S)(out:List Ar->X)(f:S->Option (LR S X))(hf:∀ xs ys acc,f (mk xs ys acc)=wv g mk out xs ys acc)(h0:g 0 0=0) :
  ∀(n a:Nat) (xs ys acc:List Ar),a+n=1024->E2 ((a:Int)-1) xs=true->E2 ((a:Int)-1) ys=true->acc.length+n<=2000->
   Ab f (mk xs ys acc)=some (out (acc++Lv (λv=>g (Nl xs v) (Nl ys v)) a n)):=by
 intro n
 induction n with
 | zero=>
  intro a xs ys acc h hx hy _
  have e:∀{l:List Ar},E2 ((a:Int)-1) l=true->l=[]:=λ{l} hl=>by
   have:=BT 0 a h hl;exact this.symm
  rw[e hx,e hy];refine Ah ?_;rw[hf];simp[wv,Lv]
 | succ n ih=>
  intro a xs ys acc h hx hy hl;have hpa:=uw hx (by omega);have hqa:=uw hy (by omega)
  by_cases hh:ot xs=a\/ot ys=a
  ·have hv:(if ot ys<ot xs then ot ys else ot xs)=(a:Int):=by split<;>omega
   have hne:(bif decide ((0:Int)<(xs.length:Int)) then true else decide ((0:Int)<(ys.length:Int)))=true:=by
    rcases hh with e|e
    ·cases xs with
     | nil=>exact absurd e (by show ¬ ((1024:Int)=a);omega)
     | cons=>simp
    ·cases ys with
     | nil=>exact absurd e (by show ¬ ((1024:Int)=a);omega)
     | cons=>simp
   obtain⟨p1,p2,p3⟩:=vB hx;obtain⟨q1,q2,q3⟩:=vB hy
   have hs:f (mk xs ys acc)=some (.next (mk (xV xs a).2 (xV ys a).2 (acc++(bif g (Nl xs a) (Nl ys a)==0 then[] else[⟨(a:Int),g (Nl xs a) (Nl ys a)⟩])))):=by
    rw[hf];unfold wv;rw[hne,Ae,aa,aa];simp only[Ai,hv];rw[jL _ (by omega),jL _ (by omega)];simp only[Ai,p1,q1]
    cases hz:g (Nl xs a) (Nl ys a)==0 with
    | true=>rw[show(g (Nl xs a) (Nl ys a)!=0)=false by simp[bne,hz]];simp
    | false=>
     rw[show(g (Nl xs a) (Nl ys a)!=0)=true by simp[bne,hz],Ae,Aa (by unfold room;omega)]
     rfl
   rw[Aq hs];rw[ih (a+1) _ _ _ (by omega) (by rw[show(((a+1:Nat):Int)-1)=a by omega];exact p2) (by rw[show(((a+1:Nat):Int)-1)=a by omega];exact q2) (by cases g (Nl xs a) (Nl ys a)==0<;>simp<;>omega)];rw[FZ (n:=n) (a:=a+1) (h:=λv=>g (Nl xs v) (Nl ys v)) λv hv=>by rw[p3 v (by omega),q3 v (by omega)]]
   congr 2
   rw[Px]
   congr 1
   conv=>rhs;unfold Lv
   cases g (Nl xs a) (Nl ys a)==0<;>rfl
  ·have hx':=pH hx (by omega);have hy':=pH hy (by omega);rw[ih (a+1) xs ys acc (by omega) (by rw[show(((a+1:Nat):Int)-1)=a by omega];exact hx') (by rw[show(((a+1:Nat):Int)-1)=a by omega];exact hy') (by omega)]
   congr 3
   conv=>rhs;unfold Lv
   rw[Xi hx' (Int.le_refl _),Xi hy' (Int.le_refl _),h0]
   rfl
def Oo(g:Int->Int->Int)(x y:Au):Au:=bif E2 0 x.Terms&&E2 0 y.Terms then⟨kx λv=>g (Nl x.Terms v) (Nl y.Terms v),g x.Off y.Off⟩ else⟨[],0⟩
def XM:Au:=⟨[],0⟩
def fb(a b:Int):Int:=Bo (a+b)
def Ou(a b:Int):Int:=Bo (a-b)
def bE(n a _b:Int):Int:=Bo (a*n)
theorem wH{x y:Au}(hx:x.Terms.length<9223372036854775808)(hy:y.Terms.length<9223372036854775808):R8 x y=some (Oo fb x y):=by
 unfold R8 Sy Oo;rw[WN hx,WN hy]
 cases h1:E2 0 x.Terms with
 | false=>rfl
 | true=>
  cases h2:E2 0 y.Terms with
  | false=>rfl
  | true=>
   simp only[E7,BEq.rfl,Ae,An,Ai,FB,O4];rw[FU fb (λa b c=>(a,b,c)) id Uc (λxs ys acc=>rfl) rfl 1023 1 x.Terms y.Terms [] rfl h1 h2 (by simp)]
   rfl
theorem jJ{x y:Au}(hx:x.Terms.length<9223372036854775808)(hy:y.Terms.length<9223372036854775808):Nq x y=some (Oo Ou x y):=by
 unfold Nq Pi Oo;rw[WN hx,WN hy]
 cases h1:E2 0 x.Terms with
 | false=>rfl
 | true=>
  cases h2:E2 0 y.Terms with
  | false=>rfl
  | true=>
   simp only[E7,BEq.rfl,Ae,An,Ai,FB,N6];rw[FU Ou (λa b c=>(a,b,c)) id Rb (λxs ys acc=>rfl) rfl 1023 1 x.Terms y.Terms [] rfl h1 h2 (by simp)]
   rfl
theorem ae{x:Au}{n:Int}(hx:x.Terms.length<9223372036854775808):Lm x n=some (Oo (bE n) x XM):=by
 unfold Lm Pj Oo;rw[WN hx,WN (x:=⟨[],0⟩) (by simp)]
 cases h1:E2 0 x.Terms with
 | false=>rfl
 | true=>
  simp only[E7,BEq.rfl,Ae,An,Ai,FB,N7,E2,XM];rw[FU (bE n) (λa b c=>(a,b,c,n)) (λl=>(l,n)) Rd (λxs ys acc=>rfl) (by show Bo (0*n)=0;rw[Int.zero_mul];rfl) 1023 1 x.Terms [] [] rfl h1 rfl (by simp)]
  rfl
theorem jO:∀{l:List Ar} {v:Int},(l.any λt=>t.V==v)=false->Nl l v=0
 | [],_,_=>rfl
 | t::r,v,h=>by
  rw[List.any_cons,TI]at h;unfold Nl;rw[h.1,An,jO h.2]
theorem je:∀{l:List Ar} {lo v:Int},E2 lo l=true->(l.any λt=>t.V==v)=true->lo<v/\v<=1023
 | [],_,_,_,h=>by cases h
 | t::r,lo,v,hm,h=>by
  simp only[E2,Be,En]at hm;rw[List.any_cons,Vr]at h;rcases h with h|h
  ·rw[<- eq_of_beq h];exact hm.1.1
  ·have:=je hm.2 h;omega
theorem yz{x:Au}(hm:E2 0 x.Terms=true):∃ S,Jp x=some ⟨S,x.Off⟩/\∀ v:Nat,v<1024->S.getD v 0=Nl x.Terms v:=by
 have hlen:=tI hm;have key:∀(k i:Nat) (z:E6) (lo:Int),i+k=x.Terms.length->0<=lo->E2 lo (x.Terms.drop i)=true->∃ S,Ab (Hp x) ((i:Int),z)=some ⟨S,z.Off⟩ /\
   ∀ v:Nat,v<1024->S.getD v 0=bif ((x.Terms.drop i).any λt=>t.V==(v:Int)) then Nl (x.Terms.drop i) v else z.Scale.getD v 0:=by
  intro k
  induction k with
  | zero=>
   intro i z lo h _ _
   obtain rfl:i=x.Terms.length:=by omega
   rw[List.drop_length];exact⟨z.Scale,Ah (by unfold Hp;simp only[Ei,An]),λv _=>rfl⟩
  | succ k ih=>
   intro i z lo h h0 hml
   have hi:i<x.Terms.length:=by omega
   have hd:x.Terms.drop i=x.Terms.getD i default::x.Terms.drop (i+1):=by rw[W8 hi,Af _ _ _ hi]
   rw[hd]at hml ⊢;have hm':=hml;simp only[E2,Be,En]at hml
   have hs:Hp x ((i:Int),z)=some (.next (((i+1:Nat):Int),⟨Fx 1024 0 z.Scale (x.Terms.getD i default).V.toNat (x.Terms.getD i default).Scale,z.Off⟩)):=by
    unfold Hp;simp only[Cr hi,Ae,Ap];rw[Aa (Eo hi),Aa (Eo hi),Aa ⟨by omega,by omega⟩,A3 hi (by omega)]
    rfl
   obtain⟨S,h1,h2⟩:=ih (i+1) ⟨Fx 1024 0 z.Scale (x.Terms.getD i default).V.toNat (x.Terms.getD i default).Scale,z.Off⟩ _ (by omega) (by omega) hml.2;refine⟨S,by rw[Aq hs];exact h1,λv hv=>?_⟩;rw[h2 v hv]
   generalize hT:x.Terms.getD i default=T at *
   simp only[List.any_cons,Nl]
   by_cases e:T.V=v
   ·have hn:((x.Terms.drop (i+1)).any λt=>t.V==(v:Int))=false:=by
     cases ha:((x.Terms.drop (i+1)).any λt=>t.V==(v:Int)) with
     | false=>rfl
     | true=>have:=je hml.2 ha;omega
    rw[hn,An,show(T.V==(v:Int))=true by simp[e],Bool.true_or,Ae,Ae,Lw hv,show Nat.beq v T.V.toNat=true by rw[show v=T.V.toNat by omega];exact Nat.beq_refl _,Ae]
   ·rw[show(T.V==(v:Int))=false by simp[e],TE,An,Lw hv]
    cases((x.Terms.drop (i+1)).any λt=>t.V==(v:Int)) with
    | true=>rfl
    | false=>
     cases hb:Nat.beq v T.V.toNat with
     | false=>rfl
     | true=>have:=Cq hb;omega
 obtain⟨S,h1,h2⟩:=key x.Terms.length 0 ⟨[],x.Off⟩ 0 (by omega) (Int.le_refl _) hm;refine⟨S,?_,λv hv=>?_⟩
 ·unfold Jp;rw[show(((0:Nat):Int))=0 from rfl]at h1;rw[h1,Ai]
 ·rw[h2 v hv,Js]
  cases ha:(x.Terms.any λt=>t.V==(v:Int)) with
  | true=>rfl
  | false=>rw[jO ha];rfl
theorem wm(w:E6):Hg w=some (⟨Lv (λv=>w.Scale.getD v.toNat 0) 0 1024,w.Off⟩,w):=by
 have key:∀(k i:Nat) (l:List Ar),i+k=1024->l.length<=i->Ab (D5 w) ((i:Int),l)=some (l++Lv (λv=>w.Scale.getD v.toNat 0) i k):=by
  intro k
  induction k with
  | zero=>
   intro i l h _
   obtain rfl:i=1024:=by omega
   refine Ah ?_;unfold D5;simp[Lv]
  | succ k ih=>
   intro i l h hl
   have hi:i<1024:=by omega
   have hd:decide ((i:Int)<(1024:Int))=true:=Bv (by omega)
   have hs:D5 w ((i:Int),l)=some (.next (((i+1:Nat):Int),l++(bif w.Scale.getD i 0==0 then[] else[⟨(i:Int),w.Scale.getD i 0⟩]))):=by
    unfold D5;simp only[hd,Ae,Ap];rw[Aa (Eo hi),F0 (by omega) (by omega)]
    cases hz:w.Scale.getD i 0==0 with
    | true=>rw[show(w.Scale.getD i 0 !=0)=false by simp only[bne,hz];rfl];simp
    | false=>
     rw[show(w.Scale.getD i 0 !=0)=true by simp only[bne,hz];rfl,Ae,Aa (Eo hi),Aa (by simp[room];omega)]
     rfl
   have hrow:(bif w.Scale.getD i 0==0 then[] else[(⟨(i:Int),w.Scale.getD i 0⟩:Ar)])++Lv (λv=>w.Scale.getD v.toNat 0) (i+1) k=Lv (λv=>w.Scale.getD v.toNat 0) i (k+1):=by
    conv=>rhs;unfold Lv
    simp only[Ap]
    cases w.Scale.getD i 0==0<;>rfl
   rw[Aq hs,ih (i+1) _ (by omega) (by cases w.Scale.getD i 0==0<;>simp<;>omega),Px,hrow]
 unfold Hg;have:=key 1024 0 [] (by omega) (by simp);rw[show(((0:Nat):Int))=0 from rfl]at this;rw[this]
 rfl
theorem pi{x y:Au}{n m:Int}(hx:E2 0 x.Terms=true)(hy:E2 0 y.Terms=true) :
  Bc x n y m=some ⟨kx λv=>Bo (Bo (Nl x.Terms v*n)+Bo (Nl y.Terms v*m)),Bo (Bo (x.Off*n)+Bo (y.Off*m))⟩:=by
 obtain⟨A,a1,a2⟩:=yz hx;obtain⟨B,b1,b2⟩:=yz hy;have key:∀(k i:Nat) (z:E6),i+k=1024->(∀ v:Nat,i<=v->v<1024->z.Scale.getD v 0=A.getD v 0)->(∀ v:Nat,v<i->z.Scale.getD v 0=Bo (Bo (A.getD v 0*n)+Bo (B.getD v 0*m)))->
   ∃ S,Ab (Gx n m ⟨B,y.Off⟩) ((i:Int),z)=some ⟨S,z.Off⟩/\∀ v:Nat,v<1024->S.getD v 0=Bo (Bo (A.getD v 0*n)+Bo (B.getD v 0*m)):=by
  intro k
  induction k with
  | zero=>
   intro i z h _ h2
   obtain rfl:i=1024:=by omega
   exact⟨z.Scale,Ah (by unfold Gx;simp),h2⟩
  | succ k ih=>
   intro i z h h1 h2
   have hi:i<1024:=by omega
   have hd:decide ((i:Int)<(1024:Int))=true:=Bv (by omega)
   have hs:Gx n m ⟨B,y.Off⟩ ((i:Int),z)=some (.next (((i+1:Nat):Int),⟨Fx 1024 0 z.Scale i (Bo (Bo (z.Scale.getD i 0*n)+Bo (B.getD i 0*m))),z.Off⟩)):=by
    unfold Gx;simp only[hd,Ae,Ap];rw[Aa (Eo hi),Aa (Eo hi),Aa (Eo hi),F0 (by omega) (by omega)]
    rfl
   obtain⟨S,s1,s2⟩:=ih (i+1) ⟨Fx 1024 0 z.Scale i (Bo (Bo (z.Scale.getD i 0*n)+Bo (B.getD i 0*m))),z.Off⟩ (by omega)
    (λv hv hv2=>by
     dsimp only
     rw[Lw hv2]
     cases hb:Nat.beq v i with
     | false=>exact h1 v (by omega) hv2
     | true=>have:=Cq hb;omega)
    (λv hv=>by
     dsimp only
     rw[Lw (by omega)]
     cases hb:Nat.beq v i with
     | true=>obtain rfl:=Cq hb;rw[Ae,h1 _ (zzL7 _) hi]
     | false=>
      have:v≠i:=by rintro rfl;rw[Nat.beq_refl]at hb;cases hb
      exact h2 v (by omega))
   exact⟨S,by rw[Aq hs];exact s1,s2⟩
 obtain⟨S,s1,s2⟩:=key 1024 0 ⟨A,x.Off⟩ (by omega) (λv _ _=>rfl) (λv hv=>by omega);unfold Bc;rw[a1,Ai,b1,Ai];rw[show(((0:Nat):Int))=0 from rfl]at s1;rw[s1,Ai,wm,Ai]
 have e:∀(k i:Nat),i+k<=1024->Lv (λv=>S.getD v.toNat 0) i k=Lv (λv=>Bo (Bo (Nl x.Terms v*n)+Bo (Nl y.Terms v*m))) i k:=by
  intro k
  induction k with
  | zero=>intros;rfl
  | succ k ih=>
   intro i h;unfold Lv;rw[ih (i+1) (by omega)];simp only[Ap];rw[s2 i (by omega),a2 i (by omega),b2 i (by omega)]
 have e0:Lv (λv=>S.getD v.toNat 0) 0 1024=kx λv=>Bo (Bo (Nl x.Terms v*n)+Bo (Nl y.Terms v*m)):=by
  rw[e 1024 0 (by omega)]
  show Lv _ 0 (1023+1)=Lv _ 1 1023
  conv=>lhs;unfold Lv
  rw[show(((0:Nat):Int))=0 from rfl,Xi hx (Int.le_refl _),Xi hy (Int.le_refl _),Int.zero_mul,Int.zero_mul]
  rfl
 rw[e0]
theorem tP(a b:Int):Bo (Bo (a*1)+Bo (b*1))=fb a b:=by unfold fb;simp only[Qu];omega
theorem tR(a b:Int):Bo (Bo (a*1)+Bo (b*18446744073709551615))=Ou a b:=by unfold Ou;simp only[Qu];omega
theorem tQ(a b n:Int):Bo (Bo (a*n)+Bo (b*0))=bE n a b:=by unfold bE;rw[Int.mul_zero];simp only[Qu];generalize a*n=c;omega
theorem HR{g:Int->Int->Int}{x y:Au}(hx:E2 0 x.Terms=true)(hy:E2 0 y.Terms=true):Oo g x y=⟨kx λv=>g (Nl x.Terms v) (Nl y.Terms v),g x.Off y.Off⟩:=by
 unfold Oo;rw[hx,hy];rfl
theorem wr{x y:Au}(hx:E2 0 x.Terms=true)(hy:E2 0 y.Terms=true):Bc x 1 y 1=some (Oo fb x y):=by
 rw[pi hx hy,HR hx hy];simp only[tP]
theorem jr{x y:Au}(hx:E2 0 x.Terms=true)(hy:E2 0 y.Terms=true):Bc x 1 y 18446744073709551615=some (Oo Ou x y):=by
 rw[pi hx hy,HR hx hy];simp only[tR]
theorem bQ{x:Au}{n:Int}(hx:E2 0 x.Terms=true):Bc x n ⟨[],0⟩ 0=some (Oo (bE n) x XM):=by
 rw[pi hx rfl,HR hx rfl];simp only[tQ]
 rfl
theorem pK(g:Int->Int->Int)(x y:Au):E2 0 (Oo g x y).Terms=true:=by
 unfold Oo
 cases E2 0 x.Terms&&E2 0 y.Terms with
 | false=>rfl
 | true=>rw[Ae];exact sS (λv=>g (Nl x.Terms v) (Nl y.Terms v))
theorem BF{V:Type}(k v:Int)(x:V):∀ l:List (Int×V),C2 (Hr l k x) v=(v==k || C2 l v)
 | []=>by simp[Hr,C2]
 | (a,b)::r=>by
  unfold Hr
  by_cases e:k=a
  ·subst e;simp only[BEq.rfl,Ae,C2]
   cases(v==k)<;>simp
  ·rw[show(k==a)=false by simp[e],An];simp only[C2,BF k v x r]
   cases(v==a)<;>cases(v==k)<;>simp
theorem HQ{V:Type}(d:V)(k v:Int)(x:V):∀ l:List (Int×V),mget d (Hr l k x) v=bif v==k then x else mget d l v
 | []=>by simp only[Hr,mget]
 | (a,b)::r=>by
  unfold Hr
  by_cases e:k=a
  ·subst e;simp only[BEq.rfl,Ae,mget]
   cases(v==k)<;>rfl
  ·rw[show(k==a)=false by simp[e],An];simp only[mget,HQ d k v x r]
   by_cases h:v=a
   ·subst h;rw[show(v==k)=false from zzL17.2 (Ol e)]
    simp
   ·rw[show(v==a)=false by simp[h]];rfl
def ownT(v:Int):Au:=⟨[⟨v,1⟩],0⟩
def mkT(k:Int)(a b:Au):Option Au:=
 bif k==1 then some (Oo fb a b) else bif k==2 then some (Oo Ou a b)
 else bif (k==3)&&((b.Terms.length:Int)==0) then some (Oo (bE b.Off) a XM) else bif (k==3)&&((a.Terms.length:Int)==0) then some (Oo (bE a.Off) b XM)
 else bif ((k==8)&&((b.Terms.length:Int)==0))&&decide (b.Off<64) then some (Oo (bE (GC .u64 1 b.Off)) a XM) else none
def QQ(k:Int):Bool:=k==0 || (k==1 || (k==2 || (k==3 || k==8)))
def od(v:Int):Option Au->Au
 | some y=>bif decide ((16:Int)<(y.Terms.length:Int)) then ownT v else y
 | none=>ownT v
def fmN(D:Int->Option Ce):Nat->Int->Au
 | 0,v=>ownT v
 | n+1,v=>match D v with
  | none=>ownT v
  | some o=>bif o.Kind==0 then⟨[],o.Imm⟩ else od v (mkT o.Kind (fmN D n (o.Args.getD 0 0)) (fmN D n (o.Args.getD 1 0)))
structure rC(D:Int->Option Ce)(G:Int->Prop)(rk:Int->Nat):Prop where
 rng:∀ v,G v->1<=v/\v<=1023
 kind:∀ v o,G v->D v=some o->QQ o.Kind=true
 args:∀ v o,G v->D v=some o->o.Kind≠0->o.Args.length=2/\(G (o.Args.getD 0 0)/\rk (o.Args.getD 0 0)<rk v)/\G (o.Args.getD 1 0)/\rk (o.Args.getD 1 0)<rk v
 imm:∀ v o,G v->D v=some o->0<=o.Imm
section
variable {D:Int->Option Ce} {G:Int->Prop} {rk:Int->Nat} (W:rC D G rk)
include W
theorem DA:∀(n:Nat) (v:Int) (m:Nat),G v->rk v<n->rk v<m->fmN D n v=fmN D m v
 | 0,_,_,_,h,_=>absurd h (Us _)
 | _,_,0,_,_,h=>absurd h (Us _)
 | n+1,v,m+1,hg,h1,h2=>by
  unfold fmN
  cases hd:D v with
  | none=>rfl
  | some o=>
   by_cases h0:o.Kind=0
   ·simp[h0]
   ·obtain⟨_,⟨g0,r0⟩,g1,r1⟩:=W.args v o hg hd h0;simp only;rw[DA n _ m g0 (by omega) (by omega),DA n _ m g1 (by omega) (by omega)]
omit W in
theorem LB(n:Int):0<=Bo n:=by rw[Qu];omega
omit W in
theorem u0{k:Int}{a b y:Au}(h:mkT k a b=some y):E2 0 y.Terms=true/\0<=y.Off:=by
 have key:∀(g:Int->Int->Int) (a b:Au),(∀ x y,0<=g x y)->E2 0 (Oo g a b).Terms=true/\0<=(Oo g a b).Off:=λg a b hg=>by
  refine⟨pK g a b,?_⟩;unfold Oo
  cases E2 0 a.Terms&&E2 0 b.Terms with
  | false=>exact Int.le_refl _
  | true=>exact hg _ _
 have e1:∀ x y,0<=fb x y:=λx y=>LB _;have e2:∀ x y,0<=Ou x y:=λx y=>LB _;have e3:∀ n x y,0<=bE n x y:=λn x y=>LB _;unfold mkT at h
 cases c1:k==1 with
 | true=>rw[c1]at h;cases h;exact key _ _ _ e1
 | false=>
  rw[c1,An]at h
  cases c2:k==2 with
  | true=>rw[c2]at h;cases h;exact key _ _ _ e2
  | false=>
   rw[c2,An]at h
   cases c3:(k==3)&&((b.Terms.length:Int)==0) with
   | true=>rw[c3]at h;cases h;exact key _ _ _ (e3 _)
   | false=>
    rw[c3,An]at h
    cases c4:(k==3)&&((a.Terms.length:Int)==0) with
    | true=>rw[c4]at h;cases h;exact key _ _ _ (e3 _)
    | false=>
     rw[c4,An]at h
     cases c5:((k==8)&&((b.Terms.length:Int)==0))&&decide (b.Off<64) with
     | true=>rw[c5]at h;cases h;exact key _ _ _ (e3 _)
     | false=>rw[c5]at h;cases h
omit W in
theorem wk{v:Int}(h1:1<=v)(h2:v<=1023):E2 0 (ownT v).Terms=true/\0<=(ownT v).Off/\(ownT v).Terms.length<=16:=by
 refine⟨?_,Int.le_refl _,by simp[ownT]⟩;simp only[ownT,E2,LN,Be,En];exact⟨⟨by omega,h2⟩,rfl⟩
theorem dB:∀(n:Nat) (v:Int),G v->E2 0 (fmN D n v).Terms=true/\0<=(fmN D n v).Off/\(fmN D n v).Terms.length<=16:=λn v hg=>by
 have ho:=wk (W.rng v hg).1 (W.rng v hg).2
 cases n with
 | zero=>exact ho
 | succ n=>
  unfold fmN
  cases hd:D v with
  | none=>exact ho
  | some o=>
   simp only
   cases h0:o.Kind==0 with
   | true=>exact⟨rfl,W.imm v o hg hd,by simp⟩
   | false=>
    rw[An]
    cases hm:mkT o.Kind (fmN D n (o.Args.getD 0 0)) (fmN D n (o.Args.getD 1 0)) with
    | none=>exact ho
    | some y=>
     unfold od;simp only
     by_cases hl:(16:Int)<(y.Terms.length:Int)
     ·rw[Bv hl];exact ho
     ·rw[B7 hl];exact⟨(u0 hm).1,(u0 hm).2,by simp only[An];omega⟩
end
theorem wD{k:Int}{a b:Au}(ha:a.Terms.length<9223372036854775808)(hb:b.Terms.length<9223372036854775808)(h0:0<=b.Off) :
  Oz k a b=some (match mkT k a b with|some y=>(y,true)|none=>(⟨[],0⟩,false)):=by
 unfold Oz mkT Kj;rw[wH ha hb,jJ ha hb,ae ha,ae hb,ae ha,Aa h0]
 by_cases k1:k=1
 ·subst k1;rfl
 ·by_cases k2:k=2
  ·subst k2;rfl
  ·rw[show(k==1)=false by simp[k1],show(k==2)=false by simp[k2]];simp only[An]
   by_cases k3:k=3
   ·subst k3
    cases((b.Terms.length:Int)==0)<;>cases((a.Terms.length:Int)==0)<;>rfl
   ·rw[show(k==3)=false by simp[k3]]
    by_cases k8:k=8
    ·subst k8
     cases((b.Terms.length:Int)==0)<;>cases decide (b.Off<(64:Int))<;>rfl
    ·rw[show(k==8)=false by simp[k8]];rfl
def fS(M:List (Int×Ce))(D:Int->Option Ce)(G:Int->Prop):Prop:=∀ v,G v->C2 M v=(D v).isSome/\∀ o,D v=some o->mget default M v=o
section
variable {D:Int->Option Ce} {G:Int->Prop} {rk:Int->Nat} (W:rC D G rk)
include W
theorem lu{M:List (Int×Ce)}(hM:fS M D G):∀(r:Nat) (v:Int) (fd:List (Int×Au)),G v->rk v<r->(∀ x,G x->C2 fd x=true->mget default fd x=fmN D (rk x+1) x)->
  ∃ fd',(∀ n,2*r<=n->B4 n v M fd=some (fmN D (rk v+1) v,fd'))/\∀ x,G x->C2 fd' x=true->mget default fd' x=fmN D (rk x+1) x:=by
 intro r
 induction r with
 | zero=>intro v fd _ h;exact absurd h (Us _)
 | succ r ih=>
  intro v fd hg hr hfd;have step:∀ fd':List (Int×Au),(∀ n,2*r<=n->Ct (B4 (n+1)) (C0 (n+1)) v M fd=some (fmN D (rk v+1) v,fd'))->
    ∀ n,2*(r+1)<=n->B4 n v M fd=some (fmN D (rk v+1) v,fd'):=λfd' h n hn=>by
   obtain⟨n,rfl⟩:∃ m,n=m+2:=⟨n-2,by omega⟩;exact h n (by omega)
  have fin:∀(s:Option (Au×Bool×List (Int×Au))) (y:Au) (b:Bool) (fd':List (Int×Au)),s=some (y,b,fd')->(bif (bif (!b) then true else decide ((16:Int)<(y.Terms.length:Int))) then ownT v else y)=fmN D (rk v+1) v->
    (s.bind λx1=>(Option.bind (α:=(List (Ar)×Int)) (bif (bif (!x1.2.1) then true else(decide (((16:Int):Int)<(x1.1.Terms.length:Int)))) then(some ((([(⟨v,(1:Int)⟩:Ar)]:List (Ar)),(0:Int)))) else(some ((x1.1.Terms,x1.1.Off)))) (λx4=>(match x4 with|(l2,i3)=>(some ((⟨l2,i3⟩:Au),(Hr x1.2.2 v (⟨l2,i3⟩:Au))))))))
    = some (fmN D (rk v+1) v,Hr fd' v (fmN D (rk v+1) v)):=λs y b fd' hs hy=>by
   rw[hs,Ai,<- hy]
   cases b with
   | false=>rfl
   | true=>
    simp only[E7,An]
    cases decide ((16:Int)<(y.Terms.length:Int))<;>rfl
  have put:∀(fd':List (Int×Au)),(∀ x,G x->C2 fd' x=true->mget default fd' x=fmN D (rk x+1) x)->∀ x,G x->C2 (Hr fd' v (fmN D (rk v+1) v)) x=true->mget default (Hr fd' v (fmN D (rk v+1) v)) x=fmN D (rk x+1) x:=λfd' h x hx hh=>by
   rw[HQ]
   by_cases e:x=v
   ·subst e;simp
   ·rw[BF,show(x==v)=false by simp[e],TE]at hh;rw[show(x==v)=false by simp[e],An];exact h x hx hh
  cases hh:C2 fd v with
  | true=>exact⟨fd,step fd (λn hn=>by unfold Ct;rw[hh,Ae,hfd v hg hh]),hfd⟩
  | false=>
   obtain⟨hM1,hM2⟩:=hM v hg
   have hF:fmN D (rk v+1) v=match D v with
    | none=>ownT v
    | some o=>bif o.Kind==0 then⟨[],o.Imm⟩ else od v (mkT o.Kind (fmN D (rk v) (o.Args.getD 0 0)) (fmN D (rk v) (o.Args.getD 1 0))):=rfl
   have hsum:∀ n,C0 (n+1) v M fd=Dr (B4 n) (C0 n) v M fd:=λn=>rfl
   cases hd:D v with
   | none=>
    rw[hd]at hM1 hF;refine⟨_,step _ λn hn=>?_,put fd hfd⟩;unfold Ct;rw[hh,An,hsum];refine fin _ ⟨[],0⟩ false fd ?_ (by rw[hF];rfl);unfold Dr;rw[hM1]
    rfl
   | some o=>
    rw[hd]at hM1 hF;have hg2:=hM2 o hd
    by_cases h0:o.Kind=0
    ·refine⟨_,step _ λn hn=>?_,put fd hfd⟩;unfold Ct;rw[hh,An,hsum];refine fin _ ⟨[],o.Imm⟩ true fd ?_ (by rw[hF];dsimp only;rw[h0];rfl);unfold Dr;rw[hM1,hg2,h0]
     rfl
    ·obtain⟨hl,⟨g0,r0⟩,g1,r1⟩:=W.args v o hg hd h0;obtain⟨f1,a1,a2⟩:=ih _ fd g0 (by omega) hfd;obtain⟨f2,b1,b2⟩:=ih _ f1 g1 (by omega) a2;rw[DA W _ _ (rk v) g0 (by omega) r0]at a1;rw[DA W _ _ (rk v) g1 (by omega) r1]at b1;obtain⟨p1,p2,p3⟩:=dB W (rk v) _ g0;obtain⟨q1,q2,q3⟩:=dB W (rk v) _ g1;have hmade:=wD (k:=o.Kind) (a:=fmN D (rk v) (o.Args.getD 0 0)) (b:=fmN D (rk v) (o.Args.getD 1 0)) (by omega) (by omega) q2
     have hrun:∀ n,2*r<=n->Dr (B4 n) (C0 n) v M fd=(Oz o.Kind (fmN D (rk v) (o.Args.getD 0 0)) (fmN D (rk v) (o.Args.getD 1 0))).bind λx5=>some (x5.1,x5.2,f2):=λn hn=>by
      unfold Dr;rw[hM1,hg2];simp only[Option.isSome_some,E7,An,show(o.Kind==(0:Int))=false from zzL17.2 h0];rw[Aa ⟨by omega,by omega⟩,show((0:Int)).toNat=0 from rfl,a1 n hn,Ai,Aa ⟨by omega,by omega⟩,show((1:Int)).toNat=1 from rfl];simp only;rw[b1 n hn,Ai]
     dsimp only at hF
     rw[show(o.Kind==0)=false from zzL17.2 h0,An]at hF
     cases hm:mkT o.Kind (fmN D (rk v) (o.Args.getD 0 0)) (fmN D (rk v) (o.Args.getD 1 0)) with
     | none=>
      rw[hm]at hF hmade;refine⟨_,step _ λn hn=>?_,put f2 b2⟩;unfold Ct;rw[hh,An,hsum,hrun n hn,hmade,Ai];exact fin _ ⟨[],0⟩ false f2 rfl (by rw[hF];rfl)
     | some y=>
      rw[hm]at hF hmade;refine⟨_,step _ λn hn=>?_,put f2 b2⟩;unfold Ct;rw[hh,An,hsum,hrun n hn,hmade,Ai];exact fin _ y true f2 rfl (by rw[hF];rfl)
theorem gr{M:List (Int×Ce)}(hM:fS M D G){v:Int}(hg:G v):∃ fd,Ki v M []=some (fmN D (rk v+1) v,fd):=by
 obtain⟨fd,h,_⟩:=lu W hM (rk v+1) v [] hg (Nat.lt_succ_self _) (λx _ h=>by cases h);exact⟨fd,ak _ λm hm=>h m hm⟩
end
def mo(O:List Ce)(D:Int->Option Ce)(G:Int->Prop):Prop:=∀ v,G v->
 (∀ o,D v=some o->O.getD v.toNat default=o/\o.Dst=v/\o.Bits=64/\o.Lanes=1) /\
 (D v=none->¬ ((O.getD v.toNat default).Dst=v/\(O.getD v.toNat default).Bits=64/\(O.getD v.toNat default).Lanes=1/\QQ (O.getD v.toNat default).Kind=true))
theorem y0{k:Int}{a b own:Au}{z:A4}(ha:E2 0 a.Terms=true)(hb:E2 0 b.Terms=true)(h0:0<=b.Off)(hk:QQ k=true)(hk0:k≠0) :
  (Option.bind (α:=(Unit ⊕ (Au×A4))) (bif (k==(1:Int)) then((Bc a (1:Int) b (1:Int)).bind λx5=>(some ((.inr (x5,z))))) else(bif (k==(2:Int)) then((Bc a (1:Int) b (18446744073709551615:Int)).bind λx6=>(some ((.inr (x6,z))))) else(bif (k==(3:Int)) then(bif (((b.Terms.length:Int):Int)==(0:Int)) then((Bc a b.Off (⟨([]:List Ar),(0:Int)⟩:Au) (0:Int)).bind λx7=>(some ((.inr (x7,z))))) else(bif (((a.Terms.length:Int):Int)==(0:Int)) then((Bc b a.Off (⟨([]:List Ar),(0:Int)⟩:Au) (0:Int)).bind λx8=>(some ((.inr (x8,z))))) else(some ((.inl ()))))) else(bif (k==(8:Int)) then(bif (bif (((b.Terms.length:Int):Int)==(0:Int)) then(decide ((b.Off:Int)<(64:Int))) else false) then(A7 (0<=b.Off) ((Bc a (GC .u64 (1:Int) b.Off) (⟨([]:List Ar),(0:Int)⟩:Au) (0:Int)).bind λx10=>(some ((.inr (x10,z)))))) else(some ((.inl ())))) else(some ((.inl ()))))))) (λx11=>(match x11 with|(.inl _)=>(some (own,z))|(.inr r13)=>(some r13))))
  = some ((mkT k a b).getD own,z):=by
 have hk':k=1\/k=2\/k=3\/k=8:=by
  simp only[QQ,Vr,zzL61]at hk;omega
 rw[wr ha hb,jr ha hb,bQ ha,bQ hb,bQ ha,Aa h0];unfold mkT;rcases hk' with rfl|rfl|rfl|rfl
 ·rfl
 ·rfl
 ·cases((b.Terms.length:Int)==0)<;>cases((a.Terms.length:Int)==0)<;>rfl
 ·cases((b.Terms.length:Int)==0)<;>cases decide (b.Off<(64:Int))<;>rfl
section
variable {D:Int->Option Ce} {G:Int->Prop} {rk:Int->Nat} (W:rC D G rk)
include W
theorem jt{O:List Ce}(hO:mo O D G):∀(r:Nat) (v:Int) (z:A4),G v->rk v<r->z.Op=O->(∀ x,G x->z.Found.getD x.toNat false=true->z.Form.getD x.toNat default=fmN D (rk x+1) x)->
  ∃ z',(∀ n,2*r<=n->Bi n z v=some (fmN D (rk v+1) v,z'))/\z'.Op=O/\∀ x,G x->z'.Found.getD x.toNat false=true->z'.Form.getD x.toNat default=fmN D (rk x+1) x:=by
 intro r
 induction r with
 | zero=>intro v z _ h;exact absurd h (Us _)
 | succ r ih=>
  intro v z hg hr hzo hz;subst hzo;obtain⟨v1,v2⟩:=W.rng v hg;have hin:A5 v 1024:=⟨by omega,by omega⟩;have step:∀ z':A4,(∀ n,2*r<=n->B6 (Bi (n+1)) (Br (n+1)) z v=some (fmN D (rk v+1) v,z'))->
    ∀ n,2*(r+1)<=n->Bi n z v=some (fmN D (rk v+1) v,z'):=λz' h n hn=>by
   obtain⟨n,rfl⟩:∃ m,n=m+2:=⟨n-2,by omega⟩;exact h n (by omega)
  have put:∀(z':A4),z'.Op=z.Op->(∀ x,G x->z'.Found.getD x.toNat false=true->z'.Form.getD x.toNat default=fmN D (rk x+1) x)->
    (⟨z'.Op,Fx 1024 false z'.Found v.toNat true,Fx 1024 default z'.Form v.toNat (fmN D (rk v+1) v)⟩:A4).Op=z.Op /\
    ∀ x,G x->(⟨z'.Op,Fx 1024 false z'.Found v.toNat true,Fx 1024 default z'.Form v.toNat (fmN D (rk v+1) v)⟩:A4).Found.getD x.toNat false=true->
     (⟨z'.Op,Fx 1024 false z'.Found v.toNat true,Fx 1024 default z'.Form v.toNat (fmN D (rk v+1) v)⟩:A4).Form.getD x.toNat default=fmN D (rk x+1) x:=λz' ho h=>by
   refine⟨ho,λx hx hf=>?_⟩;have hxr:=W.rng x hx
   dsimp only at hf ⊢
   rw[Lw (by omega)]at hf ⊢
   by_cases e:x=v
   ·subst e;rw[Nat.beq_refl];rfl
   ·have hb:Nat.beq x.toNat v.toNat=false:=by
     cases hb:Nat.beq x.toNat v.toNat with
     | false=>rfl
     | true=>have:=Cq hb;omega
    rw[hb]at hf ⊢;exact h x hx hf
  cases hh:z.Found.getD v.toNat false with
  | true=>exact⟨z,step z (λn hn=>by unfold B6;rw[Aa hin,hh,Ae,Aa hin,hz v hg hh]),rfl,hz⟩
  | false=>
   obtain⟨hO1,hO2⟩:=hO v hg
   have hF:fmN D (rk v+1) v=match D v with
    | none=>ownT v
    | some o=>bif o.Kind==0 then⟨[],o.Imm⟩ else od v (mkT o.Kind (fmN D (rk v) (o.Args.getD 0 0)) (fmN D (rk v) (o.Args.getD 1 0))):=rfl
   have htwo:∀ n,Br (n+1)=Ef (Bi n) (Br n):=λn=>rfl
   cases hd:D v with
   | none=>
    rw[hd]at hF
    dsimp only at hF
    obtain⟨q1,q2⟩:=put z rfl hz;refine⟨_,step _ λn hn=>?_,q1,q2⟩;have hno:=hO2 hd;unfold B6;rw[Aa hin,hh,An,Aa hin,hF]
    generalize z.Op.getD v.toNat default=o at hno ⊢
    by_cases c1:o.Dst=v
    ·by_cases c2:o.Bits=64
     ·by_cases c3:o.Lanes=1
      ·have hk:QQ o.Kind=false:=by
        cases hk:QQ o.Kind with
        | false=>rfl
        | true=>exact absurd ⟨c1,c2,c3,hk⟩ hno
       simp only[QQ,TI]at hk;obtain⟨k0,k1,k2,k3,k8⟩:=hk;rw[show(o.Dst==v)=true by simp[c1],show(o.Bits==(64:Int))=true by simp[c2],show(o.Lanes==(1:Int))=true by simp[c3],k0,k1,k2,k3,k8];simp only[Ae,An,Ai,EW,show decide ((((1:Nat):Int))<=(16:Int))=true from rfl];rw[Aa hin,Aa hin]
       rfl
      ·rw[show(o.Dst==v)=true by simp[c1],show(o.Bits==(64:Int))=true by simp[c2],show(o.Lanes==(1:Int))=false by simp[c3]];simp only[Ae,An,Ai];rw[Aa hin,Aa hin]
       rfl
     ·rw[show(o.Dst==v)=true by simp[c1],show(o.Bits==(64:Int))=false by simp[c2]];simp only[Ae,An,Ai];rw[Aa hin,Aa hin]
      rfl
    ·rw[show(o.Dst==v)=false by simp[c1]];simp only[Ae,An,Ai];rw[Aa hin,Aa hin]
     rfl
   | some o=>
    rw[hd]at hF
    dsimp only at hF
    obtain⟨o1,o2,o3,o4⟩:=hO1 o hd
    by_cases h0:o.Kind=0
    ·obtain⟨q1,q2⟩:=put z rfl hz;refine⟨_,step _ λn hn=>?_,q1,q2⟩;unfold B6;rw[Aa hin,hh,An,Aa hin,o1,o2,o3,o4,h0,hF,h0];simp only[BEq.rfl,Ae,An,Ai,show((0:Int)==(1:Int))=false from rfl,show((0:Int)==(2:Int))=false from rfl,show((0:Int)==(3:Int))=false from rfl,show((0:Int)==(8:Int))=false from rfl,List.length_nil,show decide ((((0:Nat):Int))<=(16:Int))=true from rfl];rw[Aa hin,Aa hin]
    ·obtain⟨hl,⟨g0,r0⟩,g1,r1⟩:=W.args v o hg hd h0;obtain⟨f1,a1,a2,a3⟩:=ih _ z g0 (by omega) rfl hz;obtain⟨f2,b1,b2,b3⟩:=ih _ f1 g1 (by omega) a2 a3;rw[DA W _ _ (rk v) g0 (by omega) r0]at a1;rw[DA W _ _ (rk v) g1 (by omega) r1]at b1;obtain⟨p1,p2,p3⟩:=dB W (rk v) _ g0;obtain⟨q1,q2,q3⟩:=dB W (rk v) _ g1;have hkd:=W.kind v o hg hd
     have hrun:∀ n,2*r<=n->Br (n+1) z o ⟨[⟨v,1⟩],0⟩=some ((mkT o.Kind (fmN D (rk v) (o.Args.getD 0 0)) (fmN D (rk v) (o.Args.getD 1 0))).getD (ownT v),f2):=λn hn=>by
      rw[htwo];unfold Ef;rw[Aa ⟨by omega,by omega⟩,show((0:Int)).toNat=0 from rfl,a1 n hn,Ai,Aa ⟨by omega,by omega⟩,show((1:Int)).toNat=1 from rfl];simp only;rw[b1 n hn,Ai];exact y0 (own:=ownT v) p1 q1 q2 hkd h0
     rw[show(o.Kind==0)=false from zzL17.2 h0,An]at hF;obtain⟨u1,u2⟩:=put f2 b2 b3;refine⟨_,step _ λn hn=>?_,u1,u2⟩
     have hor:(bif (bif (bif (o.Kind==(1:Int)) then true else(o.Kind==(2:Int))) then true else(o.Kind==(3:Int))) then true else(o.Kind==(8:Int)))=true:=by
      simp only[QQ,Vr,zzL61]at hkd;rcases hkd with h|h|h|h|h
      ·exact absurd h h0
      all_goals rw[h];rfl
     unfold B6;rw[Aa hin,hh,An,Aa hin,o1,show(o.Dst==v)=true by simp[o2],show(o.Bits==(64:Int))=true by simp[o3],show(o.Lanes==(1:Int))=true by simp[o4],show(o.Kind==(0:Int))=false from zzL17.2 h0];simp only[Ae,An,Ai,hor];rw[hrun n hn,Ai,Ai]
     have hfit:(bif decide ((((mkT o.Kind (fmN D (rk v) (o.Args.getD 0 0)) (fmN D (rk v) (o.Args.getD 1 0))).getD (ownT v)).Terms.length:Int)<=(16:Int)) then(mkT o.Kind (fmN D (rk v) (o.Args.getD 0 0)) (fmN D (rk v) (o.Args.getD 1 0))).getD (ownT v) else ownT v)=fmN D (rk v+1) v:=by
      rw[hF]
      cases mkT o.Kind (fmN D (rk v) (o.Args.getD 0 0)) (fmN D (rk v) (o.Args.getD 1 0)) with
      | none=>rfl
      | some y=>
       unfold od;simp only[GJ]
       by_cases hy:(16:Int)<(y.Terms.length:Int)
       ·rw[Bv hy,B7 (by omega)];rfl
       ·rw[B7 hy,Bv (by omega)];rfl
     rw[<- hfit]
     generalize (mkT o.Kind (fmN D (rk v) (o.Args.getD 0 0)) (fmN D (rk v) (o.Args.getD 1 0))).getD (ownT v)=y
     dsimp only
     cases decide ((y.Terms.length:Int)<=(16:Int)) with
     | true=>simp only[Ae,Ai];rw[Aa hin,Aa hin]
     | false=>simp only[An,Ai];rw[Aa hin,Aa hin];rfl
end
theorem bX{t:List Int}:∀{k:Nat} {a:Int} {q:List Int},upD t k a=some q->∀{m:Nat},k<=m->upD t m a=some q
 | 0,_,_,h,_,_=>by cases h
 | k+1,a,q,h,0,hm=>absurd hm (by omega)
 | k+1,a,q,h,m+1,hm=>by
  unfold upD at h ⊢
  split at h
  ·rename_i h1
   rw[if_pos h1]
   split at h
   ·rename_i h2
    rw[if_pos h2];exact h
   ·rename_i h2
    rw[if_neg h2]
    cases hu:upD t k (t.getD a.toNat 0) with
    | none=>rw[hu]at h;cases h
    | some q'=>rw[hu]at h;rw[bX hu (by omega:k<=m)];exact h
  ·cases h
theorem qJ{t:List Int}:∀{k:Nat} {b a:Int} {q:List Int},upD t k b=some q->a∈q->a≠b->∃ q',upD t k a=some q'/\q'.length<q.length
 | 0,_,_,_,h,_,_=>by cases h
 | k+1,b,a,q,h,ha,hne=>by
  have h0:=h;unfold upD at h
  split at h
  ·split at h
   ·cases h;exact absurd (zzL24.1 ha) hne
   ·cases hu:upD t k (t.getD b.toNat 0) with
    | none=>rw[hu]at h;cases h
    | some q'=>
     rw[hu]at h;cases h;rcases zzL28.1 ha with e|hin
     ·exact absurd e hne
     ·by_cases e:a=t.getD b.toNat 0
      ·exact⟨q',by rw[e];exact bX hu (by omega),by simp⟩
      ·obtain⟨q2,h1,h2⟩:=qJ hu hin e;exact⟨q2,bX h1 (by omega),by simp;omega⟩
  ·cases h
theorem bP{t:List Int}{a b:Int}(h:Wx t a b=true)(hne:a≠b):(Dl t a).length<(Dl t b).length:=by
 unfold Wx at h;simp only[Be,zzL61,zzL75]at h;obtain⟨h1,h2⟩:=h;unfold Qn at h1 h2
 split at h1
 ·rename_i hr
  rw[if_pos hr]at h2
  cases hf:(Dl t a).find? λx=>(Dl t b).contains x with
  | none=>rw[hf]at h2;exact absurd rfl h2
  | some x=>
   rw[hf]at h1;obtain rfl:x=a:=h1;have hc:=List.find?_some hf
   have hin:x∈Dl t b:=by simpa using hc
   unfold Dl at hin ⊢
   cases hu:upD t t.length b with
   | none=>rw[hu]at hin;cases hin
   | some q=>
    rw[hu]at hin;obtain⟨q',g1,g2⟩:=qJ hu hin hne;rw[g1];exact g2
 ·rename_i hr
  rw[if_neg hr]at h2;exact absurd rfl h2
def Gd(f:TFunc)(v:Int):Prop:=∃ d∈A1 f,d.V=v/\d.Shape=(64,1)
def P2(f:TFunc):List Ce:=f.Blocks.flatMap (·.Ops)
def pc(f:TFunc)(v:Int):Option Ce:=(P2 f).find? λo=>QQ o.Kind&&o.Dst==v
def rkD(f:TFunc)(d:TDef):Nat:=if d.Block<0 then 0 else(Dl (Dy f) d.Block).length*((P2 f).length+5)+(d.At+2).toNat
def uD(f:TFunc)(v:Int):Nat:=rkD f (defOf (A1 f) v)
theorem opsA_mem{f:TFunc}{o:Ce}:o∈P2 f↔∃ i,i<f.Blocks.length/\∃ k,k<(bA f i).Ops.length/\o=(bA f i).Ops.getD k default:=by
 unfold P2;rw[zzL72]
 constructor
 ·rintro⟨b,hb,ho⟩;obtain⟨i,hi,rfl⟩:=Qw hb;obtain⟨k,hk,rfl⟩:=Qw ho;have e:bA f i=f.Blocks[i]:=Af _ _ _ hi;refine⟨i,hi,k,by rw[e];exact hk,?_⟩;rw[e,Af _ _ _ hk]
 ·rintro⟨i,hi,k,hk,rfl⟩;exact⟨bA f i,getD_mem hi,getD_mem hk⟩
theorem pd{f:TFunc}{i:Nat}(hi:i<f.Blocks.length):(bA f i).Ops.length<=(P2 f).length:=by
 unfold P2
 have:∀(l:List Am) (b:Am),b∈l->b.Ops.length<=(l.flatMap (·.Ops)).length:=by
  intro l
  induction l with
  | nil=>intro b h;cases h
  | cons x l ih=>
   intro b h;rw[Ur,Gk];rcases zzL28.1 h with rfl|h
   ·omega
   ·have:=ih b h;omega
 exact this _ _ (getD_mem hi)
section
variable {f:TFunc} (R:vk f 2)
include R
theorem gh{i k:Nat}(hi:i<f.Blocks.length)(hk:k<(bA f i).Ops.length):Lb ((bA f i).Ops.getD k default)=true:=pq R (getD_mem hi) (getD_mem hk)
theorem op_dst{o:Ce}(ho:o∈P2 f):o.Dst=0/\QQ o.Kind=false\/∃ i k:Nat,i<f.Blocks.length/\k<(bA f i).Ops.length/\o=(bA f i).Ops.getD k default/\1<=o.Dst/\o.Dst<=1023/\(⟨o.Dst,(i:Int),(k:Int),Pg o.Kind o.Bits o.Lanes⟩:TDef)∈A1 f:=by
 obtain⟨i,hi,k,hk,e⟩:=opsA_mem.1 ho;have hm:=gh R hi hk;rw[<- e]at hm;obtain⟨m1,m2,m3,m4,m5,m6,m7⟩:=Xy hm
 by_cases hst:o.Kind=17\/o.Kind=19
 ·left
  have:(o.Kind==17 || o.Kind==19)=true:=by simpa using hst
  unfold dstS at m7;rw[this,Ae]at m7;refine⟨by simpa using m7,?_⟩;rcases hst with h|h<;>rw[h]<;>rfl
 ·right
  have hf:(o.Kind==17 || o.Kind==19)=false:=by simpa using hst
  unfold dstS at m7;rw[hf,An]at m7;simp only[valS,Be,En]at m7
  have hg:Ll o=Pg o.Kind o.Bits o.Lanes:=by unfold Ll;rw[hm];rfl
  have hz:=QN (k:=o.Kind) m1;rw[hf]at hz
  have hpos:0<(Ll o).1:=by
   rw[hg];have hn:(Pg o.Kind o.Bits o.Lanes).1≠0:=zzL17.1 hz;have hb:=width_cases (shape_width m1);unfold Pg at hn ⊢;rw[hf,An]at hn ⊢
   cases(o.Kind==10 || o.Kind==11 || o.Kind==12) with
   | true=>show(0:Int)<1;omega
   | false=>cases(o.Kind==22)<;>simp<;>omega
  refine⟨i,k,hi,hk,e,m7.1,m7.2,ri_def.2 (.inr ⟨i,hi,.inr ⟨k,hk,by rw[<- e];exact hpos,?_⟩⟩)⟩;rw[<- e,hg]
theorem gi{o o':Ce}(ho:o∈P2 f)(ho':o'∈P2 f)(h1:1<=o.Dst)(h:o.Dst=o'.Dst):o=o':=by
 rcases op_dst R ho with⟨h0,_⟩|⟨i,k,hi,hk,e,_,_,hd⟩
 ·omega
 ·rcases op_dst R ho' with⟨h0,_⟩|⟨i',k',hi',hk',e',_,_,hd'⟩
  ·omega
  ·have:=g5 R hd hd' h;simp only[TDef.mk.injEq]at this;obtain⟨_,h2,h3,_⟩:=this
   have e1:i=i':=by omega
   have e2:k=k':=by omega
   rw[e,e',e1,e2]
theorem dq{o:Ce}(ho:o∈P2 f)(hk:QQ o.Kind=true):pc f o.Dst=some o:=by
 unfold pc
 cases h:(P2 f).find? λx=>QQ x.Kind&&x.Dst==o.Dst with
 | none=>
  have:=List.find?_eq_none.1 h o ho;simp[hk]at this
 | some x=>
  have hp:=List.find?_some h;simp only[Be,zzL61]at hp
  have h1:1<=x.Dst:=by
   rcases op_dst R (List.mem_of_find?_eq_some h) with⟨_,h0⟩|⟨i,k,hi,hk',e,h1,_,_⟩
   ·rw[hp.1]at h0;cases h0
   ·exact h1
  rw[gi R (List.mem_of_find?_eq_some h) ho h1 hp.2]
omit R in
theorem DL{v:Int}{o:Ce}(h:pc f v=some o):o∈P2 f/\QQ o.Kind=true/\o.Dst=v:=by
 unfold pc at h;have hp:=List.find?_some h;simp only[Be,zzL61]at hp;exact⟨List.mem_of_find?_eq_some h,hp.1,hp.2⟩
theorem u6{d:TDef}(hd:d∈A1 f):uD f d.V=rkD f d:=by
 unfold uD;rw[(ft (FR (PD R).1) hd).2]
theorem oc(hI:∀ o∈P2 f,0<=o.Imm):rC (pc f) (Gd f) (uD f):=by
 refine⟨λv ⟨d,hd,hv,_⟩=>?_,λv o _ h=>(DL h).2.1,λv o ⟨d,hd,hv,hs⟩ h h0=>?_,λv o _ h=>hI o (DL h).1⟩
 ·have:=pu R hd;simp only[valS,Be,En]at this;rw[<- hv];exact this
 ·obtain⟨hm,hk,hdst⟩:=DL h;rcases op_dst R hm with⟨_,h2⟩|⟨i,k,hi,hkk,e,h1,_,hde⟩
  ·rw[hk]at h2;cases h2
  ·have hdd:=g5 R hd hde (by rw[hv,hdst]);have hmay:=gh R hi hkk;rw[<- e]at hmay;obtain⟨m1,m2,m3,m4,m5,m6,m7⟩:=Xy hmay
   have hk':o.Kind=1\/o.Kind=2\/o.Kind=3\/o.Kind=8:=by
    simp only[QQ,Vr,zzL61]at hk;omega
   have hgs:Pg o.Kind o.Bits o.Lanes=(o.Bits,o.Lanes):=by rcases hk' with h|h|h|h<;>rw[h]<;>rfl
   have hel:∀ j,Wl o j=(o.Bits,o.Lanes):=λj=>by unfold Wl;rcases hk' with h|h|h|h<;>rw[h]<;>rfl
   have hna:Re o.Kind o.Lanes=2:=by rcases hk' with h|h|h|h<;>rw[h]<;>rfl
   rw[hdd]at hs;have hsh:(o.Bits,o.Lanes)=((64:Int),(1:Int)):=hgs.symm.trans hs
   have hlen:o.Args.length=2:=by omega
   have harg:∀ j,j<2->Gd f (o.Args.getD j 0)/\uD f (o.Args.getD j 0)<uD f v:=λj hj=>by
    have hu:(⟨o.Args.getD j 0,(i:Int),(k:Int),Wl o j⟩:C9)∈B5 f:=by
     refine(jx (λb hb o ho=>pq R hb ho)).2 ⟨i,hi,.inr (.inl ⟨k,j,hkk,by rw[<- e];omega,by rw[<- e]⟩)⟩
    obtain⟨d',hd',hv',hs',ht⟩:=pt R hu;have hv':d'.V=o.Args.getD j 0:=hv';refine⟨⟨d',hd',hv',by rw[hs',<- hsh];exact hel j⟩,?_⟩;rw[<- hv',u6 R hd',<- hv,u6 R hd,hdd];unfold rkD
    have hbn:¬ ((⟨o.Dst,(i:Int),(k:Int),Pg o.Kind o.Bits o.Lanes⟩:TDef).Block<0):=by show ¬ ((i:Int)<0);omega
    rw[if_neg hbn];have ht:d'.Block<0\/(d'.Block=(i:Int)/\d'.At<(k:Int))\/(d'.Block≠(i:Int)/\Wx (Dy f) d'.Block (i:Int)=true):=ht
    show(if d'.Block<0 then 0 else _)<(Dl (Dy f) (i:Int)).length*_+((k:Int)+2).toNat
    split
    ·omega
    ·rename_i hb
     rcases ht with h|⟨h,ha⟩|⟨h,ho⟩
     ·exact absurd h hb
     ·rw[h]
      have:(d'.At+2).toNat<((k:Int)+2).toNat:=by omega
      omega
     ·have hsh:=bP ho h
      have hat:(d'.At+2).toNat<=(P2 f).length+2:=by
       rcases ri_def.1 hd' with⟨p,hp,rfl⟩|⟨p,hp,⟨q,hq,rfl⟩|⟨q,hq,_,rfl⟩⟩
       ·show((0:Int)+2).toNat<=_;simp
       ·show((-1:Int)+2).toNat<=_;simp
       ·show((q:Int)+2).toNat<=_
        have:=pd hp;omega
      have hmul:((Dl (Dy f) d'.Block).length+1)*((P2 f).length+5)<=(Dl (Dy f) (i:Int)).length*((P2 f).length+5):=Em _ hsh;rw[E8]at hmul;omega
   exact⟨hlen,harg 0 (by omega),harg 1 (by omega)⟩
theorem wJ(hb:f.Blocks.length<9223372036854775808)(hl:∀ b∈f.Blocks,b.Ops.length<9223372036854775808):∃ M,R9 f=some M/\fS M (pc f) (Gd f):=by
 let st (M:List (Int×Ce)) (o:Ce):List (Int×Ce):=bif QQ o.Kind then Hr M o.Dst o else M
 have inner:∀(i:Nat),i<f.Blocks.length->∀(k j:Nat) (M:List (Int×Ce)),j+k=(bA f i).Ops.length->Ab (Ln f (i:Int)) ((j:Int),M)=some (((bA f i).Ops.drop j).foldl st M):=by
  intro i hi k;have hlen:=hl _ (getD_mem hi:bA f i∈f.Blocks)
  induction k with
  | zero=>
   intro j M h
   obtain rfl:j=(bA f i).Ops.length:=by omega
   rw[List.drop_length];refine Ah ?_;unfold Ln;simp only[Ap];rw[show f.Blocks.getD i default=bA f i from rfl,Ei]
   rfl
  | succ k ih=>
   intro j M h
   have hj:j<(bA f i).Ops.length:=by omega
   have hd:(bA f i).Ops.drop j=(bA f i).Ops.getD j default::(bA f i).Ops.drop (j+1):=by rw[W8 hj,Af _ _ _ hj]
   have hs:Ln f (i:Int) ((j:Int),M)=some (.next (((j+1:Nat):Int),st M ((bA f i).Ops.getD j default))):=by
    unfold Ln;simp only[Ap];rw[show f.Blocks.getD i default=bA f i from rfl,Cr hj,Ae,Aa (Eo hj),A3 hj hlen]
    generalize (bA f i).Ops.getD j default=o
    simp only[st,QQ]
    cases(o.Kind==0)<;>cases(o.Kind==1)<;>cases(o.Kind==2)<;>cases(o.Kind==3)<;>cases(o.Kind==8)<;>rfl
   rw[Aq hs,ih (j+1) _ (by omega),hd,LK]
 have outer:∀(k i:Nat) (M:List (Int×Ce)),i+k=f.Blocks.length->Ab (Lo f) ((i:Int),M)=some (((f.Blocks.drop i).flatMap (·.Ops)).foldl st M):=by
  intro k
  induction k with
  | zero=>
   intro i M h
   obtain rfl:i=f.Blocks.length:=by omega
   rw[List.drop_length];exact Ah (by unfold Lo;simp only[Ei,An];rfl)
  | succ k ih=>
   intro i M h
   have hi:i<f.Blocks.length:=by omega
   have hd:f.Blocks.drop i=bA f i::f.Blocks.drop (i+1):=by rw[W8 hi];exact Ci (·::_) (Af _ _ _ hi).symm
   have hs:Lo f ((i:Int),M)=some (.next (((i+1:Nat):Int),(bA f i).Ops.foldl st M)):=by
    unfold Lo;simp only[Cr hi,Ae];have:=inner i hi (bA f i).Ops.length 0 M (by omega);rw[show(((0:Nat):Int))=0 from rfl,Js]at this;rw[Aa (Eo hi),this,Ai,A3 hi hb]
    rfl
   rw[Aq hs,ih (i+1) _ (by omega),hd,Ur,List.foldl_append]
 refine⟨(P2 f).foldl st [],?_,?_⟩
 ·unfold R9;have:=outer f.Blocks.length 0 [] (by omega);rw[show(((0:Nat):Int))=0 from rfl,Js]at this;rw[this]
  rfl
 ·have key:∀(l done:List Ce) (M:List (Int×Ce)),(∀ o∈done++l,o∈P2 f)->(∀ o∈done,QQ o.Kind=true->C2 M o.Dst=true/\mget default M o.Dst=o)->(∀ v,C2 M v=true->∃ o∈done,QQ o.Kind=true/\o.Dst=v)->
    (∀ o∈done++l,QQ o.Kind=true->C2 (l.foldl st M) o.Dst=true/\mget default (l.foldl st M) o.Dst=o)/\(∀ v,C2 (l.foldl st M) v=true->∃ o∈done++l,QQ o.Kind=true/\o.Dst=v):=by
   intro l
   induction l with
   | nil=>intro done M _ h1 h2;rw[List.append_nil];exact⟨h1,h2⟩
   | cons x l ih=>
    intro done M hin h1 h2;have hx:x∈P2 f:=hin x (by simp)
    have:=ih (done++[x]) (st M x) (by rw[Px];exact hin) (λo ho hk=>by
     rcases zzL18.1 ho with h|h
     ·obtain⟨g1,g2⟩:=h1 o h hk;simp only[st]
      cases hxk:QQ x.Kind with
      | false=>exact⟨g1,g2⟩
      | true=>
       rw[Ae,BF,HQ,g1,g2]
       by_cases e:o.Dst=x.Dst
       ·have h1o:1<=o.Dst:=by
         rcases op_dst R (hin o (by simp[h])) with⟨_,h0⟩|⟨_,_,_,_,_,h1,_⟩
         ·rw[hk]at h0;cases h0
         ·exact h1
        have:=gi R (hin o (by simp[h])) hx h1o e;subst this
        simp
       ·rw[show(o.Dst==x.Dst)=false by simp[e]];simp
     ·obtain rfl:=zzL24.1 h;simp only[st];rw[hk,Ae,BF,HQ]
      simp) (λv hv=>by
     simp only[st]at hv
     cases hxk:QQ x.Kind with
     | false=>
      rw[hxk,An]at hv;obtain⟨o,ho,h⟩:=h2 v hv;exact⟨o,by simp[ho],h⟩
     | true=>
      rw[hxk,Ae,BF,Vr]at hv;rcases hv with hv|hv
      ·exact⟨x,by simp,hxk,(eq_of_beq hv).symm⟩
      ·obtain⟨o,ho,h⟩:=h2 v hv
       exact⟨o,by simp[ho],h⟩)
    rw[Px]at this;exact this
  obtain⟨k1,k2⟩:=key (P2 f) [] [] (λo ho=>by simpa using ho) (λo ho=>by cases ho) (λv hv=>by cases hv);rw[W9]at k1 k2;intro v hg;refine⟨?_,λo h=>?_⟩
  ·cases hd:pc f v with
   | some o=>
    obtain⟨a,b,c⟩:=DL hd;have:=(k1 o a b).1;rw[c]at this;exact this
   | none=>
    cases hm:C2 ((P2 f).foldl st []) v with
    | false=>rfl
    | true=>
     obtain⟨o,a,b,c⟩:=k2 v hm;have:=dq R a b;rw[c,hd]at this
     cases this
  ·obtain⟨a,b,c⟩:=DL h;have:=(k1 o a b).2;rw[c]at this;exact this
theorem yy(hb:f.Blocks.length<9223372036854775808)(hl:∀ b∈f.Blocks,b.Ops.length<9223372036854775808):∃ O,Lj f=some ⟨O,[],[]⟩/\mo O (pc f) (Gd f):=by
 let st (O:List Ce) (o:Ce):List Ce:=Fx 1024 default O o.Dst.toNat o
 have hdst:∀ o∈P2 f,A5 o.Dst 1024:=λo ho=>by
  rcases op_dst R ho with⟨h,_⟩|⟨_,_,_,_,_,h1,h2,_⟩
  ·rw[h];exact⟨by omega,by omega⟩
  ·exact⟨by omega,by omega⟩
 have inner:∀(i:Nat),i<f.Blocks.length->∀(k j:Nat) (O:List Ce),j+k=(bA f i).Ops.length->Ab (Gy f (i:Int)) ((j:Int),⟨O,[],[]⟩)=some ⟨((bA f i).Ops.drop j).foldl st O,[],[]⟩:=by
  intro i hi k;have hlen:=hl _ (getD_mem hi:bA f i∈f.Blocks)
  induction k with
  | zero=>
   intro j O h
   obtain rfl:j=(bA f i).Ops.length:=by omega
   rw[List.drop_length];refine Ah ?_;unfold Gy;simp only[Ap];rw[Aa (Eo hi),show f.Blocks.getD i default=bA f i from rfl,Ei]
   rfl
  | succ k ih=>
   intro j O h
   have hj:j<(bA f i).Ops.length:=by omega
   have hd:(bA f i).Ops.drop j=(bA f i).Ops.getD j default::(bA f i).Ops.drop (j+1):=by rw[W8 hj,Af _ _ _ hj]
   have hs:Gy f (i:Int) ((j:Int),⟨O,[],[]⟩)=some (.next (((j+1:Nat):Int),⟨st O ((bA f i).Ops.getD j default),[],[]⟩)):=by
    have hin:=hdst _ (opsA_mem.2 ⟨i,hi,j,hj,rfl⟩);unfold Gy;simp only[Ap];rw[Aa (Eo hi),show f.Blocks.getD i default=bA f i from rfl,Cr hj,Ae,Aa (Eo hi),Aa (Eo hj),Aa (Eo hi),Aa (Eo hj),Aa hin,A3 hj hlen]
    rfl
   rw[Aq hs,ih (j+1) _ (by omega),hd,LK]
 have outer:∀(k i:Nat) (O:List Ce),i+k=f.Blocks.length->Ab (Gz f) ((i:Int),⟨O,[],[]⟩)=some ⟨((f.Blocks.drop i).flatMap (·.Ops)).foldl st O,[],[]⟩:=by
  intro k
  induction k with
  | zero=>
   intro i O h
   obtain rfl:i=f.Blocks.length:=by omega
   rw[List.drop_length];exact Ah (by unfold Gz;simp only[Ei,An];rfl)
  | succ k ih=>
   intro i O h
   have hi:i<f.Blocks.length:=by omega
   have hd:f.Blocks.drop i=bA f i::f.Blocks.drop (i+1):=by rw[W8 hi];exact Ci (·::_) (Af _ _ _ hi).symm
   have hs:Gz f ((i:Int),⟨O,[],[]⟩)=some (.next (((i+1:Nat):Int),⟨(bA f i).Ops.foldl st O,[],[]⟩)):=by
    unfold Gz;simp only[Cr hi,Ae];have:=inner i hi (bA f i).Ops.length 0 O (by omega);rw[show(((0:Nat):Int))=0 from rfl,Js]at this;rw[this,Ai,A3 hi hb]
    rfl
   rw[Aq hs,ih (i+1) _ (by omega),hd,Ur,List.foldl_append]
 have key:∀(l done:List Ce) (O:List Ce),(∀ o∈done++l,o∈P2 f)->(∀ v:Nat,1<=v->v<1024->(∃ o∈done,o.Dst=(v:Int)/\O.getD v default=o)\/(∀ o∈done,o.Dst≠(v:Int))/\O.getD v default=default)->
   ∀ v:Nat,1<=v->v<1024->(∃ o∈done++l,o.Dst=(v:Int)/\(l.foldl st O).getD v default=o)\/(∀ o∈done++l,o.Dst≠(v:Int))/\(l.foldl st O).getD v default=default:=by
  intro l
  induction l with
  | nil=>intro done O _ h;rw[List.append_nil];exact h
  | cons x l ih=>
   intro done O hin h v h1 h2
   have:=ih (done++[x]) (st O x) (by rw[Px];exact hin) (λv h1 h2=>by
    have hxi:=hdst x (hin x (by simp));simp only[st];rw[Lw h2]
    cases hb:Nat.beq v x.Dst.toNat with
    | true=>
     have:=Cq hb;exact .inl ⟨x,by simp,by have:=hxi.1;omega,rfl⟩
    | false=>
     have hne:x.Dst≠(v:Int):=λe=>by
      rw[show v=x.Dst.toNat by omega,Nat.beq_refl]at hb;cases hb
     rw[An];rcases h v h1 h2 with⟨o,ho,e,g⟩|⟨hn,g⟩
     ·exact .inl ⟨o,by simp[ho],e,g⟩
     ·refine .inr ⟨λo ho=>?_,g⟩;rcases zzL18.1 ho with h|h
      ·exact hn o h
      ·rw[zzL24.1 h];exact hne) v h1 h2
   rw[Px]at this;rw[LK];exact this
 have hrun:=outer f.Blocks.length 0 [] (by omega);rw[show(((0:Nat):Int))=0 from rfl,Js]at hrun;refine⟨Fx 1024 default ((P2 f).foldl st []) 0 ⟨0,0,0,0,[],0⟩,?_,?_⟩
 ·unfold Lj;rw[hrun,Ai,Aa ⟨by omega,by omega⟩]
  rfl
 ·intro v hg;have hv:=(finD_rng R hg);have hk:=key (P2 f) [] [] (λo ho=>by simpa using ho) (λv _ _=>.inr ⟨λo ho=>by(cases ho),rfl⟩) v.toNat (by omega) (by omega);rw[W9]at hk
  have hget:(Fx 1024 default ((P2 f).foldl st []) 0 (⟨0,0,0,0,[],0⟩:Ce)).getD v.toNat default=((P2 f).foldl st []).getD v.toNat default:=by
   rw[Lw (by omega)]
   cases hb:Nat.beq v.toNat 0 with
   | false=>rfl
   | true=>have:=Cq hb;omega
  rw[hget]
  have evn:((v.toNat:Nat):Int)=v:=by omega
  rw[evn]at hk;refine⟨λo h=>?_,λhn=>?_⟩
  ·obtain⟨a,b,c⟩:=DL h;rcases hk with⟨x,hx,e,g⟩|⟨hno,_⟩
   ·have hxo:=gi R hx a (by omega) (e.trans c.symm);subst hxo;refine⟨g,c,?_⟩;rcases op_dst R hx with⟨_,h0⟩|⟨i,k,hi,hkk,e2,_,_,hde⟩
    ·rw[b]at h0;cases h0
    ·obtain⟨d,hd,hdv,hds⟩:=hg;have:=g5 R hd hde (by rw[hdv,c]);rw[this]at hds
     have hgs:Pg x.Kind x.Bits x.Lanes=(x.Bits,x.Lanes):=by
      simp only[QQ,Vr,zzL61]at b;rcases b with h|h|h|h|h<;>rw[h]<;>rfl
     have hds:Pg x.Kind x.Bits x.Lanes=((64:Int),(1:Int)):=hds;rw[hgs,Ms]at hds;exact hds
   ·exact absurd c (hno o a)
  ·rintro⟨e1,_,_,e4⟩;rcases hk with⟨x,hx,e,g⟩|⟨_,g⟩
   ·rw[g]at e4;have:=dq R hx e4;rw[e,hn]at this
    cases this
   ·rw[g]at e1;have:(default:Ce).Dst=0:=rfl;omega
where
 finD_rng {f:TFunc} (R:vk f 2) {v:Int} (hg:Gd f v):1<=v/\v<=1023:=by
  obtain⟨d,hd,hv,_⟩:=hg;have:=pu R hd;simp only[valS,Be,En]at this;rw[<- hv];exact this
end
section
variable {f:TFunc} (h:Sm f)
include h
omit h in
theorem GD(hc:Da f 2=0):vk f 2:=(uB (by omega)).1 hc
theorem IP:f.Blocks.length<9223372036854775808/\(∀ b∈f.Blocks,b.Ops.length<9223372036854775808)/\∀ o∈P2 f,0<=o.Imm:=by
 have hI:=h.1;refine⟨by have:=hI.blocks;rw[Lq]at this;omega,λb hb=>by have:=(hI.block b hb).2.1;rw[Lq]at this;omega,λo ho=>?_⟩;obtain⟨i,hi,k,hk,rfl⟩:=opsA_mem.1 ho;exact(hI.op _ (getD_mem hi) _ (getD_mem hk)).2.1
theorem oM(hc:Da f 2=0){v:Int}(hg:Gd f v):L2 f v=some (fmN (pc f) (uD f v+1) v,0):=by
 obtain⟨s,hs,hS⟩:=cg f h;obtain⟨p1,p2,p3⟩:=IP h;have R:=GD hc;obtain⟨M,m1,m2⟩:=wJ R p1 p2;obtain⟨fd,f1⟩:=gr (oc R p3) m2 hg;obtain⟨d,hd,hv,hsh⟩:=hg;have hget:=hS.get hc d hd;rw[hv,hsh]at hget;unfold L2;rw[hs,Ai,hget,m1]
 show(Ki v M []).bind _=_
 rw[f1]
 rfl
theorem sc{v:Int}(hn:¬ (Da f 2=0/\Gd f v)):L2 f v=some (⟨[],0⟩,10):=by
 obtain⟨s,hs,hS⟩:=cg f h
 have hne:mget ((0:Int),(0:Int)) s v≠(64,1):=λe=>by
  by_cases hc:Da f 2=0
  ·cases hm:C2 s v with
   | false=>rw[KC hm]at e;cases e
   | true=>
    obtain⟨d,hd,hv⟩:=hS.has hc v hm;have:=hS.get hc d hd;rw[hv,e]at this;exact hn ⟨hc,d,hd,hv,this.symm⟩
  ·have:=hS.none hc;rw[YO this]at e
   cases e
 unfold L2;rw[hs,Ai]
 have:(!(((mget ((0:Int),(0:Int)) s v).1==(64:Int))&&(((mget ((0:Int),(0:Int)) s v).2==(1:Int))&&true)))=true:=by
  generalize mget ((0:Int),(0:Int)) s v=p at hne ⊢
  obtain⟨a,b⟩:=p
  by_cases ha:a=64
  ·have hb:b≠1:=λe=>hne (by rw[ha,e]);simp[hb]
  ·simp[ha]
 rw[this]
 rfl
end
theorem yd{g:Int->Int}{v:Int}(h1:1<=v)(h2:v<1024):Nl (kx g) v=g v:=by
 rw[wN,Bv h1,Bv h2];rfl
theorem YD:∀ n a,Lv (λ_=>0) a n=[]
 | 0,_=>rfl
 | n+1,a=>by unfold Lv;exact YD n (a+1)
theorem nh:kx (λ_=>0)=[]:=YD _ _
section
variable {x y:Au} (hx:E2 0 x.Terms=true) (hy:E2 0 y.Terms=true)
include hx
end
set_option linter.unusedSectionVars false
set_option linter.defProp false
def fV(ps:List Int)(r:Int)(ops:List Ce)(a:Int):TFunc:=⟨ps,r,[⟨[],ops,⟨0,a,[]⟩⟩]⟩
def mM(o:Ce):Bool:=o.Kind==16 || (o.Kind==17 || (o.Kind==18 || o.Kind==19))
def wh(o:Ce):Nat:=bif o.Kind==16 || o.Kind==17 then 0 else 1
def adr(o:Ce):Int:=o.Args.getD (wh o) 0
def lenT(o:Ce):Int:=o.Lanes*(o.Bits / 8)
theorem mN{o:Ce}(h:mM o=true):o.Kind=16\/o.Kind=17\/o.Kind=18\/o.Kind=19:=by simpa [mM] using h
theorem mJ{b n:Int}(h:Vy b n=true)(h8:8<=b):1<=n*(b / 8)/\n*(b / 8)<=16/\n*b=8*(n*(b / 8)):=by
 have hw:=width_cases (shape_width h);have hl:=Pu h
 have h128:n=1\/b*n<=128:=by
  simp only[Vy,Be,Vr,zzL61,En]at h;rcases h.2 with h|h
  ·exact .inl h
  ·exact .inr h.2
 rcases hw with rfl|rfl|rfl|rfl|rfl<;>rcases hl with rfl|rfl|rfl|rfl|rfl<;>omega
theorem eS{f:TFunc}(R:vk f 2){i k:Nat}(hi:i<f.Blocks.length)(hk:k<(bA f i).Ops.length){o:Ce}(e:(bA f i).Ops.getD k default=o)(ht:mM o=true) :
  wh o<o.Args.length/\Gd f (adr o)/\1<=lenT o/\lenT o<=16/\o.Lanes*o.Bits=8*lenT o/\0<=o.Bits/\o.Bits<=64:=by
 have hmay:=gh R hi hk;rw[e]at hmay;obtain⟨m1,m2,m3,m4,m5,m6,m7⟩:=Xy hmay;have hk':=mN ht
 have hwl:wh o<o.Args.length:=by
  have:Re o.Kind o.Lanes=1/\wh o=0\/2<=Re o.Kind o.Lanes/\wh o<=1:=by
   unfold wh;rcases hk' with h|h|h|h<;>rw[h]
   ·exact .inl ⟨rfl,rfl⟩
   ·exact .inr ⟨by show(2:Int)<=2;omega,by decide⟩
   ·exact .inr ⟨by show(2:Int)<=3;omega,by decide⟩
   ·exact .inr ⟨by show(2:Int)<=3;omega,by decide⟩
  omega
 have h8:8<=o.Bits:=by
  rcases hk' with h|h|h|h<;>rw[h]at m3
  ·exact EX m3
  ·exact EX m3
  ·exact EX (Bool.and_eq_true_iff.1 m3).1
  ·exact EX (Bool.and_eq_true_iff.1 m3).1
 have hel:Wl o (wh o)=(64,1):=by unfold Wl wh;rcases hk' with h|h|h|h<;>rw[h]<;>rfl
 have hu:(⟨adr o,(i:Int),(k:Int),Wl o (wh o)⟩:C9)∈B5 f:=
  (jx (λb hb o ho=>pq R hb ho)).2 ⟨i,hi,.inr (.inl ⟨k,wh o,hk,by rw[e];exact hwl,by rw[e];rfl⟩)⟩
 obtain⟨d,hd,hv,hs,_⟩:=pt R hu;obtain⟨l1,l2,l3⟩:=mJ m1 h8;exact⟨hwl,⟨d,hd,hv,hs.trans hel⟩,l1,l2,l3,by omega,by rcases width_cases (shape_width m1) with h|h|h|h|h<;>omega⟩
def JQ(p q:Au):Int×Bool:=bif (Oo Ou q p).Terms.length==0 then((Oo Ou q p).Off,true) else(0,false)
section
variable {p q:Au} (hp:E2 0 p.Terms=true) (hq:E2 0 q.Terms=true)
include hp hq
theorem sub_nil:(Oo Ou q p).Terms=[]↔∀ v:Int,1<=v->v<1024->Nl q.Terms v=Nl p.Terms v\/Ou (Nl q.Terms v) (Nl p.Terms v)=0:=by
 rw[HR hq hp]
 constructor
 ·intro h v h1 h2;have h:kx (λv=>Ou (Nl q.Terms v) (Nl p.Terms v))=[]:=h;have:=yd (g:=λv=>Ou (Nl q.Terms v) (Nl p.Terms v)) h1 h2;rw[h]at this;exact .inr this.symm
 ·intro h
  show kx (λv=>Ou (Nl q.Terms v) (Nl p.Terms v))=[]
  rw[<- nh];refine ky λv h1 h2=>?_;rcases h v h1 h2 with e|e
  ·show Ou _ _=0
   rw[e];unfold Ou;rw[Int.sub_self];rfl
  ·exact e
theorem IQ(h:(Oo Ou q p).Terms=[]):(Oo Ou p q).Terms=[]:=by
 refine(sub_nil hq hp).2 λv h1 h2=>?_;rcases(sub_nil hp hq).1 h v h1 h2 with e|e
 ·exact .inl e.symm
 ·refine .inr ?_;unfold Ou at e ⊢;simp only[Qu]at e ⊢;omega
theorem oW:(JQ p q).2=(JQ q p).2/\((JQ p q).2=true->Bo ((JQ p q).1+(JQ q p).1)=0)/\((JQ p q).2=false->(JQ p q).1=0)/\0<=(JQ p q).1/\(JQ p q).1<18446744073709551616:=by
 have hr:∀ a b,0<=Ou a b/\Ou a b<18446744073709551616:=λa b=>by unfold Ou;simp only[Qu];omega
 have ho:∀{x y:Au},E2 0 x.Terms=true->E2 0 y.Terms=true->(Oo Ou x y).Off=Ou x.Off y.Off:=λhx hy=>by rw[HR hx hy]
 unfold JQ
 by_cases h:(Oo Ou q p).Terms=[]
 ·have h':=IQ hp hq h;rw[h,h',ho hq hp,ho hp hq];refine⟨rfl,λ_=>?_,(λe=>by cases e),hr _ _⟩
  show Bo (Ou q.Off p.Off+Ou p.Off q.Off)=0
  unfold Ou;simp only[Qu];omega
 ·have h':(Oo Ou p q).Terms≠[]:=λe=>h (IQ hq hp e)
  have e1:((Oo Ou q p).Terms.length==0)=false:=by rw[zzL17];exact λe=>h (YO e)
  have e2:((Oo Ou p q).Terms.length==0)=false:=by rw[zzL17];exact λe=>h' (YO e)
  rw[e1,e2];exact⟨rfl,(λe=>by cases e),λ_=>rfl,by show(0:Int)<=0/\(0:Int)<_;omega⟩
omit hq in
end
def xS(d m n:Int):Bool:=decide (m<=d)&&decide (n<=Bo (-d))
theorem vt{d m n:Int}(hd:0<=d/\d<18446744073709551616)(hm:1<=m/\m<=16)(hn:1<=n/\n<=16) :
  xS d m n=false↔∃ i k:Nat,(i:Int)<m/\(k:Int)<n/\(i:Int)=Bo (d+k):=by
 have e:xS d m n=false↔¬ (m<=d/\n<=Bo (-d)):=by
  unfold xS;rw[<- Bool.not_eq_true,Be,En,En]
 rw[e];simp only[Qu]
 constructor
 ·intro h
  by_cases h1:m<=d
  ·by_cases h0:d=0
   ·exact absurd h1 (by omega)
   ·exact⟨0,(18446744073709551616-d).toNat,by omega,by omega,by omega⟩
  ·exact⟨d.toNat,0,by omega,by omega,by omega⟩
 ·rintro⟨i,k,h1,h2,h3⟩;omega
def oN:Ce:=⟨0,0,0,0,[],0⟩
def oG(f:TFunc)(b k:Int):Ce:=(f.Blocks.getD b.toNat default).Ops.getD k.toNat default
def vE(f:TFunc)(b k:Int):Prop:=A5 b f.Blocks.length/\A5 k (f.Blocks.getD b.toNat default).Ops.length
def Wa(f:TFunc)(b k:Int):Bool:=(Da f 2==0)&&((decide (0<=b)&&decide (b<f.Blocks.length))&&(decide (0<=k)&&decide (k<(f.Blocks.getD b.toNat default).Ops.length)))&&mM (oG f b k)
def jT(f:TFunc)(v:Int):Au:=fmN (pc f) (uD f v+1) v
def dF(f:TFunc)(b x y:Int):Int×Bool:=bif Wa f b x&&Wa f b y then JQ (jT f (adr (oG f b x))) (jT f (adr (oG f b y))) else(0,false)
theorem to_iff{f:TFunc}{b k:Int}:Wa f b k=true↔Da f 2=0/\vE f b k/\mM (oG f b k)=true:=by
 simp only[Wa,vE,A5,Be,zzL61,En,and_assoc]
theorem Mq{f:TFunc}{b k:Int}(h:Wa f b k=true) :
  wh (oG f b k)<(oG f b k).Args.length/\Gd f (adr (oG f b k))/\1<=lenT (oG f b k)/\lenT (oG f b k)<=16/\(oG f b k).Lanes*(oG f b k).Bits=8*lenT (oG f b k)/\0<=(oG f b k).Bits/\(oG f b k).Bits<=64:=by
 obtain⟨h1,⟨h2,h3⟩,h4⟩:=to_iff.1 h;have h2:=h2;have h3:=h3;unfold A5 at h2 h3;exact eS (GD h1) (i:=b.toNat) (k:=k.toNat) (by omega) (by show _<(f.Blocks.getD b.toNat default).Ops.length;omega) rfl h4
theorem jA{f:TFunc}{b k:Int}(hI:∀ o∈P2 f,0<=o.Imm)(h:Wa f b k=true):adr (oG f b k)≠0:=by
 have:=(oc (GD (to_iff.1 h).1) hI).rng _ (Mq h).2.1;omega
theorem MH(f:TFunc)(b k:Int):(vE f b k->Eg f b k=some (oG f b k))/\(¬ vE f b k->Eg f b k=some oN):=by
 unfold vE A5 Eg
 by_cases h1:b<0
 ·rw[Bv h1];exact⟨λh=>absurd h1 (by omega),λ_=>rfl⟩
 by_cases h2:(f.Blocks.length:Int)<=b
 ·rw[B7 h1,Bv h2];exact⟨λh=>absurd h2 (by omega),λ_=>rfl⟩
 rw[B7 h1,B7 h2,An,An,Aa ⟨by omega,by omega⟩]
 by_cases h3:k<0
 ·rw[Bv h3];exact⟨λh=>absurd h3 (by omega),λ_=>rfl⟩
 by_cases h4:((f.Blocks.getD b.toNat default).Ops.length:Int)<=k
 ·rw[B7 h3,Bv h4];exact⟨λh=>absurd h4 (by omega),λ_=>rfl⟩
 rw[B7 h3,B7 h4,An,An,Aa ⟨by omega,by omega⟩];exact⟨λ_=>rfl,λh=>absurd ⟨⟨by omega,by omega⟩,by omega,by omega⟩ h⟩
theorem WM(o:Ce):Fv o=some (bif mM o&&decide (wh o<o.Args.length) then adr o else 0):=by
 obtain⟨k,b,l,d,gs,i⟩:=o
 have fin:∀ n:Nat,(bif decide ((gs.length:Int)<=(n:Int)) then some (0:Int) else A7 (A5 (n:Int) gs.length) (some (gs.getD ((n:Int)).toNat 0)))=some (bif decide (n<gs.length) then gs.getD n 0 else 0):=λn=>by
  by_cases h:n<gs.length
  ·rw[Bv h,B7 (by omega),An,Aa ⟨by omega,by omega⟩];rfl
  ·rw[B7 h,Bv (by omega)];rfl
 have f0:=fin 0;have f1:=fin 1;have fl:=fin gs.length;rw[B7 (FA _)]at fl;unfold Fv mM wh adr
 by_cases h1:k=16
 ·subst h1;exact f0
 by_cases h2:k=17
 ·subst h2;exact f0
 by_cases h3:k=18
 ·subst h3;exact f1
 by_cases h4:k=19
 ·subst h4;exact f1
 ·have e1:(k==16)=false:=by simp[h1]
  have e2:(k==17)=false:=by simp[h2]
  have e3:(k==18)=false:=by simp[h3]
  have e4:(k==19)=false:=by simp[h4]
  simp only[e1,e2,e3,e4,An,Ai,Bool.or_self,Yr];exact fl
theorem AS{f:TFunc}{b k:Int}(h:Wa f b k=true):H8 (oG f b k)=some (lenT (oG f b k)):=by
 obtain⟨_,_,h1,h2,h3,_⟩:=Mq h;unfold H8;rw[h3,show w64 (8*lenT (oG f b k))=8*lenT (oG f b k) from F0 (by omega) (by omega),Int.tdiv_eq_ediv_of_nonneg (by omega),show 8*lenT (oG f b k) / 8=lenT (oG f b k) by omega,F0 (by omega) (by omega)]
theorem tw(o:Ce):J5 o.Kind=some (bif mM o then(wh o:Int) else -1):=by
 unfold J5 mM wh
 cases o.Kind==16<;>cases o.Kind==17<;>cases o.Kind==18<;>cases o.Kind==19<;>rfl
section
variable {f:TFunc} (h:Sm f) (b:Int)
include h
theorem SR:∀ o∈P2 f,0<=o.Imm:=(IP h).2.2
theorem wR(hc:Da f 2=0):¬ Gd f 0:=λhg=>by have:=(oc (GD hc) (SR h)).rng _ hg;omega
theorem ya(k:Int):∃ o,Eg f b k=some o/\∃ v,Fv o=some v /\
  (Wa f b k=true->o=oG f b k/\v=adr o/\v≠0)/\(Wa f b k=false->Da f 2=0->v=0):=by
 by_cases hi:vE f b k
 ·refine⟨_,(MH f b k).1 hi,_,WM _,λht=>?_,λht hc=>?_⟩
  ·have hp:=jA (SR h) ht;rw[(to_iff.1 ht).2.2,Bv (Mq ht).1];exact⟨rfl,rfl,hp⟩
  ·cases ht':mM (oG f b k) with
   | false=>rfl
   | true=>exact absurd (to_iff.2 ⟨hc,hi,ht'⟩) (by rw[ht];exact Bool.false_ne_true)
 ·refine⟨_,(MH f b k).2 hi,0,rfl,λht=>absurd (to_iff.1 ht).2.1 hi,λ_ _=>rfl⟩
theorem ab:Mk f=some (Da f 2==0):=by unfold Mk;rw[sa f 2 h];rfl
theorem oF(k:Int):Mi f b k=some (bif Wa f b k then(adr (oG f b k),lenT (oG f b k),true) else(0,0,false)):=by
 obtain⟨o,ho,v,hv,h1,h2⟩:=ya h b k;unfold Mi;rw[ho,Ai,hv,Ai]
 cases ht:Wa f b k with
 | true=>
  obtain⟨rfl,rfl,hz⟩:=h1 ht;rw[show(adr (oG f b k)==0)=false from zzL17.2 hz,ab h,(to_iff.1 ht).1,AS ht]
  rfl
 | false=>
  by_cases hc:Da f 2=0
  ·rw[h2 ht hc];rfl
  ·rw[ab h,show(Da f 2==0)=false from zzL17.2 hc]
   cases v==0<;>rfl
theorem KR(k:Int):Cg f b k=some (bif Wa f b k then(adr (oG f b k),lenT (oG f b k),true) else(0,0,false)):=by
 have ht:=@to_iff f b k;have hr:=@Mq f b k;unfold vE A5 at ht;unfold Cg;rw[dQ h 2,Ai]
 by_cases hc:Da f 2=0
 ·rw[show(Da f 2 !=0)=false by rw[hc];rfl]
  by_cases h1:b<0
  ·rw[Bv h1,Aa (λe=>by cases e),show Wa f b k=false from Bool.eq_false_iff.2 λe=>absurd h1 (by have:=(ht.1 e).2.1;omega)];rfl
  by_cases h2:(f.Blocks.length:Int)<=b
  ·rw[B7 h1,Bv h2,Aa (λe=>by cases e),show Wa f b k=false from Bool.eq_false_iff.2 λe=>absurd h2 (by have:=(ht.1 e).2.1;omega)];rfl
  by_cases h3:k<0
  ·rw[B7 h1,B7 h2,Bv h3,Aa (λe=>by cases e),show Wa f b k=false from Bool.eq_false_iff.2 λe=>absurd h3 (by have:=(ht.1 e).2.1;omega)];rfl
  rw[B7 h1,B7 h2,B7 h3,Aa (λ_=>⟨by omega,by omega⟩)]
  by_cases h4:((f.Blocks.getD b.toNat default).Ops.length:Int)<=k
  ·rw[Bv h4,show Wa f b k=false from Bool.eq_false_iff.2 λe=>absurd h4 (by have:=(ht.1 e).2.1;omega)];rfl
  rw[B7 h4,An,An,An,An,An,Aa ⟨by omega,by omega⟩,Aa ⟨by omega,by omega⟩];have eo:(f.Blocks.getD b.toNat default).Ops.getD k.toNat default=oG f b k:=rfl;rw[eo,tw,Ai]
  cases h5:mM (oG f b k) with
  | false=>
   rw[show Wa f b k=false from Bool.eq_false_iff.2 λe=>absurd (ht.1 e).2.2 (by rw[h5];exact Bool.false_ne_true)]
   rfl
  | true=>
   have hb:Wa f b k=true:=ht.2 ⟨hc,⟨⟨by omega,by omega⟩,by omega,by omega⟩,h5⟩;obtain⟨q1,_,q3,q4,q5,q6,q7⟩:=hr hb
   rw[hb,Ae,Ae,show decide (((wh (oG f b k):Nat):Int)<(0:Int))=false from B7 (by omega),An,Aa ⟨by omega,by omega⟩,Ap,Int.tdiv_eq_ediv_of_nonneg q6,
    show w64 ((oG f b k).Bits / 8)=(oG f b k).Bits / 8 from F0 (by omega) (by omega),show w64 ((oG f b k).Lanes*((oG f b k).Bits / 8))=lenT (oG f b k) from F0 (by unfold lenT at q3;omega) (by unfold lenT at q4;omega)]
   rfl
 ·rw[show(Da f 2 !=0)=true from zzL75.2 hc,Aa (λe=>by cases e),show Wa f b k=false from Bool.eq_false_iff.2 λe=>hc (ht.1 e).1]
  rfl
theorem JU{k:Int}(ht:Wa f b k=true):E2 0 (jT f (adr (oG f b k))).Terms=true/\0<=(jT f (adr (oG f b k))).Off/\(jT f (adr (oG f b k))).Terms.length<=16:=
 dB (oc (GD (to_iff.1 ht).1) (SR h)) _ _ (Mq ht).2.1
theorem jK(k:Int):∃ o,Eg f b k=some o/\∃ v,Fv o=some v /\
  L2 f v=some (bif Wa f b k then(jT f (adr (oG f b k)),0) else(⟨[],0⟩,10)):=by
 obtain⟨o,ho,v,hv,h1,h2⟩:=ya h b k;refine⟨o,ho,v,hv,?_⟩
 cases ht:Wa f b k with
 | true=>
  obtain⟨rfl,rfl,hz⟩:=h1 ht;exact oM h (to_iff.1 ht).1 (Mq ht).2.1
 | false=>
  refine sc h λ⟨hc,hg⟩=>?_;rw[h2 ht hc]at hg;exact wR h hc hg
theorem ZZ(x y:Int):Hv f b x y=some (dF f b x y):=by
 obtain⟨o,ho,v,hv,e1⟩:=jK h b x;obtain⟨o',ho',v',hv',e2⟩:=jK h b y;unfold Hv dF;rw[ho,Ai,hv,Ai,e1,Ai]
 cases hx:Wa f b x with
 | false=>rfl
 | true=>
  rw[Ae,show((0:Int)!=0)=false from rfl,An,ho',Ai,hv',Ai,e2,Ai]
  cases hy:Wa f b y with
  | false=>rfl
  | true=>
   have l1:=(JU h b hx).2.2;have l2:=(JU h b hy).2.2;rw[Ae,show((0:Int)!=0)=false from rfl,An,jJ (x:=jT f (adr (oG f b y))) (y:=jT f (adr (oG f b x))) (by omega) (by omega),Ai];unfold JQ;simp only[FB,Ae]
   cases(Oo Ou (jT f (adr (oG f b y))) (jT f (adr (oG f b x)))).Terms with
   | nil=>rfl
   | cons a l=>
    rw[show decide ((0:Int)<(((a::l).length:Nat):Int))=true from Bv (by rw[Vq];omega)]
    rfl
theorem wq{O:List Ce}(R:vk f 2)(hO:mo O (pc f) (Gd f)){v w:Int}(hv:Gd f v)(hw:Gd f w) :
  ∃ z z',Gw ⟨O,[],[]⟩ v=some (jT f v,z)/\Gw z w=some (jT f w,z'):=by
 have W:=oc R (SR h);obtain⟨z,a1,a2,a3⟩:=jt W hO (uD f v+1) v ⟨O,[],[]⟩ hv (Nat.lt_succ_self _) rfl (λx _ h=>by simp at h);obtain⟨z',b1,_⟩:=jt W hO (uD f w+1) w z hw (Nat.lt_succ_self _) a2 a3;exact⟨z,z',ak _ λm hm=>a1 m hm,ak _ λm hm=>b1 m hm⟩
theorem ph(x y:Int):Ft f b x y=some (dF f b x y):=by
 unfold Ft dF;rw[KR h,Ai,KR h,Ai]
 cases hx:Wa f b x with
 | false=>rfl
 | true=>
  cases hy:Wa f b y with
  | false=>rfl
  | true=>
   obtain⟨p1,p2,p3⟩:=IP h;have R:=GD (to_iff.1 hx).1;obtain⟨O,o1,o2⟩:=yy R p1 p2;obtain⟨z,z',g1,g2⟩:=wq h R o2 (Mq hx).2.1 (Mq hy).2.1;obtain⟨m1,_,l1⟩:=JU h b hx;obtain⟨m2,_,l2⟩:=JU h b hy;unfold Gv;simp only[Ae,E7,An,FB];rw[o1,Ai,g1,Ai,Ai,g2,Ai,Ai,jr m2 m1,Ai];unfold JQ
   cases(Oo Ou (jT f (adr (oG f b y))) (jT f (adr (oG f b x)))).Terms with
   | nil=>rfl
   | cons a l=>
    rw[show((((a::l).length:Nat):Int)!=0)=true from zzL75.2 (by simp;omega)]
    rfl
theorem OS{x y:Int}(hd:(dF f b x y).2=true):Wa f b x=true/\Wa f b y=true:=by
 unfold dF at hd;cases hx:Wa f b x<;>cases hy:Wa f b y<;>rw[hx,hy]at hd<;>first|cases hd|exact⟨rfl,rfl⟩
theorem wO(x y:Int):0<=(dF f b x y).1/\(dF f b x y).1<18446744073709551616:=by
 unfold dF;cases hx:Wa f b x<;>cases hy:Wa f b y<;>first|exact(oW (JU h b hx).1 (JU h b hy).1).2.2.2|(show(0:Int)<=0/\(0:Int)<_;omega)
def xR(f:TFunc)(b x y:Int):Bool:=(dF f b x y).2&&xS (dF f b x y).1 (lenT (oG f b x)) (lenT (oG f b y))
def xU(f:TFunc)(b x y:Int):Bool:=(dF f b x y).2&&(dF f b x y).1==lenT (oG f b x)
theorem bY{k:Int}(ht:Wa f b k=true):Bo (lenT (oG f b k))=lenT (oG f b k):=by
 obtain⟨_,_,h1,h2,_⟩:=Mq ht;exact Tx (by omega) (by omega)
theorem JO(x y:Int):Kc f b x y=some (xU f b x y):=by
 unfold Kc Xt xU;rw[ZZ h,Ai]
 cases hd:(dF f b x y).2 with
 | false=>rfl
 | true=>
  obtain⟨hx,hy⟩:=OS h b hd;obtain⟨i1,i2⟩:=(to_iff.1 hx).2.1;have i3:=(to_iff.1 hy).2.1.2;have ex:(f.Blocks.getD b.toNat default).Ops.getD x.toNat default=oG f b x:=rfl;have ey:(f.Blocks.getD b.toNat default).Ops.getD y.toNat default=oG f b y:=rfl;rw[show(!true)=false from rfl,An,Aa i1,Aa i2,ex,AS hx,Ai,Aa i3,ey,AS hy,Ai,bY h b hx]
  rfl
theorem ZX(x y:Int):Mw f b x y=some (xR f b x y):=by
 unfold Mw S0 xR;rw[ZZ h,Ai]
 cases hd:(dF f b x y).2 with
 | false=>rfl
 | true=>
  obtain⟨hx,hy⟩:=OS h b hd;obtain⟨i1,i2⟩:=(to_iff.1 hx).2.1;have i3:=(to_iff.1 hy).2.1.2;have ex:(f.Blocks.getD b.toNat default).Ops.getD x.toNat default=oG f b x:=rfl;have ey:(f.Blocks.getD b.toNat default).Ops.getD y.toNat default=oG f b y:=rfl;rw[show(!true)=false from rfl,An,Aa i1,Aa i2,ex,AS hx,Ai,Aa i3,ey,AS hy,Ai,bY h b hx,bY h b hy];unfold Sz xS;rw[Int.zero_sub]
  cases decide (lenT (oG f b x)<=(dF f b x y).1)<;>rfl
theorem tv(x y:Int):J4 f b x y=some (xR f b x y):=by
 unfold J4;rw[ph h,Ai];unfold xR
 cases hd:(dF f b x y).2 with
 | false=>rfl
 | true=>
  obtain⟨hx,hy⟩:=OS h b hd;obtain⟨_,_,a1,a2,_⟩:=Mq hx;obtain⟨_,_,b1,b2,_⟩:=Mq hy;have hr:=wO h b x y;rw[show(!true)=false from rfl,An,KR h,Ai,KR h,Ai,hx,hy,Ae,Ae,Ly];have hap:=vt hr ⟨a1,a2⟩ ⟨b1,b2⟩
  generalize lenT (oG f b x)=m at a1 a2 hap
  generalize lenT (oG f b y)=n at b1 b2 hap
  generalize adr (oG f b x)=v
  generalize adr (oG f b y)=w
  generalize dF f b x y=p at hr hap
  obtain⟨m,rfl⟩:∃ k:Nat,m=(k:Int):=⟨m.toNat,by omega⟩;obtain⟨n,rfl⟩:∃ k:Nat,n=(k:Int):=⟨n.toNat,by omega⟩
  have hin:∀ i:Nat,i<m->Ab (Cb p (w,(n:Int),true) (i:Int)) (0:Int)=some (bif (List.range n).all (λk=>!((i:Int)==Bo (p.1+k))) then .inl () else .inr false):=λi hi=>by
   refine G3 (Cb p (w,(n:Int),true) (i:Int)) (λj=>((j:Nat):Int)) (λk=>!((i:Int)==Bo (p.1+k))) (.inl ()) (.inr false) n (λk hk hp=>?_) (λk hk hp=>?_) ?_
   ·show Cb p (w,(n:Int),true) (i:Int) (k:Int)=_
    unfold Cb;simp only[Cr hk,Ae];rw[show Bo (i:Int)=i from Tx (by omega) (by omega),show Bo (k:Int)=k from Tx (by omega) (by omega),(by simpa using hp:((i:Int)==Bo (p.1+(k:Int)))=false),w1 (by omega)]
    rfl
   ·show Cb p (w,(n:Int),true) (i:Int) (k:Int)=_
    unfold Cb;simp only[Cr hk,Ae];rw[show Bo (i:Int)=i from Tx (by omega) (by omega),show Bo (k:Int)=k from Tx (by omega) (by omega),(by simpa using hp:((i:Int)==Bo (p.1+(k:Int)))=true)]
    rfl
   ·show Cb p (w,(n:Int),true) (i:Int) (n:Int)=_
    unfold Cb;simp only[Ei,An]
  have hout:Ab (Cc p (v,(m:Int),true) (w,(n:Int),true)) (0:Int)=some (bif (List.range m).all (λi=>(List.range n).all (λk=>!((i:Int)==Bo (p.1+k)))) then .inl () else .inr false):=by
   refine G3 (Cc p (v,(m:Int),true) (w,(n:Int),true)) (λj=>((j:Nat):Int)) (λi=>(List.range n).all (λk=>!((i:Int)==Bo (p.1+k)))) (.inl ()) (.inr false) m (λi hi hp=>?_) (λi hi hp=>?_) ?_
   ·show Cc p (v,(m:Int),true) (w,(n:Int),true) (i:Int)=_
    unfold Cc;simp only[Cr hi,Ae];rw[hin i hi,hp,Ae,Ai];simp only;rw[w1 (by omega)]
   ·show Cc p (v,(m:Int),true) (w,(n:Int),true) (i:Int)=_
    unfold Cc;simp only[Cr hi,Ae];rw[hin i hi,hp,An,Ai]
   ·show Cc p (v,(m:Int),true) (w,(n:Int),true) (m:Int)=_
    unfold Cc;simp only[Ei,An]
  rw[hout,Ai]
  cases ha:xS p.1 m n with
  | true=>
   rw[show((List.range m).all λi=>(List.range n).all λk=>!((i:Int)==Bo (p.1+k)))=true from zzL30.2 λi hi=>zzL30.2 λk hk=>by
    rw[Su,zzL17];intro e;have:=hap.2 ⟨i,k,by have:=zzL44.1 hi;omega,by have:=zzL44.1 hk;omega,e⟩;rw[ha]at this
    cases this]
   rfl
  | false=>
   obtain⟨i,k,h1,h2,h3⟩:=hap.1 ha
   rw[show((List.range m).all λi=>(List.range n).all λk=>!((i:Int)==Bo (p.1+k)))=false from by
    rw[Bool.eq_false_iff];intro e;have:=zzL30.1 (zzL30.1 e i (zzL44.2 (by omega))) k (zzL44.2 (by omega));rw[<- h3]at this
    simp at this]
   rfl
def mg(f:TFunc)(b:Int)(k:Nat):List Int:=bif Wa f b (k:Int) then[(k:Int)] else[]
def vC(f:TFunc)(b:Int):List Int:=((List.range (f.Blocks.getD b.toNat default).Ops.length).map (mg f b)).flatten
def xW(f:TFunc)(b:Int):List Int:=bif decide (0<=b)&&decide (b<f.Blocks.length) then vC f b else[]
omit h in
theorem uK(k:Nat):(mg f b k).length<=1:=by unfold mg;cases Wa f b (k:Int)<;>simp
theorem tj(hc:Da f 2=0)(hb:A5 b f.Blocks.length):(f.Blocks.getD b.toNat default).Ops.length<=512:=by
 have hO:=qA h (GD hc).may;unfold A5 at hb;exact(hO.block _ (getD_mem (by omega))).ops
theorem jm(hb:A5 b f.Blocks.length):(f.Blocks.getD b.toNat default).Ops.length<9223372036854775808:=by
 unfold A5 at hb;exact(IP h).2.1 _ (getD_mem (by omega))
theorem eR(hb:A5 b f.Blocks.length):(vC f b).length<=512:=by
 unfold vC
 by_cases hc:Da f 2=0
 ·have:=QL (List.range (f.Blocks.getD b.toNat default).Ops.length) (mg f b) 1 λk _=>uK b k;rw[Zd]at this;have:=tj h b hc hb;omega
 ·have:=QL (List.range (f.Blocks.getD b.toNat default).Ops.length) (mg f b) 0 λk _=>by
   unfold mg;rw[show Wa f b (k:Int)=false from Bool.eq_false_iff.2 λe=>hc (to_iff.1 e).1];exact zzL7 _
  omega
theorem XV(hb:A5 b f.Blocks.length)(g:List Int×Int->Option (LR (List Int×Int) (List Int)))
  (hn:∀(out:List Int) (k:Nat),k<(f.Blocks.getD b.toNat default).Ops.length->(Wa f b (k:Int)=true->out.length+([(k:Int)]:List Int).length<=room)->g (out,(k:Int))=some (.next (out++mg f b k,((k+1:Nat):Int))))
  (hd:∀ out:List Int,g (out,((f.Blocks.getD b.toNat default).Ops.length:Int))=some (.done out)):Ab g (([]:List Int),(0:Int))=some (vC f b):=by
 have hl:(List.range (f.Blocks.getD b.toNat default).Ops.length).length=(f.Blocks.getD b.toNat default).Ops.length:=Zd
 have hg:∀ i,i<(f.Blocks.getD b.toNat default).Ops.length->(List.range (f.Blocks.getD b.toNat default).Ops.length).getD i 0=i:=λi hi=>by
  rw[Af _ _ _ (by simpa using hi),List.getElem_range]
 have key:=MR (List.range (f.Blocks.getD b.toNat default).Ops.length) 0 (mg f b) room g (λout i hi hr=>?_) (λout=>by rw[hl];exact hd out) (f.Blocks.getD b.toNat default).Ops.length 0 [] (by rw[hl,Ha]) ?_
 ·rw[Js]at key;exact key
 ·rw[hl]at hi;rw[hg i hi]at hr ⊢;refine hn out i hi λht=>?_;unfold mg at hr;rw[ht]at hr;exact hr
 ·have:=eR h b hb;unfold vC at this;rw[Js,List.length_nil,DO];omega
theorem WO:Mj f b=some (xW f b):=by
 unfold Mj xW
 by_cases h1:b<0
 ·rw[Bv h1,B7 (show ¬ 0<=b by omega)];rfl
 by_cases h2:(f.Blocks.length:Int)<=b
 ·rw[B7 h1,Bv h2,B7 (show ¬ b<(f.Blocks.length:Int) by omega),Bool.and_false];rfl
 have hb:A5 b f.Blocks.length:=⟨by omega,by omega⟩
 rw[B7 h1,B7 h2,Bv hb.1,Bv hb.2,show(bif false then true else false)=false from rfl,show(false==false)=true from rfl,Ae,ab h,Ai,An,
  show(true&&true)=true from rfl,Ae]
 by_cases hc:Da f 2=0
 ·rw[show(Da f 2==0)=true by rw[hc];rfl,show(!true)=false from rfl,An,Aa hb];rw[XV h b hb (L6 f b) (λout k hk hr=>?_) λout=>?_]
  ·rfl
  ·have hkk:=jm h b hb;have ha:=WM (oG f b (k:Int))
   have eo:(f.Blocks.getD b.toNat default).Ops.getD k default=oG f b (k:Int):=by unfold oG;rw[Ap]
   unfold L6 mg;simp only[Cr hk,Ae,Ap];rw[Aa (Eo hk),eo,ha,Ai]
   cases ht:Wa f b (k:Int) with
   | true=>
    rw[(to_iff.1 ht).2.2,Bv (Mq ht).1,show((bif true&&true then adr (oG f b (k:Int)) else 0)!=0)=true from zzL75.2 (jA (SR h) ht),Ae,Aa (hr ht),Ai];simp only[Ae];rw[F0 (by omega) (by omega)]
    rfl
   | false=>
    have:mM (oG f b (k:Int))=false:=by
     cases ht':mM (oG f b (k:Int)) with
     | false=>rfl
     | true=>exact absurd (to_iff.2 ⟨hc,⟨hb,by omega,by omega⟩,ht'⟩) (by rw[ht];exact Bool.false_ne_true)
    rw[this,Yr,An,show((0:Int)!=0)=false from rfl];simp only[An,Ai,List.append_nil];rw[F0 (by omega) (by omega)]
    rfl
  ·unfold L6;simp only[Ei,An]
 ·rw[show(Da f 2==0)=false from zzL17.2 hc]
  have hz:vC f b=[]:=by
   unfold vC;rw[List.flatten_eq_nil_iff];intro l hl;obtain⟨k,_,rfl⟩:=zzL27.1 hl;unfold mg;rw[show Wa f b (k:Int)=false from Bool.eq_false_iff.2 λe=>hc (to_iff.1 e).1]
   rfl
  rw[hz]
  rfl
theorem mL(x:TThree):Ab (Cv f x) (([]:List Int),(0:Int))=some (xW f x.Block):=by
 unfold xW
 by_cases hb:A5 x.Block f.Blocks.length
 ·rw[Bv hb.1,Bv hb.2,show(true&&true)=true from rfl,Ae];refine XV h x.Block hb (Cv f x) (λout k hk hr=>?_) λout=>?_
  ·have hkk:=jm h x.Block hb;unfold Cv mg;simp only[Bv hb.1,Bv hb.2,Ae,Cr hk,KR h,Ai];rw[Aa λ_=>hb]
   cases ht:Wa f x.Block (k:Int) with
   | true=>
    simp only[Ae];rw[Aa (hr ht),Ai,F0 (by omega) (by omega)]
    rfl
   | false=>
    simp only[An,Ai,List.append_nil];rw[F0 (by omega) (by omega)]
    rfl
  ·unfold Cv;simp only[Bv hb.1,Bv hb.2,Ae,Ei,An];rw[Aa λ_=>hb]
 ·have hg:(bif decide (0<=x.Block) then decide (x.Block<(f.Blocks.length:Int)) else false)=false:=by
   cases h1:decide (0<=x.Block) with
   | false=>rfl
   | true=>
    rw[Ae];exact B7 λh2=>hb ⟨EX h1,h2⟩
  have hg':(decide (0<=x.Block)&&decide (x.Block<(f.Blocks.length:Int)))=false:=by
   rw[<- hg];cases decide (0<=x.Block)<;>rfl
  rw[hg',An];refine Ah ?_;unfold Cv;simp only[hg,An];rw[Aa λe=>by cases e]
end
theorem zF{ps:List Int}{r:Int}{ops:List Ce}{a:Int}(h0:ps.length<=16)(h1:ops.length<=300)(h2:∀ o∈ops,o.Args.length<=3/\0<=o.Imm/\o.Imm<18446744073709551616):Sm (fV ps r ops a):=by
 have hb:∀ b∈(fV ps r ops a).Blocks,b=⟨[],ops,⟨0,a,[]⟩⟩:=λb hb=>by simpa [fV] using hb
 refine zG ⟨by rw[Lq];show ps.length<=_;omega,by rw[Lq];show(1:Nat)<=_;omega,λb h=>?_,λb h p hp=>?_,λb h o ho=>?_⟩ (by show ps.length<=64;omega) (λb h=>?_) ?_
 ·rw[hb b h,Lq];exact⟨Rh _,by show ops.length<=_;omega,Rh _⟩
 ·rw[hb b h]at hp;cases hp
 ·rw[hb b h]at ho;obtain⟨g1,g2⟩:=h2 o ho;exact⟨by rw[Lq];omega,g2⟩
 ·rw[hb b h];exact⟨Rh _,(λp hp=>by cases hp),λo ho=>by have:=(h2 o ho).1;omega⟩
 ·have hs:∀ l:List Ce,(∀ o∈l,o.Args.length<=3)->(l.map ai).sum<=4*l.length:=by
   intro l
   induction l with
   | nil=>intro _;simp
   | cons x l ih=>
    intro hl;have h0:=hl x (zzL51 ..);have h1:=ih λo ho=>hl o (Nf _ ho);rw[Cy,TF,Vq];unfold ai at h1 ⊢;omega
  have:=hs ops λo ho=>(h2 o ho).1
  show ps.length+((1+0+0+(ops.map ai).sum)+0)<=20000
  omega
def fW:TFunc:=fV [64] 32 [⟨0,64,1,2,[],4⟩,⟨1,64,1,3,[1,2],0⟩,⟨16,32,1,4,[1],0⟩,⟨16,32,1,5,[3],0⟩] 5
theorem hY:Sm fW:=zF (by show 1<=16;omega) (by show 4<=300;omega) λo ho=>by
 simp only[zzL28,List.not_mem_nil,or_false]at ho;rcases ho with rfl|rfl|rfl|rfl<;>decide
theorem Aao:Wa fW 0 3=true/\Wa fW 0 2=true/\adr (oG fW 0 3)=3/\lenT (oG fW 0 3)=4/\xW fW 0=[2,3]:=by decide +kernel
theorem d_W:dF fW 0 3 2=(18446744073709551612,true)/\xU fW 0 2 3=true/\xU fW 0 3 2=false/\xR fW 0 3 2=true/\xR fW 0 2 2=false:=by decide +kernel
theorem sU:m_locksteplaw18_awake=some true:=by
 obtain⟨t1,t2,t3,t4,t5⟩:=Aao;obtain⟨d1,d2,d3,d4,d5⟩:=d_W;have a1:=oF hY 0 3;have a2:=ZZ hY 0 3 2;have a3:=JO hY 0 2 3;have a4:=JO hY 0 3 2;have a5:=ZX hY 0 3 2;have a6:=ZX hY 0 2 2;have a7:=WO hY 0;rw[t1,t3,t4]at a1;rw[d1]at a2;rw[d2]at a3;rw[d3]at a4;rw[d4]at a5;rw[d5]at a6;rw[t5]at a7;have a8:=QZ [2,3] [2,3] (by decide);unfold fW fV at a1 a2 a3 a4 a5 a6 a7;unfold m_locksteplaw18_awake;rw[show Bq=[⟨0,64,1,2,[],4⟩,⟨1,64,1,3,[1,2],0⟩,⟨16,32,1,4,[1],0⟩,⟨16,32,1,5,[3],0⟩] from rfl,a1,Ai,a2,Ai];simp only[Ae,BEq.rfl];rw[a3,Ai];simp only[Ae,BEq.rfl];rw[a4,Ai];simp only[Ae,BEq.rfl,Mr];rw[a5,Ai];simp only[Ae,BEq.rfl];rw[a6,Ai];simp only[Ae,BEq.rfl,Mr];rw[a7,Ai,a8]
 rfl
theorem tells18(f:TFunc)(x:TThree)(hf:fA f):Jn f x=some true:=by
 obtain⟨b,hb,hs⟩:=lc hf;unfold Jn;rw[sU,Ai,show(!true)=false from rfl,An,hb,Ai]
 cases b with
 | false=>rfl
 | true=>
  have h:=hs rfl;rw[show(!true)=false from rfl,An]
  have hfo:(bif (dF f x.Block x.A x.B).2 then(dF f x.Block x.A x.B).1==Bo (bif Wa f x.Block x.A then(adr (oG f x.Block x.A),lenT (oG f x.Block x.A),true) else(0,0,false)).2.1 else false)=xU f x.Block x.A x.B:=by
   unfold xU
   cases hd:(dF f x.Block x.A x.B).2 with
   | false=>rfl
   | true=>
    have ht:=(OS h x.Block hd).1;rw[ht,Ae,Ae,bY h x.Block ht,Ly]
  rw[oF h,Ai,KR h,Ai,ZZ h,Ai,ph h,Ai,hfo];simp only[bne_self_eq_false,An,BEq.rfl,Ae];rw[ZX h,Ai,tv h,Ai];simp only[bne_self_eq_false,An,BEq.rfl,Ae];rw[JO h,Ai];simp only[bne_self_eq_false,An,BEq.rfl,Ae]
  rw[mL h,Ai,WO h,Ai,QZ _ _ (by
   unfold xW
   by_cases hi:A5 x.Block f.Blocks.length
   ·have:=eR h x.Block hi
    cases decide (0<=x.Block)&&decide (x.Block<(f.Blocks.length:Int)) with
    | true=>show(vC f x.Block).length<_;omega
    | false=>show(0:Nat)<_;omega
   ·have:(decide (0<=x.Block)&&decide (x.Block<(f.Blocks.length:Int)))=false:=by
     rw[Bool.eq_false_iff];intro e;simp only[Be,En]at e;exact hi e
    rw[this];show(0:Nat)<_;omega),Bv rfl]
  rfl
section
variable {k:Int} (hk:0<=k/\k<65536)
include hk
end
end
end Go.Proofs.YtjpnobeadcdnoaaGreat
