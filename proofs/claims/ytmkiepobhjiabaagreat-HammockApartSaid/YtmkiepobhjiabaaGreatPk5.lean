/-
  The machine, the program's functions and the laws' arithmetic: part 5 of 5.
-/
import Derived.Test.YtmkiepobhjiabaaGreatPk4
set_option linter.unusedVariables false
set_option linter.unusedSimpArgs false
namespace Go.Proofs.YtmkiepobhjiabaaGreat
noncomputable section
open Go Go.RowKit
theorem sum_suc{α:Type}(l:List α)(g:α->Nat):(l.map fun a=>g a+1).sum=l.length+(l.map g).sum:=by
 induction l with
 | nil=>rfl
 | cons a l ih=>simp only[Bq,P2,ih,Sq];omega
theorem w64_plus(a b:Int):A9 (a+A9 b)=A9 (a+b):=by rw[Int.add_comm,w64_add,Int.add_comm]
theorem xsize(f:TFunc)(hf:InF f):Lt f=some (sizeW f):=by
 have hl:=loop_addw f.Blocks (default:Ac) (fun b=>b.Phis.length+b.Ops.length) id (In f) (fun n i hi=>?_) (fun n=>?_) f.Blocks.length 0 f.Blocks.length (Fn _)
 ·unfold Lt;rw[Zr (by have:=hf.blocks;rw[W0]at this;omega),show((0:Nat):Int)=0 from rfl]at hl;rw[hl,Au,N4,sizeW,O4,show(sizeB:Ac->Nat)=(fun b=>(b.Phis.length+b.Ops.length)+1) from rfl,sum_suc]
  rfl
 ·have e1:decide ((i:Int)<(f.Blocks.length:Int))=true:=E1 (by omega);unfold In;simp only[e1,Ah,Ai (Ax hi),Dr,Ib hi hf.blocks,w64_plus,w64_add];rw[show(n:Int)+(((f.Blocks.getD i default).Phis.length:Int)+((f.Blocks.getD i default).Ops.length:Int))=((n+((f.Blocks.getD i default).Phis.length+(f.Blocks.getD i default).Ops.length):Nat):Int) by omega]
 ·have e1:decide ((f.Blocks.length:Int)<(f.Blocks.length:Int))=false:=by simp
  unfold In;simp only[e1,A0,id]
theorem Vd{α:Type}(l:List α)(d:α)(p:α->Bool)(f:Int->Option (LR Int (Unit ⊕ Bool)))(hn:∀ i:Nat,i<l.length->f i=bif p (l.getD i d) then some (.next ((i:Int)+1)) else some (.done (.inr false)))
  (he:f l.length=some (.done (.inl ()))):Am f 0=some (bif l.all p then .inl () else .inr false):=by
 have:=Rq l d p f (.inl ()) (.inr false) (fun i hi hp=>by rw[hn i hi,hp];rfl) (fun i hi hp=>by rw[hn i hi,hp];rfl) he l.length 0 (Fn _)
 simpa using this
theorem numB_cond(x:Int):(bif decide (x<0) then true else decide (2147483647<x)) = !numB x:=by
 unfold numB
 by_cases h1:x<0
 ·have:¬ 0<=x:=by omega
  simp[h1,this]
 ·by_cases h2:2147483647<x
  ·have:¬ x<=2147483647:=by omega
   simp[h1,h2,this]
  ·have h3:0<=x:=by omega
   have h4:x<=2147483647:=by omega
   simp[h1,h2,h3,h4]
theorem xfits(l:List Int)(h:l.length<=maxLen):Cq l=some (l.all numB):=by
 have hl:=Vd l 0 numB (Fk l) (fun i hi=>?_) ?_
 ·unfold Cq;rw[hl]
  cases l.all numB<;>rfl
 ·have e1:decide ((i:Int)<(l.length:Int))=true:=E1 (by omega);unfold Fk;simp only[e1,Ah,Ai (Ax hi),Dr,numB_cond,Ib hi h]
  cases numB (l.getD i 0)<;>simp
 ·unfold Fk
  simp
theorem Te(l:List Int)(h:l.length<=maxLen):En l=some (Ls l):=by
 unfold En;rw[xfits l h]
 by_cases h1:l.length<=64
 ·have e1:decide ((l.length:Int)<=64)=true:=E1 (by omega);rw[e1];simp[Ls,h1]
 ·have e1:decide ((l.length:Int)<=64)=false:=E8 (by omega);rw[e1];simp[Ls,h1]
theorem Tb{l:List Int}(h:l.length<=10):l.length<=maxLen:=by rw[W0];omega
theorem xphiFits(p:Gp)(h1:p.From.length<=maxLen)(h2:p.Args.length<=maxLen):Ip p=some (phiB p):=by
 unfold Ip phiB;rw[xfits _ (Tb (by simp)),Te _ h1,Te _ h2];simp only[Qn,List.all_nil,zzL143]
 cases numB p.Bits<;>cases numB p.Dst<;>cases Ls p.From<;>cases Ls p.Args<;>rfl
theorem xopFits(o:Ef)(h1:o.Args.length<=maxLen):Jp o=some (opB o):=by
 unfold Jp opB;rw[xfits _ (Tb (by simp)),Te _ h1];simp only[Qn,List.all_nil,zzL143]
 cases numB o.Kind<;>cases numB o.Bits<;>cases numB o.Lanes<;>cases numB o.Dst<;>cases Ls o.Args<;>rfl
theorem xendFits(e:H3)(h1:e.To.length<=maxLen):Io e=some (endB e):=by
 unfold Io endB;rw[xfits _ (Tb (by simp)),Te _ h1];simp only[Qn,List.all_nil,zzL143]
 cases numB e.Kind<;>cases numB e.Arg<;>cases Ls e.To<;>rfl
theorem not_cond{X:Type}(b:Bool)(x y:X):(bif !b then x else y)=bif b then y else x:=by cases b<;>rfl
theorem xphis_fit(l:List Gp)(hl:l.length<=maxLen)(h:∀ p∈l,p.From.length<=maxLen/\p.Args.length<=maxLen):Ey l=some (l.all phiB):=by
 have hl':=Vd l (default:Gp) phiB (Dy l) (fun i hi=>?_) ?_
 ·unfold Ey;rw[hl']
  cases l.all phiB<;>rfl
 ·have e1:decide ((i:Int)<(l.length:Int))=true:=E1 (by omega);have:=h _ (A5 (d:=(default:Gp)) hi);unfold Dy;simp only[e1,Ah,Ai (Ax hi),Dr,xphiFits _ this.1 this.2,Au,not_cond,Ib hi hl,Int.natCast_add,Int.natCast_one]
 ·unfold Dy
  simp
theorem xops_fit(l:List Ef)(hl:l.length<=maxLen)(h:∀ o∈l,o.Args.length<=maxLen):Fj l=some (l.all opB):=by
 have hl':=Vd l (default:Ef) opB (Ec l) (fun i hi=>?_) ?_
 ·unfold Fj;rw[hl']
  cases l.all opB<;>rfl
 ·have e1:decide ((i:Int)<(l.length:Int))=true:=E1 (by omega);have:=h _ (A5 (d:=(default:Ef)) hi);unfold Ec;simp only[e1,Ah,Ai (Ax hi),Dr,xopFits _ this,Au,not_cond,Ib hi hl,Int.natCast_add,Int.natCast_one]
 ·unfold Ec
  simp
theorem xblockFits(b:Ac)(h1:b.Phis.length<=maxLen)(h2:b.Ops.length<=maxLen)(h3:b.End.To.length<=maxLen)(h4:∀ p∈b.Phis,p.From.length<=maxLen/\p.Args.length<=maxLen)(h5:∀ o∈b.Ops,o.Args.length<=maxLen):Hc b=some (blockB b):=by
 unfold Hc blockB;rw[xphis_fit _ h1 h4,xops_fit _ h2 h5,xendFits _ h3]
 cases b.Phis.all phiB<;>cases b.Ops.all opB<;>cases endB b.End<;>rfl
theorem xblocks_fit(f:TFunc)(hf:InF f):Eb f.Blocks=some (f.Blocks.all blockB):=by
 have hl':=Vd f.Blocks (default:Ac) blockB (Di f.Blocks) (fun i hi=>?_) ?_
 ·unfold Eb;rw[hl']
  cases f.Blocks.all blockB<;>rfl
 ·have e1:decide ((i:Int)<(f.Blocks.length:Int))=true:=E1 (by omega);have hm:=A5 (d:=(default:Ac)) hi;have q:=hf.block _ hm;unfold Di;simp only[e1,Ah,Ai (Ax hi),Dr,xblockFits _ q.1 q.2.1 q.2.2 (hf.phi _ hm) (fun o ho=>(hf.op _ hm o ho).1),Au,not_cond,Ib hi hf.blocks,Int.natCast_add,Int.natCast_one]
 ·unfold Di
  simp
theorem xmay(f:TFunc)(hf:InF f):Mw f=some (Uu f):=by
 unfold Mw Uu;rw[xsize f hf,xfits _ hf.params,xfits _ (Tb (by simp)),xblocks_fit f hf];simp only[Qn,List.all_nil,zzL143,Ls]
 have d1:∀ n:Nat,decide ((n:Int)<1) = !decide (1<=n):=fun n=>by by_cases h:1<=n<;>simp[h]<;>omega
 have d2:∀ n:Nat,decide ((64:Int)<(n:Int)) = !decide (n<=64):=fun n=>by by_cases h:n<=64<;>simp[h]<;>omega
 have d3:∀ n:Nat,decide ((16:Int)<(n:Int)) = !decide (n<=16):=fun n=>by by_cases h:n<=16<;>simp[h]<;>omega
 have d4:∀ n:Int,decide ((512:Int)<n) = !decide (n<=512):=fun n=>by by_cases h:n<=512<;>simp[h]<;>omega
 simp only[d1,d2,d3,d4]
 have himp:decide (f.Params.length<=16)=true->decide (f.Params.length<=64)=true:=fun h=>by simp at h ⊢;omega
 revert himp
 generalize decide (1<=f.Blocks.length)=c1
 generalize decide (f.Blocks.length<=64)=c2
 generalize decide (f.Params.length<=16)=c3
 generalize decide (f.Params.length<=64)=c4
 generalize f.Params.all numB=c6
 generalize numB f.Ret=c7
 generalize f.Blocks.all blockB=c8
 cases c3 with
 | true=>
  intro h;obtain rfl:=h rfl;simp only[E9,O7,Ah,Au,A0]
  generalize decide (sizeW f<=512)=c5
  cases c1<;>cases c2<;>cases c6<;>cases c7<;>cases c8<;>cases c5<;>rfl
 | false=>
  intro _
  cases c1<;>cases c2<;>rfl
inductive Tp (t:List Int):Nat->Nat->Nat->Prop
 | top {x:Nat} (hx:x<t.length) (h:t.getD x 0 = -1):Tp t x x 0
 | up {x y r k:Nat} (hx:x<t.length) (h:t.getD x 0=(y:Int)) (hk:Tp t y r k):Tp t x r (k+1)
section
variable {t:List Int}
theorem Tp.lt{x r k:Nat}(h:Tp t x r k):x<t.length:=by cases h<;>assumption
theorem Tp.tops{x r k:Nat}(h:Tp t x r k):r<t.length/\t.getD r 0 = -1:=by
 induction h with
 | top hx h=>exact⟨hx,h⟩
 | up _ _ _ ih=>exact ih
theorem Tp.det{x r k r' k':Nat}(h:Tp t x r k)(h':Tp t x r' k'):r=r'/\k=k':=by
 induction h generalizing k' with
 | top hx h=>cases h' with
  | top=>exact⟨rfl,rfl⟩
  | up _ h2 _=>omega
 | up hx h1 _ ih=>cases h' with
  | top _ h2=>omega
  | up _ h2 k2=>
   have:_=_:=h1.symm.trans h2
   cases Ud this
   obtain⟨e1,e2⟩:=ih k2;exact⟨e1,by omega⟩
theorem Tp.upTo{x r k:Nat}(h:Tp t x r k):UpTo (Ba t) x r:=by
 induction h with
 | top=>exact .refl _
 | up _ h _ ih=>exact .up h ih
theorem Tp.on{x r k z:Nat}(h:Tp t x r k)(hz:UpTo (Ba t) x z):∃ j,j<=k/\Tp t z r j/\(j=k->z=x):=by
 induction hz generalizing k with
 | refl x=>exact⟨k,zzL8 _,h,fun _=>rfl⟩
 | up hp _ ih=>
  cases h with
  | top _ h2=>have:_=_:=hp.symm.trans h2;omega
  | up _ h2 k2=>
   have:_=_:=hp.symm.trans h2
   cases Ud this
   obtain⟨j,h1,h3,_⟩:=ih k2;exact⟨j,by omega,h3,fun e=>by omega⟩
theorem Tp.anti{x r k z:Nat}(h:Tp t x r k)(h1:UpTo (Ba t) x z)(h2:UpTo (Ba t) z x):z=x:=by
 obtain⟨j,j1,j2,j3⟩:=h.on h1;obtain⟨i,i1,i2,i3⟩:=j2.on h2;have:=h.det i2;exact j3 (by omega)
theorem Tp.list{x r k:Nat}(h:Tp t x r k):∃ l:List Nat,l.length=k+1/\l.Nodup/\∀ y∈l,y<t.length/\∃ j,j<=k/\Tp t y r j:=by
 induction h with
 | top hx h=>exact⟨[_],rfl,by simp,fun y hy=>by rw[zzL16.1 hy];exact⟨hx,0,zzL8 _,.top hx h⟩⟩
 | @up x y r k hx h hk ih=>
  obtain⟨l,h1,h2,h3⟩:=ih;refine⟨x::l,by simp[h1],zzL93.2 ⟨fun hm=>?_,h2⟩,fun z hz=>?_⟩
  ·obtain⟨_,j,hj,hj2⟩:=h3 _ hm;have:=(Tp.up hx h hk).det hj2;omega
  ·rcases zzL28.1 hz with rfl|hz
   ·exact⟨hx,k+1,zzL8 _,.up hx h hk⟩
   ·obtain⟨e1,j,e2,e3⟩:=h3 z hz;exact⟨e1,j,by omega,e3⟩
theorem Tp.short{x r k:Nat}(h:Tp t x r k):k<t.length:=by
 obtain⟨l,h1,h2,h3⟩:=h.list;have:=La t.length l h2 fun y hy=>(h3 y hy).1;omega
theorem Tp.upD{x r k:Nat}(h:Tp t x r k):∀ m,k<m->∃ q,upD t m (x:Int)=some q/\(∀ w:Int,w∈q↔∃ z:Nat,w=(z:Int)/\UpTo (Ba t) x z) /\
  ∀ p:Int->Bool,(q.find? p=none/\∀ z:Nat,UpTo (Ba t) x z->p (z:Int)=false)\/∃ f:Nat,q.find? p=some (f:Int)/\UpTo (Ba t) x f/\p (f:Int)=true/\∀ z:Nat,UpTo (Ba t) x z->p (z:Int)=true->UpTo (Ba t) f z:=by
 induction h with
 | @top x hx h=>
  intro m hm;obtain⟨m,rfl⟩:∃ i,m=i+1:=⟨m-1,by omega⟩
  have htop:∀ z,UpTo (Ba t) x z↔z=x:=fun z=>Zd fun p hp=>by have:_=_:=hp.symm.trans h;omega
  unfold Go.Proofs.YtmkiepobhjiabaaGreat.upD;rw[if_pos ⟨by omega,by omega⟩,A1,if_pos h];refine⟨_,rfl,fun w=>?_,fun p=>?_⟩
  ·rw[zzL16]
   constructor
   ·rintro rfl;exact⟨x,rfl,.refl _⟩
   ·rintro⟨z,rfl,hz⟩;rw[(htop z).1 hz]
  ·cases hpp:p (x:Int) with
   | false=>exact .inl ⟨by simp[List.find?,hpp],fun z hz=>by rw[(htop z).1 hz];exact hpp⟩
   | true=>exact .inr ⟨x,by simp[List.find?,hpp],.refl _,hpp,fun z hz _=>hz⟩
 | @up x y r k hx h hk ih=>
  intro m hm;obtain⟨m,rfl⟩:∃ i,m=i+1:=⟨m-1,by omega⟩;unfold Go.Proofs.YtmkiepobhjiabaaGreat.upD;rw[if_pos ⟨by omega,by omega⟩,A1,if_neg (by omega),h];obtain⟨q,hq1,hq2,hq3⟩:=ih m (by omega);rw[hq1];refine⟨(x:Int)::q,rfl,fun w=>?_,fun p=>?_⟩
  ·rw[zzL28,hq2 w]
   constructor
   ·rintro(rfl|⟨y,rfl,hy⟩)
    ·exact⟨x,rfl,.refl _⟩
    ·exact⟨y,rfl,.up h hy⟩
   ·rintro⟨y,rfl,hy⟩;rcases(anc_up h).1 hy with rfl|hy
    ·exact .inl rfl
    ·exact .inr ⟨y,rfl,hy⟩
  ·cases hpp:p (x:Int) with
   | true=>exact .inr ⟨x,by simp[List.find?,hpp],.refl _,hpp,fun y hy _=>hy⟩
   | false=>
    have hf:((x:Int)::q).find? p=q.find? p:=by simp[List.find?,hpp]
    rw[hf];rcases hq3 p with⟨e1,e2⟩|⟨f,e1,e2,e3,e4⟩
    ·refine .inl ⟨e1,fun y hy=>?_⟩;rcases(anc_up h).1 hy with rfl|hy
     ·exact hpp
     ·exact e2 y hy
    ·refine .inr ⟨f,e1,.up h e2,e3,fun y hy hpy=>?_⟩;rcases(anc_up h).1 hy with rfl|hy
     ·rw[hpp]at hpy;cases hpy
     ·exact e4 y hy hpy
theorem upD_tp:∀ m (a:Int) q,upD t m a=some q->∃ x r k:Nat,a=(x:Int)/\k<m/\Tp t x r k:=by
 intro m
 induction m with
 | zero=>intro a q h;cases h
 | succ m ih=>
  intro a q h;unfold Go.Proofs.YtmkiepobhjiabaaGreat.upD at h
  by_cases ha:0<=a/\a<(t.length:Int)
  ·rw[if_pos ha]at h;have e:((a.toNat:Nat):Int)=a:=Sn ha.1
   by_cases h1:t.getD a.toNat 0 = -1
   ·exact⟨a.toNat,a.toNat,0,e.symm,by omega,.top (by omega) h1⟩
   ·rw[if_neg h1]at h
    cases hu:Go.Proofs.YtmkiepobhjiabaaGreat.upD t m (t.getD a.toNat 0) with
    | none=>rw[hu]at h;cases h
    | some q'=>
     obtain⟨y,r,k,e1,e2,e3⟩:=ih _ _ hu;exact⟨a.toNat,r,k+1,e.symm,by omega,.up (by omega) e1 e3⟩
  ·rw[if_neg ha]at h;cases h
theorem pathD_tp{a:Int}:Hu t a≠[]↔∃ x r k:Nat,a=(x:Int)/\Tp t x r k:=by
 constructor
 ·intro h
  cases hu:upD t t.length a with
  | none=>exact absurd (pathD_nil.2 hu) h
  | some q=>obtain⟨x,r,k,e1,_,e2⟩:=upD_tp _ _ _ hu;exact⟨x,r,k,e1,e2⟩
 ·rintro⟨x,r,k,rfl,h⟩ e;obtain⟨q,hq,_⟩:=h.upD t.length h.short;rw[pathD_nil.1 e]at hq;cases hq
theorem Tp.path{x r k:Nat}(h:Tp t x r k):(∀ w:Int,w∈Hu t (x:Int)↔∃ z:Nat,w=(z:Int)/\UpTo (Ba t) x z) /\
  ∀ p:Int->Bool,((Hu t (x:Int)).find? p=none/\∀ z:Nat,UpTo (Ba t) x z->p (z:Int)=false)\/∃ f:Nat,(Hu t (x:Int)).find? p=some (f:Int)/\UpTo (Ba t) x f/\p (f:Int)=true/\∀ z:Nat,UpTo (Ba t) x z->p (z:Int)=true->UpTo (Ba t) f z:=by
 obtain⟨q,h1,h2,h3⟩:=h.upD t.length h.short
 have e:Hu t (x:Int)=q:=by unfold Hu;rw[h1];rfl
 rw[e];exact⟨h2,h3⟩
theorem Aak{α:Type}{l:List α}{i j:Nat}{x d:α}(hi:i<l.length):(l.set i x).getD j d=if j=i then x else l.getD j d:=by
 by_cases h:j=i
 ·subst h;simp[List.getD,hi]
 ·simp[List.getD,h,G8 h]
theorem meet_L1{x r k:Nat}(h:Tp t x r k):∀ l:List Bool,l.length=t.length->∃ l',Am (Fb t) ((x:Int),l)=some l'/\l'.length=t.length/\∀ z,z<t.length->(l'.getD z false=true↔l.getD z false=true\/UpTo (Ba t) x z):=by
 induction h with
 | @top x hx h=>
  intro l hl
  have hs:Fb t ((x:Int),l)=some (.next (-1,l.set x true)):=by
   unfold Fb
   have hb:((x:Int)!=(-1:Int))=true:=by rw[Oj];omega
   simp only[hb,Ah,A1,h];rw[An (Kf (by omega)),An (Kf hx)]
  have hd:Fb t (-1,l.set x true)=some (.done (l.set x true)):=by
   unfold Fb
   rfl
  refine⟨l.set x true,by rw[Ar hs,Ao hd],by simp[hl],fun z hz=>?_⟩;rw[Aak (by omega)]
  have htop:UpTo (Ba t) x z↔z=x:=Zd fun p hp=>by have:_=_:=hp.symm.trans h;omega
  rw[htop]
  by_cases e:z=x
  ·simp[e]
  ·simp[e]
 | @up x y r k hx h hk ih=>
  intro l hl
  have hs:Fb t ((x:Int),l)=some (.next ((y:Int),l.set x true)):=by
   unfold Fb
   have hb:((x:Int)!=(-1:Int))=true:=by rw[Oj];omega
   simp only[hb,Ah,A1,h];rw[An (Kf (by omega)),An (Kf hx)]
  obtain⟨l',e1,e2,e3⟩:=ih (l.set x true) (by simp[hl]);refine⟨l',by rw[Ar hs,e1],e2,fun z hz=>?_⟩;rw[e3 z hz,Aak (by omega),anc_up (par:=Ba t) h]
  by_cases e:z=x
  ·simp[e]
  ·simp[e]
theorem meet_L2{b r k:Nat}(h:Tp t b r k)(l:List Bool)(hl:l.length=t.length):l.getD r false=true->∃ c:Nat,Am (Fc t l) (b:Int)=some (c:Int)/\UpTo (Ba t) b c/\l.getD c false=true/\∀ z,UpTo (Ba t) b z->l.getD z false=true->UpTo (Ba t) c z:=by
 induction h with
 | @top x hx h=>
  intro hr
  have hd:Fc t l (x:Int)=some (.done (x:Int)):=by
   unfold Fc;rw[An (Kf (by omega)),A1,hr]
   rfl
  exact⟨x,Ao hd,.refl _,hr,fun z hz _=>hz⟩
 | @up x y r k hx h hk ih=>
  intro hr
  cases hx2:l.getD x false with
  | true=>
   have hd:Fc t l (x:Int)=some (.done (x:Int)):=by
    unfold Fc;rw[An (Kf (by omega)),A1,hx2]
    rfl
   exact⟨x,Ao hd,.refl _,hx2,fun z hz _=>hz⟩
  | false=>
   have hs:Fc t l (x:Int)=some (.next (y:Int)):=by
    unfold Fc;rw[An (Kf (by omega)),A1,hx2,L1,Ah,An (Kf hx),h]
   obtain⟨c,e1,e2,e3,e4⟩:=ih hr;refine⟨c,by rw[Ar hs,e1],.up h e2,e3,fun z hz hlz=>?_⟩;rcases(anc_up (par:=Ba t) h).1 hz with rfl|hz
   ·rw[hx2]at hlz;cases hlz
   ·exact e4 z hz hlz
theorem Ya(ht:t.length<=1000){a b r k m:Nat}(ha:Tp t a r k)(hb:Tp t b r m):∃ c:Nat,J4 t (a:Int) (b:Int)=some (c:Int)/\MeetAt (Ba t) a b c:=by
 unfold J4
 have hroom:(1000:Nat)<=room:=by decide
 rw[An ⟨by omega,by omega,by omega⟩,A1];obtain⟨l',h1,h2,h3⟩:=meet_L1 ha (List.replicate t.length false) (by simp);rw[h1,Au]
 have h3':∀ z,z<t.length->(l'.getD z false=true↔UpTo (Ba t) a z):=fun z hz=>by rw[h3 z hz,M8];simp
 obtain⟨c,e1,e2,e3,e4⟩:=meet_L2 hb l' h2 ((h3' r ha.tops.1).2 ha.upTo)
 have hc:c<t.length:=by obtain⟨j,_,hj,_⟩:=hb.on e2;exact hj.lt
 refine⟨c,by rw[e1];rfl,fun w=>⟨fun hw=>⟨((h3' c hc).1 e3).trans hw,e2.trans hw⟩,fun⟨hw1,hw2⟩=>?_⟩⟩;obtain⟨j,_,hj,_⟩:=ha.on hw1;exact e4 w hw2 ((h3' w hj.lt).2 hw1)
theorem meetD_at(hR:Ix t=true){a b r k m:Nat}(ha:Tp t a r k)(hb:Tp t b r m):∃ c:Nat,Md t (a:Int) (b:Int)=(c:Int)/\MeetAt (Ba t) a b c:=by
 unfold Md;rw[if_pos hR]
 have hcon:∀ z:Nat,(Hu t (b:Int)).contains (z:Int)=true↔UpTo (Ba t) b z:=fun z=>by
  rw[zzL86,hb.path.1]
  constructor
  ·rintro⟨y,e,hy⟩;cases Ud e;exact hy
  ·intro hz;exact⟨z,rfl,hz⟩
 rcases ha.path.2 (fun x=>(Hu t (b:Int)).contains x) with⟨e1,e2⟩|⟨f,e1,e2,e3,e4⟩
 ·have:=e2 r ha.upTo;rw[(hcon r).2 hb.upTo]at this
  cases this
 ·exact⟨f,by rw[e1];rfl,fun w=>⟨fun hw=>⟨e2.trans hw,((hcon f).1 e3).trans hw⟩,fun⟨hw1,hw2⟩=>e4 w hw1 ((hcon w).2 hw2)⟩⟩
theorem MeetAt.same{a b r k c d:Nat}(ha:Tp t a r k)(hc:MeetAt (Ba t) a b c)(hd:MeetAt (Ba t) a b d):c=d:=by
 obtain⟨j,_,hj,_⟩:=ha.on ((hc c).1 (.refl _)).1;exact(hj.anti ((hc d).2 ((hd d).1 (.refl _))) ((hd c).2 ((hc c).1 (.refl _)))).symm
end
theorem m_index(t:List Int)(v:Int)(ht:t.length<=1000):(∃ r:Nat,r<t.length/\t.getD r 0=v/\(∀ i,i<r->t.getD i 0≠v)/\Do t v=some (r:Int))\/((∀ i,i<t.length->t.getD i 0≠v)/\Do t v=some (-1)):=by
 have key:∀ k i:Nat,i+k=t.length->(∀ j,j<i->t.getD j 0≠v)->
   (∃ r:Nat,r<t.length/\t.getD r 0=v/\(∀ i,i<r->t.getD i 0≠v)/\Am (Bm t v) (i:Int)=some (.inr (r:Int)))\/((∀ i,i<t.length->t.getD i 0≠v)/\Am (Bm t v) (i:Int)=some (.inl ())):=by
  intro k
  induction k with
  | zero=>
   intro i hi hj
   obtain rfl:i=t.length:=by omega
   refine .inr ⟨hj,Ao ?_⟩;unfold Bm;rw[K0];rfl
  | succ k ih=>
   intro i hi hj
   by_cases e:v=t.getD i 0
   ·refine .inl ⟨i,by omega,e.symm,hj,Ao ?_⟩;unfold Bm;have hb:((v:Int)==t.getD i 0)=true:=zzL68.2 e;simp only[F4 (show i<t.length by omega),Ah,A1,hb];rw[An (Kf (by omega))]
   ·have hs:Bm t v (i:Int)=some (.next ((i+1:Nat):Int)):=by
     unfold Bm;have hb:((v:Int)==t.getD i 0)=false:=zzL35.2 e;simp only[F4 (show i<t.length by omega),Ah,A1,hb,A0];rw[An (Kf (by omega)),w1 (by omega)]
    rw[Ar hs]
    exact ih (i+1) (by omega) fun j hj2=>by
     by_cases ej:j=i
     ·subst ej;exact fun h=>e h.symm
     ·exact hj j (by omega)
 have h0:=key t.length 0 (by omega) (fun j hj=>absurd hj (N3 _));unfold Do;rcases h0 with⟨r,h1,h2,h3,h4⟩|⟨h1,h2⟩
 ·exact .inl ⟨r,h1,h2,h3,by rw[show((0:Int))=((0:Nat):Int) from rfl,h4];rfl⟩
 ·exact .inr ⟨h1,by rw[show((0:Int))=((0:Nat):Int) from rfl,h2];rfl⟩
section
variable {t:List Int}
structure Ts(t:List Int)(r f:Nat)(w:List Int):Prop where
 len:w.length=t.length
 old:∀ y,y<t.length->w.getD y 0≠0->(w.getD y 0<=(f:Int))/\∃ k,Tp t y r k
structure Walk(t:List Int)(r f x:Nat)(w:List Int):Prop where
 len:w.length=t.length
 hx:x<t.length
 old:∀ y,y<t.length->w.getD y 0≠0->w.getD y 0<=(f:Int)/\(∃ k,Tp t y r k)\/w.getD y 0=((f+1:Nat):Int)/\∀ r' k,Tp t x r' k->∃ j,k<j/\Tp t y r' j
 fwd:∀ r' k,Tp t x r' k->∃ j,k<=j/\Tp t f r' j
 back:∀ r' k,Tp t f r' k->∃ j,Tp t x r' j
def zeros(w:List Int):Nat:=w.countP fun z=>z==0
theorem zeros_set{w:List Int}{x:Nat}{v:Int}(hx:x<w.length)(h0:w.getD x 0=0)(hv:v≠0):zeros (w.set x v)<zeros w:=by
 unfold zeros;rw[List.countP_set hx];rw[Af _ _ _ hx]at h0;have hp:0<w.countP fun z=>z==0:=List.countP_pos_iff.2 ⟨w[x],Sp hx,by simp[h0]⟩;have hb:(v==0)=false:=zzL35.2 hv;simp only[h0,O7,Hp,hb,zzL98,Ee];omega
theorem leads_loop(ht:t.length<=1000){r:Nat}(hr:r<t.length)(htop:t.getD r 0 = -1){f:Nat}(hf:f<t.length):∀(m x:Nat) (w:List Int),zeros w<=m->Walk t r f x w->
  (∃ w',Am (Cm t (f:Int) (r:Int)) ((x:Int),w)=some (.inl w')/\Ts t r (f+1) w'/\∃ k,Tp t f r k) \/
  ∃ b w',Am (Cm t (f:Int) (r:Int)) ((x:Int),w)=some (.inr (b,w'))/\w'.length=t.length/\(b=true->Ts t r (f+1) w'/\∃ k,Tp t f r k)/\(b=false->∀ k,¬ Tp t f r k):=by
 intro m
 induction m with
 | zero=>
  intro x w hz hw;exact go 0 (fun x w hz=>absurd hz (N3 _)) x w hz hw
 | succ m ih=>
  intro x w hz hw;exact go (m+1) (fun x w hz=>ih x w (Nat.le_of_lt_succ hz)) x w hz hw
where
 go (m:Nat) (ih:∀(x:Nat) (w:List Int),zeros w<m->Walk t r f x w->
  (∃ w',Am (Cm t (f:Int) (r:Int)) ((x:Int),w)=some (.inl w')/\Ts t r (f+1) w'/\∃ k,Tp t f r k) \/
  ∃ b w',Am (Cm t (f:Int) (r:Int)) ((x:Int),w)=some (.inr (b,w'))/\w'.length=t.length/\(b=true->Ts t r (f+1) w'/\∃ k,Tp t f r k)/\(b=false->∀ k,¬ Tp t f r k)) (x:Nat) (w:List Int) (hz:zeros w<=m) (hw:Walk t r f x w) :
  (∃ w',Am (Cm t (f:Int) (r:Int)) ((x:Int),w)=some (.inl w')/\Ts t r (f+1) w'/\∃ k,Tp t f r k) \/
  ∃ b w',Am (Cm t (f:Int) (r:Int)) ((x:Int),w)=some (.inr (b,w'))/\w'.length=t.length/\(b=true->Ts t r (f+1) w'/\∃ k,Tp t f r k)/\(b=false->∀ k,¬ Tp t f r k):=by
  have hxl:=hw.hx
  have told:∀ k,Tp t x r k->Ts t r (f+1) w/\∃ k,Tp t f r k:=fun k hk=>by
   obtain⟨j,_,hj⟩:=hw.fwd _ _ hk;refine⟨⟨hw.len,fun y hy hy0=>?_⟩,j,hj⟩;rcases hw.old y hy hy0 with⟨h1,h2⟩|⟨h1,h2⟩
   ·exact⟨by omega,h2⟩
   ·obtain⟨i,_,hi⟩:=h2 _ _ hk;exact⟨by omega,i,hi⟩
  by_cases hxr:x=r
  ·subst hxr;refine .inl ⟨w,Ao ?_,told 0 (.top hr htop)⟩;unfold Cm
   have hb:((x:Int)!=(x:Int))=false:=by simp
   simp only[hb,A0]
  ·have hb:((x:Int)!=(r:Int))=true:=by rw[Oj];omega
   have hin:Bd (x:Int) w.length:=Kf (by rw[hw.len];exact hxl)
   by_cases hw0:w.getD x 0=0
   ·have hb0:((w.getD x 0:Int)!=0)=false:=by rw[hw0];rfl
    by_cases hpl:0<=t.getD x 0/\t.getD x 0<(t.length:Int)
    ·have hwf:A9 ((f:Int)+1)=((f+1:Nat):Int):=w1 (by omega)
     have hs:Cm t (f:Int) (r:Int) ((x:Int),w)=some (.next (t.getD x 0,w.set x ((f+1:Nat):Int))):=by
      unfold Cm G4;simp only[hb,Ah,A1,hb0,A0];rw[An hin,An (Kf hxl),E1 hpl.1,E1 hpl.2,Ah,Au,E9,A0,An hin,An (Kf hxl),hwf]
     rw[Ar hs];obtain⟨y,hy⟩:∃ y:Nat,t.getD x 0=(y:Int):=⟨(t.getD x 0).toNat,(Sn hpl.1).symm⟩;rw[hy]at hpl ⊢
     have hyl:y<t.length:=by omega
     have hst:∀ r' k,Tp t y r' k->Tp t x r' (k+1):=fun r' k hk=>.up hxl hy hk
     have hset:∀ z,z<t.length->(w.set x ((f+1:Nat):Int)).getD z 0=if z=x then((f+1:Nat):Int) else w.getD z 0:=fun z _=>Aak (by rw[hw.len];exact hxl)
     have hW:Walk t r f y (w.set x ((f+1:Nat):Int)):=by
      refine⟨by simp[hw.len],hyl,fun z hzl hz0=>?_,fun r' k hk=>?_,fun r' k hk=>?_⟩
      ·rw[hset z hzl]at hz0 ⊢
       by_cases e:z=x
       ·subst e;rw[if_pos rfl];exact .inr ⟨rfl,fun r' k hk=>⟨k+1,by omega,hst r' k hk⟩⟩
       ·rw[if_neg e]at hz0 ⊢;rcases hw.old z hzl hz0 with h1|⟨h1,h2⟩
        ·exact .inl h1
        ·refine .inr ⟨h1,fun r' k hk=>?_⟩;obtain⟨j,hj1,hj2⟩:=h2 _ _ (hst r' k hk);exact⟨j,by omega,hj2⟩
      ·obtain⟨j,hj1,hj2⟩:=hw.fwd _ _ (hst r' k hk);exact⟨j,by omega,hj2⟩
      ·obtain⟨j,hj⟩:=hw.back _ _ hk
       cases hj with
       | top _ h2=>omega
       | up _ h2 h3=>
        have:=hy.symm.trans h2
        cases Ud this
        exact⟨_,h3⟩
     have hzz:=zeros_set (x:=x) (v:=((f+1:Nat):Int)) (by rw[hw.len];exact hxl) hw0 (by omega);exact ih y _ (by omega) hW
    ·refine .inr ⟨false,w,Ao ?_,hw.len,⟨fun h=>(by cases h),fun _ k hk=>?_⟩⟩
     ·unfold Cm G4;simp only[hb,Ah,A1,hb0,A0];rw[An hin,An (Kf hxl)]
      have:(bif decide ((0:Int)<=t.getD x 0) then decide (t.getD x 0<(t.length:Int)) else false)=false:=by
       cases h1:decide ((0:Int)<=t.getD x 0) with
       | false=>rfl
       | true=>rw[Ah];exact E8 fun h2=>hpl ⟨Wh h1,h2⟩
      rw[this,Au]
      rfl
     ·obtain⟨j,hj⟩:=hw.back _ _ hk
      cases hj with
      | top=>exact hxr rfl
      | up _ h2 h3=>have:=h3.lt;exact hpl ⟨by omega,by omega⟩
   ·have hb0:((w.getD x 0:Int)!=0)=true:=by rw[Oj];exact hw0
    have hwf:A9 ((f:Int)+1)=((f+1:Nat):Int):=w1 (by omega);refine .inr ⟨w.getD x 0 !=((f+1:Nat):Int),w,Ao ?_,hw.len,⟨fun h=>?_,fun h k hk=>?_⟩⟩
    ·unfold Cm;simp only[hb,Ah,A1,hb0];rw[An hin,An hin,hwf]
    ·rcases hw.old x hxl hw0 with⟨_,k,hk⟩|⟨h1,_⟩
     ·exact told k hk
     ·rw[h1]at h;simp at h
    ·have he:w.getD x 0=((f+1:Nat):Int):=by simpa using h
     obtain⟨j,hj⟩:=hw.back _ _ hk;rcases hw.old x hxl hw0 with⟨h1,_⟩|⟨_,h2⟩
     ·omega
     ·obtain⟨i,hi1,hi2⟩:=h2 _ _ hj;have:=hj.det hi2;omega
end
section
variable {t:List Int}
theorem m_leads(ht:t.length<=1000){r:Nat}(hr:r<t.length)(htop:t.getD r 0 = -1){f:Nat}(hf:f<t.length){w:List Int}(hw:Ts t r f w) :
  ∃ b w',Lv t w (f:Int) (r:Int)=some (b,w')/\w'.length=t.length/\(b=true->Ts t r (f+1) w'/\∃ k,Tp t f r k)/\(b=false->∀ k,¬ Tp t f r k):=by
 unfold Lv;have hW:Walk t r f f w:=⟨hw.len,hf,fun y hy h0=>.inl (hw.old y hy h0),fun r' k hk=>⟨k,zzL8 _,hk⟩,fun r' k hk=>⟨k,hk⟩⟩;rcases leads_loop ht hr htop hf _ f w (zzL8 _) hW with⟨w',e1,e2⟩|⟨b,w',e1,e2,e3,e4⟩
 ·exact⟨true,w',by rw[e1];rfl,e2.1.len,fun _=>e2,fun h=>by cases h⟩
 ·exact⟨b,w',by rw[e1];rfl,e2,e3,e4⟩
def AllUp(t:List Int)(r:Nat):Prop:=∀ f,f<t.length->t.getD f 0≠-2->∃ k,Tp t f r k
open Classical in
theorem isTree_loop(ht:t.length<=1000){r:Nat}(hr:r<t.length)(htop:t.getD r 0 = -1):∀(k f:Nat) (w:List Int),f+k=t.length->Ts t r f w->(∀ y,y<f->t.getD y 0≠-2->∃ k,Tp t y r k)->
  Am (D1 t (r:Int)) ((f:Int),w)=some (if AllUp t r then .inl () else .inr false):=by
 intro k
 induction k with
 | zero=>
  intro f w hk hw hd
  obtain rfl:f=t.length:=by omega
  apply Ao
  unfold D1;simp only[K0,A0];rw[if_pos (show AllUp t r from hd)]
 | succ k ih=>
  intro f w hk hw hd
  have hf:f<t.length:=by omega
  by_cases h2:t.getD f 0 = -2
  ·have hb:((t.getD f 0:Int)!=(-2))=false:=by rw[h2];rfl
   have hs:D1 t (r:Int) ((f:Int),w)=some (.next (((f+1:Nat):Int),w)):=by
    unfold D1;simp only[F4 hf,Ah,A1,hb,show(false==true)=false from rfl,A0,Au];rw[An (Kf hf),An (fun h=>by cases h),w1 (by omega)]
   rw[Ar hs];refine ih (f+1) w (by omega) ⟨hw.len,fun y hy h0=>?_⟩ fun y hy hy2=>?_
   ·obtain⟨e1,e2⟩:=hw.old y hy h0;exact⟨by omega,e2⟩
   ·by_cases e:y=f
    ·subst e;exact absurd h2 hy2
    ·exact hd y (by omega) hy2
  ·have hb:((t.getD f 0:Int)!=(-2))=true:=by rw[Oj];exact h2
   obtain⟨b,w',e1,e2,e3,e4⟩:=m_leads ht hr htop hf hw
   cases b with
   | false=>
    rw[if_neg (fun hA:AllUp t r=>by obtain⟨k,hk⟩:=hA f hf h2;exact e4 rfl k hk)]
    apply Ao
    unfold D1;simp only[F4 hf,Ah,A1,hb,show(true==true)=true from rfl,e1,Au];rw[An (Kf hf),An (fun _=>by rw[hw.len,e2])]
    rfl
   | true=>
    have hs:D1 t (r:Int) ((f:Int),w)=some (.next (((f+1:Nat):Int),w')):=by
     unfold D1;simp only[F4 hf,Ah,A1,hb,show(true==true)=true from rfl,e1,Au];rw[An (Kf hf),An (fun _=>by rw[hw.len,e2]),w1 (by omega)]
     rfl
    rw[Ar hs];obtain⟨e5,e6⟩:=e3 rfl;refine ih (f+1) w' (by omega) e5 fun y hy hy2=>?_
    by_cases e:y=f
    ·subst e;exact e6
    ·exact hd y (by omega) hy2
theorem tops_one:Wd t t.length=1↔∃ r,r<t.length/\t.getD r 0 = -1/\∀ x,x<t.length->t.getD x 0 = -1->x=r:=by
 have key:∀ n,(Wd t n=0↔∀ x,x<n->t.getD x 0≠-1)/\(Wd t n=1↔∃ r,r<n/\t.getD r 0 = -1/\∀ x,x<n->t.getD x 0 = -1->x=r):=by
  intro n
  induction n with
  | zero=>exact⟨⟨fun _ x hx=>absurd hx (N3 _),fun _=>rfl⟩,⟨fun h=>by simp[Wd]at h,fun⟨r,h,_⟩=>absurd h (N3 _)⟩⟩
  | succ n ih=>
   rw[topsK_succ]
   by_cases e:t.getD n 0 = -1
   ·rw[if_pos e];refine⟨⟨fun h=>by omega,fun h=>absurd e (h n (by omega))⟩,⟨fun h=>⟨n,by omega,e,fun x hx hx1=>?_⟩,fun⟨r,h1,h2,h3⟩=>?_⟩⟩
    ·by_cases ex:x=n
     ·exact ex
     ·exact absurd hx1 (ih.1.1 (by omega) x (by omega))
    ·have:=ih.1.2 fun x hx hx1=>by
      have:=h3 x (by omega) hx1;have:=h3 n (by omega) e;omega
     omega
   ·rw[if_neg e,K4];refine⟨⟨fun h x hx=>?_,fun h=>ih.1.2 fun x hx=>h x (by omega)⟩,⟨fun h=>?_,fun⟨r,h1,h2,h3⟩=>?_⟩⟩
    ·by_cases ex:x=n
     ·subst ex;exact e
     ·exact ih.1.1 h x (by omega)
    ·obtain⟨r,h1,h2,h3⟩:=ih.2.1 h;refine⟨r,by omega,h2,fun x hx hx1=>?_⟩
     by_cases ex:x=n
     ·subst ex;exact absurd hx1 e
     ·exact h3 x (by omega) hx1
    ·refine ih.2.2 ⟨r,?_,h2,fun x hx hx1=>h3 x (by omega) hx1⟩
     by_cases ex:r=n
     ·subst ex;exact absurd h2 e
     ·omega
 exact(key _).2
theorem rightD_iff:Ix t=true↔∃ r,r<t.length/\t.getD r 0 = -1/\AllUp t r:=by
 unfold Ix;rw[A6,all_range,F0,tops_one]
 constructor
 ·rintro⟨h1,r,h2,h3,h4⟩;refine⟨r,h2,h3,fun f hf hf2=>?_⟩;have:=h1 f hf;unfold okR at this;rw[Wj,F0,Ni,zzL127]at this;rcases this with h|h
  ·exact absurd h hf2
  ·obtain⟨x,r',k,e,hk⟩:=pathD_tp.1 h
   cases Ud e
   have:=h4 _ hk.tops.1 hk.tops.2;subst this;exact⟨k,hk⟩
 ·rintro⟨r,h2,h3,h4⟩;refine⟨fun f hf=>?_,r,h2,h3,fun x hx hx1=>?_⟩
  ·unfold okR;rw[Wj,F0,Ni,zzL127]
   by_cases e:t.getD f 0 = -2
   ·exact .inl e
   ·obtain⟨k,hk⟩:=h4 f hf e;exact .inr (pathD_tp.2 ⟨f,r,k,rfl,hk⟩)
  ·obtain⟨k,hk⟩:=h4 x hx (by omega);exact((hk.det (.top hx hx1)).1).symm
theorem rightD_at(hR:Ix t=true):∃ r,AllUp t r:=by obtain⟨r,_,_,h⟩:=rightD_iff.1 hR;exact⟨r,h⟩
theorem m_isTree(ht:t.length<=1000):Kn t=some (Ix t):=by
 unfold Kn
 have hroom:(1000:Nat)<=room:=by decide
 rcases m_index t (-1) ht with⟨r,h1,h2,h3,h4⟩|⟨h1,h2⟩
 ·rw[h4,Au,show decide ((r:Int)<0)=false from E8 (by omega),A0,An ⟨by omega,by omega,by omega⟩,A1];have hl:=isTree_loop ht h1 h2 t.length 0 (List.replicate t.length 0) (by omega) ⟨by simp,fun y hy h0=>absurd M8 h0⟩ (fun y hy=>absurd hy (N3 _));rw[show(((0:Nat):Int))=0 from rfl]at hl;rw[hl,Au]
  by_cases hA:AllUp t r
  ·rw[if_pos hA,rightD_iff.2 ⟨r,h1,h2,hA⟩]
  ·rw[if_neg hA]
   have:Ix t=false:=Bool.eq_false_iff.2 fun hR=>by
    obtain⟨r',g1,g2,g3⟩:=rightD_iff.1 hR;obtain⟨k,hk⟩:=g3 r h1 (by omega);have:=(hk.det (.top h1 h2)).1;subst this;exact hA g3
   rw[this]
 ·rw[h2,Au]
  have:Ix t=false:=Bool.eq_false_iff.2 fun hR=>by
   obtain⟨r',g1,g2,g3⟩:=rightD_iff.1 hR;exact h1 r' g1 g2
  rw[this]
  rfl
def Uq(t:List Int)(a:Int):Bool:=decide (0<=a)&&decide (a<(t.length:Int))&&decide (t.getD a.toNat 0≠-2)
theorem Aal(hR:Ix t=true){a:Int}:Uq t a=true↔∃ x k r:Nat,a=(x:Int)/\Tp t x r k:=by
 unfold Uq;rw[A6,A6,F0,F0,F0]
 constructor
 ·rintro⟨⟨h1,h2⟩,h3⟩;obtain⟨r,hA⟩:=rightD_at hR;obtain⟨k,hk⟩:=hA a.toNat (by omega) h3;exact⟨a.toNat,k,r,(Sn h1).symm,hk⟩
 ·rintro⟨x,k,r,rfl,h⟩;have:=h.lt;refine⟨⟨by omega,by omega⟩,?_⟩;rw[A1]
  cases h with
  | top _ h2=>omega
  | up _ h2 _=>omega
theorem Aaw(a:Int):Hd t a=some (Uq t a):=by
 unfold Hd G4 Uq;rw[Au]
 cases h1:decide ((0:Int)<=a) with
 | false=>rfl
 | true=>
  rw[Ah,Ga]
  cases h2:decide (a<(t.length:Int)) with
  | false=>rfl
  | true=>
   rw[An (fun _=>⟨Wh h1,Wh h2⟩),Ah,Ga]
   congr 1
   rw[Ky,Oj,F0]
theorem m_areIn(ht:t.length<=1000)(a b:Int):Lu t a b=some (Ix t&&Uq t a&&Uq t b):=by
 unfold Lu;rw[m_isTree ht,Au]
 cases Ix t with
 | false=>rfl
 | true=>
  simp only[show(true==true)=true from rfl,Ah,Aaw,Au,Ga]
  cases Uq t a with
  | false=>rfl
  | true=>simp only[show(true==true)=true from rfl,Ah,Aaw,Au,Ga]
theorem meetD_out{a b:Int}(h:(Ix t&&Uq t a&&Uq t b)=false):Md t a b = -2:=by
 unfold Md
 by_cases hR:Ix t=true
 ·rw[if_pos hR];rw[hR,Ga]at h
  have hno:∀ c,Uq t c=false->Hu t c=[]:=fun c hc=>by
   by_cases e:Hu t c=[]
   ·exact e
   ·obtain⟨x,r,k,e1,e2⟩:=pathD_tp.1 e;rw[(Aal hR).2 ⟨x,k,r,e1,e2⟩]at hc;cases hc
  cases ha:Uq t a with
  | false=>rw[hno a ha];rfl
  | true=>
   rw[ha,Ga]at h;rw[hno b h]
   have:((Hu t a).find? fun x=>([]:List Int).contains x)=none:=List.find?_eq_none.2 fun x _=>by simp
   rw[this]
   rfl
 ·rw[if_neg hR]
theorem meet_prog_doc(ht:t.length<=1000){a b:Int}(h:(Ix t&&Uq t a&&Uq t b)=true):J4 t a b=some (Md t a b)/\0<=Md t a b:=by
 rw[A6,A6]at h;obtain⟨⟨hR,ha⟩,hb⟩:=h;obtain⟨x,k,r,rfl,hx⟩:=(Aal hR).1 ha;obtain⟨y,m,r',rfl,hy⟩:=(Aal hR).1 hb;obtain⟨rr,hA⟩:=rightD_at hR
 have top:∀{x r k},Tp t x r k->r=rr:=fun{x r k} h=>by
  obtain⟨i,hi⟩:=hA r h.tops.1 (by rw[h.tops.2];omega);exact((Tp.top h.tops.1 h.tops.2).det hi).1
 obtain rfl:=top hx;obtain rfl:=top hy;obtain⟨c,h1,h2⟩:=Ya ht hx hy;obtain⟨d,h3,h4⟩:=meetD_at hR hx hy;have:=h2.same hx h4;subst this;exact⟨by rw[h1,h3],by omega⟩
theorem m_Over(ht:t.length<=1000)(a b:Int):K7 t a b=some (R6 t a b):=by
 unfold K7 R6;rw[m_areIn ht,Au]
 cases h:(Ix t&&Uq t a&&Uq t b) with
 | false=>
  rw[meetD_out h]
  have:((-2:Int)==a&&((-2:Int)!=-2))=false:=by simp
  rw[this]
  rfl
 | true=>
  obtain⟨h1,h2⟩:=meet_prog_doc ht h;simp only[show(true==true)=true from rfl,Ah,h1,Au]
  have:(Md t a b !=-2)=true:=by rw[Oj];omega
  rw[this,zzL143]
end
theorem mul_fin:∀ n:Fin 65,J2 (Jm 1) (Jm ((n.val:Nat):Int))=some (0,((n.val:Nat):Int)):=by decide +kernel
theorem mul_small{n:Nat}(h:n<=64):J2 (Jm 1) (Jm (n:Int))=some (0,(n:Int)):=mul_fin ⟨n,by omega⟩
theorem repeat_loop{v:Int}{n:Nat}(hn:n<=64):∀(m i:Nat) (l:List Int),n-i<=m->1<=i->i<=n->l.length=n->(∀ j,j<i->l.getD j 0=v)->Am Bz ((i:Int),l)=some (List.replicate n v):=by
 intro m
 induction m with
 | zero=>
  intro i l hm h1 h2 hl hv
  obtain rfl:i=n:=by omega
  exact fin l hl hv
 | succ m ih=>
  intro i l hm h1 h2 hl hv
  by_cases e:i=n
  ·subst e;exact fin l hl hv
  ·have hs:Bz ((i:Int),l)=some (.next (((i+Nat.min i (n-i):Nat):Int),cpL l i (Nat.min i (n-i)) (fun j=>l.getD (0+j) 0))):=by
    unfold Bz;simp only[hl,F4 (show i<n by omega),Ah,A1,Fn,Sk];have hc:(0:Int)<=(i:Int)/\i<=n:=⟨by omega,h2⟩;have hmn:Nat.min i (n-i)<=i:=Nat.min_le_left _ _;rw[An hc,An hc,Hn (by omega) (by omega),Int.natCast_add]
   rw[Ar hs];have hmn:Nat.min i (n-i)<=i/\Nat.min i (n-i)<=n-i:=⟨Nat.min_le_left _ _,Nat.min_le_right _ _⟩;have hge:1<=Nat.min i (n-i):=Nat.le_min.2 ⟨h1,by omega⟩;refine ih _ _ (by omega) (by omega) (by omega) (by rw[<- Gc];exact hl) fun j hj=>?_;rw[Aab _ _ _ _ _ _ (by omega)]
   by_cases hji:i<=j/\j<i+Nat.min i (n-i)
   ·rw[if_pos hji,Fn];exact hv _ (by omega)
   ·rw[if_neg hji];exact hv _ (by omega)
where
 fin {v:Int} {i:Nat} (l:List Int) (hl:l.length=i) (hv:∀ j,j<i->l.getD j 0=v):Am Bz ((i:Int),l)=some (List.replicate i v):=by
  apply Ao
  unfold Bz;simp only[hl,K0,A0]
  congr 2
  refine zzL133 (by simp[hl]) fun j h1 h2=>?_;rw[<- Af _ _ 0 h1,hv j (by omega)]
  simp
theorem m_repeat{v:Int}{n:Nat}(h1:1<=n)(hn:n<=64):Ed [v] (n:Int)=some (List.replicate n v):=by
 have hroom:(64:Nat)<=room:=by decide
 unfold Ed;rw[show decide ((n:Int)<0)=false from E8 (by omega),A0,Au]
 show Option.bind (J2 (Jm 1) (Jm (n:Int))) _=_
 rw[mul_small hn,Au];have e1:decide ((0:Int)<(0:Int))=false:=rfl;have e2:decide ((9223372036854775807:Int)<(n:Int))=false:=E8 (by omega);simp only[e1,e2,A0,Au];have ew:A9 (n:Int)=(n:Int):=Hn (by omega) (by omega);rw[ew,An ⟨by omega,by omega,by omega⟩,A1,Ua,Sk];have em:Nat.min [v].length n=1:=Nat.min_eq_left h1;rw[em,repeat_loop hn n 1 _ (by omega) (zzL8 _) h1 (by rw[<- Gc];simp) (fun j hj=>?_)]
 ·rfl
 ·rw[Aab _ _ _ _ _ _ (by simp;omega),if_pos ⟨by omega,by omega⟩]
  have:j-0=0:=by omega
  rw[this];rfl
section
variable {S:Nat->List Nat} {r n:Nat} {P:List Nat}
theorem Inv.tp{at_:Nat->Nat}{t:List Int}(h:Inv S r n at_ (Ba t))(hl:t.length=n):∀ m x,at_ x<=m->x<n->Ba t x≠-2->∃ k,Tp t x r k:=by
 intro m
 induction m with
 | zero=>
  intro x hm hx hp;rcases h.kind x hx with h1|h1|⟨z,hz⟩
  ·exact absurd h1 hp
  ·subst h1;exact⟨0,.top (by omega) h.top⟩
  ·obtain⟨_,_,h3,_⟩:=h.up x hx z hz;omega
 | succ m ih=>
  intro x hm hx hp;rcases h.kind x hx with h1|h1|⟨z,hz⟩
  ·exact absurd h1 hp
  ·subst h1;exact⟨0,.top (by omega) h.top⟩
  ·obtain⟨z1,z2,z3,_⟩:=h.up x hx z hz;obtain⟨k,hk⟩:=ih z (by omega) z1 z2;exact⟨k+1,.up (by omega) hz hk⟩
def U8(t l:List Int)(i:Nat)(v:Int):Prop:=
 (v = -2/\∀ j,j<i->Ba t (l.getD j 0).toNat = -2) \/
 ∃ z:Nat,v=(z:Int)/\z<t.length/\Ba t z≠-2/\(∀ w,UpTo (Ba t) z w↔∀ j,j<i->Ba t (l.getD j 0).toNat≠-2->UpTo (Ba t) (l.getD j 0).toNat w)
theorem meetAll_loop{at_:Nat->Nat}{t l:List Int}(ht:t.length<=64)(hll:l.length<=64)(h:Inv S r n at_ (Ba t))(hl:t.length=n)(hin:∀ x∈l,0<=x/\x<(n:Int)):∀(k i:Nat) (v:Int),i+k=l.length->U8 t l i v->
  ∃ v',Am (Dn t l) (v,(i:Int))=some v'/\U8 t l l.length v':=by
 intro k
 induction k with
 | zero=>
  intro i v hi hv
  obtain rfl:i=l.length:=by omega
  refine⟨v,Ao ?_,hv⟩;unfold Dn;simp only[K0,A0]
 | succ k ih=>
  intro i v hi hv
  have hil:i<l.length:=by omega
  obtain⟨x0,x1⟩:=hin _ (A5 (d:=0) hil);have hxe:(((l.getD i 0).toNat:Nat):Int)=l.getD i 0:=Sn x0;have hxin:Bd (l.getD i 0) t.length:=inbz x0 (by omega)
  have next:∀ v',Dn t l (v,(i:Int))=some (.next (v',((i+1:Nat):Int)))->U8 t l (i+1) v'->∃ v',Am (Dn t l) (v,(i:Int))=some v'/\U8 t l l.length v':=fun v' hs hv'=>by
   rw[Ar hs];exact ih (i+1) v' (by omega) hv'
  by_cases hp:Ba t (l.getD i 0).toNat = -2
  ·have hb:((t.getD (l.getD i 0).toNat 0:Int)==-2)=true:=zzL68.2 hp;refine next v ?_ ?_
   ·unfold Dn;simp only[F4 hil,Ah,A1,hb];rw[An (Kf hil),An hxin,Au,w1 (by omega)]
   ·have hstep:∀ w,(∀ j,j<i->Ba t (l.getD j 0).toNat≠-2->UpTo (Ba t) (l.getD j 0).toNat w)↔∀ j,j<i+1->Ba t (l.getD j 0).toNat≠-2->UpTo (Ba t) (l.getD j 0).toNat w:=fun w=>by
     refine⟨fun hj j hj1 hj2=>?_,fun hj j hj1=>hj j (by omega)⟩
     by_cases e:j=i
     ·subst e;exact absurd hp hj2
     ·exact hj j (by omega) hj2
    rcases hv with⟨h1,h2⟩|⟨z,h1,h2,h3,h4⟩
    ·refine .inl ⟨h1,fun j hj=>?_⟩
     by_cases e:j=i
     ·subst e;exact hp
     ·exact h2 j (by omega)
    ·exact .inr ⟨z,h1,h2,h3,fun w=>by rw[h4 w,hstep w]⟩
  ·have hb:((t.getD (l.getD i 0).toNat 0:Int)==-2)=false:=zzL35.2 hp;rcases hv with⟨h1,h2⟩|⟨z,h1,h2,h3,h4⟩
   ·subst h1;refine next (l.getD i 0) ?_ (.inr ⟨(l.getD i 0).toNat,hxe.symm,by omega,hp,fun w=>⟨fun hw j hj hj2=>?_,fun hw=>hw i (by omega) hp⟩⟩)
    ·unfold Dn;simp only[F4 hil,Ah,A1,hb,A0,show((-2:Int)==-2)=true from rfl];rw[An (Kf hil),An hxin,Au,w1 (by omega)]
    ·by_cases e:j=i
     ·subst e;exact hw
     ·exact absurd (h2 j (by omega)) hj2
   ·subst h1;have hb2:((z:Int)==-2)=false:=zzL35.2 (by omega);obtain⟨k1,hk1⟩:=h.tp hl _ z (zzL8 _) (by omega) h3;obtain⟨k2,hk2⟩:=h.tp hl _ (l.getD i 0).toNat (zzL8 _) (by omega) hp;obtain⟨c,c1,c2⟩:=Ya (by omega) hk1 hk2;have hcz:=(c2 c).1 (.refl _);obtain⟨jc,_,hjc,_⟩:=hk1.on hcz.1
    have hcp:Ba t c≠-2:=by
     show t.getD c 0≠-2
     cases hjc with
     | top _ h=>omega
     | up _ h _=>omega
    refine next (c:Int) ?_ (.inr ⟨c,rfl,hjc.lt,hcp,fun w=>?_⟩)
    ·rw[hxe]at c1;unfold Dn;simp only[F4 hil,Ah,A1,hb,A0,hb2,c1,Au];rw[An (Kf hil),An hxin,Au,w1 (by omega)]
    ·rw[c2 w,h4 w];refine⟨fun⟨a1,a2⟩ j hj hj2=>?_,fun ha=>⟨fun j hj=>ha j (by omega),ha i (by omega) hp⟩⟩
     by_cases e:j=i
     ·subst e;exact a2
     ·exact a1 j (by omega) hj2
theorem m_meetAll{at_:Nat->Nat}{t l:List Int}(ht:t.length<=64)(hll:l.length<=64)(h:Inv S r n at_ (Ba t))(hl:t.length=n)(hin:∀ x∈l,0<=x/\x<(n:Int)) :
  ∃ v,G5 t l=some v/\U8 t l l.length v:=by
 obtain⟨v,h1,h2⟩:=meetAll_loop ht hll h hl hin l.length 0 (-2) (by omega) (.inl ⟨rfl,fun j hj=>absurd hj (N3 _)⟩);refine⟨v,?_,h2⟩;unfold G5;rw[show((0:Int))=((0:Nat):Int) from rfl,h1]
 rfl
end
section
variable {L:List (List Int)} (hm:J7 L=true) {r:Nat} {P:List Nat}
include hm
theorem sN_iff{p y:Nat}(hp:p<L.length):y∈sN L p↔X5 L p y=true:=by
 rw[goes_iff];obtain⟨_,_,h3⟩:=mayS_iff.1 hm
 constructor
 ·intro h;obtain⟨x,hx,rfl⟩:=zzL23.1 h;have:=okL_mem (h3 p hp) hx;rw[Sn this.1];exact hx
 ·intro h;exact zzL23.2 ⟨_,h,A1 y⟩
theorem V5{y:Nat}(hy:y<L.length){x:Int}:x∈(Db L).getD y []↔∃ p:Nat,x=(p:Int)/\p<L.length/\y∈sN L p:=by
 rw[predOf_at hy];unfold J8;rw[mem_filt]
 constructor
 ·rintro⟨k,h1,h2,h3⟩;exact⟨k,h1,h2,(sN_iff hm h2).2 h3⟩
 ·rintro⟨k,h1,h2,h3⟩;exact⟨k,h1,h2,(sN_iff hm h2).1 h3⟩
theorem meetAll_best(o:Ordered (sN L) r L.length P){t:List Int}{i:Nat}(h:Ready (sN L) r L.length P t i)(hi:i<P.length) :
  G5 t ((Db L).getD (P.getD i 0) [])=some (J0 (sN L) L.length t (P.getD i 0):Int):=by
 obtain⟨hL1,hL64,_⟩:=mayS_iff.1 hm;have hyn:P.getD i 0<L.length:=o.lt (Fv _ (Mn hi))
 have hlen:((Db L).getD (P.getD i 0) []).length<=64:=by
  rw[predOf_at hyn];have:=Ux L L.length (P.getD i 0);omega
 obtain⟨v,h1,h2⟩:=m_meetAll (by rw[h.len];exact hL64) hlen h.inv h.len fun x hx=>by
  obtain⟨p,rfl,hp,_⟩:=(V5 hm hyn).1 hx;omega
 rw[h1];have hb:=h.best o hi
 have mem:∀ p,p<L.length->P.getD i 0∈sN L p->∃ j,j<((Db L).getD (P.getD i 0) []).length/\(((Db L).getD (P.getD i 0) []).getD j 0).toNat=p:=fun p hp hy=>by
  obtain⟨j,hj,e⟩:=Nh ((V5 hm hyn).2 ⟨p,rfl,hp,hy⟩);exact⟨j,hj,by rw[Af _ _ _ hj,e,A1]⟩
 have mem':∀ j,j<((Db L).getD (P.getD i 0) []).length->(((Db L).getD (P.getD i 0) []).getD j 0).toNat<L.length/\P.getD i 0∈sN L (((Db L).getD (P.getD i 0) []).getD j 0).toNat:=fun j hj=>by
  obtain⟨p,e,hp,hy⟩:=(V5 hm hyn).1 (A5 (d:=(0:Int)) hj);rw[e,A1];exact⟨hp,hy⟩
 rcases h2 with⟨rfl,h3⟩|⟨z,rfl,hz,hz2,h4⟩
 ·obtain⟨p,hp,hyp,hp2,_⟩:=hb.fwd;obtain⟨j,hj,e⟩:=mem p hp hyp;exact absurd (by rw[<- e];exact h3 j hj) hp2
 ·have hbest:Best (sN L) L.length (Ba t) (P.getD i 0) z:=fun w=>by
   rw[h4 w];refine⟨fun ha p hp hyp hp2=>?_,fun ha j hj hj2=>?_⟩
   ·obtain⟨j,hj,e⟩:=mem p hp hyp;have:=ha j hj (by rw[e];exact hp2);rwa[e]at this
   ·obtain⟨q1,q2⟩:=mem' j hj;exact ha _ q1 q2 hj2
  rw[h.best_eq o hi (by rw[<- h.len];exact hz) hz2 hbest]
end
theorem ofN_getD{P:List Nat}{i:Nat}(h:i<P.length):(Oa P).getD i 0=((P.getD i 0:Nat):Int):=by
 unfold Oa;rw[Af _ _ _ (by simpa using h),Af _ _ _ h,List.getElem_map]
 rfl
theorem set_same{t:List Int}{x:Nat}{v:Int}(hx:x<t.length)(h:t.getD x 0=v):t.set x v=t:=by
 subst h;rw[Af _ _ _ hx];exact List.set_getElem_self hx
section
variable {L:List (List Int)} (hm:J7 L=true) {r:Nat} {P:List Nat} (o:Ordered (sN L) r L.length P)
include hm o
theorem round_loop{t0:List Int}(h:Ready (sN L) r L.length P t0 0):∀(k i:Nat) (b:Bool),i+k=P.length->
  ∃ b',Am (Dk (Ti L) (Oa (r::P))) (b,(i:Int),Q0 (sN L) L.length P t0 i)=some (b',Q0 (sN L) L.length P t0 P.length) /\
   (b'=false↔b=false/\∀ j,i<=j->j<P.length->Ba (Q0 (sN L) L.length P t0 j) (P.getD j 0)=(J0 (sN L) L.length (Q0 (sN L) L.length P t0 j) (P.getD j 0):Int)):=by
 have hP64:P.length<=64:=by
  have h1:=La L.length (r::P) o.nodup fun x hx=>o.lt hx;have h2:=(mayS_iff.1 hm).2.1;simp at h1;omega
 have hdl:(Oa (r::P)).drop (1:Int).toNat=Oa P:=rfl
 have hlen:(Oa P).length=P.length:=by simp[Oa]
 intro k
 induction k with
 | zero=>
  intro i b hi
  obtain rfl:i=P.length:=by omega
  refine⟨b,Ao ?_,fun h=>⟨h,fun j h1 h2=>by omega⟩,fun h=>h.1⟩;unfold Dk;simp only[hdl,hlen,K0,A0]
 | succ k ih=>
  intro i b hi
  have hil:i<P.length:=by omega
  have rd:=h.round o i (by omega);have hma:=meetAll_best hm o rd hil;have hyn:P.getD i 0<L.length:=o.lt (Fv _ (Mn hil))
  have hyt:P.getD i 0<(Q0 (sN L) L.length P t0 i).length:=by rw[rd.len];exact hyn
  have hpred:(Ti L).Pred=Db L:=rfl
  by_cases he:Ba (Q0 (sN L) L.length P t0 i) (P.getD i 0)=(J0 (sN L) L.length (Q0 (sN L) L.length P t0 i) (P.getD i 0):Int)
  ·have hb:((J0 (sN L) L.length (Q0 (sN L) L.length P t0 i) (P.getD i 0):Int)!=(Q0 (sN L) L.length P t0 i).getD (P.getD i 0) 0)=false:=by
    have:(Q0 (sN L) L.length P t0 i).getD (P.getD i 0) 0=_:=he;rw[this];simp
   have hnx:Q0 (sN L) L.length P t0 (i+1)=Q0 (sN L) L.length P t0 i:=set_same hyt he
   have hs:Dk (Ti L) (Oa (r::P)) (b,(i:Int),Q0 (sN L) L.length P t0 i)=some (.next (b,((i+1:Nat):Int),Q0 (sN L) L.length P t0 (i+1))):=by
    unfold Dk;simp only[hdl,hlen,F4 hil,Ah,A1,ofN_getD hil,hpred,hma,Au,hb,A0];rw[An (Kf hil),An (Kf (by rw[Lc];exact hyn)),An (Kf hyt),Au,w1 (by omega),hnx]
   obtain⟨b',e1,e2⟩:=ih (i+1) b (by omega);refine⟨b',by rw[Ar hs,e1],fun h=>?_,fun⟨h1,h2⟩=>e2.2 ⟨h1,fun j hj=>h2 j (by omega)⟩⟩;obtain⟨h1,h2⟩:=e2.1 h;refine⟨h1,fun j hj1 hj2=>?_⟩
   by_cases e:j=i
   ·subst e;exact he
   ·exact h2 j (by omega) hj2
  ·have hb:((J0 (sN L) L.length (Q0 (sN L) L.length P t0 i) (P.getD i 0):Int)!=(Q0 (sN L) L.length P t0 i).getD (P.getD i 0) 0)=true:=by
    rw[Oj];exact fun e=>he e.symm
   have hs:Dk (Ti L) (Oa (r::P)) (b,(i:Int),Q0 (sN L) L.length P t0 i)=some (.next (true,((i+1:Nat):Int),Q0 (sN L) L.length P t0 (i+1))):=by
    unfold Dk;simp only[hdl,hlen,F4 hil,Ah,A1,ofN_getD hil,hpred,hma,Au,hb];rw[An (Kf hil),An (Kf (by rw[Lc];exact hyn)),An (Kf hyt),An (Kf hyt),Au,w1 (by omega)]
    rfl
   obtain⟨b',e1,e2⟩:=ih (i+1) true (by omega);refine⟨b',by rw[Ar hs,e1],fun h=>?_,fun⟨h1,h2⟩=>absurd (h2 i (zzL8 _) hil) he⟩;obtain⟨h1,_⟩:=e2.1 h;cases h1
theorem round_all{t0:List Int}(h:Ready (sN L) r L.length P t0 0):∃ b,Am (Dk (Ti L) (Oa (r::P))) (false,(0:Int),t0)=some (b,Q0 (sN L) L.length P t0 P.length)/\(b=false↔P9 (sN L) L.length P t0):=by
 obtain⟨b,e1,e2⟩:=round_loop hm o h P.length 0 false (by omega);refine⟨b,e1,e2.trans ⟨fun⟨_,h2⟩=>?_,fun hs=>⟨rfl,fun j _ hj=>?_⟩⟩⟩
 ·have key:∀ j,j<=P.length->Q0 (sN L) L.length P t0 j=t0:=by
   intro j
   induction j with
   | zero=>intro _;rfl
   | succ j ih=>
    intro hj;have ih':=ih (by omega);have rd:=h.round o j (by omega)
    have hyn:P.getD j 0<(Q0 (sN L) L.length P t0 j).length:=by rw[rd.len];exact o.lt (Fv _ (Mn (by omega)))
    have:Q0 (sN L) L.length P t0 (j+1)=Q0 (sN L) L.length P t0 j:=set_same hyn (h2 j (L2 _) (by omega));rw[this,ih']
  intro i hi;have:=h2 i (L2 _) hi;rwa[key i (by omega)]at this
 ·rw[Sf o h.len hs j (by omega)];exact hs j hj
open Classical in
theorem tree_F3(j:Nat):Eg (Ti L) (Oa (r::P),Zp (sN L) L.length P (E7 L.length r) j)=some (if P9 (sN L) L.length P (Zp (sN L) L.length P (E7 L.length r) j) then .done (Zp (sN L) L.length P (E7 L.length r) (j+1)) else .next (Oa (r::P),Zp (sN L) L.length P (E7 L.length r) (j+1))):=by
 obtain⟨b,e1,e2⟩:=round_all hm o (Ready.rounds o j);have hL2:Ln (Ti L) (Oa (r::P))=Dk (Ti L) (Oa (r::P)):=rfl
 have hlen:(0:Int)<=1/\(1:Int)<=((Oa (r::P)).length:Int):=by simp[Oa];omega
 unfold Eg;simp only[hL2,e1,Au];rw[An hlen]
 cases b with
 | false=>rw[if_pos (e2.1 rfl)];rfl
 | true=>rw[if_neg (fun h=>by have:=e2.2 h;cases this)];rfl
theorem tree_rounds:∃ J,P9 (sN L) L.length P (Zp (sN L) L.length P (E7 L.length r) J)/\Am (Eg (Ti L)) (Oa (r::P),E7 L.length r)=some (Zp (sN L) L.length P (E7 L.length r) J):=by
 obtain⟨J,h1,h2⟩:=stops o;refine⟨J,h2,?_⟩
 have key:∀ d j,j+d=J->Am (Eg (Ti L)) (Oa (r::P),Zp (sN L) L.length P (E7 L.length r) j)=some (Zp (sN L) L.length P (E7 L.length r) J):=by
  intro d
  induction d with
  | zero=>
   intro j hj
   obtain rfl:j=J:=by omega
   have hF:=tree_F3 hm o j;rw[if_pos h2]at hF;rw[Ao hF];have:Zp (sN L) L.length P (E7 L.length r) (j+1)=Zp (sN L) L.length P (E7 L.length r) j:=Sf o (Ready.rounds o j).len h2 P.length (zzL8 _);rw[this]
  | succ d ih=>
   intro j hj;have hF:=tree_F3 hm o j;rw[if_neg (h1 j (by omega))]at hF;rw[Ar hF];exact ih (j+1) (by omega)
 exact key J 0 (by omega)
end
theorem m_Tree(g:A3)(r:Int)(h1:Fits g.Succ)(h2:Fits g.Pred):J3 g r=some (treeG g r):=by
 unfold treeG
 by_cases hc:Tj g=true/\0<=r/\r<(g.Succ.length:Int)
 ·rw[if_pos hc];obtain⟨hG,h0,hlt⟩:=hc;obtain⟨hm,hg⟩:=mayG_eq hG;obtain⟨hL1,hL64,_⟩:=mayS_iff.1 hm
  have hr:r.toNat<g.Succ.length:=by omega
  have hrn:((r.toNat:Nat):Int)=r:=Sn h0;obtain⟨O,hO⟩:=Ord.exist (T5 hm) hr;have hord:=(m_order g h1 trivial r).1 hG h0 hlt O hO;obtain⟨P,rfl,o⟩:=hO.ordered hr (T5 hm);obtain⟨J,hJ,hl⟩:=tree_rounds hm o;have ht:=(Yp o hJ).eq hm hr o;rw[ht]at hl;have hlen:(((Oa (r.toNat::P)).length:Int)==0)=false:=zzL35.2 (by simp[Oa];omega)
  have hlen2:(0:Int)<=1/\(1:Int)<=((Oa (r.toNat::P)).length:Int):=by simp[Oa];omega
  have hL2:Ln g (Oa (r.toNat::P))=Dk g (Oa (r.toNat::P)):=rfl
  have hst:(Li (Eg g (Oa (r.toNat::P),E7 g.Succ.length r.toNat)) (Eg g))=some (T8 g.Succ r.toNat):=by
   rw[Yn,hg];exact hl
  unfold J3;rw[hord,Au,hlen,A0,m_repeat hL1 hL64,Au,An (inbz h0 (by simpa using hlt)),An hlen2]
  have:(Eg g (Oa (r.toNat::P),E7 g.Succ.length r.toNat))=(Am (Dk g (Oa (r.toNat::P))) (false,0,(List.replicate g.Succ.length (-2:Int)).set r.toNat (-1))).bind (fun x22=>(match x22 with|(b10,l11)=>(bif b10 then(some (.next (Oa (r.toNat::P),l11))) else(some (.done l11))))):=by
   unfold Eg E7;simp only[hL2];rw[An hlen2]
  rw[this]at hst;refine Eq.trans ?_ (Co (fun x:Option (List Int)=>x.bind fun x42=>some x42) hst)
  rfl
 ·rw[if_neg hc];unfold J3
  have:(Tj g&&(decide (0<=r)&&decide (r<(g.Succ.length:Int))))=false:=by
   rw[Bool.eq_false_iff];intro h;rw[A6,A6,F0,F0]at h;exact hc h
  rw[(m_order g h1 trivial r).2 this,Au]
  rfl
theorem allR{α:Type}(l:List α)(d:α)(p:α->Bool){X:Type}(f:Int->Option (LR Int X))(yes no:X)(hl:l.length<9223372036854775808)(hk:∀ i:Nat,i<l.length->f i=some (bif p (l.getD i d) then .next (A9 ((i:Int)+1)) else .done no))
  (he:f l.length=some (.done yes)):Am f (0:Int)=some (bif l.all p then yes else no):=by
 have:=Rq l d p f yes no (fun i hi hp=>by rw[hk i hi,hp,Ah,E0 hi hl]) (fun i hi hp=>by rw[hk i hi,hp,A0]) he l.length 0 (by omega);rwa[N4]at this
theorem c_told(f:TFunc)(hf:InF f)(l:Int)(t:List Int)(u:List Ak):Fh f l t u=some (bif Uu f then 0 else 4,f,l,t,u):=by
 unfold Fh Hb;rw[xmay f hf,Au]
 cases Uu f<;>rfl
theorem c_phisFit(phis:List Gp)(l:List Int)(h1:phis.length<9223372036854775808)(h2:l.length<4611686018427387904):H6 phis l=some (phis.all (Hl l)):=by
 unfold H6
 rw[allR phis (default:Gp) (Hl l) (Gf phis l) (.inl ()) (.inr false) h1 (fun i hi=>by
  unfold Gf
  have hd:decide ((i:Int)<(phis.length:Int))=true:=by simpa using hi
  simp only[hd,Ah,Ai (Ax hi),Dr,Zl _ _ h2,Au,Hl]
  cases decide ((phis.getD i default).From=l) with
  | false=>rfl
  | true=>
   simp only[E9,A0,Ga,bne]
   cases(((phis.getD i default).Args.length:Int)==(l.length:Int))<;>rfl) (by unfold Gf;simp),Au]
 cases phis.all (Hl l)<;>rfl
def argF(e:H3):Bool:=!((e.Kind==1 || e.Kind==3)&&(e.Arg !=0))
theorem c_argFits{n:Nat}(e:H3)(hk:Mc e n=true):Gu e=some (argF e):=by
 have h4:0<=e.Kind/\e.Kind<=3:=by
  have:=(A6 _ _▸hk:kindB e=true/\toB n e.To=true).1;unfold kindB at this;simp only[A6,F0]at this;omega
 unfold Gu argF
 have:e.Kind=0\/e.Kind=1\/e.Kind=2\/e.Kind=3:=by omega
 rcases this with h|h|h|h<;>rw[h]<;>cases hb:(e.Arg==0)<;>simp[hb,bne]
theorem order_full{L:List (List Int)}(hm:J7 L=true){P:List Nat}(h0:0<L.length)(o:Ord (sN L) 0 P):decide (P.length<L.length) = !(List.range L.length).all fun i=>(P0 L).getD i false:=by
 have hin:∀ x∈P,x<L.length:=fun x hx=>(by obtain⟨Q,rfl,oo⟩:=o.ordered h0 (T5 hm);exact oo.lt hx)
 have hr:∀ z,(P0 L).getD z false=true↔z∈P:=fun z=>by
  rw[o.mem z];exact V6 (T5 hm) h0 z
 have hle:=La L.length P o.nodup hin
 cases ha:(List.range L.length).all fun i=>(P0 L).getD i false with
 | true=>
  have:=((List.perm_ext_iff_of_nodup o.nodup List.nodup_range).2 fun i=>⟨fun h=>zzL45.2 (hin i h),fun h=>(hr i).1 (zzL29.1 ha i h)⟩:P.Perm (List.range L.length)).length_eq;rw[zzL131]at this
  simp;omega
 | false=>
  obtain⟨i,hi,hni⟩:∃ i,i<L.length/\i∉P:=zzL102 fun hc=>by
   have:(List.range L.length).all (fun i=>(P0 L).getD i false)=true:=zzL29.2 fun i hi=>(hr i).2 (zzL102 fun hn=>hc ⟨i,by simpa using hi,hn⟩);rw[this]at ha;cases ha
  have:(i::P).length<=L.length:=La L.length (i::P) (zzL93.2 ⟨hni,o.nodup⟩) (fun x hx=>by rcases zzL28.1 hx with rfl|hx;exact hi;exact hin x hx);simp at this ⊢;omega
theorem c_shaped {f : TFunc} (hf : OkF f) (l : Int) (t : List Int) (u : List Ak) : ∃ t', Ej f l t u = some (bif Gk f then 0 else 5, f, l, t', u) ∧ (Gk f = true → t' = C2 f) := by
  have hmax : f.Blocks.length ≤ maxLen := by have := hf.blocks; have : (64 : Nat) ≤ maxLen := by decide
                                             omega
  unfold Ej; rw [m_of f hmax, Au]
  cases hs : Lj f with
  | false => exact ⟨t, by unfold Gk; rw [hs]; rfl, fun h => by unfold Gk at h; rw [hs] at h; cases h⟩
  | true =>
    have hm := O1 hs; have hlen := R8 f
    have hpos : 0 < (C1 f).length := by have := (shape_iff.1 hs).1.1; omega
    obtain ⟨h1, h2⟩ := gOf_fits hm; obtain ⟨P, hP⟩ := Ord.exist (T5 hm) hpos; have ho := (m_order (Ti (C1 f)) h1 trivial 0).1 (mayG_gOf hm) (by omega) (by show (0 : Int) < ((C1 f).length : Int); omega) P hP; have hfull := order_full hm hpos hP; simp only [Ah, show (((0 : Int) != 0) == false) = true from rfl, show ((0 : Int) != 0) = false from rfl, A0, ho, Au, show (false == false) = true from rfl]
    have e1 : decide (((Oa P).length : Int) < (f.Blocks.length : Int)) = decide (P.length < (C1 f).length) := by
      rw [hlen]; apply zzL107.2; simp [Oa]
    rw [e1, hfull]
    have hsd : Gk f = (((List.range f.Blocks.length).all fun i => (P0 (C1 f)).getD i false) && (List.range f.Blocks.length).all fun i => argF (f.Blocks.getD i default).End && (f.Blocks.getD i default).Phis.all (Hl ((Db (C1 f)).getD i []))) := by
      unfold Gk; rw [hs, Ga]
      have : ∀ (n : Nat) (p q : Nat → Bool), ((List.range n).all fun i => p i && q i) = ((List.range n).all p && (List.range n).all q) := fun n p q => by
        rw [Ky, A6, zzL29, zzL29, zzL29]
        constructor
        · intro h; exact ⟨fun x hx => ((A6 _ _).mp (h x hx)).1, fun x hx => ((A6 _ _).mp (h x hx)).2⟩
        · intro h x hx; rw [A6]; exact ⟨h.1 x hx, h.2 x hx⟩
      rw [← this]
      congr 1
      funext i
      show (_ && _ && _) = _
      rw [Bool.and_assoc]
      rfl
    rw [hlen]; rw [hsd]
    cases hr : (List.range f.Blocks.length).all fun i => (P0 (C1 f)).getD i false with
    | false => exact ⟨t, rfl, fun h => by cases h⟩
    | true =>
      refine ⟨C2 f, ?_, fun _ => rfl⟩; rw [E9, A0, m_Tree _ 0 h1 h2, Au, Ga]; have hp := Pz hm
      have hpl : (Ti (C1 f)).Pred.length = f.Blocks.length := by rw [← hlen]; exact Lc _
      have key : Am (B2 f l u (Ti (C1 f), 0) (C2 f)) (0 : Int) = some (bif (List.range f.Blocks.length).all (fun i => argF (f.Blocks.getD i default).End && (f.Blocks.getD i default).Phis.all (Hl ((Db (C1 f)).getD i []))) then .inl () else .inr ((5 : Int), f, l, C2 f, u)) := by
        have hk : ∀ i : Nat, i < f.Blocks.length → B2 f l u (Ti (C1 f), 0) (C2 f) (i : Int) = some (bif (argF (f.Blocks.getD i default).End && (f.Blocks.getD i default).Phis.all (Hl ((Db (C1 f)).getD i []))) then .next ((i : Int) + 1) else .done (.inr ((5 : Int), f, l, C2 f, u))) := fun i hi => by
          have hB := hf.block _ (A5 (d := (default : Ac)) hi); have hpi : Bd (i : Int) (Ti (C1 f)).Pred.length := Ax (by omega); have hpg : ((Ti (C1 f)).Pred.getD i []).length ≤ 64 := hp.2 _ (A5 (by rw [Lc]; omega)); unfold B2
          have hd : decide ((i : Int) < (f.Blocks.length : Int)) = true := by simpa using hi
          simp only [hd, Ah, Ai (Ax hi), Ai hpi, Dr, c_phisFit (f.Blocks.getD i default).Phis ((Ti (C1 f)).Pred.getD i []) (by have := hB.phis; omega) (by omega), Au]; have ha : Gu (⟨(f.Blocks.getD i default).End.Kind, (f.Blocks.getD i default).End.Arg, (f.Blocks.getD i default).End.To⟩ : H3) = some (argF (f.Blocks.getD i default).End) := c_argFits (n := f.Blocks.length) (f.Blocks.getD i default).End ((shape_iff.1 hs).2 i hi); rw [ha, E0 hi (by have := hf.blocks; omega)]
          show _ = some (bif (argF (f.Blocks.getD i default).End && (f.Blocks.getD i default).Phis.all (Hl ((Ti (C1 f)).Pred.getD i []))) then _ else _)
          cases (f.Blocks.getD i default).Phis.all (Hl ((Ti (C1 f)).Pred.getD i [])) <;> cases argF (f.Blocks.getD i default).End <;> rfl
        exact loop_allN _ _ _ _ _ (fun i hi hp => by rw [hk i hi, hp]; rfl) (fun i hi hp => by rw [hk i hi, hp]; rfl) (by unfold B2; simp)
      show ((Am (B2 f l u (Ti (C1 f), 0) (C2 f)) (0 : Int)).bind _) = _
      rw [key, Au]
      cases (List.range f.Blocks.length).all (fun i => argF (f.Blocks.getD i default).End && (f.Blocks.getD i default).Phis.all (Hl ((Db (C1 f)).getD i []))) <;> rfl
theorem c_isOf(o:Ef)(l:Int)(h0:0<=l)(h2:l<=2)(hk:K2 o=true):Km o l=some (!decide (levMost l<o.Kind)&&!(decide (l<2)&&decide (1<o.Lanes))):=by
 have hl:=lanes_of hk
 have hK:o.Kind<=22:=by
  simp only[K2,A6]at hk;have:=hk.1.2.1.1.1;unfold isK at this;simp only[A6,F0]at this;omega
 unfold Km levMost
 have:l=0\/l=1\/l=2:=by omega
 rcases this with rfl|rfl|rfl
 ·have ha:decide (o.Kind<=17) = !decide (17<o.Kind):=by rw[Ky];simp
  have hb:(o.Lanes==1) = !decide (1<o.Lanes):=by rw[Ky];simp;omega
  show some (bif decide (o.Kind<=17) then(o.Lanes==1) else false)=some (!decide (17<o.Kind)&&!(true&&decide (1<o.Lanes)))
  rw[ha,hb]
  cases decide (17<o.Kind)<;>cases decide (1<o.Lanes)<;>rfl
 ·have ha:decide (o.Kind<=20) = !decide (20<o.Kind):=by rw[Ky];simp
  have hb:(o.Lanes==1) = !decide (1<o.Lanes):=by rw[Ky];simp;omega
  show some (bif decide (o.Kind<=20) then(o.Lanes==1) else false)=some (!decide (20<o.Kind)&&!(true&&decide (1<o.Lanes)))
  rw[ha,hb]
  cases decide (20<o.Kind)<;>cases decide (1<o.Lanes)<;>rfl
 ·show some true=some (!decide (22<o.Kind)&&!(false&&decide (1<o.Lanes)))
  rw[E8 (by omega)]
  rfl
theorem c_opTyped(o:Ef)(ho:OpOk o)(f:TFunc)(l:Int)(h0:0<=l)(h2:l<=2)(t:List Int)(u:List Ak):Ea o f l t u=some (Py l o,f,l,t,u):=by
 unfold Ea Py;rw[Aaq o ho,Au]
 cases hk:K2 o with
 | false=>rfl
 | true=>
  rw[show(true==true)=true from rfl,Ah,c_isOf o l h0 h2 hk,Au,Ah,Ga]
theorem c_allOp(b:Ac){f:TFunc}(hf:OkF f)(hb:b∈f.Blocks)(l:Int)(h0:0<=l)(h2:l<=2)(t:List Int)(u:List Ak):Gd b.Ops f l t u=some (b.Ops.all (Py l),f,l,t,u):=by
 have hB:=hf.block b hb
 have key:∀ k i:Nat,i+k=b.Ops.length->Am (Dx b.Ops) ((i:Int),f.Params,f.Ret,f.Blocks,l,t,u)=some (bif (b.Ops.drop i).all (Py l) then .inl (f.Params,f.Ret,f.Blocks,l,t,u) else .inr (false,f,l,t,u)):=by
  intro k
  induction k with
  | zero=>
   intro i h
   obtain rfl:i=b.Ops.length:=by omega
   rw[Ao (x:=.inl (f.Params,f.Ret,f.Blocks,l,t,u)) (by unfold Dx;simp)]
   simp
  | succ k ih=>
   intro i h
   have hi:i<b.Ops.length:=by omega
   have hd:decide ((i:Int)<(b.Ops.length:Int))=true:=by simpa using hi
   have hdr:b.Ops.drop i=b.Ops.getD i default::b.Ops.drop (i+1):=by rw[T9 hi,Af _ _ _ hi]
   have hx:=c_opTyped (b.Ops.getD i default) (opOk hf hb (A5 hi)) f l h0 h2 t u;rw[hdr,Qn]
   cases ho:Py l (b.Ops.getD i default) with
   | true=>
    rw[ho]at hx
    rw[Ar (s':=(((i+1:Nat):Int),f.Params,f.Ret,f.Blocks,l,t,u)) (by
     unfold Dx;simp only[hd,Ah,Ai (Ax hi),Dr,hx,Au,E9,A0,E0 hi (by have:=hB.ops;omega)]
     rfl),ih (i+1) (by omega),Ga]
   | false=>
    rw[ho]at hx
    rw[Ao (x:=.inr (false,f,l,t,u)) (by
     unfold Dx
     simp only[hd,Ah,Ai (Ax hi),Dr,hx,Au,L1])]
    rfl
 unfold Gd;rw[show(0:Int)=((0:Nat):Int) from rfl,key b.Ops.length 0 (by omega),N4,Au]
 cases b.Ops.all (Py l)<;>rfl
theorem c_allPhi(b:Ac)(h:b.Phis.length<9223372036854775808):Fz b.Phis=some (b.Phis.all fun p=>El p.Bits):=by
 unfold Fz
 rw[allR b.Phis (default:Gp) (fun p=>El p.Bits) (Ei b.Phis) (.inl ()) (.inr false) h (fun i hi=>by
  unfold Ei I7
  have hd:decide ((i:Int)<(b.Phis.length:Int))=true:=by simpa using hi
  simp only[hd,Ah,Ai (Ax hi),Dr,O5,Au]
  cases El (b.Phis.getD i default).Bits<;>rfl) (by unfold Ei;simp),Au]
 cases b.Phis.all fun p=>El p.Bits<;>rfl
theorem c_allInt(p:List Int)(h:p.length<9223372036854775808):H5 p=some (p.all El):=by
 unfold H5
 rw[allR p (0:Int) El (Ge p) (.inl ()) (.inr false) h (fun i hi=>by
  unfold Ge
  have hd:decide ((i:Int)<(p.length:Int))=true:=by simpa using hi
  simp only[hd,Ah,Ai (Ax hi),Dr,O5,Au]
  cases El (p.getD i 0)<;>rfl) (by unfold Ge;simp),Au]
 cases p.all El<;>rfl
theorem c_blockTyped(b:Ac){f:TFunc}(hf:OkF f)(hb:b∈f.Blocks)(l:Int)(h0:0<=l)(h2:l<=2)(t:List Int)(u:List Ak):Dg b f l t u=some (Ik l b,f,l,t,u):=by
 unfold Dg Ik;rw[c_allPhi b (by have:=(hf.block b hb).phis;omega),Au,c_allOp b hf hb l h0 h2 t u]
 cases(b.Phis.all fun p=>El p.Bits)<;>rfl
theorem c_typed{f:TFunc}(hf:OkF f)(l:Int)(h0:0<=l)(h2:l<=2)(t:List Int)(u:List Ak):Ew f l t u=some (bif Xn f l then 0 else 6,f,l,t,u):=by
 have key:∀ k i:Nat,i+k=f.Blocks.length->Am (C3 f.Blocks) ((i:Int),f.Params,f.Ret,f.Blocks,l,t,u)=some (bif (f.Blocks.drop i).all (Ik l) then .inl (f.Params,f.Ret,f.Blocks,l,t,u) else .inr (false,f,l,t,u)):=by
  intro k
  induction k with
  | zero=>
   intro i h
   obtain rfl:i=f.Blocks.length:=by omega
   rw[Ao (x:=.inl (f.Params,f.Ret,f.Blocks,l,t,u)) (by unfold C3;simp)]
   simp
  | succ k ih=>
   intro i h
   have hi:i<f.Blocks.length:=by omega
   have hd:decide ((i:Int)<(f.Blocks.length:Int))=true:=by simpa using hi
   have hdr:f.Blocks.drop i=f.Blocks.getD i default::f.Blocks.drop (i+1):=by rw[T9 hi,Af _ _ _ hi]
   have hx:=c_blockTyped (f.Blocks.getD i default) hf (A5 hi) l h0 h2 t u;rw[hdr,Qn]
   cases ho:Ik l (f.Blocks.getD i default) with
   | true=>
    rw[ho]at hx
    rw[Ar (s':=(((i+1:Nat):Int),f.Params,f.Ret,f.Blocks,l,t,u)) (by
     unfold C3;simp only[hd,Ah,Ai (Ax hi),Dr,hx,Au,E9,A0,E0 hi (by have:=hf.blocks;omega)]
     rfl),ih (i+1) (by omega),Ga]
   | false=>
    rw[ho]at hx
    rw[Ao (x:=.inr (false,f,l,t,u)) (by
     unfold C3
     simp only[hd,Ah,Ai (Ax hi),Dr,hx,Au,L1])]
    rfl
 have hall:Eu f.Blocks f l t u=some (f.Blocks.all (Ik l),f,l,t,u):=by
  unfold Eu;rw[show(0:Int)=((0:Nat):Int) from rfl,key f.Blocks.length 0 (by omega),N4,Au]
  cases f.Blocks.all (Ik l)<;>rfl
 unfold Ew Xn Hb;rw[c_allInt _ (by have:=hf.few;omega),Au,hall,O5]
 cases f.Params.all El<;>cases El f.Ret<;>cases f.Blocks.all (Ik l)<;>rfl
def atD(d:I4):F2:=bif decide (d.Block<0) then⟨0,-1⟩ else⟨d.Block,d.At⟩
def valD(d:I4):Ad:=⟨d.Shape,atD d⟩
def dv(l:List I4):List (Int×Ad):=l.map fun d=>(d.V,valD d)
def badD(acc:List (Int×Ad))(v:Int):Bool:=(D3 acc v || decide (v<1)) || decide (1023<v)
def Gq:List (Int×Ad)->List I4->Bool×List (Int×Ad)
 | acc,[]=>(true,acc)
 | acc,d::ds=>bif badD acc d.V then(false,acc) else Gq (It acc d.V (valD d)) ds
theorem Ws:∀(a b:List I4) (acc:List (Int×Ad)),Gq acc (a++b)=bif (Gq acc a).1 then Gq (Gq acc a).2 b else Gq acc a
 | [],b,acc=>rfl
 | d::a,b,acc=>by
  rw[Wi];simp only[Gq]
  cases badD acc d.V with
  | true=>rfl
  | false=>simp only[A0];exact Ws a b _
theorem Aa3{V:Type}(k:Int):∀ l:List (Int×V),D3 l k=l.any fun q=>k==q.1
 | []=>rfl
 | (a,b)::l=>by rw[List.any_cons,<- Aa3 k l];rfl
theorem W7{V:Type}(k:Int)(v:V):∀{l:List (Int×V)},D3 l k=false->It l k v=l++[(k,v)]
 | [],_=>rfl
 | (a,b)::l,h=>by
  simp only[D3,zzL117]at h;simp only[It,h.1,A0,W7 k v h.2,Wi]
theorem c_define(v:Int)(s:Int×Int)(p:F2)(f:TFunc)(l:Int)(t:List Int)(vs:List (Int×Ad))(u:List Ak) :
  Dm v s p f l t vs u=some (bif badD vs v then(false,f,l,t,u,vs) else(true,f,l,t,u,It vs v ⟨s,p⟩)):=by
 unfold Dm badD
 cases D3 vs v<;>cases decide (v<1)<;>cases decide (1023<v)<;>rfl
def resD(f:TFunc)(l:Int)(t:List Int)(u:List Ak)(r:Bool×List (Int×Ad)):(List Int×Int×List Ac×Int×List Int×List Ak×List (Int×Ad)) ⊕ (Bool×TFunc×Int×List Int×List Ak×List (Int×Ad)):=
 bif r.1 then .inl (f.Params,f.Ret,f.Blocks,l,t,u,r.2) else .inr (false,f,l,t,u,r.2)
theorem c_phis(b:Ac)(h:b.Phis.length<9223372036854775808)(i:Nat)(f:TFunc)(l:Int)(t:List Int)(u:List Ak):∀(k j:Nat) (vs:List (Int×Ad)),j+k=b.Phis.length->
  Am (B3 (i:Int) b) ((j:Int),f.Params,f.Ret,f.Blocks,l,t,u,vs)=some (resD f l t u (Gq vs ((List.range' j k).flatMap fun(k:Nat)=>[(⟨(b.Phis.getD k default).Dst,i,-1,((b.Phis.getD k default).Bits,1)⟩:I4)]))):=by
 intro k
 induction k with
 | zero=>
  intro j vs hj
  obtain rfl:j=b.Phis.length:=by omega
  rw[Ao (x:=.inl (f.Params,f.Ret,f.Blocks,l,t,u,vs)) (by unfold B3;simp)]
  rfl
 | succ k ih=>
  intro j vs hj
  have hi:j<b.Phis.length:=by omega
  have hd:decide ((j:Int)<(b.Phis.length:Int))=true:=by simpa using hi
  have hx:=c_define (b.Phis.getD j default).Dst ((b.Phis.getD j default).Bits,1) (⟨(i:Int),-1⟩:F2) f l t vs u
  have hat:atD (⟨(b.Phis.getD j default).Dst,i,-1,((b.Phis.getD j default).Bits,1)⟩:I4)=⟨(i:Int),-1⟩:=by unfold atD;rw[E8 (by show ¬ (i:Int)<0;omega)];rfl
  rw[So,Yv,List.singleton_append];simp only[Gq]
  cases hb:badD vs (b.Phis.getD j default).Dst with
  | true=>
   rw[hb]at hx
   rw[Ao (x:=.inr (false,f,l,t,u,vs)) (by
    unfold B3 C0;simp only[hd,Ah,Ai (Ax hi),Dr,Au];rw[show(⟨f.Params,f.Ret,f.Blocks⟩:TFunc)=f from rfl,hx]
    rfl)]
   rfl
  | false=>
   rw[hb]at hx
   rw[Ar (s':=(((j+1:Nat):Int),f.Params,f.Ret,f.Blocks,l,t,u,It vs (b.Phis.getD j default).Dst ⟨((b.Phis.getD j default).Bits,1),⟨(i:Int),-1⟩⟩)) (by
    unfold B3 C0;simp only[hd,Ah,Ai (Ax hi),Dr,Au];rw[show(⟨f.Params,f.Ret,f.Blocks⟩:TFunc)=f from rfl,hx,E0 hi h]
    rfl),ih (j+1) _ (by omega)]
   unfold valD;rw[hat]
   rfl
theorem c_ops{f0:TFunc}(hf:OkF f0){b:Ac}(hb:b∈f0.Blocks)(i:Nat)(f:TFunc)(l:Int)(t:List Int)(u:List Ak):∀(k j:Nat) (vs:List (Int×Ad)),j+k=b.Ops.length->
  Am (Bl (i:Int) b) ((j:Int),f.Params,f.Ret,f.Blocks,l,t,u,vs)=some (resD f l t u (Gq vs ((List.range' j k).flatMap fun(k:Nat)=>bif decide (0<(L5 (b.Ops.getD k default)).1) then[(⟨(b.Ops.getD k default).Dst,i,k,L5 (b.Ops.getD k default)⟩:I4)] else[]))):=by
 have hB:=hf.block b hb;intro k
 induction k with
 | zero=>
  intro j vs hj
  obtain rfl:j=b.Ops.length:=by omega
  rw[Ao (x:=.inl (f.Params,f.Ret,f.Blocks,l,t,u,vs)) (by unfold Bl;simp)]
  rfl
 | succ k ih=>
  intro j vs hj
  have hi:j<b.Ops.length:=by omega
  have hd:decide ((j:Int)<(b.Ops.length:Int))=true:=by simpa using hi
  have hg:I8 (b.Ops.getD j default)=some (L5 (b.Ops.getD j default)):=kind_Gives _ (opOk hf hb (A5 hi));have hx:=c_define (b.Ops.getD j default).Dst (L5 (b.Ops.getD j default)) (⟨(i:Int),(j:Int)⟩:F2) f l t vs u
  have hat:atD (⟨(b.Ops.getD j default).Dst,i,j,L5 (b.Ops.getD j default)⟩:I4)=⟨(i:Int),(j:Int)⟩:=by unfold atD;rw[E8 (by show ¬ (i:Int)<0;omega)];rfl
  rw[So,Yv]
  cases hp:decide (0<(L5 (b.Ops.getD j default)).1) with
  | false=>
   rw[A0,Qm,<- ih (j+1) vs (by omega),Ar (s':=(((j+1:Nat):Int),f.Params,f.Ret,f.Blocks,l,t,u,vs)) (by
    unfold Bl;simp only[hd,Ah,Ai (Ax hi),Dr,hg,Au,hp];rw[E0 hi (by have:=hB.ops;omega)]
    rfl)]
  | true=>
   rw[Ah,List.singleton_append];simp only[Gq]
   cases hb:badD vs (b.Ops.getD j default).Dst with
   | true=>
    rw[hb]at hx
    rw[Ao (x:=.inr (false,f,l,t,u,vs)) (by
     unfold Bl;simp only[hd,Ah,Ai (Ax hi),Dr,hg,Au,hp];rw[show(true==true)=true from rfl,Ah,show(⟨f.Params,f.Ret,f.Blocks⟩:TFunc)=f from rfl,hx]
     rfl)]
    rfl
   | false=>
    rw[hb]at hx
    rw[Ar (s':=(((j+1:Nat):Int),f.Params,f.Ret,f.Blocks,l,t,u,It vs (b.Ops.getD j default).Dst ⟨L5 (b.Ops.getD j default),⟨(i:Int),(j:Int)⟩⟩)) (by
     unfold Bl;simp only[hd,Ah,Ai (Ax hi),Dr,hg,Au,hp];rw[show(true==true)=true from rfl,Ah,show(⟨f.Params,f.Ret,f.Blocks⟩:TFunc)=f from rfl,hx,E0 hi (by have:=hB.ops;omega)]
     rfl),ih (j+1) _ (by omega)]
    unfold valD;rw[hat]
    rfl
theorem c_defineAll{f:TFunc}(hf:OkF f){b:Ac}(hb:b∈f.Blocks)(i:Nat)(l:Int)(t:List Int)(u:List Ak)(vs:List (Int×Ad)) :
  Dq (i:Int) b f l t vs u=some ((Gq vs (Mb b i)).1,f,l,t,u,(Gq vs (Mb b i)).2):=by
 unfold Dq Mb;rw[show(0:Int)=((0:Nat):Int) from rfl,c_phis b (by have:=(hf.block b hb).phis;omega) i f l t u b.Phis.length 0 vs (by omega),Au,Ws];rw[show(List.range' 0 b.Phis.length).flatMap (fun(k:Nat)=>[(⟨(b.Phis.getD k default).Dst,i,-1,((b.Phis.getD k default).Bits,1)⟩:I4)])=Vi b i by rw[Vi,Wg]];unfold resD
 cases h1:(Gq vs (Vi b i)).1 with
 | false=>simp only[A0];rw[h1]
 | true=>
  simp only[Ah];rw[c_ops hf hb i f l t u b.Ops.length 0 _ (by omega),Au];rw[show(List.range' 0 b.Ops.length).flatMap (fun(k:Nat)=>bif decide (0<(L5 (b.Ops.getD k default)).1) then[(⟨(b.Ops.getD k default).Dst,i,k,L5 (b.Ops.getD k default)⟩:I4)] else[])=defsOp b i by rw[defsOp,Wg]];unfold resD;cases h2:(Gq (Gq vs (Vi b i)).2 (defsOp b i)).1<;>rfl
theorem okDef_iff{l:List I4}{i:Nat}(hi:i<l.length):M3 l i=true↔valS (l.getD i default).V=true/\∀ j,j<i->(l.getD j default).V≠(l.getD i default).V:=by
 unfold M3;rw[A6];refine and_congr Iff.rfl ?_;unfold Kk
 cases hx:l.findIdx? (fun d=>d.V==(l.getD i default).V) with
 | none=>
  rw[List.findIdx?_eq_none_iff]at hx;have:=hx _ (A5 (d:=default) hi);simp at this
 | some j=>
  obtain⟨hj,h1,h2⟩:=List.findIdx?_eq_some_iff_getElem.1 hx;simp only[zzL68,Int.natCast_inj]
  constructor
  ·rintro rfl k hk he;have:=h2 k hk;rw[Af _ _ _ (by omega:k<l.length)]at he;simp at this;exact this he
  ·intro h
   have hv:(l.getD j default).V=(l.getD i default).V:=by rw[Af _ _ _ hj];simpa using h1
   rcases Nat.lt_trichotomy j i with hlt|rfl|hgt
   ·exact absurd hv (h j hlt)
   ·rfl
   ·have:=h2 i hgt;rw[<- Af l i default hi]at this;simp at this
theorem mhas_dv(l:List I4)(v:Int):D3 (dv l) v=l.any fun d=>v==d.V:=by
 rw[Aa3,dv,List.any_map];rfl
theorem Aad:∀(ds pre:List I4),(Gq (dv pre) ds).1=(List.range' pre.length ds.length).all (M3 (pre++ds))/\((Gq (dv pre) ds).1=true->(Gq (dv pre) ds).2=dv (pre++ds))
 | [],pre=>by simp[Gq]
 | d::ds,pre=>by
  have hi:pre.length<(pre++d::ds).length:=by simp
  have hg:(pre++d::ds).getD pre.length default=d:=by simp[List.getD]
  have hj:∀ j,j<pre.length->(pre++d::ds).getD j default=pre.getD j default:=fun j h=>by simp[List.getD,K3 h]
  have hok:M3 (pre++d::ds) pre.length = !badD (dv pre) d.V:=by
   rw[Ky,okDef_iff hi,hg];unfold badD valS;rw[mhas_dv];simp only[Ni,zzL117,zzL127,List.any_eq_false,zzL68,A6,F0]
   constructor
   ·rintro⟨⟨h1,h2⟩,h3⟩;refine⟨⟨fun x hx he=>?_,by omega⟩,by omega⟩;obtain⟨j,hjl,rfl⟩:=Nh hx;have:=h3 j hjl;rw[hj j hjl,Af _ _ _ hjl]at this;exact this he.symm
   ·rintro⟨⟨h1,h2⟩,h3⟩;refine⟨⟨by omega,by omega⟩,fun j hjl he=>?_⟩;rw[hj j hjl,Af _ _ _ hjl]at he;exact h1 _ (Sp hjl) he.symm
  rw[Sq,So,Qn,hok];simp only[Gq]
  cases hb:badD (dv pre) d.V with
  | true=>exact⟨rfl,fun h=>by cases h⟩
  | false=>
   have hn:D3 (dv pre) d.V=false:=by
    unfold badD at hb;simp only[zzL117]at hb;exact hb.1.1
   have hs:It (dv pre) d.V (valD d)=dv (pre++[d]):=by rw[W7 _ _ hn,dv,dv,U5];rfl
   have:=Aad ds (pre++[d]);rw[Eo,Xs,List.singleton_append]at this;rw[A0,hs,L1,Ga];exact this
def pv(f:TFunc)(n:Nat):List (Int×Ad):=(List.range n).map fun(j:Nat)=>((j:Int)+1,⟨(f.Params.getD j 0,1),⟨0,-1⟩⟩)
theorem pv_dv(f:TFunc):pv f f.Params.length=dv (Lp f):=by
 unfold pv dv Lp;rw[List.map_flatMap]
 induction List.range f.Params.length with
 | nil=>rfl
 | cons a l ih=>rw[Bq,Yv,ih];rfl
theorem c_params{f:TFunc}(hf:OkF f):∀(k i:Nat),i+k=f.Params.length->Am (Dh f) ((i:Int),pv f i)=some (pv f f.Params.length):=by
 intro k
 induction k with
 | zero=>
  intro i h
  obtain rfl:i=f.Params.length:=by omega
  exact Ao (by unfold Dh;simp)
 | succ k ih=>
  intro i h
  have hi:i<f.Params.length:=by omega
  have hd:decide ((i:Int)<(f.Params.length:Int))=true:=by simpa using hi
  have hn:D3 (pv f i) ((i:Int)+1)=false:=by
   rw[Aa3,pv,List.any_map,List.any_eq_false];intro j hj;have:=zzL45.1 hj
   simp;omega
  have hs:It (pv f i) ((i:Int)+1) ⟨(f.Params.getD i 0,1),⟨0,-1⟩⟩=pv f (i+1):=by
   rw[W7 _ _ hn,pv,pv,U6,U5];rfl
  rw[Ar (s':=(((i+1:Nat):Int),pv f (i+1))) (by
   unfold Dh C0;simp only[hd,Ah,Ai (Ax hi),Dr,Au,E0 hi (by have:=hf.few;omega),hs]
   rfl)]
  exact ih (i+1) (by omega)
theorem c_blocks{f:TFunc}(hf:OkF f)(l:Int)(t:List Int)(u:List Ak):∀(k i:Nat) (vs:List (Int×Ad)),i+k=f.Blocks.length->
  Am (Ci f) ((i:Int),vs,f.Params,f.Ret,f.Blocks,l,t,u)=some (bif (Gq vs ((List.range' i k).flatMap fun i=>Mb (f.Blocks.getD i default) i)).1 then .inl ((Gq vs ((List.range' i k).flatMap fun i=>Mb (f.Blocks.getD i default) i)).2,f.Params,f.Ret,f.Blocks,l,t,u) else
   .inr (7,f,l,t,u,(Gq vs ((List.range' i k).flatMap fun i=>Mb (f.Blocks.getD i default) i)).2)):=by
 intro k
 induction k with
 | zero=>
  intro i vs h
  obtain rfl:i=f.Blocks.length:=by omega
  rw[Ao (x:=.inl (vs,f.Params,f.Ret,f.Blocks,l,t,u)) (by unfold Ci;simp)]
  rfl
 | succ k ih=>
  intro i vs h
  have hi:i<f.Blocks.length:=by omega
  have hd:decide ((i:Int)<(f.Blocks.length:Int))=true:=by simpa using hi
  have hx:=c_defineAll hf (A5 (d:=default) hi) i l t u vs;rw[So,Yv,Ws]
  cases hb:(Gq vs (Mb (f.Blocks.getD i default) i)).1 with
  | false=>
   rw[hb]at hx
   rw[Ao (x:=.inr (7,f,l,t,u,(Gq vs (Mb (f.Blocks.getD i default) i)).2)) (by
    unfold Ci;simp only[hd,Ah,Ai (Ax hi),Dr];rw[show(⟨f.Params,f.Ret,f.Blocks⟩:TFunc)=f from rfl,hx]
    rfl),A0,hb]
   rfl
  | true=>
   rw[hb]at hx
   rw[Ar (s':=(((i+1:Nat):Int),(Gq vs (Mb (f.Blocks.getD i default) i)).2,f.Params,f.Ret,f.Blocks,l,t,u)) (by
    unfold Ci;simp only[hd,Ah,Ai (Ax hi),Dr];rw[show(⟨f.Params,f.Ret,f.Blocks⟩:TFunc)=f from rfl,hx,E0 hi (by have:=hf.blocks;omega)]
    rfl),ih (i+1) _ (by omega),Ah]
theorem okP{f:TFunc}(hf:OkF f):∀ i,i<f.Params.length->M3 (Bv f) i=true:=fun i hi=>by
 have hl:=defsP_len f
 have hg:∀ j,j<f.Params.length->(Bv f).getD j default=⟨(j:Int)+1,-1,0,(f.Params.getD j 0,1)⟩:=fun j hj=>by
  have e:Lp f=(List.range f.Params.length).map fun(i:Nat)=>(⟨(i:Int)+1,-1,0,(f.Params.getD i 0,1)⟩:I4):=by
   unfold Lp
   induction List.range f.Params.length with
   | nil=>rfl
   | cons a l ih=>rw[Bq,Yv,ih];rfl
  rw[Bv,List.getD,K3 (by omega),e];simp[hj]
 have hle:i<(Bv f).length:=by rw[Bv,Eo];omega
 rw[okDef_iff hle,hg i hi];refine⟨?_,fun j hj=>?_⟩
 ·have:=hf.few;simp only[valS,A6,F0];omega
 ·rw[hg j (by omega)];simp only;omega
theorem c_defined{f:TFunc}(hf:OkF f)(l:Int)(t:List Int)(u:List Ak):∃ vs,D8 f l t u=some (bif (List.range (Bv f).length).all (M3 (Bv f)) then 0 else 7,f,l,t,u,vs)/\((List.range (Bv f).length).all (M3 (Bv f))=true->vs=dv (Bv f)):=by
 have hsp:=Aad ((List.range f.Blocks.length).flatMap fun i=>Mb (f.Blocks.getD i default) i) (Lp f)
 have hall:(List.range (Bv f).length).all (M3 (Bv f))=(Gq (dv (Lp f)) ((List.range f.Blocks.length).flatMap fun i=>Mb (f.Blocks.getD i default) i)).1:=by
  rw[hsp.1]
  show(List.range (Bv f).length).all (M3 (Bv f))=(List.range' (Lp f).length _).all (M3 (Bv f))
  have hs:List.range (Bv f).length=List.range (Lp f).length++List.range' (Lp f).length ((List.range f.Blocks.length).flatMap fun i=>Mb (f.Blocks.getD i default) i).length:=by
   rw[Wg,Wg,Bv,Eo];have:=List.range'_append_1 (s:=0) (m:=(Lp f).length) (n:=((List.range f.Blocks.length).flatMap fun i=>Mb (f.Blocks.getD i default) i).length);rw[Fn]at this;exact this.symm
  rw[hs,List.all_append];have:(List.range (Lp f).length).all (M3 (Bv f))=true:=zzL29.2 fun i hi=>okP hf i (by rw[<- defsP_len f];exact zzL45.1 hi);rw[this,Ga]
 unfold D8;have hp:=c_params hf f.Params.length 0 (by omega);have e0:pv f 0=[]:=rfl;rw[e0,show(((0:Nat):Int))=0 from rfl]at hp;rw[hp,Au,pv_dv];have hb:=c_blocks hf l t u f.Blocks.length 0 (dv (Lp f)) (by omega);rw[show(((0:Nat):Int))=0 from rfl,<- Wg]at hb;rw[hb,Au,hall];refine⟨(Gq (dv (Lp f)) ((List.range f.Blocks.length).flatMap fun i=>Mb (f.Blocks.getD i default) i)).2,?_,hsp.2⟩
 cases(Gq (dv (Lp f)) ((List.range f.Blocks.length).flatMap fun i=>Mb (f.Blocks.getD i default) i)).1<;>rfl
theorem S6{β S X:Type}(B:Nat)(mk:Int->List β->S)(out:List β->X)(n:Nat)(E:Nat->List β)(f:S->Option (LR S X))(hn:∀(acc:List β) (i:Nat),i<n->(acc++E i).length<=B->f (mk i acc)=some (.next (mk ((i:Int)+1) (acc++E i))))
  (hd:∀ acc:List β,f (mk n acc)=some (.done (out acc))):∀(k i:Nat) (acc:List β),i+k=n->(acc++(List.range' i k).flatMap E).length<=B->Am f (mk i acc)=some (out (acc++(List.range' i k).flatMap E))
 | 0,i,acc,h,_=>by
  obtain rfl:i=n:=by omega
  rw[Ao (hd acc)]
  simp
 | k+1,i,acc,h,hB=>by
  have hi:i<n:=by omega
  rw[So,Yv,<- Xs]at hB ⊢;rw[Ar (hn acc i hi (by rw[Eo]at hB;omega)),show((i:Int)+1)=((i+1:Nat):Int) by omega,S6 B mk out n E f hn hd k (i+1) _ (by omega) hB]
theorem map_sing{β γ:Type}(h:β->γ)(n:Nat)(g:Nat->β):(List.range' 0 n).flatMap (fun j=>[h (g j)])=((List.range n).flatMap fun j=>[g j]).map h:=by
 rw[List.map_flatMap,Wg];rfl
theorem Aa1{β γ:Type}(h:β->γ)(n:Nat)(g:Nat->List β):(List.range' 0 n).flatMap (fun j=>(g j).map h)=((List.range n).flatMap g).map h:=by
 rw[List.map_flatMap,Wg]
def Kt(f:TFunc)(b:Int):Int:=((f.Blocks.getD b.toNat default).Ops.length:Int)
def D5(f:TFunc)(u:Oq):Ak:=⟨u.V,u.Shape,⟨u.Block,bif u.At==1000 then Kt f u.Block else u.At⟩⟩
theorem c_use(f:TFunc)(l:Int)(t:List Int)(vs:List (Int×Ad))(v:Int)(s:Int×Int)(p:F2)(u:List Ak)(h:(u++[(⟨v,s,p⟩:Ak)]).length<=10000000):C7 v s p f l t vs u=some (f,l,t,u++[⟨v,s,p⟩]):=by
 unfold C7;rw[An (by rw[Eo]at h;rw[room_is];omega)]
theorem c_end(f:TFunc)(l:Int)(t:List Int)(vs:List (Int×Ad))(b:Int)(hb:Bd b f.Blocks.length)(u:List Ak):Dt b f l t vs u=some (⟨b,Kt f b⟩,f,l,t,u):=by
 unfold Dt;rw[An hb];rfl
section
variable {f:TFunc} (hf:OkF f) (l:Int) (t:List Int) (vs:List (Int×Ad))
include hf
theorem c_phi1(i k:Nat)(hi:i<f.Blocks.length)(hk:k<(f.Blocks.getD i default).Phis.length)(hfit:((f.Blocks.getD i default).Phis.getD k default).Args.length<=((f.Blocks.getD i default).Phis.getD k default).From.length)
  (hin:∀ x∈((f.Blocks.getD i default).Phis.getD k default).From,Bd x f.Blocks.length) (u:List Ak) (hB:(u++(L0 ((f.Blocks.getD i default).Phis.getD k default)).map (D5 f)).length<=10000000) :
  Am (Cd f vs (i:Int) (k:Int)) ((0:Int),f.Params,f.Ret,f.Blocks,l,t,u)=some (f.Params,f.Ret,f.Blocks,l,t,u++(L0 ((f.Blocks.getD i default).Phis.getD k default)).map (D5 f)):=by
 have hlen:=ok_phi hf (A5 (d:=(default:Ac)) hi) (A5 (d:=(default:Gp)) hk)
 generalize hp:(f.Blocks.getD i default).Phis.getD k default=p at *
 have e:=map_sing (D5 f) p.Args.length fun(j:Nat)=>(⟨p.Args.getD j 0,p.From.getD j 0,1000,(p.Bits,1)⟩:Oq)
 have:=S6 10000000 (fun j u=>(j,f.Params,f.Ret,f.Blocks,l,t,u)) (fun u=>(f.Params,f.Ret,f.Blocks,l,t,u)) p.Args.length (fun(j:Nat)=>[D5 f ⟨p.Args.getD j 0,p.From.getD j 0,1000,(p.Bits,1)⟩]) (Cd f vs (i:Int) (k:Int)) (fun acc j hj hacc=>by
  unfold Cd C0
  have hd:decide ((j:Int)<(p.Args.length:Int))=true:=by simpa using hj
  have hjf:j<p.From.length:=by omega
  simp only[Dr,hp,hd,Ah,Ai (Ax hj),Au,Ai (Ax hjf)];rw[show(⟨f.Params,f.Ret,f.Blocks⟩:TFunc)=f from rfl,c_end f l t vs _ (hin _ (A5 hjf)),Au];simp only;have eu:D5 f ⟨p.Args.getD j 0,p.From.getD j 0,1000,(p.Bits,1)⟩=⟨p.Args.getD j 0,(p.Bits,1),⟨p.From.getD j 0,Kt f (p.From.getD j 0)⟩⟩:=rfl;rw[eu]at hacc ⊢
  rw[c_use f l t vs _ _ _ acc hacc,Au,E0 hj (by omega)]) (fun acc=>by unfold Cd;simp only[Dr,hp,show decide ((p.Args.length:Int)<(p.Args.length:Int))=false by simp,A0]) p.Args.length 0 u (by omega) (by rw[e];exact hB)
 rw[e]at this;exact this
theorem c_phis'(i:Nat)(hi:i<f.Blocks.length)(hfit:∀ p∈(f.Blocks.getD i default).Phis,p.Args.length<=p.From.length/\∀ x∈p.From,Bd x f.Blocks.length)(u:List Ak)(hB:(u++(Td (f.Blocks.getD i default)).map (D5 f)).length<=10000000) :
  Am (Ce f vs (i:Int)) ((0:Int),f.Params,f.Ret,f.Blocks,l,t,u)=some (f.Params,f.Ret,f.Blocks,l,t,u++(Td (f.Blocks.getD i default)).map (D5 f)):=by
 have hBk:=hf.block _ (A5 (d:=(default:Ac)) hi);have e:=Aa1 (D5 f) (f.Blocks.getD i default).Phis.length fun(k:Nat)=>L0 ((f.Blocks.getD i default).Phis.getD k default)
 have:=S6 10000000 (fun j u=>(j,f.Params,f.Ret,f.Blocks,l,t,u)) (fun u=>(f.Params,f.Ret,f.Blocks,l,t,u)) (f.Blocks.getD i default).Phis.length (fun(k:Nat)=>(L0 ((f.Blocks.getD i default).Phis.getD k default)).map (D5 f)) (Ce f vs (i:Int)) (fun acc k hk hacc=>by
  have hq:=hfit _ (A5 (d:=(default:Gp)) hk);have h1:=c_phi1 hf l t vs i k hi hk hq.1 hq.2 acc hacc;unfold Ce
  have hd:decide ((k:Int)<((f.Blocks.getD i default).Phis.length:Int))=true:=by simpa using hk
  simp only[Dr,hd,Ah,Ai (Ax hk),h1,Au,E0 hk (by have:=hBk.phis;omega)]) (fun acc=>by unfold Ce;simp) (f.Blocks.getD i default).Phis.length 0 u (by omega) (by rw[e];exact hB)
 rw[e]at this;exact this
theorem c_op1(i k:Nat)(hi:i<f.Blocks.length)(hk:k<(f.Blocks.getD i default).Ops.length)(u:List Ak)(hB:(u++(N1 ((f.Blocks.getD i default).Ops.getD k default) i k).map (D5 f)).length<=10000000) :
  Am (Cf f vs (i:Int) (k:Int) (H1 ((f.Blocks.getD i default).Ops.getD k default))) ((0:Int),f.Params,f.Ret,f.Blocks,l,t,u)=some (f.Params,f.Ret,f.Blocks,l,t,u++(N1 ((f.Blocks.getD i default).Ops.getD k default) i k).map (D5 f)):=by
 have hBk:=hf.block _ (A5 (d:=(default:Ac)) hi);have hlen:=takesO_len (ok_op hf (A5 (d:=(default:Ac)) hi) (A5 (d:=(default:Ef)) hk));have hk512:=hBk.ops
 generalize hp:(f.Blocks.getD i default).Ops.getD k default=o at *
 have e:=map_sing (D5 f) (H1 o).length fun(j:Nat)=>(⟨o.Args.getD j 0,i,k,(H1 o).getD j (0,0)⟩:Oq)
 have:=S6 10000000 (fun j u=>(j,f.Params,f.Ret,f.Blocks,l,t,u)) (fun u=>(f.Params,f.Ret,f.Blocks,l,t,u)) (H1 o).length (fun(j:Nat)=>[D5 f ⟨o.Args.getD j 0,i,k,(H1 o).getD j (0,0)⟩]) (Cf f vs (i:Int) (k:Int) (H1 o)) (fun acc j hj hacc=>by
  have hkk:((k:Int)==1000)=false:=by simp;omega
  have eu:D5 f ⟨o.Args.getD j 0,i,k,(H1 o).getD j (0,0)⟩=⟨o.Args.getD j 0,(H1 o).getD j (0,0),⟨(i:Int),(k:Int)⟩⟩:=by unfold D5;simp only[hkk,A0]
  rw[eu]at hacc ⊢;unfold Cf
  have hd:decide ((j:Int)<((H1 o).length:Int))=true:=by simpa using hj
  have hja:j<o.Args.length:=by omega
  simp only[Dr,hp,hd,Ah,Ai (Ax hj),Ai (Ax hja)]
  rw[show(⟨f.Params,f.Ret,f.Blocks⟩:TFunc)=f from rfl,c_use f l t vs _ _ _ acc hacc,Au,E0 hj (by omega)]) (fun acc=>by unfold Cf;simp) (H1 o).length 0 u (by omega) (by rw[e];exact hB)
 rw[e]at this;exact this
theorem c_ops'(i:Nat)(hi:i<f.Blocks.length)(u:List Ak)(hB:(u++(usesOp (f.Blocks.getD i default) i).map (D5 f)).length<=10000000) :
  Am (Cg f vs (i:Int)) ((0:Int),f.Params,f.Ret,f.Blocks,l,t,u)=some (f.Params,f.Ret,f.Blocks,l,t,u++(usesOp (f.Blocks.getD i default) i).map (D5 f)):=by
 have hmem:=A5 (d:=(default:Ac)) hi;have hBk:=hf.block _ hmem;have e:=Aa1 (D5 f) (f.Blocks.getD i default).Ops.length fun(k:Nat)=>N1 ((f.Blocks.getD i default).Ops.getD k default) i k
 have:=S6 10000000 (fun j u=>(j,f.Params,f.Ret,f.Blocks,l,t,u)) (fun u=>(f.Params,f.Ret,f.Blocks,l,t,u)) (f.Blocks.getD i default).Ops.length (fun(k:Nat)=>(N1 ((f.Blocks.getD i default).Ops.getD k default) i k).map (D5 f)) (Cg f vs (i:Int)) (fun acc k hk hacc=>by
  have h1:=c_op1 hf l t vs i k hi hk acc hacc;have ht:I9 ((f.Blocks.getD i default).Ops.getD k default)=some (H1 ((f.Blocks.getD i default).Ops.getD k default)):=kind_Takes _ (opOk hf hmem (A5 hk));unfold Cg
  have hd:decide ((k:Int)<((f.Blocks.getD i default).Ops.length:Int))=true:=by simpa using hk
  simp only[Dr,hd,Ah,Ai (Ax hk),ht,h1,Au,E0 hk (by have:=hBk.ops;omega)]) (fun acc=>by unfold Cg;simp) (f.Blocks.getD i default).Ops.length 0 u (by omega) (by rw[e];exact hB)
 rw[e]at this;exact this
theorem c_collect (hfit : ∀ b ∈ f.Blocks, ∀ p ∈ b.Phis, p.Args.length ≤ p.From.length ∧ ∀ x ∈ p.From, Bd x f.Blocks.length) : D7 f l t vs [] = some (f, l, t, (Gl f).map (D5 f)) := by
  have e := Aa1 (D5 f) f.Blocks.length fun (i : Nat) => usesB f (f.Blocks.getD i default) i; have hul := usesF_len hf
  have := S6 10000000 (fun j u => (j, f.Params, f.Ret, f.Blocks, l, t, u)) (fun u => (f.Params, f.Ret, f.Blocks, l, t, u)) f.Blocks.length (fun (i : Nat) => (usesB f (f.Blocks.getD i default) i).map (D5 f)) (Ch f vs) (fun acc i hi hacc => by
    have hmem := A5 (d := (default : Ac)) hi; unfold usesB at hacc ⊢; rw [U5, U5, ← Xs, ← Xs] at hacc ⊢; have l1 := hacc; simp only [Eo, Sr] at l1; have h1 := c_phis' hf l t vs i hi (hfit _ hmem) acc (by simp only [Eo, Sr]; omega); have h2 := c_ops' hf l t vs i hi (acc ++ (Td (f.Blocks.getD i default)).map (D5 f)) (by simp only [Eo, Sr]; omega); have hinb : Bd (i : Int) f.Blocks.length := Ax hi; unfold Ch C0
    have hd : decide ((i : Int) < (f.Blocks.length : Int)) = true := by simpa using hi
    simp only [hd, Ah, Ai (Ax hi), h1, Au, h2, Dr]; have hF : (⟨f.Params, f.Ret, f.Blocks⟩ : TFunc) = f := rfl; have hw : A9 ((i : Int) + 1) = (i : Int) + 1 := E0 hi (by have := hf.blocks; omega); unfold We at hacc ⊢
    cases hz : ((f.Blocks.getD i default).End.Kind == 0) with
    | true =>
      have hz2 : ((f.Blocks.getD i default).End.Kind == 2) = false := by have : (f.Blocks.getD i default).End.Kind = 0 := by simpa using hz
                                                                         rw [this]; rfl
      rw [hz, hz2] at hacc; simp only [Ah, A0, hz2, List.append_nil, Bq, Cr] at hacc ⊢; rw [hF, c_end f l t vs _ hinb, Au]; simp only; rw [c_use f l t vs _ _ _ _ (show (_ ++ [(⟨_, _, ⟨(i : Int), Kt f (i : Int)⟩⟩ : Ak)]).length ≤ 10000000 from hacc), Au, Au, hw]
      rfl
    | false =>
      rw [hz] at hacc
      cases hz2 : ((f.Blocks.getD i default).End.Kind == 2) with
      | true =>
        rw [hz2] at hacc; simp only [Ah, A0, Qm, Bq, Cr] at hacc ⊢; rw [hF, c_end f l t vs _ hinb, Au]; simp only; rw [c_use f l t vs _ _ _ _ (show (_ ++ [(⟨_, _, ⟨(i : Int), Kt f (i : Int)⟩⟩ : Ak)]).length ≤ 10000000 from hacc), Au, Au, hw]
        rfl
      | false =>
        simp only [A0, Qm, Cr, List.append_nil, Au, hw]) (fun acc => by unfold Ch; simp) f.Blocks.length 0 [] (by omega) (by rw [e]; simpa [Gl] using (by omega : (Gl f).length ≤ 10000000))
  rw [e, Qm] at this; unfold D7; rw [show (0 : Int) = ((0 : Nat) : Int) from rfl]
  show ((Am (Ch f vs) (((0 : Nat) : Int), f.Params, f.Ret, f.Blocks, l, t, [])).bind _) = _
  rw [this, Au]
  rfl
end
theorem allS{σ X:Type}(mk:Int->σ)(U:List Ak)(p:Ak->Bool)(f:σ->Option (LR σ X))(yes no:X)(hk:∀ i:Nat,i<U.length->f (mk i)=some (bif p (U.getD i default) then .next (mk ((i:Int)+1)) else .done no))(he:f (mk U.length)=some (.done yes)) :
  ∀ k i:Nat,i+k=U.length->Am f (mk i)=some (bif (U.drop i).all p then yes else no)
 | 0,i,h=>by
  obtain rfl:i=U.length:=by omega
  rw[Ao he]
  simp
 | k+1,i,h=>by
  have hi:i<U.length:=by omega
  have hdr:U.drop i=U.getD i default::U.drop (i+1):=by rw[T9 hi,Af _ _ _ hi]
  have hx:=hk i hi;rw[hdr,Qn]
  cases hp:p (U.getD i default) with
  | true=>
   rw[hp]at hx;rw[Ar hx,show((i:Int)+1)=((i+1:Nat):Int) by omega,allS mk U p f yes no hk he k (i+1) (by omega),Ga]
  | false=>
   rw[hp]at hx;rw[Ao hx]
   rfl
theorem Aah(d:I4)(l:List I4)(v:Int):Kk (d::l) v=bif d.V==v then 0 else bif decide (Kk l v<0) then -1 else Kk l v+1:=by
 unfold Kk;rw[List.findIdx?_cons]
 cases d.V==v with
 | true=>rfl
 | false=>
  cases l.findIdx? (fun d=>d.V==v) with
  | none=>rfl
  | some i=>
   simp only[A0,Ub];rw[E8 (by omega)]
   simp
theorem Aa4(v:Int):∀ l:List I4,D3 (dv l) v = !decide (Kk l v<0)
 | []=>rfl
 | d::l=>by
  rw[Aah]
  show((v==d.V) || D3 (dv l) v)=_
  rw[Aa4 v l,show(v==d.V)=(d.V==v) by rw[Ky];simp;exact L9]
  cases d.V==v with
  | true=>rfl
  | false=>
   by_cases h:Kk l v<0
   ·simp[h]
   ·simp[h];omega
theorem Uv(v:Int):∀ l:List I4,¬ Kk l v<0->E5 (default:Ad) (dv l) v=valD (defOf l v)
 | [],h=>absurd (show(-1:Int)<0 by decide) h
 | d::l,h=>by
  unfold defOf;rw[Aah]at h ⊢
  show(bif v==d.V then valD d else E5 default (dv l) v)=_
  rw[show(v==d.V)=(d.V==v) by rw[Ky];simp;exact L9]
  cases hb:d.V==v with
  | true=>rfl
  | false=>
   rw[hb]at h
   by_cases hn:Kk l v<0
   ·simp[hn]at h
   ·have hz:decide (Kk l v<0)=false:=E8 hn;simp only[A0,hz];rw[Uv v l hn,show(Kk l v+1).toNat=(Kk l v).toNat+1 by omega]
    rfl
def DefIn(f:TFunc)(d:I4):Prop:=d.Block = -1\/(Bd d.Block f.Blocks.length/\d.At<Kt f d.Block/\d.At<1000)
def UseIn(f:TFunc)(u:Oq):Prop:=Bd u.Block f.Blocks.length/\0<=u.At
theorem defs_in{f:TFunc}(hf:OkF f):∀ d∈Bv f,DefIn f d:=fun d hd=>by
 rcases zzL13.1 hd with h|h
 ·obtain⟨i,_,hi⟩:=zzL80.1 h;rw[zzL16.1 hi];exact .inl rfl
 ·obtain⟨i,hi,h⟩:=zzL80.1 h
  have hi:i<f.Blocks.length:=by simpa using hi
  have hB:=hf.block _ (A5 (d:=(default:Ac)) hi);have ho:Kt f (i:Int)=((f.Blocks.getD i default).Ops.length:Int):=rfl;rcases zzL13.1 h with h|h
  ·obtain⟨k,hk,h⟩:=zzL80.1 h;rw[zzL16.1 h];refine .inr ⟨Ax hi,?_,?_⟩
   ·show(-1:Int)<Kt f (i:Int);rw[ho];omega
   ·show(-1:Int)<1000;omega
  ·obtain⟨k,hk,h⟩:=zzL80.1 h
   have hk:k<(f.Blocks.getD i default).Ops.length:=by simpa using hk
   cases hg:decide (0<(L5 ((f.Blocks.getD i default).Ops.getD k default)).1) with
   | false=>rw[hg]at h;cases h
   | true=>
    rw[hg]at h;rw[zzL16.1 h];refine .inr ⟨Ax hi,?_,?_⟩
    ·show(k:Int)<Kt f (i:Int);rw[ho];omega
    ·show(k:Int)<1000;have:=hB.ops;omega
theorem uses_in{f:TFunc}(hfit:∀ b∈f.Blocks,∀ p∈b.Phis,p.Args.length<=p.From.length/\∀ x∈p.From,Bd x f.Blocks.length):∀ u∈Gl f,UseIn f u:=fun u hu=>by
 obtain⟨i,hi,h⟩:=zzL80.1 hu
 have hi:i<f.Blocks.length:=by simpa using hi
 have hmem:=A5 (d:=(default:Ac)) hi;rcases zzL13.1 h with h|h
 ·rcases zzL13.1 h with h|h
  ·obtain⟨k,hk,h⟩:=zzL80.1 h
   have hk:k<(f.Blocks.getD i default).Phis.length:=by simpa using hk
   obtain⟨j,hj,h⟩:=zzL80.1 h;have hj:=zzL45.1 hj;have hq:=hfit _ hmem _ (A5 (d:=(default:Gp)) hk);rw[zzL16.1 h];exact⟨hq.2 _ (A5 (by omega)),by show(0:Int)<=1000;omega⟩
  ·obtain⟨k,hk,h⟩:=zzL80.1 h;obtain⟨j,hj,h⟩:=zzL80.1 h;rw[zzL16.1 h];exact⟨Ax hi,by show(0:Int)<=(k:Int);omega⟩
 ·unfold We at h
  have:u=⟨(f.Blocks.getD i default).End.Arg,i,1000,(f.Ret,1)⟩\/u=⟨(f.Blocks.getD i default).End.Arg,i,1000,(1,1)⟩:=by
   rcases zzL13.1 h with h|h
   ·cases hz:((f.Blocks.getD i default).End.Kind==0) with
    | true=>rw[hz]at h;exact .inl (zzL16.1 h)
    | false=>rw[hz]at h;cases h
   ·cases hz:((f.Blocks.getD i default).End.Kind==2) with
    | true=>rw[hz]at h;exact .inr (zzL16.1 h)
    | false=>rw[hz]at h;cases h
  rcases this with rfl|rfl<;>exact⟨Ax hi,by show(0:Int)<=1000;omega⟩
theorem fit_of{f:TFunc}(h:Gk f=true):∀ b∈f.Blocks,∀ p∈b.Phis,p.Args.length<=p.From.length/\∀ x∈p.From,Bd x f.Blocks.length:=fun b hb p hp=>by
 have hs:Lj f=true:=by simp only[Gk,A6]at h;exact h.1
 refine⟨shape_fit h b hb p hp,fun x hx=>?_⟩;obtain⟨i,hi,rfl⟩:=Nh hb;simp only[Gk,A6]at h;have h1:=allN h.2 i hi;simp only[Pd,A6,zzL29]at h1;rw[Af _ _ _ hi]at h1;have h2:=h1.2 p hp;simp only[Hl,A6,F0]at h2;rw[h2.1]at hx;obtain⟨q,rfl,hq,_⟩:=(V5 (L:=C1 f) (O1 hs) (y:=i) (by rw[R8];exact hi)).1 hx;exact Ax (by rw[R8]at hq;exact hq)
theorem over_first{f:TFunc}(h:Gk f=true){b:Int}(hb:Bd b f.Blocks.length):R6 (C2 f) 0 b=true:=by
 have hs:Lj f=true:=by simp only[Gk,A6]at h;exact h.1
 have hm:=O1 hs;have hlen:=R8 f
 have hpos:0<(C1 f).length:=by have:=(shape_iff.1 hs).1.1;omega
 obtain⟨P,hP,o,ht⟩:=treeD_dom hm hpos
 have e:C2 f=T8 (C1 f) 0:=by
  unfold C2 treeG;rw[if_pos ⟨mayG_gOf hm,Int.le_refl _,by show(0:Int)<((C1 f).length:Int);omega⟩]
  rfl
 obtain⟨k,rfl⟩:∃ k:Nat,b=(k:Int):=⟨b.toNat,(Sn hb.1).symm⟩
 have hk:k<f.Blocks.length:=by have:=hb.2;omega
 simp only[Gk,A6]at h;have h1:=allN h.2 k hk;simp only[Pd,A6]at h1;have hr:Rch (sN (C1 f)) 0 k:=(V6 (T5 hm) hpos k).1 h1.1.1;rw[e];refine(ht.over_dom o hpos (by omega)).2 ⟨rc_iff.2 hr,fun ha=>?_⟩;exact(av_iff.1 ha).1 rfl
theorem Rg{l:List Oq}{g:Oq->Ak}{p:Ak->Bool}{q:Oq->Bool}(h:∀ u∈l,p (g u)=q u):(l.map g).all p=l.all q:=by
 induction l with
 | nil=>rfl
 | cons a l ih=>rw[Bq,Qn,Qn,h a (by simp),ih fun u hu=>h u (by simp[hu])]
def fitP(vs:List (Int×Ad))(u:Ak):Bool:=((E5 (default:Ad) vs u.v).shape.1==u.shape.1)&&(((E5 (default:Ad) vs u.v).shape.2==u.shape.2)&&true)
def Um(vs:List (Int×Ad))(t:List Int)(u:Ak):Bool:=bif (E5 (default:Ad) vs u.v).place.block==u.place.block then decide ((E5 (default:Ad) vs u.v).place.at_<u.place.at_) else R6 t (E5 (default:Ad) vs u.v).place.block u.place.block
theorem ahead_eq{f:TFunc}(hs:Gk f=true){D:List I4}(hD:∀ d∈D,DefIn f d){u:Oq}(hu:UseIn f u)(hfd:Mg D u=true):Um (dv D) (C2 f) (D5 f u)=Yd D (C2 f) u:=by
 have hF:¬ Kk D u.V<0:=by simpa [Mg] using hfd
 have hin:=findD_in hF;have hd:DefIn f (defOf D u.V):=hD _ (by unfold defOf;exact A5 (by have:=hin.1;have:=hin.2;omega));have hg:E5 (default:Ad) (dv D) (D5 f u).v=valD (defOf D u.V):=Uv u.V D hF;unfold Um Yd;rw[hg]
 generalize defOf D u.V=d at *
 have hub:=hu.1.1
 have hul:0<=Kt f u.Block:=by unfold Kt;omega
 have hat:∀ a:Int,a<0\/(a<Kt f u.Block/\a<1000)->decide (a<(D5 f u).place.at_)=decide (a<u.At)\/a<0:=fun a ha=>by
  rcases ha with ha|ha
  ·exact .inr ha
  ·refine .inl ?_
   show decide (a<bif u.At==1000 then Kt f u.Block else u.At)=_
   by_cases h:u.At=1000
   ·rw[h];simp only[show((1000:Int)==1000)=true from rfl,Ah];rw[E1 ha.1,E1 ha.2]
   ·have:(u.At==1000)=false:=by simpa using h
    rw[this];rfl
 have hpos:0<=(D5 f u).place.at_:=by
  show 0<=bif u.At==1000 then Kt f u.Block else u.At
  cases u.At==1000
  ·exact hu.2
  ·exact hul
 have hblk:(D5 f u).place.block=u.Block:=rfl;rw[hblk];rcases hd with hd|⟨hd1,hd2,hd3⟩
 ·have e:(valD d).place=⟨0,-1⟩:=by show atD d=_;unfold atD;rw[hd];rfl
  rw[e,hd,E1 (show(-1:Int)<0 by decide)]
  show(bif (0:Int)==u.Block then decide ((-1:Int)<(D5 f u).place.at_) else R6 (C2 f) 0 u.Block)=_
  rw[Bool.true_or,Bool.true_or,over_first hs hu.1,E1 (show(-1:Int)<(D5 f u).place.at_ by omega)]
  cases(0:Int)==u.Block<;>rfl
 ·have hn:¬ d.Block<0:=by have:=hd1.1;omega
  have e:(valD d).place=⟨d.Block,d.At⟩:=by show atD d=_;unfold atD;rw[E8 hn];rfl
  rw[e,E8 hn,zzL142]
  show(bif d.Block==u.Block then decide (d.At<(D5 f u).place.at_) else R6 (C2 f) d.Block u.Block)=_
  cases hb:d.Block==u.Block with
  | true=>
   have hbe:d.Block=u.Block:=by simpa using hb
   simp only[Ah,Ga,E9,Wk,Bool.or_false];rcases hat d.At (.inr ⟨by rw[<- hbe];exact hd2,hd3⟩) with h|h
   ·exact h
   ·rw[E1 (by omega),E1 (by have:=hu.2;omega)]
  | false=>
   simp only[A0,Wk,zzL142,L1,Ga];unfold R6
   by_cases hm:Md (C2 f) d.Block u.Block=d.Block
   ·rw[hm]
    have:(d.Block !=-2)=true:=by simp;omega
    simp[this]
   ·have:(Md (C2 f) d.Block u.Block==d.Block)=false:=by simpa using hm
    simp[this,bne]
section
variable {f:TFunc} (l:Int) (vs:List (Int×Ad))
def stU(f:TFunc)(l:Int)(U:List Ak)(i:Int):Int×List Int×Int×List Ac×Int×List Int×List Ak:=(i,f.Params,f.Ret,f.Blocks,l,C2 f,U)
def stX(f:TFunc)(l:Int)(U:List Ak):List Int×Int×List Ac×Int×List Int×List Ak:=(f.Params,f.Ret,f.Blocks,l,C2 f,U)
theorem c_used1(U:List Ak)(hU:U.length<9223372036854775808):Am (Cj vs (f,l,C2 f,U)) (stU f l U 0)=some (bif U.all (fun u=>D3 vs u.v) then .inl (stX f l U) else .inr (stX f l U)):=by
 have:=allS (stU f l U) U (fun u=>D3 vs u.v) (Cj vs (f,l,C2 f,U)) (.inl (stX f l U)) (.inr (stX f l U)) (fun i hi=>by
  unfold Cj stU Fq
  have hd:decide ((i:Int)<(U.length:Int))=true:=by simpa using hi
  simp only[hd,Ah,Ai (Ax hi),Dr,Au,E0 hi hU]
  cases D3 vs (U.getD i default).v<;>rfl) (by unfold Cj stU;simp;rfl) U.length 0 (by omega)
 rw[N4]at this;exact this
theorem c_used2(U:List Ak)(hU:U.length<9223372036854775808):Am (Ck vs U) (stU f l U 0)=some (bif U.all (fitP vs) then .inl (stX f l U) else .inr (stX f l U)):=by
 have:=allS (stU f l U) U (fitP vs) (Ck vs U) (.inl (stX f l U)) (.inr (stX f l U)) (fun i hi=>by
  unfold Ck stU Gz
  have hd:decide ((i:Int)<(U.length:Int))=true:=by simpa using hi
  simp only[hd,Ah,Ai (Ax hi),Dr,Au,E0 hi hU];unfold fitP
  cases(((E5 (default:Ad) vs (U.getD i default).v).shape.1==(U.getD i default).shape.1)&&(((E5 (default:Ad) vs (U.getD i default).v).shape.2==(U.getD i default).shape.2)&&true))<;>rfl) (by unfold Ck stU;simp;rfl) U.length 0 (by omega)
 rw[N4]at this;exact this
theorem c_used3(htl:(C2 f).length<=1000)(U:List Ak)(hU:U.length<9223372036854775808):Am (Cl vs U) (stU f l U 0)=some (bif U.all (Um vs (C2 f)) then .inl (stX f l U) else .inr (stX f l U)):=by
 have:=allS (stU f l U) U (Um vs (C2 f)) (Cl vs U) (.inl (stX f l U)) (.inr (stX f l U)) (fun i hi=>by
  have hx:D9 (U.getD i default) f l (C2 f) vs U=some (Um vs (C2 f) (U.getD i default),f,l,C2 f,U):=by
   unfold D9 Um;rw[m_Over htl]
   cases(E5 (default:Ad) vs (U.getD i default).v).place.block==(U.getD i default).place.block<;>rfl
  unfold Cl stU
  have hd:decide ((i:Int)<(U.length:Int))=true:=by simpa using hi
  simp only[hd,Ah,Ai (Ax hi),Dr];rw[show(⟨f.Params,f.Ret,f.Blocks⟩:TFunc)=f from rfl,hx,Au,E0 hi hU]
  cases Um vs (C2 f) (U.getD i default)<;>rfl) (by unfold Cl stU;simp;rfl) U.length 0 (by omega)
 rw[N4]at this;exact this
end
def usedD(f:TFunc):Int:=bif !(Gl f).all (Mg (Bv f)) then 7 else bif !(Gl f).all (okFit (Bv f)) then 6 else bif !(Gl f).all (Yd (Bv f) (C2 f)) then 7 else 0
theorem c_used{f:TFunc}(hf:OkF f)(hs:Gk f=true)(l:Int):∃ U,Fi f l (C2 f) (dv (Bv f)) []=some (usedD f,f,l,C2 f,U):=by
 have hfit:=fit_of hs;have hul:=usesF_len hf
 have hsB:Lj f=true:=by simp only[Gk,A6]at hs;exact hs.1
 refine⟨(Gl f).map (D5 f),?_⟩
 have hU:((Gl f).map (D5 f)).length<9223372036854775808:=by rw[Sr];omega
 have h1:=c_used1 (f:=f) l (dv (Bv f)) _ hU;have h2:=c_used2 (f:=f) l (dv (Bv f)) _ hU;have h3:=c_used3 (f:=f) l (dv (Bv f)) (tree_len hsB) _ hU;rw[Rg (q:=Mg (Bv f)) (fun u _=>Aa4 u.V _)]at h1;unfold Fi usedD Li;rw[c_collect hf l (C2 f) (dv (Bv f)) hfit,Au];simp only;rw[show(Am (Cj (dv (Bv f)) (f,l,C2 f,(Gl f).map (D5 f))) ((0:Int),f.Params,f.Ret,f.Blocks,l,C2 f,(Gl f).map (D5 f)))=_ from h1,Au];have fin:∀ e:Int,Am Ha (e,f.Params,f.Ret,f.Blocks,l,C2 f,(Gl f).map (D5 f))=some (e,f,l,C2 f,(Gl f).map (D5 f)):=fun e=>Ao rfl
 cases hfd:(Gl f).all (Mg (Bv f)) with
 | false=>simp only[A0,L1,Ah,stX,Au,fin]
 | true=>
  have hmf:=zzL29.1 hfd
  rw[Rg (q:=okFit (Bv f)) (fun u hu=>by
   have:=hmf u hu;simp only[Mg,Ni,zzL127]at this;have hg:E5 (default:Ad) (dv (Bv f)) (D5 f u).v=valD (defOf (Bv f) u.V):=Uv u.V _ this;unfold fitP okFit
   rw[hg];rfl)]at h2
  rw[Rg (q:=Yd (Bv f) (C2 f)) (fun u hu=>ahead_eq hs (defs_in hf) (uses_in hfit u hu) (hmf u hu))]at h3;simp only[Ah,E9,A0,stX];rw[show(Am (Ck (dv (Bv f)) ((Gl f).map (D5 f))) ((0:Int),f.Params,f.Ret,f.Blocks,l,C2 f,(Gl f).map (D5 f)))=_ from h2,Au]
  cases(Gl f).all (okFit (Bv f)) with
  | false=>simp only[A0,L1,Ah,stX,Au,fin]
  | true=>
   simp only[Ah,E9,A0,stX];rw[show(Am (Cl (dv (Bv f)) ((Gl f).map (D5 f))) ((0:Int),f.Params,f.Ret,f.Blocks,l,C2 f,(Gl f).map (D5 f)))=_ from h3,Au]
   cases(Gl f).all (Yd (Bv f) (C2 f)) with
   | false=>simp only[A0,L1,Ah,stX,Au,fin]
   | true=>simp only[Ah,E9,A0,stX,Au]
theorem c_wrong{f:TFunc}(h:Sm f)(l:Int)(h0:0<=l)(h2:l<=2):∃ t u vs,Ex f l [] []=some (Hw f l,f,l,t,u,vs)/\(Hw f l=0->vs=dv (Bv f)):=by
 have hc:Hw f l=bif !Uu f then 4 else wrongD f l:=by
  unfold Hw;rw[E8 (by omega),E8 (by omega)];rfl
 rw[hc];unfold Ex;rw[c_told f h.1,Au]
 cases hm:Uu f with
 | false=>exact⟨[],[],[],rfl,fun h=>by cases h⟩
 | true=>
  have hf:=sm_ok h hm;simp only[Ah,E9,A0,show((0:Int)!=0)=false from rfl,wrongD];obtain⟨t',hsh,hst⟩:=c_shaped hf l [] [];rw[hsh,Au]
  cases hs:Gk f with
  | false=>exact⟨t',[],[],rfl,fun h=>by cases h⟩
  | true=>
   obtain rfl:=hst hs;simp only[Ah,E9,A0,show((0:Int)!=0)=false from rfl];rw[c_typed hf l h0 h2,Au]
   cases Xn f l with
   | false=>exact⟨C2 f,[],[],rfl,fun h=>by cases h⟩
   | true=>
    simp only[Ah,E9,A0,show((0:Int)!=0)=false from rfl];obtain⟨vs,hd,hv⟩:=c_defined hf l (C2 f) [];rw[hd,Au]
    cases hdd:(List.range (Bv f).length).all (M3 (Bv f)) with
    | false=>exact⟨C2 f,[],vs,rfl,fun h=>by cases h⟩
    | true=>
     obtain rfl:=hv hdd;simp only[Ah,E9,A0,show((0:Int)!=0)=false from rfl];obtain⟨U,hu⟩:=c_used hf hs l;rw[hu,Au];refine⟨C2 f,U,dv (Bv f),?_,fun _=>rfl⟩
     show(bif usedD f !=0 then some (usedD f,f,l,C2 f,U,dv (Bv f)) else some (0,f,l,C2 f,U,dv (Bv f)))=some (usedD f,f,l,C2 f,U,dv (Bv f))
     cases hz:usedD f !=0 with
     | true=>rfl
     | false=>
      have:usedD f=0:=by simpa using hz
      rw[this];rfl
theorem c_check(f:TFunc)(l:Int)(h:Sm f):Jo f l=some (Hw f l):=by
 unfold Jo
 by_cases h0:l<0
 ·rw[E1 h0];unfold Hw;rw[E1 h0];rfl
 ·by_cases h2:2<l
  ·rw[E8 h0,E1 h2];unfold Hw;rw[E8 h0,E1 h2];rfl
  ·obtain⟨t,u,vs,hw,_⟩:=c_wrong h l (by omega) (by omega);rw[E8 h0,E8 h2,hw];rfl
abbrev bA(f:TFunc)(i:Nat):Ac:=f.Blocks.getD i default
def Es(f:TFunc)(i:Nat)(k:Nat):Int:=(bA f i).End.To.getD k 0
def prF(f:TFunc)(i:Nat):List Int:=(Db (C1 f)).getD i []
def Rv(f:TFunc)(a x:Int):Bool:=((bA f x.toNat).End.Kind==1)&&decide ((bA f x.toNat).Phis.length=0)&&decide (prF f x.toNat=[a])
structure Rt(f:TFunc):Prop where
 lo:1<=f.Blocks.length
 hi:f.Blocks.length<=64
 to:∀ i,i<f.Blocks.length->∀ k,k<(bA f i).End.To.length->0<Es f i k/\Es f i k<f.Blocks.length
 one:∀ i,i<f.Blocks.length->(bA f i).End.Kind=1->(bA f i).End.To.length=1
 two:∀ i,i<f.Blocks.length->(bA f i).End.Kind=2->(bA f i).End.To.length=2
 may:J7 (C1 f)=true
 ok:OkF f
theorem rt_of{f:TFunc}(h:Sm f)(hc:Hw f 2=0):Rt f:=by
 have hz:=(Aaa (f:=f) (l:=2) (by omega) (by omega)).1 hc
 have hs:Lj f=true:=by
  have:=hz.2.1;unfold Gk at this;rw[A6]at this;exact this.1
 obtain⟨⟨h1,h2⟩,h3⟩:=shape_iff.1 hs
 have hw:∀ i,i<f.Blocks.length->(((bA f i).End.To.length:Nat):Int)=wantK (bA f i).End.Kind:=fun i hi=>by
  have:=h3 i hi;unfold Mc kindB at this;simp only[A6,F0]at this;exact this.1.2
 refine⟨h1,h2,fun i hi k hk=>?_,fun i hi hk=>?_,fun i hi hk=>?_,O1 hs,sm_ok h hz.1⟩
 ·exact toB_iff.1 (fits_to (h3 i hi)) _ (A5 (d:=0) hk)
 ·have:=hw i hi;rw[hk,show wantK 1=1 from rfl]at this;omega
 ·have:=hw i hi;rw[hk,show wantK 2=2 from rfl]at this;omega
theorem pr_len(f:TFunc):(Db (C1 f)).length=f.Blocks.length:=by rw[Lc,R8]
theorem c_by{f:TFunc}(R:Rt f)(a x:Int)(hx:Bd x f.Blocks.length):Dw x f.Blocks (Db (C1 f)) a=some (bif Rv f a x then(x,Es f x.toNat 0,true) else(-1,-1,false)):=by
 have hxn:x.toNat<f.Blocks.length:=by have:=hx.1;have:=hx.2;omega
 unfold Dw Rv;rw[Ai hx]
 have hlen:Bd x (Db (C1 f)).length:=by rw[pr_len];exact hx
 rw[Ai (fun _=>hlen)]
 by_cases hk:(bA f x.toNat).End.Kind=1
 ·have hk':((f.Blocks.getD x.toNat default).End.Kind !=1)=false:=by simpa using hk
  have hto:=R.one _ hxn hk
  by_cases hp:(bA f x.toNat).Phis.length=0
  ·have hp':decide ((0:Int)<((f.Blocks.getD x.toNat default).Phis.length:Int))=false:=by rw[show(f.Blocks.getD x.toNat default).Phis.length=0 from hp];rfl
   rw[hk',A0,hp',show((false:Bool)==false)=true from rfl,Ah,Zl _ _ (by simp),Au,A0]
   have e1:((bA f x.toNat).End.Kind==1)=true:=by simpa using hk
   rw[e1,E1 hp,Ga,Ga];unfold prF Es
   cases decide ((Db (C1 f)).getD x.toNat []=[a]) with
   | true=>rw[E9,A0,Ai (show Bd (0:Int) (f.Blocks.getD x.toNat default).End.To.length from⟨by omega,by rw[show(f.Blocks.getD x.toNat default).End.To.length=1 from hto];omega⟩)];rfl
   | false=>rfl
  ·have hp':decide ((0:Int)<((f.Blocks.getD x.toNat default).Phis.length:Int))=true:=E1 (by have:(f.Blocks.getD x.toNat default).Phis.length≠0:=hp;omega);rw[hk',A0,hp',show((true:Bool)==false)=false from rfl,A0,Au,Ah,Ah,E8 hp,Bool.and_false,Wk,A0]
 ·have hk':((f.Blocks.getD x.toNat default).End.Kind !=1)=true:=by simpa using hk
  have e1:((bA f x.toNat).End.Kind==1)=false:=by simpa using hk
  rw[hk',Ah,show((true:Bool)==false)=false from rfl,A0,Au,Ah,Ah,e1,Wk,Wk,A0]
def zH:THammock:=⟨0,0,0,0⟩
def c1H(f:TFunc)(a:Int)(x y:Int):Bool:=Rv f a x&&Rv f a y&&(Es f x.toNat 0==Es f y.toNat 0)&&!(Es f x.toNat 0==a)
def c2H(f:TFunc)(a:Int)(x y:Int):Bool:=Rv f a x&&(Es f x.toNat 0==y)&&!(y==a)
def Rn(f:TFunc)(i:Nat):Option THammock:=
 bif ((bA f i).End.Kind==2)&&!(Es f i 0==Es f i 1) then
  bif c1H f i (Es f i 0) (Es f i 1) then some ⟨i,Es f i 0,Es f i 1,Es f (Es f i 0).toNat 0⟩ else
  bif c2H f i (Es f i 0) (Es f i 1) then some ⟨i,Es f i 0,-1,Es f i 1⟩ else
  bif c2H f i (Es f i 1) (Es f i 0) then some ⟨i,-1,Es f i 1,Es f i 0⟩ else none
 else none
section
variable {f:TFunc} (R:Rt f) {a:Int} {i:Nat} (hi:i<f.Blocks.length) (hk:(bA f i).End.Kind=2)
include R hi hk
theorem Yq(k:Nat)(hk2:k<2):Bd (Es f i k) f.Blocks.length:=by
 have:=R.to i hi k (by rw[R.two i hi hk];exact hk2);exact⟨by omega,this.2⟩
theorem c_meet1:G1 i (bA f i).End.To f.Blocks (Db (C1 f)) i f.Blocks (Db (C1 f)) i =
  some (bif c1H f i (Es f i 0) (Es f i 1) then(⟨i,Es f i 0,Es f i 1,Es f (Es f i 0).toNat 0⟩,true) else(zH,false)):=by
 have h2:=R.two i hi hk;unfold G1;rw[Ai (show Bd (0:Int) (bA f i).End.To.length from⟨by omega,by omega⟩)];have e0:=c_by R i (Es f i 0) (Yq R hi hk 0 (by omega));have e1:=c_by R i (Es f i 1) (Yq R hi hk 1 (by omega));have g0:(bA f i).End.To.getD (0:Int).toNat 0=Es f i 0:=rfl;have g1:(bA f i).End.To.getD (1:Int).toNat 0=Es f i 1:=rfl;rw[g0,g1,e0,Au,Ai (show Bd (1:Int) (bA f i).End.To.length from⟨by omega,by omega⟩),e1,Au];unfold c1H
 cases Rv f i (Es f i 0) with
 | false=>rfl
 | true=>
  cases Rv f i (Es f i 1) with
  | false=>rfl
  | true=>
   simp only[Ah,E9,A0,Ga,bne]
   cases(Es f (Es f i 0).toNat 0==Es f (Es f i 1).toNat 0) with
   | false=>rfl
   | true=>cases(Es f (Es f i 0).toNat 0==(i:Int))<;>rfl
theorem c_meet2:Fl i (bA f i).End.To f.Blocks (Db (C1 f)) i =
  some (bif c2H f i (Es f i 0) (Es f i 1) then(⟨i,Es f i 0,-1,Es f i 1⟩,true) else(zH,false)):=by
 have h2:=R.two i hi hk;unfold Fl;rw[Ai (show Bd (0:Int) (bA f i).End.To.length from⟨by omega,by omega⟩)];have e0:=c_by R i (Es f i 0) (Yq R hi hk 0 (by omega));have g0:(bA f i).End.To.getD (0:Int).toNat 0=Es f i 0:=rfl;have g1:(bA f i).End.To.getD (1:Int).toNat 0=Es f i 1:=rfl;rw[g0,g1,e0,Au,Ai (show Bd (1:Int) (bA f i).End.To.length from⟨by omega,by omega⟩),Ft,Au];unfold c2H
 cases Rv f i (Es f i 0) with
 | false=>rfl
 | true=>
  simp only[Ah,E9,A0,Ga,bne]
  cases h:(Es f (Es f i 0).toNat 0==Es f i 1) with
  | false=>rfl
  | true=>
   have h':Es f (Es f i 0).toNat 0=Es f i 1:=by simpa using h
   rw[h']
   cases(Es f i 1==(i:Int))<;>rfl
theorem c_meet3:Fm i (bA f i).End.To f.Blocks (Db (C1 f)) i =
  some (bif c2H f i (Es f i 1) (Es f i 0) then(⟨i,-1,Es f i 1,Es f i 0⟩,true) else(zH,false)):=by
 have h2:=R.two i hi hk;unfold Fm;rw[Ai (show Bd (0:Int) (bA f i).End.To.length from⟨by omega,by omega⟩)];have e1:=c_by R i (Es f i 1) (Yq R hi hk 1 (by omega));have g0:(bA f i).End.To.getD (0:Int).toNat 0=Es f i 0:=rfl;have g1:(bA f i).End.To.getD (1:Int).toNat 0=Es f i 1:=rfl;rw[g0,g1,Ft,Au,Ai (show Bd (1:Int) (bA f i).End.To.length from⟨by omega,by omega⟩),e1,Au];unfold c2H
 cases Rv f i (Es f i 1) with
 | false=>rfl
 | true=>
  simp only[Ah,E9,A0,Ga,bne];rw[show(Es f i 0==Es f (Es f i 1).toNat 0)=(Es f (Es f i 1).toNat 0==Es f i 0) by rw[Ky,zzL68,zzL68];exact L9]
  cases(Es f (Es f i 1).toNat 0==Es f i 0) with
  | false=>rfl
  | true=>cases(Es f i 0==(i:Int))<;>rfl
end
def Zv(f:TFunc):List THammock:=(List.range f.Blocks.length).flatMap fun i=>(Rn f i).toList
theorem toList_le{α:Type}(o:Option α):o.toList.length<=1:=by cases o<;>simp
theorem all_step{f:TFunc}(R:Rt f){i:Nat}(hi:i<f.Blocks.length)(l:List THammock)(hl:l.length<=0+i*1)(c:Int) :
  E3 f (Ti (C1 f),c) (l,(i:Int))=some (.next (l++(Rn f i).toList,(i:Int)+1)):=by
 have hroom:(1000:Nat)<=room:=by decide
 have hi64:=R.hi;unfold E3 Rn;have hg:f.Blocks.getD (i:Int).toNat default=bA f i:=rfl;simp only[hg,F4 hi,Ah,Ai (Ax hi),w1 (show i<4611686018427387904 by omega)]
 have hap:∀ h:THammock,l.length+([h]:List THammock).length<=room:=fun h=>by simp;omega
 have ie:((i+1:Nat):Int)=(i:Int)+1:=by omega
 by_cases hk:(bA f i).End.Kind=2
 ·have hk':((bA f i).End.Kind !=2)=false:=by simpa using hk
  have hk2:((bA f i).End.Kind==2)=true:=by simpa using hk
  have h2:=R.two i hi hk;have i0:Bd (0:Int) (bA f i).End.To.length:=⟨by omega,by omega⟩;have i1:Bd (1:Int) (bA f i).End.To.length:=⟨by omega,by omega⟩;simp only[hk',hk2,Ai (fun _=>i0),Ai (fun _=>i1),A0,Ga];have g0:(bA f i).End.To.getD (0:Int).toNat 0=Es f i 0:=rfl;have g1:(bA f i).End.To.getD (1:Int).toNat 0=Es f i 1:=rfl;rw[g0,g1]
  cases(Es f i 0==Es f i 1) with
  | true=>simp[ie]
  | false=>
   have hpred:(Ti (C1 f)).Pred=Db (C1 f):=rfl;simp only[A0,L1,Ah,Jy,Au,hpred,c_meet1 R hi hk,c_meet2 R hi hk,c_meet3 R hi hk]
   cases c1H f i (Es f i 0) (Es f i 1) with
   | true=>simp only[Ah];rw[An (hap _)];simp[ie]
   | false=>
    simp only[A0]
    cases c2H f i (Es f i 0) (Es f i 1) with
    | true=>simp only[Ah];rw[An (hap _)];simp[ie]
    | false=>
     simp only[A0]
     cases c2H f i (Es f i 1) (Es f i 0) with
     | true=>simp only[Ah];rw[An (hap _)];simp[ie]
     | false=>simp[ie]
 ·have hk':((bA f i).End.Kind !=2)=true:=by simpa using hk
  have hk2:((bA f i).End.Kind==2)=false:=by simpa using hk
  simp only[hk',hk2,Ah,Wk,A0];rw[Ai (fun h=>by cases h),Ai (fun h=>by cases h)];simp[ie]
theorem m_All{f:TFunc}(h:Sm f):Fe f=some (bif Hw f 2==0 then Zv f else[]):=by
 have hmax:f.Blocks.length<=maxLen:=h.1.blocks;unfold Fe;rw[c_check f 2 h,Au]
 by_cases hc:Hw f 2=0
 ·have R:=rt_of h hc
  have hs:Lj f=true:=by
   have:=((Aaa (f:=f) (l:=2) (by omega) (by omega)).1 hc).2.1;unfold Gk at this;rw[A6]at this;exact this.1
  rw[hc,show((0:Int)!=0)=false from rfl,show((0:Int)==0)=true from rfl,A0,Ah,m_of f hmax,hs,Ah,Au];have hL:=loop_flat f.Blocks.length 0 1 (fun i=>(Rn f i).toList) (fun i _=>toList_le _) (E3 f (Ti (C1 f),0)) (fun acc i hi ha=>all_step R hi acc ha 0)
   (fun acc=>by unfold E3;simp only[K0,A0]) f.Blocks.length 0 [] (by omega) (by simp)
  have hL':Am (E3 f (Ti (C1 f),0)) (([]:List THammock),(0:Int))=_:=hL;rw[hL',Au];unfold Li Zv;rw[Wg];rfl
 ·have e1:((Hw f 2)!=0)=true:=by simpa using hc
  have e2:((Hw f 2)==0)=false:=by simpa using hc
  rw[e1,e2,Ah,A0]
  rfl
theorem loop_first{X:Type}(f:Int->Option (LR Int X))(p:Nat->Bool)(out:Nat->X)(no:X)(n:Nat)(hn:∀ i,i<n->p i=false->f (i:Int)=some (.next (((i+1:Nat):Int))))
  (hf:∀ i,i<n->p i=true->f (i:Int)=some (.done (out i))) (he:f (n:Int)=some (.done no)) :
  (∃ i,i<n/\p i=true/\Am f (0:Int)=some (out i))\/((∀ i,i<n->p i=false)/\Am f (0:Int)=some no):=by
 suffices h:∀ k i,i+k=n->(∀ j,j<i->p j=false)->(∃ i',i'<n/\p i'=true/\Am f (i:Int)=some (out i'))\/((∀ i,i<n->p i=false)/\Am f (i:Int)=some no) from
  h n 0 (by omega) (fun j hj=>absurd hj (N3 _))
 intro k
 induction k with
 | zero=>
  intro i hi hj
  obtain rfl:i=n:=by omega
  exact .inr ⟨hj,Ao he⟩
 | succ k ih=>
  intro i hi hj
  cases hp:p i with
  | true=>exact .inl ⟨i,by omega,hp,Ao (hf i (by omega) hp)⟩
  | false=>
   rw[Ar (hn i (by omega) hp)];refine ih (i+1) (by omega) fun j hj2=>?_
   by_cases e:j=i
   ·subst e;exact hp
   ·exact hj j (by omega)
theorem ham_at{f:TFunc}{i:Nat}{h:THammock}(hh:Rn f i=some h):h.At=i:=by
 unfold Rn at hh
 revert hh
 cases(((bA f i).End.Kind==2)&&!(Es f i 0==Es f i 1))<;>cases c1H f i (Es f i 0) (Es f i 1)<;>cases c2H f i (Es f i 0) (Es f i 1)<;>cases c2H f i (Es f i 1) (Es f i 0)<;>intro hh<;>cases hh<;>rfl
theorem mem_all{f:TFunc}{h:THammock}:h∈Zv f↔∃ i,i<f.Blocks.length/\Rn f i=some h:=by
 unfold Zv;rw[zzL80]
 constructor
 ·rintro⟨i,h1,h2⟩;exact⟨i,zzL45.1 h1,by simpa using h2⟩
 ·rintro⟨i,h1,h2⟩;exact⟨i,zzL45.2 h1,by simpa using h2⟩
theorem all_len{f:TFunc}:(Zv f).length<=f.Blocks.length:=by
 unfold Zv;have:=Il 1 (fun i=>(Rn f i).toList) (List.range f.Blocks.length) (fun i _=>toList_le _)
 simpa using this
def isH(f:TFunc)(h:THammock):Bool:=decide (Bd h.At f.Blocks.length)&&decide (Rn f h.At.toNat=some h)
theorem is_mem{f:TFunc}{h:THammock}:isH f h=true↔h∈Zv f:=by
 unfold isH;rw[mem_all,A6,F0,F0]
 constructor
 ·rintro⟨h1,h2⟩;exact⟨_,by have:=h1.1;have:=h1.2;omega,h2⟩
 ·rintro⟨i,h1,h2⟩;have:=ham_at h2;exact⟨by rw[this];exact Ax h1,by rw[this,A1];exact h2⟩
def findH(f:TFunc)(a:Int):THammock×Bool:=if Bd a f.Blocks.length then(match Rn f a.toNat with|some h=>(h,true)|none=>(zH,false)) else(zH,false)
theorem find_some{f:TFunc}{h:THammock}(hh:isH f h=true):findH f h.At=(h,true):=by
 unfold isH at hh;rw[A6,F0,F0]at hh;unfold findH;rw[if_pos hh.1,hh.2]
theorem find_none{f:TFunc}{a:Int}(hh:∀ h,isH f h=true->h.At≠a):findH f a=(zH,false):=by
 unfold findH
 split
 ·rename_i hin
  cases ho:Rn f a.toNat with
  | none=>rfl
  | some h=>
   have e:=ham_at ho;have:((a.toNat:Nat):Int)=a:=Sn hin.1;exact absurd (e.trans this) (hh h (is_mem.2 (mem_all.2 ⟨_,by have:=hin.1;have:=hin.2;omega,ho⟩)))
 ·rfl
def okF(f:TFunc):Bool:=Hw f 2==0
def allHR(f:TFunc):List THammock:=bif okF f then Zv f else[]
def Ur(f:TFunc)(h:THammock):Bool:=okF f&&isH f h
def Aai(f:TFunc)(a:Int):THammock×Bool:=bif okF f then findH f a else(zH,false)
theorem isHR_mem{f:TFunc}{h:THammock}:Ur f h=true↔h∈allHR f:=by
 unfold Ur allHR
 cases okF f with
 | true=>rw[Ga];exact is_mem
 | false=>simp
theorem m_All'{f:TFunc}(h:Sm f):Fe f=some (allHR f):=m_All h
theorem allHR_len{f:TFunc}:(allHR f).length<=f.Blocks.length:=by
 unfold allHR;cases okF f
 ·simp
 ·exact all_len
theorem small_n{f:TFunc}(h:Sm f):(allHR f).length<4611686018427387904:=by
 by_cases hc:okF f=true
 ·have:=(rt_of h (by simpa [okF] using hc)).hi;have:=allHR_len (f:=f);omega
 ·unfold allHR;rw[Bool.eq_false_iff.2 hc];simp
theorem m_Find{f:TFunc}(h:Sm f)(a:Int):Gh f a=some (Aai f a):=by
 unfold Gh;rw[m_All' h,Au];have hn:=small_n h
 rcases loop_first (m_hammock_Find_L1 a (allHR f)) (fun i=>((allHR f).getD i default).At==a) (fun i=>.inr ((allHR f).getD i default,true)) (.inl ()) (allHR f).length (fun i hi hp=>by
   unfold m_hammock_Find_L1
   simp only[F4 hi,Ah,A1,Ai (Ax hi),hp,A0,w1 (show i<4611686018427387904 by omega)]) (fun i hi hp=>by
   unfold m_hammock_Find_L1
   simp only[F4 hi,Ah,A1,Ai (Ax hi),hp]) (by unfold m_hammock_Find_L1;simp only[K0,A0]) with⟨i,hi,hp,hl⟩|⟨hp,hl⟩
 ·rw[hl,Au];have hm:=isHR_mem.2 (A5 (d:=(default:THammock)) hi)
  have ha:((allHR f).getD i default).At=a:=by simpa using hp
  unfold Ur at hm;rw[A6]at hm;unfold Aai;rw[hm.1,Ah,<- ha,find_some hm.2]
 ·rw[hl,Au]
  show some (zH,false)=_
  unfold Aai
  cases ho:okF f with
  | false=>rfl
  | true=>
   rw[Ah,find_none];intro x hx e;have hm:x∈allHR f:=isHR_mem.1 (by unfold Ur;rw[ho,hx];rfl);obtain⟨i,hi,he⟩:=Nh hm;have:=hp i hi;rw[Af _ _ _ hi,he,e]at this;simp at this
theorem ham_eq(v x:THammock):((v.At==x.At)&&((v.Then==x.Then)&&((v.Else==x.Else)&&((v.Join==x.Join)&&true))))=decide (v=x):=by
 cases v;cases x
 rw[Ky];simp[THammock.mk.injEq]
theorem m_Is{f:TFunc}(h:Sm f)(v:THammock):G0 f v=some (Ur f v):=by
 unfold G0 Bu B4;rw[m_All' h,Au];have hn:=small_n h
 rcases loop_first (m_slices_Index_api_Hammock_api_Hammock_L1 (allHR f) v) (fun i=>decide (v=(allHR f).getD i default)) (fun i=>.inr (i:Int)) (.inl ()) (allHR f).length (fun i hi hp=>by
   unfold m_slices_Index_api_Hammock_api_Hammock_L1
   simp only[F4 hi,Ah,A1,Ai (Ax hi),ham_eq,hp,A0,w1 (show i<4611686018427387904 by omega)]) (fun i hi hp=>by
   unfold m_slices_Index_api_Hammock_api_Hammock_L1
   simp only[F4 hi,Ah,A1,Ai (Ax hi),ham_eq,hp]) (by unfold m_slices_Index_api_Hammock_api_Hammock_L1;simp only[K0,A0]) with⟨i,hi,hp,hl⟩|⟨hp,hl⟩
 ·rw[hl];have hm:Ur f v=true:=isHR_mem.2 (by rw[F0]at hp;rw[hp];exact A5 hi);rw[hm]
  simp
 ·rw[hl]
  have hm:Ur f v=false:=by
   rw[Bool.eq_false_iff];intro hm;obtain⟨i,hi,he⟩:=Nh (isHR_mem.1 hm);have:=hp i hi;rw[Af _ _ _ hi,he]at this;simp at this
  rw[hm];rfl
def opsX(f:TFunc)(x:Int):List Ef:=bif x !=-1 then(bA f x.toNat).Ops else[]
def opsH(f:TFunc)(h:THammock):List Ef:=opsX f h.Then++opsX f h.Else
theorem ham_in {f : TFunc} (R : Rt f) {i : Nat} (hi : i < f.Blocks.length) {h : THammock} (hh : Rn f i = some h) :
    (bA f i).End.Kind = 2 ∧ Es f i 0 ≠ Es f i 1 ∧ Bd h.Join f.Blocks.length ∧ h.Join ≠ i ∧
    ((h.Then = Es f i 0 ∧ h.Else = Es f i 1 ∧ Rv f i h.Then = true ∧ Rv f i h.Else = true ∧ Es f h.Then.toNat 0 = h.Join ∧ Es f h.Else.toNat 0 = h.Join) ∨
     (h.Then = Es f i 0 ∧ h.Else = -1 ∧ h.Join = Es f i 1 ∧ Rv f i h.Then = true ∧ Es f h.Then.toNat 0 = h.Join) ∨
     (h.Then = -1 ∧ h.Else = Es f i 1 ∧ h.Join = Es f i 0 ∧ Rv f i h.Else = true ∧ Es f h.Else.toNat 0 = h.Join)) := by
  unfold Rn at hh
  cases hk : (((bA f i).End.Kind == 2) && !(Es f i 0 == Es f i 1)) with
  | false => rw [hk] at hh; cases hh
  | true =>
    rw [hk, Ah] at hh; simp only [A6, zzL68, Ni, zzL35] at hk; obtain ⟨hk1, hk2⟩ := hk; have t0 := Yq R hi hk1 0 (by omega); have t1 := Yq R hi hk1 1 (by omega)
    have hb : ∀ x, Bd x f.Blocks.length → Rv f i x = true → Bd (Es f x.toNat 0) f.Blocks.length := fun x hx hm => by
      have hxn : x.toNat < f.Blocks.length := by have := hx.1; have := hx.2; omega
      unfold Rv at hm; simp only [A6, zzL68] at hm; have := R.to _ hxn 0 (by rw [R.one _ hxn hm.1.1]; omega); exact ⟨by omega, this.2⟩
    refine ⟨hk1, hk2, ?_⟩
    cases h1 : c1H f i (Es f i 0) (Es f i 1) with
    | true =>
      rw [h1, Ah] at hh; cases hh; unfold c1H at h1; simp only [A6, zzL68, Ni, zzL35] at h1; obtain ⟨⟨⟨a1, a2⟩, a3⟩, a4⟩ := h1; exact ⟨hb _ t0 a1, a4, .inl ⟨rfl, rfl, a1, a2, rfl, a3.symm⟩⟩
    | false =>
      rw [h1, A0] at hh
      cases h2 : c2H f i (Es f i 0) (Es f i 1) with
      | true =>
        rw [h2, Ah] at hh; cases hh; unfold c2H at h2; simp only [A6, zzL68, Ni, zzL35] at h2; obtain ⟨⟨a1, a3⟩, a4⟩ := h2; exact ⟨t1, a4, .inr (.inl ⟨rfl, rfl, rfl, a1, a3⟩)⟩
      | false =>
        rw [h2, A0] at hh
        cases h3 : c2H f i (Es f i 1) (Es f i 0) with
        | true =>
          rw [h3, Ah] at hh; cases hh; unfold c2H at h3; simp only [A6, zzL68, Ni, zzL35] at h3; obtain ⟨⟨a1, a3⟩, a4⟩ := h3; exact ⟨t0, a4, .inr (.inr ⟨rfl, rfl, rfl, a1, a3⟩)⟩
        | false => rw [h3] at hh; cases hh
theorem ham_sides{f:TFunc}(R:Rt f){i:Nat}(hi:i<f.Blocks.length){h:THammock}(hh:Rn f i=some h):(h.Then = -1\/Bd h.Then f.Blocks.length)/\(h.Else = -1\/Bd h.Else f.Blocks.length):=by
 obtain⟨hk,_,_,_,hc⟩:=ham_in R hi hh;have t0:=Yq R hi hk 0 (by omega);have t1:=Yq R hi hk 1 (by omega);rcases hc with⟨a,b,_⟩|⟨a,b,_⟩|⟨a,b,_⟩
 ·exact⟨.inr (a▸t0),.inr (b▸t1)⟩
 ·exact⟨.inr (a▸t0),.inl b⟩
 ·exact⟨.inl a,.inr (b▸t1)⟩
theorem opsX_len{f:TFunc}(R:Rt f){x:Int}(hx:x = -1\/Bd x f.Blocks.length):(opsX f x).length<=512:=by
 unfold opsX
 by_cases e:x = -1
 ·subst e;exact L2 _
 ·rcases hx with hx|hx
  ·exact absurd hx e
  ·rw[show(x !=-1)=true by simpa using e,Ah];exact(R.ok.block _ (A5 (by have:=hx.1;have:=hx.2;omega))).ops
theorem btw_step{f:TFunc}(R:Rt f)(h:THammock){k:Nat}(hk:k<2)(x:Int)(he:([h.Then,h.Else]:List Int).getD k 0=x)(hx:x = -1\/Bd x f.Blocks.length)(l:List Ef)(hl:l.length<=512) :
  Ct f h (l,(k:Int))=some (.next (l++opsX f x,((k+1:Nat):Int))):=by
 have hroom:(2000:Nat)<=room:=by decide
 unfold Ct;have hlen:=opsX_len R hx;simp only[A1,he,F4 (show k<([h.Then,h.Else]:List Int).length from hk),Ah,Ai (Ax (show k<([h.Then,h.Else]:List Int).length from hk)),w1 (show k<4611686018427387904 by omega)];unfold opsX at hlen ⊢
 by_cases e:x = -1
 ·subst e;rw[show((-1:Int)!=-1)=false from rfl,A0,A0,Au,List.append_nil]
 ·have e':(x !=-1)=true:=by simpa using e
  rw[e']at hlen ⊢;rcases hx with hx|hx
  ·exact absurd hx e
  ·rw[Ah]at hlen;rw[Ah,Ai hx,Ah,Ai (show l.length+(bA f x.toNat).Ops.length<=room by omega),Au]
theorem m_btw{f:TFunc}(h:Sm f)(v:THammock):Fs f v=some (bif Ur f v then(opsH f v,true) else([],false)):=by
 unfold Fs;rw[m_Is h,Au]
 cases hi:Ur f v with
 | false=>rfl
 | true=>
  rw[E9,A0,Ah];unfold Ur at hi;rw[A6]at hi;have R:=rt_of h (by simpa [okF] using hi.1);obtain⟨i,hin,ho⟩:=mem_all.1 (is_mem.1 hi.2);obtain⟨h1,h2⟩:=ham_sides R hin ho;have s0:=btw_step R v (k:=0) (by omega) v.Then rfl h1 [] (by simp);have s1:=btw_step R v (k:=1) (by omega) v.Else rfl h2 ([]++opsX f v.Then) (by rw[Qm];exact opsX_len R h1)
  have hL:Am (Ct f v) (([]:List Ef),(0:Int))=some (opsH f v):=by
   have e0:Am (Ct f v) (([]:List Ef),(0:Int))=_:=Ar s0;rw[e0];have e1:Am (Ct f v) ([]++opsX f v.Then,((0+1:Nat):Int))=_:=Ar s1;rw[e1];refine Ao ?_;unfold Ct opsH;rw[Qm];rfl
  rw[hL];rfl
theorem m_Cost{f:TFunc}(h:Sm f)(v:THammock):He f v=some (bif Ur f v then((opsH f v).length:Int) else 0):=by
 unfold He;rw[m_btw h,Au]
 cases Ur f v<;>rfl
theorem findHR_some{f:TFunc}{v:THammock}(hv:Ur f v=true):Aai f v.At=(v,true):=by
 unfold Ur at hv;rw[A6]at hv;unfold Aai;rw[hv.1,Ah,find_some hv.2]
def lone(e:H3)(b r:Int):TFunc:=⟨[b],r,[⟨[],[],e⟩]⟩
theorem ones{α:Type}(l:List α):(l.map fun _=>1).sum=l.length:=by induction l with|nil=>rfl|cons a l ih=>simp[ih];omega
set_option maxRecDepth 100000
theorem m_awake14:m_locksteplaw14_awake=some true:=by kernel_rfl
theorem ham_beq(v x:THammock):((v.At==x.At)&&((v.Then==x.Then)&&((v.Else==x.Else)&&((v.Join==x.Join)&&true))))=decide (v=x):=ham_eq v x
def preH(f:TFunc)(i:Nat):List THammock:=(List.range i).flatMap fun i=>(Rn f i).toList
theorem pre_succ(f:TFunc)(i:Nat):preH f (i+1)=preH f i++(Rn f i).toList:=by unfold preH;rw[U6,List.flatMap_append];simp
theorem all_sorted{f:TFunc}:(Zv f).Pairwise (fun a b=>a.At<b.At):=by
 have key:∀ n,(preH f n).Pairwise (fun a b=>a.At<b.At)/\∀ v∈preH f n,v.At<(n:Int):=by
  intro n
  induction n with
  | zero=>exact⟨by simp[preH],by simp[preH]⟩
  | succ n ih=>
   rw[pre_succ]
   cases ho:Rn f n with
   | none=>exact⟨by simpa using ih.1,fun v hv=>by have:=ih.2 v (by simpa using hv);omega⟩
   | some w=>
    have ew:=ham_at ho
    constructor
    ·rw[zzL119];refine⟨ih.1,by simp,fun a ha b hb=>?_⟩
     have:b=w:=by simpa using hb
     rw[this,ew];exact ih.2 a ha
    ·intro v hv;rcases zzL13.1 hv with h1|h1
     ·have:=ih.2 v h1;omega
     ·have:v=w:=by simpa using h1
      rw[this,ew];omega
 exact(key f.Blocks.length).1
theorem mid_at{f:TFunc}(R:Rt f){v:THammock}(hv:v∈Zv f){x:Int}(hx:0<=x)(he:x=v.Then\/x=v.Else):prF f x.toNat=[v.At]:=by
 obtain⟨i,hin,ho⟩:=mem_all.1 hv;have ea:=ham_at ho;obtain⟨_,_,_,_,hcs⟩:=ham_in R hin ho
 have g:∀ y:Int,Rv f i y=true->prF f y.toNat=[v.At]:=fun y hm=>by
  unfold Rv at hm;simp only[A6,F0]at hm;rw[ea];exact hm.2
 rcases hcs with⟨a,b,c,d,_⟩|⟨a,b,_,d,_⟩|⟨a,b,_,d,_⟩<;>rcases he with rfl|rfl
 ·exact g _ c
 ·exact g _ d
 ·exact g _ d
 ·rw[b]at hx;omega
 ·rw[a]at hx;omega
 ·exact g _ d
theorem loop_allT{X:Type}(f:Int->Option (LR Int X))(yes:X)(n:Nat)(hn:∀ i,i<n->f (i:Int)=some (.next (((i+1:Nat):Int))))(he:f (n:Int)=some (.done yes)):Am f (0:Int)=some yes:=
 Rr f (fun i=>((i:Nat):Int)) yes n hn he
theorem apart14(f:TFunc)(hf:InF f):D2 f=some true:=by
 unfold D2;rw[m_awake14,Au,E9,A0];obtain⟨b,hb,hsm⟩:=m_small11 hf;rw[hb,Au]
 cases b with
 | false=>rfl
 | true=>
  have h:=hsm rfl;rw[E9,A0,m_All' h,Au];have hlen:=small_n h
  have hL:Am (Ca f (allHR f)) (0:Int)=some (.inl ()):=by
   refine loop_allT _ _ (allHR f).length (fun i hi=>?_) (by unfold Ca;simp only[K0,A0]);have hv:=A5 (d:=(default:THammock)) hi;have hiv:=isHR_mem.2 hv
   have hc:okF f=true:=by unfold Ur at hiv;rw[A6]at hiv;exact hiv.1
   have R:=rt_of h (by simpa [okF] using hc)
   have hA:allHR f=Zv f:=by unfold allHR;rw[hc];rfl
   have hsort:=all_sorted (f:=f);rw[<- hA]at hsort
   have hlt:∀ k,k<i->((allHR f).getD k default).At<((allHR f).getD i default).At:=fun k hk=>by
    rw[Af _ _ _ (show k<(allHR f).length by omega),Af _ _ _ hi];exact zzL118.1 hsort k i (by omega) hi hk
   have hin:Am (B9 (allHR f) (i:Int)) (0:Int)=some (.inl ()):=by
    refine loop_allT _ _ i (fun k hk=>?_) (by unfold B9;simp only[E8 (show ¬ ((i:Int)<(i:Int)) by omega),A0]);unfold B9;have hd:decide ((k:Int)<(i:Int))=true:=E1 (by omega);simp only[hd,Ah,Ai (Ax hi),Ai (Ax (show k<(allHR f).length by omega)),A1,w1 (show k<4611686018427387904 by omega)];have hw:=A5 (l:=allHR f) (d:=(default:THammock)) (show k<(allHR f).length by omega);have hne:=hlt k hk
    have apart:∀ x:Int,0<=x->(x=((allHR f).getD i default).Then\/x=((allHR f).getD i default).Else)->(x=((allHR f).getD k default).Then\/x=((allHR f).getD k default).Else)->False:=fun x hx h1 h2=>by
     have e1:=mid_at R (by rw[<- hA];exact hv) hx h1;have e2:=mid_at R (by rw[<- hA];exact hw) hx h2;rw[e1]at e2
     have:((allHR f).getD i default).At=((allHR f).getD k default).At:=by simpa using e2
     omega
    have c1:(bif (decide ((0:Int)<=((allHR f).getD i default).Then)) then(bif (((allHR f).getD i default).Then==((allHR f).getD k default).Then) then true else(((allHR f).getD i default).Then==((allHR f).getD k default).Else)) else false)=false:=by
     by_cases hx:(0:Int)<=((allHR f).getD i default).Then
     ·rw[E1 hx,Ah,show(((allHR f).getD i default).Then==((allHR f).getD k default).Then)=false by rw[zzL35];exact fun e=>apart _ hx (.inl rfl) (.inl e),A0,zzL35];exact fun e=>apart _ hx (.inl rfl) (.inr e)
     ·rw[E8 hx];rfl
    have c2:(bif (decide ((0:Int)<=((allHR f).getD i default).Else)) then(bif (((allHR f).getD i default).Else==((allHR f).getD k default).Then) then true else(((allHR f).getD i default).Else==((allHR f).getD k default).Else)) else false)=false:=by
     by_cases hx:(0:Int)<=((allHR f).getD i default).Else
     ·rw[E1 hx,Ah,show(((allHR f).getD i default).Else==((allHR f).getD k default).Then)=false by rw[zzL35];exact fun e=>apart _ hx (.inr rfl) (.inl e),A0,zzL35];exact fun e=>apart _ hx (.inr rfl) (.inr e)
     ·rw[E8 hx];rfl
    rw[c1,c2];rfl
   unfold Ca;simp only[F4 hi,Ah,Ai (Ax hi),A1,m_Is h,hiv,Au,m_Find h,findHR_some hiv,ham_beq,decide_true,E9,A0,hin,w1 (show i<4611686018427387904 by omega)];simp only[show((false:Bool)==false)=true from rfl,Ah,m_Cost h,hiv,Au]
   have hprev:(bif (decide ((0:Int)<(i:Int))) then(decide (((allHR f).getD i default).At<=((allHR f).getD (A9 ((i:Int)-1)).toNat default).At)) else false)=false:=by
    by_cases h0:0<i
    ·have ew:A9 ((i:Int)-1)=((i-1:Nat):Int):=by rw[Hn (by omega) (by omega)];omega
     rw[E1 (show(0:Int)<(i:Int) by omega),Ah,ew,A1];exact E8 (by have:=hlt (i-1) (by omega);omega)
    ·rw[E8 (show ¬ (0:Int)<(i:Int) by omega)];rfl
   rw[Ai (fun _=>Ax hi),Ai (fun hq=>?_),hprev,A0,Ai (fun _=>Ax hi),E8 (show ¬ ((opsH f ((allHR f).getD i default)).length:Int)<0 by omega)]
   ·rfl
   ·have h0:0<i:=by
     have:decide ((0:Int)<(i:Int))=true:=by simpa using hq
     have:=Wh this;omega
    have ew:A9 ((i:Int)-1)=((i-1:Nat):Int):=by rw[Hn (by omega) (by omega)];omega
    rw[ew];exact Ax (by omega)
  rw[hL];rfl
def hitB(L:List (List Int))(s:Nat->Bool)(i:Nat):Bool:=(List.range L.length).any fun j=>(Uy L i (-1)).getD j false&&s j
def goesE(L:List (List Int)):Nat->Nat->Bool
 | 0=>fun k=>(L.getD k []).isEmpty
 | m+1=>fun k=>goesE L m k || (decide (k=m)&&!hitB L (goesE L m) m)
def exitRow(L:List (List Int))(s:Nat->Bool)(k:Nat):List Int:=L.getD k []++(if s k=true then[(L.length:Int)] else[])
def withE(L:List (List Int))(s:Nat->Bool):List (List Int):=(List.range L.length).map (exitRow L s)++[[]]
def exitL(L:List (List Int)):List (List Int):=withE L (goesE L L.length)
def shutL(L:List (List Int)):List Int:=((List.range L.length).filter fun i=>!hitB L (goesE L 0) i).map Int.ofNat
section
variable {L:List (List Int)}
end
section
variable {S T:Nat->List Nat}
variable (hT:∀ x y,y∈T x->x∈S y)
include hT
end
section
variable {L:List (List Int)} (hm:J7 L=true)
include hm
end
def ptreeL(L:List (List Int)):List Int:=T8 (Db (exitL L)) L.length
structure Facts8:Prop where
 exit:∀(g:A3),Fits g.Succ->Fits g.Pred->Yb g=some (if Tj g=true/\g.Succ.length<64 then(Ti (exitL g.Succ),0) else(g0,5))
 tree:∀(g:A3),Fits g.Succ->Fits g.Pred->m_pdom_Tree g=some (if Tj g=true/\g.Succ.length<64 then ptreeL g.Succ else[])
 over:∀(t:List Int) (a b:Int),t.length<=64->m_pdom_Over t a b=some (R6 t a b)
 shut:∀(g:A3),Fits g.Succ->Fits g.Pred->m_pdom_Shut g=some (if Tj g=true then shutL g.Succ else[])
section
variable {L:List (List Int)} (hm:J7 L=true) (hn:L.length<64)
include hm hn
end
section
variable {L:List (List Int)}
variable (hm:J7 L=true)
include hm
omit hm in
omit hm in
end
section
variable {L:List (List Int)} (hm:J7 L=true)
include hm
variable (hn:L.length<64)
include hn
end
section
variable {f:TFunc} (R:Rt f)
include R
end
end
end Go.Proofs.YtmkiepobhjiabaaGreat
