/-
  The machine, the program's functions and the laws' arithmetic: part 5 of 5.
-/
import Derived.Test.YtggpeloimmlkgaaGreatPk4
set_option linter.unusedVariables false
set_option linter.unusedSimpArgs false
namespace Go.Proofs.YtggpeloimmlkgaaGreat
noncomputable section
open Go Go.RowKit
theorem sum_suc{α:Type}(l:List α)(g:α→Nat):(l.map fun a=>g a+1).sum=l.length+(l.map g).sum:=by
 induction l with
 | nil=>rfl
 | cons a l ih=>simp only[List.map_cons,List.sum_cons,ih,List.length_cons];omega
theorem w64_plus(a b:Int):A8 (a+A8 b)=A8 (a+b):=by rw[Int.add_comm,w64_add,Int.add_comm]
theorem xsize(f:TFunc)(hf:InF f):Ji f=some (sizeW f):=by
 have hl:=Xz f.Blocks (default:Ab) (fun b=>b.Phis.length+b.Ops.length) id (G2 f) (fun n i hi=>?_) (fun n=>?_) f.Blocks.length 0 f.Blocks.length (Nat.zero_add _)
 ·unfold Ji;rw[Uj (by have:=hf.blocks;rw[O5]at this;omega),show((0:Nat):Int)=0 from rfl]at hl;rw[hl,Option.bind_some,List.drop_zero,sizeW,L7,show(sizeB:Ab→Nat)=(fun b=>(b.Phis.length+b.Ops.length)+1) from rfl,sum_suc]
  rfl
 ·have e1:decide ((i:Int)<(f.Blocks.length:Int))=true:=decide_eq_true (by omega);unfold G2;simp only[e1,cond_true,Ao (Ay hi),Int.toNat_natCast,Gv hi hf.blocks,w64_plus,w64_add];rw[show(n:Int)+(((f.Blocks.getD i default).Phis.length:Int)+((f.Blocks.getD i default).Ops.length:Int))=((n+((f.Blocks.getD i default).Phis.length+(f.Blocks.getD i default).Ops.length):Nat):Int) by omega]
 ·have e1:decide ((f.Blocks.length:Int)<(f.Blocks.length:Int))=false:=by simp
  unfold G2;simp only[e1,cond_false,id]
theorem Qk{α:Type}(l:List α)(d:α)(p:α→Bool)(f:Int→Option (LR Int (Unit ⊕ Bool)))(hn:∀ i:Nat,i<l.length→f i=bif p (l.getD i d) then some (.next ((i:Int)+1)) else some (.done (.inr false)))
  (he:f l.length=some (.done (.inl ()))):Ak f 0=some (bif l.all p then .inl () else .inr false):=by
 have:=N5 l d p f (.inl ()) (.inr false) (fun i hi hp=>by rw[hn i hi,hp];rfl) (fun i hi hp=>by rw[hn i hi,hp];rfl) he l.length 0 (Nat.zero_add _)
 simpa using this
theorem numB_cond(x:Int):(bif decide (x<0) then true else decide (2147483647<x)) = !numB x:=by
 unfold numB
 by_cases h1:x<0
 ·have:¬ 0≤x:=by omega
  simp[h1,this]
 ·by_cases h2:2147483647<x
  ·have:¬ x≤2147483647:=by omega
   simp[h1,h2,this]
  ·have h3:0≤x:=by omega
   have h4:x≤2147483647:=by omega
   simp[h1,h2,h3,h4]
theorem Yn(l:List Int)(h:l.length≤maxLen):Cj l=some (l.all numB):=by
 have hl:=Qk l 0 numB (En l) (fun i hi=>?_) ?_
 ·unfold Cj;rw[hl]
  cases l.all numB<;>rfl
 ·have e1:decide ((i:Int)<(l.length:Int))=true:=decide_eq_true (by omega);unfold En;simp only[e1,cond_true,Ao (Ay hi),Int.toNat_natCast,numB_cond,Gv hi h]
  cases numB (l.getD i 0)<;>simp
 ·unfold En
  simp
theorem Pd(l:List Int)(h:l.length≤maxLen):D5 l=some (Jh l):=by
 unfold D5;rw[Yn l h]
 by_cases h1:l.length≤64
 ·have e1:decide ((l.length:Int)≤64)=true:=decide_eq_true (by omega);rw[e1];simp[Jh,h1]
 ·have e1:decide ((l.length:Int)≤64)=false:=decide_eq_false (by omega);rw[e1];simp[Jh,h1]
theorem Pa{l:List Int}(h:l.length≤10):l.length≤maxLen:=by rw[O5];omega
theorem xphiFits(p:Dx)(h1:p.From.length≤maxLen)(h2:p.Args.length≤maxLen):G4 p=some (Xd p):=by
 unfold G4 Xd;rw[Yn _ (Pa (by simp)),Pd _ h1,Pd _ h2];simp only[List.all_cons,List.all_nil,Bool.and_true]
 cases numB p.Bits<;>cases numB p.Dst<;>cases Jh p.From<;>cases Jh p.Args<;>rfl
theorem xopFits(o:D4)(h1:o.Args.length≤maxLen):Hv o=some (opB o):=by
 unfold Hv opB;rw[Yn _ (Pa (by simp)),Pd _ h1];simp only[List.all_cons,List.all_nil,Bool.and_true]
 cases numB o.Kind<;>cases numB o.Bits<;>cases numB o.Lanes<;>cases numB o.Dst<;>cases Jh o.Args<;>rfl
theorem xendFits(e:Eo)(h1:e.To.length≤maxLen):G3 e=some (endB e):=by
 unfold G3 endB;rw[Yn _ (Pa (by simp)),Pd _ h1];simp only[List.all_cons,List.all_nil,Bool.and_true]
 cases numB e.Kind<;>cases numB e.Arg<;>cases Jh e.To<;>rfl
theorem Vh{X:Type}(b:Bool)(x y:X):(bif !b then x else y)=bif b then y else x:=by cases b<;>rfl
theorem xphis_fit(l:List Dx)(hl:l.length≤maxLen)(h:∀ p∈l,p.From.length≤maxLen∧p.Args.length≤maxLen):D9 l=some (l.all Xd):=by
 have hl':=Qk l (default:Dx) Xd (De l) (fun i hi=>?_) ?_
 ·unfold D9;rw[hl']
  cases l.all Xd<;>rfl
 ·have e1:decide ((i:Int)<(l.length:Int))=true:=decide_eq_true (by omega);have:=h _ (A3 (d:=(default:Dx)) hi);unfold De;simp only[e1,cond_true,Ao (Ay hi),Int.toNat_natCast,xphiFits _ this.1 this.2,Option.bind_some,Vh,Gv hi hl,Int.natCast_add,Int.natCast_one]
 ·unfold De
  simp
theorem xops_fit(l:List D4)(hl:l.length≤maxLen)(h:∀ o∈l,o.Args.length≤maxLen):Em l=some (l.all opB):=by
 have hl':=Qk l (default:D4) opB (Dr l) (fun i hi=>?_) ?_
 ·unfold Em;rw[hl']
  cases l.all opB<;>rfl
 ·have e1:decide ((i:Int)<(l.length:Int))=true:=decide_eq_true (by omega);have:=h _ (A3 (d:=(default:D4)) hi);unfold Dr;simp only[e1,cond_true,Ao (Ay hi),Int.toNat_natCast,xopFits _ this,Option.bind_some,Vh,Gv hi hl,Int.natCast_add,Int.natCast_one]
 ·unfold Dr
  simp
theorem xblockFits(b:Ab)(h1:b.Phis.length≤maxLen)(h2:b.Ops.length≤maxLen)(h3:b.End.To.length≤maxLen)(h4:∀ p∈b.Phis,p.From.length≤maxLen∧p.Args.length≤maxLen)(h5:∀ o∈b.Ops,o.Args.length≤maxLen):F1 b=some (blockB b):=by
 unfold F1 blockB;rw[xphis_fit _ h1 h4,xops_fit _ h2 h5,xendFits _ h3]
 cases b.Phis.all Xd<;>cases b.Ops.all opB<;>cases endB b.End<;>rfl
theorem xblocks_fit(f:TFunc)(hf:InF f):Dq f.Blocks=some (f.Blocks.all blockB):=by
 have hl':=Qk f.Blocks (default:Ab) blockB (Cy f.Blocks) (fun i hi=>?_) ?_
 ·unfold Dq;rw[hl']
  cases f.Blocks.all blockB<;>rfl
 ·have e1:decide ((i:Int)<(f.Blocks.length:Int))=true:=decide_eq_true (by omega);have hm:=A3 (d:=(default:Ab)) hi;have q:=hf.block _ hm;unfold Cy;simp only[e1,cond_true,Ao (Ay hi),Int.toNat_natCast,xblockFits _ q.1 q.2.1 q.2.2 (hf.phi _ hm) (fun o ho=>(hf.op _ hm o ho).1),Option.bind_some,Vh,Gv hi hf.blocks,Int.natCast_add,Int.natCast_one]
 ·unfold Cy
  simp
theorem xmay(f:TFunc)(hf:InF f):Kh f=some (P8 f):=by
 unfold Kh P8;rw[xsize f hf,Yn _ hf.params,Yn _ (Pa (by simp)),xblocks_fit f hf];simp only[List.all_cons,List.all_nil,Bool.and_true,Jh]
 have d1:∀ n:Nat,decide ((n:Int)<1) = !decide (1≤n):=fun n=>by by_cases h:1≤n<;>simp[h]<;>omega
 have d2:∀ n:Nat,decide ((64:Int)<(n:Int)) = !decide (n≤64):=fun n=>by by_cases h:n≤64<;>simp[h]<;>omega
 have d3:∀ n:Nat,decide ((16:Int)<(n:Int)) = !decide (n≤16):=fun n=>by by_cases h:n≤16<;>simp[h]<;>omega
 have d4:∀ n:Int,decide ((512:Int)<n) = !decide (n≤512):=fun n=>by by_cases h:n≤512<;>simp[h]<;>omega
 simp only[d1,d2,d3,d4]
 have himp:decide (f.Params.length≤16)=true→decide (f.Params.length≤64)=true:=fun h=>by simp at h ⊢;omega
 revert himp
 generalize decide (1≤f.Blocks.length)=c1
 generalize decide (f.Blocks.length≤64)=c2
 generalize decide (f.Params.length≤16)=c3
 generalize decide (f.Params.length≤64)=c4
 generalize f.Params.all numB=c6
 generalize numB f.Ret=c7
 generalize f.Blocks.all blockB=c8
 cases c3 with
 | true=>
  intro h;obtain rfl:=h rfl;simp only[Bool.not_true,beq_self_eq_true,cond_true,Option.bind_some,cond_false]
  generalize decide (sizeW f≤512)=c5
  cases c1<;>cases c2<;>cases c6<;>cases c7<;>cases c8<;>cases c5<;>rfl
 | false=>
  intro _
  cases c1<;>cases c2<;>rfl
inductive Tp (t:List Int):Nat→Nat→Nat→Prop
 | top {x:Nat} (hx:x<t.length) (h:t.getD x 0 = -1):Tp t x x 0
 | up {x y r k:Nat} (hx:x<t.length) (h:t.getD x 0=(y:Int)) (hk:Tp t y r k):Tp t x r (k+1)
section
variable {t:List Int}
theorem Tp.lt{x r k:Nat}(h:Tp t x r k):x<t.length:=by cases h<;>assumption
theorem Tp.tops{x r k:Nat}(h:Tp t x r k):r<t.length∧t.getD r 0 = -1:=by
 induction h with
 | top hx h=>exact⟨hx,h⟩
 | up _ _ _ ih=>exact ih
theorem Tp.det{x r k r' k':Nat}(h:Tp t x r k)(h':Tp t x r' k'):r=r'∧k=k':=by
 induction h generalizing k' with
 | top hx h=>cases h' with
  | top=>exact⟨rfl,rfl⟩
  | up _ h2 _=>omega
 | up hx h1 _ ih=>cases h' with
  | top _ h2=>omega
  | up _ h2 k2=>
   have:_=_:=h1.symm.trans h2
   cases Int.ofNat.inj this
   obtain⟨e1,e2⟩:=ih k2;exact⟨e1,by omega⟩
theorem Tp.upTo{x r k:Nat}(h:Tp t x r k):UpTo (A7 t) x r:=by
 induction h with
 | top=>exact .refl _
 | up _ h _ ih=>exact .up h ih
theorem Tp.on{x r k z:Nat}(h:Tp t x r k)(hz:UpTo (A7 t) x z):∃ j,j≤k∧Tp t z r j∧(j=k→z=x):=by
 induction hz generalizing k with
 | refl x=>exact⟨k,Nat.le_refl _,h,fun _=>rfl⟩
 | up hp _ ih=>
  cases h with
  | top _ h2=>have:_=_:=hp.symm.trans h2;omega
  | up _ h2 k2=>
   have:_=_:=hp.symm.trans h2
   cases Int.ofNat.inj this
   obtain⟨j,h1,h3,_⟩:=ih k2;exact⟨j,by omega,h3,fun e=>by omega⟩
theorem Tp.anti{x r k z:Nat}(h:Tp t x r k)(h1:UpTo (A7 t) x z)(h2:UpTo (A7 t) z x):z=x:=by
 obtain⟨j,j1,j2,j3⟩:=h.on h1;obtain⟨i,i1,i2,i3⟩:=j2.on h2;have:=h.det i2;exact j3 (by omega)
theorem Tp.list{x r k:Nat}(h:Tp t x r k):∃ l:List Nat,l.length=k+1∧l.Nodup∧∀ y∈l,y<t.length∧∃ j,j≤k∧Tp t y r j:=by
 induction h with
 | top hx h=>exact⟨[_],rfl,by simp,fun y hy=>by rw[List.mem_singleton.1 hy];exact⟨hx,0,Nat.le_refl _,.top hx h⟩⟩
 | @up x y r k hx h hk ih=>
  obtain⟨l,h1,h2,h3⟩:=ih;refine⟨x::l,by simp[h1],List.nodup_cons.2 ⟨fun hm=>?_,h2⟩,fun z hz=>?_⟩
  ·obtain⟨_,j,hj,hj2⟩:=h3 _ hm;have:=(Tp.up hx h hk).det hj2;omega
  ·rcases List.mem_cons.1 hz with rfl|hz
   ·exact⟨hx,k+1,Nat.le_refl _,.up hx h hk⟩
   ·obtain⟨e1,j,e2,e3⟩:=h3 z hz;exact⟨e1,j,by omega,e3⟩
theorem Tp.short{x r k:Nat}(h:Tp t x r k):k<t.length:=by
 obtain⟨l,h1,h2,h3⟩:=h.list;have:=I6 t.length l h2 fun y hy=>(h3 y hy).1;omega
theorem Tp.upD{x r k:Nat}(h:Tp t x r k):∀ m,k<m→∃ q,upD t m (x:Int)=some q∧(∀ w:Int,w∈q↔∃ z:Nat,w=(z:Int)∧UpTo (A7 t) x z) ∧
  ∀ p:Int→Bool,(q.find? p=none∧∀ z:Nat,UpTo (A7 t) x z→p (z:Int)=false)∨∃ f:Nat,q.find? p=some (f:Int)∧UpTo (A7 t) x f∧p (f:Int)=true∧∀ z:Nat,UpTo (A7 t) x z→p (z:Int)=true→UpTo (A7 t) f z:=by
 induction h with
 | @top x hx h=>
  intro m hm;obtain⟨m,rfl⟩:∃ i,m=i+1:=⟨m-1,by omega⟩
  have htop:∀ z,UpTo (A7 t) x z↔z=x:=fun z=>T3 fun p hp=>by have:_=_:=hp.symm.trans h;omega
  unfold Go.Proofs.YtggpeloimmlkgaaGreat.upD;rw[if_pos ⟨by omega,by omega⟩,A6,if_pos h];refine⟨_,rfl,fun w=>?_,fun p=>?_⟩
  ·rw[List.mem_singleton]
   constructor
   ·rintro rfl;exact⟨x,rfl,.refl _⟩
   ·rintro⟨z,rfl,hz⟩;rw[(htop z).1 hz]
  ·cases hpp:p (x:Int) with
   | false=>exact .inl ⟨by simp[List.find?,hpp],fun z hz=>by rw[(htop z).1 hz];exact hpp⟩
   | true=>exact .inr ⟨x,by simp[List.find?,hpp],.refl _,hpp,fun z hz _=>hz⟩
 | @up x y r k hx h hk ih=>
  intro m hm;obtain⟨m,rfl⟩:∃ i,m=i+1:=⟨m-1,by omega⟩;unfold Go.Proofs.YtggpeloimmlkgaaGreat.upD;rw[if_pos ⟨by omega,by omega⟩,A6,if_neg (by omega),h];obtain⟨q,hq1,hq2,hq3⟩:=ih m (by omega);rw[hq1];refine⟨(x:Int)::q,rfl,fun w=>?_,fun p=>?_⟩
  ·rw[List.mem_cons,hq2 w]
   constructor
   ·rintro(rfl|⟨y,rfl,hy⟩)
    ·exact⟨x,rfl,.refl _⟩
    ·exact⟨y,rfl,.up h hy⟩
   ·rintro⟨y,rfl,hy⟩;rcases(anc_up h).1 hy with rfl|hy
    ·exact .inl rfl
    ·exact .inr ⟨y,rfl,hy⟩
  ·cases hpp:p (x:Int) with
   | true=>exact .inr ⟨x,by simp[List.find?,hpp],.refl _,hpp,fun y hy _=>hy⟩
   | false=>
    have hf:((x:Int)::q).find? p=q.find? p:=by simp[List.find?,hpp]
    rw[hf];rcases hq3 p with⟨e1,e2⟩|⟨f,e1,e2,e3,e4⟩
    ·refine .inl ⟨e1,fun y hy=>?_⟩;rcases(anc_up h).1 hy with rfl|hy
     ·exact hpp
     ·exact e2 y hy
    ·refine .inr ⟨f,e1,.up h e2,e3,fun y hy hpy=>?_⟩;rcases(anc_up h).1 hy with rfl|hy
     ·rw[hpp]at hpy;cases hpy
     ·exact e4 y hy hpy
theorem upD_tp:∀ m (a:Int) q,upD t m a=some q→∃ x r k:Nat,a=(x:Int)∧k<m∧Tp t x r k:=by
 intro m
 induction m with
 | zero=>intro a q h;cases h
 | succ m ih=>
  intro a q h;unfold Go.Proofs.YtggpeloimmlkgaaGreat.upD at h
  by_cases ha:0≤a∧a<(t.length:Int)
  ·rw[if_pos ha]at h;have e:((a.toNat:Nat):Int)=a:=Int.toNat_of_nonneg ha.1
   by_cases h1:t.getD a.toNat 0 = -1
   ·exact⟨a.toNat,a.toNat,0,e.symm,by omega,.top (by omega) h1⟩
   ·rw[if_neg h1]at h
    cases hu:Go.Proofs.YtggpeloimmlkgaaGreat.upD t m (t.getD a.toNat 0) with
    | none=>rw[hu]at h;cases h
    | some q'=>
     obtain⟨y,r,k,e1,e2,e3⟩:=ih _ _ hu;exact⟨a.toNat,r,k+1,e.symm,by omega,.up (by omega) e1 e3⟩
  ·rw[if_neg ha]at h;cases h
theorem pathD_tp{a:Int}:Gb t a≠[]↔∃ x r k:Nat,a=(x:Int)∧Tp t x r k:=by
 constructor
 ·intro h
  cases hu:upD t t.length a with
  | none=>exact absurd (pathD_nil.2 hu) h
  | some q=>obtain⟨x,r,k,e1,_,e2⟩:=upD_tp _ _ _ hu;exact⟨x,r,k,e1,e2⟩
 ·rintro⟨x,r,k,rfl,h⟩ e;obtain⟨q,hq,_⟩:=h.upD t.length h.short;rw[pathD_nil.1 e]at hq;cases hq
theorem Tp.path{x r k:Nat}(h:Tp t x r k):(∀ w:Int,w∈Gb t (x:Int)↔∃ z:Nat,w=(z:Int)∧UpTo (A7 t) x z) ∧
  ∀ p:Int→Bool,((Gb t (x:Int)).find? p=none∧∀ z:Nat,UpTo (A7 t) x z→p (z:Int)=false)∨∃ f:Nat,(Gb t (x:Int)).find? p=some (f:Int)∧UpTo (A7 t) x f∧p (f:Int)=true∧∀ z:Nat,UpTo (A7 t) x z→p (z:Int)=true→UpTo (A7 t) f z:=by
 obtain⟨q,h1,h2,h3⟩:=h.upD t.length h.short
 have e:Gb t (x:Int)=q:=by unfold Gb;rw[h1];rfl
 rw[e];exact⟨h2,h3⟩
theorem U1{α:Type}{l:List α}{i j:Nat}{x d:α}(hi:i<l.length):(l.set i x).getD j d=if j=i then x else l.getD j d:=by
 by_cases h:j=i
 ·subst h;simp[List.getD,hi]
 ·simp[List.getD,h,Ne.symm h]
theorem meet_L1{x r k:Nat}(h:Tp t x r k):∀ l:List Bool,l.length=t.length→∃ l',Ak (Df t) ((x:Int),l)=some l'∧l'.length=t.length∧∀ z,z<t.length→(l'.getD z false=true↔l.getD z false=true∨UpTo (A7 t) x z):=by
 induction h with
 | @top x hx h=>
  intro l hl
  have hs:Df t ((x:Int),l)=some (.next (-1,l.set x true)):=by
   unfold Df
   have hb:((x:Int)!=(-1:Int))=true:=by rw[bne_iff_ne];omega
   simp only[hb,cond_true,A6,h];rw[Ai (Id (by omega)),Ai (Id hx)]
  have hd:Df t (-1,l.set x true)=some (.done (l.set x true)):=by
   unfold Df
   rfl
  refine⟨l.set x true,by rw[Ar hs,Am hd],by simp[hl],fun z hz=>?_⟩;rw[U1 (by omega)]
  have htop:UpTo (A7 t) x z↔z=x:=T3 fun p hp=>by have:_=_:=hp.symm.trans h;omega
  rw[htop]
  by_cases e:z=x
  ·simp[e]
  ·simp[e]
 | @up x y r k hx h hk ih=>
  intro l hl
  have hs:Df t ((x:Int),l)=some (.next ((y:Int),l.set x true)):=by
   unfold Df
   have hb:((x:Int)!=(-1:Int))=true:=by rw[bne_iff_ne];omega
   simp only[hb,cond_true,A6,h];rw[Ai (Id (by omega)),Ai (Id hx)]
  obtain⟨l',e1,e2,e3⟩:=ih (l.set x true) (by simp[hl]);refine⟨l',by rw[Ar hs,e1],e2,fun z hz=>?_⟩;rw[e3 z hz,U1 (by omega),anc_up (par:=A7 t) h]
  by_cases e:z=x
  ·simp[e]
  ·simp[e]
theorem meet_L2{b r k:Nat}(h:Tp t b r k)(l:List Bool)(hl:l.length=t.length):l.getD r false=true→∃ c:Nat,Ak (Dg t l) (b:Int)=some (c:Int)∧UpTo (A7 t) b c∧l.getD c false=true∧∀ z,UpTo (A7 t) b z→l.getD z false=true→UpTo (A7 t) c z:=by
 induction h with
 | @top x hx h=>
  intro hr
  have hd:Dg t l (x:Int)=some (.done (x:Int)):=by
   unfold Dg;rw[Ai (Id (by omega)),A6,hr]
   rfl
  exact⟨x,Am hd,.refl _,hr,fun z hz _=>hz⟩
 | @up x y r k hx h hk ih=>
  intro hr
  cases hx2:l.getD x false with
  | true=>
   have hd:Dg t l (x:Int)=some (.done (x:Int)):=by
    unfold Dg;rw[Ai (Id (by omega)),A6,hx2]
    rfl
   exact⟨x,Am hd,.refl _,hx2,fun z hz _=>hz⟩
  | false=>
   have hs:Dg t l (x:Int)=some (.next (y:Int)):=by
    unfold Dg;rw[Ai (Id (by omega)),A6,hx2,Bool.not_false,cond_true,Ai (Id hx),h]
   obtain⟨c,e1,e2,e3,e4⟩:=ih hr;refine⟨c,by rw[Ar hs,e1],.up h e2,e3,fun z hz hlz=>?_⟩;rcases(anc_up (par:=A7 t) h).1 hz with rfl|hz
   ·rw[hx2]at hlz;cases hlz
   ·exact e4 z hz hlz
theorem S5(ht:t.length≤1000){a b r k m:Nat}(ha:Tp t a r k)(hb:Tp t b r m):∃ c:Nat,G5 t (a:Int) (b:Int)=some (c:Int)∧MeetAt (A7 t) a b c:=by
 unfold G5
 have hroom:(1000:Nat)≤room:=by decide
 rw[Ai ⟨by omega,by omega,by omega⟩,A6];obtain⟨l',h1,h2,h3⟩:=meet_L1 ha (List.replicate t.length false) (by simp);rw[h1,Option.bind_some]
 have h3':∀ z,z<t.length→(l'.getD z false=true↔UpTo (A7 t) a z):=fun z hz=>by rw[h3 z hz,Kq];simp
 obtain⟨c,e1,e2,e3,e4⟩:=meet_L2 hb l' h2 ((h3' r ha.tops.1).2 ha.upTo)
 have hc:c<t.length:=by obtain⟨j,_,hj,_⟩:=hb.on e2;exact hj.lt
 refine⟨c,by rw[e1];rfl,fun w=>⟨fun hw=>⟨((h3' c hc).1 e3).trans hw,e2.trans hw⟩,fun⟨hw1,hw2⟩=>?_⟩⟩;obtain⟨j,_,hj,_⟩:=ha.on hw1;exact e4 w hw2 ((h3' w hj.lt).2 hw1)
theorem meetD_at(hR:Hb t=true){a b r k m:Nat}(ha:Tp t a r k)(hb:Tp t b r m):∃ c:Nat,Jz t (a:Int) (b:Int)=(c:Int)∧MeetAt (A7 t) a b c:=by
 unfold Jz;rw[if_pos hR]
 have hcon:∀ z:Nat,(Gb t (b:Int)).contains (z:Int)=true↔UpTo (A7 t) b z:=fun z=>by
  rw[List.contains_iff_mem,hb.path.1]
  constructor
  ·rintro⟨y,e,hy⟩;cases Int.ofNat.inj e;exact hy
  ·intro hz;exact⟨z,rfl,hz⟩
 rcases ha.path.2 (fun x=>(Gb t (b:Int)).contains x) with⟨e1,e2⟩|⟨f,e1,e2,e3,e4⟩
 ·have:=e2 r ha.upTo;rw[(hcon r).2 hb.upTo]at this
  cases this
 ·exact⟨f,by rw[e1];rfl,fun w=>⟨fun hw=>⟨e2.trans hw,((hcon f).1 e3).trans hw⟩,fun⟨hw1,hw2⟩=>e4 w hw1 ((hcon w).2 hw2)⟩⟩
theorem MeetAt.same{a b r k c d:Nat}(ha:Tp t a r k)(hc:MeetAt (A7 t) a b c)(hd:MeetAt (A7 t) a b d):c=d:=by
 obtain⟨j,_,hj,_⟩:=ha.on ((hc c).1 (.refl _)).1;exact(hj.anti ((hc d).2 ((hd d).1 (.refl _))) ((hd c).2 ((hc c).1 (.refl _)))).symm
end
theorem m_index(t:List Int)(v:Int)(ht:t.length≤1000):(∃ r:Nat,r<t.length∧t.getD r 0=v∧(∀ i,i<r→t.getD i 0≠v)∧C6 t v=some (r:Int))∨((∀ i,i<t.length→t.getD i 0≠v)∧C6 t v=some (-1)):=by
 have key:∀ k i:Nat,i+k=t.length→(∀ j,j<i→t.getD j 0≠v)→
   (∃ r:Nat,r<t.length∧t.getD r 0=v∧(∀ i,i<r→t.getD i 0≠v)∧Ak (Bg t v) (i:Int)=some (.inr (r:Int)))∨((∀ i,i<t.length→t.getD i 0≠v)∧Ak (Bg t v) (i:Int)=some (.inl ())):=by
  intro k
  induction k with
  | zero=>
   intro i hi hj
   obtain rfl:i=t.length:=by omega
   refine .inr ⟨hj,Am ?_⟩;unfold Bg;rw[K4];rfl
  | succ k ih=>
   intro i hi hj
   by_cases e:v=t.getD i 0
   ·refine .inl ⟨i,by omega,e.symm,hj,Am ?_⟩;unfold Bg;have hb:((v:Int)==t.getD i 0)=true:=beq_iff_eq.2 e;simp only[Gi (show i<t.length by omega),cond_true,A6,hb];rw[Ai (Id (by omega))]
   ·have hs:Bg t v (i:Int)=some (.next ((i+1:Nat):Int)):=by
     unfold Bg;have hb:((v:Int)==t.getD i 0)=false:=beq_eq_false_iff_ne.2 e;simp only[Gi (show i<t.length by omega),cond_true,A6,hb,cond_false];rw[Ai (Id (by omega)),w1 (by omega)]
    rw[Ar hs]
    exact ih (i+1) (by omega) fun j hj2=>by
     by_cases ej:j=i
     ·subst ej;exact fun h=>e h.symm
     ·exact hj j (by omega)
 have h0:=key t.length 0 (by omega) (fun j hj=>absurd hj (Nat.not_lt_zero _));unfold C6;rcases h0 with⟨r,h1,h2,h3,h4⟩|⟨h1,h2⟩
 ·exact .inl ⟨r,h1,h2,h3,by rw[show((0:Int))=((0:Nat):Int) from rfl,h4];rfl⟩
 ·exact .inr ⟨h1,by rw[show((0:Int))=((0:Nat):Int) from rfl,h2];rfl⟩
section
variable {t:List Int}
structure Pl(t:List Int)(r f:Nat)(w:List Int):Prop where
 len:w.length=t.length
 old:∀ y,y<t.length→w.getD y 0≠0→(w.getD y 0≤(f:Int))∧∃ k,Tp t y r k
structure Walk(t:List Int)(r f x:Nat)(w:List Int):Prop where
 len:w.length=t.length
 hx:x<t.length
 old:∀ y,y<t.length→w.getD y 0≠0→w.getD y 0≤(f:Int)∧(∃ k,Tp t y r k)∨w.getD y 0=((f+1:Nat):Int)∧∀ r' k,Tp t x r' k→∃ j,k<j∧Tp t y r' j
 fwd:∀ r' k,Tp t x r' k→∃ j,k≤j∧Tp t f r' j
 back:∀ r' k,Tp t f r' k→∃ j,Tp t x r' j
def Yp(w:List Int):Nat:=w.countP fun z=>z==0
theorem zeros_set{w:List Int}{x:Nat}{v:Int}(hx:x<w.length)(h0:w.getD x 0=0)(hv:v≠0):Yp (w.set x v)<Yp w:=by
 unfold Yp;rw[List.countP_set hx];rw[Ad _ _ _ hx]at h0;have hp:0<w.countP fun z=>z==0:=List.countP_pos_iff.2 ⟨w[x],List.getElem_mem hx,by simp[h0]⟩;have hb:(v==0)=false:=beq_eq_false_iff_ne.2 hv;simp only[h0,beq_self_eq_true,if_true,hb,Bool.false_eq_true,if_false];omega
theorem leads_loop(ht:t.length≤1000){r:Nat}(hr:r<t.length)(htop:t.getD r 0 = -1){f:Nat}(hf:f<t.length):∀(m x:Nat) (w:List Int),Yp w≤m→Walk t r f x w→
  (∃ w',Ak (Cc t (f:Int) (r:Int)) ((x:Int),w)=some (.inl w')∧Pl t r (f+1) w'∧∃ k,Tp t f r k) ∨
  ∃ b w',Ak (Cc t (f:Int) (r:Int)) ((x:Int),w)=some (.inr (b,w'))∧w'.length=t.length∧(b=true→Pl t r (f+1) w'∧∃ k,Tp t f r k)∧(b=false→∀ k,¬ Tp t f r k):=by
 intro m
 induction m with
 | zero=>
  intro x w hz hw;exact go 0 (fun x w hz=>absurd hz (Nat.not_lt_zero _)) x w hz hw
 | succ m ih=>
  intro x w hz hw;exact go (m+1) (fun x w hz=>ih x w (Nat.le_of_lt_succ hz)) x w hz hw
where
 go (m:Nat) (ih:∀(x:Nat) (w:List Int),Yp w<m→Walk t r f x w→
  (∃ w',Ak (Cc t (f:Int) (r:Int)) ((x:Int),w)=some (.inl w')∧Pl t r (f+1) w'∧∃ k,Tp t f r k) ∨
  ∃ b w',Ak (Cc t (f:Int) (r:Int)) ((x:Int),w)=some (.inr (b,w'))∧w'.length=t.length∧(b=true→Pl t r (f+1) w'∧∃ k,Tp t f r k)∧(b=false→∀ k,¬ Tp t f r k)) (x:Nat) (w:List Int) (hz:Yp w≤m) (hw:Walk t r f x w) :
  (∃ w',Ak (Cc t (f:Int) (r:Int)) ((x:Int),w)=some (.inl w')∧Pl t r (f+1) w'∧∃ k,Tp t f r k) ∨
  ∃ b w',Ak (Cc t (f:Int) (r:Int)) ((x:Int),w)=some (.inr (b,w'))∧w'.length=t.length∧(b=true→Pl t r (f+1) w'∧∃ k,Tp t f r k)∧(b=false→∀ k,¬ Tp t f r k):=by
  have hxl:=hw.hx
  have told:∀ k,Tp t x r k→Pl t r (f+1) w∧∃ k,Tp t f r k:=fun k hk=>by
   obtain⟨j,_,hj⟩:=hw.fwd _ _ hk;refine⟨⟨hw.len,fun y hy hy0=>?_⟩,j,hj⟩;rcases hw.old y hy hy0 with⟨h1,h2⟩|⟨h1,h2⟩
   ·exact⟨by omega,h2⟩
   ·obtain⟨i,_,hi⟩:=h2 _ _ hk;exact⟨by omega,i,hi⟩
  by_cases hxr:x=r
  ·subst hxr;refine .inl ⟨w,Am ?_,told 0 (.top hr htop)⟩;unfold Cc
   have hb:((x:Int)!=(x:Int))=false:=by simp
   simp only[hb,cond_false]
  ·have hb:((x:Int)!=(r:Int))=true:=by rw[bne_iff_ne];omega
   have hin:Cg (x:Int) w.length:=Id (by rw[hw.len];exact hxl)
   by_cases hw0:w.getD x 0=0
   ·have hb0:((w.getD x 0:Int)!=0)=false:=by rw[hw0];rfl
    by_cases hpl:0≤t.getD x 0∧t.getD x 0<(t.length:Int)
    ·have hwf:A8 ((f:Int)+1)=((f+1:Nat):Int):=w1 (by omega)
     have hs:Cc t (f:Int) (r:Int) ((x:Int),w)=some (.next (t.getD x 0,w.set x ((f+1:Nat):Int))):=by
      unfold Cc Fu;simp only[hb,cond_true,A6,hb0,cond_false];rw[Ai hin,Ai (Id hxl),decide_eq_true hpl.1,decide_eq_true hpl.2,cond_true,Option.bind_some,Bool.not_true,cond_false,Ai hin,Ai (Id hxl),hwf]
     rw[Ar hs];obtain⟨y,hy⟩:∃ y:Nat,t.getD x 0=(y:Int):=⟨(t.getD x 0).toNat,(Int.toNat_of_nonneg hpl.1).symm⟩;rw[hy]at hpl ⊢
     have hyl:y<t.length:=by omega
     have hst:∀ r' k,Tp t y r' k→Tp t x r' (k+1):=fun r' k hk=>.up hxl hy hk
     have hset:∀ z,z<t.length→(w.set x ((f+1:Nat):Int)).getD z 0=if z=x then((f+1:Nat):Int) else w.getD z 0:=fun z _=>U1 (by rw[hw.len];exact hxl)
     have hW:Walk t r f y (w.set x ((f+1:Nat):Int)):=by
      refine⟨by simp[hw.len],hyl,fun z hzl hz0=>?_,fun r' k hk=>?_,fun r' k hk=>?_⟩
      ·rw[hset z hzl]at hz0 ⊢
       by_cases e:z=x
       ·subst e;rw[if_pos rfl];exact .inr ⟨rfl,fun r' k hk=>⟨k+1,by omega,hst r' k hk⟩⟩
       ·rw[if_neg e]at hz0 ⊢;rcases hw.old z hzl hz0 with h1|⟨h1,h2⟩
        ·exact .inl h1
        ·refine .inr ⟨h1,fun r' k hk=>?_⟩;obtain⟨j,hj1,hj2⟩:=h2 _ _ (hst r' k hk);exact⟨j,by omega,hj2⟩
      ·obtain⟨j,hj1,hj2⟩:=hw.fwd _ _ (hst r' k hk);exact⟨j,by omega,hj2⟩
      ·obtain⟨j,hj⟩:=hw.back _ _ hk
       cases hj with
       | top _ h2=>omega
       | up _ h2 h3=>
        have:=hy.symm.trans h2
        cases Int.ofNat.inj this
        exact⟨_,h3⟩
     have hzz:=zeros_set (x:=x) (v:=((f+1:Nat):Int)) (by rw[hw.len];exact hxl) hw0 (by omega);exact ih y _ (by omega) hW
    ·refine .inr ⟨false,w,Am ?_,hw.len,⟨fun h=>(by cases h),fun _ k hk=>?_⟩⟩
     ·unfold Cc Fu;simp only[hb,cond_true,A6,hb0,cond_false];rw[Ai hin,Ai (Id hxl)]
      have:(bif decide ((0:Int)≤t.getD x 0) then decide (t.getD x 0<(t.length:Int)) else false)=false:=by
       cases h1:decide ((0:Int)≤t.getD x 0) with
       | false=>rfl
       | true=>rw[cond_true];exact decide_eq_false fun h2=>hpl ⟨of_decide_eq_true h1,h2⟩
      rw[this,Option.bind_some]
      rfl
     ·obtain⟨j,hj⟩:=hw.back _ _ hk
      cases hj with
      | top=>exact hxr rfl
      | up _ h2 h3=>have:=h3.lt;exact hpl ⟨by omega,by omega⟩
   ·have hb0:((w.getD x 0:Int)!=0)=true:=by rw[bne_iff_ne];exact hw0
    have hwf:A8 ((f:Int)+1)=((f+1:Nat):Int):=w1 (by omega);refine .inr ⟨w.getD x 0 !=((f+1:Nat):Int),w,Am ?_,hw.len,⟨fun h=>?_,fun h k hk=>?_⟩⟩
    ·unfold Cc;simp only[hb,cond_true,A6,hb0];rw[Ai hin,Ai hin,hwf]
    ·rcases hw.old x hxl hw0 with⟨_,k,hk⟩|⟨h1,_⟩
     ·exact told k hk
     ·rw[h1]at h;simp at h
    ·have he:w.getD x 0=((f+1:Nat):Int):=by simpa using h
     obtain⟨j,hj⟩:=hw.back _ _ hk;rcases hw.old x hxl hw0 with⟨h1,_⟩|⟨_,h2⟩
     ·omega
     ·obtain⟨i,hi1,hi2⟩:=h2 _ _ hj;have:=hj.det hi2;omega
end
section
variable {t:List Int}
theorem m_leads(ht:t.length≤1000){r:Nat}(hr:r<t.length)(htop:t.getD r 0 = -1){f:Nat}(hf:f<t.length){w:List Int}(hw:Pl t r f w) :
  ∃ b w',Jk t w (f:Int) (r:Int)=some (b,w')∧w'.length=t.length∧(b=true→Pl t r (f+1) w'∧∃ k,Tp t f r k)∧(b=false→∀ k,¬ Tp t f r k):=by
 unfold Jk;have hW:Walk t r f f w:=⟨hw.len,hf,fun y hy h0=>.inl (hw.old y hy h0),fun r' k hk=>⟨k,Nat.le_refl _,hk⟩,fun r' k hk=>⟨k,hk⟩⟩;rcases leads_loop ht hr htop hf _ f w (Nat.le_refl _) hW with⟨w',e1,e2⟩|⟨b,w',e1,e2,e3,e4⟩
 ·exact⟨true,w',by rw[e1];rfl,e2.1.len,fun _=>e2,fun h=>by cases h⟩
 ·exact⟨b,w',by rw[e1];rfl,e2,e3,e4⟩
def Xi(t:List Int)(r:Nat):Prop:=∀ f,f<t.length→t.getD f 0≠-2→∃ k,Tp t f r k
open Classical in
theorem isTree_loop(ht:t.length≤1000){r:Nat}(hr:r<t.length)(htop:t.getD r 0 = -1):∀(k f:Nat) (w:List Int),f+k=t.length→Pl t r f w→(∀ y,y<f→t.getD y 0≠-2→∃ k,Tp t y r k)→
  Ak (Di t (r:Int)) ((f:Int),w)=some (if Xi t r then .inl () else .inr false):=by
 intro k
 induction k with
 | zero=>
  intro f w hk hw hd
  obtain rfl:f=t.length:=by omega
  apply Am
  unfold Di;simp only[K4,cond_false];rw[if_pos (show Xi t r from hd)]
 | succ k ih=>
  intro f w hk hw hd
  have hf:f<t.length:=by omega
  by_cases h2:t.getD f 0 = -2
  ·have hb:((t.getD f 0:Int)!=(-2))=false:=by rw[h2];rfl
   have hs:Di t (r:Int) ((f:Int),w)=some (.next (((f+1:Nat):Int),w)):=by
    unfold Di;simp only[Gi hf,cond_true,A6,hb,show(false==true)=false from rfl,cond_false,Option.bind_some];rw[Ai (Id hf),Ai (fun h=>by cases h),w1 (by omega)]
   rw[Ar hs];refine ih (f+1) w (by omega) ⟨hw.len,fun y hy h0=>?_⟩ fun y hy hy2=>?_
   ·obtain⟨e1,e2⟩:=hw.old y hy h0;exact⟨by omega,e2⟩
   ·by_cases e:y=f
    ·subst e;exact absurd h2 hy2
    ·exact hd y (by omega) hy2
  ·have hb:((t.getD f 0:Int)!=(-2))=true:=by rw[bne_iff_ne];exact h2
   obtain⟨b,w',e1,e2,e3,e4⟩:=m_leads ht hr htop hf hw
   cases b with
   | false=>
    rw[if_neg (fun hA:Xi t r=>by obtain⟨k,hk⟩:=hA f hf h2;exact e4 rfl k hk)]
    apply Am
    unfold Di;simp only[Gi hf,cond_true,A6,hb,show(true==true)=true from rfl,e1,Option.bind_some];rw[Ai (Id hf),Ai (fun _=>by rw[hw.len,e2])]
    rfl
   | true=>
    have hs:Di t (r:Int) ((f:Int),w)=some (.next (((f+1:Nat):Int),w')):=by
     unfold Di;simp only[Gi hf,cond_true,A6,hb,show(true==true)=true from rfl,e1,Option.bind_some];rw[Ai (Id hf),Ai (fun _=>by rw[hw.len,e2]),w1 (by omega)]
     rfl
    rw[Ar hs];obtain⟨e5,e6⟩:=e3 rfl;refine ih (f+1) w' (by omega) e5 fun y hy hy2=>?_
    by_cases e:y=f
    ·subst e;exact e6
    ·exact hd y (by omega) hy2
theorem tops_one:Rp t t.length=1↔∃ r,r<t.length∧t.getD r 0 = -1∧∀ x,x<t.length→t.getD x 0 = -1→x=r:=by
 have key:∀ n,(Rp t n=0↔∀ x,x<n→t.getD x 0≠-1)∧(Rp t n=1↔∃ r,r<n∧t.getD r 0 = -1∧∀ x,x<n→t.getD x 0 = -1→x=r):=by
  intro n
  induction n with
  | zero=>exact⟨⟨fun _ x hx=>absurd hx (Nat.not_lt_zero _),fun _=>rfl⟩,⟨fun h=>by simp[Rp]at h,fun⟨r,h,_⟩=>absurd h (Nat.not_lt_zero _)⟩⟩
  | succ n ih=>
   rw[Wg]
   by_cases e:t.getD n 0 = -1
   ·rw[if_pos e];refine⟨⟨fun h=>by omega,fun h=>absurd e (h n (by omega))⟩,⟨fun h=>⟨n,by omega,e,fun x hx hx1=>?_⟩,fun⟨r,h1,h2,h3⟩=>?_⟩⟩
    ·by_cases ex:x=n
     ·exact ex
     ·exact absurd hx1 (ih.1.1 (by omega) x (by omega))
    ·have:=ih.1.2 fun x hx hx1=>by
      have:=h3 x (by omega) hx1;have:=h3 n (by omega) e;omega
     omega
   ·rw[if_neg e,Nat.add_zero];refine⟨⟨fun h x hx=>?_,fun h=>ih.1.2 fun x hx=>h x (by omega)⟩,⟨fun h=>?_,fun⟨r,h1,h2,h3⟩=>?_⟩⟩
    ·by_cases ex:x=n
     ·subst ex;exact e
     ·exact ih.1.1 h x (by omega)
    ·obtain⟨r,h1,h2,h3⟩:=ih.2.1 h;refine⟨r,by omega,h2,fun x hx hx1=>?_⟩
     by_cases ex:x=n
     ·subst ex;exact absurd hx1 e
     ·exact h3 x (by omega) hx1
    ·refine ih.2.2 ⟨r,?_,h2,fun x hx hx1=>h3 x (by omega) hx1⟩
     by_cases ex:r=n
     ·subst ex;exact absurd h2 e
     ·omega
 exact(key _).2
theorem rightD_iff:Hb t=true↔∃ r,r<t.length∧t.getD r 0 = -1∧Xi t r:=by
 unfold Hb;rw[Bool.and_eq_true,all_range,decide_eq_true_eq,tops_one]
 constructor
 ·rintro⟨h1,r,h2,h3,h4⟩;refine⟨r,h2,h3,fun f hf hf2=>?_⟩;have:=h1 f hf;unfold okR at this;rw[Bool.or_eq_true,decide_eq_true_eq,Bool.not_eq_true',decide_eq_false_iff_not]at this;rcases this with h|h
  ·exact absurd h hf2
  ·obtain⟨x,r',k,e,hk⟩:=pathD_tp.1 h
   cases Int.ofNat.inj e
   have:=h4 _ hk.tops.1 hk.tops.2;subst this;exact⟨k,hk⟩
 ·rintro⟨r,h2,h3,h4⟩;refine⟨fun f hf=>?_,r,h2,h3,fun x hx hx1=>?_⟩
  ·unfold okR;rw[Bool.or_eq_true,decide_eq_true_eq,Bool.not_eq_true',decide_eq_false_iff_not]
   by_cases e:t.getD f 0 = -2
   ·exact .inl e
   ·obtain⟨k,hk⟩:=h4 f hf e;exact .inr (pathD_tp.2 ⟨f,r,k,rfl,hk⟩)
  ·obtain⟨k,hk⟩:=h4 x hx (by omega);exact((hk.det (.top hx hx1)).1).symm
theorem Yh(hR:Hb t=true):∃ r,Xi t r:=by obtain⟨r,_,_,h⟩:=rightD_iff.1 hR;exact⟨r,h⟩
theorem m_isTree(ht:t.length≤1000):Ik t=some (Hb t):=by
 unfold Ik
 have hroom:(1000:Nat)≤room:=by decide
 rcases m_index t (-1) ht with⟨r,h1,h2,h3,h4⟩|⟨h1,h2⟩
 ·rw[h4,Option.bind_some,show decide ((r:Int)<0)=false from decide_eq_false (by omega),cond_false,Ai ⟨by omega,by omega,by omega⟩,A6];have hl:=isTree_loop ht h1 h2 t.length 0 (List.replicate t.length 0) (by omega) ⟨by simp,fun y hy h0=>absurd Kq h0⟩ (fun y hy=>absurd hy (Nat.not_lt_zero _));rw[show(((0:Nat):Int))=0 from rfl]at hl;rw[hl,Option.bind_some]
  by_cases hA:Xi t r
  ·rw[if_pos hA,rightD_iff.2 ⟨r,h1,h2,hA⟩]
  ·rw[if_neg hA]
   have:Hb t=false:=Bool.eq_false_iff.2 fun hR=>by
    obtain⟨r',g1,g2,g3⟩:=rightD_iff.1 hR;obtain⟨k,hk⟩:=g3 r h1 (by omega);have:=(hk.det (.top h1 h2)).1;subst this;exact hA g3
   rw[this]
 ·rw[h2,Option.bind_some]
  have:Hb t=false:=Bool.eq_false_iff.2 fun hR=>by
   obtain⟨r',g1,g2,g3⟩:=rightD_iff.1 hR;exact h1 r' g1 g2
  rw[this]
  rfl
def P5(t:List Int)(a:Int):Bool:=decide (0≤a)&&decide (a<(t.length:Int))&&decide (t.getD a.toNat 0≠-2)
theorem U2(hR:Hb t=true){a:Int}:P5 t a=true↔∃ x k r:Nat,a=(x:Int)∧Tp t x r k:=by
 unfold P5;rw[Bool.and_eq_true,Bool.and_eq_true,decide_eq_true_eq,decide_eq_true_eq,decide_eq_true_eq]
 constructor
 ·rintro⟨⟨h1,h2⟩,h3⟩;obtain⟨r,hA⟩:=Yh hR;obtain⟨k,hk⟩:=hA a.toNat (by omega) h3;exact⟨a.toNat,k,r,(Int.toNat_of_nonneg h1).symm,hk⟩
 ·rintro⟨x,k,r,rfl,h⟩;have:=h.lt;refine⟨⟨by omega,by omega⟩,?_⟩;rw[A6]
  cases h with
  | top _ h2=>omega
  | up _ h2 _=>omega
theorem Vd(a:Int):F2 t a=some (P5 t a):=by
 unfold F2 Fu P5;rw[Option.bind_some]
 cases h1:decide ((0:Int)≤a) with
 | false=>rfl
 | true=>
  rw[cond_true,Bool.true_and]
  cases h2:decide (a<(t.length:Int)) with
  | false=>rfl
  | true=>
   rw[Ai (fun _=>⟨of_decide_eq_true h1,of_decide_eq_true h2⟩),cond_true,Bool.true_and]
   congr 1
   rw[Bool.eq_iff_iff,bne_iff_ne,decide_eq_true_eq]
theorem m_areIn(ht:t.length≤1000)(a b:Int):Jj t a b=some (Hb t&&P5 t a&&P5 t b):=by
 unfold Jj;rw[m_isTree ht,Option.bind_some]
 cases Hb t with
 | false=>rfl
 | true=>
  simp only[show(true==true)=true from rfl,cond_true,Vd,Option.bind_some,Bool.true_and]
  cases P5 t a with
  | false=>rfl
  | true=>simp only[show(true==true)=true from rfl,cond_true,Vd,Option.bind_some,Bool.true_and]
theorem meetD_out{a b:Int}(h:(Hb t&&P5 t a&&P5 t b)=false):Jz t a b = -2:=by
 unfold Jz
 by_cases hR:Hb t=true
 ·rw[if_pos hR];rw[hR,Bool.true_and]at h
  have hno:∀ c,P5 t c=false→Gb t c=[]:=fun c hc=>by
   by_cases e:Gb t c=[]
   ·exact e
   ·obtain⟨x,r,k,e1,e2⟩:=pathD_tp.1 e;rw[(U2 hR).2 ⟨x,k,r,e1,e2⟩]at hc;cases hc
  cases ha:P5 t a with
  | false=>rw[hno a ha];rfl
  | true=>
   rw[ha,Bool.true_and]at h;rw[hno b h]
   have:((Gb t a).find? fun x=>([]:List Int).contains x)=none:=List.find?_eq_none.2 fun x _=>by simp
   rw[this]
   rfl
 ·rw[if_neg hR]
theorem Wy(ht:t.length≤1000){a b:Int}(h:(Hb t&&P5 t a&&P5 t b)=true):G5 t a b=some (Jz t a b)∧0≤Jz t a b:=by
 rw[Bool.and_eq_true,Bool.and_eq_true]at h;obtain⟨⟨hR,ha⟩,hb⟩:=h;obtain⟨x,k,r,rfl,hx⟩:=(U2 hR).1 ha;obtain⟨y,m,r',rfl,hy⟩:=(U2 hR).1 hb;obtain⟨rr,hA⟩:=Yh hR
 have top:∀{x r k},Tp t x r k→r=rr:=fun{x r k} h=>by
  obtain⟨i,hi⟩:=hA r h.tops.1 (by rw[h.tops.2];omega);exact((Tp.top h.tops.1 h.tops.2).det hi).1
 obtain rfl:=top hx;obtain rfl:=top hy;obtain⟨c,h1,h2⟩:=S5 ht hx hy;obtain⟨d,h3,h4⟩:=meetD_at hR hx hy;have:=h2.same hx h4;subst this;exact⟨by rw[h1,h3],by omega⟩
theorem m_Over(ht:t.length≤1000)(a b:Int):Ki t a b=some (Pv t a b):=by
 unfold Ki Pv;rw[m_areIn ht,Option.bind_some]
 cases h:(Hb t&&P5 t a&&P5 t b) with
 | false=>
  rw[meetD_out h]
  have:((-2:Int)==a&&((-2:Int)!=-2))=false:=by simp
  rw[this]
  rfl
 | true=>
  obtain⟨h1,h2⟩:=Wy ht h;simp only[show(true==true)=true from rfl,cond_true,h1,Option.bind_some]
  have:(Jz t a b !=-2)=true:=by rw[bne_iff_ne];omega
  rw[this,Bool.and_true]
end
theorem mul_fin:∀ n:Fin 65,H4 (Hs 1) (Hs ((n.val:Nat):Int))=some (0,((n.val:Nat):Int)):=by decide +kernel
theorem mul_small{n:Nat}(h:n≤64):H4 (Hs 1) (Hs (n:Int))=some (0,(n:Int)):=mul_fin ⟨n,by omega⟩
theorem repeat_loop{v:Int}{n:Nat}(hn:n≤64):∀(m i:Nat) (l:List Int),n-i≤m→1≤i→i≤n→l.length=n→(∀ j,j<i→l.getD j 0=v)→Ak Bp ((i:Int),l)=some (List.replicate n v):=by
 intro m
 induction m with
 | zero=>
  intro i l hm h1 h2 hl hv
  obtain rfl:i=n:=by omega
  exact fin l hl hv
 | succ m ih=>
  intro i l hm h1 h2 hl hv
  by_cases e:i=n
  ·subst e;exact fin l hl hv
  ·have hs:Bp ((i:Int),l)=some (.next (((i+Nat.min i (n-i):Nat):Int),cpL l i (Nat.min i (n-i)) (fun j=>l.getD (0+j) 0))):=by
    unfold Bp;simp only[hl,Gi (show i<n by omega),cond_true,A6,Nat.zero_add,Nat.sub_zero];have hc:(0:Int)≤(i:Int)∧i≤n:=⟨by omega,h2⟩;have hmn:Nat.min i (n-i)≤i:=Nat.min_le_left _ _;rw[Ai hc,Ai hc,Gx (by omega) (by omega),Int.natCast_add]
   rw[Ar hs];have hmn:Nat.min i (n-i)≤i∧Nat.min i (n-i)≤n-i:=⟨Nat.min_le_left _ _,Nat.min_le_right _ _⟩;have hge:1≤Nat.min i (n-i):=Nat.le_min.2 ⟨h1,by omega⟩;refine ih _ _ (by omega) (by omega) (by omega) (by rw[← E7];exact hl) fun j hj=>?_;rw[Ut _ _ _ _ _ _ (by omega)]
   by_cases hji:i≤j∧j<i+Nat.min i (n-i)
   ·rw[if_pos hji,Nat.zero_add];exact hv _ (by omega)
   ·rw[if_neg hji];exact hv _ (by omega)
where
 fin {v:Int} {i:Nat} (l:List Int) (hl:l.length=i) (hv:∀ j,j<i→l.getD j 0=v):Ak Bp ((i:Int),l)=some (List.replicate i v):=by
  apply Am
  unfold Bp;simp only[hl,K4,cond_false]
  congr 2
  refine List.ext_getElem (by simp[hl]) fun j h1 h2=>?_;rw[← Ad _ _ 0 h1,hv j (by omega)]
  simp
theorem m_repeat{v:Int}{n:Nat}(h1:1≤n)(hn:n≤64):Ds [v] (n:Int)=some (List.replicate n v):=by
 have hroom:(64:Nat)≤room:=by decide
 unfold Ds;rw[show decide ((n:Int)<0)=false from decide_eq_false (by omega),cond_false,Option.bind_some]
 show Option.bind (H4 (Hs 1) (Hs (n:Int))) _=_
 rw[mul_small hn,Option.bind_some];have e1:decide ((0:Int)<(0:Int))=false:=rfl;have e2:decide ((9223372036854775807:Int)<(n:Int))=false:=decide_eq_false (by omega);simp only[e1,e2,cond_false,Option.bind_some];have ew:A8 (n:Int)=(n:Int):=Gx (by omega) (by omega);rw[ew,Ai ⟨by omega,by omega,by omega⟩,A6,List.length_replicate,Nat.sub_zero];have em:Nat.min [v].length n=1:=Nat.min_eq_left h1;rw[em,repeat_loop hn n 1 _ (by omega) (Nat.le_refl _) h1 (by rw[← E7];simp) (fun j hj=>?_)]
 ·rfl
 ·rw[Ut _ _ _ _ _ _ (by simp;omega),if_pos ⟨by omega,by omega⟩]
  have:j-0=0:=by omega
  rw[this];rfl
theorem meet_v2(t:List Int)(a b:Int):Hw t a b=(G5 t a b).map fun c=>(c,t):=by
 have e1:I4 t=Df t:=rfl;have e2:I5 t=Dg t:=rfl;unfold Hw G5;rw[e1,e2]
 by_cases hc:0≤(t.length:Int)∧(t.length:Int)≤(t.length:Int)∧(t.length:Int)≤(room:Int)
 ·rw[Ai hc,Ai hc]
  cases Ak (Df t) (a,List.replicate ((t.length:Int)).toNat false) with
  | none=>rfl
  | some x=>
   rw[Option.bind_some,Option.bind_some]
   cases Ak (Dg t x) b with
   | none=>rfl
   | some y=>rfl
 ·have hf:∀{R:Type} (k:Option R),Cs (0≤(t.length:Int)∧(t.length:Int)≤(t.length:Int)∧(t.length:Int)≤(room:Int)) k=none:=fun k=>if_neg hc;rw[hf,hf]
  rfl
section
variable {S:Nat→List Nat} {r n:Nat} {P:List Nat}
theorem Inv.tp{at_:Nat→Nat}{t:List Int}(h:Inv S r n at_ (A7 t))(hl:t.length=n):∀ m x,at_ x≤m→x<n→A7 t x≠-2→∃ k,Tp t x r k:=by
 intro m
 induction m with
 | zero=>
  intro x hm hx hp;rcases h.kind x hx with h1|h1|⟨z,hz⟩
  ·exact absurd h1 hp
  ·subst h1;exact⟨0,.top (by omega) h.top⟩
  ·obtain⟨_,_,h3,_⟩:=h.up x hx z hz;omega
 | succ m ih=>
  intro x hm hx hp;rcases h.kind x hx with h1|h1|⟨z,hz⟩
  ·exact absurd h1 hp
  ·subst h1;exact⟨0,.top (by omega) h.top⟩
  ·obtain⟨z1,z2,z3,_⟩:=h.up x hx z hz;obtain⟨k,hk⟩:=ih z (by omega) z1 z2;exact⟨k+1,.up (by omega) hz hk⟩
def Qg(t l:List Int)(i:Nat)(v:Int):Prop:=
 (v = -2∧∀ j,j<i→A7 t (l.getD j 0).toNat = -2) ∨
 ∃ z:Nat,v=(z:Int)∧z<t.length∧A7 t z≠-2∧(∀ w,UpTo (A7 t) z w↔∀ j,j<i→A7 t (l.getD j 0).toNat≠-2→UpTo (A7 t) (l.getD j 0).toNat w)
theorem Zg{at_:Nat→Nat}{t l:List Int}(ht:t.length≤64)(hll:l.length≤64)(h:Inv S r n at_ (A7 t))(hl:t.length=n)(hin:∀ x∈l,0≤x∧x<(n:Int)):∀(k i:Nat) (v:Int),i+k=l.length→Qg t l i v→
  ∃ v',Ak (B1 l) (v,(i:Int),t)=some (v',t)∧Qg t l l.length v':=by
 intro k
 induction k with
 | zero=>
  intro i v hi hv
  obtain rfl:i=l.length:=by omega
  refine⟨v,Am ?_,hv⟩;unfold B1;simp only[K4,cond_false]
 | succ k ih=>
  intro i v hi hv
  have hil:i<l.length:=by omega
  obtain⟨x0,x1⟩:=hin _ (A3 (d:=0) hil);have hxe:(((l.getD i 0).toNat:Nat):Int)=l.getD i 0:=Int.toNat_of_nonneg x0;have hxin:Cg (l.getD i 0) t.length:=inbz x0 (by omega)
  have next:∀ v',B1 l (v,(i:Int),t)=some (.next (v',((i+1:Nat):Int),t))→Qg t l (i+1) v'→∃ v',Ak (B1 l) (v,(i:Int),t)=some (v',t)∧Qg t l l.length v':=fun v' hs hv'=>by
   rw[Ar hs];exact ih (i+1) v' (by omega) hv'
  by_cases hp:A7 t (l.getD i 0).toNat = -2
  ·have hb:((t.getD (l.getD i 0).toNat 0:Int)==-2)=true:=beq_iff_eq.2 hp;refine next v ?_ ?_
   ·unfold B1;simp only[Gi hil,cond_true,A6,hb];rw[Ai (Id hil),Ai hxin,Option.bind_some,w1 (by omega)]
   ·have hstep:∀ w,(∀ j,j<i→A7 t (l.getD j 0).toNat≠-2→UpTo (A7 t) (l.getD j 0).toNat w)↔∀ j,j<i+1→A7 t (l.getD j 0).toNat≠-2→UpTo (A7 t) (l.getD j 0).toNat w:=fun w=>by
     refine⟨fun hj j hj1 hj2=>?_,fun hj j hj1=>hj j (by omega)⟩
     by_cases e:j=i
     ·subst e;exact absurd hp hj2
     ·exact hj j (by omega) hj2
    rcases hv with⟨h1,h2⟩|⟨z,h1,h2,h3,h4⟩
    ·refine .inl ⟨h1,fun j hj=>?_⟩
     by_cases e:j=i
     ·subst e;exact hp
     ·exact h2 j (by omega)
    ·exact .inr ⟨z,h1,h2,h3,fun w=>by rw[h4 w,hstep w]⟩
  ·have hb:((t.getD (l.getD i 0).toNat 0:Int)==-2)=false:=beq_eq_false_iff_ne.2 hp;rcases hv with⟨h1,h2⟩|⟨z,h1,h2,h3,h4⟩
   ·subst h1;refine next (l.getD i 0) ?_ (.inr ⟨(l.getD i 0).toNat,hxe.symm,by omega,hp,fun w=>⟨fun hw j hj hj2=>?_,fun hw=>hw i (by omega) hp⟩⟩)
    ·unfold B1;simp only[Gi hil,cond_true,A6,hb,cond_false,show((-2:Int)==-2)=true from rfl];rw[Ai (Id hil),Ai hxin,Option.bind_some,w1 (by omega)]
    ·by_cases e:j=i
     ·subst e;exact hw
     ·exact absurd (h2 j (by omega)) hj2
   ·subst h1;have hb2:((z:Int)==-2)=false:=beq_eq_false_iff_ne.2 (by omega);obtain⟨k1,hk1⟩:=h.tp hl _ z (Nat.le_refl _) (by omega) h3;obtain⟨k2,hk2⟩:=h.tp hl _ (l.getD i 0).toNat (Nat.le_refl _) (by omega) hp;obtain⟨c,c1,c2⟩:=S5 (by omega) hk1 hk2;have hcz:=(c2 c).1 (.refl _);obtain⟨jc,_,hjc,_⟩:=hk1.on hcz.1
    have hcp:A7 t c≠-2:=by
     show t.getD c 0≠-2
     cases hjc with
     | top _ h=>omega
     | up _ h _=>omega
    refine next (c:Int) ?_ (.inr ⟨c,rfl,hjc.lt,hcp,fun w=>?_⟩)
    ·rw[hxe]at c1;unfold B1;simp only[Gi hil,cond_true,A6,hb,cond_false,hb2,meet_v2,c1,Option.map_some,Option.bind_some];rw[Ai (Id hil),Ai hxin,Ai trivial,Option.bind_some,w1 (by omega)]
    ·rw[c2 w,h4 w];refine⟨fun⟨a1,a2⟩ j hj hj2=>?_,fun ha=>⟨fun j hj=>ha j (by omega),ha i (by omega) hp⟩⟩
     by_cases e:j=i
     ·subst e;exact a2
     ·exact a1 j (by omega) hj2
theorem m_meetAll{at_:Nat→Nat}{t l:List Int}(ht:t.length≤64)(hll:l.length≤64)(h:Inv S r n at_ (A7 t))(hl:t.length=n)(hin:∀ x∈l,0≤x∧x<(n:Int)) :
  ∃ v,Ed t l=some (v,t)∧Qg t l l.length v:=by
 obtain⟨v,h1,h2⟩:=Zg ht hll h hl hin l.length 0 (-2) (by omega) (.inl ⟨rfl,fun j hj=>absurd hj (Nat.not_lt_zero _)⟩);refine⟨v,?_,h2⟩;unfold Ed;rw[show((0:Int))=((0:Nat):Int) from rfl,h1]
 rfl
end
section
variable {L:List (List Int)} (hm:Jm L=true) {r:Nat} {P:List Nat}
include hm
theorem sN_iff{p y:Nat}(hp:p<L.length):y∈sN L p↔Sz L p y=true:=by
 rw[goes_iff];obtain⟨_,_,h3⟩:=mayS_iff.1 hm
 constructor
 ·intro h;obtain⟨x,hx,rfl⟩:=List.mem_map.1 h;have:=okL_mem (h3 p hp) hx;rw[Int.toNat_of_nonneg this.1];exact hx
 ·intro h;exact List.mem_map.2 ⟨_,h,A6 y⟩
theorem Ri{y:Nat}(hy:y<L.length){x:Int}:x∈(Ex L).getD y []↔∃ p:Nat,x=(p:Int)∧p<L.length∧y∈sN L p:=by
 rw[Ye hy];unfold H6;rw[mem_filt]
 constructor
 ·rintro⟨k,h1,h2,h3⟩;exact⟨k,h1,h2,(sN_iff hm h2).2 h3⟩
 ·rintro⟨k,h1,h2,h3⟩;exact⟨k,h1,h2,(sN_iff hm h2).1 h3⟩
theorem Zf(o:Ordered (sN L) r L.length P){t:List Int}{i:Nat}(h:Ready (sN L) r L.length P t i)(hi:i<P.length) :
  Ed t ((Ex L).getD (P.getD i 0) [])=some ((H3 (sN L) L.length t (P.getD i 0):Int),t):=by
 obtain⟨hL1,hL64,_⟩:=mayS_iff.1 hm;have hyn:P.getD i 0<L.length:=o.lt (List.mem_cons_of_mem _ (J7 hi))
 have hlen:((Ex L).getD (P.getD i 0) []).length≤64:=by
  rw[Ye hyn];have:=Qb L L.length (P.getD i 0);omega
 obtain⟨v,h1,h2⟩:=m_meetAll (by rw[h.len];exact hL64) hlen h.inv h.len fun x hx=>by
  obtain⟨p,rfl,hp,_⟩:=(Ri hm hyn).1 hx;omega
 rw[h1];have hb:=h.best o hi
 have mem:∀ p,p<L.length→P.getD i 0∈sN L p→∃ j,j<((Ex L).getD (P.getD i 0) []).length∧(((Ex L).getD (P.getD i 0) []).getD j 0).toNat=p:=fun p hp hy=>by
  obtain⟨j,hj,e⟩:=List.getElem_of_mem ((Ri hm hyn).2 ⟨p,rfl,hp,hy⟩);exact⟨j,hj,by rw[Ad _ _ _ hj,e,A6]⟩
 have mem':∀ j,j<((Ex L).getD (P.getD i 0) []).length→(((Ex L).getD (P.getD i 0) []).getD j 0).toNat<L.length∧P.getD i 0∈sN L (((Ex L).getD (P.getD i 0) []).getD j 0).toNat:=fun j hj=>by
  obtain⟨p,e,hp,hy⟩:=(Ri hm hyn).1 (A3 (d:=(0:Int)) hj);rw[e,A6];exact⟨hp,hy⟩
 rcases h2 with⟨rfl,h3⟩|⟨z,rfl,hz,hz2,h4⟩
 ·obtain⟨p,hp,hyp,hp2,_⟩:=hb.fwd;obtain⟨j,hj,e⟩:=mem p hp hyp;exact absurd (by rw[← e];exact h3 j hj) hp2
 ·have hbest:Best (sN L) L.length (A7 t) (P.getD i 0) z:=fun w=>by
   rw[h4 w];refine⟨fun ha p hp hyp hp2=>?_,fun ha j hj hj2=>?_⟩
   ·obtain⟨j,hj,e⟩:=mem p hp hyp;have:=ha j hj (by rw[e];exact hp2);rwa[e]at this
   ·obtain⟨q1,q2⟩:=mem' j hj;exact ha _ q1 q2 hj2
  rw[h.best_eq o hi (by rw[← h.len];exact hz) hz2 hbest]
end
theorem ofN_getD{P:List Nat}{i:Nat}(h:i<P.length):(Lj P).getD i 0=((P.getD i 0:Nat):Int):=by
 unfold Lj;rw[Ad _ _ _ (by simpa using h),Ad _ _ _ h,List.getElem_map]
 rfl
theorem set_same{t:List Int}{x:Nat}{v:Int}(hx:x<t.length)(h:t.getD x 0=v):t.set x v=t:=by
 subst h;rw[Ad _ _ _ hx];exact List.set_getElem_self hx
section
variable {L:List (List Int)} (hm:Jm L=true) {r:Nat} {P:List Nat} (o:Ordered (sN L) r L.length P)
include hm o
theorem round_loop{t0:List Int}(h:Ready (sN L) r L.length P t0 0):∀(k i:Nat) (b:Bool),i+k=P.length→
  ∃ b',Ak (C1 (Ru L) (Lj (r::P))) (b,(i:Int),Nq (sN L) L.length P t0 i)=some (b',Nq (sN L) L.length P t0 P.length) ∧
   (b'=false↔b=false∧∀ j,i≤j→j<P.length→A7 (Nq (sN L) L.length P t0 j) (P.getD j 0)=(H3 (sN L) L.length (Nq (sN L) L.length P t0 j) (P.getD j 0):Int)):=by
 have hP64:P.length≤64:=by
  have h1:=I6 L.length (r::P) o.nodup fun x hx=>o.lt hx;have h2:=(mayS_iff.1 hm).2.1;simp at h1;omega
 have hdl:(Lj (r::P)).drop (1:Int).toNat=Lj P:=rfl
 have hlen:(Lj P).length=P.length:=by simp[Lj]
 intro k
 induction k with
 | zero=>
  intro i b hi
  obtain rfl:i=P.length:=by omega
  refine⟨b,Am ?_,fun h=>⟨h,fun j h1 h2=>by omega⟩,fun h=>h.1⟩;unfold C1;simp only[hdl,hlen,K4,cond_false]
 | succ k ih=>
  intro i b hi
  have hil:i<P.length:=by omega
  have rd:=h.round o i (by omega);have hma:=Zf hm o rd hil;have hyn:P.getD i 0<L.length:=o.lt (List.mem_cons_of_mem _ (J7 hil))
  have hyt:P.getD i 0<(Nq (sN L) L.length P t0 i).length:=by rw[rd.len];exact hyn
  have hpred:(Ru L).Pred=Ex L:=rfl
  by_cases he:A7 (Nq (sN L) L.length P t0 i) (P.getD i 0)=(H3 (sN L) L.length (Nq (sN L) L.length P t0 i) (P.getD i 0):Int)
  ·have hb:((H3 (sN L) L.length (Nq (sN L) L.length P t0 i) (P.getD i 0):Int)!=(Nq (sN L) L.length P t0 i).getD (P.getD i 0) 0)=false:=by
    have:(Nq (sN L) L.length P t0 i).getD (P.getD i 0) 0=_:=he;rw[this];simp
   have hnx:Nq (sN L) L.length P t0 (i+1)=Nq (sN L) L.length P t0 i:=set_same hyt he
   have hs:C1 (Ru L) (Lj (r::P)) (b,(i:Int),Nq (sN L) L.length P t0 i)=some (.next (b,((i+1:Nat):Int),Nq (sN L) L.length P t0 (i+1))):=by
    unfold C1;simp only[hdl,hlen,Gi hil,cond_true,A6,ofN_getD hil,hpred,hma,Option.bind_some,hb,cond_false];rw[Ai (Id hil),Ai (Id (by rw[Kp];exact hyn)),Ai trivial,Ai (Id hyt),Option.bind_some,w1 (by omega),hnx]
   obtain⟨b',e1,e2⟩:=ih (i+1) b (by omega);refine⟨b',by rw[Ar hs,e1],fun h=>?_,fun⟨h1,h2⟩=>e2.2 ⟨h1,fun j hj=>h2 j (by omega)⟩⟩;obtain⟨h1,h2⟩:=e2.1 h;refine⟨h1,fun j hj1 hj2=>?_⟩
   by_cases e:j=i
   ·subst e;exact he
   ·exact h2 j (by omega) hj2
  ·have hb:((H3 (sN L) L.length (Nq (sN L) L.length P t0 i) (P.getD i 0):Int)!=(Nq (sN L) L.length P t0 i).getD (P.getD i 0) 0)=true:=by
    rw[bne_iff_ne];exact fun e=>he e.symm
   have hs:C1 (Ru L) (Lj (r::P)) (b,(i:Int),Nq (sN L) L.length P t0 i)=some (.next (true,((i+1:Nat):Int),Nq (sN L) L.length P t0 (i+1))):=by
    unfold C1;simp only[hdl,hlen,Gi hil,cond_true,A6,ofN_getD hil,hpred,hma,Option.bind_some,hb];rw[Ai (Id hil),Ai (Id (by rw[Kp];exact hyn)),Ai trivial,Ai (Id hyt),Ai (Id hyt),Option.bind_some,w1 (by omega)]
    rfl
   obtain⟨b',e1,e2⟩:=ih (i+1) true (by omega);refine⟨b',by rw[Ar hs,e1],fun h=>?_,fun⟨h1,h2⟩=>absurd (h2 i (Nat.le_refl _) hil) he⟩;obtain⟨h1,_⟩:=e2.1 h;cases h1
theorem round_all{t0:List Int}(h:Ready (sN L) r L.length P t0 0):∃ b,Ak (C1 (Ru L) (Lj (r::P))) (false,(0:Int),t0)=some (b,Nq (sN L) L.length P t0 P.length)∧(b=false↔M5 (sN L) L.length P t0):=by
 obtain⟨b,e1,e2⟩:=round_loop hm o h P.length 0 false (by omega);refine⟨b,e1,e2.trans ⟨fun⟨_,h2⟩=>?_,fun hs=>⟨rfl,fun j _ hj=>?_⟩⟩⟩
 ·have key:∀ j,j≤P.length→Nq (sN L) L.length P t0 j=t0:=by
   intro j
   induction j with
   | zero=>intro _;rfl
   | succ j ih=>
    intro hj;have ih':=ih (by omega);have rd:=h.round o j (by omega)
    have hyn:P.getD j 0<(Nq (sN L) L.length P t0 j).length:=by rw[rd.len];exact o.lt (List.mem_cons_of_mem _ (J7 (by omega)))
    have:Nq (sN L) L.length P t0 (j+1)=Nq (sN L) L.length P t0 j:=set_same hyn (h2 j (Nat.zero_le _) (by omega));rw[this,ih']
  intro i hi;have:=h2 i (Nat.zero_le _) hi;rwa[key i (by omega)]at this
 ·rw[Oo o h.len hs j (by omega)];exact hs j hj
open Classical in
theorem tree_F3(j:Nat):Dv (Ru L) (Lj (r::P),Ug (sN L) L.length P (Ei L.length r) j)=some (if M5 (sN L) L.length P (Ug (sN L) L.length P (Ei L.length r) j) then .done (Ug (sN L) L.length P (Ei L.length r) (j+1)) else .next (Lj (r::P),Ug (sN L) L.length P (Ei L.length r) (j+1))):=by
 obtain⟨b,e1,e2⟩:=round_all hm o (Ready.rounds o j);have hL2:Jf (Ru L) (Lj (r::P))=C1 (Ru L) (Lj (r::P)):=rfl
 have hlen:(0:Int)≤1∧(1:Int)≤((Lj (r::P)).length:Int):=by simp[Lj];omega
 unfold Dv;simp only[hL2,e1,Option.bind_some];rw[Ai hlen]
 cases b with
 | false=>rw[if_pos (e2.1 rfl)];rfl
 | true=>rw[if_neg (fun h=>by have:=e2.2 h;cases this)];rfl
theorem tree_rounds:∃ J,M5 (sN L) L.length P (Ug (sN L) L.length P (Ei L.length r) J)∧Ak (Dv (Ru L)) (Lj (r::P),Ei L.length r)=some (Ug (sN L) L.length P (Ei L.length r) J):=by
 obtain⟨J,h1,h2⟩:=stops o;refine⟨J,h2,?_⟩
 have key:∀ d j,j+d=J→Ak (Dv (Ru L)) (Lj (r::P),Ug (sN L) L.length P (Ei L.length r) j)=some (Ug (sN L) L.length P (Ei L.length r) J):=by
  intro d
  induction d with
  | zero=>
   intro j hj
   obtain rfl:j=J:=by omega
   have hF:=tree_F3 hm o j;rw[if_pos h2]at hF;rw[Am hF];have:Ug (sN L) L.length P (Ei L.length r) (j+1)=Ug (sN L) L.length P (Ei L.length r) j:=Oo o (Ready.rounds o j).len h2 P.length (Nat.le_refl _);rw[this]
  | succ d ih=>
   intro j hj;have hF:=tree_F3 hm o j;rw[if_neg (h1 j (by omega))]at hF;rw[Ar hF];exact ih (j+1) (by omega)
 exact key J 0 (by omega)
end
theorem m_Tree(g:B2)(r:Int)(h1:Fits g.Succ)(h2:Fits g.Pred):Iz g r=some (treeG g r):=by
 unfold treeG
 by_cases hc:R7 g=true∧0≤r∧r<(g.Succ.length:Int)
 ·rw[if_pos hc];obtain⟨hG,h0,hlt⟩:=hc;obtain⟨hm,hg⟩:=mayG_eq hG;obtain⟨hL1,hL64,_⟩:=mayS_iff.1 hm
  have hr:r.toNat<g.Succ.length:=by omega
  have hrn:((r.toNat:Nat):Int)=r:=Int.toNat_of_nonneg h0;obtain⟨O,hO⟩:=Ord.exist (Py hm) hr;have hord:=(Ze g h1 trivial r).1 hG h0 hlt O hO;obtain⟨P,rfl,o⟩:=hO.ordered hr (Py hm);obtain⟨J,hJ,hl⟩:=tree_rounds hm o;have ht:=(Ti o hJ).eq hm hr o;rw[ht]at hl;have hlen:(((Lj (r.toNat::P)).length:Int)==0)=false:=beq_eq_false_iff_ne.2 (by simp[Lj];omega)
  have hlen2:(0:Int)≤1∧(1:Int)≤((Lj (r.toNat::P)).length:Int):=by simp[Lj];omega
  have hL2:Jf g (Lj (r.toNat::P))=C1 g (Lj (r.toNat::P)):=rfl
  have hst:(Lt (Dv g (Lj (r.toNat::P),Ei g.Succ.length r.toNat)) (Dv g))=some (Rq g.Succ r.toNat):=by
   rw[Tg,hg];exact hl
  unfold Iz;rw[hord,Option.bind_some,hlen,cond_false,m_repeat hL1 hL64,Option.bind_some,Ai (inbz h0 (by simpa using hlt)),Ai hlen2]
  have:(Dv g (Lj (r.toNat::P),Ei g.Succ.length r.toNat))=(Ak (C1 g (Lj (r.toNat::P))) (false,0,(List.replicate g.Succ.length (-2:Int)).set r.toNat (-1))).bind (fun x22=>(match x22 with|(b10,l11)=>(bif b10 then(some (.next (Lj (r.toNat::P),l11))) else(some (.done l11))))):=by
   unfold Dv Ei;simp only[hL2];rw[Ai hlen2]
  rw[this]at hst;refine Eq.trans ?_ (congrArg (fun x:Option (List Int)=>x.bind fun x42=>some x42) hst)
  rfl
 ·rw[if_neg hc];unfold Iz
  have:(R7 g&&(decide (0≤r)&&decide (r<(g.Succ.length:Int))))=false:=by
   rw[Bool.eq_false_iff];intro h;rw[Bool.and_eq_true,Bool.and_eq_true,decide_eq_true_eq,decide_eq_true_eq]at h;exact hc h
  rw[(Ze g h1 trivial r).2 this,Option.bind_some]
  rfl
theorem allR{α:Type}(l:List α)(d:α)(p:α→Bool){X:Type}(f:Int→Option (LR Int X))(yes no:X)(hl:l.length<9223372036854775808)(hk:∀ i:Nat,i<l.length→f i=some (bif p (l.getD i d) then .next (A8 ((i:Int)+1)) else .done no))
  (he:f l.length=some (.done yes)):Ak f (0:Int)=some (bif l.all p then yes else no):=by
 have:=N5 l d p f yes no (fun i hi hp=>by rw[hk i hi,hp,cond_true,D1 hi hl]) (fun i hi hp=>by rw[hk i hi,hp,cond_false]) he l.length 0 (by omega);rwa[List.drop_zero]at this
theorem c_told(f:TFunc)(hf:InF f)(l:Int)(t:List Int)(u:List Ah):Ek f l t u=some (bif P8 f then 0 else 4,f,l,t,u):=by
 unfold Ek F0;rw[xmay f hf,Option.bind_some]
 cases P8 f<;>rfl
theorem c_phisFit(phis:List Dx)(l:List Int)(h1:phis.length<9223372036854775808)(h2:l.length<4611686018427387904):Gn phis l=some (phis.all (F9 l)):=by
 unfold Gn
 rw[allR phis (default:Dx) (F9 l) (Fd phis l) (.inl ()) (.inr false) h1 (fun i hi=>by
  unfold Fd
  have hd:decide ((i:Int)<(phis.length:Int))=true:=by simpa using hi
  simp only[hd,cond_true,Ao (Ay hi),Int.toNat_natCast,Zd _ _ h2,Option.bind_some,F9]
  cases decide ((phis.getD i default).From=l) with
  | false=>rfl
  | true=>
   simp only[Bool.not_true,cond_false,Bool.true_and,bne]
   cases(((phis.getD i default).Args.length:Int)==(l.length:Int))<;>rfl) (by unfold Fd;simp),Option.bind_some]
 cases phis.all (F9 l)<;>rfl
def Yz(e:Eo):Bool:=!((e.Kind==1 || e.Kind==3)&&(e.Arg !=0))
theorem c_argFits{n:Nat}(e:Eo)(hk:Kb e n=true):Fi e=some (Yz e):=by
 have h4:0≤e.Kind∧e.Kind≤3:=by
  have:=(Bool.and_eq_true _ _▸hk:kindB e=true∧toB n e.To=true).1;unfold kindB at this;simp only[Bool.and_eq_true,decide_eq_true_eq]at this;omega
 unfold Fi Yz
 have:e.Kind=0∨e.Kind=1∨e.Kind=2∨e.Kind=3:=by omega
 rcases this with h|h|h|h<;>rw[h]<;>cases hb:(e.Arg==0)<;>simp[hb,bne]
theorem order_full{L:List (List Int)}(hm:Jm L=true){P:List Nat}(h0:0<L.length)(o:Ord (sN L) 0 P):decide (P.length<L.length) = !(List.range L.length).all fun i=>(Mz L).getD i false:=by
 have hin:∀ x∈P,x<L.length:=fun x hx=>(by obtain⟨Q,rfl,oo⟩:=o.ordered h0 (Py hm);exact oo.lt hx)
 have hr:∀ z,(Mz L).getD z false=true↔z∈P:=fun z=>by
  rw[o.mem z];exact Rj (Py hm) h0 z
 have hle:=I6 L.length P o.nodup hin
 cases ha:(List.range L.length).all fun i=>(Mz L).getD i false with
 | true=>
  have:=((List.perm_ext_iff_of_nodup o.nodup List.nodup_range).2 fun i=>⟨fun h=>List.mem_range.2 (hin i h),fun h=>(hr i).1 (List.all_eq_true.1 ha i h)⟩:P.Perm (List.range L.length)).length_eq;rw[List.length_range]at this
  simp;omega
 | false=>
  obtain⟨i,hi,hni⟩:∃ i,i<L.length∧i∉P:=Classical.byContradiction fun hc=>by
   have:(List.range L.length).all (fun i=>(Mz L).getD i false)=true:=List.all_eq_true.2 fun i hi=>(hr i).2 (Classical.byContradiction fun hn=>hc ⟨i,by simpa using hi,hn⟩);rw[this]at ha;cases ha
  have:(i::P).length≤L.length:=I6 L.length (i::P) (List.nodup_cons.2 ⟨hni,o.nodup⟩) (fun x hx=>by rcases List.mem_cons.1 hx with rfl|hx;exact hi;exact hin x hx);simp at this ⊢;omega
theorem c_shaped {f : TFunc} (hf : OkF f) (l : Int) (t : List Int) (u : List Ah) : ∃ t', D0 f l t u = some (bif Fx f then 0 else 5, f, l, t', u) ∧ (Fx f = true → t' = Cn f) := by
  have hmax : f.Blocks.length ≤ maxLen := by have := hf.blocks; have : (64 : Nat) ≤ maxLen := by decide
                                             omega
  unfold D0; rw [m_of f hmax, Option.bind_some]
  cases hs : Ku f with
  | false => exact ⟨t, by unfold Fx; rw [hs]; rfl, fun h => by unfold Fx at h; rw [hs] at h; cases h⟩
  | true =>
    have hm := Oi hs; have hlen := Rl f
    have hpos : 0 < (Eh f).length := by have := (shape_iff.1 hs).1.1; omega
    obtain ⟨h1, h2⟩ := gOf_fits hm; obtain ⟨P, hP⟩ := Ord.exist (Py hm) hpos; have ho := (Ze (Ru (Eh f)) h1 trivial 0).1 (mayG_gOf hm) (by omega) (by show (0 : Int) < ((Eh f).length : Int); omega) P hP; have hfull := order_full hm hpos hP; simp only [cond_true, show (((0 : Int) != 0) == false) = true from rfl, show ((0 : Int) != 0) = false from rfl, cond_false, ho, Option.bind_some, show (false == false) = true from rfl]
    have e1 : decide (((Lj P).length : Int) < (f.Blocks.length : Int)) = decide (P.length < (Eh f).length) := by
      rw [hlen]; apply decide_eq_decide.2; simp [Lj]
    rw [e1, hfull]
    have hsd : Fx f = (((List.range f.Blocks.length).all fun i => (Mz (Eh f)).getD i false) && (List.range f.Blocks.length).all fun i => Yz (f.Blocks.getD i default).End && (f.Blocks.getD i default).Phis.all (F9 ((Ex (Eh f)).getD i []))) := by
      unfold Fx; rw [hs, Bool.true_and]
      have : ∀ (n : Nat) (p q : Nat → Bool), ((List.range n).all fun i => p i && q i) = ((List.range n).all p && (List.range n).all q) := fun n p q => by
        rw [Bool.eq_iff_iff, Bool.and_eq_true, List.all_eq_true, List.all_eq_true, List.all_eq_true]
        constructor
        · intro h; exact ⟨fun x hx => ((Bool.and_eq_true _ _).mp (h x hx)).1, fun x hx => ((Bool.and_eq_true _ _).mp (h x hx)).2⟩
        · intro h x hx; rw [Bool.and_eq_true]; exact ⟨h.1 x hx, h.2 x hx⟩
      rw [← this]
      congr 1
      funext i
      show (_ && _ && _) = _
      rw [Bool.and_assoc]
      rfl
    rw [hlen]; rw [hsd]
    cases hr : (List.range f.Blocks.length).all fun i => (Mz (Eh f)).getD i false with
    | false => exact ⟨t, rfl, fun h => by cases h⟩
    | true =>
      refine ⟨Cn f, ?_, fun _ => rfl⟩; rw [Bool.not_true, cond_false, m_Tree _ 0 h1 h2, Option.bind_some, Bool.true_and]; have hp := My hm
      have hpl : (Ru (Eh f)).Pred.length = f.Blocks.length := by rw [← hlen]; exact Kp _
      have key : Ak (Bs f l u (Ru (Eh f), 0) (Cn f)) (0 : Int) = some (bif (List.range f.Blocks.length).all (fun i => Yz (f.Blocks.getD i default).End && (f.Blocks.getD i default).Phis.all (F9 ((Ex (Eh f)).getD i []))) then .inl () else .inr ((5 : Int), f, l, Cn f, u)) := by
        have hk : ∀ i : Nat, i < f.Blocks.length → Bs f l u (Ru (Eh f), 0) (Cn f) (i : Int) = some (bif (Yz (f.Blocks.getD i default).End && (f.Blocks.getD i default).Phis.all (F9 ((Ex (Eh f)).getD i []))) then .next ((i : Int) + 1) else .done (.inr ((5 : Int), f, l, Cn f, u))) := fun i hi => by
          have hB := hf.block _ (A3 (d := (default : Ab)) hi); have hpi : Cg (i : Int) (Ru (Eh f)).Pred.length := Ay (by omega); have hpg : ((Ru (Eh f)).Pred.getD i []).length ≤ 64 := hp.2 _ (A3 (by rw [Kp]; omega)); unfold Bs
          have hd : decide ((i : Int) < (f.Blocks.length : Int)) = true := by simpa using hi
          simp only [hd, cond_true, Ao (Ay hi), Ao hpi, Int.toNat_natCast, c_phisFit (f.Blocks.getD i default).Phis ((Ru (Eh f)).Pred.getD i []) (by have := hB.phis; omega) (by omega), Option.bind_some]; have ha : Fi (⟨(f.Blocks.getD i default).End.Kind, (f.Blocks.getD i default).End.Arg, (f.Blocks.getD i default).End.To⟩ : Eo) = some (Yz (f.Blocks.getD i default).End) := c_argFits (n := f.Blocks.length) (f.Blocks.getD i default).End ((shape_iff.1 hs).2 i hi); rw [ha, D1 hi (by have := hf.blocks; omega)]
          show _ = some (bif (Yz (f.Blocks.getD i default).End && (f.Blocks.getD i default).Phis.all (F9 ((Ru (Eh f)).Pred.getD i []))) then _ else _)
          cases (f.Blocks.getD i default).Phis.all (F9 ((Ru (Eh f)).Pred.getD i [])) <;> cases Yz (f.Blocks.getD i default).End <;> rfl
        exact loop_allN _ _ _ _ _ (fun i hi hp => by rw [hk i hi, hp]; rfl) (fun i hi hp => by rw [hk i hi, hp]; rfl) (by unfold Bs; simp)
      show ((Ak (Bs f l u (Ru (Eh f), 0) (Cn f)) (0 : Int)).bind _) = _
      rw [key, Option.bind_some]
      cases (List.range f.Blocks.length).all (fun i => Yz (f.Blocks.getD i default).End && (f.Blocks.getD i default).Phis.all (F9 ((Ex (Eh f)).getD i []))) <;> rfl
theorem c_isOf(o:D4)(l:Int)(h0:0≤l)(h2:l≤2)(hk:Hu o=true):Ij o l=some (!decide (Ua l<o.Kind)&&!(decide (l<2)&&decide (1<o.Lanes))):=by
 have hl:=lanes_of hk
 have hK:o.Kind≤22:=by
  simp only[Hu,Bool.and_eq_true]at hk;have:=hk.1.2.1.1.1;unfold isK at this;simp only[Bool.and_eq_true,decide_eq_true_eq]at this;omega
 unfold Ij Ua
 have:l=0∨l=1∨l=2:=by omega
 rcases this with rfl|rfl|rfl
 ·have ha:decide (o.Kind≤17) = !decide (17<o.Kind):=by rw[Bool.eq_iff_iff];simp
  have hb:(o.Lanes==1) = !decide (1<o.Lanes):=by rw[Bool.eq_iff_iff];simp;omega
  show some (bif decide (o.Kind≤17) then(o.Lanes==1) else false)=some (!decide (17<o.Kind)&&!(true&&decide (1<o.Lanes)))
  rw[ha,hb]
  cases decide (17<o.Kind)<;>cases decide (1<o.Lanes)<;>rfl
 ·have ha:decide (o.Kind≤20) = !decide (20<o.Kind):=by rw[Bool.eq_iff_iff];simp
  have hb:(o.Lanes==1) = !decide (1<o.Lanes):=by rw[Bool.eq_iff_iff];simp;omega
  show some (bif decide (o.Kind≤20) then(o.Lanes==1) else false)=some (!decide (20<o.Kind)&&!(true&&decide (1<o.Lanes)))
  rw[ha,hb]
  cases decide (20<o.Kind)<;>cases decide (1<o.Lanes)<;>rfl
 ·show some true=some (!decide (22<o.Kind)&&!(false&&decide (1<o.Lanes)))
  rw[decide_eq_false (by omega)]
  rfl
theorem c_opTyped(o:D4)(ho:OpOk o)(f:TFunc)(l:Int)(h0:0≤l)(h2:l≤2)(t:List Int)(u:List Ah):Dp o f l t u=some (E1 l o,f,l,t,u):=by
 unfold Dp E1;rw[U7 o ho,Option.bind_some]
 cases hk:Hu o with
 | false=>rfl
 | true=>
  rw[show(true==true)=true from rfl,cond_true,c_isOf o l h0 h2 hk,Option.bind_some,cond_true,Bool.true_and]
theorem c_allOp(b:Ab){f:TFunc}(hf:OkF f)(hb:b∈f.Blocks)(l:Int)(h0:0≤l)(h2:l≤2)(t:List Int)(u:List Ah):Fb b.Ops f l t u=some (b.Ops.all (E1 l),f,l,t,u):=by
 have hB:=hf.block b hb
 have key:∀ k i:Nat,i+k=b.Ops.length→Ak (Db b.Ops) ((i:Int),f.Params,f.Ret,f.Blocks,l,t,u)=some (bif (b.Ops.drop i).all (E1 l) then .inl (f.Params,f.Ret,f.Blocks,l,t,u) else .inr (false,f,l,t,u)):=by
  intro k
  induction k with
  | zero=>
   intro i h
   obtain rfl:i=b.Ops.length:=by omega
   rw[Am (x:=.inl (f.Params,f.Ret,f.Blocks,l,t,u)) (by unfold Db;simp)]
   simp
  | succ k ih=>
   intro i h
   have hi:i<b.Ops.length:=by omega
   have hd:decide ((i:Int)<(b.Ops.length:Int))=true:=by simpa using hi
   have hdr:b.Ops.drop i=b.Ops.getD i default::b.Ops.drop (i+1):=by rw[List.drop_eq_getElem_cons hi,Ad _ _ _ hi]
   have hx:=c_opTyped (b.Ops.getD i default) (opOk hf hb (A3 hi)) f l h0 h2 t u;rw[hdr,List.all_cons]
   cases ho:E1 l (b.Ops.getD i default) with
   | true=>
    rw[ho]at hx
    rw[Ar (s':=(((i+1:Nat):Int),f.Params,f.Ret,f.Blocks,l,t,u)) (by
     unfold Db;simp only[hd,cond_true,Ao (Ay hi),Int.toNat_natCast,hx,Option.bind_some,Bool.not_true,cond_false,D1 hi (by have:=hB.ops;omega)]
     rfl),ih (i+1) (by omega),Bool.true_and]
   | false=>
    rw[ho]at hx
    rw[Am (x:=.inr (false,f,l,t,u)) (by
     unfold Db
     simp only[hd,cond_true,Ao (Ay hi),Int.toNat_natCast,hx,Option.bind_some,Bool.not_false])]
    rfl
 unfold Fb;rw[show(0:Int)=((0:Nat):Int) from rfl,key b.Ops.length 0 (by omega),List.drop_zero,Option.bind_some]
 cases b.Ops.all (E1 l)<;>rfl
theorem c_allPhi(b:Ab)(h:b.Phis.length<9223372036854775808):Ey b.Phis=some (b.Phis.all fun p=>D2 p.Bits):=by
 unfold Ey
 rw[allR b.Phis (default:Dx) (fun p=>D2 p.Bits) (Dz b.Phis) (.inl ()) (.inr false) h (fun i hi=>by
  unfold Dz Hg
  have hd:decide ((i:Int)<(b.Phis.length:Int))=true:=by simpa using hi
  simp only[hd,cond_true,Ao (Ay hi),Int.toNat_natCast,L8,Option.bind_some]
  cases D2 (b.Phis.getD i default).Bits<;>rfl) (by unfold Dz;simp),Option.bind_some]
 cases b.Phis.all fun p=>D2 p.Bits<;>rfl
theorem c_allInt(p:List Int)(h:p.length<9223372036854775808):Gm p=some (p.all D2):=by
 unfold Gm
 rw[allR p (0:Int) D2 (Fc p) (.inl ()) (.inr false) h (fun i hi=>by
  unfold Fc
  have hd:decide ((i:Int)<(p.length:Int))=true:=by simpa using hi
  simp only[hd,cond_true,Ao (Ay hi),Int.toNat_natCast,L8,Option.bind_some]
  cases D2 (p.getD i 0)<;>rfl) (by unfold Fc;simp),Option.bind_some]
 cases p.all D2<;>rfl
theorem Y2(b:Ab){f:TFunc}(hf:OkF f)(hb:b∈f.Blocks)(l:Int)(h0:0≤l)(h2:l≤2)(t:List Int)(u:List Ah):Cw b f l t u=some (Eu l b,f,l,t,u):=by
 unfold Cw Eu;rw[c_allPhi b (by have:=(hf.block b hb).phis;omega),Option.bind_some,c_allOp b hf hb l h0 h2 t u]
 cases(b.Phis.all fun p=>D2 p.Bits)<;>rfl
theorem c_typed{f:TFunc}(hf:OkF f)(l:Int)(h0:0≤l)(h2:l≤2)(t:List Int)(u:List Ah):D8 f l t u=some (bif Hr f l then 0 else 6,f,l,t,u):=by
 have key:∀ k i:Nat,i+k=f.Blocks.length→Ak (Co f.Blocks) ((i:Int),f.Params,f.Ret,f.Blocks,l,t,u)=some (bif (f.Blocks.drop i).all (Eu l) then .inl (f.Params,f.Ret,f.Blocks,l,t,u) else .inr (false,f,l,t,u)):=by
  intro k
  induction k with
  | zero=>
   intro i h
   obtain rfl:i=f.Blocks.length:=by omega
   rw[Am (x:=.inl (f.Params,f.Ret,f.Blocks,l,t,u)) (by unfold Co;simp)]
   simp
  | succ k ih=>
   intro i h
   have hi:i<f.Blocks.length:=by omega
   have hd:decide ((i:Int)<(f.Blocks.length:Int))=true:=by simpa using hi
   have hdr:f.Blocks.drop i=f.Blocks.getD i default::f.Blocks.drop (i+1):=by rw[List.drop_eq_getElem_cons hi,Ad _ _ _ hi]
   have hx:=Y2 (f.Blocks.getD i default) hf (A3 hi) l h0 h2 t u;rw[hdr,List.all_cons]
   cases ho:Eu l (f.Blocks.getD i default) with
   | true=>
    rw[ho]at hx
    rw[Ar (s':=(((i+1:Nat):Int),f.Params,f.Ret,f.Blocks,l,t,u)) (by
     unfold Co;simp only[hd,cond_true,Ao (Ay hi),Int.toNat_natCast,hx,Option.bind_some,Bool.not_true,cond_false,D1 hi (by have:=hf.blocks;omega)]
     rfl),ih (i+1) (by omega),Bool.true_and]
   | false=>
    rw[ho]at hx
    rw[Am (x:=.inr (false,f,l,t,u)) (by
     unfold Co
     simp only[hd,cond_true,Ao (Ay hi),Int.toNat_natCast,hx,Option.bind_some,Bool.not_false])]
    rfl
 have hall:D7 f.Blocks f l t u=some (f.Blocks.all (Eu l),f,l,t,u):=by
  unfold D7;rw[show(0:Int)=((0:Nat):Int) from rfl,key f.Blocks.length 0 (by omega),List.drop_zero,Option.bind_some]
  cases f.Blocks.all (Eu l)<;>rfl
 unfold D8 Hr F0;rw[c_allInt _ (by have:=hf.few;omega),Option.bind_some,hall,L8]
 cases f.Params.all D2<;>cases D2 f.Ret<;>cases f.Blocks.all (Eu l)<;>rfl
def atD(d:Gy):Ez:=bif decide (d.Block<0) then⟨0,-1⟩ else⟨d.Block,d.At⟩
def Ty(d:Gy):Ac:=⟨d.Shape,atD d⟩
def dv(l:List Gy):List (Int×Ac):=l.map fun d=>(d.V,Ty d)
def Wr(acc:List (Int×Ac))(v:Int):Bool:=(D6 acc v || decide (v<1)) || decide (1023<v)
def Fg:List (Int×Ac)→List Gy→Bool×List (Int×Ac)
 | acc,[]=>(true,acc)
 | acc,d::ds=>bif Wr acc d.V then(false,acc) else Fg (Gw acc d.V (Ty d)) ds
theorem Ry:∀(a b:List Gy) (acc:List (Int×Ac)),Fg acc (a++b)=bif (Fg acc a).1 then Fg (Fg acc a).2 b else Fg acc a
 | [],b,acc=>rfl
 | d::a,b,acc=>by
  rw[List.cons_append];simp only[Fg]
  cases Wr acc d.V with
  | true=>rfl
  | false=>simp only[cond_false];exact Ry a b _
theorem N7{V:Type}(k:Int):∀ l:List (Int×V),D6 l k=l.any fun q=>k==q.1
 | []=>rfl
 | (a,b)::l=>by rw[List.any_cons,← N7 k l];rfl
theorem Ra{V:Type}(k:Int)(v:V):∀{l:List (Int×V)},D6 l k=false→Gw l k v=l++[(k,v)]
 | [],_=>rfl
 | (a,b)::l,h=>by
  simp only[D6,Bool.or_eq_false_iff]at h;simp only[Gw,h.1,cond_false,Ra k v h.2,List.cons_append]
theorem c_define(v:Int)(s:Int×Int)(p:Ez)(f:TFunc)(l:Int)(t:List Int)(vs:List (Int×Ac))(u:List Ah) :
  C4 v s p f l t vs u=some (bif Wr vs v then(false,f,l,t,u,vs) else(true,f,l,t,u,Gw vs v ⟨s,p⟩)):=by
 unfold C4 Wr
 cases D6 vs v<;>cases decide (v<1)<;>cases decide (1023<v)<;>rfl
def resD(f:TFunc)(l:Int)(t:List Int)(u:List Ah)(r:Bool×List (Int×Ac)):(List Int×Int×List Ab×Int×List Int×List Ah×List (Int×Ac)) ⊕ (Bool×TFunc×Int×List Int×List Ah×List (Int×Ac)):=
 bif r.1 then .inl (f.Params,f.Ret,f.Blocks,l,t,u,r.2) else .inr (false,f,l,t,u,r.2)
theorem c_phis(b:Ab)(h:b.Phis.length<9223372036854775808)(i:Nat)(f:TFunc)(l:Int)(t:List Int)(u:List Ah):∀(k j:Nat) (vs:List (Int×Ac)),j+k=b.Phis.length→
  Ak (Bt (i:Int) b) ((j:Int),f.Params,f.Ret,f.Blocks,l,t,u,vs)=some (resD f l t u (Fg vs ((List.range' j k).flatMap fun(k:Nat)=>[(⟨(b.Phis.getD k default).Dst,i,-1,((b.Phis.getD k default).Bits,1)⟩:Gy)]))):=by
 intro k
 induction k with
 | zero=>
  intro j vs hj
  obtain rfl:j=b.Phis.length:=by omega
  rw[Am (x:=.inl (f.Params,f.Ret,f.Blocks,l,t,u,vs)) (by unfold Bt;simp)]
  rfl
 | succ k ih=>
  intro j vs hj
  have hi:j<b.Phis.length:=by omega
  have hd:decide ((j:Int)<(b.Phis.length:Int))=true:=by simpa using hi
  have hx:=c_define (b.Phis.getD j default).Dst ((b.Phis.getD j default).Bits,1) (⟨(i:Int),-1⟩:Ez) f l t vs u
  have hat:atD (⟨(b.Phis.getD j default).Dst,i,-1,((b.Phis.getD j default).Bits,1)⟩:Gy)=⟨(i:Int),-1⟩:=by unfold atD;rw[decide_eq_false (by show ¬ (i:Int)<0;omega)];rfl
  rw[List.range'_succ,List.flatMap_cons,List.singleton_append];simp only[Fg]
  cases hb:Wr vs (b.Phis.getD j default).Dst with
  | true=>
   rw[hb]at hx
   rw[Am (x:=.inr (false,f,l,t,u,vs)) (by
    unfold Bt Cm;simp only[hd,cond_true,Ao (Ay hi),Int.toNat_natCast,Option.bind_some];rw[show(⟨f.Params,f.Ret,f.Blocks⟩:TFunc)=f from rfl,hx]
    rfl)]
   rfl
  | false=>
   rw[hb]at hx
   rw[Ar (s':=(((j+1:Nat):Int),f.Params,f.Ret,f.Blocks,l,t,u,Gw vs (b.Phis.getD j default).Dst ⟨((b.Phis.getD j default).Bits,1),⟨(i:Int),-1⟩⟩)) (by
    unfold Bt Cm;simp only[hd,cond_true,Ao (Ay hi),Int.toNat_natCast,Option.bind_some];rw[show(⟨f.Params,f.Ret,f.Blocks⟩:TFunc)=f from rfl,hx,D1 hi h]
    rfl),ih (j+1) _ (by omega)]
   unfold Ty;rw[hat]
   rfl
theorem c_ops{f0:TFunc}(hf:OkF f0){b:Ab}(hb:b∈f0.Blocks)(i:Nat)(f:TFunc)(l:Int)(t:List Int)(u:List Ah):∀(k j:Nat) (vs:List (Int×Ac)),j+k=b.Ops.length→
  Ak (Be (i:Int) b) ((j:Int),f.Params,f.Ret,f.Blocks,l,t,u,vs)=some (resD f l t u (Fg vs ((List.range' j k).flatMap fun(k:Nat)=>bif decide (0<(Ju (b.Ops.getD k default)).1) then[(⟨(b.Ops.getD k default).Dst,i,k,Ju (b.Ops.getD k default)⟩:Gy)] else[]))):=by
 have hB:=hf.block b hb;intro k
 induction k with
 | zero=>
  intro j vs hj
  obtain rfl:j=b.Ops.length:=by omega
  rw[Am (x:=.inl (f.Params,f.Ret,f.Blocks,l,t,u,vs)) (by unfold Be;simp)]
  rfl
 | succ k ih=>
  intro j vs hj
  have hi:j<b.Ops.length:=by omega
  have hd:decide ((j:Int)<(b.Ops.length:Int))=true:=by simpa using hi
  have hg:Hh (b.Ops.getD j default)=some (Ju (b.Ops.getD j default)):=kind_Gives _ (opOk hf hb (A3 hi));have hx:=c_define (b.Ops.getD j default).Dst (Ju (b.Ops.getD j default)) (⟨(i:Int),(j:Int)⟩:Ez) f l t vs u
  have hat:atD (⟨(b.Ops.getD j default).Dst,i,j,Ju (b.Ops.getD j default)⟩:Gy)=⟨(i:Int),(j:Int)⟩:=by unfold atD;rw[decide_eq_false (by show ¬ (i:Int)<0;omega)];rfl
  rw[List.range'_succ,List.flatMap_cons]
  cases hp:decide (0<(Ju (b.Ops.getD j default)).1) with
  | false=>
   rw[cond_false,List.nil_append,← ih (j+1) vs (by omega),Ar (s':=(((j+1:Nat):Int),f.Params,f.Ret,f.Blocks,l,t,u,vs)) (by
    unfold Be;simp only[hd,cond_true,Ao (Ay hi),Int.toNat_natCast,hg,Option.bind_some,hp];rw[D1 hi (by have:=hB.ops;omega)]
    rfl)]
  | true=>
   rw[cond_true,List.singleton_append];simp only[Fg]
   cases hb:Wr vs (b.Ops.getD j default).Dst with
   | true=>
    rw[hb]at hx
    rw[Am (x:=.inr (false,f,l,t,u,vs)) (by
     unfold Be;simp only[hd,cond_true,Ao (Ay hi),Int.toNat_natCast,hg,Option.bind_some,hp];rw[show(true==true)=true from rfl,cond_true,show(⟨f.Params,f.Ret,f.Blocks⟩:TFunc)=f from rfl,hx]
     rfl)]
    rfl
   | false=>
    rw[hb]at hx
    rw[Ar (s':=(((j+1:Nat):Int),f.Params,f.Ret,f.Blocks,l,t,u,Gw vs (b.Ops.getD j default).Dst ⟨Ju (b.Ops.getD j default),⟨(i:Int),(j:Int)⟩⟩)) (by
     unfold Be;simp only[hd,cond_true,Ao (Ay hi),Int.toNat_natCast,hg,Option.bind_some,hp];rw[show(true==true)=true from rfl,cond_true,show(⟨f.Params,f.Ret,f.Blocks⟩:TFunc)=f from rfl,hx,D1 hi (by have:=hB.ops;omega)]
     rfl),ih (j+1) _ (by omega)]
    unfold Ty;rw[hat]
    rfl
theorem c_defineAll{f:TFunc}(hf:OkF f){b:Ab}(hb:b∈f.Blocks)(i:Nat)(l:Int)(t:List Int)(u:List Ah)(vs:List (Int×Ac)) :
  C7 (i:Int) b f l t vs u=some ((Fg vs (Jx b i)).1,f,l,t,u,(Fg vs (Jx b i)).2):=by
 unfold C7 Jx;rw[show(0:Int)=((0:Nat):Int) from rfl,c_phis b (by have:=(hf.block b hb).phis;omega) i f l t u b.Phis.length 0 vs (by omega),Option.bind_some,Ry];rw[show(List.range' 0 b.Phis.length).flatMap (fun(k:Nat)=>[(⟨(b.Phis.getD k default).Dst,i,-1,((b.Phis.getD k default).Bits,1)⟩:Gy)])=Qp b i by rw[Qp,List.range_eq_range']];unfold resD
 cases h1:(Fg vs (Qp b i)).1 with
 | false=>simp only[cond_false];rw[h1]
 | true=>
  simp only[cond_true];rw[c_ops hf hb i f l t u b.Ops.length 0 _ (by omega),Option.bind_some];rw[show(List.range' 0 b.Ops.length).flatMap (fun(k:Nat)=>bif decide (0<(Ju (b.Ops.getD k default)).1) then[(⟨(b.Ops.getD k default).Dst,i,k,Ju (b.Ops.getD k default)⟩:Gy)] else[])=Y4 b i by rw[Y4,List.range_eq_range']];unfold resD;cases h2:(Fg (Fg vs (Qp b i)).2 (Y4 b i)).1<;>rfl
theorem Sc{l:List Gy}{i:Nat}(hi:i<l.length):Iu l i=true↔valS (l.getD i default).V=true∧∀ j,j<i→(l.getD j default).V≠(l.getD i default).V:=by
 unfold Iu;rw[Bool.and_eq_true];refine and_congr Iff.rfl ?_;unfold Ih
 cases hx:l.findIdx? (fun d=>d.V==(l.getD i default).V) with
 | none=>
  rw[List.findIdx?_eq_none_iff]at hx;have:=hx _ (A3 (d:=default) hi);simp at this
 | some j=>
  obtain⟨hj,h1,h2⟩:=List.findIdx?_eq_some_iff_getElem.1 hx;simp only[beq_iff_eq,Int.natCast_inj]
  constructor
  ·rintro rfl k hk he;have:=h2 k hk;rw[Ad _ _ _ (by omega:k<l.length)]at he;simp at this;exact this he
  ·intro h
   have hv:(l.getD j default).V=(l.getD i default).V:=by rw[Ad _ _ _ hj];simpa using h1
   rcases Nat.lt_trichotomy j i with hlt|rfl|hgt
   ·exact absurd hv (h j hlt)
   ·rfl
   ·have:=h2 i hgt;rw[← Ad l i default hi]at this;simp at this
theorem mhas_dv(l:List Gy)(v:Int):D6 (dv l) v=l.any fun d=>v==d.V:=by
 rw[N7,dv,List.any_map];rfl
theorem Uv:∀(ds pre:List Gy),(Fg (dv pre) ds).1=(List.range' pre.length ds.length).all (Iu (pre++ds))∧((Fg (dv pre) ds).1=true→(Fg (dv pre) ds).2=dv (pre++ds))
 | [],pre=>by simp[Fg]
 | d::ds,pre=>by
  have hi:pre.length<(pre++d::ds).length:=by simp
  have hg:(pre++d::ds).getD pre.length default=d:=by simp[List.getD]
  have hj:∀ j,j<pre.length→(pre++d::ds).getD j default=pre.getD j default:=fun j h=>by simp[List.getD,List.getElem?_append_left h]
  have hok:Iu (pre++d::ds) pre.length = !Wr (dv pre) d.V:=by
   rw[Bool.eq_iff_iff,Sc hi,hg];unfold Wr valS;rw[mhas_dv];simp only[Bool.not_eq_true',Bool.or_eq_false_iff,decide_eq_false_iff_not,List.any_eq_false,beq_iff_eq,Bool.and_eq_true,decide_eq_true_eq]
   constructor
   ·rintro⟨⟨h1,h2⟩,h3⟩;refine⟨⟨fun x hx he=>?_,by omega⟩,by omega⟩;obtain⟨j,hjl,rfl⟩:=List.getElem_of_mem hx;have:=h3 j hjl;rw[hj j hjl,Ad _ _ _ hjl]at this;exact this he.symm
   ·rintro⟨⟨h1,h2⟩,h3⟩;refine⟨⟨by omega,by omega⟩,fun j hjl he=>?_⟩;rw[hj j hjl,Ad _ _ _ hjl]at he;exact h1 _ (List.getElem_mem hjl) he.symm
  rw[List.length_cons,List.range'_succ,List.all_cons,hok];simp only[Fg]
  cases hb:Wr (dv pre) d.V with
  | true=>exact⟨rfl,fun h=>by cases h⟩
  | false=>
   have hn:D6 (dv pre) d.V=false:=by
    unfold Wr at hb;simp only[Bool.or_eq_false_iff]at hb;exact hb.1.1
   have hs:Gw (dv pre) d.V (Ty d)=dv (pre++[d]):=by rw[Ra _ _ hn,dv,dv,List.map_append];rfl
   have:=Uv ds (pre++[d]);rw[List.length_append,List.append_assoc,List.singleton_append]at this;rw[cond_false,hs,Bool.not_false,Bool.true_and];exact this
def pv(f:TFunc)(n:Nat):List (Int×Ac):=(List.range n).map fun(j:Nat)=>((j:Int)+1,⟨(f.Params.getD j 0,1),⟨0,-1⟩⟩)
theorem pv_dv(f:TFunc):pv f f.Params.length=dv (Jg f):=by
 unfold pv dv Jg;rw[List.map_flatMap]
 induction List.range f.Params.length with
 | nil=>rfl
 | cons a l ih=>rw[List.map_cons,List.flatMap_cons,ih];rfl
theorem c_params{f:TFunc}(hf:OkF f):∀(k i:Nat),i+k=f.Params.length→Ak (Cx f) ((i:Int),pv f i)=some (pv f f.Params.length):=by
 intro k
 induction k with
 | zero=>
  intro i h
  obtain rfl:i=f.Params.length:=by omega
  exact Am (by unfold Cx;simp)
 | succ k ih=>
  intro i h
  have hi:i<f.Params.length:=by omega
  have hd:decide ((i:Int)<(f.Params.length:Int))=true:=by simpa using hi
  have hn:D6 (pv f i) ((i:Int)+1)=false:=by
   rw[N7,pv,List.any_map,List.any_eq_false];intro j hj;have:=List.mem_range.1 hj
   simp;omega
  have hs:Gw (pv f i) ((i:Int)+1) ⟨(f.Params.getD i 0,1),⟨0,-1⟩⟩=pv f (i+1):=by
   rw[Ra _ _ hn,pv,pv,List.range_succ,List.map_append];rfl
  rw[Ar (s':=(((i+1:Nat):Int),pv f (i+1))) (by
   unfold Cx Cm;simp only[hd,cond_true,Ao (Ay hi),Int.toNat_natCast,Option.bind_some,D1 hi (by have:=hf.few;omega),hs]
   rfl)]
  exact ih (i+1) (by omega)
theorem c_blocks{f:TFunc}(hf:OkF f)(l:Int)(t:List Int)(u:List Ah):∀(k i:Nat) (vs:List (Int×Ac)),i+k=f.Blocks.length→
  Ak (B8 f) ((i:Int),vs,f.Params,f.Ret,f.Blocks,l,t,u)=some (bif (Fg vs ((List.range' i k).flatMap fun i=>Jx (f.Blocks.getD i default) i)).1 then .inl ((Fg vs ((List.range' i k).flatMap fun i=>Jx (f.Blocks.getD i default) i)).2,f.Params,f.Ret,f.Blocks,l,t,u) else
   .inr (7,f,l,t,u,(Fg vs ((List.range' i k).flatMap fun i=>Jx (f.Blocks.getD i default) i)).2)):=by
 intro k
 induction k with
 | zero=>
  intro i vs h
  obtain rfl:i=f.Blocks.length:=by omega
  rw[Am (x:=.inl (vs,f.Params,f.Ret,f.Blocks,l,t,u)) (by unfold B8;simp)]
  rfl
 | succ k ih=>
  intro i vs h
  have hi:i<f.Blocks.length:=by omega
  have hd:decide ((i:Int)<(f.Blocks.length:Int))=true:=by simpa using hi
  have hx:=c_defineAll hf (A3 (d:=default) hi) i l t u vs;rw[List.range'_succ,List.flatMap_cons,Ry]
  cases hb:(Fg vs (Jx (f.Blocks.getD i default) i)).1 with
  | false=>
   rw[hb]at hx
   rw[Am (x:=.inr (7,f,l,t,u,(Fg vs (Jx (f.Blocks.getD i default) i)).2)) (by
    unfold B8;simp only[hd,cond_true,Ao (Ay hi),Int.toNat_natCast];rw[show(⟨f.Params,f.Ret,f.Blocks⟩:TFunc)=f from rfl,hx]
    rfl),cond_false,hb]
   rfl
  | true=>
   rw[hb]at hx
   rw[Ar (s':=(((i+1:Nat):Int),(Fg vs (Jx (f.Blocks.getD i default) i)).2,f.Params,f.Ret,f.Blocks,l,t,u)) (by
    unfold B8;simp only[hd,cond_true,Ao (Ay hi),Int.toNat_natCast];rw[show(⟨f.Params,f.Ret,f.Blocks⟩:TFunc)=f from rfl,hx,D1 hi (by have:=hf.blocks;omega)]
    rfl),ih (i+1) _ (by omega),cond_true]
theorem okP{f:TFunc}(hf:OkF f):∀ i,i<f.Params.length→Iu (A0 f) i=true:=fun i hi=>by
 have hl:=Xq f
 have hg:∀ j,j<f.Params.length→(A0 f).getD j default=⟨(j:Int)+1,-1,0,(f.Params.getD j 0,1)⟩:=fun j hj=>by
  have e:Jg f=(List.range f.Params.length).map fun(i:Nat)=>(⟨(i:Int)+1,-1,0,(f.Params.getD i 0,1)⟩:Gy):=by
   unfold Jg
   induction List.range f.Params.length with
   | nil=>rfl
   | cons a l ih=>rw[List.map_cons,List.flatMap_cons,ih];rfl
  rw[A0,List.getD,List.getElem?_append_left (by omega),e];simp[hj]
 have hle:i<(A0 f).length:=by rw[A0,List.length_append];omega
 rw[Sc hle,hg i hi];refine⟨?_,fun j hj=>?_⟩
 ·have:=hf.few;simp only[valS,Bool.and_eq_true,decide_eq_true_eq];omega
 ·rw[hg j (by omega)];simp only;omega
theorem c_defined{f:TFunc}(hf:OkF f)(l:Int)(t:List Int)(u:List Ah):∃ vs,Dn f l t u=some (bif (List.range (A0 f).length).all (Iu (A0 f)) then 0 else 7,f,l,t,u,vs)∧((List.range (A0 f).length).all (Iu (A0 f))=true→vs=dv (A0 f)):=by
 have hsp:=Uv ((List.range f.Blocks.length).flatMap fun i=>Jx (f.Blocks.getD i default) i) (Jg f)
 have hall:(List.range (A0 f).length).all (Iu (A0 f))=(Fg (dv (Jg f)) ((List.range f.Blocks.length).flatMap fun i=>Jx (f.Blocks.getD i default) i)).1:=by
  rw[hsp.1]
  show(List.range (A0 f).length).all (Iu (A0 f))=(List.range' (Jg f).length _).all (Iu (A0 f))
  have hs:List.range (A0 f).length=List.range (Jg f).length++List.range' (Jg f).length ((List.range f.Blocks.length).flatMap fun i=>Jx (f.Blocks.getD i default) i).length:=by
   rw[List.range_eq_range',List.range_eq_range',A0,List.length_append];have:=List.range'_append_1 (s:=0) (m:=(Jg f).length) (n:=((List.range f.Blocks.length).flatMap fun i=>Jx (f.Blocks.getD i default) i).length);rw[Nat.zero_add]at this;exact this.symm
  rw[hs,List.all_append];have:(List.range (Jg f).length).all (Iu (A0 f))=true:=List.all_eq_true.2 fun i hi=>okP hf i (by rw[← Xq f];exact List.mem_range.1 hi);rw[this,Bool.true_and]
 unfold Dn;have hp:=c_params hf f.Params.length 0 (by omega);have e0:pv f 0=[]:=rfl;rw[e0,show(((0:Nat):Int))=0 from rfl]at hp;rw[hp,Option.bind_some,pv_dv];have hb:=c_blocks hf l t u f.Blocks.length 0 (dv (Jg f)) (by omega);rw[show(((0:Nat):Int))=0 from rfl,← List.range_eq_range']at hb;rw[hb,Option.bind_some,hall];refine⟨(Fg (dv (Jg f)) ((List.range f.Blocks.length).flatMap fun i=>Jx (f.Blocks.getD i default) i)).2,?_,hsp.2⟩
 cases(Fg (dv (Jg f)) ((List.range f.Blocks.length).flatMap fun i=>Jx (f.Blocks.getD i default) i)).1<;>rfl
theorem O3{β S X:Type}(B:Nat)(mk:Int→List β→S)(out:List β→X)(n:Nat)(E:Nat→List β)(f:S→Option (LR S X))(hn:∀(acc:List β) (i:Nat),i<n→(acc++E i).length≤B→f (mk i acc)=some (.next (mk ((i:Int)+1) (acc++E i))))
  (hd:∀ acc:List β,f (mk n acc)=some (.done (out acc))):∀(k i:Nat) (acc:List β),i+k=n→(acc++(List.range' i k).flatMap E).length≤B→Ak f (mk i acc)=some (out (acc++(List.range' i k).flatMap E))
 | 0,i,acc,h,_=>by
  obtain rfl:i=n:=by omega
  rw[Am (hd acc)]
  simp
 | k+1,i,acc,h,hB=>by
  have hi:i<n:=by omega
  rw[List.range'_succ,List.flatMap_cons,← List.append_assoc]at hB ⊢;rw[Ar (hn acc i hi (by rw[List.length_append]at hB;omega)),show((i:Int)+1)=((i+1:Nat):Int) by omega,O3 B mk out n E f hn hd k (i+1) _ (by omega) hB]
theorem map_sing{β γ:Type}(h:β→γ)(n:Nat)(g:Nat→β):(List.range' 0 n).flatMap (fun j=>[h (g j)])=((List.range n).flatMap fun j=>[g j]).map h:=by
 rw[List.map_flatMap,List.range_eq_range'];rfl
theorem Ve{β γ:Type}(h:β→γ)(n:Nat)(g:Nat→List β):(List.range' 0 n).flatMap (fun j=>(g j).map h)=((List.range n).flatMap g).map h:=by
 rw[List.map_flatMap,List.range_eq_range']
def Io(f:TFunc)(b:Int):Int:=((f.Blocks.getD b.toNat default).Ops.length:Int)
def Dj(f:TFunc)(u:Lw):Ah:=⟨u.V,u.Shape,⟨u.Block,bif u.At==1000 then Io f u.Block else u.At⟩⟩
theorem c_use(f:TFunc)(l:Int)(t:List Int)(vs:List (Int×Ac))(v:Int)(s:Int×Int)(p:Ez)(u:List Ah)(h:(u++[(⟨v,s,p⟩:Ah)]).length≤10000000):Cr v s p f l t vs u=some (f,l,t,u++[⟨v,s,p⟩]):=by
 unfold Cr;rw[Ai (by rw[List.length_append]at h;rw[room_is];omega)]
theorem c_end(f:TFunc)(l:Int)(t:List Int)(vs:List (Int×Ac))(b:Int)(hb:Cg b f.Blocks.length)(u:List Ah):C8 b f l t vs u=some (⟨b,Io f b⟩,f,l,t,u):=by
 unfold C8;rw[Ai hb];rfl
section
variable {f:TFunc} (hf:OkF f) (l:Int) (t:List Int) (vs:List (Int×Ac))
include hf
theorem c_phi1(i k:Nat)(hi:i<f.Blocks.length)(hk:k<(f.Blocks.getD i default).Phis.length)(hfit:((f.Blocks.getD i default).Phis.getD k default).Args.length≤((f.Blocks.getD i default).Phis.getD k default).From.length)
  (hin:∀ x∈((f.Blocks.getD i default).Phis.getD k default).From,Cg x f.Blocks.length) (u:List Ah) (hB:(u++(Jr ((f.Blocks.getD i default).Phis.getD k default)).map (Dj f)).length≤10000000) :
  Ak (B3 f vs (i:Int) (k:Int)) ((0:Int),f.Params,f.Ret,f.Blocks,l,t,u)=some (f.Params,f.Ret,f.Blocks,l,t,u++(Jr ((f.Blocks.getD i default).Phis.getD k default)).map (Dj f)):=by
 have hlen:=ok_phi hf (A3 (d:=(default:Ab)) hi) (A3 (d:=(default:Dx)) hk)
 generalize hp:(f.Blocks.getD i default).Phis.getD k default=p at *
 have e:=map_sing (Dj f) p.Args.length fun(j:Nat)=>(⟨p.Args.getD j 0,p.From.getD j 0,1000,(p.Bits,1)⟩:Lw)
 have:=O3 10000000 (fun j u=>(j,f.Params,f.Ret,f.Blocks,l,t,u)) (fun u=>(f.Params,f.Ret,f.Blocks,l,t,u)) p.Args.length (fun(j:Nat)=>[Dj f ⟨p.Args.getD j 0,p.From.getD j 0,1000,(p.Bits,1)⟩]) (B3 f vs (i:Int) (k:Int)) (fun acc j hj hacc=>by
  unfold B3 Cm
  have hd:decide ((j:Int)<(p.Args.length:Int))=true:=by simpa using hj
  have hjf:j<p.From.length:=by omega
  simp only[Int.toNat_natCast,hp,hd,cond_true,Ao (Ay hj),Option.bind_some,Ao (Ay hjf)];rw[show(⟨f.Params,f.Ret,f.Blocks⟩:TFunc)=f from rfl,c_end f l t vs _ (hin _ (A3 hjf)),Option.bind_some];simp only;have eu:Dj f ⟨p.Args.getD j 0,p.From.getD j 0,1000,(p.Bits,1)⟩=⟨p.Args.getD j 0,(p.Bits,1),⟨p.From.getD j 0,Io f (p.From.getD j 0)⟩⟩:=rfl;rw[eu]at hacc ⊢
  rw[c_use f l t vs _ _ _ acc hacc,Option.bind_some,D1 hj (by omega)]) (fun acc=>by unfold B3;simp only[Int.toNat_natCast,hp,show decide ((p.Args.length:Int)<(p.Args.length:Int))=false by simp,cond_false]) p.Args.length 0 u (by omega) (by rw[e];exact hB)
 rw[e]at this;exact this
theorem c_phis'(i:Nat)(hi:i<f.Blocks.length)(hfit:∀ p∈(f.Blocks.getD i default).Phis,p.Args.length≤p.From.length∧∀ x∈p.From,Cg x f.Blocks.length)(u:List Ah)(hB:(u++(Pc (f.Blocks.getD i default)).map (Dj f)).length≤10000000) :
  Ak (B4 f vs (i:Int)) ((0:Int),f.Params,f.Ret,f.Blocks,l,t,u)=some (f.Params,f.Ret,f.Blocks,l,t,u++(Pc (f.Blocks.getD i default)).map (Dj f)):=by
 have hBk:=hf.block _ (A3 (d:=(default:Ab)) hi);have e:=Ve (Dj f) (f.Blocks.getD i default).Phis.length fun(k:Nat)=>Jr ((f.Blocks.getD i default).Phis.getD k default)
 have:=O3 10000000 (fun j u=>(j,f.Params,f.Ret,f.Blocks,l,t,u)) (fun u=>(f.Params,f.Ret,f.Blocks,l,t,u)) (f.Blocks.getD i default).Phis.length (fun(k:Nat)=>(Jr ((f.Blocks.getD i default).Phis.getD k default)).map (Dj f)) (B4 f vs (i:Int)) (fun acc k hk hacc=>by
  have hq:=hfit _ (A3 (d:=(default:Dx)) hk);have h1:=c_phi1 hf l t vs i k hi hk hq.1 hq.2 acc hacc;unfold B4
  have hd:decide ((k:Int)<((f.Blocks.getD i default).Phis.length:Int))=true:=by simpa using hk
  simp only[Int.toNat_natCast,hd,cond_true,Ao (Ay hk),h1,Option.bind_some,D1 hk (by have:=hBk.phis;omega)]) (fun acc=>by unfold B4;simp) (f.Blocks.getD i default).Phis.length 0 u (by omega) (by rw[e];exact hB)
 rw[e]at this;exact this
theorem c_op1(i k:Nat)(hi:i<f.Blocks.length)(hk:k<(f.Blocks.getD i default).Ops.length)(u:List Ah)(hB:(u++(Lc ((f.Blocks.getD i default).Ops.getD k default) i k).map (Dj f)).length≤10000000) :
  Ak (B5 f vs (i:Int) (k:Int) (Gh ((f.Blocks.getD i default).Ops.getD k default))) ((0:Int),f.Params,f.Ret,f.Blocks,l,t,u)=some (f.Params,f.Ret,f.Blocks,l,t,u++(Lc ((f.Blocks.getD i default).Ops.getD k default) i k).map (Dj f)):=by
 have hBk:=hf.block _ (A3 (d:=(default:Ab)) hi);have hlen:=We (ok_op hf (A3 (d:=(default:Ab)) hi) (A3 (d:=(default:D4)) hk));have hk512:=hBk.ops
 generalize hp:(f.Blocks.getD i default).Ops.getD k default=o at *
 have e:=map_sing (Dj f) (Gh o).length fun(j:Nat)=>(⟨o.Args.getD j 0,i,k,(Gh o).getD j (0,0)⟩:Lw)
 have:=O3 10000000 (fun j u=>(j,f.Params,f.Ret,f.Blocks,l,t,u)) (fun u=>(f.Params,f.Ret,f.Blocks,l,t,u)) (Gh o).length (fun(j:Nat)=>[Dj f ⟨o.Args.getD j 0,i,k,(Gh o).getD j (0,0)⟩]) (B5 f vs (i:Int) (k:Int) (Gh o)) (fun acc j hj hacc=>by
  have hkk:((k:Int)==1000)=false:=by simp;omega
  have eu:Dj f ⟨o.Args.getD j 0,i,k,(Gh o).getD j (0,0)⟩=⟨o.Args.getD j 0,(Gh o).getD j (0,0),⟨(i:Int),(k:Int)⟩⟩:=by unfold Dj;simp only[hkk,cond_false]
  rw[eu]at hacc ⊢;unfold B5
  have hd:decide ((j:Int)<((Gh o).length:Int))=true:=by simpa using hj
  have hja:j<o.Args.length:=by omega
  simp only[Int.toNat_natCast,hp,hd,cond_true,Ao (Ay hj),Ao (Ay hja)]
  rw[show(⟨f.Params,f.Ret,f.Blocks⟩:TFunc)=f from rfl,c_use f l t vs _ _ _ acc hacc,Option.bind_some,D1 hj (by omega)]) (fun acc=>by unfold B5;simp) (Gh o).length 0 u (by omega) (by rw[e];exact hB)
 rw[e]at this;exact this
theorem c_ops'(i:Nat)(hi:i<f.Blocks.length)(u:List Ah)(hB:(u++(Wk (f.Blocks.getD i default) i).map (Dj f)).length≤10000000) :
  Ak (B6 f vs (i:Int)) ((0:Int),f.Params,f.Ret,f.Blocks,l,t,u)=some (f.Params,f.Ret,f.Blocks,l,t,u++(Wk (f.Blocks.getD i default) i).map (Dj f)):=by
 have hmem:=A3 (d:=(default:Ab)) hi;have hBk:=hf.block _ hmem;have e:=Ve (Dj f) (f.Blocks.getD i default).Ops.length fun(k:Nat)=>Lc ((f.Blocks.getD i default).Ops.getD k default) i k
 have:=O3 10000000 (fun j u=>(j,f.Params,f.Ret,f.Blocks,l,t,u)) (fun u=>(f.Params,f.Ret,f.Blocks,l,t,u)) (f.Blocks.getD i default).Ops.length (fun(k:Nat)=>(Lc ((f.Blocks.getD i default).Ops.getD k default) i k).map (Dj f)) (B6 f vs (i:Int)) (fun acc k hk hacc=>by
  have h1:=c_op1 hf l t vs i k hi hk acc hacc;have ht:Hi ((f.Blocks.getD i default).Ops.getD k default)=some (Gh ((f.Blocks.getD i default).Ops.getD k default)):=kind_Takes _ (opOk hf hmem (A3 hk));unfold B6
  have hd:decide ((k:Int)<((f.Blocks.getD i default).Ops.length:Int))=true:=by simpa using hk
  simp only[Int.toNat_natCast,hd,cond_true,Ao (Ay hk),ht,h1,Option.bind_some,D1 hk (by have:=hBk.ops;omega)]) (fun acc=>by unfold B6;simp) (f.Blocks.getD i default).Ops.length 0 u (by omega) (by rw[e];exact hB)
 rw[e]at this;exact this
theorem c_collect (hfit : ∀ b ∈ f.Blocks, ∀ p ∈ b.Phis, p.Args.length ≤ p.From.length ∧ ∀ x ∈ p.From, Cg x f.Blocks.length) : Dm f l t vs [] = some (f, l, t, (Ff f).map (Dj f)) := by
  have e := Ve (Dj f) f.Blocks.length fun (i : Nat) => Wj f (f.Blocks.getD i default) i; have hul := Yl hf
  have := O3 10000000 (fun j u => (j, f.Params, f.Ret, f.Blocks, l, t, u)) (fun u => (f.Params, f.Ret, f.Blocks, l, t, u)) f.Blocks.length (fun (i : Nat) => (Wj f (f.Blocks.getD i default) i).map (Dj f)) (B7 f vs) (fun acc i hi hacc => by
    have hmem := A3 (d := (default : Ab)) hi; unfold Wj at hacc ⊢; rw [List.map_append, List.map_append, ← List.append_assoc, ← List.append_assoc] at hacc ⊢; have l1 := hacc; simp only [List.length_append, List.length_map] at l1; have h1 := c_phis' hf l t vs i hi (hfit _ hmem) acc (by simp only [List.length_append, List.length_map]; omega); have h2 := c_ops' hf l t vs i hi (acc ++ (Pc (f.Blocks.getD i default)).map (Dj f)) (by simp only [List.length_append, List.length_map]; omega); have hinb : Cg (i : Int) f.Blocks.length := Ay hi; unfold B7 Cm
    have hd : decide ((i : Int) < (f.Blocks.length : Int)) = true := by simpa using hi
    simp only [hd, cond_true, Ao (Ay hi), h1, Option.bind_some, h2, Int.toNat_natCast]; have hF : (⟨f.Params, f.Ret, f.Blocks⟩ : TFunc) = f := rfl; have hw : A8 ((i : Int) + 1) = (i : Int) + 1 := D1 hi (by have := hf.blocks; omega); unfold Rr at hacc ⊢
    cases hz : ((f.Blocks.getD i default).End.Kind == 0) with
    | true =>
      have hz2 : ((f.Blocks.getD i default).End.Kind == 2) = false := by have : (f.Blocks.getD i default).End.Kind = 0 := by simpa using hz
                                                                         rw [this]; rfl
      rw [hz, hz2] at hacc; simp only [cond_true, cond_false, hz2, List.append_nil, List.map_cons, List.map_nil] at hacc ⊢; rw [hF, c_end f l t vs _ hinb, Option.bind_some]; simp only; rw [c_use f l t vs _ _ _ _ (show (_ ++ [(⟨_, _, ⟨(i : Int), Io f (i : Int)⟩⟩ : Ah)]).length ≤ 10000000 from hacc), Option.bind_some, Option.bind_some, hw]
      rfl
    | false =>
      rw [hz] at hacc
      cases hz2 : ((f.Blocks.getD i default).End.Kind == 2) with
      | true =>
        rw [hz2] at hacc; simp only [cond_true, cond_false, List.nil_append, List.map_cons, List.map_nil] at hacc ⊢; rw [hF, c_end f l t vs _ hinb, Option.bind_some]; simp only; rw [c_use f l t vs _ _ _ _ (show (_ ++ [(⟨_, _, ⟨(i : Int), Io f (i : Int)⟩⟩ : Ah)]).length ≤ 10000000 from hacc), Option.bind_some, Option.bind_some, hw]
        rfl
      | false =>
        simp only [cond_false, List.nil_append, List.map_nil, List.append_nil, Option.bind_some, hw]) (fun acc => by unfold B7; simp) f.Blocks.length 0 [] (by omega) (by rw [e]; simpa [Ff] using (by omega : (Ff f).length ≤ 10000000))
  rw [e, List.nil_append] at this; unfold Dm; rw [show (0 : Int) = ((0 : Nat) : Int) from rfl]
  show ((Ak (B7 f vs) (((0 : Nat) : Int), f.Params, f.Ret, f.Blocks, l, t, [])).bind _) = _
  rw [this, Option.bind_some]
  rfl
end
theorem allS{σ X:Type}(mk:Int→σ)(U:List Ah)(p:Ah→Bool)(f:σ→Option (LR σ X))(yes no:X)(hk:∀ i:Nat,i<U.length→f (mk i)=some (bif p (U.getD i default) then .next (mk ((i:Int)+1)) else .done no))(he:f (mk U.length)=some (.done yes)) :
  ∀ k i:Nat,i+k=U.length→Ak f (mk i)=some (bif (U.drop i).all p then yes else no)
 | 0,i,h=>by
  obtain rfl:i=U.length:=by omega
  rw[Am he]
  simp
 | k+1,i,h=>by
  have hi:i<U.length:=by omega
  have hdr:U.drop i=U.getD i default::U.drop (i+1):=by rw[List.drop_eq_getElem_cons hi,Ad _ _ _ hi]
  have hx:=hk i hi;rw[hdr,List.all_cons]
  cases hp:p (U.getD i default) with
  | true=>
   rw[hp]at hx;rw[Ar hx,show((i:Int)+1)=((i+1:Nat):Int) by omega,allS mk U p f yes no hk he k (i+1) (by omega),Bool.true_and]
  | false=>
   rw[hp]at hx;rw[Am hx]
   rfl
theorem Uz(d:Gy)(l:List Gy)(v:Int):Ih (d::l) v=bif d.V==v then 0 else bif decide (Ih l v<0) then -1 else Ih l v+1:=by
 unfold Ih;rw[List.findIdx?_cons]
 cases d.V==v with
 | true=>rfl
 | false=>
  cases l.findIdx? (fun d=>d.V==v) with
  | none=>rfl
  | some i=>
   simp only[cond_false,Option.map_some];rw[decide_eq_false (by omega)]
   simp
theorem Vf(v:Int):∀ l:List Gy,D6 (dv l) v = !decide (Ih l v<0)
 | []=>rfl
 | d::l=>by
  rw[Uz]
  show((v==d.V) || D6 (dv l) v)=_
  rw[Vf v l,show(v==d.V)=(d.V==v) by rw[Bool.eq_iff_iff];simp;exact eq_comm]
  cases d.V==v with
  | true=>rfl
  | false=>
   by_cases h:Ih l v<0
   ·simp[h]
   ·simp[h];omega
theorem P9(v:Int):∀ l:List Gy,¬ Ih l v<0→Dh (default:Ac) (dv l) v=Ty (defOf l v)
 | [],h=>absurd (show(-1:Int)<0 by decide) h
 | d::l,h=>by
  unfold defOf;rw[Uz]at h ⊢
  show(bif v==d.V then Ty d else Dh default (dv l) v)=_
  rw[show(v==d.V)=(d.V==v) by rw[Bool.eq_iff_iff];simp;exact eq_comm]
  cases hb:d.V==v with
  | true=>rfl
  | false=>
   rw[hb]at h
   by_cases hn:Ih l v<0
   ·simp[hn]at h
   ·have hz:decide (Ih l v<0)=false:=decide_eq_false hn;simp only[cond_false,hz];rw[P9 v l hn,show(Ih l v+1).toNat=(Ih l v).toNat+1 by omega]
    rfl
def DefIn(f:TFunc)(d:Gy):Prop:=d.Block = -1∨(Cg d.Block f.Blocks.length∧d.At<Io f d.Block∧d.At<1000)
def UseIn(f:TFunc)(u:Lw):Prop:=Cg u.Block f.Blocks.length∧0≤u.At
theorem defs_in{f:TFunc}(hf:OkF f):∀ d∈A0 f,DefIn f d:=fun d hd=>by
 rcases List.mem_append.1 hd with h|h
 ·obtain⟨i,_,hi⟩:=List.mem_flatMap.1 h;rw[List.mem_singleton.1 hi];exact .inl rfl
 ·obtain⟨i,hi,h⟩:=List.mem_flatMap.1 h
  have hi:i<f.Blocks.length:=by simpa using hi
  have hB:=hf.block _ (A3 (d:=(default:Ab)) hi);have ho:Io f (i:Int)=((f.Blocks.getD i default).Ops.length:Int):=rfl;rcases List.mem_append.1 h with h|h
  ·obtain⟨k,hk,h⟩:=List.mem_flatMap.1 h;rw[List.mem_singleton.1 h];refine .inr ⟨Ay hi,?_,?_⟩
   ·show(-1:Int)<Io f (i:Int);rw[ho];omega
   ·show(-1:Int)<1000;omega
  ·obtain⟨k,hk,h⟩:=List.mem_flatMap.1 h
   have hk:k<(f.Blocks.getD i default).Ops.length:=by simpa using hk
   cases hg:decide (0<(Ju ((f.Blocks.getD i default).Ops.getD k default)).1) with
   | false=>rw[hg]at h;cases h
   | true=>
    rw[hg]at h;rw[List.mem_singleton.1 h];refine .inr ⟨Ay hi,?_,?_⟩
    ·show(k:Int)<Io f (i:Int);rw[ho];omega
    ·show(k:Int)<1000;have:=hB.ops;omega
theorem uses_in{f:TFunc}(hfit:∀ b∈f.Blocks,∀ p∈b.Phis,p.Args.length≤p.From.length∧∀ x∈p.From,Cg x f.Blocks.length):∀ u∈Ff f,UseIn f u:=fun u hu=>by
 obtain⟨i,hi,h⟩:=List.mem_flatMap.1 hu
 have hi:i<f.Blocks.length:=by simpa using hi
 have hmem:=A3 (d:=(default:Ab)) hi;rcases List.mem_append.1 h with h|h
 ·rcases List.mem_append.1 h with h|h
  ·obtain⟨k,hk,h⟩:=List.mem_flatMap.1 h
   have hk:k<(f.Blocks.getD i default).Phis.length:=by simpa using hk
   obtain⟨j,hj,h⟩:=List.mem_flatMap.1 h;have hj:=List.mem_range.1 hj;have hq:=hfit _ hmem _ (A3 (d:=(default:Dx)) hk);rw[List.mem_singleton.1 h];exact⟨hq.2 _ (A3 (by omega)),by show(0:Int)≤1000;omega⟩
  ·obtain⟨k,hk,h⟩:=List.mem_flatMap.1 h;obtain⟨j,hj,h⟩:=List.mem_flatMap.1 h;rw[List.mem_singleton.1 h];exact⟨Ay hi,by show(0:Int)≤(k:Int);omega⟩
 ·unfold Rr at h
  have:u=⟨(f.Blocks.getD i default).End.Arg,i,1000,(f.Ret,1)⟩∨u=⟨(f.Blocks.getD i default).End.Arg,i,1000,(1,1)⟩:=by
   rcases List.mem_append.1 h with h|h
   ·cases hz:((f.Blocks.getD i default).End.Kind==0) with
    | true=>rw[hz]at h;exact .inl (List.mem_singleton.1 h)
    | false=>rw[hz]at h;cases h
   ·cases hz:((f.Blocks.getD i default).End.Kind==2) with
    | true=>rw[hz]at h;exact .inr (List.mem_singleton.1 h)
    | false=>rw[hz]at h;cases h
  rcases this with rfl|rfl<;>exact⟨Ay hi,by show(0:Int)≤1000;omega⟩
theorem fit_of{f:TFunc}(h:Fx f=true):∀ b∈f.Blocks,∀ p∈b.Phis,p.Args.length≤p.From.length∧∀ x∈p.From,Cg x f.Blocks.length:=fun b hb p hp=>by
 have hs:Ku f=true:=by simp only[Fx,Bool.and_eq_true]at h;exact h.1
 refine⟨shape_fit h b hb p hp,fun x hx=>?_⟩;obtain⟨i,hi,rfl⟩:=List.getElem_of_mem hb;simp only[Fx,Bool.and_eq_true]at h;have h1:=allN h.2 i hi;simp only[Md,Bool.and_eq_true,List.all_eq_true]at h1;rw[Ad _ _ _ hi]at h1;have h2:=h1.2 p hp;simp only[F9,Bool.and_eq_true,decide_eq_true_eq]at h2;rw[h2.1]at hx;obtain⟨q,rfl,hq,_⟩:=(Ri (L:=Eh f) (Oi hs) (y:=i) (by rw[Rl];exact hi)).1 hx;exact Ay (by rw[Rl]at hq;exact hq)
theorem over_first{f:TFunc}(h:Fx f=true){b:Int}(hb:Cg b f.Blocks.length):Pv (Cn f) 0 b=true:=by
 have hs:Ku f=true:=by simp only[Fx,Bool.and_eq_true]at h;exact h.1
 have hm:=Oi hs;have hlen:=Rl f
 have hpos:0<(Eh f).length:=by have:=(shape_iff.1 hs).1.1;omega
 obtain⟨P,hP,o,ht⟩:=treeD_dom hm hpos
 have e:Cn f=Rq (Eh f) 0:=by
  unfold Cn treeG;rw[if_pos ⟨mayG_gOf hm,Int.le_refl _,by show(0:Int)<((Eh f).length:Int);omega⟩]
  rfl
 obtain⟨k,rfl⟩:∃ k:Nat,b=(k:Int):=⟨b.toNat,(Int.toNat_of_nonneg hb.1).symm⟩
 have hk:k<f.Blocks.length:=by have:=hb.2;omega
 simp only[Fx,Bool.and_eq_true]at h;have h1:=allN h.2 k hk;simp only[Md,Bool.and_eq_true]at h1;have hr:Rch (sN (Eh f)) 0 k:=(Rj (Py hm) hpos k).1 h1.1.1;rw[e];refine(ht.over_dom o hpos (by omega)).2 ⟨rc_iff.2 hr,fun ha=>?_⟩;exact(av_iff.1 ha).1 rfl
theorem Nv{l:List Lw}{g:Lw→Ah}{p:Ah→Bool}{q:Lw→Bool}(h:∀ u∈l,p (g u)=q u):(l.map g).all p=l.all q:=by
 induction l with
 | nil=>rfl
 | cons a l ih=>rw[List.map_cons,List.all_cons,List.all_cons,h a (by simp),ih fun u hu=>h u (by simp[hu])]
def fitP(vs:List (Int×Ac))(u:Ah):Bool:=((Dh (default:Ac) vs u.v).shape.1==u.shape.1)&&(((Dh (default:Ac) vs u.v).shape.2==u.shape.2)&&true)
def P2(vs:List (Int×Ac))(t:List Int)(u:Ah):Bool:=bif (Dh (default:Ac) vs u.v).place.block==u.place.block then decide ((Dh (default:Ac) vs u.v).place.at_<u.place.at_) else Pv t (Dh (default:Ac) vs u.v).place.block u.place.block
theorem ahead_eq{f:TFunc}(hs:Fx f=true){D:List Gy}(hD:∀ d∈D,DefIn f d){u:Lw}(hu:UseIn f u)(hfd:J0 D u=true):P2 (dv D) (Cn f) (Dj f u)=S7 D (Cn f) u:=by
 have hF:¬ Ih D u.V<0:=by simpa [J0] using hfd
 have hin:=findD_in hF;have hd:DefIn f (defOf D u.V):=hD _ (by unfold defOf;exact A3 (by have:=hin.1;have:=hin.2;omega));have hg:Dh (default:Ac) (dv D) (Dj f u).v=Ty (defOf D u.V):=P9 u.V D hF;unfold P2 S7;rw[hg]
 generalize defOf D u.V=d at *
 have hub:=hu.1.1
 have hul:0≤Io f u.Block:=by unfold Io;omega
 have hat:∀ a:Int,a<0∨(a<Io f u.Block∧a<1000)→decide (a<(Dj f u).place.at_)=decide (a<u.At)∨a<0:=fun a ha=>by
  rcases ha with ha|ha
  ·exact .inr ha
  ·refine .inl ?_
   show decide (a<bif u.At==1000 then Io f u.Block else u.At)=_
   by_cases h:u.At=1000
   ·rw[h];simp only[show((1000:Int)==1000)=true from rfl,cond_true];rw[decide_eq_true ha.1,decide_eq_true ha.2]
   ·have:(u.At==1000)=false:=by simpa using h
    rw[this];rfl
 have hpos:0≤(Dj f u).place.at_:=by
  show 0≤bif u.At==1000 then Io f u.Block else u.At
  cases u.At==1000
  ·exact hu.2
  ·exact hul
 have hblk:(Dj f u).place.block=u.Block:=rfl;rw[hblk];rcases hd with hd|⟨hd1,hd2,hd3⟩
 ·have e:(Ty d).place=⟨0,-1⟩:=by show atD d=_;unfold atD;rw[hd];rfl
  rw[e,hd,decide_eq_true (show(-1:Int)<0 by decide)]
  show(bif (0:Int)==u.Block then decide ((-1:Int)<(Dj f u).place.at_) else Pv (Cn f) 0 u.Block)=_
  rw[Bool.true_or,Bool.true_or,over_first hs hu.1,decide_eq_true (show(-1:Int)<(Dj f u).place.at_ by omega)]
  cases(0:Int)==u.Block<;>rfl
 ·have hn:¬ d.Block<0:=by have:=hd1.1;omega
  have e:(Ty d).place=⟨d.Block,d.At⟩:=by show atD d=_;unfold atD;rw[decide_eq_false hn];rfl
  rw[e,decide_eq_false hn,Bool.false_or]
  show(bif d.Block==u.Block then decide (d.At<(Dj f u).place.at_) else Pv (Cn f) d.Block u.Block)=_
  cases hb:d.Block==u.Block with
  | true=>
   have hbe:d.Block=u.Block:=by simpa using hb
   simp only[cond_true,Bool.true_and,Bool.not_true,Bool.false_and,Bool.or_false];rcases hat d.At (.inr ⟨by rw[← hbe];exact hd2,hd3⟩) with h|h
   ·exact h
   ·rw[decide_eq_true (by omega),decide_eq_true (by have:=hu.2;omega)]
  | false=>
   simp only[cond_false,Bool.false_and,Bool.false_or,Bool.not_false,Bool.true_and];unfold Pv
   by_cases hm:Jz (Cn f) d.Block u.Block=d.Block
   ·rw[hm]
    have:(d.Block !=-2)=true:=by simp;omega
    simp[this]
   ·have:(Jz (Cn f) d.Block u.Block==d.Block)=false:=by simpa using hm
    simp[this,bne]
section
variable {f:TFunc} (l:Int) (vs:List (Int×Ac))
def stU(f:TFunc)(l:Int)(U:List Ah)(i:Int):Int×List Int×Int×List Ab×Int×List Int×List Ah:=(i,f.Params,f.Ret,f.Blocks,l,Cn f,U)
def stX(f:TFunc)(l:Int)(U:List Ah):List Int×Int×List Ab×Int×List Int×List Ah:=(f.Params,f.Ret,f.Blocks,l,Cn f,U)
theorem c_used1(U:List Ah)(hU:U.length<9223372036854775808):Ak (B9 vs (f,l,Cn f,U)) (stU f l U 0)=some (bif U.all (fun u=>D6 vs u.v) then .inl (stX f l U) else .inr (stX f l U)):=by
 have:=allS (stU f l U) U (fun u=>D6 vs u.v) (B9 vs (f,l,Cn f,U)) (.inl (stX f l U)) (.inr (stX f l U)) (fun i hi=>by
  unfold B9 stU Er
  have hd:decide ((i:Int)<(U.length:Int))=true:=by simpa using hi
  simp only[hd,cond_true,Ao (Ay hi),Int.toNat_natCast,Option.bind_some,D1 hi hU]
  cases D6 vs (U.getD i default).v<;>rfl) (by unfold B9 stU;simp;rfl) U.length 0 (by omega)
 rw[List.drop_zero]at this;exact this
theorem c_used2(U:List Ah)(hU:U.length<9223372036854775808):Ak (Ca vs U) (stU f l U 0)=some (bif U.all (fitP vs) then .inl (stX f l U) else .inr (stX f l U)):=by
 have:=allS (stU f l U) U (fitP vs) (Ca vs U) (.inl (stX f l U)) (.inr (stX f l U)) (fun i hi=>by
  unfold Ca stU Fp
  have hd:decide ((i:Int)<(U.length:Int))=true:=by simpa using hi
  simp only[hd,cond_true,Ao (Ay hi),Int.toNat_natCast,Option.bind_some,D1 hi hU];unfold fitP
  cases(((Dh (default:Ac) vs (U.getD i default).v).shape.1==(U.getD i default).shape.1)&&(((Dh (default:Ac) vs (U.getD i default).v).shape.2==(U.getD i default).shape.2)&&true))<;>rfl) (by unfold Ca stU;simp;rfl) U.length 0 (by omega)
 rw[List.drop_zero]at this;exact this
theorem c_used3(htl:(Cn f).length≤1000)(U:List Ah)(hU:U.length<9223372036854775808):Ak (Cb vs U) (stU f l U 0)=some (bif U.all (P2 vs (Cn f)) then .inl (stX f l U) else .inr (stX f l U)):=by
 have:=allS (stU f l U) U (P2 vs (Cn f)) (Cb vs U) (.inl (stX f l U)) (.inr (stX f l U)) (fun i hi=>by
  have hx:Do (U.getD i default) f l (Cn f) vs U=some (P2 vs (Cn f) (U.getD i default),f,l,Cn f,U):=by
   unfold Do P2;rw[m_Over htl]
   cases(Dh (default:Ac) vs (U.getD i default).v).place.block==(U.getD i default).place.block<;>rfl
  unfold Cb stU
  have hd:decide ((i:Int)<(U.length:Int))=true:=by simpa using hi
  simp only[hd,cond_true,Ao (Ay hi),Int.toNat_natCast];rw[show(⟨f.Params,f.Ret,f.Blocks⟩:TFunc)=f from rfl,hx,Option.bind_some,D1 hi hU]
  cases P2 vs (Cn f) (U.getD i default)<;>rfl) (by unfold Cb stU;simp;rfl) U.length 0 (by omega)
 rw[List.drop_zero]at this;exact this
end
def Wi(f:TFunc):Int:=bif !(Ff f).all (J0 (A0 f)) then 7 else bif !(Ff f).all (Vi (A0 f)) then 6 else bif !(Ff f).all (S7 (A0 f) (Cn f)) then 7 else 0
theorem c_used{f:TFunc}(hf:OkF f)(hs:Fx f=true)(l:Int):∃ U,El f l (Cn f) (dv (A0 f)) []=some (Wi f,f,l,Cn f,U):=by
 have hfit:=fit_of hs;have hul:=Yl hf
 have hsB:Ku f=true:=by simp only[Fx,Bool.and_eq_true]at hs;exact hs.1
 refine⟨(Ff f).map (Dj f),?_⟩
 have hU:((Ff f).map (Dj f)).length<9223372036854775808:=by rw[List.length_map];omega
 have h1:=c_used1 (f:=f) l (dv (A0 f)) _ hU;have h2:=c_used2 (f:=f) l (dv (A0 f)) _ hU;have h3:=c_used3 (f:=f) l (dv (A0 f)) (tree_len hsB) _ hU;rw[Nv (q:=J0 (A0 f)) (fun u _=>Vf u.V _)]at h1;unfold El Wi Lt;rw[c_collect hf l (Cn f) (dv (A0 f)) hfit,Option.bind_some];simp only;rw[show(Ak (B9 (dv (A0 f)) (f,l,Cn f,(Ff f).map (Dj f))) ((0:Int),f.Params,f.Ret,f.Blocks,l,Cn f,(Ff f).map (Dj f)))=_ from h1,Option.bind_some];have fin:∀ e:Int,Ak Fz (e,f.Params,f.Ret,f.Blocks,l,Cn f,(Ff f).map (Dj f))=some (e,f,l,Cn f,(Ff f).map (Dj f)):=fun e=>Am rfl
 cases hfd:(Ff f).all (J0 (A0 f)) with
 | false=>simp only[cond_false,Bool.not_false,cond_true,stX,Option.bind_some,fin]
 | true=>
  have hmf:=List.all_eq_true.1 hfd
  rw[Nv (q:=Vi (A0 f)) (fun u hu=>by
   have:=hmf u hu;simp only[J0,Bool.not_eq_true',decide_eq_false_iff_not]at this;have hg:Dh (default:Ac) (dv (A0 f)) (Dj f u).v=Ty (defOf (A0 f) u.V):=P9 u.V _ this;unfold fitP Vi
   rw[hg];rfl)]at h2
  rw[Nv (q:=S7 (A0 f) (Cn f)) (fun u hu=>ahead_eq hs (defs_in hf) (uses_in hfit u hu) (hmf u hu))]at h3;simp only[cond_true,Bool.not_true,cond_false,stX];rw[show(Ak (Ca (dv (A0 f)) ((Ff f).map (Dj f))) ((0:Int),f.Params,f.Ret,f.Blocks,l,Cn f,(Ff f).map (Dj f)))=_ from h2,Option.bind_some]
  cases(Ff f).all (Vi (A0 f)) with
  | false=>simp only[cond_false,Bool.not_false,cond_true,stX,Option.bind_some,fin]
  | true=>
   simp only[cond_true,Bool.not_true,cond_false,stX];rw[show(Ak (Cb (dv (A0 f)) ((Ff f).map (Dj f))) ((0:Int),f.Params,f.Ret,f.Blocks,l,Cn f,(Ff f).map (Dj f)))=_ from h3,Option.bind_some]
   cases(Ff f).all (S7 (A0 f) (Cn f)) with
   | false=>simp only[cond_false,Bool.not_false,cond_true,stX,Option.bind_some,fin]
   | true=>simp only[cond_true,Bool.not_true,cond_false,stX,Option.bind_some]
theorem c_wrong{f:TFunc}(h:Sm f)(l:Int)(h0:0≤l)(h2:l≤2):∃ t u vs,Dc f l [] []=some (Cl f l,f,l,t,u,vs)∧(Cl f l=0→vs=dv (A0 f)):=by
 have hc:Cl f l=bif !P8 f then 4 else Zz f l:=by
  unfold Cl;rw[decide_eq_false (by omega),decide_eq_false (by omega)];rfl
 rw[hc];unfold Dc;rw[c_told f h.1,Option.bind_some]
 cases hm:P8 f with
 | false=>exact⟨[],[],[],rfl,fun h=>by cases h⟩
 | true=>
  have hf:=sm_ok h hm;simp only[cond_true,Bool.not_true,cond_false,show((0:Int)!=0)=false from rfl,Zz];obtain⟨t',hsh,hst⟩:=c_shaped hf l [] [];rw[hsh,Option.bind_some]
  cases hs:Fx f with
  | false=>exact⟨t',[],[],rfl,fun h=>by cases h⟩
  | true=>
   obtain rfl:=hst hs;simp only[cond_true,Bool.not_true,cond_false,show((0:Int)!=0)=false from rfl];rw[c_typed hf l h0 h2,Option.bind_some]
   cases Hr f l with
   | false=>exact⟨Cn f,[],[],rfl,fun h=>by cases h⟩
   | true=>
    simp only[cond_true,Bool.not_true,cond_false,show((0:Int)!=0)=false from rfl];obtain⟨vs,hd,hv⟩:=c_defined hf l (Cn f) [];rw[hd,Option.bind_some]
    cases hdd:(List.range (A0 f).length).all (Iu (A0 f)) with
    | false=>exact⟨Cn f,[],vs,rfl,fun h=>by cases h⟩
    | true=>
     obtain rfl:=hv hdd;simp only[cond_true,Bool.not_true,cond_false,show((0:Int)!=0)=false from rfl];obtain⟨U,hu⟩:=c_used hf hs l;rw[hu,Option.bind_some];refine⟨Cn f,U,dv (A0 f),?_,fun _=>rfl⟩
     show(bif Wi f !=0 then some (Wi f,f,l,Cn f,U,dv (A0 f)) else some (0,f,l,Cn f,U,dv (A0 f)))=some (Wi f,f,l,Cn f,U,dv (A0 f))
     cases hz:Wi f !=0 with
     | true=>rfl
     | false=>
      have:Wi f=0:=by simpa using hz
      rw[this];rfl
theorem c_check(f:TFunc)(l:Int)(h:Sm f):Ci f l=some (Cl f l):=by
 unfold Ci
 by_cases h0:l<0
 ·rw[decide_eq_true h0];unfold Cl;rw[decide_eq_true h0];rfl
 ·by_cases h2:2<l
  ·rw[decide_eq_false h0,decide_eq_true h2];unfold Cl;rw[decide_eq_false h0,decide_eq_true h2];rfl
  ·obtain⟨t,u,vs,hw,_⟩:=c_wrong h l (by omega) (by omega);rw[decide_eq_false h0,decide_eq_false h2,hw];rfl
def lone(e:Eo)(b r:Int):TFunc:=⟨[b],r,[⟨[],[],e⟩]⟩
theorem ones{α:Type}(l:List α):(l.map fun _=>1).sum=l.length:=by induction l with|nil=>rfl|cons a l ih=>simp[ih];omega
theorem grow_if(n d:Int):(if n<d then d else n)=grow n d:=by
 unfold grow
 by_cases h:n<d<;>simp[h]
theorem c_last(f:TFunc)(h:Sm f):Gd f=some (lastD f):=by
 have hf:=h.1
 have h1:∀(i:Nat),i<f.Blocks.length→∀ n:Int,Ak (Gj f (i:Int)) (n,(0:Int))=some ((f.Blocks.getD i default).Phis.foldl (fun n p=>grow n p.Dst) n):=fun i hi n=>by
  have hB:=hf.block _ (A3 (d:=(default:Ab)) hi);refine Kf (f.Blocks.getD i default).Phis (default:Dx) _ _ (fun s j hj=>?_) (fun s=>?_) n
  ·unfold Gj
   have hd:decide ((j:Int)<((f.Blocks.getD i default).Phis.length:Int))=true:=by simpa using hj
   simp only[Int.toNat_natCast,hd,cond_true,Ao (Ay hj),Wm hj hB.1,grow_if]
  ·unfold Gj
   simp
 have h2:∀(i:Nat),i<f.Blocks.length→∀ n:Int,Ak (Gk f (i:Int)) (n,(0:Int))=some ((f.Blocks.getD i default).Ops.foldl (fun n p=>grow n p.Dst) n):=fun i hi n=>by
  have hB:=hf.block _ (A3 (d:=(default:Ab)) hi);refine Kf (f.Blocks.getD i default).Ops (default:D4) _ _ (fun s j hj=>?_) (fun s=>?_) n
  ·unfold Gk
   have hd:decide ((j:Int)<((f.Blocks.getD i default).Ops.length:Int))=true:=by simpa using hj
   simp only[Int.toNat_natCast,hd,cond_true,Ao (Ay hj),Wm hj hB.2.1,grow_if]
  ·unfold Gk
   simp
 unfold Gd lastD
 rw[Kf f.Blocks (default:Ab) (fun n b=>b.Ops.foldl (fun n o=>grow n o.Dst) (b.Phis.foldl (fun n p=>grow n p.Dst) n)) (Gl f) (fun s i hi=>by
  unfold Gl
  have hd:decide ((i:Int)<(f.Blocks.length:Int))=true:=by simpa using hi
  simp only[hd,cond_true,Ao (Ay hi),h1 i hi,h2 i hi,Option.bind_some,Wm hi hf.blocks]) (fun s=>by unfold Gl;simp)]
 rfl
def shv(l:List Gy):List (Int×(Int×Int)):=l.map fun d=>(d.V,d.Shape)
theorem defs_nodup{f:TFunc}(h:(List.range (A0 f).length).all (Iu (A0 f))=true):((A0 f).map (·.V)).Nodup:=by
 rw[List.nodup_iff_pairwise_ne,List.pairwise_map,List.pairwise_iff_getElem];intro i j hi hj hij he;have:=((Sc hj).1 (allN h j hj)).2 i hij;rw[Ad _ _ _ hi,Ad _ _ _ hj]at this;exact this he
theorem V9{x1:Int×TFunc×Int×List Int×List Ah×List (Int×Ac)}(D:List Gy)(hx:x1.2.2.2.2.2=dv D)(hn:(D.map (·.V)).Nodup):∀(τ:List Nat) (acc:List (Int×(Int×Int))),τ.Nodup→(∀ i∈τ,i<D.length)→(∀ i∈τ,D6 acc (D.getD i default).V=false)→
  Oj (Ep x1) Fo τ acc=some (acc++τ.map fun i=>((D.getD i default).V,(D.getD i default).Shape))
 | [],acc,_,_,_=>by simp[Oj,Fo]
 | i::τ,acc,hd,hin,hf=>by
  have hi:=hin i (by simp)
  have hg:(dv D).getD i ((0:Int),(default:Ac))=((D.getD i default).V,Ty (D.getD i default)):=by
   unfold dv;simp[List.getD,hi]
  have hm:=Ra (D.getD i default).V (D.getD i default).Shape (hf i (by simp))
  have hstep:Ep x1 i acc=some (.next (acc++[((D.getD i default).V,(D.getD i default).Shape)])):=by
   unfold Ep;rw[hx,hg]
   show some (LR.next (Gw acc (D.getD i default).V ((D.getD i default).Shape.1,(D.getD i default).Shape.2)))=_
   rw[show((D.getD i default).Shape.1,(D.getD i default).Shape.2)=(D.getD i default).Shape from rfl,hm]
  unfold Oj;rw[hstep]
  show Oj _ _ τ _=_
  rw[V9 D hx hn τ _ (List.nodup_cons.1 hd).2 (fun j hj=>hin j (by simp[hj])) (fun j hj=>?_),List.map_cons,List.append_assoc]
  ·rfl
  ·have h1:=hf j (by simp[hj]);rw[N7]at h1 ⊢;rw[List.any_append,h1,Bool.false_or];have hj':=hin j (by simp[hj]);have hne:j≠i:=fun e=>(List.nodup_cons.1 hd).1 (e▸hj)
   have:(D.getD j default).V≠(D.getD i default).V:=fun e=>by
    rw[List.nodup_iff_pairwise_ne,List.pairwise_map,List.pairwise_iff_getElem]at hn;rw[Ad _ _ _ hi,Ad _ _ _ hj']at e;rcases Nat.lt_or_gt_of_ne hne with h|h
    ·exact hn j i hj' hi h e
    ·exact hn i j hi hj' h e.symm
   simpa using this
theorem c_shapes(f:TFunc)(h:Sm f):∃ s,Fa f=some s∧ShapesOf f s:=by
 obtain⟨t,u,vs,hw,hv⟩:=c_wrong h 2 (by omega) (by omega);unfold Fa;rw[hw,Option.bind_some]
 cases hc:(Cl f 2 !=0) with
 | true=>
  have hne:Cl f 2≠0:=by simpa using hc
  exact⟨[],rfl,fun _=>rfl,fun e=>absurd e hne,fun e=>absurd e hne,fun e=>absurd e hne⟩
 | false=>
  have h0:Cl f 2=0:=by simpa using hc
  obtain rfl:=hv h0;have hz:=(Mf (f:=f) (l:=2) (by omega) (by omega)).1 h0
  have hall:(List.range (A0 f).length).all (Iu (A0 f))=true:=by
   have:=hz.2.2.2;unfold restD at this
   cases hb:(List.range (A0 f).length).all (Iu (A0 f)) with
   | true=>rfl
   | false=>rw[hb]at this;cases this
  have hn:=defs_nodup hall
  have hlen:(mapE (fun(v_:Ac)=>((.agg (C3 v_)):AV)) (dv (A0 f))).length=(A0 f).length:=by simp[mapE,dv]
  have hkeys:((shv (A0 f)).map (·.1)).Nodup:=by
   have:(shv (A0 f)).map (·.1)=(A0 f).map (·.V):=by unfold shv;rw[List.map_map];rfl
   rw[this];exact hn
  have hrun:∀ τ:List Nat,τ.Perm (List.range (mapE (fun(v_:Ac)=>((.agg (C3 v_)):AV)) (dv (A0 f))).length)→∃ x',Oj (Ep (Cl f 2,f,2,t,u,dv (A0 f))) Fo τ ([]:List (Int×(Int×Int)))=some x'∧Yd x' (shv (A0 f)):=fun τ hτ=>by
   rw[hlen]at hτ;have hr:=V9 (x1:=(Cl f 2,f,2,t,u,dv (A0 f))) (A0 f) rfl hn τ [] (hτ.nodup_iff.2 List.nodup_range) (fun i hi=>List.mem_range.1 (hτ.mem_iff.1 hi)) (fun _ _=>rfl);refine⟨_,hr,?_,hkeys⟩;rw[List.nil_append];have:=hτ.map fun i=>(((A0 f).getD i default).V,((A0 f).getD i default).Shape);refine this.trans ?_
   have e:(List.range (A0 f).length).map (fun i=>(((A0 f).getD i default).V,((A0 f).getD i default).Shape))=shv (A0 f):=by
    unfold shv
    apply List.ext_getElem
    ·simp
    ·intro i h1 h2;simp only[List.length_map,List.length_range]at h1;simp only[List.getElem_map,List.getElem_range,Ad _ _ _ h1]
   rw[e]
  obtain⟨s,hs⟩:=rangeP_ex ⟨shv (A0 f),hrun⟩
  have hp:s.Perm (shv (A0 f))∧(s.map (·.1)).Nodup:=by
   have hsp:=Tc hs (List.range _) (List.Perm.refl _);obtain⟨x',h1,h2⟩:=hsp;obtain⟨x2,h3,h4⟩:=hrun (List.range _) (List.Perm.refl _);rw[h1]at h3;obtain rfl:=OI h3;exact⟨h2.1.symm.trans h4.1,h2.2⟩
  refine⟨s,?_,fun hne=>absurd h0 hne,fun _=>?_,fun _ d hd=>?_,fun _ v hv=>?_⟩
  ·show(Qc Yd _ _ _ _).bind _=_
   rw[hs];rfl
  ·rw[hp.1.length_eq];simp[shv]
  ·have hm:(d.V,d.Shape)∈s:=hp.1.mem_iff.2 (List.mem_map.2 ⟨d,hd,rfl⟩);exact Q0 hp.2 hm
  ·rw[N7,List.any_eq_true]at hv;obtain⟨q,hq,he⟩:=hv;obtain⟨d,hd,rfl⟩:=List.mem_map.1 (hp.1.mem_iff.1 hq);exact⟨d,hd,by simpa using(by simpa using he:v=d.V).symm⟩
theorem facts11:Ys:=⟨fun f l h=>c_check f l h,fun f h=>c_last f h,fun f h=>c_shapes f h⟩
end
end Go.Proofs.YtggpeloimmlkgaaGreat
