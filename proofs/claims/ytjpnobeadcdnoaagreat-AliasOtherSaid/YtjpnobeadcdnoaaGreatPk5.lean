/-
  The machine, the program's functions and the laws' arithmetic: part 5 of 5.
-/
import Derived.Test.YtjpnobeadcdnoaaGreatPk4
set_option linter.unusedSectionVars false
set_option linter.unusedVariables false
set_option linter.unusedSimpArgs false
namespace Go.Proofs.YtjpnobeadcdnoaaGreat
noncomputable section
open Go Go.RowKit
def gD(d:TDef):G6:=bif decide (d.Block<0) then⟨0,-1⟩ else⟨d.Block,d.At⟩
def BZ(d:TDef):Aj:=⟨d.Shape,gD d⟩
def dv(l:List TDef):List (Int×Aj):=l.map λd=>(d.V,BZ d)
def GR(acc:List (Int×Aj))(v:Int):Bool:=(B2 acc v || decide (v<1)) || decide (1023<v)
def F6:List (Int×Aj)->List TDef->Bool×List (Int×Aj)
 | acc,[]=>(true,acc)
 | acc,d::ds=>bif GR acc d.V then(false,acc) else F6 (Ep acc d.V (BZ d)) ds
theorem Yr:∀(a b:List TDef) (acc:List (Int×Aj)),F6 acc (a++b)=bif (F6 acc a).1 then F6 (F6 acc a).2 b else F6 acc a
 | [],b,acc=>rfl
 | d::a,b,acc=>by
  rw[BI];simp only[F6]
  cases GR acc d.V with
  | true=>rfl
  | false=>simp only[Az];exact Yr a b _
theorem S7{V:Type}(k:Int):∀ l:List (Int×V),B2 l k=l.any λq=>k==q.1
 | []=>rfl
 | (a,b)::l=>by rw[List.any_cons,<- S7 k l];rfl
theorem Um{V:Type}(k:Int)(v:V):∀{l:List (Int×V)},B2 l k=false->Ep l k v=l++[(k,v)]
 | [],_=>rfl
 | (a,b)::l,h=>by
  simp only[B2,GC]at h;simp only[Ep,h.1,Az,Um k v h.2,BI]
theorem NY(v:Int)(s:Int×Int)(p:G6)(f:Aa)(l:Int)(t:List Int)(vs:List (Int×Aj))(u:List A7) :
  D9 v s p f l t vs u=some (bif GR vs v then(false,f,l,t,u,vs) else(true,f,l,t,u,Ep vs v ⟨s,p⟩)):=by
 unfold D9 GR
 cases B2 vs v<;>cases decide (v<1)<;>cases decide (1023<v)<;>rfl
def ii(f:Aa)(l:Int)(t:List Int)(u:List A7)(r:Bool×List (Int×Aj)):(List Int×Int×List Ag×Int×List Int×List A7×List (Int×Aj)) ⊕ (Bool×Aa×Int×List Int×List A7×List (Int×Aj)):=
 bif r.1 then .inl (f.Params,f.Ret,f.Blocks,l,t,u,r.2) else .inr (false,f,l,t,u,r.2)
theorem kP(b:Ag)(h:b.Phis.length<9223372036854775808)(i:Nat)(f:Aa)(l:Int)(t:List Int)(u:List A7):∀(k j:Nat) (vs:List (Int×Aj)),j+k=b.Phis.length->
  Ah (Cu (i:Int) b) ((j:Int),f.Params,f.Ret,f.Blocks,l,t,u,vs)=some (ii f l t u (F6 vs ((List.range' j k).flatMap λ(k:Nat)=>[(⟨(b.Phis.getD k default).Dst,i,-1,((b.Phis.getD k default).Bits,1)⟩:TDef)]))):=by
 intro k
 induction k with
 | zero=>
  intro j vs hj
  obtain rfl:j=b.Phis.length:=by omega
  rw[Ai (x:=.inl (f.Params,f.Ret,f.Blocks,l,t,u,vs)) (by unfold Cu;simp)]
  rfl
 | succ k ih=>
  intro j vs hj
  have hi:j<b.Phis.length:=by omega
  have hd:decide ((j:Int)<(b.Phis.length:Int))=true:=by simpa using hi
  have hx:=NY (b.Phis.getD j default).Dst ((b.Phis.getD j default).Bits,1) (⟨(i:Int),-1⟩:G6) f l t vs u
  have hat:gD (⟨(b.Phis.getD j default).Dst,i,-1,((b.Phis.getD j default).Bits,1)⟩:TDef)=⟨(i:Int),-1⟩:=by unfold gD;rw[C6 (by show ¬ (i:Int)<0;omega)];rfl
  rw[Ya,T3,List.singleton_append];simp only[F6]
  cases hb:GR vs (b.Phis.getD j default).Dst with
  | true=>
   rw[hb]at hx
   rw[Ai (x:=.inr (false,f,l,t,u,vs)) (by
    unfold Cu De;simp only[hd,Ae,As (Bc hi),Dk,Ar];rw[show(⟨f.Params,f.Ret,f.Blocks⟩:Aa)=f from rfl,hx]
    rfl)]
   rfl
  | false=>
   rw[hb]at hx
   rw[Ap (s':=(((j+1:Nat):Int),f.Params,f.Ret,f.Blocks,l,t,u,Ep vs (b.Phis.getD j default).Dst ⟨((b.Phis.getD j default).Bits,1),⟨(i:Int),-1⟩⟩)) (by
    unfold Cu De;simp only[hd,Ae,As (Bc hi),Dk,Ar];rw[show(⟨f.Params,f.Ret,f.Blocks⟩:Aa)=f from rfl,hx,Dv hi h]
    rfl),ih (j+1) _ (by omega)]
   unfold BZ;rw[hat]
   rfl
theorem mJ{f0:Aa}(hf:OkF f0){b:Ag}(hb:b∈f0.Blocks)(i:Nat)(f:Aa)(l:Int)(t:List Int)(u:List A7):∀(k j:Nat) (vs:List (Int×Aj)),j+k=b.Ops.length->
  Ah (B1 (i:Int) b) ((j:Int),f.Params,f.Ret,f.Blocks,l,t,u,vs)=some (ii f l t u (F6 vs ((List.range' j k).flatMap λ(k:Nat)=>bif decide (0<(Gx (b.Ops.getD k default)).1) then[(⟨(b.Ops.getD k default).Dst,i,k,Gx (b.Ops.getD k default)⟩:TDef)] else[]))):=by
 have hB:=hf.block b hb;intro k
 induction k with
 | zero=>
  intro j vs hj
  obtain rfl:j=b.Ops.length:=by omega
  rw[Ai (x:=.inl (f.Params,f.Ret,f.Blocks,l,t,u,vs)) (by unfold B1;simp)]
  rfl
 | succ k ih=>
  intro j vs hj
  have hi:j<b.Ops.length:=by omega
  have hd:decide ((j:Int)<(b.Ops.length:Int))=true:=by simpa using hi
  have hg:Kw (b.Ops.getD j default)=some (Gx (b.Ops.getD j default)):=TL _ (k4 hf hb (getD_mem hi));have hx:=NY (b.Ops.getD j default).Dst (Gx (b.Ops.getD j default)) (⟨(i:Int),(j:Int)⟩:G6) f l t vs u
  have hat:gD (⟨(b.Ops.getD j default).Dst,i,j,Gx (b.Ops.getD j default)⟩:TDef)=⟨(i:Int),(j:Int)⟩:=by unfold gD;rw[C6 (by show ¬ (i:Int)<0;omega)];rfl
  rw[Ya,T3]
  cases hp:decide (0<(Gx (b.Ops.getD j default)).1) with
  | false=>
   rw[Az,T4,<- ih (j+1) vs (by omega),Ap (s':=(((j+1:Nat):Int),f.Params,f.Ret,f.Blocks,l,t,u,vs)) (by
    unfold B1;simp only[hd,Ae,As (Bc hi),Dk,hg,Ar,hp];rw[Dv hi (by have:=hB.ops;omega)]
    rfl)]
  | true=>
   rw[Ae,List.singleton_append];simp only[F6]
   cases hb:GR vs (b.Ops.getD j default).Dst with
   | true=>
    rw[hb]at hx
    rw[Ai (x:=.inr (false,f,l,t,u,vs)) (by
     unfold B1;simp only[hd,Ae,As (Bc hi),Dk,hg,Ar,hp];rw[show(true==true)=true from rfl,Ae,show(⟨f.Params,f.Ret,f.Blocks⟩:Aa)=f from rfl,hx]
     rfl)]
    rfl
   | false=>
    rw[hb]at hx
    rw[Ap (s':=(((j+1:Nat):Int),f.Params,f.Ret,f.Blocks,l,t,u,Ep vs (b.Ops.getD j default).Dst ⟨Gx (b.Ops.getD j default),⟨(i:Int),(j:Int)⟩⟩)) (by
     unfold B1;simp only[hd,Ae,As (Bc hi),Dk,hg,Ar,hp];rw[show(true==true)=true from rfl,Ae,show(⟨f.Params,f.Ret,f.Blocks⟩:Aa)=f from rfl,hx,Dv hi (by have:=hB.ops;omega)]
     rfl),ih (j+1) _ (by omega)]
    unfold BZ;rw[hat]
    rfl
theorem NZ{f:Aa}(hf:OkF f){b:Ag}(hb:b∈f.Blocks)(i:Nat)(l:Int)(t:List Int)(u:List A7)(vs:List (Int×Aj)) :
  El (i:Int) b f l t vs u=some ((F6 vs (J8 b i)).1,f,l,t,u,(F6 vs (J8 b i)).2):=by
 unfold El J8;rw[show(0:Int)=((0:Nat):Int) from rfl,kP b (by have:=(hf.block b hb).phis;omega) i f l t u b.Phis.length 0 vs (by omega),Ar,Yr];rw[show(List.range' 0 b.Phis.length).flatMap (λ(k:Nat)=>[(⟨(b.Phis.getD k default).Dst,i,-1,((b.Phis.getD k default).Bits,1)⟩:TDef)])=Ue b i by rw[Ue,BH]];unfold ii
 cases h1:(F6 vs (Ue b i)).1 with
 | false=>simp only[Az];rw[h1]
 | true=>
  simp only[Ae];rw[mJ hf hb i f l t u b.Ops.length 0 _ (by omega),Ar];rw[show(List.range' 0 b.Ops.length).flatMap (λ(k:Nat)=>bif decide (0<(Gx (b.Ops.getD k default)).1) then[(⟨(b.Ops.getD k default).Dst,i,k,Gx (b.Ops.getD k default)⟩:TDef)] else[])=Ys b i by rw[Ys,BH]];unfold ii;cases h2:(F6 (F6 vs (Ue b i)).2 (Ys b i)).1<;>rfl
theorem Uo{l:List TDef}{i:Nat}(hi:i<l.length):K3 l i=true↔valS (l.getD i default).V=true/\∀ j,j<i->(l.getD j default).V≠(l.getD i default).V:=by
 unfold K3;rw[A4];refine and_congr Iff.rfl ?_;unfold Ih
 cases hx:l.findIdx? (λd=>d.V==(l.getD i default).V) with
 | none=>
  rw[List.findIdx?_eq_none_iff]at hx;have:=hx _ (getD_mem (d:=default) hi);simp at this
 | some j=>
  obtain⟨hj,h1,h2⟩:=List.findIdx?_eq_some_iff_getElem.1 hx;simp only[zzL66,Int.natCast_inj]
  constructor
  ·rintro rfl k hk he;have:=h2 k hk;rw[Ab _ _ _ (by omega:k<l.length)]at he;simp at this;exact this he
  ·intro h
   have hv:(l.getD j default).V=(l.getD i default).V:=by rw[Ab _ _ _ hj];simpa using h1
   rcases Nat.lt_trichotomy j i with hlt|rfl|hgt
   ·exact absurd hv (h j hlt)
   ·rfl
   ·have:=h2 i hgt;rw[<- Ab l i default hi]at this;simp at this
theorem iI(l:List TDef)(v:Int):B2 (dv l) v=l.any λd=>v==d.V:=by
 rw[S7,dv,List.any_map];rfl
theorem DM:∀(ds pre:List TDef),(F6 (dv pre) ds).1=(List.range' pre.length ds.length).all (K3 (pre++ds))/\((F6 (dv pre) ds).1=true->(F6 (dv pre) ds).2=dv (pre++ds))
 | [],pre=>by simp[F6]
 | d::ds,pre=>by
  have hi:pre.length<(pre++d::ds).length:=by simp
  have hg:(pre++d::ds).getD pre.length default=d:=by simp[List.getD]
  have hj:∀ j,j<pre.length->(pre++d::ds).getD j default=pre.getD j default:=λj h=>by simp[List.getD,Vl h]
  have hok:K3 (pre++d::ds) pre.length = !GR (dv pre) d.V:=by
   rw[N9,Uo hi,hg];unfold GR valS;rw[iI];simp only[O9,GC,JY,List.any_eq_false,zzL66,A4,D0]
   constructor
   ·rintro⟨⟨h1,h2⟩,h3⟩;refine⟨⟨λx hx he=>?_,by omega⟩,by omega⟩;obtain⟨j,hjl,rfl⟩:=Ll hx;have:=h3 j hjl;rw[hj j hjl,Ab _ _ _ hjl]at this;exact this he.symm
   ·rintro⟨⟨h1,h2⟩,h3⟩;refine⟨⟨by omega,by omega⟩,λj hjl he=>?_⟩;rw[hj j hjl,Ab _ _ _ hjl]at he;exact h1 _ (Yb hjl) he.symm
  rw[M5,Ya,Pa,hok];simp only[F6]
  cases hb:GR (dv pre) d.V with
  | true=>exact⟨rfl,λh=>by cases h⟩
  | false=>
   have hn:B2 (dv pre) d.V=false:=by
    unfold GR at hb;simp only[GC]at hb;exact hb.1.1
   have hs:Ep (dv pre) d.V (BZ d)=dv (pre++[d]):=by rw[Um _ _ hn,dv,dv,Zv];rfl
   have:=DM ds (pre++[d]);rw[Es,X9,List.singleton_append]at this;rw[Az,hs,Kf,Hj];exact this
def pv(f:Aa)(n:Nat):List (Int×Aj):=(List.range n).map λ(j:Nat)=>((j:Int)+1,⟨(f.Params.getD j 0,1),⟨0,-1⟩⟩)
theorem mW(f:Aa):pv f f.Params.length=dv (Lh f):=by
 unfold pv dv Lh;rw[List.map_flatMap]
 induction List.range f.Params.length with
 | nil=>rfl
 | cons a l ih=>rw[Bs,T3,ih];rfl
theorem cN{f:Aa}(hf:OkF f):∀(k i:Nat),i+k=f.Params.length->Ah (Ea f) ((i:Int),pv f i)=some (pv f f.Params.length):=by
 intro k
 induction k with
 | zero=>
  intro i h
  obtain rfl:i=f.Params.length:=by omega
  exact Ai (by unfold Ea;simp)
 | succ k ih=>
  intro i h
  have hi:i<f.Params.length:=by omega
  have hd:decide ((i:Int)<(f.Params.length:Int))=true:=by simpa using hi
  have hn:B2 (pv f i) ((i:Int)+1)=false:=by
   rw[S7,pv,List.any_map,List.any_eq_false];intro j hj;have:=zzL36.1 hj
   simp;omega
  have hs:Ep (pv f i) ((i:Int)+1) ⟨(f.Params.getD i 0,1),⟨0,-1⟩⟩=pv f (i+1):=by
   rw[Um _ _ hn,pv,pv,Zw,Zv];rfl
  rw[Ap (s':=(((i+1:Nat):Int),pv f (i+1))) (by
   unfold Ea De;simp only[hd,Ae,As (Bc hi),Dk,Ar,Dv hi (by have:=hf.few;omega),hs]
   rfl)]
  exact ih (i+1) (by omega)
theorem cJ{f:Aa}(hf:OkF f)(l:Int)(t:List Int)(u:List A7):∀(k i:Nat) (vs:List (Int×Aj)),i+k=f.Blocks.length->
  Ah (Dd f) ((i:Int),vs,f.Params,f.Ret,f.Blocks,l,t,u)=some (bif (F6 vs ((List.range' i k).flatMap λi=>J8 (f.Blocks.getD i default) i)).1 then .inl ((F6 vs ((List.range' i k).flatMap λi=>J8 (f.Blocks.getD i default) i)).2,f.Params,f.Ret,f.Blocks,l,t,u) else
   .inr (7,f,l,t,u,(F6 vs ((List.range' i k).flatMap λi=>J8 (f.Blocks.getD i default) i)).2)):=by
 intro k
 induction k with
 | zero=>
  intro i vs h
  obtain rfl:i=f.Blocks.length:=by omega
  rw[Ai (x:=.inl (vs,f.Params,f.Ret,f.Blocks,l,t,u)) (by unfold Dd;simp)]
  rfl
 | succ k ih=>
  intro i vs h
  have hi:i<f.Blocks.length:=by omega
  have hd:decide ((i:Int)<(f.Blocks.length:Int))=true:=by simpa using hi
  have hx:=NZ hf (getD_mem (d:=default) hi) i l t u vs;rw[Ya,T3,Yr]
  cases hb:(F6 vs (J8 (f.Blocks.getD i default) i)).1 with
  | false=>
   rw[hb]at hx
   rw[Ai (x:=.inr (7,f,l,t,u,(F6 vs (J8 (f.Blocks.getD i default) i)).2)) (by
    unfold Dd;simp only[hd,Ae,As (Bc hi),Dk];rw[show(⟨f.Params,f.Ret,f.Blocks⟩:Aa)=f from rfl,hx]
    rfl),Az,hb]
   rfl
  | true=>
   rw[hb]at hx
   rw[Ap (s':=(((i+1:Nat):Int),(F6 vs (J8 (f.Blocks.getD i default) i)).2,f.Params,f.Ret,f.Blocks,l,t,u)) (by
    unfold Dd;simp only[hd,Ae,As (Bc hi),Dk];rw[show(⟨f.Params,f.Ret,f.Blocks⟩:Aa)=f from rfl,hx,Dv hi (by have:=hf.blocks;omega)]
    rfl),ih (i+1) _ (by omega),Ae]
theorem pL{f:Aa}(hf:OkF f):∀ i,i<f.Params.length->K3 (Ax f) i=true:=λi hi=>by
 have hl:=IC f
 have hg:∀ j,j<f.Params.length->(Ax f).getD j default=⟨(j:Int)+1,-1,0,(f.Params.getD j 0,1)⟩:=λj hj=>by
  have e:Lh f=(List.range f.Params.length).map λ(i:Nat)=>(⟨(i:Int)+1,-1,0,(f.Params.getD i 0,1)⟩:TDef):=by
   unfold Lh
   induction List.range f.Params.length with
   | nil=>rfl
   | cons a l ih=>rw[Bs,T3,ih];rfl
  rw[Ax,List.getD,Vl (by omega),e];simp[hj]
 have hle:i<(Ax f).length:=by rw[Ax,Es];omega
 rw[Uo hle,hg i hi];refine⟨?_,λj hj=>?_⟩
 ·have:=hf.few;simp only[valS,A4,D0];omega
 ·rw[hg j (by omega)];simp only;omega
theorem YS{f:Aa}(hf:OkF f)(l:Int)(t:List Int)(u:List A7):∃ vs,E5 f l t u=some (bif (List.range (Ax f).length).all (K3 (Ax f)) then 0 else 7,f,l,t,u,vs)/\((List.range (Ax f).length).all (K3 (Ax f))=true->vs=dv (Ax f)):=by
 have hsp:=DM ((List.range f.Blocks.length).flatMap λi=>J8 (f.Blocks.getD i default) i) (Lh f)
 have hall:(List.range (Ax f).length).all (K3 (Ax f))=(F6 (dv (Lh f)) ((List.range f.Blocks.length).flatMap λi=>J8 (f.Blocks.getD i default) i)).1:=by
  rw[hsp.1]
  show(List.range (Ax f).length).all (K3 (Ax f))=(List.range' (Lh f).length _).all (K3 (Ax f))
  have hs:List.range (Ax f).length=List.range (Lh f).length++List.range' (Lh f).length ((List.range f.Blocks.length).flatMap λi=>J8 (f.Blocks.getD i default) i).length:=by
   rw[BH,BH,Ax,Es];have:=List.range'_append_1 (s:=0) (m:=(Lh f).length) (n:=((List.range f.Blocks.length).flatMap λi=>J8 (f.Blocks.getD i default) i).length);rw[Fj]at this;exact this.symm
  rw[hs,List.all_append];have:(List.range (Lh f).length).all (K3 (Ax f))=true:=zzL27.2 λi hi=>pL hf i (by rw[<- IC f];exact zzL36.1 hi);rw[this,Hj]
 unfold E5;have hp:=cN hf f.Params.length 0 (by omega);have e0:pv f 0=[]:=rfl;rw[e0,show(((0:Nat):Int))=0 from rfl]at hp;rw[hp,Ar,mW];have hb:=cJ hf l t u f.Blocks.length 0 (dv (Lh f)) (by omega);rw[show(((0:Nat):Int))=0 from rfl,<- BH]at hb;rw[hb,Ar,hall];refine⟨(F6 (dv (Lh f)) ((List.range f.Blocks.length).flatMap λi=>J8 (f.Blocks.getD i default) i)).2,?_,hsp.2⟩
 cases(F6 (dv (Lh f)) ((List.range f.Blocks.length).flatMap λi=>J8 (f.Blocks.getD i default) i)).1<;>rfl
theorem Uk{β S X:Type}(B:Nat)(mk:Int->List β->S)(out:List β->X)(n:Nat)(E:Nat->List β)(f:S->Option (LR S X))(hn:∀(acc:List β) (i:Nat),i<n->(acc++E i).length<=B->f (mk i acc)=some (.next (mk ((i:Int)+1) (acc++E i))))
  (hd:∀ acc:List β,f (mk n acc)=some (.done (out acc))):∀(k i:Nat) (acc:List β),i+k=n->(acc++(List.range' i k).flatMap E).length<=B->Ah f (mk i acc)=some (out (acc++(List.range' i k).flatMap E))
 | 0,i,acc,h,_=>by
  obtain rfl:i=n:=by omega
  rw[Ai (hd acc)]
  simp
 | k+1,i,acc,h,hB=>by
  have hi:i<n:=by omega
  rw[Ya,T3,<- X9]at hB ⊢;rw[Ap (hn acc i hi (by rw[Es]at hB;omega)),show((i:Int)+1)=((i+1:Nat):Int) by omega,Uk B mk out n E f hn hd k (i+1) _ (by omega) hB]
theorem PG{β γ:Type}(h:β->γ)(n:Nat)(g:Nat->β):(List.range' 0 n).flatMap (λj=>[h (g j)])=((List.range n).flatMap λj=>[g j]).map h:=by
 rw[List.map_flatMap,BH];rfl
theorem EG{β γ:Type}(h:β->γ)(n:Nat)(g:Nat->List β):(List.range' 0 n).flatMap (λj=>(g j).map h)=((List.range n).flatMap g).map h:=by
 rw[List.map_flatMap,BH]
def K7(f:Aa)(b:Int):Int:=((f.Blocks.getD b.toNat default).Ops.length:Int)
def Dy(f:Aa)(u:Mp):A7:=⟨u.V,u.Shape,⟨u.Block,bif u.At==1000 then K7 f u.Block else u.At⟩⟩
theorem WF(f:Aa)(l:Int)(t:List Int)(vs:List (Int×Aj))(v:Int)(s:Int×Int)(p:G6)(u:List A7)(h:(u++[(⟨v,s,p⟩:A7)]).length<=10000000):Dm v s p f l t vs u=some (f,l,t,u++[⟨v,s,p⟩]):=by
 unfold Dm;rw[Ad (by rw[Es]at h;rw[XF];omega)]
theorem cL(f:Aa)(l:Int)(t:List Int)(vs:List (Int×Aj))(b:Int)(hb:Bw b f.Blocks.length)(u:List A7):Ei b f l t vs u=some (⟨b,K7 f b⟩,f,l,t,u):=by
 unfold Ei;rw[Ad hb];rfl
section
variable {f:Aa} (hf:OkF f) (l:Int) (t:List Int) (vs:List (Int×Aj))
include hf
theorem kO(i k:Nat)(hi:i<f.Blocks.length)(hk:k<(f.Blocks.getD i default).Phis.length)(hfit:((f.Blocks.getD i default).Phis.getD k default).Args.length<=((f.Blocks.getD i default).Phis.getD k default).From.length)
  (hin:∀ x∈((f.Blocks.getD i default).Phis.getD k default).From,Bw x f.Blocks.length) (u:List A7) (hB:(u++(La ((f.Blocks.getD i default).Phis.getD k default)).map (Dy f)).length<=10000000) :
  Ah (C8 f vs (i:Int) (k:Int)) ((0:Int),f.Params,f.Ret,f.Blocks,l,t,u)=some (f.Params,f.Ret,f.Blocks,l,t,u++(La ((f.Blocks.getD i default).Phis.getD k default)).map (Dy f)):=by
 have hlen:=de hf (getD_mem (d:=(default:Ag)) hi) (getD_mem (d:=(default:Em)) hk)
 generalize hp:(f.Blocks.getD i default).Phis.getD k default=p at *
 have e:=PG (Dy f) p.Args.length λ(j:Nat)=>(⟨p.Args.getD j 0,p.From.getD j 0,1000,(p.Bits,1)⟩:Mp)
 have:=Uk 10000000 (λj u=>(j,f.Params,f.Ret,f.Blocks,l,t,u)) (λu=>(f.Params,f.Ret,f.Blocks,l,t,u)) p.Args.length (λ(j:Nat)=>[Dy f ⟨p.Args.getD j 0,p.From.getD j 0,1000,(p.Bits,1)⟩]) (C8 f vs (i:Int) (k:Int)) (λacc j hj hacc=>by
  unfold C8 De
  have hd:decide ((j:Int)<(p.Args.length:Int))=true:=by simpa using hj
  have hjf:j<p.From.length:=by omega
  simp only[Dk,hp,hd,Ae,As (Bc hj),Ar,As (Bc hjf)];rw[show(⟨f.Params,f.Ret,f.Blocks⟩:Aa)=f from rfl,cL f l t vs _ (hin _ (getD_mem hjf)),Ar];simp only;have eu:Dy f ⟨p.Args.getD j 0,p.From.getD j 0,1000,(p.Bits,1)⟩=⟨p.Args.getD j 0,(p.Bits,1),⟨p.From.getD j 0,K7 f (p.From.getD j 0)⟩⟩:=rfl;rw[eu]at hacc ⊢
  rw[WF f l t vs _ _ _ acc hacc,Ar,Dv hj (by omega)]) (λacc=>by unfold C8;simp only[Dk,hp,show decide ((p.Args.length:Int)<(p.Args.length:Int))=false by simp,Az]) p.Args.length 0 u (by omega) (by rw[e];exact hB)
 rw[e]at this;exact this
theorem gY(i:Nat)(hi:i<f.Blocks.length)(hfit:∀ p∈(f.Blocks.getD i default).Phis,p.Args.length<=p.From.length/\∀ x∈p.From,Bw x f.Blocks.length)(u:List A7)(hB:(u++(Ro (f.Blocks.getD i default)).map (Dy f)).length<=10000000) :
  Ah (C9 f vs (i:Int)) ((0:Int),f.Params,f.Ret,f.Blocks,l,t,u)=some (f.Params,f.Ret,f.Blocks,l,t,u++(Ro (f.Blocks.getD i default)).map (Dy f)):=by
 have hBk:=hf.block _ (getD_mem (d:=(default:Ag)) hi);have e:=EG (Dy f) (f.Blocks.getD i default).Phis.length λ(k:Nat)=>La ((f.Blocks.getD i default).Phis.getD k default)
 have:=Uk 10000000 (λj u=>(j,f.Params,f.Ret,f.Blocks,l,t,u)) (λu=>(f.Params,f.Ret,f.Blocks,l,t,u)) (f.Blocks.getD i default).Phis.length (λ(k:Nat)=>(La ((f.Blocks.getD i default).Phis.getD k default)).map (Dy f)) (C9 f vs (i:Int)) (λacc k hk hacc=>by
  have hq:=hfit _ (getD_mem (d:=(default:Em)) hk);have h1:=kO hf l t vs i k hi hk hq.1 hq.2 acc hacc;unfold C9
  have hd:decide ((k:Int)<((f.Blocks.getD i default).Phis.length:Int))=true:=by simpa using hk
  simp only[Dk,hd,Ae,As (Bc hk),h1,Ar,Dv hk (by have:=hBk.phis;omega)]) (λacc=>by unfold C9;simp) (f.Blocks.getD i default).Phis.length 0 u (by omega) (by rw[e];exact hB)
 rw[e]at this;exact this
theorem mI(i k:Nat)(hi:i<f.Blocks.length)(hk:k<(f.Blocks.getD i default).Ops.length)(u:List A7)(hB:(u++(Mb ((f.Blocks.getD i default).Ops.getD k default) i k).map (Dy f)).length<=10000000) :
  Ah (Da f vs (i:Int) (k:Int) (E3 ((f.Blocks.getD i default).Ops.getD k default))) ((0:Int),f.Params,f.Ret,f.Blocks,l,t,u)=some (f.Params,f.Ret,f.Blocks,l,t,u++(Mb ((f.Blocks.getD i default).Ops.getD k default) i k).map (Dy f)):=by
 have hBk:=hf.block _ (getD_mem (d:=(default:Ag)) hi);have hlen:=FU (je hf (getD_mem (d:=(default:Ag)) hi) (getD_mem (d:=(default:Bh)) hk));have hk512:=hBk.ops
 generalize hp:(f.Blocks.getD i default).Ops.getD k default=o at *
 have e:=PG (Dy f) (E3 o).length λ(j:Nat)=>(⟨o.Args.getD j 0,i,k,(E3 o).getD j (0,0)⟩:Mp)
 have:=Uk 10000000 (λj u=>(j,f.Params,f.Ret,f.Blocks,l,t,u)) (λu=>(f.Params,f.Ret,f.Blocks,l,t,u)) (E3 o).length (λ(j:Nat)=>[Dy f ⟨o.Args.getD j 0,i,k,(E3 o).getD j (0,0)⟩]) (Da f vs (i:Int) (k:Int) (E3 o)) (λacc j hj hacc=>by
  have hkk:((k:Int)==1000)=false:=by simp;omega
  have eu:Dy f ⟨o.Args.getD j 0,i,k,(E3 o).getD j (0,0)⟩=⟨o.Args.getD j 0,(E3 o).getD j (0,0),⟨(i:Int),(k:Int)⟩⟩:=by unfold Dy;simp only[hkk,Az]
  rw[eu]at hacc ⊢;unfold Da
  have hd:decide ((j:Int)<((E3 o).length:Int))=true:=by simpa using hj
  have hja:j<o.Args.length:=by omega
  simp only[Dk,hp,hd,Ae,As (Bc hj),As (Bc hja)]
  rw[show(⟨f.Params,f.Ret,f.Blocks⟩:Aa)=f from rfl,WF f l t vs _ _ _ acc hacc,Ar,Dv hj (by omega)]) (λacc=>by unfold Da;simp) (E3 o).length 0 u (by omega) (by rw[e];exact hB)
 rw[e]at this;exact this
theorem kN(i:Nat)(hi:i<f.Blocks.length)(u:List A7)(hB:(u++(Rn (f.Blocks.getD i default) i).map (Dy f)).length<=10000000) :
  Ah (Db f vs (i:Int)) ((0:Int),f.Params,f.Ret,f.Blocks,l,t,u)=some (f.Params,f.Ret,f.Blocks,l,t,u++(Rn (f.Blocks.getD i default) i).map (Dy f)):=by
 have hmem:=getD_mem (d:=(default:Ag)) hi;have hBk:=hf.block _ hmem;have e:=EG (Dy f) (f.Blocks.getD i default).Ops.length λ(k:Nat)=>Mb ((f.Blocks.getD i default).Ops.getD k default) i k
 have:=Uk 10000000 (λj u=>(j,f.Params,f.Ret,f.Blocks,l,t,u)) (λu=>(f.Params,f.Ret,f.Blocks,l,t,u)) (f.Blocks.getD i default).Ops.length (λ(k:Nat)=>(Mb ((f.Blocks.getD i default).Ops.getD k default) i k).map (Dy f)) (Db f vs (i:Int)) (λacc k hk hacc=>by
  have h1:=mI hf l t vs i k hi hk acc hacc;have ht:Kx ((f.Blocks.getD i default).Ops.getD k default)=some (E3 ((f.Blocks.getD i default).Ops.getD k default)):=TN _ (k4 hf hmem (getD_mem hk));unfold Db
  have hd:decide ((k:Int)<((f.Blocks.getD i default).Ops.length:Int))=true:=by simpa using hk
  simp only[Dk,hd,Ae,As (Bc hk),ht,h1,Ar,Dv hk (by have:=hBk.ops;omega)]) (λacc=>by unfold Db;simp) (f.Blocks.getD i default).Ops.length 0 u (by omega) (by rw[e];exact hB)
 rw[e]at this;exact this
theorem YQ (hfit : ∀ b ∈ f.Blocks, ∀ p ∈ b.Phis, p.Args.length ≤ p.From.length ∧ ∀ x ∈ p.From, Bw x f.Blocks.length) : E4 f l t vs [] = some (f, l, t, (Dz f).map (Dy f)) := by
  have e := EG (Dy f) f.Blocks.length fun (i : Nat) => Tu f (f.Blocks.getD i default) i; have hul := JT hf
  have := Uk 10000000 (fun j u => (j, f.Params, f.Ret, f.Blocks, l, t, u)) (fun u => (f.Params, f.Ret, f.Blocks, l, t, u)) f.Blocks.length (fun (i : Nat) => (Tu f (f.Blocks.getD i default) i).map (Dy f)) (Dc f vs) (fun acc i hi hacc => by
    have hmem := getD_mem (d := (default : Ag)) hi; unfold Tu at hacc ⊢; rw [Zv, Zv, ← X9, ← X9] at hacc ⊢; have l1 := hacc; simp only [Es, M6] at l1; have h1 := gY hf l t vs i hi (hfit _ hmem) acc (by simp only [Es, M6]; omega); have h2 := kN hf l t vs i hi (acc ++ (Ro (f.Blocks.getD i default)).map (Dy f)) (by simp only [Es, M6]; omega); have hinb : Bw (i : Int) f.Blocks.length := Bc hi; unfold Dc De
    have hd : decide ((i : Int) < (f.Blocks.length : Int)) = true := by simpa using hi
    simp only [hd, Ae, As (Bc hi), h1, Ar, h2, Dk]; have hF : (⟨f.Params, f.Ret, f.Blocks⟩ : Aa) = f := rfl; have hw : Bj ((i : Int) + 1) = (i : Int) + 1 := Dv hi (by have := hf.blocks; omega); unfold Uu at hacc ⊢
    cases hz : ((f.Blocks.getD i default).End.Kind == 0) with
    | true =>
      have hz2 : ((f.Blocks.getD i default).End.Kind == 2) = false := by have : (f.Blocks.getD i default).End.Kind = 0 := by simpa using hz
                                                                         rw [this]; rfl
      rw [hz, hz2] at hacc; simp only [Ae, Az, hz2, List.append_nil, Bs, Ce] at hacc ⊢; rw [hF, cL f l t vs _ hinb, Ar]; simp only; rw [WF f l t vs _ _ _ _ (show (_ ++ [(⟨_, _, ⟨(i : Int), K7 f (i : Int)⟩⟩ : A7)]).length ≤ 10000000 from hacc), Ar, Ar, hw]
      rfl
    | false =>
      rw [hz] at hacc
      cases hz2 : ((f.Blocks.getD i default).End.Kind == 2) with
      | true =>
        rw [hz2] at hacc; simp only [Ae, Az, T4, Bs, Ce] at hacc ⊢; rw [hF, cL f l t vs _ hinb, Ar]; simp only; rw [WF f l t vs _ _ _ _ (show (_ ++ [(⟨_, _, ⟨(i : Int), K7 f (i : Int)⟩⟩ : A7)]).length ≤ 10000000 from hacc), Ar, Ar, hw]
        rfl
      | false =>
        simp only [Az, T4, Ce, List.append_nil, Ar, hw]) (fun acc => by unfold Dc; simp) f.Blocks.length 0 [] (by omega) (by rw [e]; simpa [Dz] using (by omega : (Dz f).length ≤ 10000000))
  rw [e, T4] at this; unfold E4; rw [show (0 : Int) = ((0 : Nat) : Int) from rfl]
  show ((Ah (Dc f vs) (((0 : Nat) : Int), f.Params, f.Ret, f.Blocks, l, t, [])).bind _) = _
  rw [this, Ar]
  rfl
end
theorem f9{σ X:Type}(mk:Int->σ)(U:List A7)(p:A7->Bool)(f:σ->Option (LR σ X))(yes no:X)(hk:∀ i:Nat,i<U.length->f (mk i)=some (bif p (U.getD i default) then .next (mk ((i:Int)+1)) else .done no))(he:f (mk U.length)=some (.done yes)) :
  ∀ k i:Nat,i+k=U.length->Ah f (mk i)=some (bif (U.drop i).all p then yes else no)
 | 0,i,h=>by
  obtain rfl:i=U.length:=by omega
  rw[Ai he]
  simp
 | k+1,i,h=>by
  have hi:i<U.length:=by omega
  have hdr:U.drop i=U.getD i default::U.drop (i+1):=by rw[O8 hi,Ab _ _ _ hi]
  have hx:=hk i hi;rw[hdr,Pa]
  cases hp:p (U.getD i default) with
  | true=>
   rw[hp]at hx;rw[Ap hx,show((i:Int)+1)=((i+1:Nat):Int) by omega,f9 mk U p f yes no hk he k (i+1) (by omega),Hj]
  | false=>
   rw[hp]at hx;rw[Ai hx]
   rfl
theorem DQ(d:TDef)(l:List TDef)(v:Int):Ih (d::l) v=bif d.V==v then 0 else bif decide (Ih l v<0) then -1 else Ih l v+1:=by
 unfold Ih;rw[List.findIdx?_cons]
 cases d.V==v with
 | true=>rfl
 | false=>
  cases l.findIdx? (λd=>d.V==v) with
  | none=>rfl
  | some i=>
   simp only[Az,Wo];rw[C6 (by omega)]
   simp
theorem EI(v:Int):∀ l:List TDef,B2 (dv l) v = !decide (Ih l v<0)
 | []=>rfl
 | d::l=>by
  rw[DQ]
  show((v==d.V) || B2 (dv l) v)=_
  rw[EI v l,show(v==d.V)=(d.V==v) by rw[N9];simp;exact N8]
  cases d.V==v with
  | true=>rfl
  | false=>
   by_cases h:Ih l v<0
   ·simp[h]
   ·simp[h];omega
theorem Wb(v:Int):∀ l:List TDef,¬ Ih l v<0->mget (default:Aj) (dv l) v=BZ (defOf l v)
 | [],h=>absurd (show(-1:Int)<0 by decide) h
 | d::l,h=>by
  unfold defOf;rw[DQ]at h ⊢
  show(bif v==d.V then BZ d else mget default (dv l) v)=_
  rw[show(v==d.V)=(d.V==v) by rw[N9];simp;exact N8]
  cases hb:d.V==v with
  | true=>rfl
  | false=>
   rw[hb]at h
   by_cases hn:Ih l v<0
   ·simp[hn]at h
   ·have hz:decide (Ih l v<0)=false:=C6 hn;simp only[Az,hz];rw[Wb v l hn,show(Ih l v+1).toNat=(Ih l v).toNat+1 by omega]
    rfl
def bP(f:Aa)(d:TDef):Prop:=d.Block = -1\/(Bw d.Block f.Blocks.length/\d.At<K7 f d.Block/\d.At<1000)
def jI(f:Aa)(u:Mp):Prop:=Bw u.Block f.Blocks.length/\0<=u.At
theorem gk{f:Aa}(hf:OkF f):∀ d∈Ax f,bP f d:=λd hd=>by
 rcases zzL11.1 hd with h|h
 ·obtain⟨i,_,hi⟩:=zzL65.1 h;rw[zzL14.1 hi];exact .inl rfl
 ·obtain⟨i,hi,h⟩:=zzL65.1 h
  have hi:i<f.Blocks.length:=by simpa using hi
  have hB:=hf.block _ (getD_mem (d:=(default:Ag)) hi);have ho:K7 f (i:Int)=((f.Blocks.getD i default).Ops.length:Int):=rfl;rcases zzL11.1 h with h|h
  ·obtain⟨k,hk,h⟩:=zzL65.1 h;rw[zzL14.1 h];refine .inr ⟨Bc hi,?_,?_⟩
   ·show(-1:Int)<K7 f (i:Int);rw[ho];omega
   ·show(-1:Int)<1000;omega
  ·obtain⟨k,hk,h⟩:=zzL65.1 h
   have hk:k<(f.Blocks.getD i default).Ops.length:=by simpa using hk
   cases hg:decide (0<(Gx ((f.Blocks.getD i default).Ops.getD k default)).1) with
   | false=>rw[hg]at h;cases h
   | true=>
    rw[hg]at h;rw[zzL14.1 h];refine .inr ⟨Bc hi,?_,?_⟩
    ·show(k:Int)<K7 f (i:Int);rw[ho];omega
    ·show(k:Int)<1000;have:=hB.ops;omega
theorem iv{f:Aa}(hfit:∀ b∈f.Blocks,∀ p∈b.Phis,p.Args.length<=p.From.length/\∀ x∈p.From,Bw x f.Blocks.length):∀ u∈Dz f,jI f u:=λu hu=>by
 obtain⟨i,hi,h⟩:=zzL65.1 hu
 have hi:i<f.Blocks.length:=by simpa using hi
 have hmem:=getD_mem (d:=(default:Ag)) hi;rcases zzL11.1 h with h|h
 ·rcases zzL11.1 h with h|h
  ·obtain⟨k,hk,h⟩:=zzL65.1 h
   have hk:k<(f.Blocks.getD i default).Phis.length:=by simpa using hk
   obtain⟨j,hj,h⟩:=zzL65.1 h;have hj:=zzL36.1 hj;have hq:=hfit _ hmem _ (getD_mem (d:=(default:Em)) hk);rw[zzL14.1 h];exact⟨hq.2 _ (getD_mem (by omega)),by show(0:Int)<=1000;omega⟩
  ·obtain⟨k,hk,h⟩:=zzL65.1 h;obtain⟨j,hj,h⟩:=zzL65.1 h;rw[zzL14.1 h];exact⟨Bc hi,by show(0:Int)<=(k:Int);omega⟩
 ·unfold Uu at h
  have:u=⟨(f.Blocks.getD i default).End.Arg,i,1000,(f.Ret,1)⟩\/u=⟨(f.Blocks.getD i default).End.Arg,i,1000,(1,1)⟩:=by
   rcases zzL11.1 h with h|h
   ·cases hz:((f.Blocks.getD i default).End.Kind==0) with
    | true=>rw[hz]at h;exact .inl (zzL14.1 h)
    | false=>rw[hz]at h;cases h
   ·cases hz:((f.Blocks.getD i default).End.Kind==2) with
    | true=>rw[hz]at h;exact .inr (zzL14.1 h)
    | false=>rw[hz]at h;cases h
  rcases this with rfl|rfl<;>exact⟨Bc hi,by show(0:Int)<=1000;omega⟩
theorem kY{f:Aa}(h:F7 f=true):∀ b∈f.Blocks,∀ p∈b.Phis,p.Args.length<=p.From.length/\∀ x∈p.From,Bw x f.Blocks.length:=λb hb p hp=>by
 have hs:N5 f=true:=by simp only[F7,A4]at h;exact h.1
 refine⟨aq h b hb p hp,λx hx=>?_⟩;obtain⟨i,hi,rfl⟩:=Ll hb;simp only[F7,A4]at h;have h1:=bo h.2 i hi;simp only[Qi,A4,zzL27]at h1;rw[Ab _ _ _ hi]at h1;have h2:=h1.2 p hp;simp only[Hc,A4,D0]at h2;rw[h2.1]at hx;obtain⟨q,rfl,hq,_⟩:=(Xx (L:=Er f) (Tj hs) (y:=i) (by rw[X1];exact hi)).1 hx;exact Bc (by rw[X1]at hq;exact hq)
theorem UB{f:Aa}(h:F7 f=true){b:Int}(hb:Bw b f.Blocks.length):N0 (B0 f) 0 b=true:=by
 have hs:N5 f=true:=by simp only[F7,A4]at h;exact h.1
 have hm:=Tj hs;have hlen:=X1 f
 have hpos:0<(Er f).length:=by have:=(shape_iff.1 hs).1.1;omega
 obtain⟨P,hP,o,ht⟩:=ax hm hpos
 have e:B0 f=X5 (Er f) 0:=by
  unfold B0 QX;rw[if_pos ⟨PH hm,Int.le_refl _,by show(0:Int)<((Er f).length:Int);omega⟩]
  rfl
 obtain⟨k,rfl⟩:∃ k:Nat,b=(k:Int):=⟨b.toNat,(Vn hb.1).symm⟩
 have hk:k<f.Blocks.length:=by have:=hb.2;omega
 simp only[F7,A4]at h;have h1:=bo h.2 k hk;simp only[Qi,A4]at h1;have hr:Rch (sN (Er f)) 0 k:=(Xy (Vh hm) hpos k).1 h1.1.1;rw[e];refine(ht.over_dom o hpos (by omega)).2 ⟨rc_iff.2 hr,λha=>?_⟩;exact(av_iff.1 ha).1 rfl
theorem Sv{l:List Mp}{g:Mp->A7}{p:A7->Bool}{q:Mp->Bool}(h:∀ u∈l,p (g u)=q u):(l.map g).all p=l.all q:=by
 induction l with
 | nil=>rfl
 | cons a l ih=>rw[Bs,Pa,Pa,h a (by simp),ih λu hu=>h u (by simp[hu])]
def gp(vs:List (Int×Aj))(u:A7):Bool:=((mget (default:Aj) vs u.v).shape.1==u.shape.1)&&(((mget (default:Aj) vs u.v).shape.2==u.shape.2)&&true)
def V2(vs:List (Int×Aj))(t:List Int)(u:A7):Bool:=bif (mget (default:Aj) vs u.v).place.block==u.place.block then decide ((mget (default:Aj) vs u.v).place.at_<u.place.at_) else N0 t (mget (default:Aj) vs u.v).place.block u.place.block
theorem bn{f:Aa}(hs:F7 f=true){D:List TDef}(hD:∀ d∈D,bP f d){u:Mp}(hu:jI f u)(hfd:K4 D u=true):V2 (dv D) (B0 f) (Dy f u)=Vc D (B0 f) u:=by
 have hF:¬ Ih D u.V<0:=by simpa [K4] using hfd
 have hin:=OQ hF;have hd:bP f (defOf D u.V):=hD _ (by unfold defOf;exact getD_mem (by have:=hin.1;have:=hin.2;omega));have hg:mget (default:Aj) (dv D) (Dy f u).v=BZ (defOf D u.V):=Wb u.V D hF;unfold V2 Vc;rw[hg]
 generalize defOf D u.V=d at *
 have hub:=hu.1.1
 have hul:0<=K7 f u.Block:=by unfold K7;omega
 have hat:∀ a:Int,a<0\/(a<K7 f u.Block/\a<1000)->decide (a<(Dy f u).place.at_)=decide (a<u.At)\/a<0:=λa ha=>by
  rcases ha with ha|ha
  ·exact .inr ha
  ·refine .inl ?_
   show decide (a<bif u.At==1000 then K7 f u.Block else u.At)=_
   by_cases h:u.At=1000
   ·rw[h];simp only[show((1000:Int)==1000)=true from rfl,Ae];rw[Cw ha.1,Cw ha.2]
   ·have:(u.At==1000)=false:=by simpa using h
    rw[this];rfl
 have hpos:0<=(Dy f u).place.at_:=by
  show 0<=bif u.At==1000 then K7 f u.Block else u.At
  cases u.At==1000
  ·exact hu.2
  ·exact hul
 have hblk:(Dy f u).place.block=u.Block:=rfl;rw[hblk];rcases hd with hd|⟨hd1,hd2,hd3⟩
 ·have e:(BZ d).place=⟨0,-1⟩:=by show gD d=_;unfold gD;rw[hd];rfl
  rw[e,hd,Cw (show(-1:Int)<0 by decide)]
  show(bif (0:Int)==u.Block then decide ((-1:Int)<(Dy f u).place.at_) else N0 (B0 f) 0 u.Block)=_
  rw[Bool.true_or,Bool.true_or,UB hs hu.1,Cw (show(-1:Int)<(Dy f u).place.at_ by omega)]
  cases(0:Int)==u.Block<;>rfl
 ·have hn:¬ d.Block<0:=by have:=hd1.1;omega
  have e:(BZ d).place=⟨d.Block,d.At⟩:=by show gD d=_;unfold gD;rw[C6 hn];rfl
  rw[e,C6 hn,GF]
  show(bif d.Block==u.Block then decide (d.At<(Dy f u).place.at_) else N0 (B0 f) d.Block u.Block)=_
  cases hb:d.Block==u.Block with
  | true=>
   have hbe:d.Block=u.Block:=by simpa using hb
   simp only[Ae,Hj,Fi,Ty,Bool.or_false];rcases hat d.At (.inr ⟨by rw[<- hbe];exact hd2,hd3⟩) with h|h
   ·exact h
   ·rw[Cw (by omega),Cw (by have:=hu.2;omega)]
  | false=>
   simp only[Az,Ty,GF,Kf,Hj];unfold N0
   by_cases hm:Mg (B0 f) d.Block u.Block=d.Block
   ·rw[hm]
    have:(d.Block !=-2)=true:=by simp;omega
    simp[this]
   ·have:(Mg (B0 f) d.Block u.Block==d.Block)=false:=by simpa using hm
    simp[this,bne]
section
variable {f:Aa} (l:Int) (vs:List (Int×Aj))
def bM(f:Aa)(l:Int)(U:List A7)(i:Int):Int×List Int×Int×List Ag×Int×List Int×List A7:=(i,f.Params,f.Ret,f.Blocks,l,B0 f,U)
def NF(f:Aa)(l:Int)(U:List A7):List Int×Int×List Ag×Int×List Int×List A7:=(f.Params,f.Ret,f.Blocks,l,B0 f,U)
theorem ga(U:List A7)(hU:U.length<9223372036854775808):Ah (C3 vs (f,l,B0 f,U)) (bM f l U 0)=some (bif U.all (λu=>B2 vs u.v) then .inl (NF f l U) else .inr (NF f l U)):=by
 have:=f9 (bM f l U) U (λu=>B2 vs u.v) (C3 vs (f,l,B0 f,U)) (.inl (NF f l U)) (.inr (NF f l U)) (λi hi=>by
  unfold C3 bM Ha
  have hd:decide ((i:Int)<(U.length:Int))=true:=by simpa using hi
  simp only[hd,Ae,As (Bc hi),Dk,Ar,Dv hi hU]
  cases B2 vs (U.getD i default).v<;>rfl) (by unfold C3 bM;simp;rfl) U.length 0 (by omega)
 rw[Lm]at this;exact this
theorem gb(U:List A7)(hU:U.length<9223372036854775808):Ah (C4 vs U) (bM f l U 0)=some (bif U.all (gp vs) then .inl (NF f l U) else .inr (NF f l U)):=by
 have:=f9 (bM f l U) U (gp vs) (C4 vs U) (.inl (NF f l U)) (.inr (NF f l U)) (λi hi=>by
  unfold C4 bM Ik
  have hd:decide ((i:Int)<(U.length:Int))=true:=by simpa using hi
  simp only[hd,Ae,As (Bc hi),Dk,Ar,Dv hi hU];unfold gp
  cases(((mget (default:Aj) vs (U.getD i default).v).shape.1==(U.getD i default).shape.1)&&(((mget (default:Aj) vs (U.getD i default).v).shape.2==(U.getD i default).shape.2)&&true))<;>rfl) (by unfold C4 bM;simp;rfl) U.length 0 (by omega)
 rw[Lm]at this;exact this
theorem ge(htl:(B0 f).length<=1000)(U:List A7)(hU:U.length<9223372036854775808):Ah (C5 vs U) (bM f l U 0)=some (bif U.all (V2 vs (B0 f)) then .inl (NF f l U) else .inr (NF f l U)):=by
 have:=f9 (bM f l U) U (V2 vs (B0 f)) (C5 vs U) (.inl (NF f l U)) (.inr (NF f l U)) (λi hi=>by
  have hx:E6 (U.getD i default) f l (B0 f) vs U=some (V2 vs (B0 f) (U.getD i default),f,l,B0 f,U):=by
   unfold E6 V2;rw[kj htl]
   cases(mget (default:Aj) vs (U.getD i default).v).place.block==(U.getD i default).place.block<;>rfl
  unfold C5 bM
  have hd:decide ((i:Int)<(U.length:Int))=true:=by simpa using hi
  simp only[hd,Ae,As (Bc hi),Dk];rw[show(⟨f.Params,f.Ret,f.Blocks⟩:Aa)=f from rfl,hx,Ar,Dv hi hU]
  cases V2 vs (B0 f) (U.getD i default)<;>rfl) (by unfold C5 bM;simp;rfl) U.length 0 (by omega)
 rw[Lm]at this;exact this
end
def FX(f:Aa):Int:=bif !(Dz f).all (K4 (Ax f)) then 7 else bif !(Dz f).all (Xp (Ax f)) then 6 else bif !(Dz f).all (Vc (Ax f) (B0 f)) then 7 else 0
theorem kU{f:Aa}(hf:OkF f)(hs:F7 f=true)(l:Int):∃ U,Gl f l (B0 f) (dv (Ax f)) []=some (FX f,f,l,B0 f,U):=by
 have hfit:=kY hs;have hul:=JT hf
 have hsB:N5 f=true:=by simp only[F7,A4]at hs;exact hs.1
 refine⟨(Dz f).map (Dy f),?_⟩
 have hU:((Dz f).map (Dy f)).length<9223372036854775808:=by rw[M6];omega
 have h1:=ga (f:=f) l (dv (Ax f)) _ hU;have h2:=gb (f:=f) l (dv (Ax f)) _ hU;have h3:=ge (f:=f) l (dv (Ax f)) (eQ hsB) _ hU;rw[Sv (q:=K4 (Ax f)) (λu _=>EI u.V _)]at h1;unfold Gl FX Pp;rw[YQ hf l (B0 f) (dv (Ax f)) hfit,Ar];simp only;rw[show(Ah (C3 (dv (Ax f)) (f,l,B0 f,(Dz f).map (Dy f))) ((0:Int),f.Params,f.Ret,f.Blocks,l,B0 f,(Dz f).map (Dy f)))=_ from h1,Ar];have fin:∀ e:Int,Ah Ka (e,f.Params,f.Ret,f.Blocks,l,B0 f,(Dz f).map (Dy f))=some (e,f,l,B0 f,(Dz f).map (Dy f)):=λe=>Ai rfl
 cases hfd:(Dz f).all (K4 (Ax f)) with
 | false=>simp only[Az,Kf,Ae,NF,Ar,fin]
 | true=>
  have hmf:=zzL27.1 hfd
  rw[Sv (q:=Xp (Ax f)) (λu hu=>by
   have:=hmf u hu;simp only[K4,O9,JY]at this;have hg:mget (default:Aj) (dv (Ax f)) (Dy f u).v=BZ (defOf (Ax f) u.V):=Wb u.V _ this;unfold gp Xp
   rw[hg];rfl)]at h2
  rw[Sv (q:=Vc (Ax f) (B0 f)) (λu hu=>bn hs (gk hf) (iv hfit u hu) (hmf u hu))]at h3;simp only[Ae,Fi,Az,NF];rw[show(Ah (C4 (dv (Ax f)) ((Dz f).map (Dy f))) ((0:Int),f.Params,f.Ret,f.Blocks,l,B0 f,(Dz f).map (Dy f)))=_ from h2,Ar]
  cases(Dz f).all (Xp (Ax f)) with
  | false=>simp only[Az,Kf,Ae,NF,Ar,fin]
  | true=>
   simp only[Ae,Fi,Az,NF];rw[show(Ah (C5 (dv (Ax f)) ((Dz f).map (Dy f))) ((0:Int),f.Params,f.Ret,f.Blocks,l,B0 f,(Dz f).map (Dy f)))=_ from h3,Ar]
   cases(Dz f).all (Vc (Ax f) (B0 f)) with
   | false=>simp only[Az,Kf,Ae,NF,Ar,fin]
   | true=>simp only[Ae,Fi,Az,NF,Ar]
theorem WG{f:Aa}(h:Sm f)(l:Int)(h0:0<=l)(h2:l<=2):∃ t u vs,Eo f l [] []=some (Cm f l,f,l,t,u,vs)/\(Cm f l=0->vs=dv (Ax f)):=by
 have hc:Cm f l=bif !Ra f then 4 else MP f l:=by
  unfold Cm;rw[C6 (by omega),C6 (by omega)];rfl
 rw[hc];unfold Eo;rw[kT f h.1,Ar]
 cases hm:Ra f with
 | false=>exact⟨[],[],[],rfl,λh=>by cases h⟩
 | true=>
  have hf:=jk h hm;simp only[Ae,Fi,Az,show((0:Int)!=0)=false from rfl,MP];obtain⟨t',hsh,hst⟩:=cO hf l [] [];rw[hsh,Ar]
  cases hs:F7 f with
  | false=>exact⟨t',[],[],rfl,λh=>by cases h⟩
  | true=>
   obtain rfl:=hst hs;simp only[Ae,Fi,Az,show((0:Int)!=0)=false from rfl];rw[gZ hf l h0 h2,Ar]
   cases Pq f l with
   | false=>exact⟨B0 f,[],[],rfl,λh=>by cases h⟩
   | true=>
    simp only[Ae,Fi,Az,show((0:Int)!=0)=false from rfl];obtain⟨vs,hd,hv⟩:=YS hf l (B0 f) [];rw[hd,Ar]
    cases hdd:(List.range (Ax f).length).all (K3 (Ax f)) with
    | false=>exact⟨B0 f,[],vs,rfl,λh=>by cases h⟩
    | true=>
     obtain rfl:=hv hdd;simp only[Ae,Fi,Az,show((0:Int)!=0)=false from rfl];obtain⟨U,hu⟩:=kU hf hs l;rw[hu,Ar];refine⟨B0 f,U,dv (Ax f),?_,λ_=>rfl⟩
     show(bif FX f !=0 then some (FX f,f,l,B0 f,U,dv (Ax f)) else some (0,f,l,B0 f,U,dv (Ax f)))=some (FX f,f,l,B0 f,U,dv (Ax f))
     cases hz:FX f !=0 with
     | true=>rfl
     | false=>
      have:FX f=0:=by simpa using hz
      rw[this];rfl
theorem gV(f:Aa)(l:Int)(h:Sm f):L8 f l=some (Cm f l):=by
 unfold L8
 by_cases h0:l<0
 ·rw[Cw h0];unfold Cm;rw[Cw h0];rfl
 ·by_cases h2:2<l
  ·rw[C6 h0,Cw h2];unfold Cm;rw[C6 h0,Cw h2];rfl
  ·obtain⟨t,u,vs,hw,_⟩:=WG h l (by omega) (by omega);rw[C6 h0,C6 h2,hw];rfl
def lone(e:Ge)(b r:Int):Aa:=⟨[b],r,[⟨[],[],e⟩]⟩
theorem pM{α:Type}(l:List α):(l.map λ_=>1).sum=l.length:=by induction l with|nil=>rfl|cons a l ih=>simp[ih];omega
def il(l:List TDef):List (Int×(Int×Int)):=l.map λd=>(d.V,d.Shape)
theorem V5{f:Aa}(h:(List.range (Ax f).length).all (K3 (Ax f))=true):((Ax f).map (·.V)).Nodup:=by
 rw[List.nodup_iff_pairwise_ne,List.pairwise_map,zzL98];intro i j hi hj hij he;have:=((Uo hj).1 (bo h j hj)).2 i hij;rw[Ab _ _ _ hi,Ab _ _ _ hj]at this;exact this he
theorem FP{x1:Int×Aa×Int×List Int×List A7×List (Int×Aj)}(D:List TDef)(hx:x1.2.2.2.2.2=dv D)(hn:(D.map (·.V)).Nodup):∀(τ:List Nat) (acc:List (Int×(Int×Int))),τ.Nodup->(∀ i∈τ,i<D.length)->(∀ i∈τ,B2 acc (D.getD i default).V=false)->
  Tk (Gj x1) H9 τ acc=some (acc++τ.map λi=>((D.getD i default).V,(D.getD i default).Shape))
 | [],acc,_,_,_=>by simp[Tk,H9]
 | i::τ,acc,hd,hin,hf=>by
  have hi:=hin i (by simp)
  have hg:(dv D).getD i ((0:Int),(default:Aj))=((D.getD i default).V,BZ (D.getD i default)):=by
   unfold dv;simp[List.getD,hi]
  have hm:=Um (D.getD i default).V (D.getD i default).Shape (hf i (by simp))
  have hstep:Gj x1 i acc=some (.next (acc++[((D.getD i default).V,(D.getD i default).Shape)])):=by
   unfold Gj;rw[hx,hg]
   show some (LR.next (Ep acc (D.getD i default).V ((D.getD i default).Shape.1,(D.getD i default).Shape.2)))=_
   rw[show((D.getD i default).Shape.1,(D.getD i default).Shape.2)=(D.getD i default).Shape from rfl,hm]
  unfold Tk;rw[hstep]
  show Tk _ _ τ _=_
  rw[FP D hx hn τ _ (zzL76.1 hd).2 (λj hj=>hin j (by simp[hj])) (λj hj=>?_),Bs,X9]
  ·rfl
  ·have h1:=hf j (by simp[hj]);rw[S7]at h1 ⊢;rw[List.any_append,h1,GF];have hj':=hin j (by simp[hj]);have hne:j≠i:=λe=>(zzL76.1 hd).1 (e▸hj)
   have:(D.getD j default).V≠(D.getD i default).V:=λe=>by
    rw[List.nodup_iff_pairwise_ne,List.pairwise_map,zzL98]at hn;rw[Ab _ _ _ hi,Ab _ _ _ hj']at e;rcases Nat.lt_or_gt_of_ne hne with h|h
    ·exact hn j i hj' hi h e
    ·exact hn i j hi hj' h e.symm
   simpa using this
theorem OA(f:Aa)(h:Sm f):∃ s,Ks f=some s/\bY f s:=by
 obtain⟨t,u,vs,hw,hv⟩:=WG h 2 (by omega) (by omega);unfold Ks;rw[hw,Ar]
 cases hc:(Cm f 2 !=0) with
 | true=>
  have hne:Cm f 2≠0:=by simpa using hc
  exact⟨[],rfl,λ_=>rfl,λe=>absurd e hne,λe=>absurd e hne,λe=>absurd e hne⟩
 | false=>
  have h0:Cm f 2=0:=by simpa using hc
  obtain rfl:=hv h0;have hz:=(Nn (f:=f) (l:=2) (by omega) (by omega)).1 h0
  have hall:(List.range (Ax f).length).all (K3 (Ax f))=true:=by
   have:=hz.2.2.2;unfold FK at this
   cases hb:(List.range (Ax f).length).all (K3 (Ax f)) with
   | true=>rfl
   | false=>rw[hb]at this;cases this
  have hn:=V5 hall
  have hlen:(mapE (λ(v_:Aj)=>((.agg (Ql v_)):AV)) (dv (Ax f))).length=(Ax f).length:=by simp[mapE,dv]
  have hkeys:((il (Ax f)).map (·.1)).Nodup:=by
   have:(il (Ax f)).map (·.1)=(Ax f).map (·.V):=by unfold il;rw[List.map_map];rfl
   rw[this];exact hn
  have hrun:∀ τ:List Nat,τ.Perm (List.range (mapE (λ(v_:Aj)=>((.agg (Ql v_)):AV)) (dv (Ax f))).length)->∃ x',Tk (Gj (Cm f 2,f,2,t,u,dv (Ax f))) H9 τ ([]:List (Int×(Int×Int)))=some x'/\JG x' (il (Ax f)):=λτ hτ=>by
   rw[hlen]at hτ;have hr:=FP (x1:=(Cm f 2,f,2,t,u,dv (Ax f))) (Ax f) rfl hn τ [] (hτ.nodup_iff.2 List.nodup_range) (λi hi=>zzL36.1 (hτ.mem_iff.1 hi)) (λ_ _=>rfl);refine⟨_,hr,?_,hkeys⟩;rw[T4];have:=hτ.map λi=>(((Ax f).getD i default).V,((Ax f).getD i default).Shape);refine this.trans ?_
   have e:(List.range (Ax f).length).map (λi=>(((Ax f).getD i default).V,((Ax f).getD i default).Shape))=il (Ax f):=by
    unfold il
    apply Zt
    ·simp
    ·intro i h1 h2;simp only[M6,Vo]at h1;simp only[List.getElem_map,List.getElem_range,Ab _ _ _ h1]
   rw[e]
  obtain⟨s,hs⟩:=ae ⟨il (Ax f),hrun⟩
  have hp:s.Perm (il (Ax f))/\(s.map (·.1)).Nodup:=by
   have hsp:=AZ hs (List.range _) (List.Perm.refl _);obtain⟨x',h1,h2⟩:=hsp;obtain⟨x2,h3,h4⟩:=hrun (List.range _) (List.Perm.refl _);rw[h1]at h3;obtain rfl:=OI h3;exact⟨h2.1.symm.trans h4.1,h2.2⟩
  refine⟨s,?_,λhne=>absurd h0 hne,λ_=>?_,λ_ d hd=>?_,λ_ v hv=>?_⟩
  ·show(We JG _ _ _ _).bind _=_
   rw[hs];rfl
  ·rw[hp.1.length_eq];simp[il]
  ·have hm:(d.V,d.Shape)∈s:=hp.1.mem_iff.2 (zzL26.2 ⟨d,hd,rfl⟩);exact EH hp.2 hm
  ·rw[S7,List.any_eq_true]at hv;obtain⟨q,hq,he⟩:=hv;obtain⟨d,hd,rfl⟩:=zzL26.1 (hp.1.mem_iff.1 hq);exact⟨d,hd,by simpa using(by simpa using he:v=d.V).symm⟩
abbrev bA(f:Aa)(i:Nat):Ag:=f.Blocks.getD i default
def ow(f:Aa)(i:Nat)(k:Nat):Int:=(bA f i).End.To.getD k 0
structure Rt(f:Aa):Prop where
 lo:1<=f.Blocks.length
 hi:f.Blocks.length<=64
 to:∀ i,i<f.Blocks.length->∀ k,k<(bA f i).End.To.length->0<ow f i k/\ow f i k<f.Blocks.length
 one:∀ i,i<f.Blocks.length->(bA f i).End.Kind=1->(bA f i).End.To.length=1
 two:∀ i,i<f.Blocks.length->(bA f i).End.Kind=2->(bA f i).End.To.length=2
 may:Ly (Er f)=true
 ok:OkF f
set_option maxRecDepth 100000
def o9(f:Aa)(d:TDef)(b a:Int):Prop:=d.Block<0\/(d.Block=b/\d.At<a)\/(d.Block≠b/\N0 (B0 f) d.Block b=true)
theorem TB{l:List TDef}(hn:(l.map (·.V)).Nodup){d:TDef}(hd:d∈l):0<=Ih l d.V/\defOf l d.V=d:=by
 obtain⟨i,hi,rfl⟩:=Ll hd
 have hx:∃ k,l.findIdx? (λe=>e.V==l[i].V)=some k:=by
  cases h:l.findIdx? (λe=>e.V==l[i].V) with
  | some k=>exact⟨k,rfl⟩
  | none=>
   have:=List.findIdx?_eq_none_iff.1 h _ (Yb hi);simp at this
 obtain⟨k,hk⟩:=hx;obtain⟨hk1,hk2,_⟩:=List.findIdx?_eq_some_iff_getElem.1 hk
 have e:k=i:=by
  have h1:(l.map (·.V))[k]'(by simpa using hk1)=(l.map (·.V))[i]'(by simpa using hi):=by simpa using hk2
  exact(List.getElem_inj hn).1 h1
 subst e;unfold defOf Ih;rw[hk];refine⟨by simp,?_⟩
 show l.getD ((k:Int)).toNat default=l[k]
 rw[A5,Ab _ _ _ hi]
structure mB(f:Aa)(l:Int):Prop where
 may:Ra f=true
 shape:F7 f=true
 typed:Pq f l=true
 rest:FK f=0
theorem ij{f:Aa}{l:Int}(hl:0<=l/\l<=2):Cm f l=0↔mB f l:=
 ⟨λh=>by obtain⟨a,b,c,d⟩:=(Nn hl.1 hl.2).1 h;exact⟨a,b,c,d⟩,λh=>(Nn hl.1 hl.2).2 ⟨h.1,h.2,h.3,h.4⟩⟩
section
variable {f:Aa} {l:Int} (R:mB f l)
include R
theorem d8{b:Ag}(hb:b∈f.Blocks){o:Bh}(ho:o∈b.Ops):G5 l o=true:=by
 have h:=R.typed;simp only[Pq,Hl,A4,zzL27]at h;exact(h.1.2 b hb).2 o ho
theorem d7{b:Ag}(hb:b∈f.Blocks){o:Bh}(ho:o∈b.Ops):Ht o=true:=by
 have:=d8 R hb ho;unfold G5 at this;simp only[A4]at this;exact this.1.1
theorem CT:(List.range (Ax f).length).all (K3 (Ax f))=true/\(∀ u∈Dz f,K4 (Ax f) u=true)/\(∀ u∈Dz f,Xp (Ax f) u=true)/\∀ u∈Dz f,Vc (Ax f) (B0 f) u=true:=by
 have h:=R.rest;unfold FK at h
 cases h1:(List.range _).all _ with
 | false=>rw[h1]at h;cases h
 | true=>grind
theorem dz{d e:TDef}(hd:d∈Ax f)(he:e∈Ax f)(hv:d.V=e.V):d=e:=by
 have hn:=V5 (CT R).1;have h1:=(TB hn hd).2;rw[hv,(TB hn he).2]at h1;exact h1.symm
theorem k9{d:TDef}(hd:d∈Ax f):valS d.V=true:=by
 obtain⟨i,hi,rfl⟩:=Ll hd;have:=((Uo hi).1 (bo (CT R).1 i hi)).1;rw[Ab _ _ _ hi]at this;exact this
theorem d9{u:Mp}(hu:u∈Dz f):∃ d∈Ax f,d.V=u.V/\d.Shape=u.Shape/\o9 f d u.Block u.At:=by
 obtain⟨_,h2,h3,h4⟩:=CT R;have hf:=h2 u hu;have hfit:=h3 u hu;have hdom:=h4 u hu;unfold K4 at hf
 have hneg:¬ Ih (Ax f) u.V<0:=by simpa using hf
 have hin:=OQ hneg;have hmem:defOf (Ax f) u.V∈Ax f:=getD_mem (by have:=hin.1;have:=hin.2;omega)
 have hV:(defOf (Ax f) u.V).V=u.V:=by
  unfold defOf;unfold Ih at hneg ⊢
  cases hx:(Ax f).findIdx? (λd=>d.V==u.V) with
  | none=>rw[hx]at hneg;exact absurd (by decide) hneg
  | some i=>
   obtain⟨hi,hp,_⟩:=List.findIdx?_eq_some_iff_getElem.1 hx
   show((Ax f).getD ((i:Int)).toNat default).V=_
   rw[A5,Ab _ _ _ hi]
   simpa using hp
 refine⟨_,hmem,hV,?_,?_⟩
 ·unfold Xp at hfit;simp only[A4,zzL66]at hfit;exact Prod.ext hfit.1 hfit.2.1
 ·unfold Vc at hdom;simp only[Vp,A4,D0,zzL66,O9,zzL25]at hdom;rcases hdom with(h|h)|⟨h,h'⟩
  ·exact .inl h
  ·exact .inr (.inl h)
  ·by_cases hb:(defOf (Ax f) u.V).Block<0
   ·exact .inl hb
   ·refine .inr (.inr ⟨h,?_⟩);rw[bne_eq_false_iff_eq]at h';unfold N0;rw[h',A4];exact⟨by simp,by rw[zzL89];omega⟩
end
theorem ri_def{f:Aa}{d:TDef}:d∈Ax f↔(∃ i,i<f.Params.length/\d=⟨(i:Int)+1,-1,0,(f.Params.getD i 0,1)⟩) \/
  ∃ i,i<f.Blocks.length/\((∃ k,k<(bA f i).Phis.length/\d=⟨((bA f i).Phis.getD k default).Dst,i,-1,(((bA f i).Phis.getD k default).Bits,1)⟩) \/
   ∃ k,k<(bA f i).Ops.length/\0<(Gx ((bA f i).Ops.getD k default)).1/\d=⟨((bA f i).Ops.getD k default).Dst,i,k,Gx ((bA f i).Ops.getD k default)⟩):=by
 unfold Ax Lh J8 Ue Ys;simp only[zzL11,zzL65,zzL36,zzL14]
 constructor
 ·rintro(h|⟨i,hi,⟨k,hk,h⟩|⟨k,hk,h⟩⟩)
  ·exact .inl h
  ·exact .inr ⟨i,hi,.inl ⟨k,hk,h⟩⟩
  ·refine .inr ⟨i,hi,.inr ⟨k,hk,?_⟩⟩
   cases hg:decide (0<(Gx ((f.Blocks.getD i default).Ops.getD k default)).1) with
   | true=>rw[hg]at h;exact⟨Qb hg,zzL14.1 h⟩
   | false=>rw[hg]at h;cases h
 ·rintro(h|⟨i,hi,⟨k,hk,h⟩|⟨k,hk,hg,h⟩⟩)
  ·exact .inl h
  ·exact .inr ⟨i,hi,.inl ⟨k,hk,h⟩⟩
  ·exact .inr ⟨i,hi,.inr ⟨k,hk,by rw[Cw hg];exact zzL14.2 h⟩⟩
theorem JR{o:Bh}(hm:Ht o=true):(E3 o).length=o.Args.length/\∀ j,j<o.Args.length->(E3 o).getD j (0,0)=W5 o j:=by
 obtain⟨_,_,_,_,hn,_,_⟩:=Xj hm
 have ht:E3 o=L3 o:=by unfold E3;rw[hm];rfl
 have htl:(L3 o).length=o.Args.length:=by unfold L3;rw[M6,Vo];omega
 refine⟨by rw[ht,htl],λj hj=>?_⟩;rw[ht];unfold L3;rw[Qs (by omega)]
theorem XE {f : Aa} (hk : ∀ b ∈ f.Blocks, ∀ o ∈ b.Ops, Ht o = true) {u : Mp} : u ∈ Dz f ↔ ∃ i, i < f.Blocks.length ∧
    ((∃ k j, k < (bA f i).Phis.length ∧ j < ((bA f i).Phis.getD k default).Args.length ∧ u = ⟨((bA f i).Phis.getD k default).Args.getD j 0, ((bA f i).Phis.getD k default).From.getD j 0, 1000, (((bA f i).Phis.getD k default).Bits, 1)⟩) ∨
     (∃ k j, k < (bA f i).Ops.length ∧ j < ((bA f i).Ops.getD k default).Args.length ∧ u = ⟨((bA f i).Ops.getD k default).Args.getD j 0, i, k, W5 ((bA f i).Ops.getD k default) j⟩) ∨
     ((bA f i).End.Kind = 0 ∧ u = ⟨(bA f i).End.Arg, i, 1000, (f.Ret, 1)⟩) ∨ ((bA f i).End.Kind = 2 ∧ u = ⟨(bA f i).End.Arg, i, 1000, (1, 1)⟩)) := by
  unfold Dz Tu Ro La Rn Mb Uu; simp only [zzL11, zzL65, zzL36, zzL14]
  have hE : ∀ (k c : Int) (x : Mp), u ∈ (bif k == c then [x] else []) ↔ (k = c ∧ u = x) := fun k c x => by
    by_cases h : k = c
    · rw [zzL66.2 h]; simp [h]
    · rw [zzL25.2 h]; simp [h]
  simp only [hE]
  constructor
  · rintro ⟨i, hi, (⟨k, hk', j, hj, h⟩ | ⟨k, hk', j, hj, h⟩) | h⟩
    · exact ⟨i, hi, .inl ⟨k, j, hk', hj, h⟩⟩
    · obtain ⟨e1, e2⟩ := JR (hk _ (getD_mem (d := default) hi) _ (getD_mem (d := default) hk')); rw [e1] at hj; rw [e2 j hj] at h; exact ⟨i, hi, .inr (.inl ⟨k, j, hk', hj, h⟩)⟩
    · exact ⟨i, hi, .inr (.inr h)⟩
  · rintro ⟨i, hi, ⟨k, j, hk', hj, h⟩ | ⟨k, j, hk', hj, h⟩ | h⟩
    · exact ⟨i, hi, .inl (.inl ⟨k, hk', j, hj, h⟩)⟩
    · obtain ⟨e1, e2⟩ := JR (hk _ (getD_mem (d := default) hi) _ (getD_mem (d := default) hk')); exact ⟨i, hi, .inl (.inr ⟨k, hk', j, by rw [e1]; exact hj, by rw [e2 j hj]; exact h⟩)⟩
    · exact ⟨i, hi, .inr h⟩
def Jj:List Aw->Int->Int
 | [],_=>0
 | t::r,v=>bif t.V==v then t.Scale else Jj r v
def D6:Int->List Aw->Bool
 | _,[]=>true
 | lo,t::r=>(decide (lo<t.V)&&decide (t.V<=1023)&&!(t.Scale==0))&&D6 t.V r
def Oe(g:Int->Int):Nat->Nat->List Aw
 | _,0=>[]
 | a,n+1=>bif g (a:Int)==0 then Oe g (a+1) n else⟨(a:Int),g (a:Int)⟩::Oe g (a+1) n
def SO(g:Int->Int):List Aw:=Oe g 1 1023
theorem Wf{g h:Int->Int}:∀{n a:Nat},(∀ v:Int,(a:Int)<=v->g v=h v)->Oe g a n=Oe h a n
 | 0,_,_=>rfl
 | n+1,a,e=>by
  unfold Oe;rw[e a (Int.le_refl _),Wf (n:=n) (a:=a+1) λv hv=>e v (by omega)]
theorem Wz:∀{l:List Aw} {lo v:Int},D6 lo l=true->v<=lo->Jj l v=0
 | [],_,_,_,_=>rfl
 | t::r,lo,v,h,hv=>by
  simp only[D6,A4,D0]at h;unfold Jj;rw[show(t.V==v)=false from zzL25.2 (by omega),Az];exact Wz h.2 (by omega)
theorem Ti:∀(n a:Nat) {l:List Aw},a+n=1024->D6 ((a:Int)-1) l=true->Oe (Jj l) a n=l
 | 0,a,[],_,_=>rfl
 | 0,a,t::r,h,hm=>by
  simp only[D6,A4,D0]at hm;omega
 | n+1,a,[],h,_=>by
  unfold Oe;rw[show(Jj [] (a:Int)==0)=true from rfl,Ae];exact Ti n (a+1) (by omega) rfl
 | n+1,a,t::r,h,hm=>by
  have hm':=hm;simp only[D6,A4,D0,O9,zzL25]at hm;obtain⟨⟨⟨h1,h2⟩,h3⟩,h4⟩:=hm;unfold Oe
  by_cases e:t.V=a
  ·have e1:Jj (t::r) (a:Int)=t.Scale:=by unfold Jj;rw[e];simp
   rw[e1,show(t.Scale==0)=false from zzL25.2 h3,Az];rw[e]at h4
   have e2:Oe (Jj (t::r)) (a+1) n=Oe (Jj r) (a+1) n:=Wf λv hv=>by
    unfold Jj;rw[show(t.V==v)=false from zzL25.2 (by omega),Az]
    cases r<;>rfl
   rw[e2,Ti n (a+1) (by omega) (by rw[show(((a+1:Nat):Int)-1)=a by omega];exact h4),<- e]
  ·have e1:Jj (t::r) (a:Int)=0:=by
    unfold Jj;rw[show(t.V==(a:Int))=false from zzL25.2 e,Az];exact Wz h4 (by omega)
   rw[e1];simp only[BEq.rfl,Ae];refine Ti n (a+1) (by omega) ?_;simp only[D6,A4,D0,O9,zzL25];exact⟨⟨⟨by omega,h2⟩,h3⟩,h4⟩
theorem bq{l:List Aw}(h:D6 0 l=true):SO (Jj l)=l:=Ti 1023 1 rfl h
theorem MK{g:Int->Int}:∀(n a:Nat) (lo:Int),lo<a->a+n<=1024->D6 lo (Oe g a n)=true
 | 0,_,_,_,_=>rfl
 | n+1,a,lo,h,h2=>by
  unfold Oe
  cases e:g (a:Int)==0 with
  | true=>exact MK n (a+1) lo (by omega) (by omega)
  | false=>
   simp only[Az,D6,A4,D0,e,Kf,Be];exact⟨⟨h,by omega⟩,MK n (a+1) a (by omega) (by omega)⟩
theorem gB(g:Int->Int):D6 0 (SO g)=true:=MK 1023 1 0 (by omega) (by omega)
theorem HS{g h:Int->Int}(e:∀ v:Int,1<=v->v<1024->g v=h v):SO g=SO h:=by
 have:∀ n a:Nat,1<=a->a+n<=1024->Oe g a n=Oe h a n:=by
  intro n
  induction n with
  | zero=>intros;rfl
  | succ n ih=>
   intro a h1 h2;unfold Oe;rw[e a (by omega) (by omega),ih (a+1) (by omega) (by omega)]
 exact this 1023 1 (zzL8 _) (zzL8 _)
theorem HY{x:Ay}(hl:x.Terms.length<9223372036854775808):Fn x=some (D6 0 x.Terms):=by
 have key:∀(k i:Nat) (lo:Int),i+k=x.Terms.length->Ah (Hu x) (lo,(i:Int))=some (bif D6 lo (x.Terms.drop i) then .inl () else .inr false):=by
  intro k
  induction k with
  | zero=>
   intro i lo h
   obtain rfl:i=x.Terms.length:=by omega
   rw[List.drop_length];exact Ai (by unfold Hu;simp only[Kq,Az];rfl)
  | succ k ih=>
   intro i lo h
   have hi:i<x.Terms.length:=by omega
   have hd:x.Terms.drop i=x.Terms.getD i default::x.Terms.drop (i+1):=by rw[O8 hi,Ab _ _ _ hi]
   rw[hd]
   have hs:Hu x (lo,(i:Int))=some (bif decide (lo<(x.Terms.getD i default).V)&&decide ((x.Terms.getD i default).V<=1023)&&!((x.Terms.getD i default).Scale==0) then .next ((x.Terms.getD i default).V,((i+1:Nat):Int)) else .done (.inr false)):=by
    unfold Hu;simp only[F0 hi,Ae,A5];rw[Ad (Je hi),Dv hi hl]
    generalize x.Terms.getD i default=t
    have a1:decide (t.V<=lo) = !decide (lo<t.V):=by by_cases h:lo<t.V<;>simp[h]<;>omega
    have a2:decide ((1023:Int)<t.V) = !decide (t.V<=1023):=by by_cases h:t.V<=1023<;>simp[h]<;>omega
    rw[a1,a2]
    cases decide (lo<t.V)<;>cases decide (t.V<=1023)<;>cases(t.Scale==0)<;>rfl
   cases hb:(decide (lo<(x.Terms.getD i default).V)&&decide ((x.Terms.getD i default).V<=1023)&&!((x.Terms.getD i default).Scale==0)) with
   | true=>
    rw[hb,Ae]at hs;rw[Ap hs,ih (i+1) _ (by omega)];simp only[D6,hb,Hj]
   | false=>
    rw[hb,Az]at hs;rw[Ai hs];simp only[D6,hb,Ty,Az]
 unfold Fn;have:=key x.Terms.length 0 0 (by omega);rw[show(((0:Nat):Int))=0 from rfl,Lm]at this;rw[this]
 cases D6 0 x.Terms<;>rfl
def cy(l:List Aw):Int:=match l with|[]=>1024|t::_=>t.V
def lW(l:List Aw)(v:Int):Int×List Aw:=match l with|[]=>(0,[])|t::r=>bif t.V==v then(t.Scale,r) else(0,t::r)
theorem LD(l:List Aw):Ct l=some (cy l):=by
 cases l with
 | nil=>rfl
 | cons t r=>
  unfold Ct;rw[show((((t::r).length:Int))==0)=false from zzL25.2 (by simp;omega),Az,Ad ⟨by omega,by simp⟩]
  rfl
theorem WE(l:List Aw){v:Int}(hv:v<1024):C7 l v=some (lW l v):=by
 unfold C7;rw[LD,Ar]
 cases l with
 | nil=>rw[show(cy []!=v)=true from zzL89.2 (by simp[cy];omega)];rfl
 | cons t r=>
  show(bif t.V !=v then _ else _)=some (bif t.V==v then _ else _)
  by_cases e:t.V=v
  ·rw[show(t.V !=v)=false by simp[e],show(t.V==v)=true by simp[e],Az,Ae,Ad ⟨by omega,by simp⟩,Ad ⟨by omega,by simp only[M5];omega⟩]
   rfl
  ·rw[show(t.V !=v)=true by simp[e],show(t.V==v)=false by simp[e]]
   rfl
theorem jn{l:List Aw}{a:Int}(h:D6 (a-1) l=true):(lW l a).1=Jj l a/\D6 a (lW l a).2=true/\∀ v,a<v->Jj (lW l a).2 v=Jj l v:=by
 cases l with
 | nil=>exact⟨rfl,rfl,λ_ _=>rfl⟩
 | cons t r=>
  have h':=h;simp only[D6,A4,D0]at h
  show(bif t.V==a then(t.Scale,r) else(0,t::r)).1=_/\D6 a (bif t.V==a then(t.Scale,r) else(0,t::r)).2=true/\∀ v,a<v->Jj (bif t.V==a then(t.Scale,r) else(0,t::r)).2 v=_
  by_cases e:t.V=a
  ·rw[show(t.V==a)=true by simp[e]];refine⟨by simp[Jj,e],by rw[<- e];exact h.2,λv hv=>?_⟩;simp only[Jj,show(t.V==v)=false from zzL25.2 (by omega),show(t.V==a)=true by simp[e],Ae,Az]
  ·rw[show(t.V==a)=false by simp[e]];refine⟨?_,?_,λv hv=>rfl⟩
   ·simp only[Az,Jj,show(t.V==a)=false by simp[e]];exact(Wz h.2 (by omega)).symm
   ·simp only[Az,D6,A4,D0];exact⟨⟨⟨by omega,h.1.1.2⟩,h.1.2⟩,h.2⟩
theorem jY{l:List Aw}{a:Int}(h:D6 (a-1) l=true)(ha:a<=1024):a<=cy l:=by
 cases l with
 | nil=>exact ha
 | cons t r=>
  simp only[D6,A4,D0]at h
  show a<=t.V
  omega
theorem dO{l:List Aw}{a:Int}(h:D6 (a-1) l=true)(hn:cy l≠a):D6 a l=true:=by
 cases l with
 | nil=>rfl
 | cons t r=>
  simp only[D6,A4,D0]at h ⊢;have:t.V≠a:=hn;exact⟨⟨⟨by omega,h.1.1.2⟩,h.1.2⟩,h.2⟩
def lA{S X:Type}(g:Int->Int->Int)(mk:List Aw->List Aw->List Aw->S)(out:List Aw->X)(xs ys acc:List Aw):Option (LR S X):=
 bif bif decide ((0:Int)<(xs.length:Int)) then true else decide ((0:Int)<(ys.length:Int)) then
  (Ct xs).bind λp=>(Ct ys).bind λq=>(C7 xs (if q<p then q else p)).bind λu=>(C7 ys (if q<p then q else p)).bind λw=>
   bif g u.1 w.1 !=0 then Ci (acc.length+1<=room) (some (.next (mk u.2 w.2 (acc++[⟨if q<p then q else p,g u.1 w.1⟩])))) else some (.next (mk u.2 w.2 acc))
 else some (.done (out acc))
theorem V9{S X:Type}(g:Int->Int->Int)(mk:List Aw->List Aw->List Aw->S)(out:List Aw->X)(f:S->Option (LR S X))(hf:∀ xs ys acc,f (mk xs ys acc)=lA g mk out xs ys acc)(h0:g 0 0=0) :
  ∀(n a:Nat) (xs ys acc:List Aw),a+n=1024->D6 ((a:Int)-1) xs=true->D6 ((a:Int)-1) ys=true->acc.length+n<=2000->
   Ah f (mk xs ys acc)=some (out (acc++Oe (λv=>g (Jj xs v) (Jj ys v)) a n)):=by
 intro n
 induction n with
 | zero=>
  intro a xs ys acc h hx hy _
  have e:∀{l:List Aw},D6 ((a:Int)-1) l=true->l=[]:=λ{l} hl=>by
   have:=Ti 0 a h hl;exact this.symm
  rw[e hx,e hy];refine Ai ?_;rw[hf];simp[lA,Oe]
 | succ n ih=>
  intro a xs ys acc h hx hy hl;have hpa:=jY hx (by omega);have hqa:=jY hy (by omega)
  by_cases hh:cy xs=a\/cy ys=a
  ·have hv:(if cy ys<cy xs then cy ys else cy xs)=(a:Int):=by split<;>omega
   have hne:(bif decide ((0:Int)<(xs.length:Int)) then true else decide ((0:Int)<(ys.length:Int)))=true:=by
    rcases hh with e|e
    ·cases xs with
     | nil=>exact absurd e (by show ¬ ((1024:Int)=a);omega)
     | cons=>simp
    ·cases ys with
     | nil=>exact absurd e (by show ¬ ((1024:Int)=a);omega)
     | cons=>simp
   obtain⟨p1,p2,p3⟩:=jn hx;obtain⟨q1,q2,q3⟩:=jn hy
   have hs:f (mk xs ys acc)=some (.next (mk (lW xs a).2 (lW ys a).2 (acc++(bif g (Jj xs a) (Jj ys a)==0 then[] else[⟨(a:Int),g (Jj xs a) (Jj ys a)⟩])))):=by
    rw[hf];unfold lA;rw[hne,Ae,LD,LD];simp only[Ar,hv];rw[WE _ (by omega),WE _ (by omega)];simp only[Ar,p1,q1]
    cases hz:g (Jj xs a) (Jj ys a)==0 with
    | true=>rw[show(g (Jj xs a) (Jj ys a)!=0)=false by simp[bne,hz]];simp
    | false=>
     rw[show(g (Jj xs a) (Jj ys a)!=0)=true by simp[bne,hz],Ae,Ad (by unfold room;omega)]
     rfl
   rw[Ap hs];rw[ih (a+1) _ _ _ (by omega) (by rw[show(((a+1:Nat):Int)-1)=a by omega];exact p2) (by rw[show(((a+1:Nat):Int)-1)=a by omega];exact q2) (by cases g (Jj xs a) (Jj ys a)==0<;>simp<;>omega)];rw[Wf (n:=n) (a:=a+1) (h:=λv=>g (Jj xs v) (Jj ys v)) λv hv=>by rw[p3 v (by omega),q3 v (by omega)]]
   congr 2
   rw[X9]
   congr 1
   conv=>rhs;unfold Oe
   cases g (Jj xs a) (Jj ys a)==0<;>rfl
  ·have hx':=dO hx (by omega);have hy':=dO hy (by omega);rw[ih (a+1) xs ys acc (by omega) (by rw[show(((a+1:Nat):Int)-1)=a by omega];exact hx') (by rw[show(((a+1:Nat):Int)-1)=a by omega];exact hy') (by omega)]
   congr 3
   conv=>rhs;unfold Oe
   rw[Wz hx' (Int.le_refl _),Wz hy' (Int.le_refl _),h0]
   rfl
def Ki(g:Int->Int->Int)(x y:Ay):Ay:=bif D6 0 x.Terms&&D6 0 y.Terms then⟨SO λv=>g (Jj x.Terms v) (Jj y.Terms v),g x.Off y.Off⟩ else⟨[],0⟩
def PL:Ay:=⟨[],0⟩
def Ym(a b:Int):Int:=Dx (a+b)
def Og(a b:Int):Int:=Dx (a-b)
def ZS(n a _b:Int):Int:=Dx (a*n)
theorem kQ{x y:Ay}(hx:x.Terms.length<9223372036854775808)(hy:y.Terms.length<9223372036854775808):L6 x y=some (Ki Ym x y):=by
 unfold L6 Mt Ki;rw[HY hx,HY hy]
 cases h1:D6 0 x.Terms with
 | false=>rfl
 | true=>
  cases h2:D6 0 y.Terms with
  | false=>rfl
  | true=>
   simp only[Fi,BEq.rfl,Ae,Az,Ar,Vr,Jr];rw[V9 Ym (λa b c=>(a,b,c)) id Nv (λxs ys acc=>rfl) rfl 1023 1 x.Terms y.Terms [] rfl h1 h2 (by simp)]
   rfl
theorem WC{x y:Ay}(hx:x.Terms.length<9223372036854775808)(hy:y.Terms.length<9223372036854775808):Ij x y=some (Ki Og x y):=by
 unfold Ij J1 Ki;rw[HY hx,HY hy]
 cases h1:D6 0 x.Terms with
 | false=>rfl
 | true=>
  cases h2:D6 0 y.Terms with
  | false=>rfl
  | true=>
   simp only[Fi,BEq.rfl,Ae,Az,Ar,Vr,I4];rw[V9 Og (λa b c=>(a,b,c)) id Li (λxs ys acc=>rfl) rfl 1023 1 x.Terms y.Terms [] rfl h1 h2 (by simp)]
   rfl
theorem LF{x:Ay}{n:Int}(hx:x.Terms.length<9223372036854775808):G7 x n=some (Ki (ZS n) x PL):=by
 unfold G7 J2 Ki;rw[HY hx,HY (x:=⟨[],0⟩) (by simp)]
 cases h1:D6 0 x.Terms with
 | false=>rfl
 | true=>
  simp only[Fi,BEq.rfl,Ae,Az,Ar,Vr,I5,D6,PL];rw[V9 (ZS n) (λa b c=>(a,b,c,n)) (λl=>(l,n)) Lj (λxs ys acc=>rfl) (by show Dx (0*n)=0;rw[Int.zero_mul];rfl) 1023 1 x.Terms [] [] rfl h1 rfl (by simp)]
  rfl
theorem Ul{g:Int->Int->Int}{x y:Ay}(hx:D6 0 x.Terms=true)(hy:D6 0 y.Terms=true):Ki g x y=⟨SO λv=>g (Jj x.Terms v) (Jj y.Terms v),g x.Off y.Off⟩:=by
 unfold Ki;rw[hx,hy];rfl
theorem dS(g:Int->Int->Int)(x y:Ay):D6 0 (Ki g x y).Terms=true:=by
 unfold Ki
 cases D6 0 x.Terms&&D6 0 y.Terms with
 | false=>rfl
 | true=>rw[Ae];exact gB (λv=>g (Jj x.Terms v) (Jj y.Terms v))
theorem S8{V:Type}(k v:Int)(x:V):∀ l:List (Int×V),B2 (Ep l k x) v=(v==k || B2 l v)
 | []=>by simp[Ep,B2]
 | (a,b)::r=>by
  unfold Ep
  by_cases e:k=a
  ·subst e;simp only[BEq.rfl,Ae,B2]
   cases(v==k)<;>simp
  ·rw[show(k==a)=false by simp[e],Az];simp only[B2,S8 k v x r]
   cases(v==a)<;>cases(v==k)<;>simp
theorem Xl{V:Type}(d:V)(k v:Int)(x:V):∀ l:List (Int×V),mget d (Ep l k x) v=bif v==k then x else mget d l v
 | []=>by simp only[Ep,mget]
 | (a,b)::r=>by
  unfold Ep
  by_cases e:k=a
  ·subst e;simp only[BEq.rfl,Ae,mget]
   cases(v==k)<;>rfl
  ·rw[show(k==a)=false by simp[e],Az];simp only[mget,Xl d k v x r]
   by_cases h:v=a
   ·subst h;rw[show(v==k)=false from zzL25.2 (Hg e)]
    simp
   ·rw[show(v==a)=false by simp[h]];rfl
def Po(v:Int):Ay:=⟨[⟨v,1⟩],0⟩
def iJ(k:Int)(a b:Ay):Option Ay:=
 bif k==1 then some (Ki Ym a b) else bif k==2 then some (Ki Og a b)
 else bif (k==3)&&((b.Terms.length:Int)==0) then some (Ki (ZS b.Off) a PL) else bif (k==3)&&((a.Terms.length:Int)==0) then some (Ki (ZS a.Off) b PL)
 else bif ((k==8)&&((b.Terms.length:Int)==0))&&decide (b.Off<64) then some (Ki (ZS (UN .u64 1 b.Off)) a PL) else none
def TK(k:Int):Bool:=k==0 || (k==1 || (k==2 || (k==3 || k==8)))
def TE(v:Int):Option Ay->Ay
 | some y=>bif decide ((16:Int)<(y.Terms.length:Int)) then Po v else y
 | none=>Po v
def L5(D:Int->Option Bh):Nat->Int->Ay
 | 0,v=>Po v
 | n+1,v=>match D v with
  | none=>Po v
  | some o=>bif o.Kind==0 then⟨[],o.Imm⟩ else TE v (iJ o.Kind (L5 D n (o.Args.getD 0 0)) (L5 D n (o.Args.getD 1 0)))
structure fX(D:Int->Option Bh)(G:Int->Prop)(rk:Int->Nat):Prop where
 rng:∀ v,G v->1<=v/\v<=1023
 kind:∀ v o,G v->D v=some o->TK o.Kind=true
 args:∀ v o,G v->D v=some o->o.Kind≠0->o.Args.length=2/\(G (o.Args.getD 0 0)/\rk (o.Args.getD 0 0)<rk v)/\G (o.Args.getD 1 0)/\rk (o.Args.getD 1 0)<rk v
 imm:∀ v o,G v->D v=some o->0<=o.Imm
section
variable {D:Int->Option Bh} {G:Int->Prop} {rk:Int->Nat} (W:fX D G rk)
include W
theorem W9:∀(n:Nat) (v:Int) (m:Nat),G v->rk v<n->rk v<m->L5 D n v=L5 D m v
 | 0,_,_,_,h,_=>absurd h (M7 _)
 | _,_,0,_,_,h=>absurd h (M7 _)
 | n+1,v,m+1,hg,h1,h2=>by
  unfold L5
  cases hd:D v with
  | none=>rfl
  | some o=>
   by_cases h0:o.Kind=0
   ·simp[h0]
   ·obtain⟨_,⟨g0,r0⟩,g1,r1⟩:=W.args v o hg hd h0;simp only;rw[W9 n _ m g0 (by omega) (by omega),W9 n _ m g1 (by omega) (by omega)]
omit W in
theorem Zp(n:Int):0<=Dx n:=by rw[FZ];omega
omit W in
theorem jd{k:Int}{a b y:Ay}(h:iJ k a b=some y):D6 0 y.Terms=true/\0<=y.Off:=by
 have key:∀(g:Int->Int->Int) (a b:Ay),(∀ x y,0<=g x y)->D6 0 (Ki g a b).Terms=true/\0<=(Ki g a b).Off:=λg a b hg=>by
  refine⟨dS g a b,?_⟩;unfold Ki
  cases D6 0 a.Terms&&D6 0 b.Terms with
  | false=>exact Int.le_refl _
  | true=>exact hg _ _
 have e1:∀ x y,0<=Ym x y:=λx y=>Zp _;have e2:∀ x y,0<=Og x y:=λx y=>Zp _;have e3:∀ n x y,0<=ZS n x y:=λn x y=>Zp _;unfold iJ at h
 cases c1:k==1 with
 | true=>rw[c1]at h;cases h;exact key _ _ _ e1
 | false=>
  rw[c1,Az]at h
  cases c2:k==2 with
  | true=>rw[c2]at h;cases h;exact key _ _ _ e2
  | false=>
   rw[c2,Az]at h
   cases c3:(k==3)&&((b.Terms.length:Int)==0) with
   | true=>rw[c3]at h;cases h;exact key _ _ _ (e3 _)
   | false=>
    rw[c3,Az]at h
    cases c4:(k==3)&&((a.Terms.length:Int)==0) with
    | true=>rw[c4]at h;cases h;exact key _ _ _ (e3 _)
    | false=>
     rw[c4,Az]at h
     cases c5:((k==8)&&((b.Terms.length:Int)==0))&&decide (b.Off<64) with
     | true=>rw[c5]at h;cases h;exact key _ _ _ (e3 _)
     | false=>rw[c5]at h;cases h
omit W in
theorem k5{v:Int}(h1:1<=v)(h2:v<=1023):D6 0 (Po v).Terms=true/\0<=(Po v).Off/\(Po v).Terms.length<=16:=by
 refine⟨?_,Int.le_refl _,by simp[Po]⟩;simp only[Po,D6,Zx,A4,D0];exact⟨⟨by omega,h2⟩,rfl⟩
theorem ck:∀(n:Nat) (v:Int),G v->D6 0 (L5 D n v).Terms=true/\0<=(L5 D n v).Off/\(L5 D n v).Terms.length<=16:=λn v hg=>by
 have ho:=k5 (W.rng v hg).1 (W.rng v hg).2
 cases n with
 | zero=>exact ho
 | succ n=>
  unfold L5
  cases hd:D v with
  | none=>exact ho
  | some o=>
   simp only
   cases h0:o.Kind==0 with
   | true=>exact⟨rfl,W.imm v o hg hd,by simp⟩
   | false=>
    rw[Az]
    cases hm:iJ o.Kind (L5 D n (o.Args.getD 0 0)) (L5 D n (o.Args.getD 1 0)) with
    | none=>exact ho
    | some y=>
     unfold TE;simp only
     by_cases hl:(16:Int)<(y.Terms.length:Int)
     ·rw[Cw hl];exact ho
     ·rw[C6 hl];exact⟨(jd hm).1,(jd hm).2,by simp only[Az];omega⟩
end
theorem kL{k:Int}{a b:Ay}(ha:a.Terms.length<9223372036854775808)(hb:b.Terms.length<9223372036854775808)(h0:0<=b.Off) :
  Jn k a b=some (match iJ k a b with|some y=>(y,true)|none=>(⟨[],0⟩,false)):=by
 unfold Jn iJ Gi;rw[kQ ha hb,WC ha hb,LF ha,LF hb,LF ha,Ad h0]
 by_cases k1:k=1
 ·subst k1;rfl
 ·by_cases k2:k=2
  ·subst k2;rfl
  ·rw[show(k==1)=false by simp[k1],show(k==2)=false by simp[k2]];simp only[Az]
   by_cases k3:k=3
   ·subst k3
    cases((b.Terms.length:Int)==0)<;>cases((a.Terms.length:Int)==0)<;>rfl
   ·rw[show(k==3)=false by simp[k3]]
    by_cases k8:k=8
    ·subst k8
     cases((b.Terms.length:Int)==0)<;>cases decide (b.Off<(64:Int))<;>rfl
    ·rw[show(k==8)=false by simp[k8]];rfl
def SI(M:List (Int×Bh))(D:Int->Option Bh)(G:Int->Prop):Prop:=∀ v,G v->B2 M v=(D v).isSome/\∀ o,D v=some o->mget default M v=o
section
variable {D:Int->Option Bh} {G:Int->Prop} {rk:Int->Nat} (W:fX D G rk)
include W
theorem ab{M:List (Int×Bh)}(hM:SI M D G):∀(r:Nat) (v:Int) (fd:List (Int×Ay)),G v->rk v<r->(∀ x,G x->B2 fd x=true->mget default fd x=L5 D (rk x+1) x)->
  ∃ fd',(∀ n,2*r<=n->Bi n v M fd=some (L5 D (rk v+1) v,fd'))/\∀ x,G x->B2 fd' x=true->mget default fd' x=L5 D (rk x+1) x:=by
 intro r
 induction r with
 | zero=>intro v fd _ h;exact absurd h (M7 _)
 | succ r ih=>
  intro v fd hg hr hfd;have step:∀ fd':List (Int×Ay),(∀ n,2*r<=n->Bv (Bi (n+1)) (B3 (n+1)) v M fd=some (L5 D (rk v+1) v,fd'))->
    ∀ n,2*(r+1)<=n->Bi n v M fd=some (L5 D (rk v+1) v,fd'):=λfd' h n hn=>by
   obtain⟨n,rfl⟩:∃ m,n=m+2:=⟨n-2,by omega⟩;exact h n (by omega)
  have fin:∀(s:Option (Ay×Bool×List (Int×Ay))) (y:Ay) (b:Bool) (fd':List (Int×Ay)),s=some (y,b,fd')->(bif (bif (!b) then true else decide ((16:Int)<(y.Terms.length:Int))) then Po v else y)=L5 D (rk v+1) v->
    (s.bind λx1=>(Option.bind (α:=(List (Aw)×Int)) (bif (bif (!x1.2.1) then true else(decide (((16:Int):Int)<(x1.1.Terms.length:Int)))) then(some ((([(⟨v,(1:Int)⟩:Aw)]:List (Aw)),(0:Int)))) else(some ((x1.1.Terms,x1.1.Off)))) (λx4=>(match x4 with|(l2,i3)=>(some ((⟨l2,i3⟩:Ay),(Ep x1.2.2 v (⟨l2,i3⟩:Ay))))))))
    = some (L5 D (rk v+1) v,Ep fd' v (L5 D (rk v+1) v)):=λs y b fd' hs hy=>by
   rw[hs,Ar,<- hy]
   cases b with
   | false=>rfl
   | true=>
    simp only[Fi,Az]
    cases decide ((16:Int)<(y.Terms.length:Int))<;>rfl
  have put:∀(fd':List (Int×Ay)),(∀ x,G x->B2 fd' x=true->mget default fd' x=L5 D (rk x+1) x)->∀ x,G x->B2 (Ep fd' v (L5 D (rk v+1) v)) x=true->mget default (Ep fd' v (L5 D (rk v+1) v)) x=L5 D (rk x+1) x:=λfd' h x hx hh=>by
   rw[Xl]
   by_cases e:x=v
   ·subst e;simp
   ·rw[S8,show(x==v)=false by simp[e],GF]at hh;rw[show(x==v)=false by simp[e],Az];exact h x hx hh
  cases hh:B2 fd v with
  | true=>exact⟨fd,step fd (λn hn=>by unfold Bv;rw[hh,Ae,hfd v hg hh]),hfd⟩
  | false=>
   obtain⟨hM1,hM2⟩:=hM v hg
   have hF:L5 D (rk v+1) v=match D v with
    | none=>Po v
    | some o=>bif o.Kind==0 then⟨[],o.Imm⟩ else TE v (iJ o.Kind (L5 D (rk v) (o.Args.getD 0 0)) (L5 D (rk v) (o.Args.getD 1 0))):=rfl
   have hsum:∀ n,B3 (n+1) v M fd=Ch (Bi n) (B3 n) v M fd:=λn=>rfl
   cases hd:D v with
   | none=>
    rw[hd]at hM1 hF;refine⟨_,step _ λn hn=>?_,put fd hfd⟩;unfold Bv;rw[hh,Az,hsum];refine fin _ ⟨[],0⟩ false fd ?_ (by rw[hF];rfl);unfold Ch;rw[hM1]
    rfl
   | some o=>
    rw[hd]at hM1 hF;have hg2:=hM2 o hd
    by_cases h0:o.Kind=0
    ·refine⟨_,step _ λn hn=>?_,put fd hfd⟩;unfold Bv;rw[hh,Az,hsum];refine fin _ ⟨[],o.Imm⟩ true fd ?_ (by rw[hF];dsimp only;rw[h0];rfl);unfold Ch;rw[hM1,hg2,h0]
     rfl
    ·obtain⟨hl,⟨g0,r0⟩,g1,r1⟩:=W.args v o hg hd h0;obtain⟨f1,a1,a2⟩:=ih _ fd g0 (by omega) hfd;obtain⟨f2,b1,b2⟩:=ih _ f1 g1 (by omega) a2;rw[W9 W _ _ (rk v) g0 (by omega) r0]at a1;rw[W9 W _ _ (rk v) g1 (by omega) r1]at b1;obtain⟨p1,p2,p3⟩:=ck W (rk v) _ g0;obtain⟨q1,q2,q3⟩:=ck W (rk v) _ g1;have hmade:=kL (k:=o.Kind) (a:=L5 D (rk v) (o.Args.getD 0 0)) (b:=L5 D (rk v) (o.Args.getD 1 0)) (by omega) (by omega) q2
     have hrun:∀ n,2*r<=n->Ch (Bi n) (B3 n) v M fd=(Jn o.Kind (L5 D (rk v) (o.Args.getD 0 0)) (L5 D (rk v) (o.Args.getD 1 0))).bind λx5=>some (x5.1,x5.2,f2):=λn hn=>by
      unfold Ch;rw[hM1,hg2];simp only[Option.isSome_some,Fi,Az,show(o.Kind==(0:Int))=false from zzL25.2 h0];rw[Ad ⟨by omega,by omega⟩,show((0:Int)).toNat=0 from rfl,a1 n hn,Ar,Ad ⟨by omega,by omega⟩,show((1:Int)).toNat=1 from rfl];simp only;rw[b1 n hn,Ar]
     dsimp only at hF
     rw[show(o.Kind==0)=false from zzL25.2 h0,Az]at hF
     cases hm:iJ o.Kind (L5 D (rk v) (o.Args.getD 0 0)) (L5 D (rk v) (o.Args.getD 1 0)) with
     | none=>
      rw[hm]at hF hmade;refine⟨_,step _ λn hn=>?_,put f2 b2⟩;unfold Bv;rw[hh,Az,hsum,hrun n hn,hmade,Ar];exact fin _ ⟨[],0⟩ false f2 rfl (by rw[hF];rfl)
     | some y=>
      rw[hm]at hF hmade;refine⟨_,step _ λn hn=>?_,put f2 b2⟩;unfold Bv;rw[hh,Az,hsum,hrun n hn,hmade,Ar];exact fin _ y true f2 rfl (by rw[hF];rfl)
theorem UD{M:List (Int×Bh)}(hM:SI M D G){v:Int}(hg:G v):∃ fd,Gh v M []=some (L5 D (rk v+1) v,fd):=by
 obtain⟨fd,h,_⟩:=ab W hM (rk v+1) v [] hg (Nat.lt_succ_self _) (λx _ h=>by cases h);exact⟨fd,gt _ λm hm=>h m hm⟩
end
section
variable {D:Int->Option Bh} {G:Int->Prop} {rk:Int->Nat} (W:fX D G rk)
include W
end
theorem MN{t:List Int}:∀{k:Nat} {a:Int} {q:List Int},upD t k a=some q->∀{m:Nat},k<=m->upD t m a=some q
 | 0,_,_,h,_,_=>by cases h
 | k+1,a,q,h,0,hm=>absurd hm (by omega)
 | k+1,a,q,h,m+1,hm=>by
  unfold upD at h ⊢
  split at h
  ·rename_i h1
   rw[if_pos h1]
   split at h
   ·rename_i h2
    rw[if_pos h2];exact h
   ·rename_i h2
    rw[if_neg h2]
    cases hu:upD t k (t.getD a.toNat 0) with
    | none=>rw[hu]at h;cases h
    | some q'=>rw[hu]at h;rw[MN hu (by omega:k<=m)];exact h
  ·cases h
theorem eR{t:List Int}:∀{k:Nat} {b a:Int} {q:List Int},upD t k b=some q->a∈q->a≠b->∃ q',upD t k a=some q'/\q'.length<q.length
 | 0,_,_,_,h,_,_=>by cases h
 | k+1,b,a,q,h,ha,hne=>by
  have h0:=h;unfold upD at h
  split at h
  ·split at h
   ·cases h;exact absurd (zzL14.1 ha) hne
   ·cases hu:upD t k (t.getD b.toNat 0) with
    | none=>rw[hu]at h;cases h
    | some q'=>
     rw[hu]at h;cases h;rcases zzL24.1 ha with e|hin
     ·exact absurd e hne
     ·by_cases e:a=t.getD b.toNat 0
      ·exact⟨q',by rw[e];exact MN hu (by omega),by simp⟩
      ·obtain⟨q2,h1,h2⟩:=eR hu hin e;exact⟨q2,MN h1 (by omega),by simp;omega⟩
  ·cases h
theorem MJ{t:List Int}{a b:Int}(h:N0 t a b=true)(hne:a≠b):(Eu t a).length<(Eu t b).length:=by
 unfold N0 at h;simp only[A4,zzL66,zzL89]at h;obtain⟨h1,h2⟩:=h;unfold Mg at h1 h2
 split at h1
 ·rename_i hr
  rw[if_pos hr]at h2
  cases hf:(Eu t a).find? λx=>(Eu t b).contains x with
  | none=>rw[hf]at h2;exact absurd rfl h2
  | some x=>
   rw[hf]at h1;obtain rfl:x=a:=h1;have hc:=List.find?_some hf
   have hin:x∈Eu t b:=by simpa using hc
   unfold Eu at hin ⊢
   cases hu:upD t t.length b with
   | none=>rw[hu]at hin;cases hin
   | some q=>
    rw[hu]at hin;obtain⟨q',g1,g2⟩:=eR hu hin hne;rw[g1];exact g2
 ·rename_i hr
  rw[if_neg hr]at h2;exact absurd rfl h2
def Gd(f:Aa)(v:Int):Prop:=∃ d∈Ax f,d.V=v/\d.Shape=(64,1)
def Nf(f:Aa):List Bh:=f.Blocks.flatMap (·.Ops)
def AX(f:Aa)(v:Int):Option Bh:=(Nf f).find? λo=>TK o.Kind&&o.Dst==v
def oJ(f:Aa)(d:TDef):Nat:=if d.Block<0 then 0 else(Eu (B0 f) d.Block).length*((Nf f).length+5)+(d.At+2).toNat
def jg(f:Aa)(v:Int):Nat:=oJ f (defOf (Ax f) v)
theorem opsA_mem{f:Aa}{o:Bh}:o∈Nf f↔∃ i,i<f.Blocks.length/\∃ k,k<(bA f i).Ops.length/\o=(bA f i).Ops.getD k default:=by
 unfold Nf;rw[zzL65]
 constructor
 ·rintro⟨b,hb,ho⟩;obtain⟨i,hi,rfl⟩:=Ll hb;obtain⟨k,hk,rfl⟩:=Ll ho;have e:bA f i=f.Blocks[i]:=Ab _ _ _ hi;refine⟨i,hi,k,by rw[e];exact hk,?_⟩;rw[e,Ab _ _ _ hk]
 ·rintro⟨i,hi,k,hk,rfl⟩;exact⟨bA f i,getD_mem hi,getD_mem hk⟩
theorem dj{f:Aa}{i:Nat}(hi:i<f.Blocks.length):(bA f i).Ops.length<=(Nf f).length:=by
 unfold Nf
 have:∀(l:List Ag) (b:Ag),b∈l->b.Ops.length<=(l.flatMap (·.Ops)).length:=by
  intro l
  induction l with
  | nil=>intro b h;cases h
  | cons x l ih=>
   intro b h;rw[T3,Es];rcases zzL24.1 h with rfl|h
   ·omega
   ·have:=ih b h;omega
 exact this _ _ (getD_mem hi)
section
variable {f:Aa} (R:mB f 2)
include R
theorem TX{i k:Nat}(hi:i<f.Blocks.length)(hk:k<(bA f i).Ops.length):Ht ((bA f i).Ops.getD k default)=true:=d7 R (getD_mem hi) (getD_mem hk)
theorem op_dst{o:Bh}(ho:o∈Nf f):o.Dst=0/\TK o.Kind=false\/∃ i k:Nat,i<f.Blocks.length/\k<(bA f i).Ops.length/\o=(bA f i).Ops.getD k default/\1<=o.Dst/\o.Dst<=1023/\(⟨o.Dst,(i:Int),(k:Int),Ms o.Kind o.Bits o.Lanes⟩:TDef)∈Ax f:=by
 obtain⟨i,hi,k,hk,e⟩:=opsA_mem.1 ho;have hm:=TX R hi hk;rw[<- e]at hm;obtain⟨m1,m2,m3,m4,m5,m6,m7⟩:=Xj hm
 by_cases hst:o.Kind=17\/o.Kind=19
 ·left
  have:(o.Kind==17 || o.Kind==19)=true:=by simpa using hst
  unfold dstS at m7;rw[this,Ae]at m7;refine⟨by simpa using m7,?_⟩;rcases hst with h|h<;>rw[h]<;>rfl
 ·right
  have hf:(o.Kind==17 || o.Kind==19)=false:=by simpa using hst
  unfold dstS at m7;rw[hf,Az]at m7;simp only[valS,A4,D0]at m7
  have hg:Gx o=Ms o.Kind o.Bits o.Lanes:=by unfold Gx;rw[hm];rfl
  have hz:=DU (k:=o.Kind) m1;rw[hf]at hz
  have hpos:0<(Gx o).1:=by
   rw[hg];have hn:(Ms o.Kind o.Bits o.Lanes).1≠0:=zzL25.1 hz;have hb:=width_cases (shape_width m1);unfold Ms at hn ⊢;rw[hf,Az]at hn ⊢
   cases(o.Kind==10 || o.Kind==11 || o.Kind==12) with
   | true=>show(0:Int)<1;omega
   | false=>cases(o.Kind==22)<;>simp<;>omega
  refine⟨i,k,hi,hk,e,m7.1,m7.2,ri_def.2 (.inr ⟨i,hi,.inr ⟨k,hk,by rw[<- e];exact hpos,?_⟩⟩)⟩;rw[<- e,hg]
theorem di{o o':Bh}(ho:o∈Nf f)(ho':o'∈Nf f)(h1:1<=o.Dst)(h:o.Dst=o'.Dst):o=o':=by
 rcases op_dst R ho with⟨h0,_⟩|⟨i,k,hi,hk,e,_,_,hd⟩
 ·omega
 ·rcases op_dst R ho' with⟨h0,_⟩|⟨i',k',hi',hk',e',_,_,hd'⟩
  ·omega
  ·have:=dz R hd hd' h;simp only[TDef.mk.injEq]at this;obtain⟨_,h2,h3,_⟩:=this
   have e1:i=i':=by omega
   have e2:k=k':=by omega
   rw[e,e',e1,e2]
theorem dh{o:Bh}(ho:o∈Nf f)(hk:TK o.Kind=true):AX f o.Dst=some o:=by
 unfold AX
 cases h:(Nf f).find? λx=>TK x.Kind&&x.Dst==o.Dst with
 | none=>
  have:=List.find?_eq_none.1 h o ho;simp[hk]at this
 | some x=>
  have hp:=List.find?_some h;simp only[A4,zzL66]at hp
  have h1:1<=x.Dst:=by
   rcases op_dst R (List.mem_of_find?_eq_some h) with⟨_,h0⟩|⟨i,k,hi,hk',e,h1,_,_⟩
   ·rw[hp.1]at h0;cases h0
   ·exact h1
  rw[di R (List.mem_of_find?_eq_some h) ho h1 hp.2]
omit R in
theorem Xw{v:Int}{o:Bh}(h:AX f v=some o):o∈Nf f/\TK o.Kind=true/\o.Dst=v:=by
 unfold AX at h;have hp:=List.find?_some h;simp only[A4,zzL66]at hp;exact⟨List.mem_of_find?_eq_some h,hp.1,hp.2⟩
theorem jh{d:TDef}(hd:d∈Ax f):jg f d.V=oJ f d:=by
 unfold jg;rw[(TB (V5 (CT R).1) hd).2]
theorem ce(hI:∀ o∈Nf f,0<=o.Imm):fX (AX f) (Gd f) (jg f):=by
 refine⟨λv ⟨d,hd,hv,_⟩=>?_,λv o _ h=>(Xw h).2.1,λv o ⟨d,hd,hv,hs⟩ h h0=>?_,λv o _ h=>hI o (Xw h).1⟩
 ·have:=k9 R hd;simp only[valS,A4,D0]at this;rw[<- hv];exact this
 ·obtain⟨hm,hk,hdst⟩:=Xw h;rcases op_dst R hm with⟨_,h2⟩|⟨i,k,hi,hkk,e,h1,_,hde⟩
  ·rw[hk]at h2;cases h2
  ·have hdd:=dz R hd hde (by rw[hv,hdst]);have hmay:=TX R hi hkk;rw[<- e]at hmay;obtain⟨m1,m2,m3,m4,m5,m6,m7⟩:=Xj hmay
   have hk':o.Kind=1\/o.Kind=2\/o.Kind=3\/o.Kind=8:=by
    simp only[TK,Vp,zzL66]at hk;omega
   have hgs:Ms o.Kind o.Bits o.Lanes=(o.Bits,o.Lanes):=by rcases hk' with h|h|h|h<;>rw[h]<;>rfl
   have hel:∀ j,W5 o j=(o.Bits,o.Lanes):=λj=>by unfold W5;rcases hk' with h|h|h|h<;>rw[h]<;>rfl
   have hna:Lk o.Kind o.Lanes=2:=by rcases hk' with h|h|h|h<;>rw[h]<;>rfl
   rw[hdd]at hs;have hsh:(o.Bits,o.Lanes)=((64:Int),(1:Int)):=hgs.symm.trans hs
   have hlen:o.Args.length=2:=by omega
   have harg:∀ j,j<2->Gd f (o.Args.getD j 0)/\jg f (o.Args.getD j 0)<jg f v:=λj hj=>by
    have hu:(⟨o.Args.getD j 0,(i:Int),(k:Int),W5 o j⟩:Mp)∈Dz f:=by
     refine(XE (λb hb o ho=>d7 R hb ho)).2 ⟨i,hi,.inr (.inl ⟨k,j,hkk,by rw[<- e];omega,by rw[<- e]⟩)⟩
    obtain⟨d',hd',hv',hs',ht⟩:=d9 R hu;have hv':d'.V=o.Args.getD j 0:=hv';refine⟨⟨d',hd',hv',by rw[hs',<- hsh];exact hel j⟩,?_⟩;rw[<- hv',jh R hd',<- hv,jh R hd,hdd];unfold oJ
    have hbn:¬ ((⟨o.Dst,(i:Int),(k:Int),Ms o.Kind o.Bits o.Lanes⟩:TDef).Block<0):=by show ¬ ((i:Int)<0);omega
    rw[if_neg hbn];have ht:d'.Block<0\/(d'.Block=(i:Int)/\d'.At<(k:Int))\/(d'.Block≠(i:Int)/\N0 (B0 f) d'.Block (i:Int)=true):=ht
    show(if d'.Block<0 then 0 else _)<(Eu (B0 f) (i:Int)).length*_+((k:Int)+2).toNat
    split
    ·omega
    ·rename_i hb
     rcases ht with h|⟨h,ha⟩|⟨h,ho⟩
     ·exact absurd h hb
     ·rw[h]
      have:(d'.At+2).toNat<((k:Int)+2).toNat:=by omega
      omega
     ·have hsh:=MJ ho h
      have hat:(d'.At+2).toNat<=(Nf f).length+2:=by
       rcases ri_def.1 hd' with⟨p,hp,rfl⟩|⟨p,hp,⟨q,hq,rfl⟩|⟨q,hq,_,rfl⟩⟩
       ·show((0:Int)+2).toNat<=_;simp
       ·show((-1:Int)+2).toNat<=_;simp
       ·show((q:Int)+2).toNat<=_
        have:=dj hp;omega
      have hmul:((Eu (B0 f) d'.Block).length+1)*((Nf f).length+5)<=(Eu (B0 f) (i:Int)).length*((Nf f).length+5):=Dp _ hsh;rw[D5]at hmul;omega
   exact⟨hlen,harg 0 (by omega),harg 1 (by omega)⟩
theorem kS(hb:f.Blocks.length<9223372036854775808)(hl:∀ b∈f.Blocks,b.Ops.length<9223372036854775808):∃ M,L7 f=some M/\SI M (AX f) (Gd f):=by
 let st (M:List (Int×Bh)) (o:Bh):List (Int×Bh):=bif TK o.Kind then Ep M o.Dst o else M
 have inner:∀(i:Nat),i<f.Blocks.length->∀(k j:Nat) (M:List (Int×Bh)),j+k=(bA f i).Ops.length->Ah (G8 f (i:Int)) ((j:Int),M)=some (((bA f i).Ops.drop j).foldl st M):=by
  intro i hi k;have hlen:=hl _ (getD_mem hi:bA f i∈f.Blocks)
  induction k with
  | zero=>
   intro j M h
   obtain rfl:j=(bA f i).Ops.length:=by omega
   rw[List.drop_length];refine Ai ?_;unfold G8;simp only[A5];rw[show f.Blocks.getD i default=bA f i from rfl,Kq]
   rfl
  | succ k ih=>
   intro j M h
   have hj:j<(bA f i).Ops.length:=by omega
   have hd:(bA f i).Ops.drop j=(bA f i).Ops.getD j default::(bA f i).Ops.drop (j+1):=by rw[O8 hj,Ab _ _ _ hj]
   have hs:G8 f (i:Int) ((j:Int),M)=some (.next (((j+1:Nat):Int),st M ((bA f i).Ops.getD j default))):=by
    unfold G8;simp only[A5];rw[show f.Blocks.getD i default=bA f i from rfl,F0 hj,Ae,Ad (Je hj),Dv hj hlen]
    generalize (bA f i).Ops.getD j default=o
    simp only[st,TK]
    cases(o.Kind==0)<;>cases(o.Kind==1)<;>cases(o.Kind==2)<;>cases(o.Kind==3)<;>cases(o.Kind==8)<;>rfl
   rw[Ap hs,ih (j+1) _ (by omega),hd,List.foldl_cons]
 have outer:∀(k i:Nat) (M:List (Int×Bh)),i+k=f.Blocks.length->Ah (G9 f) ((i:Int),M)=some (((f.Blocks.drop i).flatMap (·.Ops)).foldl st M):=by
  intro k
  induction k with
  | zero=>
   intro i M h
   obtain rfl:i=f.Blocks.length:=by omega
   rw[List.drop_length];exact Ai (by unfold G9;simp only[Kq,Az];rfl)
  | succ k ih=>
   intro i M h
   have hi:i<f.Blocks.length:=by omega
   have hd:f.Blocks.drop i=bA f i::f.Blocks.drop (i+1):=by rw[O8 hi];exact Ca (·::_) (Ab _ _ _ hi).symm
   have hs:G9 f ((i:Int),M)=some (.next (((i+1:Nat):Int),(bA f i).Ops.foldl st M)):=by
    unfold G9;simp only[F0 hi,Ae];have:=inner i hi (bA f i).Ops.length 0 M (by omega);rw[show(((0:Nat):Int))=0 from rfl,Lm]at this;rw[Ad (Je hi),this,Ar,Dv hi hb]
    rfl
   rw[Ap hs,ih (i+1) _ (by omega),hd,T3,List.foldl_append]
 refine⟨(Nf f).foldl st [],?_,?_⟩
 ·unfold L7;have:=outer f.Blocks.length 0 [] (by omega);rw[show(((0:Nat):Int))=0 from rfl,Lm]at this;rw[this]
  rfl
 ·have key:∀(l done:List Bh) (M:List (Int×Bh)),(∀ o∈done++l,o∈Nf f)->(∀ o∈done,TK o.Kind=true->B2 M o.Dst=true/\mget default M o.Dst=o)->(∀ v,B2 M v=true->∃ o∈done,TK o.Kind=true/\o.Dst=v)->
    (∀ o∈done++l,TK o.Kind=true->B2 (l.foldl st M) o.Dst=true/\mget default (l.foldl st M) o.Dst=o)/\(∀ v,B2 (l.foldl st M) v=true->∃ o∈done++l,TK o.Kind=true/\o.Dst=v):=by
   intro l
   induction l with
   | nil=>intro done M _ h1 h2;rw[List.append_nil];exact⟨h1,h2⟩
   | cons x l ih=>
    intro done M hin h1 h2;have hx:x∈Nf f:=hin x (by simp)
    have:=ih (done++[x]) (st M x) (by rw[X9];exact hin) (λo ho hk=>by
     rcases zzL11.1 ho with h|h
     ·obtain⟨g1,g2⟩:=h1 o h hk;simp only[st]
      cases hxk:TK x.Kind with
      | false=>exact⟨g1,g2⟩
      | true=>
       rw[Ae,S8,Xl,g1,g2]
       by_cases e:o.Dst=x.Dst
       ·have h1o:1<=o.Dst:=by
         rcases op_dst R (hin o (by simp[h])) with⟨_,h0⟩|⟨_,_,_,_,_,h1,_⟩
         ·rw[hk]at h0;cases h0
         ·exact h1
        have:=di R (hin o (by simp[h])) hx h1o e;subst this
        simp
       ·rw[show(o.Dst==x.Dst)=false by simp[e]];simp
     ·obtain rfl:=zzL14.1 h;simp only[st];rw[hk,Ae,S8,Xl]
      simp) (λv hv=>by
     simp only[st]at hv
     cases hxk:TK x.Kind with
     | false=>
      rw[hxk,Az]at hv;obtain⟨o,ho,h⟩:=h2 v hv;exact⟨o,by simp[ho],h⟩
     | true=>
      rw[hxk,Ae,S8,Vp]at hv;rcases hv with hv|hv
      ·exact⟨x,by simp,hxk,(eq_of_beq hv).symm⟩
      ·obtain⟨o,ho,h⟩:=h2 v hv
       exact⟨o,by simp[ho],h⟩)
    rw[X9]at this;exact this
  obtain⟨k1,k2⟩:=key (Nf f) [] [] (λo ho=>by simpa using ho) (λo ho=>by cases ho) (λv hv=>by cases hv);rw[T4]at k1 k2;intro v hg;refine⟨?_,λo h=>?_⟩
  ·cases hd:AX f v with
   | some o=>
    obtain⟨a,b,c⟩:=Xw hd;have:=(k1 o a b).1;rw[c]at this;exact this
   | none=>
    cases hm:B2 ((Nf f).foldl st []) v with
    | false=>rfl
    | true=>
     obtain⟨o,a,b,c⟩:=k2 v hm;have:=dh R a b;rw[c,hd]at this
     cases this
  ·obtain⟨a,b,c⟩:=Xw h;have:=(k1 o a b).2;rw[c]at this;exact this
end
section
variable {f:Aa} (h:Sm f)
include h
omit h in
theorem Wi(hc:Cm f 2=0):mB f 2:=(ij (by omega)).1 hc
theorem FS:f.Blocks.length<9223372036854775808/\(∀ b∈f.Blocks,b.Ops.length<9223372036854775808)/\∀ o∈Nf f,0<=o.Imm:=by
 have hI:=h.1;refine⟨by have:=hI.blocks;rw[I8]at this;omega,λb hb=>by have:=(hI.block b hb).2.1;rw[I8]at this;omega,λo ho=>?_⟩;obtain⟨i,hi,k,hk,rfl⟩:=opsA_mem.1 ho;exact(hI.op _ (getD_mem hi) _ (getD_mem hk)).2.1
theorem cM(hc:Cm f 2=0){v:Int}(hg:Gd f v):Hi f v=some (L5 (AX f) (jg f v+1) v,0):=by
 obtain⟨s,hs,hS⟩:=OA f h;obtain⟨p1,p2,p3⟩:=FS h;have R:=Wi hc;obtain⟨M,m1,m2⟩:=kS R p1 p2;obtain⟨fd,f1⟩:=UD (ce R p3) m2 hg;obtain⟨d,hd,hv,hsh⟩:=hg;have hget:=hS.get hc d hd;rw[hv,hsh]at hget;unfold Hi;rw[hs,Ar,hget,m1]
 show(Gh v M []).bind _=_
 rw[f1]
 rfl
theorem gX{v:Int}(hn:¬ (Cm f 2=0/\Gd f v)):Hi f v=some (⟨[],0⟩,10):=by
 obtain⟨s,hs,hS⟩:=OA f h
 have hne:mget ((0:Int),(0:Int)) s v≠(64,1):=λe=>by
  by_cases hc:Cm f 2=0
  ·cases hm:B2 s v with
   | false=>rw[Y2 hm]at e;cases e
   | true=>
    obtain⟨d,hd,hv⟩:=hS.has hc v hm;have:=hS.get hc d hd;rw[hv,e]at this;exact hn ⟨hc,d,hd,hv,this.symm⟩
  ·have:=hS.none hc;rw[MQ this]at e
   cases e
 unfold Hi;rw[hs,Ar]
 have:(!(((mget ((0:Int),(0:Int)) s v).1==(64:Int))&&(((mget ((0:Int),(0:Int)) s v).2==(1:Int))&&true)))=true:=by
  generalize mget ((0:Int),(0:Int)) s v=p at hne ⊢
  obtain⟨a,b⟩:=p
  by_cases ha:a=64
  ·have hb:b≠1:=λe=>hne (by rw[ha,e]);simp[hb]
  ·simp[ha]
 rw[this]
 rfl
end
theorem gf{l:List Aw}(h:∀ t∈l,0<=t.Scale/\t.Scale<18446744073709551616)(v:Int):0<=Jj l v/\Jj l v<18446744073709551616:=by
 induction l with
 | nil=>exact⟨Int.le_refl _,by show(0:Int)<_;omega⟩
 | cons t r ih=>
  unfold Jj
  cases t.V==v with
  | true=>exact h t (Jh ..)
  | false=>exact ih λu hu=>h u (Fc _ hu)
theorem JO:∀ n a,Oe (λ_=>0) a n=[]
 | 0,_=>rfl
 | n+1,a=>by unfold Oe;exact JO n (a+1)
theorem NN:SO (λ_=>0)=[]:=JO _ _
section
variable {x y:Ay} (hx:D6 0 x.Terms=true) (hy:D6 0 y.Terms=true)
include hx
theorem mb:Ki Og x x=⟨[],0⟩:=by
 rw[Ul hx hx]
 have e:∀ a,Og a a=0:=λa=>by unfold Og;rw[Int.sub_self];rfl
 simp only[e,NN]
end
set_option linter.unusedSectionVars false
def cz(o:Bh):Bh:=bif o.Kind==0 then⟨o.Kind,o.Bits,o.Lanes,o.Dst,o.Args,0⟩ else o
def Cn(o:Bh):Prop:=o.Kind=0->o.Bits=64/\0<=o.Imm/\o.Imm<18446744073709551616
theorem TA{o:Bh}(h:Cn o):Ht (cz o)=Ht o:=by
 unfold cz
 by_cases h0:o.Kind=0
 ·obtain⟨h1,h2,h3⟩:=h h0;rw[show(o.Kind==0)=true by simp[h0],Ae];obtain⟨k,b,l,d,a,i⟩:=o;simp only at h0 h1 h2 h3;subst h0 h1
  have e:(i % 18446744073709551616==i)=true:=by rw[zzL66];omega
  have h1:ifitS 0 64 l i=(i % 18446744073709551616==i):=rfl;have h2:ifitS 0 64 l 0=true:=rfl;unfold Ht;simp only[h1,h2,e]
 ·rw[show(o.Kind==0)=false by simp[h0]];rfl
theorem Jl(o:Bh):(cz o).Kind=o.Kind/\(cz o).Bits=o.Bits/\(cz o).Lanes=o.Lanes/\(cz o).Dst=o.Dst/\(cz o).Args=o.Args:=by
 unfold cz
 cases o.Kind==0<;>exact⟨rfl,rfl,rfl,rfl,rfl⟩
theorem cT{o:Bh}(h:Cn o):Gx (cz o)=Gx o:=by
 obtain⟨h1,h2,h3,h4,h5⟩:=Jl o;unfold Gx;rw[TA h,h1,h2,h3]
theorem YX(o:Bh):L3 (cz o)=L3 o:=by
 unfold cz
 by_cases h0:o.Kind=0
 ·rw[show(o.Kind==0)=true by simp[h0],Ae];obtain⟨k,b,l,d,a,i⟩:=o;simp only at h0;subst h0
  rfl
 ·rw[show(o.Kind==0)=false by simp[h0]];rfl
theorem cU{o:Bh}(h:Cn o):E3 (cz o)=E3 o:=by
 unfold E3;rw[TA h,YX]
theorem jR{ops:List Bh}{k:Nat}(hk:k<ops.length):(ops.map cz).getD k default=cz (ops.getD k default):=by
 rw[Ab _ _ _ (by simpa using hk),Ab _ _ _ hk,List.getElem_map]
theorem CM{α:Type}{l:List Nat}{f g:Nat->List α}(h:∀ k,k∈l->f k=g k):l.flatMap f=l.flatMap g:=by
 induction l with
 | nil=>rfl
 | cons k l ih=>rw[T3,T3,h k (Jh ..),ih λj hj=>h j (Fc _ hj)]
def fV(ps:List Int)(r:Int)(ops:List Bh)(a:Int):Aa:=⟨ps,r,[⟨[],ops,⟨0,a,[]⟩⟩]⟩
theorem bp{l:List Bh}{p q:Bh->Bool}(h:∀ o∈l,p o=q o):l.all p=l.all q:=by
 induction l with
 | nil=>rfl
 | cons x l ih=>rw[Pa,Pa,h x (Jh ..),ih λo ho=>h o (Fc _ ho)]
theorem YW{ps:List Int}{r:Int}{ops:List Bh}{a:Int}(h:∀ o∈ops,Cn o)(hc:Cm (fV ps r (ops.map cz) a) 2=0):Cm (fV ps r ops a) 2=0:=by
 obtain⟨h1,h2,h3,h4⟩:=(Nn (by omega) (by omega)).1 hc;have hat:∀ k,k<ops.length->Cn (ops.getD k default):=λk hk=>h _ (getD_mem hk)
 have e1:Ax (fV ps r ops a)=Ax (fV ps r (ops.map cz) a):=by
  unfold Ax
  congr 1
  show(List.range 1).flatMap _=(List.range 1).flatMap _
  refine CM λi hi=>?_
  obtain rfl:i=0:=by have:=zzL36.1 hi;omega
  show J8 ⟨[],ops,⟨0,a,[]⟩⟩ 0=J8 ⟨[],ops.map cz,⟨0,a,[]⟩⟩ 0
  unfold J8 Ys
  congr 1
  simp only[M6];refine CM λk hk=>?_;have hk:=zzL36.1 hk;rw[jR hk,cT (hat k hk),(Jl _).2.2.2.1]
 have e2:Dz (fV ps r ops a)=Dz (fV ps r (ops.map cz) a):=by
  unfold Dz
  show(List.range 1).flatMap _=(List.range 1).flatMap _
  refine CM λi hi=>?_
  obtain rfl:i=0:=by have:=zzL36.1 hi;omega
  show Tu (fV ps r ops a) ⟨[],ops,⟨0,a,[]⟩⟩ 0=Tu (fV ps r (ops.map cz) a) ⟨[],ops.map cz,⟨0,a,[]⟩⟩ 0
  have hop:Rn ⟨[],ops,⟨0,a,[]⟩⟩ 0=Rn ⟨[],ops.map cz,⟨0,a,[]⟩⟩ 0:=by
   unfold Rn;simp only[M6];refine CM λk hk=>?_;have hk:=zzL36.1 hk;unfold Mb;rw[jR hk,cU (hat k hk),(Jl _).2.2.2.2]
  unfold Tu;rw[hop]
  rfl
 have e3:ops.all (G5 2)=(ops.map cz).all (G5 2):=by
  rw[List.all_map];refine bp λo ho=>?_
  show G5 2 o=G5 2 (cz o)
  unfold G5;rw[TA (h o ho),(Jl o).1,(Jl o).2.2.1]
 have e4:ops.all NE=(ops.map cz).all NE:=by
  rw[List.all_map];refine bp λo ho=>?_
  show NE o=NE (cz o)
  unfold NE;rw[(Jl o).1,(Jl o).2.1,(Jl o).2.2.1,(Jl o).2.2.2.1,(Jl o).2.2.2.2]
 have e5:sizeW (fV ps r ops a)=sizeW (fV ps r (ops.map cz) a):=by
  unfold sizeW O7
  show Bj ((((0+ops.length+1)+0:Nat):Int))=Bj ((((0+(ops.map cz).length+1)+0:Nat):Int))
  rw[M6]
 refine(Nn (by omega) (by omega)).2 ⟨?_,h2,?_,?_⟩
 ·have:Ra (fV ps r ops a)=Ra (fV ps r (ops.map cz) a):=by
   unfold Ra;rw[e5]
   show(_&&((true&&ops.all NE&&OL ⟨0,a,[]⟩)&&true))=(_&&((true&&(ops.map cz).all NE&&OL ⟨0,a,[]⟩)&&true))
   rw[e4]
   rfl
  rw[this];exact h1
 ·have:Pq (fV ps r ops a) 2=Pq (fV ps r (ops.map cz) a) 2:=by
   show(ps.all Dn&&((true&&ops.all (G5 2))&&true)&&Dn r)=(ps.all Dn&&((true&&(ops.map cz).all (G5 2))&&true)&&Dn r)
   rw[e3]
  rw[this];exact h3
 ·have e6:B0 (fV ps r ops a)=B0 (fV ps r (ops.map cz) a):=rfl;unfold FK at h4 ⊢;rw[e1,e2,e6];exact h4
def pT(o:Int):Ay:=⟨[⟨1,1⟩],o⟩
theorem JD(o:Int):D6 0 (pT o).Terms=true:=rfl
theorem kM(o:Int):D6 0 (⟨[],o⟩:Ay).Terms=true:=rfl
theorem oI(v:Int):0<=Jj [⟨1,1⟩] v/\Jj [⟨1,1⟩] v<18446744073709551616:=gf (λt ht=>by obtain rfl:=zzL14.1 ht;show(0:Int)<=1/\(1:Int)<_;omega) v
theorem mU(o s:Int):Ki Ym (pT o) ⟨[],s⟩=pT (Dx (o+s)):=by
 rw[Ul (JD o) (kM s)]
 have e:(SO λv=>Ym (Jj (pT o).Terms v) (Jj (⟨[],s⟩:Ay).Terms v))=SO (Jj [⟨1,1⟩]):=HS λv _ _=>by
  have:=oI v
  show Dx (Jj [⟨1,1⟩] v+0)=_
  rw[Int.add_zero,Nj this.1 this.2]
 rw[e,bq rfl]
 rfl
theorem WM{D:Int->Option Bh}{n:Nat}{v:Int}(h:D v=none):L5 D (n+1) v=Po v:=by unfold L5;rw[h]
theorem cj{D:Int->Option Bh}{n:Nat}{v:Int}{o:Bh}(h:D v=some o)(h0:o.Kind=0):L5 D (n+1) v=⟨[],o.Imm⟩:=by unfold L5;rw[h];simp[h0]
theorem cl{D:Int->Option Bh}{n:Nat}{v k a b:Int}{o:Bh}(h:D v=some o)(hk:o.Kind=k)(h0:k≠0)(ha:o.Args.getD 0 0=a)(hb:o.Args.getD 1 0=b):L5 D (n+1) v=TE v (iJ k (L5 D n a) (L5 D n b)):=by
 conv=>lhs;unfold L5
 rw[h];simp only;rw[hk,ha,hb,show(k==0)=false from zzL25.2 h0,Az]
def eK(o:Bh):Bool:=o.Kind==16 || (o.Kind==17 || (o.Kind==18 || o.Kind==19))
def wh(o:Bh):Nat:=bif o.Kind==16 || o.Kind==17 then 0 else 1
def BQ(o:Bh):Int:=o.Args.getD (wh o) 0
def Od(o:Bh):Int:=o.Lanes*(o.Bits / 8)
theorem aw{o:Bh}(h:eK o=true):o.Kind=16\/o.Kind=17\/o.Kind=18\/o.Kind=19:=by simpa [eK] using h
theorem ar{b n:Int}(h:Uy b n=true)(h8:8<=b):1<=n*(b / 8)/\n*(b / 8)<=16/\n*b=8*(n*(b / 8)):=by
 have hw:=width_cases (shape_width h);have hl:=Mk h
 have h128:n=1\/b*n<=128:=by
  simp only[Uy,A4,Vp,zzL66,D0]at h;rcases h.2 with h|h
  ·exact .inl h
  ·exact .inr h.2
 rcases hw with rfl|rfl|rfl|rfl|rfl<;>rcases hl with rfl|rfl|rfl|rfl|rfl<;>omega
theorem QW{f:Aa}(R:mB f 2){i k:Nat}(hi:i<f.Blocks.length)(hk:k<(bA f i).Ops.length){o:Bh}(e:(bA f i).Ops.getD k default=o)(ht:eK o=true) :
  wh o<o.Args.length/\Gd f (BQ o)/\1<=Od o/\Od o<=16/\o.Lanes*o.Bits=8*Od o/\0<=o.Bits/\o.Bits<=64:=by
 have hmay:=TX R hi hk;rw[e]at hmay;obtain⟨m1,m2,m3,m4,m5,m6,m7⟩:=Xj hmay;have hk':=aw ht
 have hwl:wh o<o.Args.length:=by
  have:Lk o.Kind o.Lanes=1/\wh o=0\/2<=Lk o.Kind o.Lanes/\wh o<=1:=by
   unfold wh;rcases hk' with h|h|h|h<;>rw[h]
   ·exact .inl ⟨rfl,rfl⟩
   ·exact .inr ⟨by show(2:Int)<=2;omega,by decide⟩
   ·exact .inr ⟨by show(2:Int)<=3;omega,by decide⟩
   ·exact .inr ⟨by show(2:Int)<=3;omega,by decide⟩
  omega
 have h8:8<=o.Bits:=by
  rcases hk' with h|h|h|h<;>rw[h]at m3
  ·exact Qb m3
  ·exact Qb m3
  ·exact Qb (Bool.and_eq_true_iff.1 m3).1
  ·exact Qb (Bool.and_eq_true_iff.1 m3).1
 have hel:W5 o (wh o)=(64,1):=by unfold W5 wh;rcases hk' with h|h|h|h<;>rw[h]<;>rfl
 have hu:(⟨BQ o,(i:Int),(k:Int),W5 o (wh o)⟩:Mp)∈Dz f:=
  (XE (λb hb o ho=>d7 R hb ho)).2 ⟨i,hi,.inr (.inl ⟨k,wh o,hk,by rw[e];exact hwl,by rw[e];rfl⟩)⟩
 obtain⟨d,hd,hv,hs,_⟩:=d9 R hu;obtain⟨l1,l2,l3⟩:=ar m1 h8;exact⟨hwl,⟨d,hd,hv,hs.trans hel⟩,l1,l2,l3,by omega,by rcases width_cases (shape_width m1) with h|h|h|h|h<;>omega⟩
def OK(p q:Ay):Int×Bool:=bif (Ki Og q p).Terms.length==0 then((Ki Og q p).Off,true) else(0,false)
section
variable {p q:Ay} (hp:D6 0 p.Terms=true) (hq:D6 0 q.Terms=true)
include hp hq
omit hq in
theorem cW:OK p p=(0,true):=by unfold OK;rw[mb hp];rfl
end
def oA(d m n:Int):Bool:=decide (m<=d)&&decide (n<=Dx (-d))
def oN:Bh:=⟨0,0,0,0,[],0⟩
def oG(f:Aa)(b k:Int):Bh:=(f.Blocks.getD b.toNat default).Ops.getD k.toNat default
def lI(f:Aa)(b k:Int):Prop:=Bw b f.Blocks.length/\Bw k (f.Blocks.getD b.toNat default).Ops.length
def Wq(f:Aa)(b k:Int):Bool:=(Cm f 2==0)&&((decide (0<=b)&&decide (b<f.Blocks.length))&&(decide (0<=k)&&decide (k<(f.Blocks.getD b.toNat default).Ops.length)))&&eK (oG f b k)
def cp(f:Aa)(v:Int):Ay:=L5 (AX f) (jg f v+1) v
def dF(f:Aa)(b x y:Int):Int×Bool:=bif Wq f b x&&Wq f b y then OK (cp f (BQ (oG f b x))) (cp f (BQ (oG f b y))) else(0,false)
theorem to_iff{f:Aa}{b k:Int}:Wq f b k=true↔Cm f 2=0/\lI f b k/\eK (oG f b k)=true:=by
 simp only[Wq,lI,Bw,A4,zzL66,D0,and_assoc]
theorem Ix{f:Aa}{b k:Int}(h:Wq f b k=true) :
  wh (oG f b k)<(oG f b k).Args.length/\Gd f (BQ (oG f b k))/\1<=Od (oG f b k)/\Od (oG f b k)<=16/\(oG f b k).Lanes*(oG f b k).Bits=8*Od (oG f b k)/\0<=(oG f b k).Bits/\(oG f b k).Bits<=64:=by
 obtain⟨h1,⟨h2,h3⟩,h4⟩:=to_iff.1 h;have h2:=h2;have h3:=h3;unfold Bw at h2 h3;exact QW (Wi h1) (i:=b.toNat) (k:=k.toNat) (by omega) (by show _<(f.Blocks.getD b.toNat default).Ops.length;omega) rfl h4
theorem VU{f:Aa}{b k:Int}(hI:∀ o∈Nf f,0<=o.Imm)(h:Wq f b k=true):BQ (oG f b k)≠0:=by
 have:=(ce (Wi (to_iff.1 h).1) hI).rng _ (Ix h).2.1;omega
theorem AE(f:Aa)(b k:Int):(lI f b k->C0 f b k=some (oG f b k))/\(¬ lI f b k->C0 f b k=some oN):=by
 unfold lI Bw C0
 by_cases h1:b<0
 ·rw[Cw h1];exact⟨λh=>absurd h1 (by omega),λ_=>rfl⟩
 by_cases h2:(f.Blocks.length:Int)<=b
 ·rw[C6 h1,Cw h2];exact⟨λh=>absurd h2 (by omega),λ_=>rfl⟩
 rw[C6 h1,C6 h2,Az,Az,Ad ⟨by omega,by omega⟩]
 by_cases h3:k<0
 ·rw[Cw h3];exact⟨λh=>absurd h3 (by omega),λ_=>rfl⟩
 by_cases h4:((f.Blocks.getD b.toNat default).Ops.length:Int)<=k
 ·rw[C6 h3,Cw h4];exact⟨λh=>absurd h4 (by omega),λ_=>rfl⟩
 rw[C6 h3,C6 h4,Az,Az,Ad ⟨by omega,by omega⟩];exact⟨λ_=>rfl,λh=>absurd ⟨⟨by omega,by omega⟩,by omega,by omega⟩ h⟩
theorem HX(o:Bh):Dw o=some (bif eK o&&decide (wh o<o.Args.length) then BQ o else 0):=by
 obtain⟨k,b,l,d,gs,i⟩:=o
 have fin:∀ n:Nat,(bif decide ((gs.length:Int)<=(n:Int)) then some (0:Int) else Ci (Bw (n:Int) gs.length) (some (gs.getD ((n:Int)).toNat 0)))=some (bif decide (n<gs.length) then gs.getD n 0 else 0):=λn=>by
  by_cases h:n<gs.length
  ·rw[Cw h,C6 (by omega),Az,Ad ⟨by omega,by omega⟩];rfl
  ·rw[C6 h,Cw (by omega)];rfl
 have f0:=fin 0;have f1:=fin 1;have fl:=fin gs.length;rw[C6 (Vq _)]at fl;unfold Dw eK wh BQ
 by_cases h1:k=16
 ·subst h1;exact f0
 by_cases h2:k=17
 ·subst h2;exact f0
 by_cases h3:k=18
 ·subst h3;exact f1
 by_cases h4:k=19
 ·subst h4;exact f1
 ·have e1:(k==16)=false:=by simp[h1]
  have e2:(k==17)=false:=by simp[h2]
  have e3:(k==18)=false:=by simp[h3]
  have e4:(k==19)=false:=by simp[h4]
  simp only[e1,e2,e3,e4,Az,Ar,Bool.or_self,Ty];exact fl
theorem Sx{f:Aa}{b k:Int}(h:Wq f b k=true):E2 (oG f b k)=some (Od (oG f b k)):=by
 obtain⟨_,_,h1,h2,h3,_⟩:=Ix h;unfold E2;rw[h3,show Bj (8*Od (oG f b k))=8*Od (oG f b k) from F8 (by omega) (by omega),Int.tdiv_eq_ediv_of_nonneg (by omega),show 8*Od (oG f b k) / 8=Od (oG f b k) by omega,F8 (by omega) (by omega)]
section
variable {f:Aa} (h:Sm f) (b:Int)
include h
theorem FR:∀ o∈Nf f,0<=o.Imm:=(FS h).2.2
theorem kZ(hc:Cm f 2=0):¬ Gd f 0:=λhg=>by have:=(ce (Wi hc) (FR h)).rng _ hg;omega
theorem mH(k:Int):∃ o,C0 f b k=some o/\∃ v,Dw o=some v /\
  (Wq f b k=true->o=oG f b k/\v=BQ o/\v≠0)/\(Wq f b k=false->Cm f 2=0->v=0):=by
 by_cases hi:lI f b k
 ·refine⟨_,(AE f b k).1 hi,_,HX _,λht=>?_,λht hc=>?_⟩
  ·have hp:=VU (FR h) ht;rw[(to_iff.1 ht).2.2,Cw (Ix ht).1];exact⟨rfl,rfl,hp⟩
  ·cases ht':eK (oG f b k) with
   | false=>rfl
   | true=>exact absurd (to_iff.2 ⟨hc,hi,ht'⟩) (by rw[ht];exact Bool.false_ne_true)
 ·refine⟨_,(AE f b k).2 hi,0,rfl,λht=>absurd (to_iff.1 ht).2.1 hi,λ_ _=>rfl⟩
theorem LE:Hv f=some (Cm f 2==0):=by unfold Hv;rw[gV f 2 h];rfl
theorem kJ(k:Int):Js f b k=some (bif Wq f b k then(BQ (oG f b k),Od (oG f b k),true) else(0,0,false)):=by
 obtain⟨o,ho,v,hv,h1,h2⟩:=mH h b k;unfold Js;rw[ho,Ar,hv,Ar]
 cases ht:Wq f b k with
 | true=>
  obtain⟨rfl,rfl,hz⟩:=h1 ht;rw[show(BQ (oG f b k)==0)=false from zzL25.2 hz,LE h,(to_iff.1 ht).1,Sx ht]
  rfl
 | false=>
  by_cases hc:Cm f 2=0
  ·rw[h2 ht hc];rfl
  ·rw[LE h,show(Cm f 2==0)=false from zzL25.2 hc]
   cases v==0<;>rfl
theorem cq{k:Int}(ht:Wq f b k=true):D6 0 (cp f (BQ (oG f b k))).Terms=true/\0<=(cp f (BQ (oG f b k))).Off/\(cp f (BQ (oG f b k))).Terms.length<=16:=
 ck (ce (Wi (to_iff.1 ht).1) (FR h)) _ _ (Ix ht).2.1
theorem WD(k:Int):∃ o,C0 f b k=some o/\∃ v,Dw o=some v /\
  Hi f v=some (bif Wq f b k then(cp f (BQ (oG f b k)),0) else(⟨[],0⟩,10)):=by
 obtain⟨o,ho,v,hv,h1,h2⟩:=mH h b k;refine⟨o,ho,v,hv,?_⟩
 cases ht:Wq f b k with
 | true=>
  obtain⟨rfl,rfl,hz⟩:=h1 ht;exact cM h (to_iff.1 ht).1 (Ix ht).2.1
 | false=>
  refine gX h λ⟨hc,hg⟩=>?_;rw[h2 ht hc]at hg;exact kZ h hc hg
theorem Yp(x y:Int):Dh f b x y=some (dF f b x y):=by
 obtain⟨o,ho,v,hv,e1⟩:=WD h b x;obtain⟨o',ho',v',hv',e2⟩:=WD h b y;unfold Dh dF;rw[ho,Ar,hv,Ar,e1,Ar]
 cases hx:Wq f b x with
 | false=>rfl
 | true=>
  rw[Ae,show((0:Int)!=0)=false from rfl,Az,ho',Ar,hv',Ar,e2,Ar]
  cases hy:Wq f b y with
  | false=>rfl
  | true=>
   have l1:=(cq h b hx).2.2;have l2:=(cq h b hy).2.2;rw[Ae,show((0:Int)!=0)=false from rfl,Az,WC (x:=cp f (BQ (oG f b y))) (y:=cp f (BQ (oG f b x))) (by omega) (by omega),Ar];unfold OK;simp only[Vr,Ae]
   cases(Ki Og (cp f (BQ (oG f b y))) (cp f (BQ (oG f b x)))).Terms with
   | nil=>rfl
   | cons a l=>
    rw[show decide ((0:Int)<(((a::l).length:Nat):Int))=true from Cw (by rw[M5];omega)]
    rfl
theorem WH{x y:Int}(hd:(dF f b x y).2=true):Wq f b x=true/\Wq f b y=true:=by
 unfold dF at hd;cases hx:Wq f b x<;>cases hy:Wq f b y<;>rw[hx,hy]at hd<;>first|cases hd|exact⟨rfl,rfl⟩
def jN(f:Aa)(b x y:Int):Bool:=(dF f b x y).2&&oA (dF f b x y).1 (Od (oG f b x)) (Od (oG f b y))
def lU(f:Aa)(b x y:Int):Bool:=(dF f b x y).2&&(dF f b x y).1==Od (oG f b x)
theorem UV{k:Int}(ht:Wq f b k=true):Dx (Od (oG f b k))=Od (oG f b k):=by
 obtain⟨_,_,h1,h2,_⟩:=Ix ht;exact Nj (by omega) (by omega)
theorem Yq(x y:Int):Ga f b x y=some (lU f b x y):=by
 unfold Ga Qw lU;rw[Yp h,Ar]
 cases hd:(dF f b x y).2 with
 | false=>rfl
 | true=>
  obtain⟨hx,hy⟩:=WH h b hd;obtain⟨i1,i2⟩:=(to_iff.1 hx).2.1;have i3:=(to_iff.1 hy).2.1.2;have ex:(f.Blocks.getD b.toNat default).Ops.getD x.toNat default=oG f b x:=rfl;have ey:(f.Blocks.getD b.toNat default).Ops.getD y.toNat default=oG f b y:=rfl;rw[show(!true)=false from rfl,Az,Ad i1,Ad i2,ex,Sx hx,Ar,Ad i3,ey,Sx hy,Ar,UV h b hx]
  rfl
theorem CF(x y:Int):Gy f b x y=some (jN f b x y):=by
 unfold Gy Mv jN;rw[Yp h,Ar]
 cases hd:(dF f b x y).2 with
 | false=>rfl
 | true=>
  obtain⟨hx,hy⟩:=WH h b hd;obtain⟨i1,i2⟩:=(to_iff.1 hx).2.1;have i3:=(to_iff.1 hy).2.1.2;have ex:(f.Blocks.getD b.toNat default).Ops.getD x.toNat default=oG f b x:=rfl;have ey:(f.Blocks.getD b.toNat default).Ops.getD y.toNat default=oG f b y:=rfl;rw[show(!true)=false from rfl,Az,Ad i1,Ad i2,ex,Sx hx,Ar,Ad i3,ey,Sx hy,Ar,UV h b hx,UV h b hy];unfold Mu oA;rw[Int.zero_sub]
  cases decide (Od (oG f b x)<=(dF f b x y).1)<;>rfl
def eL(f:Aa)(b:Int)(k:Nat):List Int:=bif Wq f b (k:Int) then[(k:Int)] else[]
def lC(f:Aa)(b:Int):List Int:=((List.range (f.Blocks.getD b.toNat default).Ops.length).map (eL f b)).flatten
def oL(f:Aa)(b:Int):List Int:=bif decide (0<=b)&&decide (b<f.Blocks.length) then lC f b else[]
omit h in
theorem ir(k:Nat):(eL f b k).length<=1:=by unfold eL;cases Wq f b (k:Int)<;>simp
theorem iT(hc:Cm f 2=0)(hb:Bw b f.Blocks.length):(f.Blocks.getD b.toNat default).Ops.length<=512:=by
 have hO:=jk h (Wi hc).may;unfold Bw at hb;exact(hO.block _ (getD_mem (by omega))).ops
theorem iU(hb:Bw b f.Blocks.length):(f.Blocks.getD b.toNat default).Ops.length<9223372036854775808:=by
 unfold Bw at hb;exact(FS h).2.1 _ (getD_mem (by omega))
theorem eM(hb:Bw b f.Blocks.length):(lC f b).length<=512:=by
 unfold lC
 by_cases hc:Cm f 2=0
 ·have:=DS (List.range (f.Blocks.getD b.toNat default).Ops.length) (eL f b) 1 λk _=>ir b k;rw[Vo]at this;have:=iT h b hc hb;omega
 ·have:=DS (List.range (f.Blocks.getD b.toNat default).Ops.length) (eL f b) 0 λk _=>by
   unfold eL;rw[show Wq f b (k:Int)=false from Bool.eq_false_iff.2 λe=>hc (to_iff.1 e).1];exact zzL8 _
  omega
theorem aa(hb:Bw b f.Blocks.length)(g:List Int×Int->Option (LR (List Int×Int) (List Int)))
  (hn:∀(out:List Int) (k:Nat),k<(f.Blocks.getD b.toNat default).Ops.length->(Wq f b (k:Int)=true->out.length+([(k:Int)]:List Int).length<=room)->g (out,(k:Int))=some (.next (out++eL f b k,((k+1:Nat):Int))))
  (hd:∀ out:List Int,g (out,((f.Blocks.getD b.toNat default).Ops.length:Int))=some (.done out)):Ah g (([]:List Int),(0:Int))=some (lC f b):=by
 have hl:(List.range (f.Blocks.getD b.toNat default).Ops.length).length=(f.Blocks.getD b.toNat default).Ops.length:=Vo
 have hg:∀ i,i<(f.Blocks.getD b.toNat default).Ops.length->(List.range (f.Blocks.getD b.toNat default).Ops.length).getD i 0=i:=λi hi=>by
  rw[Ab _ _ _ (by simpa using hi),List.getElem_range]
 have key:=AO (List.range (f.Blocks.getD b.toNat default).Ops.length) 0 (eL f b) room g (λout i hi hr=>?_) (λout=>by rw[hl];exact hd out) (f.Blocks.getD b.toNat default).Ops.length 0 [] (by rw[hl,Fj]) ?_
 ·rw[Lm]at key;exact key
 ·rw[hl]at hi;rw[hg i hi]at hr ⊢;refine hn out i hi λht=>?_;unfold eL at hr;rw[ht]at hr;exact hr
 ·have:=eM h b hb;unfold lC at this;rw[Lm,List.length_nil,XF];omega
theorem YV:Jt f b=some (oL f b):=by
 unfold Jt oL
 by_cases h1:b<0
 ·rw[Cw h1,C6 (show ¬ 0<=b by omega)];rfl
 by_cases h2:(f.Blocks.length:Int)<=b
 ·rw[C6 h1,Cw h2,C6 (show ¬ b<(f.Blocks.length:Int) by omega),Bool.and_false];rfl
 have hb:Bw b f.Blocks.length:=⟨by omega,by omega⟩
 rw[C6 h1,C6 h2,Cw hb.1,Cw hb.2,show(bif false then true else false)=false from rfl,show(false==false)=true from rfl,Ae,LE h,Ar,Az,
  show(true&&true)=true from rfl,Ae]
 by_cases hc:Cm f 2=0
 ·rw[show(Cm f 2==0)=true by rw[hc];rfl,show(!true)=false from rfl,Az,Ad hb];rw[aa h b hb (Hn f b) (λout k hk hr=>?_) λout=>?_]
  ·rfl
  ·have hkk:=iU h b hb;have ha:=HX (oG f b (k:Int))
   have eo:(f.Blocks.getD b.toNat default).Ops.getD k default=oG f b (k:Int):=by unfold oG;rw[A5]
   unfold Hn eL;simp only[F0 hk,Ae,A5];rw[Ad (Je hk),eo,ha,Ar]
   cases ht:Wq f b (k:Int) with
   | true=>
    rw[(to_iff.1 ht).2.2,Cw (Ix ht).1,show((bif true&&true then BQ (oG f b (k:Int)) else 0)!=0)=true from zzL89.2 (VU (FR h) ht),Ae,Ad (hr ht),Ar];simp only[Ae];rw[F8 (by omega) (by omega)]
    rfl
   | false=>
    have:eK (oG f b (k:Int))=false:=by
     cases ht':eK (oG f b (k:Int)) with
     | false=>rfl
     | true=>exact absurd (to_iff.2 ⟨hc,⟨hb,by omega,by omega⟩,ht'⟩) (by rw[ht];exact Bool.false_ne_true)
    rw[this,Ty,Az,show((0:Int)!=0)=false from rfl];simp only[Az,Ar,List.append_nil];rw[F8 (by omega) (by omega)]
    rfl
  ·unfold Hn;simp only[Kq,Az]
 ·rw[show(Cm f 2==0)=false from zzL25.2 hc]
  have hz:lC f b=[]:=by
   unfold lC;rw[List.flatten_eq_nil_iff];intro l hl;obtain⟨k,_,rfl⟩:=zzL26.1 hl;unfold eL;rw[show Wq f b (k:Int)=false from Bool.eq_false_iff.2 λe=>hc (to_iff.1 e).1]
   rfl
  rw[hz]
  rfl
end
theorem jj{ps:List Int}{r:Int}{ops:List Bh}{a:Int}(h0:ps.length<=16)(h1:ops.length<=300)(h2:∀ o∈ops,o.Args.length<=3/\0<=o.Imm/\o.Imm<18446744073709551616):Sm (fV ps r ops a):=by
 have hb:∀ b∈(fV ps r ops a).Blocks,b=⟨[],ops,⟨0,a,[]⟩⟩:=λb hb=>by simpa [fV] using hb
 refine mf ⟨by rw[I8];show ps.length<=_;omega,by rw[I8];show(1:Nat)<=_;omega,λb h=>?_,λb h p hp=>?_,λb h o ho=>?_⟩ (by show ps.length<=64;omega) (λb h=>?_) ?_
 ·rw[hb b h,I8];exact⟨Lb _,by show ops.length<=_;omega,Lb _⟩
 ·rw[hb b h]at hp;cases hp
 ·rw[hb b h]at ho;obtain⟨g1,g2⟩:=h2 o ho;exact⟨by rw[I8];omega,g2⟩
 ·rw[hb b h];exact⟨Lb _,(λp hp=>by cases hp),λo ho=>by have:=(h2 o ho).1;omega⟩
 ·have hs:∀ l:List Bh,(∀ o∈l,o.Args.length<=3)->(l.map LH).sum<=4*l.length:=by
   intro l
   induction l with
   | nil=>intro _;simp
   | cons x l ih=>
    intro hl;have h0:=hl x (Jh ..);have h1:=ih λo ho=>hl o (Fc _ ho);rw[Bs,Vt,M5];unfold LH at h1 ⊢;omega
  have:=hs ops λo ho=>(h2 o ho).1
  show ps.length+((1+0+0+(ops.map LH).sum)+0)<=20000
  omega
def fW:Aa:=fV [64] 32 [⟨0,64,1,2,[],4⟩,⟨1,64,1,3,[1,2],0⟩,⟨16,32,1,4,[1],0⟩,⟨16,32,1,5,[3],0⟩] 5
theorem UO:Sm fW:=jj (by show 1<=16;omega) (by show 4<=300;omega) λo ho=>by
 simp only[zzL24,List.not_mem_nil,or_false]at ho;rcases ho with rfl|rfl|rfl|rfl<;>decide
theorem oK:Wq fW 0 3=true/\Wq fW 0 2=true/\BQ (oG fW 0 3)=3/\Od (oG fW 0 3)=4/\oL fW 0=[2,3]:=by decide +kernel
theorem pD:dF fW 0 3 2=(18446744073709551612,true)/\lU fW 0 2 3=true/\lU fW 0 3 2=false/\jN fW 0 3 2=true/\jN fW 0 2 2=false:=by decide +kernel
theorem gG:m_locksteplaw18_awake=some true:=by
 obtain⟨t1,t2,t3,t4,t5⟩:=oK;obtain⟨d1,d2,d3,d4,d5⟩:=pD;have a1:=kJ UO 0 3;have a2:=Yp UO 0 3 2;have a3:=Yq UO 0 2 3;have a4:=Yq UO 0 3 2;have a5:=CF UO 0 3 2;have a6:=CF UO 0 2 2;have a7:=YV UO 0;rw[t1,t3,t4]at a1;rw[d1]at a2;rw[d2]at a3;rw[d3]at a4;rw[d4]at a5;rw[d5]at a6;rw[t5]at a7;have a8:=kp [2,3] [2,3] (by decide);unfold fW fV at a1 a2 a3 a4 a5 a6 a7;unfold m_locksteplaw18_awake;rw[show A9=[⟨0,64,1,2,[],4⟩,⟨1,64,1,3,[1,2],0⟩,⟨16,32,1,4,[1],0⟩,⟨16,32,1,5,[3],0⟩] from rfl,a1,Ar,a2,Ar];simp only[Ae,BEq.rfl];rw[a3,Ar];simp only[Ae,BEq.rfl];rw[a4,Ar];simp only[Ae,BEq.rfl,Kf];rw[a5,Ar];simp only[Ae,BEq.rfl];rw[a6,Ar];simp only[Ae,BEq.rfl,Kf];rw[a7,Ar,a8]
 rfl
def dk(k:Int):List Bh:=[⟨0,64,1,3,[],k⟩,⟨1,64,1,4,[1,3],0⟩,⟨1,64,1,5,[4,2],0⟩,⟨2,64,1,6,[5,2],0⟩,⟨16,8,1,7,[4],0⟩,⟨16,8,1,8,[6],0⟩,⟨16,8,1,9,[5],0⟩,⟨16,8,1,10,[1],0⟩]
def fO(k:Int):Aa:=fV [64,64] 8 (dk k) 10
theorem ZD:Cm (fO 0) 2=0:=by decide +kernel
theorem mM(a b:Int)(ha:0<=a/\a<18446744073709551616)(hb:0<=b/\b<18446744073709551616):OK (pT a) (pT b)=(Dx (b-a),true):=by
 have e:Ki Og (pT b) (pT a)=⟨[],Dx (b-a)⟩:=by
  rw[Ul (JD b) (JD a)]
  have e:(SO λv=>Og (Jj (pT b).Terms v) (Jj (pT a).Terms v))=[]:=by
   rw[<- NN];refine HS λv _ _=>?_
   show Og (Jj [⟨1,1⟩] v) (Jj [⟨1,1⟩] v)=0
   unfold Og;rw[Int.sub_self];rfl
  rw[e]
  rfl
 unfold OK;rw[e]
 rfl
def qT(o:Int):Ay:=⟨[⟨1,1⟩,⟨2,1⟩],o⟩
theorem mX(o:Int)(h:0<=o/\o<18446744073709551616):Ki Ym (pT o) (Po 2)=qT o:=by
 rw[Ul (JD o) (show D6 0 (Po 2).Terms=true from rfl)]
 have e:(SO λv=>Ym (Jj (pT o).Terms v) (Jj (Po 2).Terms v))=[⟨1,1⟩,⟨2,1⟩]:=by
  show(SO λv=>Ym (Jj [⟨1,1⟩] v) (Jj [⟨2,1⟩] v))=[⟨1,1⟩,⟨2,1⟩]
  decide +kernel
 rw[e]
 show(⟨_,Ym o 0⟩:Ay)=_
 unfold Ym;rw[Int.add_zero,Nj h.1 h.2]
 rfl
theorem mY(o:Int)(h:0<=o/\o<18446744073709551616):Ki Og (qT o) (Po 2)=pT o:=by
 rw[Ul (show D6 0 (qT o).Terms=true from rfl) (show D6 0 (Po 2).Terms=true from rfl)]
 have e:(SO λv=>Og (Jj (qT o).Terms v) (Jj (Po 2).Terms v))=[⟨1,1⟩]:=by
  show(SO λv=>Og (Jj [⟨1,1⟩,⟨2,1⟩] v) (Jj [⟨2,1⟩] v))=[⟨1,1⟩]
  decide +kernel
 rw[e]
 show(⟨_,Og o 0⟩:Ay)=_
 unfold Og;rw[Int.sub_zero,Nj h.1 h.2]
 rfl
theorem kW(a b:Int):(OK (pT a) (qT b))=(0,false):=by
 have e:(Ki Og (qT b) (pT a)).Terms=[⟨2,1⟩]:=by
  rw[Ul (show D6 0 (qT b).Terms=true from rfl) (JD a)]
  show(SO λv=>Og (Jj [⟨1,1⟩,⟨2,1⟩] v) (Jj [⟨1,1⟩] v))=[⟨2,1⟩]
  decide +kernel
 unfold OK;rw[e]
 rfl
section
variable {k:Int} (hk:0<=k/\k<65536)
include hk
theorem jS:Sm (fO k):=jj (by show 2<=16;omega) (by show 8<=300;omega) λo ho=>by
 simp only[dk,zzL24,List.not_mem_nil,or_false]at ho;rcases ho with rfl|rfl|rfl|rfl|rfl|rfl|rfl|rfl
 ·exact⟨Lb _,by show 0<=k/\k<18446744073709551616;omega⟩
 all_goals decide
theorem OO:Cm (fO k) 2=0:=by
 refine YW (λo ho h0=>?_) ZD;simp only[dk,zzL24,List.not_mem_nil,or_false]at ho;rcases ho with rfl|rfl|rfl|rfl|rfl|rfl|rfl|rfl
 ·exact⟨rfl,by show 0<=k/\k<18446744073709551616;omega⟩
 all_goals cases h0
theorem WL(x:Int)(h:Bw x 8)(ht:eK ((dk k).getD x.toNat default)=true):Wq (fO k) 0 x=true:=
 to_iff.2 ⟨OO hk,⟨⟨by omega,by show(0:Int)<1;omega⟩,h⟩,ht⟩
theorem LI(v:Int)(hg:Gd (fO k) v)(p:Ay)(h:∀ n,L5 (AX (fO k)) (n+4) v=p):cp (fO k) v=p:=by
 rw[<- h (jg (fO k) v)];exact W9 (ce (Wi (OO hk)) (FR (jS hk))) _ _ _ hg (Nat.lt_succ_self _) (by omega)
theorem WK(n:Nat):L5 (AX (fO k)) (n+1) 1=pT 0/\L5 (AX (fO k)) (n+2) 4=pT k/\L5 (AX (fO k)) (n+3) 5=qT k/\L5 (AX (fO k)) (n+4) 6=pT k:=by
 have hb:0<=k/\k<18446744073709551616:=by omega
 have d1:AX (fO k) 1=none:=rfl;have d2:AX (fO k) 2=none:=rfl;have d3:AX (fO k) 3=some ⟨0,64,1,3,[],k⟩:=rfl;have d4:AX (fO k) 4=some ⟨1,64,1,4,[1,3],0⟩:=rfl;have d5:AX (fO k) 5=some ⟨1,64,1,5,[4,2],0⟩:=rfl;have d6:AX (fO k) 6=some ⟨2,64,1,6,[5,2],0⟩:=rfl
 have a1:∀ n,L5 (AX (fO k)) (n+1) 1=pT 0:=λn=>by rw[WM d1];rfl
 have a2:∀ n,L5 (AX (fO k)) (n+1) 2=Po 2:=λn=>WM d2
 have a3:∀ n,L5 (AX (fO k)) (n+1) 3=⟨[],k⟩:=λn=>by rw[cj d3 rfl]
 have a4:∀ n,L5 (AX (fO k)) (n+2) 4=pT k:=λn=>by
  rw[cl (n:=n+1) d4 rfl (show(1:Int)≠0 by omega) (a:=1) (b:=3) rfl rfl,a1,a3]
  show TE 4 (some (Ki Ym (pT 0) ⟨[],k⟩))=_
  rw[mU,Int.zero_add,Nj hb.1 hb.2]
  rfl
 have a5:∀ n,L5 (AX (fO k)) (n+3) 5=qT k:=λn=>by
  rw[cl (n:=n+2) d5 rfl (show(1:Int)≠0 by omega) (a:=4) (b:=2) rfl rfl,a4,a2]
  show TE 5 (some (Ki Ym (pT k) (Po 2)))=_
  rw[mX k hb]
  rfl
 have a6:∀ n,L5 (AX (fO k)) (n+4) 6=pT k:=λn=>by
  rw[cl (n:=n+3) d6 rfl (show(2:Int)≠0 by omega) (a:=5) (b:=2) rfl rfl,a5,a2]
  show TE 6 (some (Ki Og (qT k) (Po 2)))=_
  rw[mY k hb]
  rfl
 exact⟨a1 n,a4 n,a5 n,a6 n⟩
theorem gn:dF (fO k) 0 4 5=(0,true)/\dF (fO k) 0 4 6=(0,false)/\dF (fO k) 0 7 4=(k,true):=by
 have t4:=WL hk 4 ⟨by omega,by omega⟩ rfl;have t5:=WL hk 5 ⟨by omega,by omega⟩ rfl;have t6:=WL hk 6 ⟨by omega,by omega⟩ rfl;have t7:=WL hk 7 ⟨by omega,by omega⟩ rfl;have e4:BQ (oG (fO k) 0 4)=4:=rfl;have e5:BQ (oG (fO k) 0 5)=6:=rfl;have e6:BQ (oG (fO k) 0 6)=5:=rfl;have e7:BQ (oG (fO k) 0 7)=1:=rfl;have g4:=(Ix t4).2.1;have g5:=(Ix t5).2.1;have g6:=(Ix t6).2.1;have g7:=(Ix t7).2.1;rw[e4]at g4;rw[e5]at g5;rw[e6]at g6;rw[e7]at g7;have f4:=LI hk 4 g4 (pT k) λn=>(WK hk (n+2)).2.1;have f5:=LI hk 6 g5 (pT k) λn=>(WK hk n).2.2.2;have f6:=LI hk 5 g6 (qT k) λn=>(WK hk (n+1)).2.2.1;have f7:=LI hk 1 g7 (pT 0) λn=>(WK hk (n+3)).1;unfold dF;rw[t4,t5,t6,t7,e4,e5,e6,e7,f4,f5,f6,f7];simp only[Vr,Ae];refine⟨cW (JD k),kW k k,?_⟩;rw[mM 0 k (by omega) (by omega),Int.sub_zero,Nj (by omega) (by omega)]
theorem dl(c:Bool):Ee k c=some true:=by
 obtain⟨d1,d2,d3⟩:=gn hk;have h:=jS hk;have a1:=Yp h 0 4 5;have a2:=Yp h 0 4 6;have a3:=Yp h 0 7 4;have a4:=CF h 0 4 6;have a5:=CF h 0 7 4;have a6:=Yq h 0 7 4
 have e4:jN (fO k) 0 4 6=false:=by unfold jN;rw[d2];rfl
 have e5:jN (fO k) 0 7 4=decide (0<k):=by
  unfold jN oA;rw[d3,show Od (oG (fO k) 0 7)=1 from rfl,show Od (oG (fO k) 0 4)=1 from rfl]
  show(decide (1<=k)&&decide (1<=Dx (-k)))=_
  by_cases h0:0<k
  ·rw[Cw h0,Cw (show 1<=k by omega),Cw (show 1<=Dx (-k) by rw[FZ];omega)];rfl
  ·rw[C6 h0,C6 (show ¬ 1<=k by omega)];rfl
 have e6:lU (fO k) 0 7 4=(k==1):=by
  unfold lU;rw[d3,show Od (oG (fO k) 0 7)=1 from rfl]
  rfl
 rw[d1]at a1;rw[d2]at a2;rw[d3]at a3;rw[e4]at a4;rw[e5]at a5;rw[e6]at a6;unfold fO fV dk at a1 a2 a3 a4 a5 a6;unfold Ee;rw[gG,Ar,show(!true)=false from rfl,Az,show Dx k=k from Nj (by omega) (by omega),a1,Ar,a2,Ar,a3,Ar]
 have hx:∀(p:Option Bool),p=some false->(bif (c==true) then p else some false)=some false:=λp hp=>by rw[hp];cases c<;>rfl
 rw[hx _ a4,Ar,show(bif c then false else false)=false by cases c<;>rfl,Az];simp only[Ae,BEq.rfl,Kf];rw[a5,Ar];simp only[Ae,BEq.rfl];rw[a6,Ar];simp only[Ae,BEq.rfl]
end
theorem other18(k:Int)(c:Bool)(hk:0<=k/\k<65536):Ee k c=some true:=dl hk c
end
end Go.Proofs.YtjpnobeadcdnoaaGreat
