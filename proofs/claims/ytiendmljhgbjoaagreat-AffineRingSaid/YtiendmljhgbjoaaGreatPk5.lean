/-
  The machine, the program's functions and the laws' arithmetic: part 5 of 5.
-/
import Derived.Test.YtiendmljhgbjoaaGreatPk4
set_option linter.unusedSectionVars false
set_option linter.unusedVariables false
set_option linter.unusedSimpArgs false
namespace Go.Proofs.YtiendmljhgbjoaaGreat
noncomputable section
open Go Go.RowKit
def d9(d:TDef):G3:=bif decide (d.Block<0) then⟨0,-1⟩ else⟨d.Block,d.At⟩
def AO(d:TDef):Aj:=⟨d.Shape,d9 d⟩
def dv(l:List TDef):List (Int×Aj):=l.map λd=>(d.V,AO d)
def FF(acc:List (Int×Aj))(v:Int):Bool:=(Bv acc v || decide (v<1)) || decide (1023<v)
def F5:List (Int×Aj)->List TDef->Bool×List (Int×Aj)
 | acc,[]=>(true,acc)
 | acc,d::ds=>bif FF acc d.V then(false,acc) else F5 (Ei acc d.V (AO d)) ds
theorem Xz:∀(a b:List TDef) (acc:List (Int×Aj)),F5 acc (a++b)=bif (F5 acc a).1 then F5 (F5 acc a).2 b else F5 acc a
 | [],b,acc=>rfl
 | d::a,b,acc=>by
  rw[Zz];simp only[F5]
  cases FF acc d.V with
  | true=>rfl
  | false=>simp only[Ay];exact Xz a b _
theorem Sh{V:Type}(k:Int):∀ l:List (Int×V),Bv l k=l.any λq=>k==q.1
 | []=>rfl
 | (a,b)::l=>by rw[List.any_cons,<- Sh k l];rfl
theorem Tw{V:Type}(k:Int)(v:V):∀{l:List (Int×V)},Bv l k=false->Ei l k v=l++[(k,v)]
 | [],_=>rfl
 | (a,b)::l,h=>by
  simp only[Bv,ET]at h;simp only[Ei,h.1,Ay,Tw k v h.2,Zz]
theorem MG(v:Int)(s:Int×Int)(p:G3)(f:Ab)(l:Int)(t:List Int)(vs:List (Int×Aj))(u:List A6) :
  D1 v s p f l t vs u=some (bif FF vs v then(false,f,l,t,u,vs) else(true,f,l,t,u,Ei vs v ⟨s,p⟩)):=by
 unfold D1 FF
 cases Bv vs v<;>cases decide (v<1)<;>cases decide (1023<v)<;>rfl
def fZ(f:Ab)(l:Int)(t:List Int)(u:List A6)(r:Bool×List (Int×Aj)):(List Int×Int×List Am×Int×List Int×List A6×List (Int×Aj)) ⊕ (Bool×Ab×Int×List Int×List A6×List (Int×Aj)):=
 bif r.1 then .inl (f.Params,f.Ret,f.Blocks,l,t,u,r.2) else .inr (false,f,l,t,u,r.2)
theorem iQ(b:Am)(h:b.Phis.length<9223372036854775808)(i:Nat)(f:Ab)(l:Int)(t:List Int)(u:List A6):∀(k j:Nat) (vs:List (Int×Aj)),j+k=b.Phis.length->
  Ai (Cn (i:Int) b) ((j:Int),f.Params,f.Ret,f.Blocks,l,t,u,vs)=some (fZ f l t u (F5 vs ((List.range' j k).flatMap λ(k:Nat)=>[(⟨(b.Phis.getD k default).Dst,i,-1,((b.Phis.getD k default).Bits,1)⟩:TDef)]))):=by
 intro k
 induction k with
 | zero=>
  intro j vs hj
  obtain rfl:j=b.Phis.length:=by omega
  rw[Ag (x:=.inl (f.Params,f.Ret,f.Blocks,l,t,u,vs)) (by unfold Cn;simp)]
  rfl
 | succ k ih=>
  intro j vs hj
  have hi:j<b.Phis.length:=by omega
  have hd:decide ((j:Int)<(b.Phis.length:Int))=true:=by simpa using hi
  have hx:=MG (b.Phis.getD j default).Dst ((b.Phis.getD j default).Bits,1) (⟨(i:Int),-1⟩:G3) f l t vs u
  have hat:d9 (⟨(b.Phis.getD j default).Dst,i,-1,((b.Phis.getD j default).Bits,1)⟩:TDef)=⟨(i:Int),-1⟩:=by unfold d9;rw[Fc (by show ¬ (i:Int)<0;omega)];rfl
  rw[Xh,Xg,List.singleton_append];simp only[F5]
  cases hb:FF vs (b.Phis.getD j default).Dst with
  | true=>
   rw[hb]at hx
   rw[Ag (x:=.inr (false,f,l,t,u,vs)) (by
    unfold Cn C9;simp only[hd,Ae,Aq (Bb hi),Dg,As];rw[show(⟨f.Params,f.Ret,f.Blocks⟩:Ab)=f from rfl,hx]
    rfl)]
   rfl
  | false=>
   rw[hb]at hx
   rw[An (s':=(((j+1:Nat):Int),f.Params,f.Ret,f.Blocks,l,t,u,Ei vs (b.Phis.getD j default).Dst ⟨((b.Phis.getD j default).Bits,1),⟨(i:Int),-1⟩⟩)) (by
    unfold Cn C9;simp only[hd,Ae,Aq (Bb hi),Dg,As];rw[show(⟨f.Params,f.Ret,f.Blocks⟩:Ab)=f from rfl,hx,Da hi h]
    rfl),ih (j+1) _ (by omega)]
   unfold AO;rw[hat]
   rfl
theorem j5{f0:Ab}(hf:OkF f0){b:Am}(hb:b∈f0.Blocks)(i:Nat)(f:Ab)(l:Int)(t:List Int)(u:List A6):∀(k j:Nat) (vs:List (Int×Aj)),j+k=b.Ops.length->
  Ai (Bu (i:Int) b) ((j:Int),f.Params,f.Ret,f.Blocks,l,t,u,vs)=some (fZ f l t u (F5 vs ((List.range' j k).flatMap λ(k:Nat)=>bif decide (0<(H1 (b.Ops.getD k default)).1) then[(⟨(b.Ops.getD k default).Dst,i,k,H1 (b.Ops.getD k default)⟩:TDef)] else[]))):=by
 have hB:=hf.block b hb;intro k
 induction k with
 | zero=>
  intro j vs hj
  obtain rfl:j=b.Ops.length:=by omega
  rw[Ag (x:=.inl (f.Params,f.Ret,f.Blocks,l,t,u,vs)) (by unfold Bu;simp)]
  rfl
 | succ k ih=>
  intro j vs hj
  have hi:j<b.Ops.length:=by omega
  have hd:decide ((j:Int)<(b.Ops.length:Int))=true:=by simpa using hi
  have hg:Kl (b.Ops.getD j default)=some (H1 (b.Ops.getD j default)):=RQ _ (iu hf hb (getD_mem hi));have hx:=MG (b.Ops.getD j default).Dst (H1 (b.Ops.getD j default)) (⟨(i:Int),(j:Int)⟩:G3) f l t vs u
  have hat:d9 (⟨(b.Ops.getD j default).Dst,i,j,H1 (b.Ops.getD j default)⟩:TDef)=⟨(i:Int),(j:Int)⟩:=by unfold d9;rw[Fc (by show ¬ (i:Int)<0;omega)];rfl
  rw[Xh,Xg]
  cases hp:decide (0<(H1 (b.Ops.getD j default)).1) with
  | false=>
   rw[Ay,Tb,<- ih (j+1) vs (by omega),An (s':=(((j+1:Nat):Int),f.Params,f.Ret,f.Blocks,l,t,u,vs)) (by
    unfold Bu;simp only[hd,Ae,Aq (Bb hi),Dg,hg,As,hp];rw[Da hi (by have:=hB.ops;omega)]
    rfl)]
  | true=>
   rw[Ae,List.singleton_append];simp only[F5]
   cases hb:FF vs (b.Ops.getD j default).Dst with
   | true=>
    rw[hb]at hx
    rw[Ag (x:=.inr (false,f,l,t,u,vs)) (by
     unfold Bu;simp only[hd,Ae,Aq (Bb hi),Dg,hg,As,hp];rw[show(true==true)=true from rfl,Ae,show(⟨f.Params,f.Ret,f.Blocks⟩:Ab)=f from rfl,hx]
     rfl)]
    rfl
   | false=>
    rw[hb]at hx
    rw[An (s':=(((j+1:Nat):Int),f.Params,f.Ret,f.Blocks,l,t,u,Ei vs (b.Ops.getD j default).Dst ⟨H1 (b.Ops.getD j default),⟨(i:Int),(j:Int)⟩⟩)) (by
     unfold Bu;simp only[hd,Ae,Aq (Bb hi),Dg,hg,As,hp];rw[show(true==true)=true from rfl,Ae,show(⟨f.Params,f.Ret,f.Blocks⟩:Ab)=f from rfl,hx,Da hi (by have:=hB.ops;omega)]
     rfl),ih (j+1) _ (by omega)]
    unfold AO;rw[hat]
    rfl
theorem MH{f:Ab}(hf:OkF f){b:Am}(hb:b∈f.Blocks)(i:Nat)(l:Int)(t:List Int)(u:List A6)(vs:List (Int×Aj)) :
  Eg (i:Int) b f l t vs u=some ((F5 vs (Ls b i)).1,f,l,t,u,(F5 vs (Ls b i)).2):=by
 unfold Eg Ls;rw[show(0:Int)=((0:Nat):Int) from rfl,iQ b (by have:=(hf.block b hb).phis;omega) i f l t u b.Phis.length 0 vs (by omega),As,Xz];rw[show(List.range' 0 b.Phis.length).flatMap (λ(k:Nat)=>[(⟨(b.Phis.getD k default).Dst,i,-1,((b.Phis.getD k default).Bits,1)⟩:TDef)])=Tk b i by rw[Tk,Zw]];unfold fZ
 cases h1:(F5 vs (Tk b i)).1 with
 | false=>simp only[Ay];rw[h1]
 | true=>
  simp only[Ae];rw[j5 hf hb i f l t u b.Ops.length 0 _ (by omega),As];rw[show(List.range' 0 b.Ops.length).flatMap (λ(k:Nat)=>bif decide (0<(H1 (b.Ops.getD k default)).1) then[(⟨(b.Ops.getD k default).Dst,i,k,H1 (b.Ops.getD k default)⟩:TDef)] else[])=CF b i by rw[CF,Zw]];unfold fZ;cases h2:(F5 (F5 vs (Tk b i)).2 (CF b i)).1<;>rfl
theorem Ty{l:List TDef}{i:Nat}(hi:i<l.length):Ks l i=true↔valS (l.getD i default).V=true/\∀ j,j<i->(l.getD j default).V≠(l.getD i default).V:=by
 unfold Ks;rw[A2];refine and_congr Iff.rfl ?_;unfold H9
 cases hx:l.findIdx? (λd=>d.V==(l.getD i default).V) with
 | none=>
  rw[List.findIdx?_eq_none_iff]at hx;have:=hx _ (getD_mem (d:=default) hi);simp at this
 | some j=>
  obtain⟨hj,h1,h2⟩:=List.findIdx?_eq_some_iff_getElem.1 hx;simp only[zzL70,Int.natCast_inj]
  constructor
  ·rintro rfl k hk he;have:=h2 k hk;rw[Aa _ _ _ (by omega:k<l.length)]at he;simp at this;exact this he
  ·intro h
   have hv:(l.getD j default).V=(l.getD i default).V:=by rw[Aa _ _ _ hj];simpa using h1
   rcases Nat.lt_trichotomy j i with hlt|rfl|hgt
   ·exact absurd hv (h j hlt)
   ·rfl
   ·have:=h2 i hgt;rw[<- Aa l i default hi]at this;simp at this
theorem fE(l:List TDef)(v:Int):Bv (dv l) v=l.any λd=>v==d.V:=by
 rw[Sh,dv,List.any_map];rfl
theorem CE:∀(ds pre:List TDef),(F5 (dv pre) ds).1=(List.range' pre.length ds.length).all (Ks (pre++ds))/\((F5 (dv pre) ds).1=true->(F5 (dv pre) ds).2=dv (pre++ds))
 | [],pre=>by simp[F5]
 | d::ds,pre=>by
  have hi:pre.length<(pre++d::ds).length:=by simp
  have hg:(pre++d::ds).getD pre.length default=d:=by simp[List.getD]
  have hj:∀ j,j<pre.length->(pre++d::ds).getD j default=pre.getD j default:=λj h=>by simp[List.getD,Pr h]
  have hok:Ks (pre++d::ds) pre.length = !FF (dv pre) d.V:=by
   rw[L4,Ty hi,hg];unfold FF valS;rw[fE];simp only[Om,ET,IH,List.any_eq_false,zzL70,A2,Dr]
   constructor
   ·rintro⟨⟨h1,h2⟩,h3⟩;refine⟨⟨λx hx he=>?_,by omega⟩,by omega⟩;obtain⟨j,hjl,rfl⟩:=K6 hx;have:=h3 j hjl;rw[hj j hjl,Aa _ _ _ hjl]at this;exact this he.symm
   ·rintro⟨⟨h1,h2⟩,h3⟩;refine⟨⟨by omega,by omega⟩,λj hjl he=>?_⟩;rw[hj j hjl,Aa _ _ _ hjl]at he;exact h1 _ (Xi hjl) he.symm
  rw[On,Xh,Rm,hok];simp only[F5]
  cases hb:FF (dv pre) d.V with
  | true=>exact⟨rfl,λh=>by cases h⟩
  | false=>
   have hn:Bv (dv pre) d.V=false:=by
    unfold FF at hb;simp only[ET]at hb;exact hb.1.1
   have hs:Ei (dv pre) d.V (AO d)=dv (pre++[d]):=by rw[Tw _ _ hn,dv,dv,Y0];rfl
   have:=CE ds (pre++[d]);rw[E5,Zx,List.singleton_append]at this;rw[Ay,hs,L5,G0];exact this
def pv(f:Ab)(n:Nat):List (Int×Aj):=(List.range n).map λ(j:Nat)=>((j:Int)+1,⟨(f.Params.getD j 0,1),⟨0,-1⟩⟩)
theorem kK(f:Ab):pv f f.Params.length=dv (K3 f):=by
 unfold pv dv K3;rw[List.map_flatMap]
 induction List.range f.Params.length with
 | nil=>rfl
 | cons a l ih=>rw[Bq,Xg,ih];rfl
theorem ax{f:Ab}(hf:OkF f):∀(k i:Nat),i+k=f.Params.length->Ai (D2 f) ((i:Int),pv f i)=some (pv f f.Params.length):=by
 intro k
 induction k with
 | zero=>
  intro i h
  obtain rfl:i=f.Params.length:=by omega
  exact Ag (by unfold D2;simp)
 | succ k ih=>
  intro i h
  have hi:i<f.Params.length:=by omega
  have hd:decide ((i:Int)<(f.Params.length:Int))=true:=by simpa using hi
  have hn:Bv (pv f i) ((i:Int)+1)=false:=by
   rw[Sh,pv,List.any_map,List.any_eq_false];intro j hj;have:=zzL43.1 hj
   simp;omega
  have hs:Ei (pv f i) ((i:Int)+1) ⟨(f.Params.getD i 0,1),⟨0,-1⟩⟩=pv f (i+1):=by
   rw[Tw _ _ hn,pv,pv,Y1,Y0];rfl
  rw[An (s':=(((i+1:Nat):Int),pv f (i+1))) (by
   unfold D2 C9;simp only[hd,Ae,Aq (Bb hi),Dg,As,Da hi (by have:=hf.few;omega),hs]
   rfl)]
  exact ih (i+1) (by omega)
theorem aq{f:Ab}(hf:OkF f)(l:Int)(t:List Int)(u:List A6):∀(k i:Nat) (vs:List (Int×Aj)),i+k=f.Blocks.length->
  Ai (C8 f) ((i:Int),vs,f.Params,f.Ret,f.Blocks,l,t,u)=some (bif (F5 vs ((List.range' i k).flatMap λi=>Ls (f.Blocks.getD i default) i)).1 then .inl ((F5 vs ((List.range' i k).flatMap λi=>Ls (f.Blocks.getD i default) i)).2,f.Params,f.Ret,f.Blocks,l,t,u) else
   .inr (7,f,l,t,u,(F5 vs ((List.range' i k).flatMap λi=>Ls (f.Blocks.getD i default) i)).2)):=by
 intro k
 induction k with
 | zero=>
  intro i vs h
  obtain rfl:i=f.Blocks.length:=by omega
  rw[Ag (x:=.inl (vs,f.Params,f.Ret,f.Blocks,l,t,u)) (by unfold C8;simp)]
  rfl
 | succ k ih=>
  intro i vs h
  have hi:i<f.Blocks.length:=by omega
  have hd:decide ((i:Int)<(f.Blocks.length:Int))=true:=by simpa using hi
  have hx:=MH hf (getD_mem (d:=default) hi) i l t u vs;rw[Xh,Xg,Xz]
  cases hb:(F5 vs (Ls (f.Blocks.getD i default) i)).1 with
  | false=>
   rw[hb]at hx
   rw[Ag (x:=.inr (7,f,l,t,u,(F5 vs (Ls (f.Blocks.getD i default) i)).2)) (by
    unfold C8;simp only[hd,Ae,Aq (Bb hi),Dg];rw[show(⟨f.Params,f.Ret,f.Blocks⟩:Ab)=f from rfl,hx]
    rfl),Ay,hb]
   rfl
  | true=>
   rw[hb]at hx
   rw[An (s':=(((i+1:Nat):Int),(F5 vs (Ls (f.Blocks.getD i default) i)).2,f.Params,f.Ret,f.Blocks,l,t,u)) (by
    unfold C8;simp only[hd,Ae,Aq (Bb hi),Dg];rw[show(⟨f.Params,f.Ret,f.Blocks⟩:Ab)=f from rfl,hx,Da hi (by have:=hf.blocks;omega)]
    rfl),ih (i+1) _ (by omega),Ae]
theorem nA{f:Ab}(hf:OkF f):∀ i,i<f.Params.length->Ks (Au f) i=true:=λi hi=>by
 have hl:=GN f
 have hg:∀ j,j<f.Params.length->(Au f).getD j default=⟨(j:Int)+1,-1,0,(f.Params.getD j 0,1)⟩:=λj hj=>by
  have e:K3 f=(List.range f.Params.length).map λ(i:Nat)=>(⟨(i:Int)+1,-1,0,(f.Params.getD i 0,1)⟩:TDef):=by
   unfold K3
   induction List.range f.Params.length with
   | nil=>rfl
   | cons a l ih=>rw[Bq,Xg,ih];rfl
  rw[Au,List.getD,Pr (by omega),e];simp[hj]
 have hle:i<(Au f).length:=by rw[Au,E5];omega
 rw[Ty hle,hg i hi];refine⟨?_,λj hj=>?_⟩
 ·have:=hf.few;simp only[valS,A2,Dr];omega
 ·rw[hg j (by omega)];simp only;omega
theorem WM{f:Ab}(hf:OkF f)(l:Int)(t:List Int)(u:List A6):∃ vs,Ez f l t u=some (bif (List.range (Au f).length).all (Ks (Au f)) then 0 else 7,f,l,t,u,vs)/\((List.range (Au f).length).all (Ks (Au f))=true->vs=dv (Au f)):=by
 have hsp:=CE ((List.range f.Blocks.length).flatMap λi=>Ls (f.Blocks.getD i default) i) (K3 f)
 have hall:(List.range (Au f).length).all (Ks (Au f))=(F5 (dv (K3 f)) ((List.range f.Blocks.length).flatMap λi=>Ls (f.Blocks.getD i default) i)).1:=by
  rw[hsp.1]
  show(List.range (Au f).length).all (Ks (Au f))=(List.range' (K3 f).length _).all (Ks (Au f))
  have hs:List.range (Au f).length=List.range (K3 f).length++List.range' (K3 f).length ((List.range f.Blocks.length).flatMap λi=>Ls (f.Blocks.getD i default) i).length:=by
   rw[Zw,Zw,Au,E5];have:=List.range'_append_1 (s:=0) (m:=(K3 f).length) (n:=((List.range f.Blocks.length).flatMap λi=>Ls (f.Blocks.getD i default) i).length);rw[Fq]at this;exact this.symm
  rw[hs,List.all_append];have:(List.range (K3 f).length).all (Ks (Au f))=true:=zzL27.2 λi hi=>nA hf i (by rw[<- GN f];exact zzL43.1 hi);rw[this,G0]
 unfold Ez;have hp:=ax hf f.Params.length 0 (by omega);have e0:pv f 0=[]:=rfl;rw[e0,show(((0:Nat):Int))=0 from rfl]at hp;rw[hp,As,kK];have hb:=aq hf l t u f.Blocks.length 0 (dv (K3 f)) (by omega);rw[show(((0:Nat):Int))=0 from rfl,<- Zw]at hb;rw[hb,As,hall];refine⟨(F5 (dv (K3 f)) ((List.range f.Blocks.length).flatMap λi=>Ls (f.Blocks.getD i default) i)).2,?_,hsp.2⟩
 cases(F5 (dv (K3 f)) ((List.range f.Blocks.length).flatMap λi=>Ls (f.Blocks.getD i default) i)).1<;>rfl
theorem Tv{β S X:Type}(B:Nat)(mk:Int->List β->S)(out:List β->X)(n:Nat)(E:Nat->List β)(f:S->Option (LR S X))(hn:∀(acc:List β) (i:Nat),i<n->(acc++E i).length<=B->f (mk i acc)=some (.next (mk ((i:Int)+1) (acc++E i))))
  (hd:∀ acc:List β,f (mk n acc)=some (.done (out acc))):∀(k i:Nat) (acc:List β),i+k=n->(acc++(List.range' i k).flatMap E).length<=B->Ai f (mk i acc)=some (out (acc++(List.range' i k).flatMap E))
 | 0,i,acc,h,_=>by
  obtain rfl:i=n:=by omega
  rw[Ag (hd acc)]
  simp
 | k+1,i,acc,h,hB=>by
  have hi:i<n:=by omega
  rw[Xh,Xg,<- Zx]at hB ⊢;rw[An (hn acc i hi (by rw[E5]at hB;omega)),show((i:Int)+1)=((i+1:Nat):Int) by omega,Tv B mk out n E f hn hd k (i+1) _ (by omega) hB]
theorem NM{β γ:Type}(h:β->γ)(n:Nat)(g:Nat->β):(List.range' 0 n).flatMap (λj=>[h (g j)])=((List.range n).flatMap λj=>[g j]).map h:=by
 rw[List.map_flatMap,Zw];rfl
theorem CZ{β γ:Type}(h:β->γ)(n:Nat)(g:Nat->List β):(List.range' 0 n).flatMap (λj=>(g j).map h)=((List.range n).flatMap g).map h:=by
 rw[List.map_flatMap,Zw]
def Ku(f:Ab)(b:Int):Int:=((f.Blocks.getD b.toNat default).Ops.length:Int)
def Dt(f:Ab)(u:Mm):A6:=⟨u.V,u.Shape,⟨u.Block,bif u.At==1000 then Ku f u.Block else u.At⟩⟩
theorem UB(f:Ab)(l:Int)(t:List Int)(vs:List (Int×Aj))(v:Int)(s:Int×Int)(p:G3)(u:List A6)(h:(u++[(⟨v,s,p⟩:A6)]).length<=10000000):Di v s p f l t vs u=some (f,l,t,u++[⟨v,s,p⟩]):=by
 unfold Di;rw[Ad (by rw[E5]at h;rw[fe];omega)]
theorem au(f:Ab)(l:Int)(t:List Int)(vs:List (Int×Aj))(b:Int)(hb:B6 b f.Blocks.length)(u:List A6):Ec b f l t vs u=some (⟨b,Ku f b⟩,f,l,t,u):=by
 unfold Ec;rw[Ad hb];rfl
section
variable {f:Ab} (hf:OkF f) (l:Int) (t:List Int) (vs:List (Int×Aj))
include hf
theorem iP(i k:Nat)(hi:i<f.Blocks.length)(hk:k<(f.Blocks.getD i default).Phis.length)(hfit:((f.Blocks.getD i default).Phis.getD k default).Args.length<=((f.Blocks.getD i default).Phis.getD k default).From.length)
  (hin:∀ x∈((f.Blocks.getD i default).Phis.getD k default).From,B6 x f.Blocks.length) (u:List A6) (hB:(u++(Kx ((f.Blocks.getD i default).Phis.getD k default)).map (Dt f)).length<=10000000) :
  Ai (C3 f vs (i:Int) (k:Int)) ((0:Int),f.Params,f.Ret,f.Blocks,l,t,u)=some (f.Params,f.Ret,f.Blocks,l,t,u++(Kx ((f.Blocks.getD i default).Phis.getD k default)).map (Dt f)):=by
 have hlen:=cC hf (getD_mem (d:=(default:Am)) hi) (getD_mem (d:=(default:Hc)) hk)
 generalize hp:(f.Blocks.getD i default).Phis.getD k default=p at *
 have e:=NM (Dt f) p.Args.length λ(j:Nat)=>(⟨p.Args.getD j 0,p.From.getD j 0,1000,(p.Bits,1)⟩:Mm)
 have:=Tv 10000000 (λj u=>(j,f.Params,f.Ret,f.Blocks,l,t,u)) (λu=>(f.Params,f.Ret,f.Blocks,l,t,u)) p.Args.length (λ(j:Nat)=>[Dt f ⟨p.Args.getD j 0,p.From.getD j 0,1000,(p.Bits,1)⟩]) (C3 f vs (i:Int) (k:Int)) (λacc j hj hacc=>by
  unfold C3 C9
  have hd:decide ((j:Int)<(p.Args.length:Int))=true:=by simpa using hj
  have hjf:j<p.From.length:=by omega
  simp only[Dg,hp,hd,Ae,Aq (Bb hj),As,Aq (Bb hjf)];rw[show(⟨f.Params,f.Ret,f.Blocks⟩:Ab)=f from rfl,au f l t vs _ (hin _ (getD_mem hjf)),As];simp only;have eu:Dt f ⟨p.Args.getD j 0,p.From.getD j 0,1000,(p.Bits,1)⟩=⟨p.Args.getD j 0,(p.Bits,1),⟨p.From.getD j 0,Ku f (p.From.getD j 0)⟩⟩:=rfl;rw[eu]at hacc ⊢
  rw[UB f l t vs _ _ _ acc hacc,As,Da hj (by omega)]) (λacc=>by unfold C3;simp only[Dg,hp,show decide ((p.Args.length:Int)<(p.Args.length:Int))=false by simp,Ay]) p.Args.length 0 u (by omega) (by rw[e];exact hB)
 rw[e]at this;exact this
theorem eJ(i:Nat)(hi:i<f.Blocks.length)(hfit:∀ p∈(f.Blocks.getD i default).Phis,p.Args.length<=p.From.length/\∀ x∈p.From,B6 x f.Blocks.length)(u:List A6)(hB:(u++(Qw (f.Blocks.getD i default)).map (Dt f)).length<=10000000) :
  Ai (C4 f vs (i:Int)) ((0:Int),f.Params,f.Ret,f.Blocks,l,t,u)=some (f.Params,f.Ret,f.Blocks,l,t,u++(Qw (f.Blocks.getD i default)).map (Dt f)):=by
 have hBk:=hf.block _ (getD_mem (d:=(default:Am)) hi);have e:=CZ (Dt f) (f.Blocks.getD i default).Phis.length λ(k:Nat)=>Kx ((f.Blocks.getD i default).Phis.getD k default)
 have:=Tv 10000000 (λj u=>(j,f.Params,f.Ret,f.Blocks,l,t,u)) (λu=>(f.Params,f.Ret,f.Blocks,l,t,u)) (f.Blocks.getD i default).Phis.length (λ(k:Nat)=>(Kx ((f.Blocks.getD i default).Phis.getD k default)).map (Dt f)) (C4 f vs (i:Int)) (λacc k hk hacc=>by
  have hq:=hfit _ (getD_mem (d:=(default:Hc)) hk);have h1:=iP hf l t vs i k hi hk hq.1 hq.2 acc hacc;unfold C4
  have hd:decide ((k:Int)<((f.Blocks.getD i default).Phis.length:Int))=true:=by simpa using hk
  simp only[Dg,hd,Ae,Aq (Bb hk),h1,As,Da hk (by have:=hBk.phis;omega)]) (λacc=>by unfold C4;simp) (f.Blocks.getD i default).Phis.length 0 u (by omega) (by rw[e];exact hB)
 rw[e]at this;exact this
theorem j4(i k:Nat)(hi:i<f.Blocks.length)(hk:k<(f.Blocks.getD i default).Ops.length)(u:List A6)(hB:(u++(Mx ((f.Blocks.getD i default).Ops.getD k default) i k).map (Dt f)).length<=10000000) :
  Ai (C5 f vs (i:Int) (k:Int) (F0 ((f.Blocks.getD i default).Ops.getD k default))) ((0:Int),f.Params,f.Ret,f.Blocks,l,t,u)=some (f.Params,f.Ret,f.Blocks,l,t,u++(Mx ((f.Blocks.getD i default).Ops.getD k default) i k).map (Dt f)):=by
 have hBk:=hf.block _ (getD_mem (d:=(default:Am)) hi);have hlen:=EL (gj hf (getD_mem (d:=(default:Am)) hi) (getD_mem (d:=(default:Ds)) hk));have hk512:=hBk.ops
 generalize hp:(f.Blocks.getD i default).Ops.getD k default=o at *
 have e:=NM (Dt f) (F0 o).length λ(j:Nat)=>(⟨o.Args.getD j 0,i,k,(F0 o).getD j (0,0)⟩:Mm)
 have:=Tv 10000000 (λj u=>(j,f.Params,f.Ret,f.Blocks,l,t,u)) (λu=>(f.Params,f.Ret,f.Blocks,l,t,u)) (F0 o).length (λ(j:Nat)=>[Dt f ⟨o.Args.getD j 0,i,k,(F0 o).getD j (0,0)⟩]) (C5 f vs (i:Int) (k:Int) (F0 o)) (λacc j hj hacc=>by
  have hkk:((k:Int)==1000)=false:=by simp;omega
  have eu:Dt f ⟨o.Args.getD j 0,i,k,(F0 o).getD j (0,0)⟩=⟨o.Args.getD j 0,(F0 o).getD j (0,0),⟨(i:Int),(k:Int)⟩⟩:=by unfold Dt;simp only[hkk,Ay]
  rw[eu]at hacc ⊢;unfold C5
  have hd:decide ((j:Int)<((F0 o).length:Int))=true:=by simpa using hj
  have hja:j<o.Args.length:=by omega
  simp only[Dg,hp,hd,Ae,Aq (Bb hj),Aq (Bb hja)]
  rw[show(⟨f.Params,f.Ret,f.Blocks⟩:Ab)=f from rfl,UB f l t vs _ _ _ acc hacc,As,Da hj (by omega)]) (λacc=>by unfold C5;simp) (F0 o).length 0 u (by omega) (by rw[e];exact hB)
 rw[e]at this;exact this
theorem iO(i:Nat)(hi:i<f.Blocks.length)(u:List A6)(hB:(u++(Ys (f.Blocks.getD i default) i).map (Dt f)).length<=10000000) :
  Ai (C6 f vs (i:Int)) ((0:Int),f.Params,f.Ret,f.Blocks,l,t,u)=some (f.Params,f.Ret,f.Blocks,l,t,u++(Ys (f.Blocks.getD i default) i).map (Dt f)):=by
 have hmem:=getD_mem (d:=(default:Am)) hi;have hBk:=hf.block _ hmem;have e:=CZ (Dt f) (f.Blocks.getD i default).Ops.length λ(k:Nat)=>Mx ((f.Blocks.getD i default).Ops.getD k default) i k
 have:=Tv 10000000 (λj u=>(j,f.Params,f.Ret,f.Blocks,l,t,u)) (λu=>(f.Params,f.Ret,f.Blocks,l,t,u)) (f.Blocks.getD i default).Ops.length (λ(k:Nat)=>(Mx ((f.Blocks.getD i default).Ops.getD k default) i k).map (Dt f)) (C6 f vs (i:Int)) (λacc k hk hacc=>by
  have h1:=j4 hf l t vs i k hi hk acc hacc;have ht:Km ((f.Blocks.getD i default).Ops.getD k default)=some (F0 ((f.Blocks.getD i default).Ops.getD k default)):=RS _ (iu hf hmem (getD_mem hk));unfold C6
  have hd:decide ((k:Int)<((f.Blocks.getD i default).Ops.length:Int))=true:=by simpa using hk
  simp only[Dg,hd,Ae,Aq (Bb hk),ht,h1,As,Da hk (by have:=hBk.ops;omega)]) (λacc=>by unfold C6;simp) (f.Blocks.getD i default).Ops.length 0 u (by omega) (by rw[e];exact hB)
 rw[e]at this;exact this
theorem WK (hfit : ∀ b ∈ f.Blocks, ∀ p ∈ b.Phis, p.Args.length ≤ p.From.length ∧ ∀ x ∈ p.From, B6 x f.Blocks.length) : Ey f l t vs [] = some (f, l, t, (Ee f).map (Dt f)) := by
  have e := CZ (Dt f) f.Blocks.length fun (i : Nat) => Zu f (f.Blocks.getD i default) i; have hul := IC hf
  have := Tv 10000000 (fun j u => (j, f.Params, f.Ret, f.Blocks, l, t, u)) (fun u => (f.Params, f.Ret, f.Blocks, l, t, u)) f.Blocks.length (fun (i : Nat) => (Zu f (f.Blocks.getD i default) i).map (Dt f)) (C7 f vs) (fun acc i hi hacc => by
    have hmem := getD_mem (d := (default : Am)) hi; unfold Zu at hacc ⊢; rw [Y0, Y0, ← Zx, ← Zx] at hacc ⊢; have l1 := hacc; simp only [E5, Pt] at l1; have h1 := eJ hf l t vs i hi (hfit _ hmem) acc (by simp only [E5, Pt]; omega); have h2 := iO hf l t vs i hi (acc ++ (Qw (f.Blocks.getD i default)).map (Dt f)) (by simp only [E5, Pt]; omega); have hinb : B6 (i : Int) f.Blocks.length := Bb hi; unfold C7 C9
    have hd : decide ((i : Int) < (f.Blocks.length : Int)) = true := by simpa using hi
    simp only [hd, Ae, Aq (Bb hi), h1, As, h2, Dg]; have hF : (⟨f.Params, f.Ret, f.Blocks⟩ : Ab) = f := rfl; have hw : Bh ((i : Int) + 1) = (i : Int) + 1 := Da hi (by have := hf.blocks; omega); unfold T6 at hacc ⊢
    cases hz : ((f.Blocks.getD i default).End.Kind == 0) with
    | true =>
      have hz2 : ((f.Blocks.getD i default).End.Kind == 2) = false := by have : (f.Blocks.getD i default).End.Kind = 0 := by simpa using hz
                                                                         rw [this]; rfl
      rw [hz, hz2] at hacc; simp only [Ae, Ay, hz2, List.append_nil, Bq, Cb] at hacc ⊢; rw [hF, au f l t vs _ hinb, As]; simp only; rw [UB f l t vs _ _ _ _ (show (_ ++ [(⟨_, _, ⟨(i : Int), Ku f (i : Int)⟩⟩ : A6)]).length ≤ 10000000 from hacc), As, As, hw]
      rfl
    | false =>
      rw [hz] at hacc
      cases hz2 : ((f.Blocks.getD i default).End.Kind == 2) with
      | true =>
        rw [hz2] at hacc; simp only [Ae, Ay, Tb, Bq, Cb] at hacc ⊢; rw [hF, au f l t vs _ hinb, As]; simp only; rw [UB f l t vs _ _ _ _ (show (_ ++ [(⟨_, _, ⟨(i : Int), Ku f (i : Int)⟩⟩ : A6)]).length ≤ 10000000 from hacc), As, As, hw]
        rfl
      | false =>
        simp only [Ay, Tb, Cb, List.append_nil, As, hw]) (fun acc => by unfold C7; simp) f.Blocks.length 0 [] (by omega) (by rw [e]; simpa [Ee] using (by omega : (Ee f).length ≤ 10000000))
  rw [e, Tb] at this; unfold Ey; rw [show (0 : Int) = ((0 : Nat) : Int) from rfl]
  show ((Ai (C7 f vs) (((0 : Nat) : Int), f.Params, f.Ret, f.Blocks, l, t, [])).bind _) = _
  rw [this, As]
  rfl
end
theorem d7{σ X:Type}(mk:Int->σ)(U:List A6)(p:A6->Bool)(f:σ->Option (LR σ X))(yes no:X)(hk:∀ i:Nat,i<U.length->f (mk i)=some (bif p (U.getD i default) then .next (mk ((i:Int)+1)) else .done no))(he:f (mk U.length)=some (.done yes)) :
  ∀ k i:Nat,i+k=U.length->Ai f (mk i)=some (bif (U.drop i).all p then yes else no)
 | 0,i,h=>by
  obtain rfl:i=U.length:=by omega
  rw[Ag he]
  simp
 | k+1,i,h=>by
  have hi:i<U.length:=by omega
  have hdr:U.drop i=U.getD i default::U.drop (i+1):=by rw[Mj hi,Aa _ _ _ hi]
  have hx:=hk i hi;rw[hdr,Rm]
  cases hp:p (U.getD i default) with
  | true=>
   rw[hp]at hx;rw[An hx,show((i:Int)+1)=((i+1:Nat):Int) by omega,d7 mk U p f yes no hk he k (i+1) (by omega),G0]
  | false=>
   rw[hp]at hx;rw[Ag hx]
   rfl
theorem CK(d:TDef)(l:List TDef)(v:Int):H9 (d::l) v=bif d.V==v then 0 else bif decide (H9 l v<0) then -1 else H9 l v+1:=by
 unfold H9;rw[List.findIdx?_cons]
 cases d.V==v with
 | true=>rfl
 | false=>
  cases l.findIdx? (λd=>d.V==v) with
  | none=>rfl
  | some i=>
   simp only[Ay,Vu];rw[Fc (by omega)]
   simp
theorem DB(v:Int):∀ l:List TDef,Bv (dv l) v = !decide (H9 l v<0)
 | []=>rfl
 | d::l=>by
  rw[CK]
  show((v==d.V) || Bv (dv l) v)=_
  rw[DB v l,show(v==d.V)=(d.V==v) by rw[L4];simp;exact Np]
  cases d.V==v with
  | true=>rfl
  | false=>
   by_cases h:H9 l v<0
   ·simp[h]
   ·simp[h];omega
theorem Vj(v:Int):∀ l:List TDef,¬ H9 l v<0->mget (default:Aj) (dv l) v=AO (defOf l v)
 | [],h=>absurd (show(-1:Int)<0 by decide) h
 | d::l,h=>by
  unfold defOf;rw[CK]at h ⊢
  show(bif v==d.V then AO d else mget default (dv l) v)=_
  rw[show(v==d.V)=(d.V==v) by rw[L4];simp;exact Np]
  cases hb:d.V==v with
  | true=>rfl
  | false=>
   rw[hb]at h
   by_cases hn:H9 l v<0
   ·simp[hn]at h
   ·have hz:decide (H9 l v<0)=false:=Fc hn;simp only[Ay,hz];rw[Vj v l hn,show(H9 l v+1).toNat=(H9 l v).toNat+1 by omega]
    rfl
def YW(f:Ab)(d:TDef):Prop:=d.Block = -1\/(B6 d.Block f.Blocks.length/\d.At<Ku f d.Block/\d.At<1000)
def f9(f:Ab)(u:Mm):Prop:=B6 u.Block f.Blocks.length/\0<=u.At
theorem eT{f:Ab}(hf:OkF f):∀ d∈Au f,YW f d:=λd hd=>by
 rcases zzL11.1 hd with h|h
 ·obtain⟨i,_,hi⟩:=zzL65.1 h;rw[zzL15.1 hi];exact .inl rfl
 ·obtain⟨i,hi,h⟩:=zzL65.1 h
  have hi:i<f.Blocks.length:=by simpa using hi
  have hB:=hf.block _ (getD_mem (d:=(default:Am)) hi);have ho:Ku f (i:Int)=((f.Blocks.getD i default).Ops.length:Int):=rfl;rcases zzL11.1 h with h|h
  ·obtain⟨k,hk,h⟩:=zzL65.1 h;rw[zzL15.1 h];refine .inr ⟨Bb hi,?_,?_⟩
   ·show(-1:Int)<Ku f (i:Int);rw[ho];omega
   ·show(-1:Int)<1000;omega
  ·obtain⟨k,hk,h⟩:=zzL65.1 h
   have hk:k<(f.Blocks.getD i default).Ops.length:=by simpa using hk
   cases hg:decide (0<(H1 ((f.Blocks.getD i default).Ops.getD k default)).1) with
   | false=>rw[hg]at h;cases h
   | true=>
    rw[hg]at h;rw[zzL15.1 h];refine .inr ⟨Bb hi,?_,?_⟩
    ·show(k:Int)<Ku f (i:Int);rw[ho];omega
    ·show(k:Int)<1000;have:=hB.ops;omega
theorem fl{f:Ab}(hfit:∀ b∈f.Blocks,∀ p∈b.Phis,p.Args.length<=p.From.length/\∀ x∈p.From,B6 x f.Blocks.length):∀ u∈Ee f,f9 f u:=λu hu=>by
 obtain⟨i,hi,h⟩:=zzL65.1 hu
 have hi:i<f.Blocks.length:=by simpa using hi
 have hmem:=getD_mem (d:=(default:Am)) hi;rcases zzL11.1 h with h|h
 ·rcases zzL11.1 h with h|h
  ·obtain⟨k,hk,h⟩:=zzL65.1 h
   have hk:k<(f.Blocks.getD i default).Phis.length:=by simpa using hk
   obtain⟨j,hj,h⟩:=zzL65.1 h;have hj:=zzL43.1 hj;have hq:=hfit _ hmem _ (getD_mem (d:=(default:Hc)) hk);rw[zzL15.1 h];exact⟨hq.2 _ (getD_mem (by omega)),by show(0:Int)<=1000;omega⟩
  ·obtain⟨k,hk,h⟩:=zzL65.1 h;obtain⟨j,hj,h⟩:=zzL65.1 h;rw[zzL15.1 h];exact⟨Bb hi,by show(0:Int)<=(k:Int);omega⟩
 ·unfold T6 at h
  have:u=⟨(f.Blocks.getD i default).End.Arg,i,1000,(f.Ret,1)⟩\/u=⟨(f.Blocks.getD i default).End.Arg,i,1000,(1,1)⟩:=by
   rcases zzL11.1 h with h|h
   ·cases hz:((f.Blocks.getD i default).End.Kind==0) with
    | true=>rw[hz]at h;exact .inl (zzL15.1 h)
    | false=>rw[hz]at h;cases h
   ·cases hz:((f.Blocks.getD i default).End.Kind==2) with
    | true=>rw[hz]at h;exact .inr (zzL15.1 h)
    | false=>rw[hz]at h;cases h
  rcases this with rfl|rfl<;>exact⟨Bb hi,by show(0:Int)<=1000;omega⟩
theorem iZ{f:Ab}(h:F6 f=true):∀ b∈f.Blocks,∀ p∈b.Phis,p.Args.length<=p.From.length/\∀ x∈p.From,B6 x f.Blocks.length:=λb hb p hp=>by
 have hs:Nk f=true:=by simp only[F6,A2]at h;exact h.1
 refine⟨YA h b hb p hp,λx hx=>?_⟩;obtain⟨i,hi,rfl⟩:=K6 hb;simp only[F6,A2]at h;have h1:=ZT h.2 i hi;simp only[P2,A2,zzL27]at h1;rw[Aa _ _ _ hi]at h1;have h2:=h1.2 p hp;simp only[G8,A2,Dr]at h2;rw[h2.1]at hx;obtain⟨q,rfl,hq,_⟩:=(W1 (L:=Ej f) (Sv hs) (y:=i) (by rw[W7];exact hi)).1 hx;exact Bb (by rw[W7]at hq;exact hq)
theorem SE{f:Ab}(h:F6 f=true){b:Int}(hb:B6 b f.Blocks.length):Nf (Bx f) 0 b=true:=by
 have hs:Nk f=true:=by simp only[F6,A2]at h;exact h.1
 have hm:=Sv hs;have hlen:=W7 f
 have hpos:0<(Ej f).length:=by have:=(shape_iff.1 hs).1.1;omega
 obtain⟨P,hP,o,ht⟩:=YC hm hpos
 have e:Bx f=Xb (Ej f) 0:=by
  unfold Bx PF;rw[if_pos ⟨NN hm,Int.le_refl _,by show(0:Int)<((Ej f).length:Int);omega⟩]
  rfl
 obtain⟨k,rfl⟩:∃ k:Nat,b=(k:Int):=⟨b.toNat,(Uz hb.1).symm⟩
 have hk:k<f.Blocks.length:=by have:=hb.2;omega
 simp only[F6,A2]at h;have h1:=ZT h.2 k hk;simp only[P2,A2]at h1;have hr:Rch (sN (Ej f)) 0 k:=(W4 (Uu hm) hpos k).1 h1.1.1;rw[e];refine(ht.over_dom o hpos (by omega)).2 ⟨rc_iff.2 hr,λha=>?_⟩;exact(av_iff.1 ha).1 rfl
theorem R7{l:List Mm}{g:Mm->A6}{p:A6->Bool}{q:Mm->Bool}(h:∀ u∈l,p (g u)=q u):(l.map g).all p=l.all q:=by
 induction l with
 | nil=>rfl
 | cons a l ih=>rw[Bq,Rm,Rm,h a (by simp),ih λu hu=>h u (by simp[hu])]
def eV(vs:List (Int×Aj))(u:A6):Bool:=((mget (default:Aj) vs u.v).shape.1==u.shape.1)&&(((mget (default:Aj) vs u.v).shape.2==u.shape.2)&&true)
def Va(vs:List (Int×Aj))(t:List Int)(u:A6):Bool:=bif (mget (default:Aj) vs u.v).place.block==u.place.block then decide ((mget (default:Aj) vs u.v).place.at_<u.place.at_) else Nf t (mget (default:Aj) vs u.v).place.block u.place.block
theorem ZS{f:Ab}(hs:F6 f=true){D:List TDef}(hD:∀ d∈D,YW f d){u:Mm}(hu:f9 f u)(hfd:Kt D u=true):Va (dv D) (Bx f) (Dt f u)=Up D (Bx f) u:=by
 have hF:¬ H9 D u.V<0:=by simpa [Kt] using hfd
 have hin:=MT hF;have hd:YW f (defOf D u.V):=hD _ (by unfold defOf;exact getD_mem (by have:=hin.1;have:=hin.2;omega));have hg:mget (default:Aj) (dv D) (Dt f u).v=AO (defOf D u.V):=Vj u.V D hF;unfold Va Up;rw[hg]
 generalize defOf D u.V=d at *
 have hub:=hu.1.1
 have hul:0<=Ku f u.Block:=by unfold Ku;omega
 have hat:∀ a:Int,a<0\/(a<Ku f u.Block/\a<1000)->decide (a<(Dt f u).place.at_)=decide (a<u.At)\/a<0:=λa ha=>by
  rcases ha with ha|ha
  ·exact .inr ha
  ·refine .inl ?_
   show decide (a<bif u.At==1000 then Ku f u.Block else u.At)=_
   by_cases h:u.At=1000
   ·rw[h];simp only[show((1000:Int)==1000)=true from rfl,Ae];rw[Ek ha.1,Ek ha.2]
   ·have:(u.At==1000)=false:=by simpa using h
    rw[this];rfl
 have hpos:0<=(Dt f u).place.at_:=by
  show 0<=bif u.At==1000 then Ku f u.Block else u.At
  cases u.At==1000
  ·exact hu.2
  ·exact hul
 have hblk:(Dt f u).place.block=u.Block:=rfl;rw[hblk];rcases hd with hd|⟨hd1,hd2,hd3⟩
 ·have e:(AO d).place=⟨0,-1⟩:=by show d9 d=_;unfold d9;rw[hd];rfl
  rw[e,hd,Ek (show(-1:Int)<0 by decide)]
  show(bif (0:Int)==u.Block then decide ((-1:Int)<(Dt f u).place.at_) else Nf (Bx f) 0 u.Block)=_
  rw[Bool.true_or,Bool.true_or,SE hs hu.1,Ek (show(-1:Int)<(Dt f u).place.at_ by omega)]
  cases(0:Int)==u.Block<;>rfl
 ·have hn:¬ d.Block<0:=by have:=hd1.1;omega
  have e:(AO d).place=⟨d.Block,d.At⟩:=by show d9 d=_;unfold d9;rw[Fc hn];rfl
  rw[e,Fc hn,EW]
  show(bif d.Block==u.Block then decide (d.At<(Dt f u).place.at_) else Nf (Bx f) d.Block u.Block)=_
  cases hb:d.Block==u.Block with
  | true=>
   have hbe:d.Block=u.Block:=by simpa using hb
   simp only[Ae,G0,Fd,Xl,Bool.or_false];rcases hat d.At (.inr ⟨by rw[<- hbe];exact hd2,hd3⟩) with h|h
   ·exact h
   ·rw[Ek (by omega),Ek (by have:=hu.2;omega)]
  | false=>
   simp only[Ay,Xl,EW,L5,G0];unfold Nf
   by_cases hm:Lw (Bx f) d.Block u.Block=d.Block
   ·rw[hm]
    have:(d.Block !=-2)=true:=by simp;omega
    simp[this]
   ·have:(Lw (Bx f) d.Block u.Block==d.Block)=false:=by simpa using hm
    simp[this,bne]
section
variable {f:Ab} (l:Int) (vs:List (Int×Aj))
def YS(f:Ab)(l:Int)(U:List A6)(i:Int):Int×List Int×Int×List Am×Int×List Int×List A6:=(i,f.Params,f.Ret,f.Blocks,l,Bx f,U)
def LN(f:Ab)(l:Int)(U:List A6):List Int×Int×List Am×Int×List Int×List A6:=(f.Params,f.Ret,f.Blocks,l,Bx f,U)
theorem eL(U:List A6)(hU:U.length<9223372036854775808):Ai (Cy vs (f,l,Bx f,U)) (YS f l U 0)=some (bif U.all (λu=>Bv vs u.v) then .inl (LN f l U) else .inr (LN f l U)):=by
 have:=d7 (YS f l U) U (λu=>Bv vs u.v) (Cy vs (f,l,Bx f,U)) (.inl (LN f l U)) (.inr (LN f l U)) (λi hi=>by
  unfold Cy YS G6
  have hd:decide ((i:Int)<(U.length:Int))=true:=by simpa using hi
  simp only[hd,Ae,Aq (Bb hi),Dg,As,Da hi hU]
  cases Bv vs (U.getD i default).v<;>rfl) (by unfold Cy YS;simp;rfl) U.length 0 (by omega)
 rw[Ky]at this;exact this
theorem eM(U:List A6)(hU:U.length<9223372036854775808):Ai (Cz vs U) (YS f l U 0)=some (bif U.all (eV vs) then .inl (LN f l U) else .inr (LN f l U)):=by
 have:=d7 (YS f l U) U (eV vs) (Cz vs U) (.inl (LN f l U)) (.inr (LN f l U)) (λi hi=>by
  unfold Cz YS Ib
  have hd:decide ((i:Int)<(U.length:Int))=true:=by simpa using hi
  simp only[hd,Ae,Aq (Bb hi),Dg,As,Da hi hU];unfold eV
  cases(((mget (default:Aj) vs (U.getD i default).v).shape.1==(U.getD i default).shape.1)&&(((mget (default:Aj) vs (U.getD i default).v).shape.2==(U.getD i default).shape.2)&&true))<;>rfl) (by unfold Cz YS;simp;rfl) U.length 0 (by omega)
 rw[Ky]at this;exact this
theorem eO(htl:(Bx f).length<=1000)(U:List A6)(hU:U.length<9223372036854775808):Ai (C0 vs U) (YS f l U 0)=some (bif U.all (Va vs (Bx f)) then .inl (LN f l U) else .inr (LN f l U)):=by
 have:=d7 (YS f l U) U (Va vs (Bx f)) (C0 vs U) (.inl (LN f l U)) (.inr (LN f l U)) (λi hi=>by
  have hx:E0 (U.getD i default) f l (Bx f) vs U=some (Va vs (Bx f) (U.getD i default),f,l,Bx f,U):=by
   unfold E0 Va;rw[ie htl]
   cases(mget (default:Aj) vs (U.getD i default).v).place.block==(U.getD i default).place.block<;>rfl
  unfold C0 YS
  have hd:decide ((i:Int)<(U.length:Int))=true:=by simpa using hi
  simp only[hd,Ae,Aq (Bb hi),Dg];rw[show(⟨f.Params,f.Ret,f.Blocks⟩:Ab)=f from rfl,hx,As,Da hi hU]
  cases Va vs (Bx f) (U.getD i default)<;>rfl) (by unfold C0 YS;simp;rfl) U.length 0 (by omega)
 rw[Ky]at this;exact this
end
def EO(f:Ab):Int:=bif !(Ee f).all (Kt (Au f)) then 7 else bif !(Ee f).all (Ws (Au f)) then 6 else bif !(Ee f).all (Up (Au f) (Bx f)) then 7 else 0
theorem iV{f:Ab}(hf:OkF f)(hs:F6 f=true)(l:Int):∃ U,Gj f l (Bx f) (dv (Au f)) []=some (EO f,f,l,Bx f,U):=by
 have hfit:=iZ hs;have hul:=IC hf
 have hsB:Nk f=true:=by simp only[F6,A2]at hs;exact hs.1
 refine⟨(Ee f).map (Dt f),?_⟩
 have hU:((Ee f).map (Dt f)).length<9223372036854775808:=by rw[Pt];omega
 have h1:=eL (f:=f) l (dv (Au f)) _ hU;have h2:=eM (f:=f) l (dv (Au f)) _ hU;have h3:=eO (f:=f) l (dv (Au f)) (cl hsB) _ hU;rw[R7 (q:=Kt (Au f)) (λu _=>DB u.V _)]at h1;unfold Gj EO O5;rw[WK hf l (Bx f) (dv (Au f)) hfit,As];simp only;rw[show(Ai (Cy (dv (Au f)) (f,l,Bx f,(Ee f).map (Dt f))) ((0:Int),f.Params,f.Ret,f.Blocks,l,Bx f,(Ee f).map (Dt f)))=_ from h1,As];have fin:∀ e:Int,Ai J0 (e,f.Params,f.Ret,f.Blocks,l,Bx f,(Ee f).map (Dt f))=some (e,f,l,Bx f,(Ee f).map (Dt f)):=λe=>Ag rfl
 cases hfd:(Ee f).all (Kt (Au f)) with
 | false=>simp only[Ay,L5,Ae,LN,As,fin]
 | true=>
  have hmf:=zzL27.1 hfd
  rw[R7 (q:=Ws (Au f)) (λu hu=>by
   have:=hmf u hu;simp only[Kt,Om,IH]at this;have hg:mget (default:Aj) (dv (Au f)) (Dt f u).v=AO (defOf (Au f) u.V):=Vj u.V _ this;unfold eV Ws
   rw[hg];rfl)]at h2
  rw[R7 (q:=Up (Au f) (Bx f)) (λu hu=>ZS hs (eT hf) (fl hfit u hu) (hmf u hu))]at h3;simp only[Ae,Fd,Ay,LN];rw[show(Ai (Cz (dv (Au f)) ((Ee f).map (Dt f))) ((0:Int),f.Params,f.Ret,f.Blocks,l,Bx f,(Ee f).map (Dt f)))=_ from h2,As]
  cases(Ee f).all (Ws (Au f)) with
  | false=>simp only[Ay,L5,Ae,LN,As,fin]
  | true=>
   simp only[Ae,Fd,Ay,LN];rw[show(Ai (C0 (dv (Au f)) ((Ee f).map (Dt f))) ((0:Int),f.Params,f.Ret,f.Blocks,l,Bx f,(Ee f).map (Dt f)))=_ from h3,As]
   cases(Ee f).all (Up (Au f) (Bx f)) with
   | false=>simp only[Ay,L5,Ae,LN,As,fin]
   | true=>simp only[Ae,Fd,Ay,LN,As]
theorem eP{f:Ab}(h:Sm f)(l:Int)(h0:0<=l)(h2:l<=2):∃ t u vs,F3 f l [] []=some (Gv f l,f,l,t,u,vs)/\(Gv f l=0->vs=dv (Au f)):=by
 have hc:Gv f l=bif !Ub f then 4 else KZ f l:=by
  unfold Gv;rw[Fc (by omega),Fc (by omega)];rfl
 rw[hc];unfold F3;rw[iU f h.1,As]
 cases hm:Ub f with
 | false=>exact⟨[],[],[],rfl,λh=>by cases h⟩
 | true=>
  have hf:=kY h hm;simp only[Ae,Fd,Ay,show((0:Int)!=0)=false from rfl,KZ];obtain⟨t',hsh,hst⟩:=ay hf l [] [];rw[hsh,As]
  cases hs:F6 f with
  | false=>exact⟨t',[],[],rfl,λh=>by cases h⟩
  | true=>
   obtain rfl:=hst hs;simp only[Ae,Fd,Ay,show((0:Int)!=0)=false from rfl];rw[eK hf l h0 h2,As]
   cases S4 f l with
   | false=>exact⟨Bx f,[],[],rfl,λh=>by cases h⟩
   | true=>
    simp only[Ae,Fd,Ay,show((0:Int)!=0)=false from rfl];obtain⟨vs,hd,hv⟩:=WM hf l (Bx f) [];rw[hd,As]
    cases hdd:(List.range (Au f).length).all (Ks (Au f)) with
    | false=>exact⟨Bx f,[],vs,rfl,λh=>by cases h⟩
    | true=>
     obtain rfl:=hv hdd;simp only[Ae,Fd,Ay,show((0:Int)!=0)=false from rfl];obtain⟨U,hu⟩:=iV hf hs l;rw[hu,As];refine⟨Bx f,U,dv (Au f),?_,λ_=>rfl⟩
     show(bif EO f !=0 then some (EO f,f,l,Bx f,U,dv (Au f)) else some (0,f,l,Bx f,U,dv (Au f)))=some (EO f,f,l,Bx f,U,dv (Au f))
     cases hz:EO f !=0 with
     | true=>rfl
     | false=>
      have:EO f=0:=by simpa using hz
      rw[this];rfl
def lone(e:Jb)(b r:Int):Ab:=⟨[b],r,[⟨[],[],e⟩]⟩
theorem nB{α:Type}(l:List α):(l.map λ_=>1).sum=l.length:=by induction l with|nil=>rfl|cons a l ih=>simp[ih];omega
def ff(l:List TDef):List (Int×(Int×Int)):=l.map λd=>(d.V,d.Shape)
theorem Ve{f:Ab}(h:(List.range (Au f).length).all (Ks (Au f))=true):((Au f).map (·.V)).Nodup:=by
 rw[List.nodup_iff_pairwise_ne,List.pairwise_map,zzL99];intro i j hi hj hij he;have:=((Ty hj).1 (ZT h j hj)).2 i hij;rw[Aa _ _ _ hi,Aa _ _ _ hj]at this;exact this he
theorem EH{x1:Int×Ab×Int×List Int×List A6×List (Int×Aj)}(D:List TDef)(hx:x1.2.2.2.2.2=dv D)(hn:(D.map (·.V)).Nodup):∀(τ:List Nat) (acc:List (Int×(Int×Int))),τ.Nodup->(∀ i∈τ,i<D.length)->(∀ i∈τ,Bv acc (D.getD i default).V=false)->
  Sw (Gh x1) H3 τ acc=some (acc++τ.map λi=>((D.getD i default).V,(D.getD i default).Shape))
 | [],acc,_,_,_=>by simp[Sw,H3]
 | i::τ,acc,hd,hin,hf=>by
  have hi:=hin i (by simp)
  have hg:(dv D).getD i ((0:Int),(default:Aj))=((D.getD i default).V,AO (D.getD i default)):=by
   unfold dv;simp[List.getD,hi]
  have hm:=Tw (D.getD i default).V (D.getD i default).Shape (hf i (by simp))
  have hstep:Gh x1 i acc=some (.next (acc++[((D.getD i default).V,(D.getD i default).Shape)])):=by
   unfold Gh;rw[hx,hg]
   show some (LR.next (Ei acc (D.getD i default).V ((D.getD i default).Shape.1,(D.getD i default).Shape.2)))=_
   rw[show((D.getD i default).Shape.1,(D.getD i default).Shape.2)=(D.getD i default).Shape from rfl,hm]
  unfold Sw;rw[hstep]
  show Sw _ _ τ _=_
  rw[EH D hx hn τ _ (zzL73.1 hd).2 (λj hj=>hin j (by simp[hj])) (λj hj=>?_),Bq,Zx]
  ·rfl
  ·have h1:=hf j (by simp[hj]);rw[Sh]at h1 ⊢;rw[List.any_append,h1,EW];have hj':=hin j (by simp[hj]);have hne:j≠i:=λe=>(zzL73.1 hd).1 (e▸hj)
   have:(D.getD j default).V≠(D.getD i default).V:=λe=>by
    rw[List.nodup_iff_pairwise_ne,List.pairwise_map,zzL99]at hn;rw[Aa _ _ _ hi,Aa _ _ _ hj']at e;rcases Nat.lt_or_gt_of_ne hne with h|h
    ·exact hn j i hj' hi h e
    ·exact hn i j hi hj' h e.symm
   simpa using this
theorem MI(f:Ab)(h:Sm f):∃ s,Kh f=some s/\ZH f s:=by
 obtain⟨t,u,vs,hw,hv⟩:=eP h 2 (by omega) (by omega);unfold Kh;rw[hw,As]
 cases hc:(Gv f 2 !=0) with
 | true=>
  have hne:Gv f 2≠0:=by simpa using hc
  exact⟨[],rfl,λ_=>rfl,λe=>absurd e hne,λe=>absurd e hne,λe=>absurd e hne⟩
 | false=>
  have h0:Gv f 2=0:=by simpa using hc
  obtain rfl:=hv h0;have hz:=(Vc (f:=f) (l:=2) (by omega) (by omega)).1 h0
  have hall:(List.range (Au f).length).all (Ks (Au f))=true:=by
   have:=hz.2.2.2;unfold HT at this
   cases hb:(List.range (Au f).length).all (Ks (Au f)) with
   | true=>rfl
   | false=>rw[hb]at this;cases this
  have hn:=Ve hall
  have hlen:(mapE (λ(v_:Aj)=>((.agg (P5 v_)):AV)) (dv (Au f))).length=(Au f).length:=by simp[mapE,dv]
  have hkeys:((ff (Au f)).map (·.1)).Nodup:=by
   have:(ff (Au f)).map (·.1)=(Au f).map (·.V):=by unfold ff;rw[List.map_map];rfl
   rw[this];exact hn
  have hrun:∀ τ:List Nat,τ.Perm (List.range (mapE (λ(v_:Aj)=>((.agg (P5 v_)):AV)) (dv (Au f))).length)->∃ x',Sw (Gh (Gv f 2,f,2,t,u,dv (Au f))) H3 τ ([]:List (Int×(Int×Int)))=some x'/\HO x' (ff (Au f)):=λτ hτ=>by
   rw[hlen]at hτ;have hr:=EH (x1:=(Gv f 2,f,2,t,u,dv (Au f))) (Au f) rfl hn τ [] (hτ.nodup_iff.2 List.nodup_range) (λi hi=>zzL43.1 (hτ.mem_iff.1 hi)) (λ_ _=>rfl);refine⟨_,hr,?_,hkeys⟩;rw[Tb];have:=hτ.map λi=>(((Au f).getD i default).V,((Au f).getD i default).Shape);refine this.trans ?_
   have e:(List.range (Au f).length).map (λi=>(((Au f).getD i default).V,((Au f).getD i default).Shape))=ff (Au f):=by
    unfold ff
    apply Yy
    ·simp
    ·intro i h1 h2;simp only[Pt,Zy]at h1;simp only[List.getElem_map,List.getElem_range,Aa _ _ _ h1]
   rw[e]
  obtain⟨s,hs⟩:=XQ ⟨ff (Au f),hrun⟩
  have hp:s.Perm (ff (Au f))/\(s.map (·.1)).Nodup:=by
   have hsp:=Zo hs (List.range _) (List.Perm.refl _);obtain⟨x',h1,h2⟩:=hsp;obtain⟨x2,h3,h4⟩:=hrun (List.range _) (List.Perm.refl _);rw[h1]at h3;obtain rfl:=OI h3;exact⟨h2.1.symm.trans h4.1,h2.2⟩
  refine⟨s,?_,λhne=>absurd h0 hne,λ_=>?_,λ_ d hd=>?_,λ_ v hv=>?_⟩
  ·show(Vl HO _ _ _ _).bind _=_
   rw[hs];rfl
  ·rw[hp.1.length_eq];simp[ff]
  ·have hm:(d.V,d.Shape)∈s:=hp.1.mem_iff.2 (zzL24.2 ⟨d,hd,rfl⟩);exact DA hp.2 hm
  ·rw[Sh,List.any_eq_true]at hv;obtain⟨q,hq,he⟩:=hv;obtain⟨d,hd,rfl⟩:=zzL24.1 (hp.1.mem_iff.1 hq);exact⟨d,hd,by simpa using(by simpa using he:v=d.V).symm⟩
abbrev bA(f:Ab)(i:Nat):Am:=f.Blocks.getD i default
def mg(f:Ab)(i:Nat)(k:Nat):Int:=(bA f i).End.To.getD k 0
structure Rt(f:Ab):Prop where
 lo:1<=f.Blocks.length
 hi:f.Blocks.length<=64
 to:∀ i,i<f.Blocks.length->∀ k,k<(bA f i).End.To.length->0<mg f i k/\mg f i k<f.Blocks.length
 one:∀ i,i<f.Blocks.length->(bA f i).End.Kind=1->(bA f i).End.To.length=1
 two:∀ i,i<f.Blocks.length->(bA f i).End.Kind=2->(bA f i).End.To.length=2
 may:Lj (Ej f)=true
 ok:OkF f
set_option maxRecDepth 100000
def mo(f:Ab)(d:TDef)(b a:Int):Prop:=d.Block<0\/(d.Block=b/\d.At<a)\/(d.Block≠b/\Nf (Bx f) d.Block b=true)
theorem RI{l:List TDef}(hn:(l.map (·.V)).Nodup){d:TDef}(hd:d∈l):0<=H9 l d.V/\defOf l d.V=d:=by
 obtain⟨i,hi,rfl⟩:=K6 hd
 have hx:∃ k,l.findIdx? (λe=>e.V==l[i].V)=some k:=by
  cases h:l.findIdx? (λe=>e.V==l[i].V) with
  | some k=>exact⟨k,rfl⟩
  | none=>
   have:=List.findIdx?_eq_none_iff.1 h _ (Xi hi);simp at this
 obtain⟨k,hk⟩:=hx;obtain⟨hk1,hk2,_⟩:=List.findIdx?_eq_some_iff_getElem.1 hk
 have e:k=i:=by
  have h1:(l.map (·.V))[k]'(by simpa using hk1)=(l.map (·.V))[i]'(by simpa using hi):=by simpa using hk2
  exact(List.getElem_inj hn).1 h1
 subst e;unfold defOf H9;rw[hk];refine⟨by simp,?_⟩
 show l.getD ((k:Int)).toNat default=l[k]
 rw[A4,Aa _ _ _ hi]
structure lE(f:Ab)(l:Int):Prop where
 may:Ub f=true
 shape:F6 f=true
 typed:S4 f l=true
 rest:HT f=0
theorem fa{f:Ab}{l:Int}(hl:0<=l/\l<=2):Gv f l=0↔lE f l:=
 ⟨λh=>by obtain⟨a,b,c,d⟩:=(Vc hl.1 hl.2).1 h;exact⟨a,b,c,d⟩,λh=>(Vc hl.1 hl.2).2 ⟨h.1,h.2,h.3,h.4⟩⟩
section
variable {f:Ab} {l:Int} (R:lE f l)
include R
theorem cU{b:Am}(hb:b∈f.Blocks){o:Ds}(ho:o∈b.Ops):Mt l o=true:=by
 have h:=R.typed;simp only[S4,Hg,A2,zzL27]at h;exact(h.1.2 b hb).2 o ho
theorem gq{b:Am}(hb:b∈f.Blocks){o:Ds}(ho:o∈b.Ops):I8 o=true:=by
 have:=cU R hb ho;unfold Mt at this;simp only[A2]at this;exact this.1.1
theorem BJ:(List.range (Au f).length).all (Ks (Au f))=true/\(∀ u∈Ee f,Kt (Au f) u=true)/\(∀ u∈Ee f,Ws (Au f) u=true)/\∀ u∈Ee f,Up (Au f) (Bx f) u=true:=by
 have h:=R.rest;unfold HT at h
 cases h1:(List.range _).all _ with
 | false=>rw[h1]at h;cases h
 | true=>grind
theorem cT{d e:TDef}(hd:d∈Au f)(he:e∈Au f)(hv:d.V=e.V):d=e:=by
 have hn:=Ve (BJ R).1;have h1:=(RI hn hd).2;rw[hv,(RI hn he).2]at h1;exact h1.symm
theorem i0{d:TDef}(hd:d∈Au f):valS d.V=true:=by
 obtain⟨i,hi,rfl⟩:=K6 hd;have:=((Ty hi).1 (ZT (BJ R).1 i hi)).1;rw[Aa _ _ _ hi]at this;exact this
theorem iz{u:Mm}(hu:u∈Ee f):∃ d∈Au f,d.V=u.V/\d.Shape=u.Shape/\mo f d u.Block u.At:=by
 obtain⟨_,h2,h3,h4⟩:=BJ R;have hf:=h2 u hu;have hfit:=h3 u hu;have hdom:=h4 u hu;unfold Kt at hf
 have hneg:¬ H9 (Au f) u.V<0:=by simpa using hf
 have hin:=MT hneg;have hmem:defOf (Au f) u.V∈Au f:=getD_mem (by have:=hin.1;have:=hin.2;omega)
 have hV:(defOf (Au f) u.V).V=u.V:=by
  unfold defOf;unfold H9 at hneg ⊢
  cases hx:(Au f).findIdx? (λd=>d.V==u.V) with
  | none=>rw[hx]at hneg;exact absurd (by decide) hneg
  | some i=>
   obtain⟨hi,hp,_⟩:=List.findIdx?_eq_some_iff_getElem.1 hx
   show((Au f).getD ((i:Int)).toNat default).V=_
   rw[A4,Aa _ _ _ hi]
   simpa using hp
 refine⟨_,hmem,hV,?_,?_⟩
 ·unfold Ws at hfit;simp only[A2,zzL70]at hfit;exact Prod.ext hfit.1 hfit.2.1
 ·unfold Up at hdom;simp only[Xj,A2,Dr,zzL70,Om,zzL22]at hdom;rcases hdom with(h|h)|⟨h,h'⟩
  ·exact .inl h
  ·exact .inr (.inl h)
  ·by_cases hb:(defOf (Au f) u.V).Block<0
   ·exact .inl hb
   ·refine .inr (.inr ⟨h,?_⟩);rw[bne_eq_false_iff_eq]at h';unfold Nf;rw[h',A2];exact⟨by simp,by rw[zzL93];omega⟩
end
theorem ri_def{f:Ab}{d:TDef}:d∈Au f↔(∃ i,i<f.Params.length/\d=⟨(i:Int)+1,-1,0,(f.Params.getD i 0,1)⟩) \/
  ∃ i,i<f.Blocks.length/\((∃ k,k<(bA f i).Phis.length/\d=⟨((bA f i).Phis.getD k default).Dst,i,-1,(((bA f i).Phis.getD k default).Bits,1)⟩) \/
   ∃ k,k<(bA f i).Ops.length/\0<(H1 ((bA f i).Ops.getD k default)).1/\d=⟨((bA f i).Ops.getD k default).Dst,i,k,H1 ((bA f i).Ops.getD k default)⟩):=by
 unfold Au K3 Ls Tk CF;simp only[zzL11,zzL65,zzL43,zzL15]
 constructor
 ·rintro(h|⟨i,hi,⟨k,hk,h⟩|⟨k,hk,h⟩⟩)
  ·exact .inl h
  ·exact .inr ⟨i,hi,.inl ⟨k,hk,h⟩⟩
  ·refine .inr ⟨i,hi,.inr ⟨k,hk,?_⟩⟩
   cases hg:decide (0<(H1 ((f.Blocks.getD i default).Ops.getD k default)).1) with
   | true=>rw[hg]at h;exact⟨Xf hg,zzL15.1 h⟩
   | false=>rw[hg]at h;cases h
 ·rintro(h|⟨i,hi,⟨k,hk,h⟩|⟨k,hk,hg,h⟩⟩)
  ·exact .inl h
  ·exact .inr ⟨i,hi,.inl ⟨k,hk,h⟩⟩
  ·exact .inr ⟨i,hi,.inr ⟨k,hk,by rw[Ek hg];exact zzL15.2 h⟩⟩
theorem IA{o:Ds}(hm:I8 o=true):(F0 o).length=o.Args.length/\∀ j,j<o.Args.length->(F0 o).getD j (0,0)=GQ o j:=by
 obtain⟨_,_,_,_,hn,_,_⟩:=BD hm
 have ht:F0 o=Nm o:=by unfold F0;rw[hm];rfl
 have htl:(Nm o).length=o.Args.length:=by unfold Nm;rw[Pt,Zy];omega
 refine⟨by rw[ht,htl],λj hj=>?_⟩;rw[ht];unfold Nm;rw[Qc (by omega)]
theorem fb {f : Ab} (hk : ∀ b ∈ f.Blocks, ∀ o ∈ b.Ops, I8 o = true) {u : Mm} : u ∈ Ee f ↔ ∃ i, i < f.Blocks.length ∧
    ((∃ k j, k < (bA f i).Phis.length ∧ j < ((bA f i).Phis.getD k default).Args.length ∧ u = ⟨((bA f i).Phis.getD k default).Args.getD j 0, ((bA f i).Phis.getD k default).From.getD j 0, 1000, (((bA f i).Phis.getD k default).Bits, 1)⟩) ∨
     (∃ k j, k < (bA f i).Ops.length ∧ j < ((bA f i).Ops.getD k default).Args.length ∧ u = ⟨((bA f i).Ops.getD k default).Args.getD j 0, i, k, GQ ((bA f i).Ops.getD k default) j⟩) ∨
     ((bA f i).End.Kind = 0 ∧ u = ⟨(bA f i).End.Arg, i, 1000, (f.Ret, 1)⟩) ∨ ((bA f i).End.Kind = 2 ∧ u = ⟨(bA f i).End.Arg, i, 1000, (1, 1)⟩)) := by
  unfold Ee Zu Qw Kx Ys Mx T6; simp only [zzL11, zzL65, zzL43, zzL15]
  have hE : ∀ (k c : Int) (x : Mm), u ∈ (bif k == c then [x] else []) ↔ (k = c ∧ u = x) := fun k c x => by
    by_cases h : k = c
    · rw [zzL70.2 h]; simp [h]
    · rw [zzL22.2 h]; simp [h]
  simp only [hE]
  constructor
  · rintro ⟨i, hi, (⟨k, hk', j, hj, h⟩ | ⟨k, hk', j, hj, h⟩) | h⟩
    · exact ⟨i, hi, .inl ⟨k, j, hk', hj, h⟩⟩
    · obtain ⟨e1, e2⟩ := IA (hk _ (getD_mem (d := default) hi) _ (getD_mem (d := default) hk')); rw [e1] at hj; rw [e2 j hj] at h; exact ⟨i, hi, .inr (.inl ⟨k, j, hk', hj, h⟩)⟩
    · exact ⟨i, hi, .inr (.inr h)⟩
  · rintro ⟨i, hi, ⟨k, j, hk', hj, h⟩ | ⟨k, j, hk', hj, h⟩ | h⟩
    · exact ⟨i, hi, .inl (.inl ⟨k, hk', j, hj, h⟩)⟩
    · obtain ⟨e1, e2⟩ := IA (hk _ (getD_mem (d := default) hi) _ (getD_mem (d := default) hk')); exact ⟨i, hi, .inl (.inr ⟨k, hk', j, by rw [e1]; exact hj, by rw [e2 j hj]; exact h⟩)⟩
    · exact ⟨i, hi, .inr h⟩
def Hp:List Ah->Int->Int
 | [],_=>0
 | t::r,v=>bif t.V==v then t.Scale else Hp r v
def Dm:Int->List Ah->Bool
 | _,[]=>true
 | lo,t::r=>(decide (lo<t.V)&&decide (t.V<=1023)&&!(t.Scale==0))&&Dm t.V r
def K2(g:Int->Int):Nat->Nat->List Ah
 | _,0=>[]
 | a,n+1=>bif g (a:Int)==0 then K2 g (a+1) n else⟨(a:Int),g (a:Int)⟩::K2 g (a+1) n
def JK(g:Int->Int):List Ah:=K2 g 1 1023
theorem Vm{g h:Int->Int}:∀{n a:Nat},(∀ v:Int,(a:Int)<=v->g v=h v)->K2 g a n=K2 h a n
 | 0,_,_=>rfl
 | n+1,a,e=>by
  unfold K2;rw[e a (Int.le_refl _),Vm (n:=n) (a:=a+1) λv hv=>e v (by omega)]
theorem V7:∀{l:List Ah} {lo v:Int},Dm lo l=true->v<=lo->Hp l v=0
 | [],_,_,_,_=>rfl
 | t::r,lo,v,h,hv=>by
  simp only[Dm,A2,Dr]at h;unfold Hp;rw[show(t.V==v)=false from zzL22.2 (by omega),Ay];exact V7 h.2 (by omega)
theorem Su:∀(n a:Nat) {l:List Ah},a+n=1024->Dm ((a:Int)-1) l=true->K2 (Hp l) a n=l
 | 0,a,[],_,_=>rfl
 | 0,a,t::r,h,hm=>by
  simp only[Dm,A2,Dr]at hm;omega
 | n+1,a,[],h,_=>by
  unfold K2;rw[show(Hp [] (a:Int)==0)=true from rfl,Ae];exact Su n (a+1) (by omega) rfl
 | n+1,a,t::r,h,hm=>by
  have hm':=hm;simp only[Dm,A2,Dr,Om,zzL22]at hm;obtain⟨⟨⟨h1,h2⟩,h3⟩,h4⟩:=hm;unfold K2
  by_cases e:t.V=a
  ·have e1:Hp (t::r) (a:Int)=t.Scale:=by unfold Hp;rw[e];simp
   rw[e1,show(t.Scale==0)=false from zzL22.2 h3,Ay];rw[e]at h4
   have e2:K2 (Hp (t::r)) (a+1) n=K2 (Hp r) (a+1) n:=Vm λv hv=>by
    unfold Hp;rw[show(t.V==v)=false from zzL22.2 (by omega),Ay]
    cases r<;>rfl
   rw[e2,Su n (a+1) (by omega) (by rw[show(((a+1:Nat):Int)-1)=a by omega];exact h4),<- e]
  ·have e1:Hp (t::r) (a:Int)=0:=by
    unfold Hp;rw[show(t.V==(a:Int))=false from zzL22.2 e,Ay];exact V7 h4 (by omega)
   rw[e1];simp only[BEq.rfl,Ae];refine Su n (a+1) (by omega) ?_;simp only[Dm,A2,Dr,Om,zzL22];exact⟨⟨⟨by omega,h2⟩,h3⟩,h4⟩
theorem BT{l:List Ah}(h:Dm 0 l=true):JK (Hp l)=l:=Su 1023 1 rfl h
theorem bD{g:Int->Int}:∀(n a:Nat) (v:Int),Hp (K2 g a n) v=bif decide ((a:Int)<=v)&&decide (v<((a+n:Nat):Int)) then g v else 0
 | 0,a,v=>by
  unfold K2 Hp
  by_cases h:(a:Int)<=v
  ·rw[show decide (v<((a+0:Nat):Int))=false from Fc (by omega)];simp
  ·rw[Fc h];rfl
 | n+1,a,v=>by
  have ih:=bD (g:=g) n (a+1) v
  by_cases e:v=a
  ·subst e;rw[show decide (((a:Nat):Int)<=a)=true from Ek (Int.le_refl _),show decide ((a:Int)<((a+(n+1):Nat):Int))=true from Ek (by omega)];simp only[Qy,Ae];unfold K2
   by_cases h0:g a=0
   ·rw[h0];simp only[BEq.rfl,Ae];rw[ih,Fc (by omega),Xl];rfl
   ·rw[zzL22.2 h0,Ay];unfold Hp
    simp
  ·have e2:(decide (((a+1:Nat):Int)<=v)&&decide (v<((a+1+n:Nat):Int)))=(decide ((a:Int)<=v)&&decide (v<((a+(n+1):Nat):Int))):=by
    rw[L4];simp only[A2,Dr];omega
   rw[<- e2,<- ih]
   conv=>lhs;unfold K2
   cases g (a:Int)==0 with
   | true=>rfl
   | false=>
    rw[Ay]
    conv=>lhs;unfold Hp
    rw[show((a:Int)==v)=false from zzL22.2 (G1 e),Ay]
theorem KT{g:Int->Int}:∀(n a:Nat) (lo:Int),lo<a->a+n<=1024->Dm lo (K2 g a n)=true
 | 0,_,_,_,_=>rfl
 | n+1,a,lo,h,h2=>by
  unfold K2
  cases e:g (a:Int)==0 with
  | true=>exact KT n (a+1) lo (by omega) (by omega)
  | false=>
   simp only[Ay,Dm,A2,Dr,e,L5,Bd];exact⟨⟨h,by omega⟩,KT n (a+1) a (by omega) (by omega)⟩
theorem d8(g:Int->Int):Dm 0 (JK g)=true:=KT 1023 1 0 (by omega) (by omega)
theorem VA{g:Int->Int}:∀(n a:Nat),(K2 g a n).length<=n
 | 0,_=>zzL7 _
 | n+1,a=>by
  have:=VA (g:=g) n (a+1);unfold K2
  cases g (a:Int)==0<;>simp<;>omega
theorem e8{l:List Ah}(h:Dm 0 l=true):l.length<=1023:=by rw[<- BT h];exact VA _ _
theorem iX{g:Int->Int}(v:Int):Hp (JK g) v=bif decide (1<=v)&&decide (v<1024) then g v else 0:=bD 1023 1 v
theorem Xw{g h:Int->Int}(e:∀ v:Int,1<=v->v<1024->g v=h v):JK g=JK h:=by
 have:∀ n a:Nat,1<=a->a+n<=1024->K2 g a n=K2 h a n:=by
  intro n
  induction n with
  | zero=>intros;rfl
  | succ n ih=>
   intro a h1 h2;unfold K2;rw[e a (by omega) (by omega),ih (a+1) (by omega) (by omega)]
 exact this 1023 1 (zzL7 _) (zzL7 _)
theorem GJ{x:TForm}(hl:x.Terms.length<9223372036854775808):Es x=some (Dm 0 x.Terms):=by
 have key:∀(k i:Nat) (lo:Int),i+k=x.Terms.length->Ai (Hq x) (lo,(i:Int))=some (bif Dm lo (x.Terms.drop i) then .inl () else .inr false):=by
  intro k
  induction k with
  | zero=>
   intro i lo h
   obtain rfl:i=x.Terms.length:=by omega
   rw[List.drop_length];exact Ag (by unfold Hq;simp only[Ke,Ay];rfl)
  | succ k ih=>
   intro i lo h
   have hi:i<x.Terms.length:=by omega
   have hd:x.Terms.drop i=x.Terms.getD i default::x.Terms.drop (i+1):=by rw[Mj hi,Aa _ _ _ hi]
   rw[hd]
   have hs:Hq x (lo,(i:Int))=some (bif decide (lo<(x.Terms.getD i default).V)&&decide ((x.Terms.getD i default).V<=1023)&&!((x.Terms.getD i default).Scale==0) then .next ((x.Terms.getD i default).V,((i+1:Nat):Int)) else .done (.inr false)):=by
    unfold Hq;simp only[Fu hi,Ae,A4];rw[Ad (H6 hi),Da hi hl]
    generalize x.Terms.getD i default=t
    have a1:decide (t.V<=lo) = !decide (lo<t.V):=by by_cases h:lo<t.V<;>simp[h]<;>omega
    have a2:decide ((1023:Int)<t.V) = !decide (t.V<=1023):=by by_cases h:t.V<=1023<;>simp[h]<;>omega
    rw[a1,a2]
    cases decide (lo<t.V)<;>cases decide (t.V<=1023)<;>cases(t.Scale==0)<;>rfl
   cases hb:(decide (lo<(x.Terms.getD i default).V)&&decide ((x.Terms.getD i default).V<=1023)&&!((x.Terms.getD i default).Scale==0)) with
   | true=>
    rw[hb,Ae]at hs;rw[An hs,ih (i+1) _ (by omega)];simp only[Dm,hb,G0]
   | false=>
    rw[hb,Ay]at hs;rw[Ag hs];simp only[Dm,hb,Xl,Ay]
 unfold Es;have:=key x.Terms.length 0 0 (by omega);rw[show(((0:Nat):Int))=0 from rfl,Ky]at this;rw[this]
 cases Dm 0 x.Terms<;>rfl
def bU(l:List Ah):Int:=match l with|[]=>1024|t::_=>t.V
def jW(l:List Ah)(v:Int):Int×List Ah:=match l with|[]=>(0,[])|t::r=>bif t.V==v then(t.Scale,r) else(0,t::r)
theorem JR(l:List Ah):Cm l=some (bU l):=by
 cases l with
 | nil=>rfl
 | cons t r=>
  unfold Cm;rw[show((((t::r).length:Int))==0)=false from zzL22.2 (by simp;omega),Ay,Ad ⟨by omega,by simp⟩]
  rfl
theorem UA(l:List Ah){v:Int}(hv:v<1024):C2 l v=some (jW l v):=by
 unfold C2;rw[JR,As]
 cases l with
 | nil=>rw[show(bU []!=v)=true from zzL93.2 (by simp[bU];omega)];rfl
 | cons t r=>
  show(bif t.V !=v then _ else _)=some (bif t.V==v then _ else _)
  by_cases e:t.V=v
  ·rw[show(t.V !=v)=false by simp[e],show(t.V==v)=true by simp[e],Ay,Ae,Ad ⟨by omega,by simp⟩,Ad ⟨by omega,by simp only[On];omega⟩]
   rfl
  ·rw[show(t.V !=v)=true by simp[e],show(t.V==v)=false by simp[e]]
   rfl
theorem gx{l:List Ah}{a:Int}(h:Dm (a-1) l=true):(jW l a).1=Hp l a/\Dm a (jW l a).2=true/\∀ v,a<v->Hp (jW l a).2 v=Hp l v:=by
 cases l with
 | nil=>exact⟨rfl,rfl,λ_ _=>rfl⟩
 | cons t r=>
  have h':=h;simp only[Dm,A2,Dr]at h
  show(bif t.V==a then(t.Scale,r) else(0,t::r)).1=_/\Dm a (bif t.V==a then(t.Scale,r) else(0,t::r)).2=true/\∀ v,a<v->Hp (bif t.V==a then(t.Scale,r) else(0,t::r)).2 v=_
  by_cases e:t.V=a
  ·rw[show(t.V==a)=true by simp[e]];refine⟨by simp[Hp,e],by rw[<- e];exact h.2,λv hv=>?_⟩;simp only[Hp,show(t.V==v)=false from zzL22.2 (by omega),show(t.V==a)=true by simp[e],Ae,Ay]
  ·rw[show(t.V==a)=false by simp[e]];refine⟨?_,?_,λv hv=>rfl⟩
   ·simp only[Ay,Hp,show(t.V==a)=false by simp[e]];exact(V7 h.2 (by omega)).symm
   ·simp only[Ay,Dm,A2,Dr];exact⟨⟨⟨by omega,h.1.1.2⟩,h.1.2⟩,h.2⟩
theorem gZ{l:List Ah}{a:Int}(h:Dm (a-1) l=true)(ha:a<=1024):a<=bU l:=by
 cases l with
 | nil=>exact ha
 | cons t r=>
  simp only[Dm,A2,Dr]at h
  show a<=t.V
  omega
theorem bo{l:List Ah}{a:Int}(h:Dm (a-1) l=true)(hn:bU l≠a):Dm a l=true:=by
 cases l with
 | nil=>rfl
 | cons t r=>
  simp only[Dm,A2,Dr]at h ⊢;have:t.V≠a:=hn;exact⟨⟨⟨by omega,h.1.1.2⟩,h.1.2⟩,h.2⟩
def jA{S X:Type}(g:Int->Int->Int)(mk:List Ah->List Ah->List Ah->S)(out:List Ah->X)(xs ys acc:List Ah):Option (LR S X):=
 bif bif decide ((0:Int)<(xs.length:Int)) then true else decide ((0:Int)<(ys.length:Int)) then
  (Cm xs).bind λp=>(Cm ys).bind λq=>(C2 xs (if q<p then q else p)).bind λu=>(C2 ys (if q<p then q else p)).bind λw=>
   bif g u.1 w.1 !=0 then Cq (acc.length+1<=room) (some (.next (mk u.2 w.2 (acc++[⟨if q<p then q else p,g u.1 w.1⟩])))) else some (.next (mk u.2 w.2 acc))
 else some (.done (out acc))
theorem Vh{S X:Type}(g:Int->Int->Int)(mk:List Ah->List Ah->List Ah->S)(out:List Ah->X)(f:S->Option (LR S X))(hf:∀ xs ys acc,f (mk xs ys acc)=jA g mk out xs ys acc)(h0:g 0 0=0) :
  ∀(n a:Nat) (xs ys acc:List Ah),a+n=1024->Dm ((a:Int)-1) xs=true->Dm ((a:Int)-1) ys=true->acc.length+n<=2000->
   Ai f (mk xs ys acc)=some (out (acc++K2 (λv=>g (Hp xs v) (Hp ys v)) a n)):=by
 intro n
 induction n with
 | zero=>
  intro a xs ys acc h hx hy _
  have e:∀{l:List Ah},Dm ((a:Int)-1) l=true->l=[]:=λ{l} hl=>by
   have:=Su 0 a h hl;exact this.symm
  rw[e hx,e hy];refine Ag ?_;rw[hf];simp[jA,K2]
 | succ n ih=>
  intro a xs ys acc h hx hy hl;have hpa:=gZ hx (by omega);have hqa:=gZ hy (by omega)
  by_cases hh:bU xs=a\/bU ys=a
  ·have hv:(if bU ys<bU xs then bU ys else bU xs)=(a:Int):=by split<;>omega
   have hne:(bif decide ((0:Int)<(xs.length:Int)) then true else decide ((0:Int)<(ys.length:Int)))=true:=by
    rcases hh with e|e
    ·cases xs with
     | nil=>exact absurd e (by show ¬ ((1024:Int)=a);omega)
     | cons=>simp
    ·cases ys with
     | nil=>exact absurd e (by show ¬ ((1024:Int)=a);omega)
     | cons=>simp
   obtain⟨p1,p2,p3⟩:=gx hx;obtain⟨q1,q2,q3⟩:=gx hy
   have hs:f (mk xs ys acc)=some (.next (mk (jW xs a).2 (jW ys a).2 (acc++(bif g (Hp xs a) (Hp ys a)==0 then[] else[⟨(a:Int),g (Hp xs a) (Hp ys a)⟩])))):=by
    rw[hf];unfold jA;rw[hne,Ae,JR,JR];simp only[As,hv];rw[UA _ (by omega),UA _ (by omega)];simp only[As,p1,q1]
    cases hz:g (Hp xs a) (Hp ys a)==0 with
    | true=>rw[show(g (Hp xs a) (Hp ys a)!=0)=false by simp[bne,hz]];simp
    | false=>
     rw[show(g (Hp xs a) (Hp ys a)!=0)=true by simp[bne,hz],Ae,Ad (by unfold room;omega)]
     rfl
   rw[An hs];rw[ih (a+1) _ _ _ (by omega) (by rw[show(((a+1:Nat):Int)-1)=a by omega];exact p2) (by rw[show(((a+1:Nat):Int)-1)=a by omega];exact q2) (by cases g (Hp xs a) (Hp ys a)==0<;>simp<;>omega)];rw[Vm (n:=n) (a:=a+1) (h:=λv=>g (Hp xs v) (Hp ys v)) λv hv=>by rw[p3 v (by omega),q3 v (by omega)]]
   congr 2
   rw[Zx]
   congr 1
   conv=>rhs;unfold K2
   cases g (Hp xs a) (Hp ys a)==0<;>rfl
  ·have hx':=bo hx (by omega);have hy':=bo hy (by omega);rw[ih (a+1) xs ys acc (by omega) (by rw[show(((a+1:Nat):Int)-1)=a by omega];exact hx') (by rw[show(((a+1:Nat):Int)-1)=a by omega];exact hy') (by omega)]
   congr 3
   conv=>rhs;unfold K2
   rw[V7 hx' (Int.le_refl _),V7 hy' (Int.le_refl _),h0]
   rfl
def Ju(g:Int->Int->Int)(x y:TForm):TForm:=bif Dm 0 x.Terms&&Dm 0 y.Terms then⟨JK λv=>g (Hp x.Terms v) (Hp y.Terms v),g x.Off y.Off⟩ else⟨[],0⟩
def noF17:TForm:=⟨[],0⟩
def Pa(a b:Int):Int:=Gq (a+b)
def EJ(a b:Int):Int:=Gq (a-b)
def Nb(n a _b:Int):Int:=Gq (a*n)
theorem JT{x y:TForm}(hx:x.Terms.length<9223372036854775808)(hy:y.Terms.length<9223372036854775808):Dy x y=some (Ju Pa x y):=by
 unfold Dy Ma Ju;rw[GJ hx,GJ hy]
 cases h1:Dm 0 x.Terms with
 | false=>rfl
 | true=>
  cases h2:Dm 0 y.Terms with
  | false=>rfl
  | true=>
   simp only[Fd,BEq.rfl,Ae,Ay,As,Qy,Ji];rw[Vh Pa (λa b c=>(a,b,c)) id M8 (λxs ys acc=>rfl) rfl 1023 1 x.Terms y.Terms [] rfl h1 h2 (by simp)]
   rfl
theorem JS{x y:TForm}(hx:x.Terms.length<9223372036854775808)(hy:y.Terms.length<9223372036854775808):Fv x y=some (Ju EJ x y):=by
 unfold Fv Js Ju;rw[GJ hx,GJ hy]
 cases h1:Dm 0 x.Terms with
 | false=>rfl
 | true=>
  cases h2:Dm 0 y.Terms with
  | false=>rfl
  | true=>
   simp only[Fd,BEq.rfl,Ae,Ay,As,Qy,Iv];rw[Vh EJ (λa b c=>(a,b,c)) id K4 (λxs ys acc=>rfl) rfl 1023 1 x.Terms y.Terms [] rfl h1 h2 (by simp)]
   rfl
theorem N3{x:TForm}{n:Int}(hx:x.Terms.length<9223372036854775808):B7 x n=some (Ju (Nb n) x noF17):=by
 unfold B7 Jt Ju;rw[GJ hx,GJ (x:=⟨[],0⟩) (by simp)]
 cases h1:Dm 0 x.Terms with
 | false=>rfl
 | true=>
  simp only[Fd,BEq.rfl,Ae,Ay,As,Qy,Iw,Dm,noF17];rw[Vh (Nb n) (λa b c=>(a,b,c,n)) (λl=>(l,n)) K5 (λxs ys acc=>rfl) (by show Gq (0*n)=0;rw[Int.zero_mul];rfl) 1023 1 x.Terms [] [] rfl h1 rfl (by simp)]
  rfl
theorem iR{x y:TForm}(hx:x.Terms.length<9223372036854775808):Dc x y=some (decide (x=y)):=by
 have hT:Cv x.Terms y.Terms=some (decide (x.Terms=y.Terms)):=by
  unfold Cv
  by_cases hl:x.Terms.length=y.Terms.length
  ·rw[show(((x.Terms.length:Int))!=(y.Terms.length:Int))=false by simp[hl],Ay];have:=UO x.Terms y.Terms default (Bo x.Terms y.Terms) (.inl ()) (.inr false) hl
    (λi hi he=>by
     unfold Bo;simp only[Fu hi,Ae,A4];rw[Ad (H6 hi),Ad (H6 (by omega)),eq_of_beq he,Da hi hx]
     simp)
    (λi hi he=>by
     unfold Bo;simp only[Fu hi,Ae,A4];rw[Ad (H6 hi),Ad (H6 (by omega))]
     have:((x.Terms.getD i default).V==(y.Terms.getD i default).V&&((x.Terms.getD i default).Scale==(y.Terms.getD i default).Scale&&true))=false:=by
      rw[<- he]
      generalize x.Terms.getD i default=s
      generalize y.Terms.getD i default=t
      rw[L4]
      cases s;cases t
      simp
     rw[this]
     rfl)
    (by unfold Bo;simp only[Ke,Ay]) x.Terms.length 0 (by omega)
   rw[show(((0:Nat):Int))=0 from rfl,Ky,Ky]at this;rw[this]
   by_cases e:x.Terms=y.Terms
   ·simp[e]
   ·rw[Fc e,zzL22.2 e];rfl
  ·rw[show(((x.Terms.length:Int))!=(y.Terms.length:Int))=true by simp;omega,Ae];rw[Fc (λe=>hl (by rw[e]))]
 unfold Dc;rw[hT]
 by_cases ho:x.Off=y.Off
 ·rw[ho];simp only[BEq.rfl,Ae,As]
  congr 1
  cases x;cases y
  simp_all
 ·rw[show(x.Off==y.Off)=false by simp[ho]];have:¬ x=y:=λe=>ho (by rw[e]);simp[this]
theorem gp{x:TForm}(hl:x.Terms.length<9223372036854775808):Fb x=some (Dm 0 x.Terms):=by
 have key:∀(k i:Nat) (lo:Int),i+k=x.Terms.length->(i=0/\lo=0\/0<i/\lo=(x.Terms.getD (i-1) default).V/\1<=lo)->Ai (D6 x) (i:Int)=some (bif Dm lo (x.Terms.drop i) then .inl () else .inr false):=by
  intro k
  induction k with
  | zero=>
   intro i lo h _
   obtain rfl:i=x.Terms.length:=by omega
   rw[List.drop_length];exact Ag (by unfold D6;simp only[Ke,Ay];rfl)
  | succ k ih=>
   intro i lo h hlo
   have hi:i<x.Terms.length:=by omega
   have hd:x.Terms.drop i=x.Terms.getD i default::x.Terms.drop (i+1):=by rw[Mj hi,Aa _ _ _ hi]
   rw[hd]
   have hs:D6 x (i:Int)=some (bif decide (lo<(x.Terms.getD i default).V)&&decide ((x.Terms.getD i default).V<=1023)&&!((x.Terms.getD i default).Scale==0) then .next (((i+1:Nat):Int)) else .done (.inr false)):=by
    unfold D6;simp only[Fu hi,Ae,A4];rw[Ad (H6 hi),Ad (λ_=>H6 hi),Ad (λ_=>H6 hi),Ad (λ_=>H6 hi),Da hi hl]
    have hp:0<i->Bh ((i:Int)-1)=((i-1:Nat):Int):=λh0=>by rw[Hn (by omega) (by omega)];omega
    rw[Ad (λh0=>by
     simp only[A2,zzL70,Dr]at h0
     have:0<i:=by omega
     rw[hp this];exact H6 (by omega))]
    rcases hlo with⟨rfl,rfl⟩|⟨h0,h1,h2⟩
    ·generalize x.Terms.getD 0 default=t
     have a1:decide (t.V<(1:Int)) = !decide ((0:Int)<t.V):=by by_cases h:(0:Int)<t.V<;>simp[h]<;>omega
     have a2:decide ((1023:Int)<t.V) = !decide (t.V<=1023):=by by_cases h:t.V<=1023<;>simp[h]<;>omega
     rw[a1,a2,show decide ((0:Int)<((0:Nat):Int))=false from rfl]
     cases decide ((0:Int)<t.V)<;>cases decide (t.V<=1023)<;>cases(t.Scale==0)<;>rfl
    ·rw[hp h0,A4,<- h1,Ek (show(0:Int)<(i:Int) by omega)]
     generalize x.Terms.getD i default=t
     have a1:decide (t.V<=lo) = !decide (lo<t.V):=by by_cases h:lo<t.V<;>simp[h]<;>omega
     have a2:decide ((1023:Int)<t.V) = !decide (t.V<=1023):=by by_cases h:t.V<=1023<;>simp[h]<;>omega
     rw[a1,a2]
     by_cases h:lo<t.V
     ·rw[Ek h,Fc (show ¬ t.V<1 by omega)]
      cases decide (t.V<=1023)<;>cases(t.Scale==0)<;>rfl
     ·rw[Fc h]
      cases decide (t.V<1)<;>cases decide (t.V<=1023)<;>cases(t.Scale==0)<;>rfl
   cases hb:(decide (lo<(x.Terms.getD i default).V)&&decide ((x.Terms.getD i default).V<=1023)&&!((x.Terms.getD i default).Scale==0)) with
   | true=>
    rw[hb,Ae]at hs
    have h1:lo<(x.Terms.getD i default).V:=by simp only[A2,Dr]at hb;exact hb.1.1
    rw[An hs,ih (i+1) (x.Terms.getD i default).V (by omega) (.inr ⟨by omega,by simp,by rcases hlo with⟨_,rfl⟩|⟨_,_,h⟩<;>omega⟩)];simp only[Dm,hb,G0]
   | false=>
    rw[hb,Ay]at hs;rw[Ag hs];simp only[Dm,hb,Xl,Ay]
 unfold Fb;have:=key x.Terms.length 0 0 (by omega) (.inl ⟨rfl,rfl⟩);rw[show(((0:Nat):Int))=0 from rfl,Ky]at this;rw[this]
 cases Dm 0 x.Terms<;>rfl
theorem Jn{g:Int->Int->Int}{x y:TForm}(hx:Dm 0 x.Terms=true)(hy:Dm 0 y.Terms=true):Ju g x y=⟨JK λv=>g (Hp x.Terms v) (Hp y.Terms v),g x.Off y.Off⟩:=by
 unfold Ju;rw[hx,hy];rfl
theorem Pd(g:Int->Int->Int)(x y:TForm):Dm 0 (Ju g x y).Terms=true:=by
 unfold Ju
 cases Dm 0 x.Terms&&Dm 0 y.Terms with
 | false=>rfl
 | true=>rw[Ae];exact d8 (λv=>g (Hp x.Terms v) (Hp y.Terms v))
theorem Si{V:Type}(k v:Int)(x:V):∀ l:List (Int×V),Bv (Ei l k x) v=(v==k || Bv l v)
 | []=>by simp[Ei,Bv]
 | (a,b)::r=>by
  unfold Ei
  by_cases e:k=a
  ·subst e;simp only[BEq.rfl,Ae,Bv]
   cases(v==k)<;>simp
  ·rw[show(k==a)=false by simp[e],Ay];simp only[Bv,Si k v x r]
   cases(v==a)<;>cases(v==k)<;>simp
theorem Wo{V:Type}(d:V)(k v:Int)(x:V):∀ l:List (Int×V),mget d (Ei l k x) v=bif v==k then x else mget d l v
 | []=>by simp only[Ei,mget]
 | (a,b)::r=>by
  unfold Ei
  by_cases e:k=a
  ·subst e;simp only[BEq.rfl,Ae,mget]
   cases(v==k)<;>rfl
  ·rw[show(k==a)=false by simp[e],Ay];simp only[mget,Wo d k v x r]
   by_cases h:v=a
   ·subst h;rw[show(v==k)=false from zzL22.2 (G1 e)]
    simp
   ·rw[show(v==a)=false by simp[h]];rfl
def DP(v:Int):TForm:=⟨[⟨v,1⟩],0⟩
def gf(k:Int)(a b:TForm):Option TForm:=
 bif k==1 then some (Ju Pa a b) else bif k==2 then some (Ju EJ a b)
 else bif (k==3)&&((b.Terms.length:Int)==0) then some (Ju (Nb b.Off) a noF17) else bif (k==3)&&((a.Terms.length:Int)==0) then some (Ju (Nb a.Off) b noF17)
 else bif ((k==8)&&((b.Terms.length:Int)==0))&&decide (b.Off<64) then some (Ju (Nb (SQ .u64 1 b.Off)) a noF17) else none
def RP(k:Int):Bool:=k==0 || (k==1 || (k==2 || (k==3 || k==8)))
def iY(v:Int):Option TForm->TForm
 | some y=>bif decide ((16:Int)<(y.Terms.length:Int)) then DP v else y
 | none=>DP v
def Tm(D:Int->Option Ds):Nat->Int->TForm
 | 0,v=>DP v
 | n+1,v=>match D v with
  | none=>DP v
  | some o=>bif o.Kind==0 then⟨[],o.Imm⟩ else iY v (gf o.Kind (Tm D n (o.Args.getD 0 0)) (Tm D n (o.Args.getD 1 0)))
structure dh(D:Int->Option Ds)(G:Int->Prop)(rk:Int->Nat):Prop where
 rng:∀ v,G v->1<=v/\v<=1023
 kind:∀ v o,G v->D v=some o->RP o.Kind=true
 args:∀ v o,G v->D v=some o->o.Kind≠0->o.Args.length=2/\(G (o.Args.getD 0 0)/\rk (o.Args.getD 0 0)<rk v)/\G (o.Args.getD 1 0)/\rk (o.Args.getD 1 0)<rk v
 imm:∀ v o,G v->D v=some o->0<=o.Imm
section
variable {D:Int->Option Ds} {G:Int->Prop} {rk:Int->Nat} (W:dh D G rk)
include W
theorem Wd:∀(n:Nat) (v:Int) (m:Nat),G v->rk v<n->rk v<m->Tm D n v=Tm D m v
 | 0,_,_,_,h,_=>absurd h (Mk _)
 | _,_,0,_,_,h=>absurd h (Mk _)
 | n+1,v,m+1,hg,h1,h2=>by
  unfold Tm
  cases hd:D v with
  | none=>rfl
  | some o=>
   by_cases h0:o.Kind=0
   ·simp[h0]
   ·obtain⟨_,⟨g0,r0⟩,g1,r1⟩:=W.args v o hg hd h0;simp only;rw[Wd n _ m g0 (by omega) (by omega),Wd n _ m g1 (by omega) (by omega)]
omit W in
theorem Yu(n:Int):0<=Gq n:=by rw[S6];omega
omit W in
theorem gh{k:Int}{a b y:TForm}(h:gf k a b=some y):Dm 0 y.Terms=true/\0<=y.Off:=by
 have key:∀(g:Int->Int->Int) (a b:TForm),(∀ x y,0<=g x y)->Dm 0 (Ju g a b).Terms=true/\0<=(Ju g a b).Off:=λg a b hg=>by
  refine⟨Pd g a b,?_⟩;unfold Ju
  cases Dm 0 a.Terms&&Dm 0 b.Terms with
  | false=>exact Int.le_refl _
  | true=>exact hg _ _
 have e1:∀ x y,0<=Pa x y:=λx y=>Yu _;have e2:∀ x y,0<=EJ x y:=λx y=>Yu _;have e3:∀ n x y,0<=Nb n x y:=λn x y=>Yu _;unfold gf at h
 cases c1:k==1 with
 | true=>rw[c1]at h;cases h;exact key _ _ _ e1
 | false=>
  rw[c1,Ay]at h
  cases c2:k==2 with
  | true=>rw[c2]at h;cases h;exact key _ _ _ e2
  | false=>
   rw[c2,Ay]at h
   cases c3:(k==3)&&((b.Terms.length:Int)==0) with
   | true=>rw[c3]at h;cases h;exact key _ _ _ (e3 _)
   | false=>
    rw[c3,Ay]at h
    cases c4:(k==3)&&((a.Terms.length:Int)==0) with
    | true=>rw[c4]at h;cases h;exact key _ _ _ (e3 _)
    | false=>
     rw[c4,Ay]at h
     cases c5:((k==8)&&((b.Terms.length:Int)==0))&&decide (b.Off<64) with
     | true=>rw[c5]at h;cases h;exact key _ _ _ (e3 _)
     | false=>rw[c5]at h;cases h
omit W in
theorem iv{v:Int}(h1:1<=v)(h2:v<=1023):Dm 0 (DP v).Terms=true/\0<=(DP v).Off/\(DP v).Terms.length<=16:=by
 refine⟨?_,Int.le_refl _,by simp[DP]⟩;simp only[DP,Dm,Y2,A2,Dr];exact⟨⟨by omega,h2⟩,rfl⟩
theorem gQ:∀(n:Nat) (v:Int),G v->Dm 0 (Tm D n v).Terms=true/\0<=(Tm D n v).Off/\(Tm D n v).Terms.length<=16:=λn v hg=>by
 have ho:=iv (W.rng v hg).1 (W.rng v hg).2
 cases n with
 | zero=>exact ho
 | succ n=>
  unfold Tm
  cases hd:D v with
  | none=>exact ho
  | some o=>
   simp only
   cases h0:o.Kind==0 with
   | true=>exact⟨rfl,W.imm v o hg hd,by simp⟩
   | false=>
    rw[Ay]
    cases hm:gf o.Kind (Tm D n (o.Args.getD 0 0)) (Tm D n (o.Args.getD 1 0)) with
    | none=>exact ho
    | some y=>
     unfold iY;simp only
     by_cases hl:(16:Int)<(y.Terms.length:Int)
     ·rw[Ek hl];exact ho
     ·rw[Fc hl];exact⟨(gh hm).1,(gh hm).2,by simp only[Ay];omega⟩
end
theorem iN{k:Int}{a b:TForm}(ha:a.Terms.length<9223372036854775808)(hb:b.Terms.length<9223372036854775808)(h0:0<=b.Off) :
  Jd k a b=some (match gf k a b with|some y=>(y,true)|none=>(⟨[],0⟩,false)):=by
 unfold Jd gf Gg;rw[JT ha hb,JS ha hb,N3 ha,N3 hb,N3 ha,Ad h0]
 by_cases k1:k=1
 ·subst k1;rfl
 ·by_cases k2:k=2
  ·subst k2;rfl
  ·rw[show(k==1)=false by simp[k1],show(k==2)=false by simp[k2]];simp only[Ay]
   by_cases k3:k=3
   ·subst k3
    cases((b.Terms.length:Int)==0)<;>cases((a.Terms.length:Int)==0)<;>rfl
   ·rw[show(k==3)=false by simp[k3]]
    by_cases k8:k=8
    ·subst k8
     cases((b.Terms.length:Int)==0)<;>cases decide (b.Off<(64:Int))<;>rfl
    ·rw[show(k==8)=false by simp[k8]];rfl
def QP(M:List (Int×Ds))(D:Int->Option Ds)(G:Int->Prop):Prop:=∀ v,G v->Bv M v=(D v).isSome/\∀ o,D v=some o->mget default M v=o
section
variable {D:Int->Option Ds} {G:Int->Prop} {rk:Int->Nat} (W:dh D G rk)
include W
theorem XP{M:List (Int×Ds)}(hM:QP M D G):∀(r:Nat) (v:Int) (fd:List (Int×TForm)),G v->rk v<r->(∀ x,G x->Bv fd x=true->mget default fd x=Tm D (rk x+1) x)->
  ∃ fd',(∀ n,2*r<=n->Bg n v M fd=some (Tm D (rk v+1) v,fd'))/\∀ x,G x->Bv fd' x=true->mget default fd' x=Tm D (rk x+1) x:=by
 intro r
 induction r with
 | zero=>intro v fd _ h;exact absurd h (Mk _)
 | succ r ih=>
  intro v fd hg hr hfd;have step:∀ fd':List (Int×TForm),(∀ n,2*r<=n->Br (Bg (n+1)) (Bw (n+1)) v M fd=some (Tm D (rk v+1) v,fd'))->
    ∀ n,2*(r+1)<=n->Bg n v M fd=some (Tm D (rk v+1) v,fd'):=λfd' h n hn=>by
   obtain⟨n,rfl⟩:∃ m,n=m+2:=⟨n-2,by omega⟩;exact h n (by omega)
  have fin:∀(s:Option (TForm×Bool×List (Int×TForm))) (y:TForm) (b:Bool) (fd':List (Int×TForm)),s=some (y,b,fd')->(bif (bif (!b) then true else decide ((16:Int)<(y.Terms.length:Int))) then DP v else y)=Tm D (rk v+1) v->
    (s.bind λx1=>(Option.bind (α:=(List (Ah)×Int)) (bif (bif (!x1.2.1) then true else(decide (((16:Int):Int)<(x1.1.Terms.length:Int)))) then(some ((([(⟨v,(1:Int)⟩:Ah)]:List (Ah)),(0:Int)))) else(some ((x1.1.Terms,x1.1.Off)))) (λx4=>(match x4 with|(l2,i3)=>(some ((⟨l2,i3⟩:TForm),(Ei x1.2.2 v (⟨l2,i3⟩:TForm))))))))
    = some (Tm D (rk v+1) v,Ei fd' v (Tm D (rk v+1) v)):=λs y b fd' hs hy=>by
   rw[hs,As,<- hy]
   cases b with
   | false=>rfl
   | true=>
    simp only[Fd,Ay]
    cases decide ((16:Int)<(y.Terms.length:Int))<;>rfl
  have put:∀(fd':List (Int×TForm)),(∀ x,G x->Bv fd' x=true->mget default fd' x=Tm D (rk x+1) x)->∀ x,G x->Bv (Ei fd' v (Tm D (rk v+1) v)) x=true->mget default (Ei fd' v (Tm D (rk v+1) v)) x=Tm D (rk x+1) x:=λfd' h x hx hh=>by
   rw[Wo]
   by_cases e:x=v
   ·subst e;simp
   ·rw[Si,show(x==v)=false by simp[e],EW]at hh;rw[show(x==v)=false by simp[e],Ay];exact h x hx hh
  cases hh:Bv fd v with
  | true=>exact⟨fd,step fd (λn hn=>by unfold Br;rw[hh,Ae,hfd v hg hh]),hfd⟩
  | false=>
   obtain⟨hM1,hM2⟩:=hM v hg
   have hF:Tm D (rk v+1) v=match D v with
    | none=>DP v
    | some o=>bif o.Kind==0 then⟨[],o.Imm⟩ else iY v (gf o.Kind (Tm D (rk v) (o.Args.getD 0 0)) (Tm D (rk v) (o.Args.getD 1 0))):=rfl
   have hsum:∀ n,Bw (n+1) v M fd=Cd (Bg n) (Bw n) v M fd:=λn=>rfl
   cases hd:D v with
   | none=>
    rw[hd]at hM1 hF;refine⟨_,step _ λn hn=>?_,put fd hfd⟩;unfold Br;rw[hh,Ay,hsum];refine fin _ ⟨[],0⟩ false fd ?_ (by rw[hF];rfl);unfold Cd;rw[hM1]
    rfl
   | some o=>
    rw[hd]at hM1 hF;have hg2:=hM2 o hd
    by_cases h0:o.Kind=0
    ·refine⟨_,step _ λn hn=>?_,put fd hfd⟩;unfold Br;rw[hh,Ay,hsum];refine fin _ ⟨[],o.Imm⟩ true fd ?_ (by rw[hF];dsimp only;rw[h0];rfl);unfold Cd;rw[hM1,hg2,h0]
     rfl
    ·obtain⟨hl,⟨g0,r0⟩,g1,r1⟩:=W.args v o hg hd h0;obtain⟨f1,a1,a2⟩:=ih _ fd g0 (by omega) hfd;obtain⟨f2,b1,b2⟩:=ih _ f1 g1 (by omega) a2;rw[Wd W _ _ (rk v) g0 (by omega) r0]at a1;rw[Wd W _ _ (rk v) g1 (by omega) r1]at b1;obtain⟨p1,p2,p3⟩:=gQ W (rk v) _ g0;obtain⟨q1,q2,q3⟩:=gQ W (rk v) _ g1;have hmade:=iN (k:=o.Kind) (a:=Tm D (rk v) (o.Args.getD 0 0)) (b:=Tm D (rk v) (o.Args.getD 1 0)) (by omega) (by omega) q2
     have hrun:∀ n,2*r<=n->Cd (Bg n) (Bw n) v M fd=(Jd o.Kind (Tm D (rk v) (o.Args.getD 0 0)) (Tm D (rk v) (o.Args.getD 1 0))).bind λx5=>some (x5.1,x5.2,f2):=λn hn=>by
      unfold Cd;rw[hM1,hg2];simp only[Option.isSome_some,Fd,Ay,show(o.Kind==(0:Int))=false from zzL22.2 h0];rw[Ad ⟨by omega,by omega⟩,show((0:Int)).toNat=0 from rfl,a1 n hn,As,Ad ⟨by omega,by omega⟩,show((1:Int)).toNat=1 from rfl];simp only;rw[b1 n hn,As]
     dsimp only at hF
     rw[show(o.Kind==0)=false from zzL22.2 h0,Ay]at hF
     cases hm:gf o.Kind (Tm D (rk v) (o.Args.getD 0 0)) (Tm D (rk v) (o.Args.getD 1 0)) with
     | none=>
      rw[hm]at hF hmade;refine⟨_,step _ λn hn=>?_,put f2 b2⟩;unfold Br;rw[hh,Ay,hsum,hrun n hn,hmade,As];exact fin _ ⟨[],0⟩ false f2 rfl (by rw[hF];rfl)
     | some y=>
      rw[hm]at hF hmade;refine⟨_,step _ λn hn=>?_,put f2 b2⟩;unfold Br;rw[hh,Ay,hsum,hrun n hn,hmade,As];exact fin _ y true f2 rfl (by rw[hF];rfl)
theorem SG{M:List (Int×Ds)}(hM:QP M D G){v:Int}(hg:G v):∃ fd,Gf v M []=some (Tm D (rk v+1) v,fd):=by
 obtain⟨fd,h,_⟩:=XP W hM (rk v+1) v [] hg (Nat.lt_succ_self _) (λx _ h=>by cases h);exact⟨fd,eY _ λm hm=>h m hm⟩
end
section
variable {D:Int->Option Ds} {G:Int->Prop} {rk:Int->Nat} (W:dh D G rk)
include W
end
theorem KW{t:List Int}:∀{k:Nat} {a:Int} {q:List Int},upD t k a=some q->∀{m:Nat},k<=m->upD t m a=some q
 | 0,_,_,h,_,_=>by cases h
 | k+1,a,q,h,0,hm=>absurd hm (by omega)
 | k+1,a,q,h,m+1,hm=>by
  unfold upD at h ⊢
  split at h
  ·rename_i h1
   rw[if_pos h1]
   split at h
   ·rename_i h2
    rw[if_pos h2];exact h
   ·rename_i h2
    rw[if_neg h2]
    cases hu:upD t k (t.getD a.toNat 0) with
    | none=>rw[hu]at h;cases h
    | some q'=>rw[hu]at h;rw[KW hu (by omega:k<=m)];exact h
  ·cases h
theorem cm{t:List Int}:∀{k:Nat} {b a:Int} {q:List Int},upD t k b=some q->a∈q->a≠b->∃ q',upD t k a=some q'/\q'.length<q.length
 | 0,_,_,_,h,_,_=>by cases h
 | k+1,b,a,q,h,ha,hne=>by
  have h0:=h;unfold upD at h
  split at h
  ·split at h
   ·cases h;exact absurd (zzL15.1 ha) hne
   ·cases hu:upD t k (t.getD b.toNat 0) with
    | none=>rw[hu]at h;cases h
    | some q'=>
     rw[hu]at h;cases h;rcases zzL23.1 ha with e|hin
     ·exact absurd e hne
     ·by_cases e:a=t.getD b.toNat 0
      ·exact⟨q',by rw[e];exact KW hu (by omega),by simp⟩
      ·obtain⟨q2,h1,h2⟩:=cm hu hin e;exact⟨q2,KW h1 (by omega),by simp;omega⟩
  ·cases h
theorem KS{t:List Int}{a b:Int}(h:Nf t a b=true)(hne:a≠b):(En t a).length<(En t b).length:=by
 unfold Nf at h;simp only[A2,zzL70,zzL93]at h;obtain⟨h1,h2⟩:=h;unfold Lw at h1 h2
 split at h1
 ·rename_i hr
  rw[if_pos hr]at h2
  cases hf:(En t a).find? λx=>(En t b).contains x with
  | none=>rw[hf]at h2;exact absurd rfl h2
  | some x=>
   rw[hf]at h1;obtain rfl:x=a:=h1;have hc:=List.find?_some hf
   have hin:x∈En t b:=by simpa using hc
   unfold En at hin ⊢
   cases hu:upD t t.length b with
   | none=>rw[hu]at hin;cases hin
   | some q=>
    rw[hu]at hin;obtain⟨q',g1,g2⟩:=cm hu hin hne;rw[g1];exact g2
 ·rename_i hr
  rw[if_neg hr]at h2;exact absurd rfl h2
def Gd(f:Ab)(v:Int):Prop:=∃ d∈Au f,d.V=v/\d.Shape=(64,1)
def Nu(f:Ab):List Ds:=f.Blocks.flatMap (·.Ops)
def gk(f:Ab)(v:Int):Option Ds:=(Nu f).find? λo=>RP o.Kind&&o.Dst==v
def mD(f:Ab)(d:TDef):Nat:=if d.Block<0 then 0 else(En (Bx f) d.Block).length*((Nu f).length+5)+(d.At+2).toNat
def jV(f:Ab)(v:Int):Nat:=mD f (defOf (Au f) v)
theorem opsA_mem{f:Ab}{o:Ds}:o∈Nu f↔∃ i,i<f.Blocks.length/\∃ k,k<(bA f i).Ops.length/\o=(bA f i).Ops.getD k default:=by
 unfold Nu;rw[zzL65]
 constructor
 ·rintro⟨b,hb,ho⟩;obtain⟨i,hi,rfl⟩:=K6 hb;obtain⟨k,hk,rfl⟩:=K6 ho;have e:bA f i=f.Blocks[i]:=Aa _ _ _ hi;refine⟨i,hi,k,by rw[e];exact hk,?_⟩;rw[e,Aa _ _ _ hk]
 ·rintro⟨i,hi,k,hk,rfl⟩;exact⟨bA f i,getD_mem hi,getD_mem hk⟩
theorem cJ{f:Ab}{i:Nat}(hi:i<f.Blocks.length):(bA f i).Ops.length<=(Nu f).length:=by
 unfold Nu
 have:∀(l:List Am) (b:Am),b∈l->b.Ops.length<=(l.flatMap (·.Ops)).length:=by
  intro l
  induction l with
  | nil=>intro b h;cases h
  | cons x l ih=>
   intro b h;rw[Xg,E5];rcases zzL23.1 h with rfl|h
   ·omega
   ·have:=ih b h;omega
 exact this _ _ (getD_mem hi)
section
variable {f:Ab} (R:lE f 2)
include R
theorem cH{i k:Nat}(hi:i<f.Blocks.length)(hk:k<(bA f i).Ops.length):I8 ((bA f i).Ops.getD k default)=true:=gq R (getD_mem hi) (getD_mem hk)
theorem op_dst{o:Ds}(ho:o∈Nu f):o.Dst=0/\RP o.Kind=false\/∃ i k:Nat,i<f.Blocks.length/\k<(bA f i).Ops.length/\o=(bA f i).Ops.getD k default/\1<=o.Dst/\o.Dst<=1023/\(⟨o.Dst,(i:Int),(k:Int),L9 o.Kind o.Bits o.Lanes⟩:TDef)∈Au f:=by
 obtain⟨i,hi,k,hk,e⟩:=opsA_mem.1 ho;have hm:=cH R hi hk;rw[<- e]at hm;obtain⟨m1,m2,m3,m4,m5,m6,m7⟩:=BD hm
 by_cases hst:o.Kind=17\/o.Kind=19
 ·left
  have:(o.Kind==17 || o.Kind==19)=true:=by simpa using hst
  unfold dstS at m7;rw[this,Ae]at m7;refine⟨by simpa using m7,?_⟩;rcases hst with h|h<;>rw[h]<;>rfl
 ·right
  have hf:(o.Kind==17 || o.Kind==19)=false:=by simpa using hst
  unfold dstS at m7;rw[hf,Ay]at m7;simp only[valS,A2,Dr]at m7
  have hg:H1 o=L9 o.Kind o.Bits o.Lanes:=by unfold H1;rw[hm];rfl
  have hz:=CN (k:=o.Kind) m1;rw[hf]at hz
  have hpos:0<(H1 o).1:=by
   rw[hg];have hn:(L9 o.Kind o.Bits o.Lanes).1≠0:=zzL22.1 hz;have hb:=width_cases (S2 m1);unfold L9 at hn ⊢;rw[hf,Ay]at hn ⊢
   cases(o.Kind==10 || o.Kind==11 || o.Kind==12) with
   | true=>show(0:Int)<1;omega
   | false=>cases(o.Kind==22)<;>simp<;>omega
  refine⟨i,k,hi,hk,e,m7.1,m7.2,ri_def.2 (.inr ⟨i,hi,.inr ⟨k,hk,by rw[<- e];exact hpos,?_⟩⟩)⟩;rw[<- e,hg]
theorem cI{o o':Ds}(ho:o∈Nu f)(ho':o'∈Nu f)(h1:1<=o.Dst)(h:o.Dst=o'.Dst):o=o':=by
 rcases op_dst R ho with⟨h0,_⟩|⟨i,k,hi,hk,e,_,_,hd⟩
 ·omega
 ·rcases op_dst R ho' with⟨h0,_⟩|⟨i',k',hi',hk',e',_,_,hd'⟩
  ·omega
  ·have:=cT R hd hd' h;simp only[TDef.mk.injEq]at this;obtain⟨_,h2,h3,_⟩:=this
   have e1:i=i':=by omega
   have e2:k=k':=by omega
   rw[e,e',e1,e2]
theorem cG{o:Ds}(ho:o∈Nu f)(hk:RP o.Kind=true):gk f o.Dst=some o:=by
 unfold gk
 cases h:(Nu f).find? λx=>RP x.Kind&&x.Dst==o.Dst with
 | none=>
  have:=List.find?_eq_none.1 h o ho;simp[hk]at this
 | some x=>
  have hp:=List.find?_some h;simp only[A2,zzL70]at hp
  have h1:1<=x.Dst:=by
   rcases op_dst R (List.mem_of_find?_eq_some h) with⟨_,h0⟩|⟨i,k,hi,hk',e,h1,_,_⟩
   ·rw[hp.1]at h0;cases h0
   ·exact h1
  rw[cI R (List.mem_of_find?_eq_some h) ho h1 hp.2]
omit R in
theorem Wz{v:Int}{o:Ds}(h:gk f v=some o):o∈Nu f/\RP o.Kind=true/\o.Dst=v:=by
 unfold gk at h;have hp:=List.find?_some h;simp only[A2,zzL70]at hp;exact⟨List.mem_of_find?_eq_some h,hp.1,hp.2⟩
theorem gr{d:TDef}(hd:d∈Au f):jV f d.V=mD f d:=by
 unfold jV;rw[(RI (Ve (BJ R).1) hd).2]
theorem j8(hI:∀ o∈Nu f,0<=o.Imm):dh (gk f) (Gd f) (jV f):=by
 refine⟨λv ⟨d,hd,hv,_⟩=>?_,λv o _ h=>(Wz h).2.1,λv o ⟨d,hd,hv,hs⟩ h h0=>?_,λv o _ h=>hI o (Wz h).1⟩
 ·have:=i0 R hd;simp only[valS,A2,Dr]at this;rw[<- hv];exact this
 ·obtain⟨hm,hk,hdst⟩:=Wz h;rcases op_dst R hm with⟨_,h2⟩|⟨i,k,hi,hkk,e,h1,_,hde⟩
  ·rw[hk]at h2;cases h2
  ·have hdd:=cT R hd hde (by rw[hv,hdst]);have hmay:=cH R hi hkk;rw[<- e]at hmay;obtain⟨m1,m2,m3,m4,m5,m6,m7⟩:=BD hmay
   have hk':o.Kind=1\/o.Kind=2\/o.Kind=3\/o.Kind=8:=by
    simp only[RP,Xj,zzL70]at hk;omega
   have hgs:L9 o.Kind o.Bits o.Lanes=(o.Bits,o.Lanes):=by rcases hk' with h|h|h|h<;>rw[h]<;>rfl
   have hel:∀ j,GQ o j=(o.Bits,o.Lanes):=λj=>by unfold GQ;rcases hk' with h|h|h|h<;>rw[h]<;>rfl
   have hna:Mi o.Kind o.Lanes=2:=by rcases hk' with h|h|h|h<;>rw[h]<;>rfl
   rw[hdd]at hs;have hsh:(o.Bits,o.Lanes)=((64:Int),(1:Int)):=hgs.symm.trans hs
   have hlen:o.Args.length=2:=by omega
   have harg:∀ j,j<2->Gd f (o.Args.getD j 0)/\jV f (o.Args.getD j 0)<jV f v:=λj hj=>by
    have hu:(⟨o.Args.getD j 0,(i:Int),(k:Int),GQ o j⟩:Mm)∈Ee f:=by
     refine(fb (λb hb o ho=>gq R hb ho)).2 ⟨i,hi,.inr (.inl ⟨k,j,hkk,by rw[<- e];omega,by rw[<- e]⟩)⟩
    obtain⟨d',hd',hv',hs',ht⟩:=iz R hu;have hv':d'.V=o.Args.getD j 0:=hv';refine⟨⟨d',hd',hv',by rw[hs',<- hsh];exact hel j⟩,?_⟩;rw[<- hv',gr R hd',<- hv,gr R hd,hdd];unfold mD
    have hbn:¬ ((⟨o.Dst,(i:Int),(k:Int),L9 o.Kind o.Bits o.Lanes⟩:TDef).Block<0):=by show ¬ ((i:Int)<0);omega
    rw[if_neg hbn];have ht:d'.Block<0\/(d'.Block=(i:Int)/\d'.At<(k:Int))\/(d'.Block≠(i:Int)/\Nf (Bx f) d'.Block (i:Int)=true):=ht
    show(if d'.Block<0 then 0 else _)<(En (Bx f) (i:Int)).length*_+((k:Int)+2).toNat
    split
    ·omega
    ·rename_i hb
     rcases ht with h|⟨h,ha⟩|⟨h,ho⟩
     ·exact absurd h hb
     ·rw[h]
      have:(d'.At+2).toNat<((k:Int)+2).toNat:=by omega
      omega
     ·have hsh:=KS ho h
      have hat:(d'.At+2).toNat<=(Nu f).length+2:=by
       rcases ri_def.1 hd' with⟨p,hp,rfl⟩|⟨p,hp,⟨q,hq,rfl⟩|⟨q,hq,_,rfl⟩⟩
       ·show((0:Int)+2).toNat<=_;simp
       ·show((-1:Int)+2).toNat<=_;simp
       ·show((q:Int)+2).toNat<=_
        have:=cJ hp;omega
      have hmul:((En (Bx f) d'.Block).length+1)*((Nu f).length+5)<=(En (Bx f) (i:Int)).length*((Nu f).length+5):=Dk _ hsh;rw[Dx]at hmul;omega
   exact⟨hlen,harg 0 (by omega),harg 1 (by omega)⟩
theorem iT(hb:f.Blocks.length<9223372036854775808)(hl:∀ b∈f.Blocks,b.Ops.length<9223372036854775808):∃ M,Lo f=some M/\QP M (gk f) (Gd f):=by
 let st (M:List (Int×Ds)) (o:Ds):List (Int×Ds):=bif RP o.Kind then Ei M o.Dst o else M
 have inner:∀(i:Nat),i<f.Blocks.length->∀(k j:Nat) (M:List (Int×Ds)),j+k=(bA f i).Ops.length->Ai (G4 f (i:Int)) ((j:Int),M)=some (((bA f i).Ops.drop j).foldl st M):=by
  intro i hi k;have hlen:=hl _ (getD_mem hi:bA f i∈f.Blocks)
  induction k with
  | zero=>
   intro j M h
   obtain rfl:j=(bA f i).Ops.length:=by omega
   rw[List.drop_length];refine Ag ?_;unfold G4;simp only[A4];rw[show f.Blocks.getD i default=bA f i from rfl,Ke]
   rfl
  | succ k ih=>
   intro j M h
   have hj:j<(bA f i).Ops.length:=by omega
   have hd:(bA f i).Ops.drop j=(bA f i).Ops.getD j default::(bA f i).Ops.drop (j+1):=by rw[Mj hj,Aa _ _ _ hj]
   have hs:G4 f (i:Int) ((j:Int),M)=some (.next (((j+1:Nat):Int),st M ((bA f i).Ops.getD j default))):=by
    unfold G4;simp only[A4];rw[show f.Blocks.getD i default=bA f i from rfl,Fu hj,Ae,Ad (H6 hj),Da hj hlen]
    generalize (bA f i).Ops.getD j default=o
    simp only[st,RP]
    cases(o.Kind==0)<;>cases(o.Kind==1)<;>cases(o.Kind==2)<;>cases(o.Kind==3)<;>cases(o.Kind==8)<;>rfl
   rw[An hs,ih (j+1) _ (by omega),hd,List.foldl_cons]
 have outer:∀(k i:Nat) (M:List (Int×Ds)),i+k=f.Blocks.length->Ai (G5 f) ((i:Int),M)=some (((f.Blocks.drop i).flatMap (·.Ops)).foldl st M):=by
  intro k
  induction k with
  | zero=>
   intro i M h
   obtain rfl:i=f.Blocks.length:=by omega
   rw[List.drop_length];exact Ag (by unfold G5;simp only[Ke,Ay];rfl)
  | succ k ih=>
   intro i M h
   have hi:i<f.Blocks.length:=by omega
   have hd:f.Blocks.drop i=bA f i::f.Blocks.drop (i+1):=by rw[Mj hi];exact B5 (·::_) (Aa _ _ _ hi).symm
   have hs:G5 f ((i:Int),M)=some (.next (((i+1:Nat):Int),(bA f i).Ops.foldl st M)):=by
    unfold G5;simp only[Fu hi,Ae];have:=inner i hi (bA f i).Ops.length 0 M (by omega);rw[show(((0:Nat):Int))=0 from rfl,Ky]at this;rw[Ad (H6 hi),this,As,Da hi hb]
    rfl
   rw[An hs,ih (i+1) _ (by omega),hd,Xg,List.foldl_append]
 refine⟨(Nu f).foldl st [],?_,?_⟩
 ·unfold Lo;have:=outer f.Blocks.length 0 [] (by omega);rw[show(((0:Nat):Int))=0 from rfl,Ky]at this;rw[this]
  rfl
 ·have key:∀(l done:List Ds) (M:List (Int×Ds)),(∀ o∈done++l,o∈Nu f)->(∀ o∈done,RP o.Kind=true->Bv M o.Dst=true/\mget default M o.Dst=o)->(∀ v,Bv M v=true->∃ o∈done,RP o.Kind=true/\o.Dst=v)->
    (∀ o∈done++l,RP o.Kind=true->Bv (l.foldl st M) o.Dst=true/\mget default (l.foldl st M) o.Dst=o)/\(∀ v,Bv (l.foldl st M) v=true->∃ o∈done++l,RP o.Kind=true/\o.Dst=v):=by
   intro l
   induction l with
   | nil=>intro done M _ h1 h2;rw[List.append_nil];exact⟨h1,h2⟩
   | cons x l ih=>
    intro done M hin h1 h2;have hx:x∈Nu f:=hin x (by simp)
    have:=ih (done++[x]) (st M x) (by rw[Zx];exact hin) (λo ho hk=>by
     rcases zzL11.1 ho with h|h
     ·obtain⟨g1,g2⟩:=h1 o h hk;simp only[st]
      cases hxk:RP x.Kind with
      | false=>exact⟨g1,g2⟩
      | true=>
       rw[Ae,Si,Wo,g1,g2]
       by_cases e:o.Dst=x.Dst
       ·have h1o:1<=o.Dst:=by
         rcases op_dst R (hin o (by simp[h])) with⟨_,h0⟩|⟨_,_,_,_,_,h1,_⟩
         ·rw[hk]at h0;cases h0
         ·exact h1
        have:=cI R (hin o (by simp[h])) hx h1o e;subst this
        simp
       ·rw[show(o.Dst==x.Dst)=false by simp[e]];simp
     ·obtain rfl:=zzL15.1 h;simp only[st];rw[hk,Ae,Si,Wo]
      simp) (λv hv=>by
     simp only[st]at hv
     cases hxk:RP x.Kind with
     | false=>
      rw[hxk,Ay]at hv;obtain⟨o,ho,h⟩:=h2 v hv;exact⟨o,by simp[ho],h⟩
     | true=>
      rw[hxk,Ae,Si,Xj]at hv;rcases hv with hv|hv
      ·exact⟨x,by simp,hxk,(eq_of_beq hv).symm⟩
      ·obtain⟨o,ho,h⟩:=h2 v hv
       exact⟨o,by simp[ho],h⟩)
    rw[Zx]at this;exact this
  obtain⟨k1,k2⟩:=key (Nu f) [] [] (λo ho=>by simpa using ho) (λo ho=>by cases ho) (λv hv=>by cases hv);rw[Tb]at k1 k2;intro v hg;refine⟨?_,λo h=>?_⟩
  ·cases hd:gk f v with
   | some o=>
    obtain⟨a,b,c⟩:=Wz hd;have:=(k1 o a b).1;rw[c]at this;exact this
   | none=>
    cases hm:Bv ((Nu f).foldl st []) v with
    | false=>rfl
    | true=>
     obtain⟨o,a,b,c⟩:=k2 v hm;have:=cG R a b;rw[c,hd]at this
     cases this
  ·obtain⟨a,b,c⟩:=Wz h;have:=(k1 o a b).2;rw[c]at this;exact this
end
section
variable {f:Ab} (h:Sm f)
include h
omit h in
theorem cZ(hc:Gv f 2=0):lE f 2:=(fa (by omega)).1 hc
theorem OY:f.Blocks.length<9223372036854775808/\(∀ b∈f.Blocks,b.Ops.length<9223372036854775808)/\∀ o∈Nu f,0<=o.Imm:=by
 have hI:=h.1;refine⟨by have:=hI.blocks;rw[H0]at this;omega,λb hb=>by have:=(hI.block b hb).2.1;rw[H0]at this;omega,λo ho=>?_⟩;obtain⟨i,hi,k,hk,rfl⟩:=opsA_mem.1 ho;exact(hI.op _ (getD_mem hi) _ (getD_mem hk)).2.1
theorem aw(hc:Gv f 2=0){v:Int}(hg:Gd f v):Ge f v=some (Tm (gk f) (jV f v+1) v,0):=by
 obtain⟨s,hs,hS⟩:=MI f h;obtain⟨p1,p2,p3⟩:=OY h;have R:=cZ hc;obtain⟨M,m1,m2⟩:=iT R p1 p2;obtain⟨fd,f1⟩:=SG (j8 R p3) m2 hg;obtain⟨d,hd,hv,hsh⟩:=hg;have hget:=hS.get hc d hd;rw[hv,hsh]at hget;unfold Ge;rw[hs,As,hget,m1]
 show(Gf v M []).bind _=_
 rw[f1]
 rfl
theorem eI{v:Int}(hn:¬ (Gv f 2=0/\Gd f v)):Ge f v=some (⟨[],0⟩,10):=by
 obtain⟨s,hs,hS⟩:=MI f h
 have hne:mget ((0:Int),(0:Int)) s v≠(64,1):=λe=>by
  by_cases hc:Gv f 2=0
  ·cases hm:Bv s v with
   | false=>rw[X9 hm]at e;cases e
   | true=>
    obtain⟨d,hd,hv⟩:=hS.has hc v hm;have:=hS.get hc d hd;rw[hv,e]at this;exact hn ⟨hc,d,hd,hv,this.symm⟩
  ·have:=hS.none hc;rw[LB this]at e
   cases e
 unfold Ge;rw[hs,As]
 have:(!(((mget ((0:Int),(0:Int)) s v).1==(64:Int))&&(((mget ((0:Int),(0:Int)) s v).2==(1:Int))&&true)))=true:=by
  generalize mget ((0:Int),(0:Int)) s v=p at hne ⊢
  obtain⟨a,b⟩:=p
  by_cases ha:a=64
  ·have hb:b≠1:=λe=>hne (by rw[ha,e]);simp[hb]
  ·simp[ha]
 rw[this]
 rfl
end
def fB(ops:List Ds)(a:Int):Ab:=⟨[64],64,[⟨[],ops,⟨0,a,[]⟩⟩]⟩
theorem kW{ops:List Ds}{a:Int}(h1:ops.length<=300)(h2:∀ o∈ops,o.Args.length<=3/\0<=o.Imm/\o.Imm<18446744073709551616):Sm (fB ops a):=by
 have hb:∀ b∈(fB ops a).Blocks,b=⟨[],ops,⟨0,a,[]⟩⟩:=λb hb=>by simpa [fB] using hb
 refine kX ⟨by rw[H0];show(1:Nat)<=_;omega,by rw[H0];show(1:Nat)<=_;omega,λb h=>?_,λb h p hp=>?_,λb h o ho=>?_⟩ (by show 1<=64;omega) (λb h=>?_) ?_
 ·rw[hb b h,H0];exact⟨K8 _,by show ops.length<=_;omega,K8 _⟩
 ·rw[hb b h]at hp;cases hp
 ·rw[hb b h]at ho;obtain⟨g1,g2⟩:=h2 o ho;exact⟨by rw[H0];omega,g2⟩
 ·rw[hb b h];exact⟨K8 _,(λp hp=>by cases hp),λo ho=>by have:=(h2 o ho).1;omega⟩
 ·have hs:∀ l:List Ds,(∀ o∈l,o.Args.length<=3)->(l.map JV).sum<=4*l.length:=by
   intro l
   induction l with
   | nil=>intro _;simp
   | cons x l ih=>
    intro hl;have h0:=hl x (J5 ..);have h1:=ih λo ho=>hl o (Fp _ ho);rw[Bq,U1,On];unfold JV at h1 ⊢;omega
  have:=hs ops λo ho=>(h2 o ho).1
  show 1+((1+0+0+(ops.map JV).sum)+0)<=20000
  omega
def fA:Ab:=fB [⟨0,64,1,2,[],8⟩,⟨1,64,1,3,[1,2],0⟩,⟨3,64,1,4,[2,3],0⟩] 4
theorem jB:Sm fA:=kW (by show 3<=300;omega) λo ho=>by
 simp only[zzL23,List.not_mem_nil,or_false]at ho;rcases ho with rfl|rfl|rfl<;>decide
theorem UD:Gv fA 2=0:=by decide +kernel
theorem mB:Ge fA 4=some (⟨[⟨1,8⟩],64⟩,0):=by
 rw[aw jB UD (v:=4) ⟨⟨4,0,2,(64,1)⟩,by decide +kernel,rfl,rfl⟩];have R:=cZ UD;rw[Wd (j8 R (OY jB).2.2) _ 4 40 ⟨⟨4,0,2,(64,1)⟩,by decide +kernel,rfl,rfl⟩ (Nat.lt_succ_self _) (by decide +kernel)]
 show _=_
 kernel_rfl
theorem kF:Ge fA 5=some (⟨[],0⟩,10):=eI jB λ⟨_,d,hd,hv,_⟩=>by
 have:∀ d∈Au fA,d.V≠5:=by decide +kernel
 exact this d hd hv
theorem eC:m_locksteplaw17_awake=some true:=by
 have h4:=mB;have h5:=kF;unfold fA fB at h4 h5;unfold m_locksteplaw17_awake;rw[show Cx=[⟨0,64,1,2,[],8⟩,⟨1,64,1,3,[1,2],0⟩,⟨3,64,1,4,[2,3],0⟩] from rfl,h4,h5]
 show _=_
 kernel_rfl
theorem UC{g:Int->Int}{v:Int}(h1:1<=v)(h2:v<1024):Hp (JK g) v=g v:=by
 rw[iX,Ek h1,Ek h2];rfl
theorem eQ{l:List Ah}(h:∀ t∈l,0<=t.Scale/\t.Scale<18446744073709551616)(v:Int):0<=Hp l v/\Hp l v<18446744073709551616:=by
 induction l with
 | nil=>exact⟨Int.le_refl _,by show(0:Int)<_;omega⟩
 | cons t r ih=>
  unfold Hp
  cases t.V==v with
  | true=>exact h t (J5 ..)
  | false=>exact ih λu hu=>h u (Fp _ hu)
theorem HX:∀ n a,K2 (λ_=>0) a n=[]
 | 0,_=>rfl
 | n+1,a=>by unfold K2;exact HX n (a+1)
theorem LV:JK (λ_=>0)=[]:=HX _ _
theorem MV{x:TForm}(h:okTForm x):x.Terms.length<9223372036854775808:=by
 have:=h.1.2;rw[H0]at this;omega
theorem MW{x:TForm}(h:okTForm x)(v:Int):0<=Hp x.Terms v/\Hp x.Terms v<18446744073709551616:=eQ (λt ht=>cr (h.1.1 t ht).2.1) v
theorem Lr(g:Int->Int->Int)(x y:TForm):(Ju g x y).Terms.length<9223372036854775808:=by
 have:=e8 (Pd g x y);omega
theorem jF(a n:Int):Gq (Gq a*n)=Gq (a*n):=by
 simp only[S6];rw[Int.mul_emod,Int.emod_emod,<- Int.mul_emod]
theorem jE(a b:Int):Gq (Gq a+Gq b)=Gq (a+b):=by simp only[S6];omega
section
variable {x y:TForm} (hx:Dm 0 x.Terms=true) (hy:Dm 0 y.Terms=true)
include hx
theorem kN(hy:Dm 0 y.Terms=true):Ju Pa x y=Ju Pa y x:=by
 rw[Jn hx hy,Jn hy hx]
 have e:∀ a b,Pa a b=Pa b a:=λa b=>by unfold Pa;rw[Int.add_comm]
 rw[e x.Off]
 congr 2
 funext v
 exact e _ _
theorem kO:Ju EJ x x=⟨[],0⟩:=by
 rw[Jn hx hx]
 have e:∀ a,EJ a a=0:=λa=>by unfold EJ;rw[Int.sub_self];rfl
 simp only[e,LV]
theorem kP(hy:Dm 0 y.Terms=true)(n:Int):Ju (Nb n) (Ju Pa x y) noF17=Ju Pa (Ju (Nb n) x noF17) (Ju (Nb n) y noF17):=by
 have e:∀ a b c d,Nb n (Pa a b) c=Pa (Nb n a c) (Nb n b d):=λa b c d=>by
  unfold Nb Pa;rw[jF,jE,Int.add_mul]
 rw[Jn (Pd _ _ _) rfl,Jn (Pd _ _ _) (Pd _ _ _),Jn hx hy,Jn hx (show Dm 0 noF17.Terms=true from rfl),Jn hy (show Dm 0 noF17.Terms=true from rfl)]
 have e1:(JK λv=>Nb n (Hp (JK λv=>Pa (Hp x.Terms v) (Hp y.Terms v)) v) (Hp noF17.Terms v))=JK λv=>Pa (Hp (JK λv=>Nb n (Hp x.Terms v) (Hp noF17.Terms v)) v) (Hp (JK λv=>Nb n (Hp y.Terms v) (Hp noF17.Terms v)) v):=
  Xw λv h1 h2=>by rw[UC h1 h2,UC h1 h2,UC h1 h2];exact e _ _ _ _
 simp only;rw[e1]
 congr 1
 exact e _ _ _ _
theorem kQ(hy:Dm 0 y.Terms=true)(hr:∀ v,0<=Hp x.Terms v/\Hp x.Terms v<18446744073709551616)(ho:0<=x.Off/\x.Off<18446744073709551616):Ju EJ (Ju Pa x y) y=x:=by
 have e:∀ a b,0<=a/\a<18446744073709551616->EJ (Pa a b) b=a:=λa b h=>by unfold EJ Pa;simp only[S6];omega
 rw[Jn (Pd _ _ _) hy,Jn hx hy]
 have e1:(JK λv=>EJ (Hp (JK λv=>Pa (Hp x.Terms v) (Hp y.Terms v)) v) (Hp y.Terms v))=JK (Hp x.Terms):=
  Xw λv h1 h2=>by rw[UC h1 h2];exact e _ _ (hr v)
 simp only;rw[e1,BT hx,e _ _ ho]
theorem kR(hr:∀ v,0<=Hp x.Terms v/\Hp x.Terms v<18446744073709551616)(ho:0<=x.Off/\x.Off<18446744073709551616):Ju (Nb 1) x noF17=x:=by
 have e:∀ a b,0<=a/\a<18446744073709551616->Nb 1 a b=a:=λa b h=>by unfold Nb;rw[Int.mul_one];exact LA h.1 h.2
 rw[Jn hx (show Dm 0 noF17.Terms=true from rfl)];have e1:(JK λv=>Nb 1 (Hp x.Terms v) (Hp noF17.Terms v))=JK (Hp x.Terms):=Xw λv h1 h2=>e _ _ (hr v);rw[e1,BT hx,e _ _ ho]
theorem kS:Ju (Nb 0) x noF17=⟨[],0⟩:=by
 have e:∀ a b,Nb 0 a b=0:=λa b=>by unfold Nb;rw[Int.mul_zero];rfl
 rw[Jn hx (show Dm 0 noF17.Terms=true from rfl)];simp only[e,LV]
end
theorem Yo{x y:TForm}(hx:x.Terms.length<9223372036854775808)(h:x=y):Dc x y=some true:=by rw[iR hx,Ek h]
theorem ring17(x y:TForm)(n:Int)(hx:okTForm x)(hy:okTForm y):Fx x y n=some true:=by
 have lx:=MV hx;have ly:=MV hy;have ox:=cr hx.2.1;unfold Fx;rw[eC,As,show(!true)=false from rfl,Ay]
 cases hb:(bif (decide (((200:Int):Int)<(x.Terms.length:Int))) then true else(decide (((200:Int):Int)<(y.Terms.length:Int)))) with
 | true=>rfl
 | false=>
  rw[show(false==false)=true from rfl,Ae,gp lx,As]
  cases hm:Dm 0 x.Terms with
  | false=>rfl
  | true=>
   rw[show(bif false then true else !true)=false from rfl,show(false==false)=true from rfl,Ae,gp ly,As]
   cases hn:Dm 0 y.Terms with
   | false=>rfl
   | true=>
    rw[show(bif false then true else !true)=false from rfl,Ay]
    rw[JT lx ly,As,JT ly lx,As,Yo (Lr _ _ _) (kN hm hn),As,show(true==true)=true from rfl,Ae,JS lx lx,As,Ae,
     Yo (Lr _ _ _) (kO hm),As,show((bif true then true else false)==true)=true from rfl]
    simp only[Ae];rw[As,N3 (Lr _ _ _),As,N3 lx,As,N3 ly,As,JT (Lr _ _ _) (Lr _ _ _),As,Yo (Lr _ _ _) (kP hm hn n),As,show(true==true)=true from rfl];simp only[Ae];rw[As,JS (Lr _ _ _) ly,As,Yo (Lr _ _ _) (kQ hm hn (MW hx) ox),As,show(true==true)=true from rfl];simp only[Ae];rw[N3 lx,As,Yo (Lr _ _ _) (kR hm (MW hx) ox),As,show(true==true)=true from rfl];simp only[Ae];rw[N3 lx,As,Yo (Lr _ _ _) (kS hm),As]
end
end Go.Proofs.YtiendmljhgbjoaaGreat
