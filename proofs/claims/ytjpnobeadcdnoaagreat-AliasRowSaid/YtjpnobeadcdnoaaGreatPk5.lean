/-
  The machine, the program's functions and the laws' arithmetic: part 5 of 5.
-/
import Derived.Test.YtjpnobeadcdnoaaGreatPk4
set_option linter.unusedSectionVars false
set_option linter.unusedVariables false
set_option linter.unusedSimpArgs false
namespace Go.Proofs.YtjpnobeadcdnoaaGreat
noncomputable section
open Go Go.RowKit
def gj(d:TDef):Ha:=bif decide (d.Block<0) then⟨0,-1⟩ else⟨d.Block,d.At⟩
def CG(d:TDef):Aj:=⟨d.Shape,gj d⟩
def dv(l:List TDef):List (Int×Aj):=l.map λd=>(d.V,CG d)
def HC(acc:List (Int×Aj))(v:Int):Bool:=(B6 acc v || decide (v<1)) || decide (1023<v)
def Ga:List (Int×Aj)->List TDef->Bool×List (Int×Aj)
 | acc,[]=>(true,acc)
 | acc,d::ds=>bif HC acc d.V then(false,acc) else Ga (Et acc d.V (CG d)) ds
theorem Y1:∀(a b:List TDef) (acc:List (Int×Aj)),Ga acc (a++b)=bif (Ga acc a).1 then Ga (Ga acc a).2 b else Ga acc a
 | [],b,acc=>rfl
 | d::a,b,acc=>by
  rw[BO];simp only[Ga]
  cases HC acc d.V with
  | true=>rfl
  | false=>simp only[Az];exact Y1 a b _
theorem Tk{V:Type}(k:Int):∀ l:List (Int×V),B6 l k=l.any λq=>k==q.1
 | []=>rfl
 | (a,b)::l=>by rw[List.any_cons,<- Tk k l];rfl
theorem Ux{V:Type}(k:Int)(v:V):∀{l:List (Int×V)},B6 l k=false->Et l k v=l++[(k,v)]
 | [],_=>rfl
 | (a,b)::l,h=>by
  simp only[B6,GN]at h;simp only[Et,h.1,Az,Ux k v h.2,BO]
theorem OQ(v:Int)(s:Int×Int)(p:Ha)(f:Aa)(l:Int)(t:List Int)(vs:List (Int×Aj))(u:List A8) :
  Ec v s p f l t vs u=some (bif HC vs v then(false,f,l,t,u,vs) else(true,f,l,t,u,Et vs v ⟨s,p⟩)):=by
 unfold Ec HC
 cases B6 vs v<;>cases decide (v<1)<;>cases decide (1023<v)<;>rfl
def jC(f:Aa)(l:Int)(t:List Int)(u:List A8)(r:Bool×List (Int×Aj)):(List Int×Int×List Ag×Int×List Int×List A8×List (Int×Aj)) ⊕ (Bool×Aa×Int×List Int×List A8×List (Int×Aj)):=
 bif r.1 then .inl (f.Params,f.Ret,f.Blocks,l,t,u,r.2) else .inr (false,f,l,t,u,r.2)
theorem kj(b:Ag)(h:b.Phis.length<9223372036854775808)(i:Nat)(f:Aa)(l:Int)(t:List Int)(u:List A8):∀(k j:Nat) (vs:List (Int×Aj)),j+k=b.Phis.length->
  Ah (Cy (i:Int) b) ((j:Int),f.Params,f.Ret,f.Blocks,l,t,u,vs)=some (jC f l t u (Ga vs ((List.range' j k).flatMap λ(k:Nat)=>[(⟨(b.Phis.getD k default).Dst,i,-1,((b.Phis.getD k default).Bits,1)⟩:TDef)]))):=by
 intro k
 induction k with
 | zero=>
  intro j vs hj
  obtain rfl:j=b.Phis.length:=by omega
  rw[Ai (x:=.inl (f.Params,f.Ret,f.Blocks,l,t,u,vs)) (by unfold Cy;simp)]
  rfl
 | succ k ih=>
  intro j vs hj
  have hi:j<b.Phis.length:=by omega
  have hd:decide ((j:Int)<(b.Phis.length:Int))=true:=by simpa using hi
  have hx:=OQ (b.Phis.getD j default).Dst ((b.Phis.getD j default).Bits,1) (⟨(i:Int),-1⟩:Ha) f l t vs u
  have hat:gj (⟨(b.Phis.getD j default).Dst,i,-1,((b.Phis.getD j default).Bits,1)⟩:TDef)=⟨(i:Int),-1⟩:=by unfold gj;rw[Dm (by show ¬ (i:Int)<0;omega)];rfl
  rw[Yn,Ug,List.singleton_append];simp only[Ga]
  cases hb:HC vs (b.Phis.getD j default).Dst with
  | true=>
   rw[hb]at hx
   rw[Ai (x:=.inr (false,f,l,t,u,vs)) (by
    unfold Cy Dj;simp only[hd,Ae,Au (Bd hi),Do,Ar];rw[show(⟨f.Params,f.Ret,f.Blocks⟩:Aa)=f from rfl,hx]
    rfl)]
   rfl
  | false=>
   rw[hb]at hx
   rw[Ao (s':=(((j+1:Nat):Int),f.Params,f.Ret,f.Blocks,l,t,u,Et vs (b.Phis.getD j default).Dst ⟨((b.Phis.getD j default).Bits,1),⟨(i:Int),-1⟩⟩)) (by
    unfold Cy Dj;simp only[hd,Ae,Au (Bd hi),Do,Ar];rw[show(⟨f.Params,f.Ret,f.Blocks⟩:Aa)=f from rfl,hx,D0 hi h]
    rfl),ih (j+1) _ (by omega)]
   unfold CG;rw[hat]
   rfl
theorem mZ{f0:Aa}(hf:OkF f0){b:Ag}(hb:b∈f0.Blocks)(i:Nat)(f:Aa)(l:Int)(t:List Int)(u:List A8):∀(k j:Nat) (vs:List (Int×Aj)),j+k=b.Ops.length->
  Ah (B5 (i:Int) b) ((j:Int),f.Params,f.Ret,f.Blocks,l,t,u,vs)=some (jC f l t u (Ga vs ((List.range' j k).flatMap λ(k:Nat)=>bif decide (0<(G2 (b.Ops.getD k default)).1) then[(⟨(b.Ops.getD k default).Dst,i,k,G2 (b.Ops.getD k default)⟩:TDef)] else[]))):=by
 have hB:=hf.block b hb;intro k
 induction k with
 | zero=>
  intro j vs hj
  obtain rfl:j=b.Ops.length:=by omega
  rw[Ai (x:=.inl (f.Params,f.Ret,f.Blocks,l,t,u,vs)) (by unfold B5;simp)]
  rfl
 | succ k ih=>
  intro j vs hj
  have hi:j<b.Ops.length:=by omega
  have hd:decide ((j:Int)<(b.Ops.length:Int))=true:=by simpa using hi
  have hg:K0 (b.Ops.getD j default)=some (G2 (b.Ops.getD j default)):=TY _ (lJ hf hb (getD_mem hi));have hx:=OQ (b.Ops.getD j default).Dst (G2 (b.Ops.getD j default)) (⟨(i:Int),(j:Int)⟩:Ha) f l t vs u
  have hat:gj (⟨(b.Ops.getD j default).Dst,i,j,G2 (b.Ops.getD j default)⟩:TDef)=⟨(i:Int),(j:Int)⟩:=by unfold gj;rw[Dm (by show ¬ (i:Int)<0;omega)];rfl
  rw[Yn,Ug]
  cases hp:decide (0<(G2 (b.Ops.getD j default)).1) with
  | false=>
   rw[Az,Uh,<- ih (j+1) vs (by omega),Ao (s':=(((j+1:Nat):Int),f.Params,f.Ret,f.Blocks,l,t,u,vs)) (by
    unfold B5;simp only[hd,Ae,Au (Bd hi),Do,hg,Ar,hp];rw[D0 hi (by have:=hB.ops;omega)]
    rfl)]
  | true=>
   rw[Ae,List.singleton_append];simp only[Ga]
   cases hb:HC vs (b.Ops.getD j default).Dst with
   | true=>
    rw[hb]at hx
    rw[Ai (x:=.inr (false,f,l,t,u,vs)) (by
     unfold B5;simp only[hd,Ae,Au (Bd hi),Do,hg,Ar,hp];rw[show(true==true)=true from rfl,Ae,show(⟨f.Params,f.Ret,f.Blocks⟩:Aa)=f from rfl,hx]
     rfl)]
    rfl
   | false=>
    rw[hb]at hx
    rw[Ao (s':=(((j+1:Nat):Int),f.Params,f.Ret,f.Blocks,l,t,u,Et vs (b.Ops.getD j default).Dst ⟨G2 (b.Ops.getD j default),⟨(i:Int),(j:Int)⟩⟩)) (by
     unfold B5;simp only[hd,Ae,Au (Bd hi),Do,hg,Ar,hp];rw[show(true==true)=true from rfl,Ae,show(⟨f.Params,f.Ret,f.Blocks⟩:Aa)=f from rfl,hx,D0 hi (by have:=hB.ops;omega)]
     rfl),ih (j+1) _ (by omega)]
    unfold CG;rw[hat]
    rfl
theorem OR{f:Aa}(hf:OkF f){b:Ag}(hb:b∈f.Blocks)(i:Nat)(l:Int)(t:List Int)(u:List A8)(vs:List (Int×Aj)) :
  Eo (i:Int) b f l t vs u=some ((Ga vs (Kg b i)).1,f,l,t,u,(Ga vs (Kg b i)).2):=by
 unfold Eo Kg;rw[show(0:Int)=((0:Nat):Int) from rfl,kj b (by have:=(hf.block b hb).phis;omega) i f l t u b.Phis.length 0 vs (by omega),Ar,Y1];rw[show(List.range' 0 b.Phis.length).flatMap (λ(k:Nat)=>[(⟨(b.Phis.getD k default).Dst,i,-1,((b.Phis.getD k default).Bits,1)⟩:TDef)])=Uq b i by rw[Uq,BN]];unfold jC
 cases h1:(Ga vs (Uq b i)).1 with
 | false=>simp only[Az];rw[h1]
 | true=>
  simp only[Ae];rw[mZ hf hb i f l t u b.Ops.length 0 _ (by omega),Ar];rw[show(List.range' 0 b.Ops.length).flatMap (λ(k:Nat)=>bif decide (0<(G2 (b.Ops.getD k default)).1) then[(⟨(b.Ops.getD k default).Dst,i,k,G2 (b.Ops.getD k default)⟩:TDef)] else[])=Y2 b i by rw[Y2,BN]];unfold jC;cases h2:(Ga (Ga vs (Uq b i)).2 (Y2 b i)).1<;>rfl
theorem Uz{l:List TDef}{i:Nat}(hi:i<l.length):K7 l i=true↔valS (l.getD i default).V=true/\∀ j,j<i->(l.getD j default).V≠(l.getD i default).V:=by
 unfold K7;rw[A6];refine and_congr Iff.rfl ?_;unfold In
 cases hx:l.findIdx? (λd=>d.V==(l.getD i default).V) with
 | none=>
  rw[List.findIdx?_eq_none_iff]at hx;have:=hx _ (getD_mem (d:=default) hi);simp at this
 | some j=>
  obtain⟨hj,h1,h2⟩:=List.findIdx?_eq_some_iff_getElem.1 hx;simp only[zzL61,Int.natCast_inj]
  constructor
  ·rintro rfl k hk he;have:=h2 k hk;rw[Ab _ _ _ (by omega:k<l.length)]at he;simp at this;exact this he
  ·intro h
   have hv:(l.getD j default).V=(l.getD i default).V:=by rw[Ab _ _ _ hj];simpa using h1
   rcases Nat.lt_trichotomy j i with hlt|rfl|hgt
   ·exact absurd hv (h j hlt)
   ·rfl
   ·have:=h2 i hgt;rw[<- Ab l i default hi]at this;simp at this
theorem iZ(l:List TDef)(v:Int):B6 (dv l) v=l.any λd=>v==d.V:=by
 rw[Tk,dv,List.any_map];rfl
theorem DT:∀(ds pre:List TDef),(Ga (dv pre) ds).1=(List.range' pre.length ds.length).all (K7 (pre++ds))/\((Ga (dv pre) ds).1=true->(Ga (dv pre) ds).2=dv (pre++ds))
 | [],pre=>by simp[Ga]
 | d::ds,pre=>by
  have hi:pre.length<(pre++d::ds).length:=by simp
  have hg:(pre++d::ds).getD pre.length default=d:=by simp[List.getD]
  have hj:∀ j,j<pre.length->(pre++d::ds).getD j default=pre.getD j default:=λj h=>by simp[List.getD,Vy h]
  have hok:K7 (pre++d::ds) pre.length = !HC (dv pre) d.V:=by
   rw[Ms,Uz hi,hg];unfold HC valS;rw[iZ];simp only[Ph,GN,KK,List.any_eq_false,zzL61,A6,Du]
   constructor
   ·rintro⟨⟨h1,h2⟩,h3⟩;refine⟨⟨λx hx he=>?_,by omega⟩,by omega⟩;obtain⟨j,hjl,rfl⟩:=Lq hx;have:=h3 j hjl;rw[hj j hjl,Ab _ _ _ hjl]at this;exact this he.symm
   ·rintro⟨⟨h1,h2⟩,h3⟩;refine⟨⟨by omega,by omega⟩,λj hjl he=>?_⟩;rw[hj j hjl,Ab _ _ _ hjl]at he;exact h1 _ (Yo hjl) he.symm
  rw[Nc,Yn,Pi,hok];simp only[Ga]
  cases hb:HC (dv pre) d.V with
  | true=>exact⟨rfl,λh=>by cases h⟩
  | false=>
   have hn:B6 (dv pre) d.V=false:=by
    unfold HC at hb;simp only[GN]at hb;exact hb.1.1
   have hs:Et (dv pre) d.V (CG d)=dv (pre++[d]):=by rw[Ux _ _ hn,dv,dv,V2];rfl
   have:=DT ds (pre++[d]);rw[Em,Ym,List.singleton_append]at this;rw[Az,hs,Lh,Hn];exact this
def pv(f:Aa)(n:Nat):List (Int×Aj):=(List.range n).map λ(j:Nat)=>((j:Int)+1,⟨(f.Params.getD j 0,1),⟨0,-1⟩⟩)
theorem mn(f:Aa):pv f f.Params.length=dv (Lm f):=by
 unfold pv dv Lm;rw[List.map_flatMap]
 induction List.range f.Params.length with
 | nil=>rfl
 | cons a l ih=>rw[Bu,Ug,ih];rfl
theorem cn{f:Aa}(hf:OkF f):∀(k i:Nat),i+k=f.Params.length->Ah (Ed f) ((i:Int),pv f i)=some (pv f f.Params.length):=by
 intro k
 induction k with
 | zero=>
  intro i h
  obtain rfl:i=f.Params.length:=by omega
  exact Ai (by unfold Ed;simp)
 | succ k ih=>
  intro i h
  have hi:i<f.Params.length:=by omega
  have hd:decide ((i:Int)<(f.Params.length:Int))=true:=by simpa using hi
  have hn:B6 (pv f i) ((i:Int)+1)=false:=by
   rw[Tk,pv,List.any_map,List.any_eq_false];intro j hj;have:=zzL35.1 hj
   simp;omega
  have hs:Et (pv f i) ((i:Int)+1) ⟨(f.Params.getD i 0,1),⟨0,-1⟩⟩=pv f (i+1):=by
   rw[Ux _ _ hn,pv,pv,Sk,V2];rfl
  rw[Ao (s':=(((i+1:Nat):Int),pv f (i+1))) (by
   unfold Ed Dj;simp only[hd,Ae,Au (Bd hi),Do,Ar,D0 hi (by have:=hf.few;omega),hs]
   rfl)]
  exact ih (i+1) (by omega)
theorem cj{f:Aa}(hf:OkF f)(l:Int)(t:List Int)(u:List A8):∀(k i:Nat) (vs:List (Int×Aj)),i+k=f.Blocks.length->
  Ah (Di f) ((i:Int),vs,f.Params,f.Ret,f.Blocks,l,t,u)=some (bif (Ga vs ((List.range' i k).flatMap λi=>Kg (f.Blocks.getD i default) i)).1 then .inl ((Ga vs ((List.range' i k).flatMap λi=>Kg (f.Blocks.getD i default) i)).2,f.Params,f.Ret,f.Blocks,l,t,u) else
   .inr (7,f,l,t,u,(Ga vs ((List.range' i k).flatMap λi=>Kg (f.Blocks.getD i default) i)).2)):=by
 intro k
 induction k with
 | zero=>
  intro i vs h
  obtain rfl:i=f.Blocks.length:=by omega
  rw[Ai (x:=.inl (vs,f.Params,f.Ret,f.Blocks,l,t,u)) (by unfold Di;simp)]
  rfl
 | succ k ih=>
  intro i vs h
  have hi:i<f.Blocks.length:=by omega
  have hd:decide ((i:Int)<(f.Blocks.length:Int))=true:=by simpa using hi
  have hx:=OR hf (getD_mem (d:=default) hi) i l t u vs;rw[Yn,Ug,Y1]
  cases hb:(Ga vs (Kg (f.Blocks.getD i default) i)).1 with
  | false=>
   rw[hb]at hx
   rw[Ai (x:=.inr (7,f,l,t,u,(Ga vs (Kg (f.Blocks.getD i default) i)).2)) (by
    unfold Di;simp only[hd,Ae,Au (Bd hi),Do];rw[show(⟨f.Params,f.Ret,f.Blocks⟩:Aa)=f from rfl,hx]
    rfl),Az,hb]
   rfl
  | true=>
   rw[hb]at hx
   rw[Ao (s':=(((i+1:Nat):Int),(Ga vs (Kg (f.Blocks.getD i default) i)).2,f.Params,f.Ret,f.Blocks,l,t,u)) (by
    unfold Di;simp only[hd,Ae,Au (Bd hi),Do];rw[show(⟨f.Params,f.Ret,f.Blocks⟩:Aa)=f from rfl,hx,D0 hi (by have:=hf.blocks;omega)]
    rfl),ih (i+1) _ (by omega),Ae]
theorem pf{f:Aa}(hf:OkF f):∀ i,i<f.Params.length->K7 (Ay f) i=true:=λi hi=>by
 have hl:=IP f
 have hg:∀ j,j<f.Params.length->(Ay f).getD j default=⟨(j:Int)+1,-1,0,(f.Params.getD j 0,1)⟩:=λj hj=>by
  have e:Lm f=(List.range f.Params.length).map λ(i:Nat)=>(⟨(i:Int)+1,-1,0,(f.Params.getD i 0,1)⟩:TDef):=by
   unfold Lm
   induction List.range f.Params.length with
   | nil=>rfl
   | cons a l ih=>rw[Bu,Ug,ih];rfl
  rw[Ay,List.getD,Vy (by omega),e];simp[hj]
 have hle:i<(Ay f).length:=by rw[Ay,Em];omega
 rw[Uz hle,hg i hi];refine⟨?_,λj hj=>?_⟩
 ·have:=hf.few;simp only[valS,A6,Du];omega
 ·rw[hg j (by omega)];simp only;omega
theorem ZJ{f:Aa}(hf:OkF f)(l:Int)(t:List Int)(u:List A8):∃ vs,Fb f l t u=some (bif (List.range (Ay f).length).all (K7 (Ay f)) then 0 else 7,f,l,t,u,vs)/\((List.range (Ay f).length).all (K7 (Ay f))=true->vs=dv (Ay f)):=by
 have hsp:=DT ((List.range f.Blocks.length).flatMap λi=>Kg (f.Blocks.getD i default) i) (Lm f)
 have hall:(List.range (Ay f).length).all (K7 (Ay f))=(Ga (dv (Lm f)) ((List.range f.Blocks.length).flatMap λi=>Kg (f.Blocks.getD i default) i)).1:=by
  rw[hsp.1]
  show(List.range (Ay f).length).all (K7 (Ay f))=(List.range' (Lm f).length _).all (K7 (Ay f))
  have hs:List.range (Ay f).length=List.range (Lm f).length++List.range' (Lm f).length ((List.range f.Blocks.length).flatMap λi=>Kg (f.Blocks.getD i default) i).length:=by
   rw[BN,BN,Ay,Em];have:=List.range'_append_1 (s:=0) (m:=(Lm f).length) (n:=((List.range f.Blocks.length).flatMap λi=>Kg (f.Blocks.getD i default) i).length);rw[Fp]at this;exact this.symm
  rw[hs,List.all_append];have:(List.range (Lm f).length).all (K7 (Ay f))=true:=zzL27.2 λi hi=>pf hf i (by rw[<- IP f];exact zzL35.1 hi);rw[this,Hn]
 unfold Fb;have hp:=cn hf f.Params.length 0 (by omega);have e0:pv f 0=[]:=rfl;rw[e0,show(((0:Nat):Int))=0 from rfl]at hp;rw[hp,Ar,mn];have hb:=cj hf l t u f.Blocks.length 0 (dv (Lm f)) (by omega);rw[show(((0:Nat):Int))=0 from rfl,<- BN]at hb;rw[hb,Ar,hall];refine⟨(Ga (dv (Lm f)) ((List.range f.Blocks.length).flatMap λi=>Kg (f.Blocks.getD i default) i)).2,?_,hsp.2⟩
 cases(Ga (dv (Lm f)) ((List.range f.Blocks.length).flatMap λi=>Kg (f.Blocks.getD i default) i)).1<;>rfl
theorem Uw{β S X:Type}(B:Nat)(mk:Int->List β->S)(out:List β->X)(n:Nat)(E:Nat->List β)(f:S->Option (LR S X))(hn:∀(acc:List β) (i:Nat),i<n->(acc++E i).length<=B->f (mk i acc)=some (.next (mk ((i:Int)+1) (acc++E i))))
  (hd:∀ acc:List β,f (mk n acc)=some (.done (out acc))):∀(k i:Nat) (acc:List β),i+k=n->(acc++(List.range' i k).flatMap E).length<=B->Ah f (mk i acc)=some (out (acc++(List.range' i k).flatMap E))
 | 0,i,acc,h,_=>by
  obtain rfl:i=n:=by omega
  rw[Ai (hd acc)]
  simp
 | k+1,i,acc,h,hB=>by
  have hi:i<n:=by omega
  rw[Yn,Ug,<- Ym]at hB ⊢;rw[Ao (hn acc i hi (by rw[Em]at hB;omega)),show((i:Int)+1)=((i+1:Nat):Int) by omega,Uw B mk out n E f hn hd k (i+1) _ (by omega) hB]
theorem PT{β γ:Type}(h:β->γ)(n:Nat)(g:Nat->β):(List.range' 0 n).flatMap (λj=>[h (g j)])=((List.range n).flatMap λj=>[g j]).map h:=by
 rw[List.map_flatMap,BN];rfl
theorem EO{β γ:Type}(h:β->γ)(n:Nat)(g:Nat->List β):(List.range' 0 n).flatMap (λj=>(g j).map h)=((List.range n).flatMap g).map h:=by
 rw[List.map_flatMap,BN]
def La(f:Aa)(b:Int):Int:=((f.Blocks.getD b.toNat default).Ops.length:Int)
def D4(f:Aa)(u:Mx):A8:=⟨u.V,u.Shape,⟨u.Block,bif u.At==1000 then La f u.Block else u.At⟩⟩
theorem WW(f:Aa)(l:Int)(t:List Int)(vs:List (Int×Aj))(v:Int)(s:Int×Int)(p:Ha)(u:List A8)(h:(u++[(⟨v,s,p⟩:A8)]).length<=10000000):Dq v s p f l t vs u=some (f,l,t,u++[⟨v,s,p⟩]):=by
 unfold Dq;rw[Ac (by rw[Em]at h;rw[NA];omega)]
theorem cl(f:Aa)(l:Int)(t:List Int)(vs:List (Int×Aj))(b:Int)(hb:Bv b f.Blocks.length)(u:List A8):Ek b f l t vs u=some (⟨b,La f b⟩,f,l,t,u):=by
 unfold Ek;rw[Ac hb];rfl
section
variable {f:Aa} (hf:OkF f) (l:Int) (t:List Int) (vs:List (Int×Aj))
include hf
theorem kh(i k:Nat)(hi:i<f.Blocks.length)(hk:k<(f.Blocks.getD i default).Phis.length)(hfit:((f.Blocks.getD i default).Phis.getD k default).Args.length<=((f.Blocks.getD i default).Phis.getD k default).From.length)
  (hin:∀ x∈((f.Blocks.getD i default).Phis.getD k default).From,Bv x f.Blocks.length) (u:List A8) (hB:(u++(Ld ((f.Blocks.getD i default).Phis.getD k default)).map (D4 f)).length<=10000000) :
  Ah (Dd f vs (i:Int) (k:Int)) ((0:Int),f.Params,f.Ret,f.Blocks,l,t,u)=some (f.Params,f.Ret,f.Blocks,l,t,u++(Ld ((f.Blocks.getD i default).Phis.getD k default)).map (D4 f)):=by
 have hlen:=eA hf (getD_mem (d:=(default:Ag)) hi) (getD_mem (d:=(default:E1)) hk)
 generalize hp:(f.Blocks.getD i default).Phis.getD k default=p at *
 have e:=PT (D4 f) p.Args.length λ(j:Nat)=>(⟨p.Args.getD j 0,p.From.getD j 0,1000,(p.Bits,1)⟩:Mx)
 have:=Uw 10000000 (λj u=>(j,f.Params,f.Ret,f.Blocks,l,t,u)) (λu=>(f.Params,f.Ret,f.Blocks,l,t,u)) p.Args.length (λ(j:Nat)=>[D4 f ⟨p.Args.getD j 0,p.From.getD j 0,1000,(p.Bits,1)⟩]) (Dd f vs (i:Int) (k:Int)) (λacc j hj hacc=>by
  unfold Dd Dj
  have hd:decide ((j:Int)<(p.Args.length:Int))=true:=by simpa using hj
  have hjf:j<p.From.length:=by omega
  simp only[Do,hp,hd,Ae,Au (Bd hj),Ar,Au (Bd hjf)];rw[show(⟨f.Params,f.Ret,f.Blocks⟩:Aa)=f from rfl,cl f l t vs _ (hin _ (getD_mem hjf)),Ar];simp only;have eu:D4 f ⟨p.Args.getD j 0,p.From.getD j 0,1000,(p.Bits,1)⟩=⟨p.Args.getD j 0,(p.Bits,1),⟨p.From.getD j 0,La f (p.From.getD j 0)⟩⟩:=rfl;rw[eu]at hacc ⊢
  rw[WW f l t vs _ _ _ acc hacc,Ar,D0 hj (by omega)]) (λacc=>by unfold Dd;simp only[Do,hp,show decide ((p.Args.length:Int)<(p.Args.length:Int))=false by simp,Az]) p.Args.length 0 u (by omega) (by rw[e];exact hB)
 rw[e]at this;exact this
theorem gy(i:Nat)(hi:i<f.Blocks.length)(hfit:∀ p∈(f.Blocks.getD i default).Phis,p.Args.length<=p.From.length/\∀ x∈p.From,Bv x f.Blocks.length)(u:List A8)(hB:(u++(Rz (f.Blocks.getD i default)).map (D4 f)).length<=10000000) :
  Ah (De f vs (i:Int)) ((0:Int),f.Params,f.Ret,f.Blocks,l,t,u)=some (f.Params,f.Ret,f.Blocks,l,t,u++(Rz (f.Blocks.getD i default)).map (D4 f)):=by
 have hBk:=hf.block _ (getD_mem (d:=(default:Ag)) hi);have e:=EO (D4 f) (f.Blocks.getD i default).Phis.length λ(k:Nat)=>Ld ((f.Blocks.getD i default).Phis.getD k default)
 have:=Uw 10000000 (λj u=>(j,f.Params,f.Ret,f.Blocks,l,t,u)) (λu=>(f.Params,f.Ret,f.Blocks,l,t,u)) (f.Blocks.getD i default).Phis.length (λ(k:Nat)=>(Ld ((f.Blocks.getD i default).Phis.getD k default)).map (D4 f)) (De f vs (i:Int)) (λacc k hk hacc=>by
  have hq:=hfit _ (getD_mem (d:=(default:E1)) hk);have h1:=kh hf l t vs i k hi hk hq.1 hq.2 acc hacc;unfold De
  have hd:decide ((k:Int)<((f.Blocks.getD i default).Phis.length:Int))=true:=by simpa using hk
  simp only[Do,hd,Ae,Au (Bd hk),h1,Ar,D0 hk (by have:=hBk.phis;omega)]) (λacc=>by unfold De;simp) (f.Blocks.getD i default).Phis.length 0 u (by omega) (by rw[e];exact hB)
 rw[e]at this;exact this
theorem mY(i k:Nat)(hi:i<f.Blocks.length)(hk:k<(f.Blocks.getD i default).Ops.length)(u:List A8)(hB:(u++(Me ((f.Blocks.getD i default).Ops.getD k default) i k).map (D4 f)).length<=10000000) :
  Ah (Df f vs (i:Int) (k:Int) (E8 ((f.Blocks.getD i default).Ops.getD k default))) ((0:Int),f.Params,f.Ret,f.Blocks,l,t,u)=some (f.Params,f.Ret,f.Blocks,l,t,u++(Me ((f.Blocks.getD i default).Ops.getD k default) i k).map (D4 f)):=by
 have hBk:=hf.block _ (getD_mem (d:=(default:Ag)) hi);have hlen:=GF (jt hf (getD_mem (d:=(default:Ag)) hi) (getD_mem (d:=(default:Bl)) hk));have hk512:=hBk.ops
 generalize hp:(f.Blocks.getD i default).Ops.getD k default=o at *
 have e:=PT (D4 f) (E8 o).length λ(j:Nat)=>(⟨o.Args.getD j 0,i,k,(E8 o).getD j (0,0)⟩:Mx)
 have:=Uw 10000000 (λj u=>(j,f.Params,f.Ret,f.Blocks,l,t,u)) (λu=>(f.Params,f.Ret,f.Blocks,l,t,u)) (E8 o).length (λ(j:Nat)=>[D4 f ⟨o.Args.getD j 0,i,k,(E8 o).getD j (0,0)⟩]) (Df f vs (i:Int) (k:Int) (E8 o)) (λacc j hj hacc=>by
  have hkk:((k:Int)==1000)=false:=by simp;omega
  have eu:D4 f ⟨o.Args.getD j 0,i,k,(E8 o).getD j (0,0)⟩=⟨o.Args.getD j 0,(E8 o).getD j (0,0),⟨(i:Int),(k:Int)⟩⟩:=by unfold D4;simp only[hkk,Az]
  rw[eu]at hacc ⊢;unfold Df
  have hd:decide ((j:Int)<((E8 o).length:Int))=true:=by simpa using hj
  have hja:j<o.Args.length:=by omega
  simp only[Do,hp,hd,Ae,Au (Bd hj),Au (Bd hja)]
  rw[show(⟨f.Params,f.Ret,f.Blocks⟩:Aa)=f from rfl,WW f l t vs _ _ _ acc hacc,Ar,D0 hj (by omega)]) (λacc=>by unfold Df;simp) (E8 o).length 0 u (by omega) (by rw[e];exact hB)
 rw[e]at this;exact this
theorem kg(i:Nat)(hi:i<f.Blocks.length)(u:List A8)(hB:(u++(Ry (f.Blocks.getD i default) i).map (D4 f)).length<=10000000) :
  Ah (Dg f vs (i:Int)) ((0:Int),f.Params,f.Ret,f.Blocks,l,t,u)=some (f.Params,f.Ret,f.Blocks,l,t,u++(Ry (f.Blocks.getD i default) i).map (D4 f)):=by
 have hmem:=getD_mem (d:=(default:Ag)) hi;have hBk:=hf.block _ hmem;have e:=EO (D4 f) (f.Blocks.getD i default).Ops.length λ(k:Nat)=>Me ((f.Blocks.getD i default).Ops.getD k default) i k
 have:=Uw 10000000 (λj u=>(j,f.Params,f.Ret,f.Blocks,l,t,u)) (λu=>(f.Params,f.Ret,f.Blocks,l,t,u)) (f.Blocks.getD i default).Ops.length (λ(k:Nat)=>(Me ((f.Blocks.getD i default).Ops.getD k default) i k).map (D4 f)) (Dg f vs (i:Int)) (λacc k hk hacc=>by
  have h1:=mY hf l t vs i k hi hk acc hacc;have ht:K1 ((f.Blocks.getD i default).Ops.getD k default)=some (E8 ((f.Blocks.getD i default).Ops.getD k default)):=UA _ (lJ hf hmem (getD_mem hk));unfold Dg
  have hd:decide ((k:Int)<((f.Blocks.getD i default).Ops.length:Int))=true:=by simpa using hk
  simp only[Do,hd,Ae,Au (Bd hk),ht,h1,Ar,D0 hk (by have:=hBk.ops;omega)]) (λacc=>by unfold Dg;simp) (f.Blocks.getD i default).Ops.length 0 u (by omega) (by rw[e];exact hB)
 rw[e]at this;exact this
theorem ZH (hfit : ∀ b ∈ f.Blocks, ∀ p ∈ b.Phis, p.Args.length ≤ p.From.length ∧ ∀ x ∈ p.From, Bv x f.Blocks.length) : Fa f l t vs [] = some (f, l, t, (D5 f).map (D4 f)) := by
  have e := EO (D4 f) f.Blocks.length fun (i : Nat) => T9 f (f.Blocks.getD i default) i; have hul := KF hf
  have := Uw 10000000 (fun j u => (j, f.Params, f.Ret, f.Blocks, l, t, u)) (fun u => (f.Params, f.Ret, f.Blocks, l, t, u)) f.Blocks.length (fun (i : Nat) => (T9 f (f.Blocks.getD i default) i).map (D4 f)) (Dh f vs) (fun acc i hi hacc => by
    have hmem := getD_mem (d := (default : Ag)) hi; unfold T9 at hacc ⊢; rw [V2, V2, ← Ym, ← Ym] at hacc ⊢; have l1 := hacc; simp only [Em, Nd] at l1; have h1 := gy hf l t vs i hi (hfit _ hmem) acc (by simp only [Em, Nd]; omega); have h2 := kg hf l t vs i hi (acc ++ (Rz (f.Blocks.getD i default)).map (D4 f)) (by simp only [Em, Nd]; omega); have hinb : Bv (i : Int) f.Blocks.length := Bd hi; unfold Dh Dj
    have hd : decide ((i : Int) < (f.Blocks.length : Int)) = true := by simpa using hi
    simp only [hd, Ae, Au (Bd hi), h1, Ar, h2, Do]; have hF : (⟨f.Params, f.Ret, f.Blocks⟩ : Aa) = f := rfl; have hw : Ap ((i : Int) + 1) = (i : Int) + 1 := D0 hi (by have := hf.blocks; omega); unfold U6 at hacc ⊢
    cases hz : ((f.Blocks.getD i default).End.Kind == 0) with
    | true =>
      have hz2 : ((f.Blocks.getD i default).End.Kind == 2) = false := by have : (f.Blocks.getD i default).End.Kind = 0 := by simpa using hz
                                                                         rw [this]; rfl
      rw [hz, hz2] at hacc; simp only [Ae, Az, hz2, List.append_nil, Bu, Cf] at hacc ⊢; rw [hF, cl f l t vs _ hinb, Ar]; simp only; rw [WW f l t vs _ _ _ _ (show (_ ++ [(⟨_, _, ⟨(i : Int), La f (i : Int)⟩⟩ : A8)]).length ≤ 10000000 from hacc), Ar, Ar, hw]
      rfl
    | false =>
      rw [hz] at hacc
      cases hz2 : ((f.Blocks.getD i default).End.Kind == 2) with
      | true =>
        rw [hz2] at hacc; simp only [Ae, Az, Uh, Bu, Cf] at hacc ⊢; rw [hF, cl f l t vs _ hinb, Ar]; simp only; rw [WW f l t vs _ _ _ _ (show (_ ++ [(⟨_, _, ⟨(i : Int), La f (i : Int)⟩⟩ : A8)]).length ≤ 10000000 from hacc), Ar, Ar, hw]
        rfl
      | false =>
        simp only [Az, Uh, Cf, List.append_nil, Ar, hw]) (fun acc => by unfold Dh; simp) f.Blocks.length 0 [] (by omega) (by rw [e]; simpa [D5] using (by omega : (D5 f).length ≤ 10000000))
  rw [e, Uh] at this; unfold Fa; rw [show (0 : Int) = ((0 : Nat) : Int) from rfl]
  show ((Ah (Dh f vs) (((0 : Nat) : Int), f.Params, f.Ret, f.Blocks, l, t, [])).bind _) = _
  rw [this, Ar]
  rfl
end
theorem gh{σ X:Type}(mk:Int->σ)(U:List A8)(p:A8->Bool)(f:σ->Option (LR σ X))(yes no:X)(hk:∀ i:Nat,i<U.length->f (mk i)=some (bif p (U.getD i default) then .next (mk ((i:Int)+1)) else .done no))(he:f (mk U.length)=some (.done yes)) :
  ∀ k i:Nat,i+k=U.length->Ah f (mk i)=some (bif (U.drop i).all p then yes else no)
 | 0,i,h=>by
  obtain rfl:i=U.length:=by omega
  rw[Ai he]
  simp
 | k+1,i,h=>by
  have hi:i<U.length:=by omega
  have hdr:U.drop i=U.getD i default::U.drop (i+1):=by rw[Pg hi,Ab _ _ _ hi]
  have hx:=hk i hi;rw[hdr,Pi]
  cases hp:p (U.getD i default) with
  | true=>
   rw[hp]at hx;rw[Ao hx,show((i:Int)+1)=((i+1:Nat):Int) by omega,gh mk U p f yes no hk he k (i+1) (by omega),Hn]
  | false=>
   rw[hp]at hx;rw[Ai hx]
   rfl
theorem DX(d:TDef)(l:List TDef)(v:Int):In (d::l) v=bif d.V==v then 0 else bif decide (In l v<0) then -1 else In l v+1:=by
 unfold In;rw[List.findIdx?_cons]
 cases d.V==v with
 | true=>rfl
 | false=>
  cases l.findIdx? (λd=>d.V==v) with
  | none=>rfl
  | some i=>
   simp only[Az,W1];rw[Dm (by omega)]
   simp
theorem EQ(v:Int):∀ l:List TDef,B6 (dv l) v = !decide (In l v<0)
 | []=>rfl
 | d::l=>by
  rw[DX]
  show((v==d.V) || B6 (dv l) v)=_
  rw[EQ v l,show(v==d.V)=(d.V==v) by rw[Ms];simp;exact Oh]
  cases d.V==v with
  | true=>rfl
  | false=>
   by_cases h:In l v<0
   ·simp[h]
   ·simp[h];omega
theorem Wo(v:Int):∀ l:List TDef,¬ In l v<0->mget (default:Aj) (dv l) v=CG (defOf l v)
 | [],h=>absurd (show(-1:Int)<0 by decide) h
 | d::l,h=>by
  unfold defOf;rw[DX]at h ⊢
  show(bif v==d.V then CG d else mget default (dv l) v)=_
  rw[show(v==d.V)=(d.V==v) by rw[Ms];simp;exact Oh]
  cases hb:d.V==v with
  | true=>rfl
  | false=>
   rw[hb]at h
   by_cases hn:In l v<0
   ·simp[hn]at h
   ·have hz:decide (In l v<0)=false:=Dm hn;simp only[Az,hz];rw[Wo v l hn,show(In l v+1).toNat=(In l v).toNat+1 by omega]
    rfl
def bi(f:Aa)(d:TDef):Prop:=d.Block = -1\/(Bv d.Block f.Blocks.length/\d.At<La f d.Block/\d.At<1000)
def jZ(f:Aa)(u:Mx):Prop:=Bv u.Block f.Blocks.length/\0<=u.At
theorem h9{f:Aa}(hf:OkF f):∀ d∈Ay f,bi f d:=λd hd=>by
 rcases zzL11.1 hd with h|h
 ·obtain⟨i,_,hi⟩:=zzL57.1 h;rw[zzL15.1 hi];exact .inl rfl
 ·obtain⟨i,hi,h⟩:=zzL57.1 h
  have hi:i<f.Blocks.length:=by simpa using hi
  have hB:=hf.block _ (getD_mem (d:=(default:Ag)) hi);have ho:La f (i:Int)=((f.Blocks.getD i default).Ops.length:Int):=rfl;rcases zzL11.1 h with h|h
  ·obtain⟨k,hk,h⟩:=zzL57.1 h;rw[zzL15.1 h];refine .inr ⟨Bd hi,?_,?_⟩
   ·show(-1:Int)<La f (i:Int);rw[ho];omega
   ·show(-1:Int)<1000;omega
  ·obtain⟨k,hk,h⟩:=zzL57.1 h
   have hk:k<(f.Blocks.getD i default).Ops.length:=by simpa using hk
   cases hg:decide (0<(G2 ((f.Blocks.getD i default).Ops.getD k default)).1) with
   | false=>rw[hg]at h;cases h
   | true=>
    rw[hg]at h;rw[zzL15.1 h];refine .inr ⟨Bd hi,?_,?_⟩
    ·show(k:Int)<La f (i:Int);rw[ho];omega
    ·show(k:Int)<1000;have:=hB.ops;omega
theorem jM{f:Aa}(hfit:∀ b∈f.Blocks,∀ p∈b.Phis,p.Args.length<=p.From.length/\∀ x∈p.From,Bv x f.Blocks.length):∀ u∈D5 f,jZ f u:=λu hu=>by
 obtain⟨i,hi,h⟩:=zzL57.1 hu
 have hi:i<f.Blocks.length:=by simpa using hi
 have hmem:=getD_mem (d:=(default:Ag)) hi;rcases zzL11.1 h with h|h
 ·rcases zzL11.1 h with h|h
  ·obtain⟨k,hk,h⟩:=zzL57.1 h
   have hk:k<(f.Blocks.getD i default).Phis.length:=by simpa using hk
   obtain⟨j,hj,h⟩:=zzL57.1 h;have hj:=zzL35.1 hj;have hq:=hfit _ hmem _ (getD_mem (d:=(default:E1)) hk);rw[zzL15.1 h];exact⟨hq.2 _ (getD_mem (by omega)),by show(0:Int)<=1000;omega⟩
  ·obtain⟨k,hk,h⟩:=zzL57.1 h;obtain⟨j,hj,h⟩:=zzL57.1 h;rw[zzL15.1 h];exact⟨Bd hi,by show(0:Int)<=(k:Int);omega⟩
 ·unfold U6 at h
  have:u=⟨(f.Blocks.getD i default).End.Arg,i,1000,(f.Ret,1)⟩\/u=⟨(f.Blocks.getD i default).End.Arg,i,1000,(1,1)⟩:=by
   rcases zzL11.1 h with h|h
   ·cases hz:((f.Blocks.getD i default).End.Kind==0) with
    | true=>rw[hz]at h;exact .inl (zzL15.1 h)
    | false=>rw[hz]at h;cases h
   ·cases hz:((f.Blocks.getD i default).End.Kind==2) with
    | true=>rw[hz]at h;exact .inr (zzL15.1 h)
    | false=>rw[hz]at h;cases h
  rcases this with rfl|rfl<;>exact⟨Bd hi,by show(0:Int)<=1000;omega⟩
theorem kw{f:Aa}(h:Gb f=true):∀ b∈f.Blocks,∀ p∈b.Phis,p.Args.length<=p.From.length/\∀ x∈p.From,Bv x f.Blocks.length:=λb hb p hp=>by
 have hs:Oe f=true:=by simp only[Gb,A6]at h;exact h.1
 refine⟨bM h b hb p hp,λx hx=>?_⟩;obtain⟨i,hi,rfl⟩:=Lq hb;simp only[Gb,A6]at h;have h1:=cJ h.2 i hi;simp only[Qr,A6,zzL27]at h1;rw[Ab _ _ _ hi]at h1;have h2:=h1.2 p hp;simp only[Hh,A6,Du]at h2;rw[h2.1]at hx;obtain⟨q,rfl,hq,_⟩:=(X9 (L:=Eu f) (Tz hs) (y:=i) (by rw[Yd];exact hi)).1 hx;exact Bd (by rw[Yd]at hq;exact hq)
theorem UN{f:Aa}(h:Gb f=true){b:Int}(hb:Bv b f.Blocks.length):N9 (B4 f) 0 b=true:=by
 have hs:Oe f=true:=by simp only[Gb,A6]at h;exact h.1
 have hm:=Tz hs;have hlen:=Yd f
 have hpos:0<(Eu f).length:=by have:=(shape_iff.1 hs).1.1;omega
 obtain⟨P,hP,o,ht⟩:=bQ hm hpos
 have e:B4 f=Yh (Eu f) 0:=by
  unfold B4 RM;rw[if_pos ⟨PU hm,Int.le_refl _,by show(0:Int)<((Eu f).length:Int);omega⟩]
  rfl
 obtain⟨k,rfl⟩:∃ k:Nat,b=(k:Int):=⟨b.toNat,(V0 hb.1).symm⟩
 have hk:k<f.Blocks.length:=by have:=hb.2;omega
 simp only[Gb,A6]at h;have h1:=cJ h.2 k hk;simp only[Qr,A6]at h1;have hr:Rch (sN (Eu f)) 0 k:=(Ya (Vt hm) hpos k).1 h1.1.1;rw[e];refine(ht.over_dom o hpos (by omega)).2 ⟨rc_iff.2 hr,λha=>?_⟩;exact(av_iff.1 ha).1 rfl
theorem S8{l:List Mx}{g:Mx->A8}{p:A8->Bool}{q:Mx->Bool}(h:∀ u∈l,p (g u)=q u):(l.map g).all p=l.all q:=by
 induction l with
 | nil=>rfl
 | cons a l ih=>rw[Bu,Pi,Pi,h a (by simp),ih λu hu=>h u (by simp[hu])]
def iB(vs:List (Int×Aj))(u:A8):Bool:=((mget (default:Aj) vs u.v).shape.1==u.shape.1)&&(((mget (default:Aj) vs u.v).shape.2==u.shape.2)&&true)
def Wf(vs:List (Int×Aj))(t:List Int)(u:A8):Bool:=bif (mget (default:Aj) vs u.v).place.block==u.place.block then decide ((mget (default:Aj) vs u.v).place.at_<u.place.at_) else N9 t (mget (default:Aj) vs u.v).place.block u.place.block
theorem cH{f:Aa}(hs:Gb f=true){D:List TDef}(hD:∀ d∈D,bi f d){u:Mx}(hu:jZ f u)(hfd:K8 D u=true):Wf (dv D) (B4 f) (D4 f u)=Vo D (B4 f) u:=by
 have hF:¬ In D u.V<0:=by simpa [K8] using hfd
 have hin:=PD hF;have hd:bi f (defOf D u.V):=hD _ (by unfold defOf;exact getD_mem (by have:=hin.1;have:=hin.2;omega));have hg:mget (default:Aj) (dv D) (D4 f u).v=CG (defOf D u.V):=Wo u.V D hF;unfold Wf Vo;rw[hg]
 generalize defOf D u.V=d at *
 have hub:=hu.1.1
 have hul:0<=La f u.Block:=by unfold La;omega
 have hat:∀ a:Int,a<0\/(a<La f u.Block/\a<1000)->decide (a<(D4 f u).place.at_)=decide (a<u.At)\/a<0:=λa ha=>by
  rcases ha with ha|ha
  ·exact .inr ha
  ·refine .inl ?_
   show decide (a<bif u.At==1000 then La f u.Block else u.At)=_
   by_cases h:u.At=1000
   ·rw[h];simp only[show((1000:Int)==1000)=true from rfl,Ae];rw[Da ha.1,Da ha.2]
   ·have:(u.At==1000)=false:=by simpa using h
    rw[this];rfl
 have hpos:0<=(D4 f u).place.at_:=by
  show 0<=bif u.At==1000 then La f u.Block else u.At
  cases u.At==1000
  ·exact hu.2
  ·exact hul
 have hblk:(D4 f u).place.block=u.Block:=rfl;rw[hblk];rcases hd with hd|⟨hd1,hd2,hd3⟩
 ·have e:(CG d).place=⟨0,-1⟩:=by show gj d=_;unfold gj;rw[hd];rfl
  rw[e,hd,Da (show(-1:Int)<0 by decide)]
  show(bif (0:Int)==u.Block then decide ((-1:Int)<(D4 f u).place.at_) else N9 (B4 f) 0 u.Block)=_
  rw[Bool.true_or,Bool.true_or,UN hs hu.1,Da (show(-1:Int)<(D4 f u).place.at_ by omega)]
  cases(0:Int)==u.Block<;>rfl
 ·have hn:¬ d.Block<0:=by have:=hd1.1;omega
  have e:(CG d).place=⟨d.Block,d.At⟩:=by show gj d=_;unfold gj;rw[Dm hn];rfl
  rw[e,Dm hn,GQ]
  show(bif d.Block==u.Block then decide (d.At<(D4 f u).place.at_) else N9 (B4 f) d.Block u.Block)=_
  cases hb:d.Block==u.Block with
  | true=>
   have hbe:d.Block=u.Block:=by simpa using hb
   simp only[Ae,Hn,Fi,Ud,Bool.or_false];rcases hat d.At (.inr ⟨by rw[<- hbe];exact hd2,hd3⟩) with h|h
   ·exact h
   ·rw[Da (by omega),Da (by have:=hu.2;omega)]
  | false=>
   simp only[Az,Ud,GQ,Lh,Hn];unfold N9
   by_cases hm:Mj (B4 f) d.Block u.Block=d.Block
   ·rw[hm]
    have:(d.Block !=-2)=true:=by simp;omega
    simp[this]
   ·have:(Mj (B4 f) d.Block u.Block==d.Block)=false:=by simpa using hm
    simp[this,bne]
section
variable {f:Aa} (l:Int) (vs:List (Int×Aj))
def be(f:Aa)(l:Int)(U:List A8)(i:Int):Int×List Int×Int×List Ag×Int×List Int×List A8:=(i,f.Params,f.Ret,f.Blocks,l,B4 f,U)
def NX(f:Aa)(l:Int)(U:List A8):List Int×Int×List Ag×Int×List Int×List A8:=(f.Params,f.Ret,f.Blocks,l,B4 f,U)
theorem g5(U:List A8)(hU:U.length<9223372036854775808):Ah (C7 vs (f,l,B4 f,U)) (be f l U 0)=some (bif U.all (λu=>B6 vs u.v) then .inl (NX f l U) else .inr (NX f l U)):=by
 have:=gh (be f l U) U (λu=>B6 vs u.v) (C7 vs (f,l,B4 f,U)) (.inl (NX f l U)) (.inr (NX f l U)) (λi hi=>by
  unfold C7 be He
  have hd:decide ((i:Int)<(U.length:Int))=true:=by simpa using hi
  simp only[hd,Ae,Au (Bd hi),Do,Ar,D0 hi hU]
  cases B6 vs (U.getD i default).v<;>rfl) (by unfold C7 be;simp;rfl) U.length 0 (by omega)
 rw[Lr]at this;exact this
theorem g6(U:List A8)(hU:U.length<9223372036854775808):Ah (C8 vs U) (be f l U 0)=some (bif U.all (iB vs) then .inl (NX f l U) else .inr (NX f l U)):=by
 have:=gh (be f l U) U (iB vs) (C8 vs U) (.inl (NX f l U)) (.inr (NX f l U)) (λi hi=>by
  unfold C8 be Iq
  have hd:decide ((i:Int)<(U.length:Int))=true:=by simpa using hi
  simp only[hd,Ae,Au (Bd hi),Do,Ar,D0 hi hU];unfold iB
  cases(((mget (default:Aj) vs (U.getD i default).v).shape.1==(U.getD i default).shape.1)&&(((mget (default:Aj) vs (U.getD i default).v).shape.2==(U.getD i default).shape.2)&&true))<;>rfl) (by unfold C8 be;simp;rfl) U.length 0 (by omega)
 rw[Lr]at this;exact this
theorem g7(htl:(B4 f).length<=1000)(U:List A8)(hU:U.length<9223372036854775808):Ah (C9 vs U) (be f l U 0)=some (bif U.all (Wf vs (B4 f)) then .inl (NX f l U) else .inr (NX f l U)):=by
 have:=gh (be f l U) U (Wf vs (B4 f)) (C9 vs U) (.inl (NX f l U)) (.inr (NX f l U)) (λi hi=>by
  have hx:Fc (U.getD i default) f l (B4 f) vs U=some (Wf vs (B4 f) (U.getD i default),f,l,B4 f,U):=by
   unfold Fc Wf;rw[k6 htl]
   cases(mget (default:Aj) vs (U.getD i default).v).place.block==(U.getD i default).place.block<;>rfl
  unfold C9 be
  have hd:decide ((i:Int)<(U.length:Int))=true:=by simpa using hi
  simp only[hd,Ae,Au (Bd hi),Do];rw[show(⟨f.Params,f.Ret,f.Blocks⟩:Aa)=f from rfl,hx,Ar,D0 hi hU]
  cases Wf vs (B4 f) (U.getD i default)<;>rfl) (by unfold C9 be;simp;rfl) U.length 0 (by omega)
 rw[Lr]at this;exact this
end
def GJ(f:Aa):Int:=bif !(D5 f).all (K8 (Ay f)) then 7 else bif !(D5 f).all (X1 (Ay f)) then 6 else bif !(D5 f).all (Vo (Ay f) (B4 f)) then 7 else 0
theorem ks{f:Aa}(hf:OkF f)(hs:Gb f=true)(l:Int):∃ U,Gr f l (B4 f) (dv (Ay f)) []=some (GJ f,f,l,B4 f,U):=by
 have hfit:=kw hs;have hul:=KF hf
 have hsB:Oe f=true:=by simp only[Gb,A6]at hs;exact hs.1
 refine⟨(D5 f).map (D4 f),?_⟩
 have hU:((D5 f).map (D4 f)).length<9223372036854775808:=by rw[Nd];omega
 have h1:=g5 (f:=f) l (dv (Ay f)) _ hU;have h2:=g6 (f:=f) l (dv (Ay f)) _ hU;have h3:=g7 (f:=f) l (dv (Ay f)) (et hsB) _ hU;rw[S8 (q:=K8 (Ay f)) (λu _=>EQ u.V _)]at h1;unfold Gr GJ Px;rw[ZH hf l (B4 f) (dv (Ay f)) hfit,Ar];simp only;rw[show(Ah (C7 (dv (Ay f)) (f,l,B4 f,(D5 f).map (D4 f))) ((0:Int),f.Params,f.Ret,f.Blocks,l,B4 f,(D5 f).map (D4 f)))=_ from h1,Ar];have fin:∀ e:Int,Ah Ki (e,f.Params,f.Ret,f.Blocks,l,B4 f,(D5 f).map (D4 f))=some (e,f,l,B4 f,(D5 f).map (D4 f)):=λe=>Ai rfl
 cases hfd:(D5 f).all (K8 (Ay f)) with
 | false=>simp only[Az,Lh,Ae,NX,Ar,fin]
 | true=>
  have hmf:=zzL27.1 hfd
  rw[S8 (q:=X1 (Ay f)) (λu hu=>by
   have:=hmf u hu;simp only[K8,Ph,KK]at this;have hg:mget (default:Aj) (dv (Ay f)) (D4 f u).v=CG (defOf (Ay f) u.V):=Wo u.V _ this;unfold iB X1
   rw[hg];rfl)]at h2
  rw[S8 (q:=Vo (Ay f) (B4 f)) (λu hu=>cH hs (h9 hf) (jM hfit u hu) (hmf u hu))]at h3;simp only[Ae,Fi,Az,NX];rw[show(Ah (C8 (dv (Ay f)) ((D5 f).map (D4 f))) ((0:Int),f.Params,f.Ret,f.Blocks,l,B4 f,(D5 f).map (D4 f)))=_ from h2,Ar]
  cases(D5 f).all (X1 (Ay f)) with
  | false=>simp only[Az,Lh,Ae,NX,Ar,fin]
  | true=>
   simp only[Ae,Fi,Az,NX];rw[show(Ah (C9 (dv (Ay f)) ((D5 f).map (D4 f))) ((0:Int),f.Params,f.Ret,f.Blocks,l,B4 f,(D5 f).map (D4 f)))=_ from h3,Ar]
   cases(D5 f).all (Vo (Ay f) (B4 f)) with
   | false=>simp only[Az,Lh,Ae,NX,Ar,fin]
   | true=>simp only[Ae,Fi,Az,NX,Ar]
theorem WX{f:Aa}(h:Sm f)(l:Int)(h0:0<=l)(h2:l<=2):∃ t u vs,Er f l [] []=some (Cr f l,f,l,t,u,vs)/\(Cr f l=0->vs=dv (Ay f)):=by
 have hc:Cr f l=bif !Rk f then 4 else NH f l:=by
  unfold Cr;rw[Dm (by omega),Dm (by omega)];rfl
 rw[hc];unfold Er;rw[kr f h.1,Ar]
 cases hm:Rk f with
 | false=>exact⟨[],[],[],rfl,λh=>by cases h⟩
 | true=>
  have hf:=j0 h hm;simp only[Ae,Fi,Az,show((0:Int)!=0)=false from rfl,NH];obtain⟨t',hsh,hst⟩:=cp hf l [] [];rw[hsh,Ar]
  cases hs:Gb f with
  | false=>exact⟨t',[],[],rfl,λh=>by cases h⟩
  | true=>
   obtain rfl:=hst hs;simp only[Ae,Fi,Az,show((0:Int)!=0)=false from rfl];rw[gz hf l h0 h2,Ar]
   cases Py f l with
   | false=>exact⟨B4 f,[],[],rfl,λh=>by cases h⟩
   | true=>
    simp only[Ae,Fi,Az,show((0:Int)!=0)=false from rfl];obtain⟨vs,hd,hv⟩:=ZJ hf l (B4 f) [];rw[hd,Ar]
    cases hdd:(List.range (Ay f).length).all (K7 (Ay f)) with
    | false=>exact⟨B4 f,[],vs,rfl,λh=>by cases h⟩
    | true=>
     obtain rfl:=hv hdd;simp only[Ae,Fi,Az,show((0:Int)!=0)=false from rfl];obtain⟨U,hu⟩:=ks hf hs l;rw[hu,Ar];refine⟨B4 f,U,dv (Ay f),?_,λ_=>rfl⟩
     show(bif GJ f !=0 then some (GJ f,f,l,B4 f,U,dv (Ay f)) else some (0,f,l,B4 f,U,dv (Ay f)))=some (GJ f,f,l,B4 f,U,dv (Ay f))
     cases hz:GJ f !=0 with
     | true=>rfl
     | false=>
      have:GJ f=0:=by simpa using hz
      rw[this];rfl
theorem gu(f:Aa)(l:Int)(h:Sm f):Mb f l=some (Cr f l):=by
 unfold Mb
 by_cases h0:l<0
 ·rw[Da h0];unfold Cr;rw[Da h0];rfl
 ·by_cases h2:2<l
  ·rw[Dm h0,Da h2];unfold Cr;rw[Dm h0,Da h2];rfl
  ·obtain⟨t,u,vs,hw,_⟩:=WX h l (by omega) (by omega);rw[Dm h0,Dm h2,hw];rfl
def lone(e:Gh)(b r:Int):Aa:=⟨[b],r,[⟨[],[],e⟩]⟩
theorem pg{α:Type}(l:List α):(l.map λ_=>1).sum=l.length:=by induction l with|nil=>rfl|cons a l ih=>simp[ih];omega
def jF(l:List TDef):List (Int×(Int×Int)):=l.map λd=>(d.V,d.Shape)
theorem Wi{f:Aa}(h:(List.range (Ay f).length).all (K7 (Ay f))=true):((Ay f).map (·.V)).Nodup:=by
 rw[List.nodup_iff_pairwise_ne,List.pairwise_map,zzL99];intro i j hi hj hij he;have:=((Uz hj).1 (cJ h j hj)).2 i hij;rw[Ab _ _ _ hi,Ab _ _ _ hj]at this;exact this he
theorem FZ{x1:Int×Aa×Int×List Int×List A8×List (Int×Aj)}(D:List TDef)(hx:x1.2.2.2.2.2=dv D)(hn:(D.map (·.V)).Nodup):∀(τ:List Nat) (acc:List (Int×(Int×Int))),τ.Nodup->(∀ i∈τ,i<D.length)->(∀ i∈τ,B6 acc (D.getD i default).V=false)->
  T0 (Gp x1) Ig τ acc=some (acc++τ.map λi=>((D.getD i default).V,(D.getD i default).Shape))
 | [],acc,_,_,_=>by simp[T0,Ig]
 | i::τ,acc,hd,hin,hf=>by
  have hi:=hin i (by simp)
  have hg:(dv D).getD i ((0:Int),(default:Aj))=((D.getD i default).V,CG (D.getD i default)):=by
   unfold dv;simp[List.getD,hi]
  have hm:=Ux (D.getD i default).V (D.getD i default).Shape (hf i (by simp))
  have hstep:Gp x1 i acc=some (.next (acc++[((D.getD i default).V,(D.getD i default).Shape)])):=by
   unfold Gp;rw[hx,hg]
   show some (LR.next (Et acc (D.getD i default).V ((D.getD i default).Shape.1,(D.getD i default).Shape.2)))=_
   rw[show((D.getD i default).Shape.1,(D.getD i default).Shape.2)=(D.getD i default).Shape from rfl,hm]
  unfold T0;rw[hstep]
  show T0 _ _ τ _=_
  rw[FZ D hx hn τ _ (zzL77.1 hd).2 (λj hj=>hin j (by simp[hj])) (λj hj=>?_),Bu,Ym]
  ·rfl
  ·have h1:=hf j (by simp[hj]);rw[Tk]at h1 ⊢;rw[List.any_append,h1,GQ];have hj':=hin j (by simp[hj]);have hne:j≠i:=λe=>(zzL77.1 hd).1 (e▸hj)
   have:(D.getD j default).V≠(D.getD i default).V:=λe=>by
    rw[List.nodup_iff_pairwise_ne,List.pairwise_map,zzL99]at hn;rw[Ab _ _ _ hi,Ab _ _ _ hj']at e;rcases Nat.lt_or_gt_of_ne hne with h|h
    ·exact hn j i hj' hi h e
    ·exact hn i j hi hj' h e.symm
   simpa using this
theorem OS(f:Aa)(h:Sm f):∃ s,Kw f=some s/\bw f s:=by
 obtain⟨t,u,vs,hw,hv⟩:=WX h 2 (by omega) (by omega);unfold Kw;rw[hw,Ar]
 cases hc:(Cr f 2 !=0) with
 | true=>
  have hne:Cr f 2≠0:=by simpa using hc
  exact⟨[],rfl,λ_=>rfl,λe=>absurd e hne,λe=>absurd e hne,λe=>absurd e hne⟩
 | false=>
  have h0:Cr f 2=0:=by simpa using hc
  obtain rfl:=hv h0;have hz:=(Nv (f:=f) (l:=2) (by omega) (by omega)).1 h0
  have hall:(List.range (Ay f).length).all (K7 (Ay f))=true:=by
   have:=hz.2.2.2;unfold FT at this
   cases hb:(List.range (Ay f).length).all (K7 (Ay f)) with
   | true=>rfl
   | false=>rw[hb]at this;cases this
  have hn:=Wi hall
  have hlen:(mapE (λ(v_:Aj)=>((.agg (Qu v_)):AV)) (dv (Ay f))).length=(Ay f).length:=by simp[mapE,dv]
  have hkeys:((jF (Ay f)).map (·.1)).Nodup:=by
   have:(jF (Ay f)).map (·.1)=(Ay f).map (·.V):=by unfold jF;rw[List.map_map];rfl
   rw[this];exact hn
  have hrun:∀ τ:List Nat,τ.Perm (List.range (mapE (λ(v_:Aj)=>((.agg (Qu v_)):AV)) (dv (Ay f))).length)->∃ x',T0 (Gp (Cr f 2,f,2,t,u,dv (Ay f))) Ig τ ([]:List (Int×(Int×Int)))=some x'/\JR x' (jF (Ay f)):=λτ hτ=>by
   rw[hlen]at hτ;have hr:=FZ (x1:=(Cr f 2,f,2,t,u,dv (Ay f))) (Ay f) rfl hn τ [] (hτ.nodup_iff.2 List.nodup_range) (λi hi=>zzL35.1 (hτ.mem_iff.1 hi)) (λ_ _=>rfl);refine⟨_,hr,?_,hkeys⟩;rw[Uh];have:=hτ.map λi=>(((Ay f).getD i default).V,((Ay f).getD i default).Shape);refine this.trans ?_
   have e:(List.range (Ay f).length).map (λi=>(((Ay f).getD i default).V,((Ay f).getD i default).Shape))=jF (Ay f):=by
    unfold jF
    apply AA
    ·simp
    ·intro i h1 h2;simp only[Nd,V1]at h1;simp only[List.getElem_map,List.getElem_range,Ab _ _ _ h1]
   rw[e]
  obtain⟨s,hs⟩:=bB ⟨jF (Ay f),hrun⟩
  have hp:s.Perm (jF (Ay f))/\(s.map (·.1)).Nodup:=by
   have hsp:=BE hs (List.range _) (List.Perm.refl _);obtain⟨x',h1,h2⟩:=hsp;obtain⟨x2,h3,h4⟩:=hrun (List.range _) (List.Perm.refl _);rw[h1]at h3;obtain rfl:=OI h3;exact⟨h2.1.symm.trans h4.1,h2.2⟩
  refine⟨s,?_,λhne=>absurd h0 hne,λ_=>?_,λ_ d hd=>?_,λ_ v hv=>?_⟩
  ·show(Wr JR _ _ _ _).bind _=_
   rw[hs];rfl
  ·rw[hp.1.length_eq];simp[jF]
  ·have hm:(d.V,d.Shape)∈s:=hp.1.mem_iff.2 (zzL26.2 ⟨d,hd,rfl⟩);exact EP hp.2 hm
  ·rw[Tk,List.any_eq_true]at hv;obtain⟨q,hq,he⟩:=hv;obtain⟨d,hd,rfl⟩:=zzL26.1 (hp.1.mem_iff.1 hq);exact⟨d,hd,by simpa using(by simpa using he:v=d.V).symm⟩
abbrev bA(f:Aa)(i:Nat):Ag:=f.Blocks.getD i default
def pJ(f:Aa)(i:Nat)(k:Nat):Int:=(bA f i).End.To.getD k 0
structure Rt(f:Aa):Prop where
 lo:1<=f.Blocks.length
 hi:f.Blocks.length<=64
 to:∀ i,i<f.Blocks.length->∀ k,k<(bA f i).End.To.length->0<pJ f i k/\pJ f i k<f.Blocks.length
 one:∀ i,i<f.Blocks.length->(bA f i).End.Kind=1->(bA f i).End.To.length=1
 two:∀ i,i<f.Blocks.length->(bA f i).End.Kind=2->(bA f i).End.To.length=2
 may:L2 (Eu f)=true
 ok:OkF f
set_option maxRecDepth 100000
def pQ(f:Aa)(d:TDef)(b a:Int):Prop:=d.Block<0\/(d.Block=b/\d.At<a)\/(d.Block≠b/\N9 (B4 f) d.Block b=true)
theorem TP{l:List TDef}(hn:(l.map (·.V)).Nodup){d:TDef}(hd:d∈l):0<=In l d.V/\defOf l d.V=d:=by
 obtain⟨i,hi,rfl⟩:=Lq hd
 have hx:∃ k,l.findIdx? (λe=>e.V==l[i].V)=some k:=by
  cases h:l.findIdx? (λe=>e.V==l[i].V) with
  | some k=>exact⟨k,rfl⟩
  | none=>
   have:=List.findIdx?_eq_none_iff.1 h _ (Yo hi);simp at this
 obtain⟨k,hk⟩:=hx;obtain⟨hk1,hk2,_⟩:=List.findIdx?_eq_some_iff_getElem.1 hk
 have e:k=i:=by
  have h1:(l.map (·.V))[k]'(by simpa using hk1)=(l.map (·.V))[i]'(by simpa using hi):=by simpa using hk2
  exact(List.getElem_inj hn).1 h1
 subst e;unfold defOf In;rw[hk];refine⟨by simp,?_⟩
 show l.getD ((k:Int)).toNat default=l[k]
 rw[A4,Ab _ _ _ hi]
structure mR(f:Aa)(l:Int):Prop where
 may:Rk f=true
 shape:Gb f=true
 typed:Py f l=true
 rest:FT f=0
theorem jD{f:Aa}{l:Int}(hl:0<=l/\l<=2):Cr f l=0↔mR f l:=
 ⟨λh=>by obtain⟨a,b,c,d⟩:=(Nv hl.1 hl.2).1 h;exact⟨a,b,c,d⟩,λh=>(Nv hl.1 hl.2).2 ⟨h.1,h.2,h.3,h.4⟩⟩
section
variable {f:Aa} {l:Int} (R:mR f l)
include R
theorem eU{b:Ag}(hb:b∈f.Blocks){o:Bl}(ho:o∈b.Ops):G9 l o=true:=by
 have h:=R.typed;simp only[Py,Hp,A6,zzL27]at h;exact(h.1.2 b hb).2 o ho
theorem eT{b:Ag}(hb:b∈f.Blocks){o:Bl}(ho:o∈b.Ops):Hx o=true:=by
 have:=eU R hb ho;unfold G9 at this;simp only[A6]at this;exact this.1.1
theorem CZ:(List.range (Ay f).length).all (K7 (Ay f))=true/\(∀ u∈D5 f,K8 (Ay f) u=true)/\(∀ u∈D5 f,X1 (Ay f) u=true)/\∀ u∈D5 f,Vo (Ay f) (B4 f) u=true:=by
 have h:=R.rest;unfold FT at h
 cases h1:(List.range _).all _ with
 | false=>rw[h1]at h;cases h
 | true=>grind
theorem eS{d e:TDef}(hd:d∈Ay f)(he:e∈Ay f)(hv:d.V=e.V):d=e:=by
 have hn:=Wi (CZ R).1;have h1:=(TP hn hd).2;rw[hv,(TP hn he).2]at h1;exact h1.symm
theorem lN{d:TDef}(hd:d∈Ay f):valS d.V=true:=by
 obtain⟨i,hi,rfl⟩:=Lq hd;have:=((Uz hi).1 (cJ (CZ R).1 i hi)).1;rw[Ab _ _ _ hi]at this;exact this
theorem eV{u:Mx}(hu:u∈D5 f):∃ d∈Ay f,d.V=u.V/\d.Shape=u.Shape/\pQ f d u.Block u.At:=by
 obtain⟨_,h2,h3,h4⟩:=CZ R;have hf:=h2 u hu;have hfit:=h3 u hu;have hdom:=h4 u hu;unfold K8 at hf
 have hneg:¬ In (Ay f) u.V<0:=by simpa using hf
 have hin:=PD hneg;have hmem:defOf (Ay f) u.V∈Ay f:=getD_mem (by have:=hin.1;have:=hin.2;omega)
 have hV:(defOf (Ay f) u.V).V=u.V:=by
  unfold defOf;unfold In at hneg ⊢
  cases hx:(Ay f).findIdx? (λd=>d.V==u.V) with
  | none=>rw[hx]at hneg;exact absurd (by decide) hneg
  | some i=>
   obtain⟨hi,hp,_⟩:=List.findIdx?_eq_some_iff_getElem.1 hx
   show((Ay f).getD ((i:Int)).toNat default).V=_
   rw[A4,Ab _ _ _ hi]
   simpa using hp
 refine⟨_,hmem,hV,?_,?_⟩
 ·unfold X1 at hfit;simp only[A6,zzL61]at hfit;exact Prod.ext hfit.1 hfit.2.1
 ·unfold Vo at hdom;simp only[V3,A6,Du,zzL61,Ph,zzL25]at hdom;rcases hdom with(h|h)|⟨h,h'⟩
  ·exact .inl h
  ·exact .inr (.inl h)
  ·by_cases hb:(defOf (Ay f) u.V).Block<0
   ·exact .inl hb
   ·refine .inr (.inr ⟨h,?_⟩);rw[bne_eq_false_iff_eq]at h';unfold N9;rw[h',A6];exact⟨by simp,by rw[zzL88];omega⟩
end
theorem ri_def{f:Aa}{d:TDef}:d∈Ay f↔(∃ i,i<f.Params.length/\d=⟨(i:Int)+1,-1,0,(f.Params.getD i 0,1)⟩) \/
  ∃ i,i<f.Blocks.length/\((∃ k,k<(bA f i).Phis.length/\d=⟨((bA f i).Phis.getD k default).Dst,i,-1,(((bA f i).Phis.getD k default).Bits,1)⟩) \/
   ∃ k,k<(bA f i).Ops.length/\0<(G2 ((bA f i).Ops.getD k default)).1/\d=⟨((bA f i).Ops.getD k default).Dst,i,k,G2 ((bA f i).Ops.getD k default)⟩):=by
 unfold Ay Lm Kg Uq Y2;simp only[zzL11,zzL57,zzL35,zzL15]
 constructor
 ·rintro(h|⟨i,hi,⟨k,hk,h⟩|⟨k,hk,h⟩⟩)
  ·exact .inl h
  ·exact .inr ⟨i,hi,.inl ⟨k,hk,h⟩⟩
  ·refine .inr ⟨i,hi,.inr ⟨k,hk,?_⟩⟩
   cases hg:decide (0<(G2 ((f.Blocks.getD i default).Ops.getD k default)).1) with
   | true=>rw[hg]at h;exact⟨Qk hg,zzL15.1 h⟩
   | false=>rw[hg]at h;cases h
 ·rintro(h|⟨i,hi,⟨k,hk,h⟩|⟨k,hk,hg,h⟩⟩)
  ·exact .inl h
  ·exact .inr ⟨i,hi,.inl ⟨k,hk,h⟩⟩
  ·exact .inr ⟨i,hi,.inr ⟨k,hk,by rw[Da hg];exact zzL15.2 h⟩⟩
theorem KD{o:Bl}(hm:Hx o=true):(E8 o).length=o.Args.length/\∀ j,j<o.Args.length->(E8 o).getD j (0,0)=Xi o j:=by
 obtain⟨_,_,_,_,hn,_,_⟩:=Xv hm
 have ht:E8 o=L7 o:=by unfold E8;rw[hm];rfl
 have htl:(L7 o).length=o.Args.length:=by unfold L7;rw[Nd,V1];omega
 refine⟨by rw[ht,htl],λj hj=>?_⟩;rw[ht];unfold L7;rw[Ra (by omega)]
theorem XV {f : Aa} (hk : ∀ b ∈ f.Blocks, ∀ o ∈ b.Ops, Hx o = true) {u : Mx} : u ∈ D5 f ↔ ∃ i, i < f.Blocks.length ∧
    ((∃ k j, k < (bA f i).Phis.length ∧ j < ((bA f i).Phis.getD k default).Args.length ∧ u = ⟨((bA f i).Phis.getD k default).Args.getD j 0, ((bA f i).Phis.getD k default).From.getD j 0, 1000, (((bA f i).Phis.getD k default).Bits, 1)⟩) ∨
     (∃ k j, k < (bA f i).Ops.length ∧ j < ((bA f i).Ops.getD k default).Args.length ∧ u = ⟨((bA f i).Ops.getD k default).Args.getD j 0, i, k, Xi ((bA f i).Ops.getD k default) j⟩) ∨
     ((bA f i).End.Kind = 0 ∧ u = ⟨(bA f i).End.Arg, i, 1000, (f.Ret, 1)⟩) ∨ ((bA f i).End.Kind = 2 ∧ u = ⟨(bA f i).End.Arg, i, 1000, (1, 1)⟩)) := by
  unfold D5 T9 Rz Ld Ry Me U6; simp only [zzL11, zzL57, zzL35, zzL15]
  have hE : ∀ (k c : Int) (x : Mx), u ∈ (bif k == c then [x] else []) ↔ (k = c ∧ u = x) := fun k c x => by
    by_cases h : k = c
    · rw [zzL61.2 h]; simp [h]
    · rw [zzL25.2 h]; simp [h]
  simp only [hE]
  constructor
  · rintro ⟨i, hi, (⟨k, hk', j, hj, h⟩ | ⟨k, hk', j, hj, h⟩) | h⟩
    · exact ⟨i, hi, .inl ⟨k, j, hk', hj, h⟩⟩
    · obtain ⟨e1, e2⟩ := KD (hk _ (getD_mem (d := default) hi) _ (getD_mem (d := default) hk')); rw [e1] at hj; rw [e2 j hj] at h; exact ⟨i, hi, .inr (.inl ⟨k, j, hk', hj, h⟩)⟩
    · exact ⟨i, hi, .inr (.inr h)⟩
  · rintro ⟨i, hi, ⟨k, j, hk', hj, h⟩ | ⟨k, j, hk', hj, h⟩ | h⟩
    · exact ⟨i, hi, .inl (.inl ⟨k, hk', j, hj, h⟩)⟩
    · obtain ⟨e1, e2⟩ := KD (hk _ (getD_mem (d := default) hi) _ (getD_mem (d := default) hk')); exact ⟨i, hi, .inl (.inr ⟨k, hk', j, by rw [e1]; exact hj, by rw [e2 j hj]; exact h⟩)⟩
    · exact ⟨i, hi, .inr h⟩
def Lk:List Ax->Int->Int
 | [],_=>0
 | t::r,v=>bif t.V==v then t.Scale else Lk r v
def Es:Int->List Ax->Bool
 | _,[]=>true
 | lo,t::r=>(decide (lo<t.V)&&decide (t.V<=1023)&&!(t.Scale==0))&&Es t.V r
def Om(g:Int->Int):Nat->Nat->List Ax
 | _,0=>[]
 | a,n+1=>bif g (a:Int)==0 then Om g (a+1) n else⟨(a:Int),g (a:Int)⟩::Om g (a+1) n
def fq(g:Int->Int):List Ax:=Om g 1 1023
theorem Ws{g h:Int->Int}:∀{n a:Nat},(∀ v:Int,(a:Int)<=v->g v=h v)->Om g a n=Om h a n
 | 0,_,_=>rfl
 | n+1,a,e=>by
  unfold Om;rw[e a (Int.le_refl _),Ws (n:=n) (a:=a+1) λv hv=>e v (by omega)]
theorem Xe:∀{l:List Ax} {lo v:Int},Es lo l=true->v<=lo->Lk l v=0
 | [],_,_,_,_=>rfl
 | t::r,lo,v,h,hv=>by
  simp only[Es,A6,Du]at h;unfold Lk;rw[show(t.V==v)=false from zzL25.2 (by omega),Az];exact Xe h.2 (by omega)
theorem Ty:∀(n a:Nat) {l:List Ax},a+n=1024->Es ((a:Int)-1) l=true->Om (Lk l) a n=l
 | 0,a,[],_,_=>rfl
 | 0,a,t::r,h,hm=>by
  simp only[Es,A6,Du]at hm;omega
 | n+1,a,[],h,_=>by
  unfold Om;rw[show(Lk [] (a:Int)==0)=true from rfl,Ae];exact Ty n (a+1) (by omega) rfl
 | n+1,a,t::r,h,hm=>by
  have hm':=hm;simp only[Es,A6,Du,Ph,zzL25]at hm;obtain⟨⟨⟨h1,h2⟩,h3⟩,h4⟩:=hm;unfold Om
  by_cases e:t.V=a
  ·have e1:Lk (t::r) (a:Int)=t.Scale:=by unfold Lk;rw[e];simp
   rw[e1,show(t.Scale==0)=false from zzL25.2 h3,Az];rw[e]at h4
   have e2:Om (Lk (t::r)) (a+1) n=Om (Lk r) (a+1) n:=Ws λv hv=>by
    unfold Lk;rw[show(t.V==v)=false from zzL25.2 (by omega),Az]
    cases r<;>rfl
   rw[e2,Ty n (a+1) (by omega) (by rw[show(((a+1:Nat):Int)-1)=a by omega];exact h4),<- e]
  ·have e1:Lk (t::r) (a:Int)=0:=by
    unfold Lk;rw[show(t.V==(a:Int))=false from zzL25.2 e,Az];exact Xe h4 (by omega)
   rw[e1];simp only[BEq.rfl,Ae];refine Ty n (a+1) (by omega) ?_;simp only[Es,A6,Du,Ph,zzL25];exact⟨⟨⟨by omega,h2⟩,h3⟩,h4⟩
theorem cL{l:List Ax}(h:Es 0 l=true):fq (Lk l)=l:=Ty 1023 1 rfl h
theorem NB{g:Int->Int}:∀(n a:Nat) (lo:Int),lo<a->a+n<=1024->Es lo (Om g a n)=true
 | 0,_,_,_,_=>rfl
 | n+1,a,lo,h,h2=>by
  unfold Om
  cases e:g (a:Int)==0 with
  | true=>exact NB n (a+1) lo (by omega) (by omega)
  | false=>
   simp only[Az,Es,A6,Du,e,Lh,Bf];exact⟨⟨h,by omega⟩,NB n (a+1) a (by omega) (by omega)⟩
theorem gi(g:Int->Int):Es 0 (fq g)=true:=NB 1023 1 0 (by omega) (by omega)
theorem IC{g h:Int->Int}(e:∀ v:Int,1<=v->v<1024->g v=h v):fq g=fq h:=by
 have:∀ n a:Nat,1<=a->a+n<=1024->Om g a n=Om h a n:=by
  intro n
  induction n with
  | zero=>intros;rfl
  | succ n ih=>
   intro a h1 h2;unfold Om;rw[e a (by omega) (by omega),ih (a+1) (by omega) (by omega)]
 exact this 1023 1 (zzL7 _) (zzL7 _)
theorem II{x:A1}(hl:x.Terms.length<9223372036854775808):Fu x=some (Es 0 x.Terms):=by
 have key:∀(k i:Nat) (lo:Int),i+k=x.Terms.length->Ah (Hy x) (lo,(i:Int))=some (bif Es lo (x.Terms.drop i) then .inl () else .inr false):=by
  intro k
  induction k with
  | zero=>
   intro i lo h
   obtain rfl:i=x.Terms.length:=by omega
   rw[List.drop_length];exact Ai (by unfold Hy;simp only[Jk,Az];rfl)
  | succ k ih=>
   intro i lo h
   have hi:i<x.Terms.length:=by omega
   have hd:x.Terms.drop i=x.Terms.getD i default::x.Terms.drop (i+1):=by rw[Pg hi,Ab _ _ _ hi]
   rw[hd]
   have hs:Hy x (lo,(i:Int))=some (bif decide (lo<(x.Terms.getD i default).V)&&decide ((x.Terms.getD i default).V<=1023)&&!((x.Terms.getD i default).Scale==0) then .next ((x.Terms.getD i default).V,((i+1:Nat):Int)) else .done (.inr false)):=by
    unfold Hy;simp only[E9 hi,Ae,A4];rw[Ac (I8 hi),D0 hi hl]
    generalize x.Terms.getD i default=t
    have a1:decide (t.V<=lo) = !decide (lo<t.V):=by by_cases h:lo<t.V<;>simp[h]<;>omega
    have a2:decide ((1023:Int)<t.V) = !decide (t.V<=1023):=by by_cases h:t.V<=1023<;>simp[h]<;>omega
    rw[a1,a2]
    cases decide (lo<t.V)<;>cases decide (t.V<=1023)<;>cases(t.Scale==0)<;>rfl
   cases hb:(decide (lo<(x.Terms.getD i default).V)&&decide ((x.Terms.getD i default).V<=1023)&&!((x.Terms.getD i default).Scale==0)) with
   | true=>
    rw[hb,Ae]at hs;rw[Ao hs,ih (i+1) _ (by omega)];simp only[Es,hb,Hn]
   | false=>
    rw[hb,Az]at hs;rw[Ai hs];simp only[Es,hb,Ud,Az]
 unfold Fu;have:=key x.Terms.length 0 0 (by omega);rw[show(((0:Nat):Int))=0 from rfl,Lr]at this;rw[this]
 cases Es 0 x.Terms<;>rfl
def dW(l:List Ax):Int:=match l with|[]=>1024|t::_=>t.V
def ln(l:List Ax)(v:Int):Int×List Ax:=match l with|[]=>(0,[])|t::r=>bif t.V==v then(t.Scale,r) else(0,t::r)
theorem LV(l:List Ax):Cx l=some (dW l):=by
 cases l with
 | nil=>rfl
 | cons t r=>
  unfold Cx;rw[show((((t::r).length:Int))==0)=false from zzL25.2 (by simp;omega),Az,Ac ⟨by omega,by simp⟩]
  rfl
theorem WV(l:List Ax){v:Int}(hv:v<1024):Dc l v=some (ln l v):=by
 unfold Dc;rw[LV,Ar]
 cases l with
 | nil=>rw[show(dW []!=v)=true from zzL88.2 (by simp[dW];omega)];rfl
 | cons t r=>
  show(bif t.V !=v then _ else _)=some (bif t.V==v then _ else _)
  by_cases e:t.V=v
  ·rw[show(t.V !=v)=false by simp[e],show(t.V==v)=true by simp[e],Az,Ae,Ac ⟨by omega,by simp⟩,Ac ⟨by omega,by simp only[Nc];omega⟩]
   rfl
  ·rw[show(t.V !=v)=true by simp[e],show(t.V==v)=false by simp[e]]
   rfl
theorem j6{l:List Ax}{a:Int}(h:Es (a-1) l=true):(ln l a).1=Lk l a/\Es a (ln l a).2=true/\∀ v,a<v->Lk (ln l a).2 v=Lk l v:=by
 cases l with
 | nil=>exact⟨rfl,rfl,λ_ _=>rfl⟩
 | cons t r=>
  have h':=h;simp only[Es,A6,Du]at h
  show(bif t.V==a then(t.Scale,r) else(0,t::r)).1=_/\Es a (bif t.V==a then(t.Scale,r) else(0,t::r)).2=true/\∀ v,a<v->Lk (bif t.V==a then(t.Scale,r) else(0,t::r)).2 v=_
  by_cases e:t.V=a
  ·rw[show(t.V==a)=true by simp[e]];refine⟨by simp[Lk,e],by rw[<- e];exact h.2,λv hv=>?_⟩;simp only[Lk,show(t.V==v)=false from zzL25.2 (by omega),show(t.V==a)=true by simp[e],Ae,Az]
  ·rw[show(t.V==a)=false by simp[e]];refine⟨?_,?_,λv hv=>rfl⟩
   ·simp only[Az,Lk,show(t.V==a)=false by simp[e]];exact(Xe h.2 (by omega)).symm
   ·simp only[Az,Es,A6,Du];exact⟨⟨⟨by omega,h.1.1.2⟩,h.1.2⟩,h.2⟩
theorem jo{l:List Ax}{a:Int}(h:Es (a-1) l=true)(ha:a<=1024):a<=dW l:=by
 cases l with
 | nil=>exact ha
 | cons t r=>
  simp only[Es,A6,Du]at h
  show a<=t.V
  omega
theorem dl{l:List Ax}{a:Int}(h:Es (a-1) l=true)(hn:dW l≠a):Es a l=true:=by
 cases l with
 | nil=>rfl
 | cons t r=>
  simp only[Es,A6,Du]at h ⊢;have:t.V≠a:=hn;exact⟨⟨⟨by omega,h.1.1.2⟩,h.1.2⟩,h.2⟩
def lO{S X:Type}(g:Int->Int->Int)(mk:List Ax->List Ax->List Ax->S)(out:List Ax->X)(xs ys acc:List Ax):Option (LR S X):=
 bif bif decide ((0:Int)<(xs.length:Int)) then true else decide ((0:Int)<(ys.length:Int)) then
  (Cx xs).bind λp=>(Cx ys).bind λq=>(Dc xs (if q<p then q else p)).bind λu=>(Dc ys (if q<p then q else p)).bind λw=>
   bif g u.1 w.1 !=0 then Cd (acc.length+1<=room) (some (.next (mk u.2 w.2 (acc++[⟨if q<p then q else p,g u.1 w.1⟩])))) else some (.next (mk u.2 w.2 acc))
 else some (.done (out acc))
theorem Wm{S X:Type}(g:Int->Int->Int)(mk:List Ax->List Ax->List Ax->S)(out:List Ax->X)(f:S->Option (LR S X))(hf:∀ xs ys acc,f (mk xs ys acc)=lO g mk out xs ys acc)(h0:g 0 0=0) :
  ∀(n a:Nat) (xs ys acc:List Ax),a+n=1024->Es ((a:Int)-1) xs=true->Es ((a:Int)-1) ys=true->acc.length+n<=2000->
   Ah f (mk xs ys acc)=some (out (acc++Om (λv=>g (Lk xs v) (Lk ys v)) a n)):=by
 intro n
 induction n with
 | zero=>
  intro a xs ys acc h hx hy _
  have e:∀{l:List Ax},Es ((a:Int)-1) l=true->l=[]:=λ{l} hl=>by
   have:=Ty 0 a h hl;exact this.symm
  rw[e hx,e hy];refine Ai ?_;rw[hf];simp[lO,Om]
 | succ n ih=>
  intro a xs ys acc h hx hy hl;have hpa:=jo hx (by omega);have hqa:=jo hy (by omega)
  by_cases hh:dW xs=a\/dW ys=a
  ·have hv:(if dW ys<dW xs then dW ys else dW xs)=(a:Int):=by split<;>omega
   have hne:(bif decide ((0:Int)<(xs.length:Int)) then true else decide ((0:Int)<(ys.length:Int)))=true:=by
    rcases hh with e|e
    ·cases xs with
     | nil=>exact absurd e (by show ¬ ((1024:Int)=a);omega)
     | cons=>simp
    ·cases ys with
     | nil=>exact absurd e (by show ¬ ((1024:Int)=a);omega)
     | cons=>simp
   obtain⟨p1,p2,p3⟩:=j6 hx;obtain⟨q1,q2,q3⟩:=j6 hy
   have hs:f (mk xs ys acc)=some (.next (mk (ln xs a).2 (ln ys a).2 (acc++(bif g (Lk xs a) (Lk ys a)==0 then[] else[⟨(a:Int),g (Lk xs a) (Lk ys a)⟩])))):=by
    rw[hf];unfold lO;rw[hne,Ae,LV,LV];simp only[Ar,hv];rw[WV _ (by omega),WV _ (by omega)];simp only[Ar,p1,q1]
    cases hz:g (Lk xs a) (Lk ys a)==0 with
    | true=>rw[show(g (Lk xs a) (Lk ys a)!=0)=false by simp[bne,hz]];simp
    | false=>
     rw[show(g (Lk xs a) (Lk ys a)!=0)=true by simp[bne,hz],Ae,Ac (by unfold room;omega)]
     rfl
   rw[Ao hs];rw[ih (a+1) _ _ _ (by omega) (by rw[show(((a+1:Nat):Int)-1)=a by omega];exact p2) (by rw[show(((a+1:Nat):Int)-1)=a by omega];exact q2) (by cases g (Lk xs a) (Lk ys a)==0<;>simp<;>omega)];rw[Ws (n:=n) (a:=a+1) (h:=λv=>g (Lk xs v) (Lk ys v)) λv hv=>by rw[p3 v (by omega),q3 v (by omega)]]
   congr 2
   rw[Ym]
   congr 1
   conv=>rhs;unfold Om
   cases g (Lk xs a) (Lk ys a)==0<;>rfl
  ·have hx':=dl hx (by omega);have hy':=dl hy (by omega);rw[ih (a+1) xs ys acc (by omega) (by rw[show(((a+1:Nat):Int)-1)=a by omega];exact hx') (by rw[show(((a+1:Nat):Int)-1)=a by omega];exact hy') (by omega)]
   congr 3
   conv=>rhs;unfold Om
   rw[Xe hx' (Int.le_refl _),Xe hy' (Int.le_refl _),h0]
   rfl
def Nl(g:Int->Int->Int)(x y:A1):A1:=bif Es 0 x.Terms&&Es 0 y.Terms then⟨fq λv=>g (Lk x.Terms v) (Lk y.Terms v),g x.Off y.Off⟩ else⟨[],0⟩
def PY:A1:=⟨[],0⟩
def TC(a b:Int):Int:=C1 (a+b)
def GD(a b:Int):Int:=C1 (a-b)
def an(n a _b:Int):Int:=C1 (a*n)
theorem kl{x y:A1}(hx:x.Terms.length<9223372036854775808)(hy:y.Terms.length<9223372036854775808):L9 x y=some (Nl TC x y):=by
 unfold L9 M0 Nl;rw[II hx,II hy]
 cases h1:Es 0 x.Terms with
 | false=>rfl
 | true=>
  cases h2:Es 0 y.Terms with
  | false=>rfl
  | true=>
   simp only[Fi,BEq.rfl,Ae,Az,Ar,R0,Jy];rw[Wm TC (λa b c=>(a,b,c)) id N3 (λxs ys acc=>rfl) rfl 1023 1 x.Terms y.Terms [] rfl h1 h2 (by simp)]
   rfl
theorem WT{x y:A1}(hx:x.Terms.length<9223372036854775808)(hy:y.Terms.length<9223372036854775808):Ip x y=some (Nl GD x y):=by
 unfold Ip J7 Nl;rw[II hx,II hy]
 cases h1:Es 0 x.Terms with
 | false=>rfl
 | true=>
  cases h2:Es 0 y.Terms with
  | false=>rfl
  | true=>
   simp only[Fi,BEq.rfl,Ae,Az,Ar,R0,Ja];rw[Wm GD (λa b c=>(a,b,c)) id Ln (λxs ys acc=>rfl) rfl 1023 1 x.Terms y.Terms [] rfl h1 h2 (by simp)]
   rfl
theorem LX{x:A1}{n:Int}(hx:x.Terms.length<9223372036854775808):Hb x n=some (Nl (an n) x PY):=by
 unfold Hb J8 Nl;rw[II hx,II (x:=⟨[],0⟩) (by simp)]
 cases h1:Es 0 x.Terms with
 | false=>rfl
 | true=>
  simp only[Fi,BEq.rfl,Ae,Az,Ar,R0,Jb,Es,PY];rw[Wm (an n) (λa b c=>(a,b,c,n)) (λl=>(l,n)) Lo (λxs ys acc=>rfl) (by show C1 (0*n)=0;rw[Int.zero_mul];rfl) 1023 1 x.Terms [] [] rfl h1 rfl (by simp)]
  rfl
theorem XI{g:Int->Int->Int}{x y:A1}(hx:Es 0 x.Terms=true)(hy:Es 0 y.Terms=true):Nl g x y=⟨fq λv=>g (Lk x.Terms v) (Lk y.Terms v),g x.Off y.Off⟩:=by
 unfold Nl;rw[hx,hy];rfl
theorem dq(g:Int->Int->Int)(x y:A1):Es 0 (Nl g x y).Terms=true:=by
 unfold Nl
 cases Es 0 x.Terms&&Es 0 y.Terms with
 | false=>rfl
 | true=>rw[Ae];exact gi (λv=>g (Lk x.Terms v) (Lk y.Terms v))
theorem Tl{V:Type}(k v:Int)(x:V):∀ l:List (Int×V),B6 (Et l k x) v=(v==k || B6 l v)
 | []=>by simp[Et,B6]
 | (a,b)::r=>by
  unfold Et
  by_cases e:k=a
  ·subst e;simp only[BEq.rfl,Ae,B6]
   cases(v==k)<;>simp
  ·rw[show(k==a)=false by simp[e],Az];simp only[B6,Tl k v x r]
   cases(v==a)<;>cases(v==k)<;>simp
theorem Xx{V:Type}(d:V)(k v:Int)(x:V):∀ l:List (Int×V),mget d (Et l k x) v=bif v==k then x else mget d l v
 | []=>by simp only[Et,mget]
 | (a,b)::r=>by
  unfold Et
  by_cases e:k=a
  ·subst e;simp only[BEq.rfl,Ae,mget]
   cases(v==k)<;>rfl
  ·rw[show(k==a)=false by simp[e],Az];simp only[mget,Xx d k v x r]
   by_cases h:v=a
   ·subst h;rw[show(v==k)=false from zzL25.2 (Hk e)]
    simp
   ·rw[show(v==a)=false by simp[h]];rfl
def CF(v:Int):A1:=⟨[⟨v,1⟩],0⟩
def ia(k:Int)(a b:A1):Option A1:=
 bif k==1 then some (Nl TC a b) else bif k==2 then some (Nl GD a b)
 else bif (k==3)&&((b.Terms.length:Int)==0) then some (Nl (an b.Off) a PY) else bif (k==3)&&((a.Terms.length:Int)==0) then some (Nl (an a.Off) b PY)
 else bif ((k==8)&&((b.Terms.length:Int)==0))&&decide (b.Off<64) then some (Nl (an (UZ .u64 1 b.Off)) a PY) else none
def TX(k:Int):Bool:=k==0 || (k==1 || (k==2 || (k==3 || k==8)))
def dJ(v:Int):Option A1->A1
 | some y=>bif decide ((16:Int)<(y.Terms.length:Int)) then CF v else y
 | none=>CF v
def Oz(D:Int->Option Bl):Nat->Int->A1
 | 0,v=>CF v
 | n+1,v=>match D v with
  | none=>CF v
  | some o=>bif o.Kind==0 then⟨[],o.Imm⟩ else dJ v (ia o.Kind (Oz D n (o.Args.getD 0 0)) (Oz D n (o.Args.getD 1 0)))
structure fy(D:Int->Option Bl)(G:Int->Prop)(rk:Int->Nat):Prop where
 rng:∀ v,G v->1<=v/\v<=1023
 kind:∀ v o,G v->D v=some o->TX o.Kind=true
 args:∀ v o,G v->D v=some o->o.Kind≠0->o.Args.length=2/\(G (o.Args.getD 0 0)/\rk (o.Args.getD 0 0)<rk v)/\G (o.Args.getD 1 0)/\rk (o.Args.getD 1 0)<rk v
 imm:∀ v o,G v->D v=some o->0<=o.Imm
section
variable {D:Int->Option Bl} {G:Int->Prop} {rk:Int->Nat} (W:fy D G rk)
include W
theorem Xm:∀(n:Nat) (v:Int) (m:Nat),G v->rk v<n->rk v<m->Oz D n v=Oz D m v
 | 0,_,_,_,h,_=>absurd h (Mt _)
 | _,_,0,_,_,h=>absurd h (Mt _)
 | n+1,v,m+1,hg,h1,h2=>by
  unfold Oz
  cases hd:D v with
  | none=>rfl
  | some o=>
   by_cases h0:o.Kind=0
   ·simp[h0]
   ·obtain⟨_,⟨g0,r0⟩,g1,r1⟩:=W.args v o hg hd h0;simp only;rw[Xm n _ m g0 (by omega) (by omega),Xm n _ m g1 (by omega) (by omega)]
omit W in
theorem Zx(n:Int):0<=C1 n:=by rw[Lg];omega
omit W in
theorem js{k:Int}{a b y:A1}(h:ia k a b=some y):Es 0 y.Terms=true/\0<=y.Off:=by
 have key:∀(g:Int->Int->Int) (a b:A1),(∀ x y,0<=g x y)->Es 0 (Nl g a b).Terms=true/\0<=(Nl g a b).Off:=λg a b hg=>by
  refine⟨dq g a b,?_⟩;unfold Nl
  cases Es 0 a.Terms&&Es 0 b.Terms with
  | false=>exact Int.le_refl _
  | true=>exact hg _ _
 have e1:∀ x y,0<=TC x y:=λx y=>Zx _;have e2:∀ x y,0<=GD x y:=λx y=>Zx _;have e3:∀ n x y,0<=an n x y:=λn x y=>Zx _;unfold ia at h
 cases c1:k==1 with
 | true=>rw[c1]at h;cases h;exact key _ _ _ e1
 | false=>
  rw[c1,Az]at h
  cases c2:k==2 with
  | true=>rw[c2]at h;cases h;exact key _ _ _ e2
  | false=>
   rw[c2,Az]at h
   cases c3:(k==3)&&((b.Terms.length:Int)==0) with
   | true=>rw[c3]at h;cases h;exact key _ _ _ (e3 _)
   | false=>
    rw[c3,Az]at h
    cases c4:(k==3)&&((a.Terms.length:Int)==0) with
    | true=>rw[c4]at h;cases h;exact key _ _ _ (e3 _)
    | false=>
     rw[c4,Az]at h
     cases c5:((k==8)&&((b.Terms.length:Int)==0))&&decide (b.Off<64) with
     | true=>rw[c5]at h;cases h;exact key _ _ _ (e3 _)
     | false=>rw[c5]at h;cases h
omit W in
theorem lK{v:Int}(h1:1<=v)(h2:v<=1023):Es 0 (CF v).Terms=true/\0<=(CF v).Off/\(CF v).Terms.length<=16:=by
 refine⟨?_,Int.le_refl _,by simp[CF]⟩;simp only[CF,Es,AC,A6,Du];exact⟨⟨by omega,h2⟩,rfl⟩
theorem dN:∀(n:Nat) (v:Int),G v->Es 0 (Oz D n v).Terms=true/\0<=(Oz D n v).Off/\(Oz D n v).Terms.length<=16:=λn v hg=>by
 have ho:=lK (W.rng v hg).1 (W.rng v hg).2
 cases n with
 | zero=>exact ho
 | succ n=>
  unfold Oz
  cases hd:D v with
  | none=>exact ho
  | some o=>
   simp only
   cases h0:o.Kind==0 with
   | true=>exact⟨rfl,W.imm v o hg hd,by simp⟩
   | false=>
    rw[Az]
    cases hm:ia o.Kind (Oz D n (o.Args.getD 0 0)) (Oz D n (o.Args.getD 1 0)) with
    | none=>exact ho
    | some y=>
     unfold dJ;simp only
     by_cases hl:(16:Int)<(y.Terms.length:Int)
     ·rw[Da hl];exact ho
     ·rw[Dm hl];exact⟨(js hm).1,(js hm).2,by simp only[Az];omega⟩
end
theorem kZ{k:Int}{a b:A1}(ha:a.Terms.length<9223372036854775808)(hb:b.Terms.length<9223372036854775808)(h0:0<=b.Off) :
  Ju k a b=some (match ia k a b with|some y=>(y,true)|none=>(⟨[],0⟩,false)):=by
 unfold Ju ia Gn;rw[kl ha hb,WT ha hb,LX ha,LX hb,LX ha,Ac h0]
 by_cases k1:k=1
 ·subst k1;rfl
 ·by_cases k2:k=2
  ·subst k2;rfl
  ·rw[show(k==1)=false by simp[k1],show(k==2)=false by simp[k2]];simp only[Az]
   by_cases k3:k=3
   ·subst k3
    cases((b.Terms.length:Int)==0)<;>cases((a.Terms.length:Int)==0)<;>rfl
   ·rw[show(k==3)=false by simp[k3]]
    by_cases k8:k=8
    ·subst k8
     cases((b.Terms.length:Int)==0)<;>cases decide (b.Off<(64:Int))<;>rfl
    ·rw[show(k==8)=false by simp[k8]];rfl
def SW(M:List (Int×Bl))(D:Int->Option Bl)(G:Int->Prop):Prop:=∀ v,G v->B6 M v=(D v).isSome/\∀ o,D v=some o->mget default M v=o
section
variable {D:Int->Option Bl} {G:Int->Prop} {rk:Int->Nat} (W:fy D G rk)
include W
theorem ay{M:List (Int×Bl)}(hM:SW M D G):∀(r:Nat) (v:Int) (fd:List (Int×A1)),G v->rk v<r->(∀ x,G x->B6 fd x=true->mget default fd x=Oz D (rk x+1) x)->
  ∃ fd',(∀ n,2*r<=n->Bi n v M fd=some (Oz D (rk v+1) v,fd'))/\∀ x,G x->B6 fd' x=true->mget default fd' x=Oz D (rk x+1) x:=by
 intro r
 induction r with
 | zero=>intro v fd _ h;exact absurd h (Mt _)
 | succ r ih=>
  intro v fd hg hr hfd;have step:∀ fd':List (Int×A1),(∀ n,2*r<=n->B0 (Bi (n+1)) (B7 (n+1)) v M fd=some (Oz D (rk v+1) v,fd'))->
    ∀ n,2*(r+1)<=n->Bi n v M fd=some (Oz D (rk v+1) v,fd'):=λfd' h n hn=>by
   obtain⟨n,rfl⟩:∃ m,n=m+2:=⟨n-2,by omega⟩;exact h n (by omega)
  have fin:∀(s:Option (A1×Bool×List (Int×A1))) (y:A1) (b:Bool) (fd':List (Int×A1)),s=some (y,b,fd')->(bif (bif (!b) then true else decide ((16:Int)<(y.Terms.length:Int))) then CF v else y)=Oz D (rk v+1) v->
    (s.bind λx1=>(Option.bind (α:=(List (Ax)×Int)) (bif (bif (!x1.2.1) then true else(decide (((16:Int):Int)<(x1.1.Terms.length:Int)))) then(some ((([(⟨v,(1:Int)⟩:Ax)]:List (Ax)),(0:Int)))) else(some ((x1.1.Terms,x1.1.Off)))) (λx4=>(match x4 with|(l2,i3)=>(some ((⟨l2,i3⟩:A1),(Et x1.2.2 v (⟨l2,i3⟩:A1))))))))
    = some (Oz D (rk v+1) v,Et fd' v (Oz D (rk v+1) v)):=λs y b fd' hs hy=>by
   rw[hs,Ar,<- hy]
   cases b with
   | false=>rfl
   | true=>
    simp only[Fi,Az]
    cases decide ((16:Int)<(y.Terms.length:Int))<;>rfl
  have put:∀(fd':List (Int×A1)),(∀ x,G x->B6 fd' x=true->mget default fd' x=Oz D (rk x+1) x)->∀ x,G x->B6 (Et fd' v (Oz D (rk v+1) v)) x=true->mget default (Et fd' v (Oz D (rk v+1) v)) x=Oz D (rk x+1) x:=λfd' h x hx hh=>by
   rw[Xx]
   by_cases e:x=v
   ·subst e;simp
   ·rw[Tl,show(x==v)=false by simp[e],GQ]at hh;rw[show(x==v)=false by simp[e],Az];exact h x hx hh
  cases hh:B6 fd v with
  | true=>exact⟨fd,step fd (λn hn=>by unfold B0;rw[hh,Ae,hfd v hg hh]),hfd⟩
  | false=>
   obtain⟨hM1,hM2⟩:=hM v hg
   have hF:Oz D (rk v+1) v=match D v with
    | none=>CF v
    | some o=>bif o.Kind==0 then⟨[],o.Imm⟩ else dJ v (ia o.Kind (Oz D (rk v) (o.Args.getD 0 0)) (Oz D (rk v) (o.Args.getD 1 0))):=rfl
   have hsum:∀ n,B7 (n+1) v M fd=Cm (Bi n) (B7 n) v M fd:=λn=>rfl
   cases hd:D v with
   | none=>
    rw[hd]at hM1 hF;refine⟨_,step _ λn hn=>?_,put fd hfd⟩;unfold B0;rw[hh,Az,hsum];refine fin _ ⟨[],0⟩ false fd ?_ (by rw[hF];rfl);unfold Cm;rw[hM1]
    rfl
   | some o=>
    rw[hd]at hM1 hF;have hg2:=hM2 o hd
    by_cases h0:o.Kind=0
    ·refine⟨_,step _ λn hn=>?_,put fd hfd⟩;unfold B0;rw[hh,Az,hsum];refine fin _ ⟨[],o.Imm⟩ true fd ?_ (by rw[hF];dsimp only;rw[h0];rfl);unfold Cm;rw[hM1,hg2,h0]
     rfl
    ·obtain⟨hl,⟨g0,r0⟩,g1,r1⟩:=W.args v o hg hd h0;obtain⟨f1,a1,a2⟩:=ih _ fd g0 (by omega) hfd;obtain⟨f2,b1,b2⟩:=ih _ f1 g1 (by omega) a2;rw[Xm W _ _ (rk v) g0 (by omega) r0]at a1;rw[Xm W _ _ (rk v) g1 (by omega) r1]at b1;obtain⟨p1,p2,p3⟩:=dN W (rk v) _ g0;obtain⟨q1,q2,q3⟩:=dN W (rk v) _ g1;have hmade:=kZ (k:=o.Kind) (a:=Oz D (rk v) (o.Args.getD 0 0)) (b:=Oz D (rk v) (o.Args.getD 1 0)) (by omega) (by omega) q2
     have hrun:∀ n,2*r<=n->Cm (Bi n) (B7 n) v M fd=(Ju o.Kind (Oz D (rk v) (o.Args.getD 0 0)) (Oz D (rk v) (o.Args.getD 1 0))).bind λx5=>some (x5.1,x5.2,f2):=λn hn=>by
      unfold Cm;rw[hM1,hg2];simp only[Option.isSome_some,Fi,Az,show(o.Kind==(0:Int))=false from zzL25.2 h0];rw[Ac ⟨by omega,by omega⟩,show((0:Int)).toNat=0 from rfl,a1 n hn,Ar,Ac ⟨by omega,by omega⟩,show((1:Int)).toNat=1 from rfl];simp only;rw[b1 n hn,Ar]
     dsimp only at hF
     rw[show(o.Kind==0)=false from zzL25.2 h0,Az]at hF
     cases hm:ia o.Kind (Oz D (rk v) (o.Args.getD 0 0)) (Oz D (rk v) (o.Args.getD 1 0)) with
     | none=>
      rw[hm]at hF hmade;refine⟨_,step _ λn hn=>?_,put f2 b2⟩;unfold B0;rw[hh,Az,hsum,hrun n hn,hmade,Ar];exact fin _ ⟨[],0⟩ false f2 rfl (by rw[hF];rfl)
     | some y=>
      rw[hm]at hF hmade;refine⟨_,step _ λn hn=>?_,put f2 b2⟩;unfold B0;rw[hh,Az,hsum,hrun n hn,hmade,Ar];exact fin _ y true f2 rfl (by rw[hF];rfl)
theorem UP{M:List (Int×Bl)}(hM:SW M D G){v:Int}(hg:G v):∃ fd,Gm v M []=some (Oz D (rk v+1) v,fd):=by
 obtain⟨fd,h,_⟩:=ay W hM (rk v+1) v [] hg (Nat.lt_succ_self _) (λx _ h=>by cases h);exact⟨fd,iE _ λm hm=>h m hm⟩
end
section
variable {D:Int->Option Bl} {G:Int->Prop} {rk:Int->Nat} (W:fy D G rk)
include W
end
theorem NF{t:List Int}:∀{k:Nat} {a:Int} {q:List Int},upD t k a=some q->∀{m:Nat},k<=m->upD t m a=some q
 | 0,_,_,h,_,_=>by cases h
 | k+1,a,q,h,0,hm=>absurd hm (by omega)
 | k+1,a,q,h,m+1,hm=>by
  unfold upD at h ⊢
  split at h
  ·rename_i h1
   rw[if_pos h1]
   split at h
   ·rename_i h2
    rw[if_pos h2];exact h
   ·rename_i h2
    rw[if_neg h2]
    cases hu:upD t k (t.getD a.toNat 0) with
    | none=>rw[hu]at h;cases h
    | some q'=>rw[hu]at h;rw[NF hu (by omega:k<=m)];exact h
  ·cases h
theorem ez{t:List Int}:∀{k:Nat} {b a:Int} {q:List Int},upD t k b=some q->a∈q->a≠b->∃ q',upD t k a=some q'/\q'.length<q.length
 | 0,_,_,_,h,_,_=>by cases h
 | k+1,b,a,q,h,ha,hne=>by
  have h0:=h;unfold upD at h
  split at h
  ·split at h
   ·cases h;exact absurd (zzL15.1 ha) hne
   ·cases hu:upD t k (t.getD b.toNat 0) with
    | none=>rw[hu]at h;cases h
    | some q'=>
     rw[hu]at h;cases h;rcases zzL24.1 ha with e|hin
     ·exact absurd e hne
     ·by_cases e:a=t.getD b.toNat 0
      ·exact⟨q',by rw[e];exact NF hu (by omega),by simp⟩
      ·obtain⟨q2,h1,h2⟩:=ez hu hin e;exact⟨q2,NF h1 (by omega),by simp;omega⟩
  ·cases h
theorem MZ{t:List Int}{a b:Int}(h:N9 t a b=true)(hne:a≠b):(Ey t a).length<(Ey t b).length:=by
 unfold N9 at h;simp only[A6,zzL61,zzL88]at h;obtain⟨h1,h2⟩:=h;unfold Mj at h1 h2
 split at h1
 ·rename_i hr
  rw[if_pos hr]at h2
  cases hf:(Ey t a).find? λx=>(Ey t b).contains x with
  | none=>rw[hf]at h2;exact absurd rfl h2
  | some x=>
   rw[hf]at h1;obtain rfl:x=a:=h1;have hc:=List.find?_some hf
   have hin:x∈Ey t b:=by simpa using hc
   unfold Ey at hin ⊢
   cases hu:upD t t.length b with
   | none=>rw[hu]at hin;cases hin
   | some q=>
    rw[hu]at hin;obtain⟨q',g1,g2⟩:=ez hu hin hne;rw[g1];exact g2
 ·rename_i hr
  rw[if_neg hr]at h2;exact absurd rfl h2
def Gd(f:Aa)(v:Int):Prop:=∃ d∈Ay f,d.V=v/\d.Shape=(64,1)
def Ml(f:Aa):List Bl:=f.Blocks.flatMap (·.Ops)
def XO(f:Aa)(v:Int):Option Bl:=(Ml f).find? λo=>TX o.Kind&&o.Dst==v
def oa(f:Aa)(d:TDef):Nat:=if d.Block<0 then 0 else(Ey (B4 f) d.Block).length*((Ml f).length+5)+(d.At+2).toNat
def jv(f:Aa)(v:Int):Nat:=oa f (defOf (Ay f) v)
theorem opsA_mem{f:Aa}{o:Bl}:o∈Ml f↔∃ i,i<f.Blocks.length/\∃ k,k<(bA f i).Ops.length/\o=(bA f i).Ops.getD k default:=by
 unfold Ml;rw[zzL57]
 constructor
 ·rintro⟨b,hb,ho⟩;obtain⟨i,hi,rfl⟩:=Lq hb;obtain⟨k,hk,rfl⟩:=Lq ho;have e:bA f i=f.Blocks[i]:=Ab _ _ _ hi;refine⟨i,hi,k,by rw[e];exact hk,?_⟩;rw[e,Ab _ _ _ hk]
 ·rintro⟨i,hi,k,hk,rfl⟩;exact⟨bA f i,getD_mem hi,getD_mem hk⟩
theorem eF{f:Aa}{i:Nat}(hi:i<f.Blocks.length):(bA f i).Ops.length<=(Ml f).length:=by
 unfold Ml
 have:∀(l:List Ag) (b:Ag),b∈l->b.Ops.length<=(l.flatMap (·.Ops)).length:=by
  intro l
  induction l with
  | nil=>intro b h;cases h
  | cons x l ih=>
   intro b h;rw[Ug,Em];rcases zzL24.1 h with rfl|h
   ·omega
   ·have:=ih b h;omega
 exact this _ _ (getD_mem hi)
section
variable {f:Aa} (R:mR f 2)
include R
theorem UK{i k:Nat}(hi:i<f.Blocks.length)(hk:k<(bA f i).Ops.length):Hx ((bA f i).Ops.getD k default)=true:=eT R (getD_mem hi) (getD_mem hk)
theorem op_dst{o:Bl}(ho:o∈Ml f):o.Dst=0/\TX o.Kind=false\/∃ i k:Nat,i<f.Blocks.length/\k<(bA f i).Ops.length/\o=(bA f i).Ops.getD k default/\1<=o.Dst/\o.Dst<=1023/\(⟨o.Dst,(i:Int),(k:Int),Mz o.Kind o.Bits o.Lanes⟩:TDef)∈Ay f:=by
 obtain⟨i,hi,k,hk,e⟩:=opsA_mem.1 ho;have hm:=UK R hi hk;rw[<- e]at hm;obtain⟨m1,m2,m3,m4,m5,m6,m7⟩:=Xv hm
 by_cases hst:o.Kind=17\/o.Kind=19
 ·left
  have:(o.Kind==17 || o.Kind==19)=true:=by simpa using hst
  unfold dstS at m7;rw[this,Ae]at m7;refine⟨by simpa using m7,?_⟩;rcases hst with h|h<;>rw[h]<;>rfl
 ·right
  have hf:(o.Kind==17 || o.Kind==19)=false:=by simpa using hst
  unfold dstS at m7;rw[hf,Az]at m7;simp only[valS,A6,Du]at m7
  have hg:G2 o=Mz o.Kind o.Bits o.Lanes:=by unfold G2;rw[hm];rfl
  have hz:=EB (k:=o.Kind) m1;rw[hf]at hz
  have hpos:0<(G2 o).1:=by
   rw[hg];have hn:(Mz o.Kind o.Bits o.Lanes).1≠0:=zzL25.1 hz;have hb:=width_cases (shape_width m1);unfold Mz at hn ⊢;rw[hf,Az]at hn ⊢
   cases(o.Kind==10 || o.Kind==11 || o.Kind==12) with
   | true=>show(0:Int)<1;omega
   | false=>cases(o.Kind==22)<;>simp<;>omega
  refine⟨i,k,hi,hk,e,m7.1,m7.2,ri_def.2 (.inr ⟨i,hi,.inr ⟨k,hk,by rw[<- e];exact hpos,?_⟩⟩)⟩;rw[<- e,hg]
theorem eE{o o':Bl}(ho:o∈Ml f)(ho':o'∈Ml f)(h1:1<=o.Dst)(h:o.Dst=o'.Dst):o=o':=by
 rcases op_dst R ho with⟨h0,_⟩|⟨i,k,hi,hk,e,_,_,hd⟩
 ·omega
 ·rcases op_dst R ho' with⟨h0,_⟩|⟨i',k',hi',hk',e',_,_,hd'⟩
  ·omega
  ·have:=eS R hd hd' h;simp only[TDef.mk.injEq]at this;obtain⟨_,h2,h3,_⟩:=this
   have e1:i=i':=by omega
   have e2:k=k':=by omega
   rw[e,e',e1,e2]
theorem FF{o:Bl}(ho:o∈Ml f)(hk:TX o.Kind=true):XO f o.Dst=some o:=by
 unfold XO
 cases h:(Ml f).find? λx=>TX x.Kind&&x.Dst==o.Dst with
 | none=>
  have:=List.find?_eq_none.1 h o ho;simp[hk]at this
 | some x=>
  have hp:=List.find?_some h;simp only[A6,zzL61]at hp
  have h1:1<=x.Dst:=by
   rcases op_dst R (List.mem_of_find?_eq_some h) with⟨_,h0⟩|⟨i,k,hi,hk',e,h1,_,_⟩
   ·rw[hp.1]at h0;cases h0
   ·exact h1
  rw[eE R (List.mem_of_find?_eq_some h) ho h1 hp.2]
omit R in
theorem U1{v:Int}{o:Bl}(h:XO f v=some o):o∈Ml f/\TX o.Kind=true/\o.Dst=v:=by
 unfold XO at h;have hp:=List.find?_some h;simp only[A6,zzL61]at hp;exact⟨List.mem_of_find?_eq_some h,hp.1,hp.2⟩
theorem jx{d:TDef}(hd:d∈Ay f):jv f d.V=oa f d:=by
 unfold jv;rw[(TP (Wi (CZ R).1) hd).2]
theorem dI(hI:∀ o∈Ml f,0<=o.Imm):fy (XO f) (Gd f) (jv f):=by
 refine⟨λv ⟨d,hd,hv,_⟩=>?_,λv o _ h=>(U1 h).2.1,λv o ⟨d,hd,hv,hs⟩ h h0=>?_,λv o _ h=>hI o (U1 h).1⟩
 ·have:=lN R hd;simp only[valS,A6,Du]at this;rw[<- hv];exact this
 ·obtain⟨hm,hk,hdst⟩:=U1 h;rcases op_dst R hm with⟨_,h2⟩|⟨i,k,hi,hkk,e,h1,_,hde⟩
  ·rw[hk]at h2;cases h2
  ·have hdd:=eS R hd hde (by rw[hv,hdst]);have hmay:=UK R hi hkk;rw[<- e]at hmay;obtain⟨m1,m2,m3,m4,m5,m6,m7⟩:=Xv hmay
   have hk':o.Kind=1\/o.Kind=2\/o.Kind=3\/o.Kind=8:=by
    simp only[TX,V3,zzL61]at hk;omega
   have hgs:Mz o.Kind o.Bits o.Lanes=(o.Bits,o.Lanes):=by rcases hk' with h|h|h|h<;>rw[h]<;>rfl
   have hel:∀ j,Xi o j=(o.Bits,o.Lanes):=λj=>by unfold Xi;rcases hk' with h|h|h|h<;>rw[h]<;>rfl
   have hna:Lp o.Kind o.Lanes=2:=by rcases hk' with h|h|h|h<;>rw[h]<;>rfl
   rw[hdd]at hs;have hsh:(o.Bits,o.Lanes)=((64:Int),(1:Int)):=hgs.symm.trans hs
   have hlen:o.Args.length=2:=by omega
   have harg:∀ j,j<2->Gd f (o.Args.getD j 0)/\jv f (o.Args.getD j 0)<jv f v:=λj hj=>by
    have hu:(⟨o.Args.getD j 0,(i:Int),(k:Int),Xi o j⟩:Mx)∈D5 f:=by
     refine(XV (λb hb o ho=>eT R hb ho)).2 ⟨i,hi,.inr (.inl ⟨k,j,hkk,by rw[<- e];omega,by rw[<- e]⟩)⟩
    obtain⟨d',hd',hv',hs',ht⟩:=eV R hu;have hv':d'.V=o.Args.getD j 0:=hv';refine⟨⟨d',hd',hv',by rw[hs',<- hsh];exact hel j⟩,?_⟩;rw[<- hv',jx R hd',<- hv,jx R hd,hdd];unfold oa
    have hbn:¬ ((⟨o.Dst,(i:Int),(k:Int),Mz o.Kind o.Bits o.Lanes⟩:TDef).Block<0):=by show ¬ ((i:Int)<0);omega
    rw[if_neg hbn];have ht:d'.Block<0\/(d'.Block=(i:Int)/\d'.At<(k:Int))\/(d'.Block≠(i:Int)/\N9 (B4 f) d'.Block (i:Int)=true):=ht
    show(if d'.Block<0 then 0 else _)<(Ey (B4 f) (i:Int)).length*_+((k:Int)+2).toNat
    split
    ·omega
    ·rename_i hb
     rcases ht with h|⟨h,ha⟩|⟨h,ho⟩
     ·exact absurd h hb
     ·rw[h]
      have:(d'.At+2).toNat<((k:Int)+2).toNat:=by omega
      omega
     ·have hsh:=MZ ho h
      have hat:(d'.At+2).toNat<=(Ml f).length+2:=by
       rcases ri_def.1 hd' with⟨p,hp,rfl⟩|⟨p,hp,⟨q,hq,rfl⟩|⟨q,hq,_,rfl⟩⟩
       ·show((0:Int)+2).toNat<=_;simp
       ·show((-1:Int)+2).toNat<=_;simp
       ·show((q:Int)+2).toNat<=_
        have:=eF hp;omega
      have hmul:((Ey (B4 f) d'.Block).length+1)*((Ml f).length+5)<=(Ey (B4 f) (i:Int)).length*((Ml f).length+5):=Dt _ hsh;rw[D9]at hmul;omega
   exact⟨hlen,harg 0 (by omega),harg 1 (by omega)⟩
theorem kq(hb:f.Blocks.length<9223372036854775808)(hl:∀ b∈f.Blocks,b.Ops.length<9223372036854775808):∃ M,Ma f=some M/\SW M (XO f) (Gd f):=by
 let st (M:List (Int×Bl)) (o:Bl):List (Int×Bl):=bif TX o.Kind then Et M o.Dst o else M
 have inner:∀(i:Nat),i<f.Blocks.length->∀(k j:Nat) (M:List (Int×Bl)),j+k=(bA f i).Ops.length->Ah (Hc f (i:Int)) ((j:Int),M)=some (((bA f i).Ops.drop j).foldl st M):=by
  intro i hi k;have hlen:=hl _ (getD_mem hi:bA f i∈f.Blocks)
  induction k with
  | zero=>
   intro j M h
   obtain rfl:j=(bA f i).Ops.length:=by omega
   rw[List.drop_length];refine Ai ?_;unfold Hc;simp only[A4];rw[show f.Blocks.getD i default=bA f i from rfl,Jk]
   rfl
  | succ k ih=>
   intro j M h
   have hj:j<(bA f i).Ops.length:=by omega
   have hd:(bA f i).Ops.drop j=(bA f i).Ops.getD j default::(bA f i).Ops.drop (j+1):=by rw[Pg hj,Ab _ _ _ hj]
   have hs:Hc f (i:Int) ((j:Int),M)=some (.next (((j+1:Nat):Int),st M ((bA f i).Ops.getD j default))):=by
    unfold Hc;simp only[A4];rw[show f.Blocks.getD i default=bA f i from rfl,E9 hj,Ae,Ac (I8 hj),D0 hj hlen]
    generalize (bA f i).Ops.getD j default=o
    simp only[st,TX]
    cases(o.Kind==0)<;>cases(o.Kind==1)<;>cases(o.Kind==2)<;>cases(o.Kind==3)<;>cases(o.Kind==8)<;>rfl
   rw[Ao hs,ih (j+1) _ (by omega),hd,List.foldl_cons]
 have outer:∀(k i:Nat) (M:List (Int×Bl)),i+k=f.Blocks.length->Ah (Hd f) ((i:Int),M)=some (((f.Blocks.drop i).flatMap (·.Ops)).foldl st M):=by
  intro k
  induction k with
  | zero=>
   intro i M h
   obtain rfl:i=f.Blocks.length:=by omega
   rw[List.drop_length];exact Ai (by unfold Hd;simp only[Jk,Az];rfl)
  | succ k ih=>
   intro i M h
   have hi:i<f.Blocks.length:=by omega
   have hd:f.Blocks.drop i=bA f i::f.Blocks.drop (i+1):=by rw[Pg hi];exact Cg (·::_) (Ab _ _ _ hi).symm
   have hs:Hd f ((i:Int),M)=some (.next (((i+1:Nat):Int),(bA f i).Ops.foldl st M)):=by
    unfold Hd;simp only[E9 hi,Ae];have:=inner i hi (bA f i).Ops.length 0 M (by omega);rw[show(((0:Nat):Int))=0 from rfl,Lr]at this;rw[Ac (I8 hi),this,Ar,D0 hi hb]
    rfl
   rw[Ao hs,ih (i+1) _ (by omega),hd,Ug,List.foldl_append]
 refine⟨(Ml f).foldl st [],?_,?_⟩
 ·unfold Ma;have:=outer f.Blocks.length 0 [] (by omega);rw[show(((0:Nat):Int))=0 from rfl,Lr]at this;rw[this]
  rfl
 ·have key:∀(l done:List Bl) (M:List (Int×Bl)),(∀ o∈done++l,o∈Ml f)->(∀ o∈done,TX o.Kind=true->B6 M o.Dst=true/\mget default M o.Dst=o)->(∀ v,B6 M v=true->∃ o∈done,TX o.Kind=true/\o.Dst=v)->
    (∀ o∈done++l,TX o.Kind=true->B6 (l.foldl st M) o.Dst=true/\mget default (l.foldl st M) o.Dst=o)/\(∀ v,B6 (l.foldl st M) v=true->∃ o∈done++l,TX o.Kind=true/\o.Dst=v):=by
   intro l
   induction l with
   | nil=>intro done M _ h1 h2;rw[List.append_nil];exact⟨h1,h2⟩
   | cons x l ih=>
    intro done M hin h1 h2;have hx:x∈Ml f:=hin x (by simp)
    have:=ih (done++[x]) (st M x) (by rw[Ym];exact hin) (λo ho hk=>by
     rcases zzL11.1 ho with h|h
     ·obtain⟨g1,g2⟩:=h1 o h hk;simp only[st]
      cases hxk:TX x.Kind with
      | false=>exact⟨g1,g2⟩
      | true=>
       rw[Ae,Tl,Xx,g1,g2]
       by_cases e:o.Dst=x.Dst
       ·have h1o:1<=o.Dst:=by
         rcases op_dst R (hin o (by simp[h])) with⟨_,h0⟩|⟨_,_,_,_,_,h1,_⟩
         ·rw[hk]at h0;cases h0
         ·exact h1
        have:=eE R (hin o (by simp[h])) hx h1o e;subst this
        simp
       ·rw[show(o.Dst==x.Dst)=false by simp[e]];simp
     ·obtain rfl:=zzL15.1 h;simp only[st];rw[hk,Ae,Tl,Xx]
      simp) (λv hv=>by
     simp only[st]at hv
     cases hxk:TX x.Kind with
     | false=>
      rw[hxk,Az]at hv;obtain⟨o,ho,h⟩:=h2 v hv;exact⟨o,by simp[ho],h⟩
     | true=>
      rw[hxk,Ae,Tl,V3]at hv;rcases hv with hv|hv
      ·exact⟨x,by simp,hxk,(eq_of_beq hv).symm⟩
      ·obtain⟨o,ho,h⟩:=h2 v hv
       exact⟨o,by simp[ho],h⟩)
    rw[Ym]at this;exact this
  obtain⟨k1,k2⟩:=key (Ml f) [] [] (λo ho=>by simpa using ho) (λo ho=>by cases ho) (λv hv=>by cases hv);rw[Uh]at k1 k2;intro v hg;refine⟨?_,λo h=>?_⟩
  ·cases hd:XO f v with
   | some o=>
    obtain⟨a,b,c⟩:=U1 hd;have:=(k1 o a b).1;rw[c]at this;exact this
   | none=>
    cases hm:B6 ((Ml f).foldl st []) v with
    | false=>rfl
    | true=>
     obtain⟨o,a,b,c⟩:=k2 v hm;have:=FF R a b;rw[c,hd]at this
     cases this
  ·obtain⟨a,b,c⟩:=U1 h;have:=(k1 o a b).2;rw[c]at this;exact this
end
section
variable {f:Aa} (h:Sm f)
include h
omit h in
theorem Wv(hc:Cr f 2=0):mR f 2:=(jD (by omega)).1 hc
theorem GC:f.Blocks.length<9223372036854775808/\(∀ b∈f.Blocks,b.Ops.length<9223372036854775808)/\∀ o∈Ml f,0<=o.Imm:=by
 have hI:=h.1;refine⟨by have:=hI.blocks;rw[Je]at this;omega,λb hb=>by have:=(hI.block b hb).2.1;rw[Je]at this;omega,λo ho=>?_⟩;obtain⟨i,hi,k,hk,rfl⟩:=opsA_mem.1 ho;exact(hI.op _ (getD_mem hi) _ (getD_mem hk)).2.1
theorem cm(hc:Cr f 2=0){v:Int}(hg:Gd f v):Hm f v=some (Oz (XO f) (jv f v+1) v,0):=by
 obtain⟨s,hs,hS⟩:=OS f h;obtain⟨p1,p2,p3⟩:=GC h;have R:=Wv hc;obtain⟨M,m1,m2⟩:=kq R p1 p2;obtain⟨fd,f1⟩:=UP (dI R p3) m2 hg;obtain⟨d,hd,hv,hsh⟩:=hg;have hget:=hS.get hc d hd;rw[hv,hsh]at hget;unfold Hm;rw[hs,Ar,hget,m1]
 show(Gm v M []).bind _=_
 rw[f1]
 rfl
theorem gx{v:Int}(hn:¬ (Cr f 2=0/\Gd f v)):Hm f v=some (⟨[],0⟩,10):=by
 obtain⟨s,hs,hS⟩:=OS f h
 have hne:mget ((0:Int),(0:Int)) s v≠(64,1):=λe=>by
  by_cases hc:Cr f 2=0
  ·cases hm:B6 s v with
   | false=>rw[Zb hm]at e;cases e
   | true=>
    obtain⟨d,hd,hv⟩:=hS.has hc v hm;have:=hS.get hc d hd;rw[hv,e]at this;exact hn ⟨hc,d,hd,hv,this.symm⟩
  ·have:=hS.none hc;rw[NI this]at e
   cases e
 unfold Hm;rw[hs,Ar]
 have:(!(((mget ((0:Int),(0:Int)) s v).1==(64:Int))&&(((mget ((0:Int),(0:Int)) s v).2==(1:Int))&&true)))=true:=by
  generalize mget ((0:Int),(0:Int)) s v=p at hne ⊢
  obtain⟨a,b⟩:=p
  by_cases ha:a=64
  ·have hb:b≠1:=λe=>hne (by rw[ha,e]);simp[hb]
  ·simp[ha]
 rw[this]
 rfl
end
theorem g8{l:List Ax}(h:∀ t∈l,0<=t.Scale/\t.Scale<18446744073709551616)(v:Int):0<=Lk l v/\Lk l v<18446744073709551616:=by
 induction l with
 | nil=>exact⟨Int.le_refl _,by show(0:Int)<_;omega⟩
 | cons t r ih=>
  unfold Lk
  cases t.V==v with
  | true=>exact h t (Jn ..)
  | false=>exact ih λu hu=>h u (Fh _ hu)
theorem JZ:∀ n a,Om (λ_=>0) a n=[]
 | 0,_=>rfl
 | n+1,a=>by unfold Om;exact JZ n (a+1)
theorem cI:fq (λ_=>0)=[]:=JZ _ _
section
variable {x y:A1} (hx:Es 0 x.Terms=true) (hy:Es 0 y.Terms=true)
include hx
end
set_option linter.unusedSectionVars false
def cz(o:Bl):Bl:=bif o.Kind==0 then⟨o.Kind,o.Bits,o.Lanes,o.Dst,o.Args,0⟩ else o
def Cn(o:Bl):Prop:=o.Kind=0->o.Bits=64/\0<=o.Imm/\o.Imm<18446744073709551616
theorem TO{o:Bl}(h:Cn o):Hx (cz o)=Hx o:=by
 unfold cz
 by_cases h0:o.Kind=0
 ·obtain⟨h1,h2,h3⟩:=h h0;rw[show(o.Kind==0)=true by simp[h0],Ae];obtain⟨k,b,l,d,a,i⟩:=o;simp only at h0 h1 h2 h3;subst h0 h1
  have e:(i % 18446744073709551616==i)=true:=by rw[zzL61];omega
  have h1:ifitS 0 64 l i=(i % 18446744073709551616==i):=rfl;have h2:ifitS 0 64 l 0=true:=rfl;unfold Hx;simp only[h1,h2,e]
 ·rw[show(o.Kind==0)=false by simp[h0]];rfl
theorem Jr(o:Bl):(cz o).Kind=o.Kind/\(cz o).Bits=o.Bits/\(cz o).Lanes=o.Lanes/\(cz o).Dst=o.Dst/\(cz o).Args=o.Args:=by
 unfold cz
 cases o.Kind==0<;>exact⟨rfl,rfl,rfl,rfl,rfl⟩
theorem cy{o:Bl}(h:Cn o):G2 (cz o)=G2 o:=by
 obtain⟨h1,h2,h3,h4,h5⟩:=Jr o;unfold G2;rw[TO h,h1,h2,h3]
theorem ZN(o:Bl):L7 (cz o)=L7 o:=by
 unfold cz
 by_cases h0:o.Kind=0
 ·rw[show(o.Kind==0)=true by simp[h0],Ae];obtain⟨k,b,l,d,a,i⟩:=o;simp only at h0;subst h0
  rfl
 ·rw[show(o.Kind==0)=false by simp[h0]];rfl
theorem dA{o:Bl}(h:Cn o):E8 (cz o)=E8 o:=by
 unfold E8;rw[TO h,ZN]
theorem ji{ops:List Bl}{k:Nat}(hk:k<ops.length):(ops.map cz).getD k default=cz (ops.getD k default):=by
 rw[Ab _ _ _ (by simpa using hk),Ab _ _ _ hk,List.getElem_map]
theorem CS{α:Type}{l:List Nat}{f g:Nat->List α}(h:∀ k,k∈l->f k=g k):l.flatMap f=l.flatMap g:=by
 induction l with
 | nil=>rfl
 | cons k l ih=>rw[Ug,Ug,h k (Jn ..),ih λj hj=>h j (Fh _ hj)]
def fV(ps:List Int)(r:Int)(ops:List Bl)(a:Int):Aa:=⟨ps,r,[⟨[],ops,⟨0,a,[]⟩⟩]⟩
theorem cK{l:List Bl}{p q:Bl->Bool}(h:∀ o∈l,p o=q o):l.all p=l.all q:=by
 induction l with
 | nil=>rfl
 | cons x l ih=>rw[Pi,Pi,h x (Jn ..),ih λo ho=>h o (Fh _ ho)]
theorem ZM{ps:List Int}{r:Int}{ops:List Bl}{a:Int}(h:∀ o∈ops,Cn o)(hc:Cr (fV ps r (ops.map cz) a) 2=0):Cr (fV ps r ops a) 2=0:=by
 obtain⟨h1,h2,h3,h4⟩:=(Nv (by omega) (by omega)).1 hc;have hat:∀ k,k<ops.length->Cn (ops.getD k default):=λk hk=>h _ (getD_mem hk)
 have e1:Ay (fV ps r ops a)=Ay (fV ps r (ops.map cz) a):=by
  unfold Ay
  congr 1
  show(List.range 1).flatMap _=(List.range 1).flatMap _
  refine CS λi hi=>?_
  obtain rfl:i=0:=by have:=zzL35.1 hi;omega
  show Kg ⟨[],ops,⟨0,a,[]⟩⟩ 0=Kg ⟨[],ops.map cz,⟨0,a,[]⟩⟩ 0
  unfold Kg Y2
  congr 1
  simp only[Nd];refine CS λk hk=>?_;have hk:=zzL35.1 hk;rw[ji hk,cy (hat k hk),(Jr _).2.2.2.1]
 have e2:D5 (fV ps r ops a)=D5 (fV ps r (ops.map cz) a):=by
  unfold D5
  show(List.range 1).flatMap _=(List.range 1).flatMap _
  refine CS λi hi=>?_
  obtain rfl:i=0:=by have:=zzL35.1 hi;omega
  show T9 (fV ps r ops a) ⟨[],ops,⟨0,a,[]⟩⟩ 0=T9 (fV ps r (ops.map cz) a) ⟨[],ops.map cz,⟨0,a,[]⟩⟩ 0
  have hop:Ry ⟨[],ops,⟨0,a,[]⟩⟩ 0=Ry ⟨[],ops.map cz,⟨0,a,[]⟩⟩ 0:=by
   unfold Ry;simp only[Nd];refine CS λk hk=>?_;have hk:=zzL35.1 hk;unfold Me;rw[ji hk,dA (hat k hk),(Jr _).2.2.2.2]
  unfold T9;rw[hop]
  rfl
 have e3:ops.all (G9 2)=(ops.map cz).all (G9 2):=by
  rw[List.all_map];refine cK λo ho=>?_
  show G9 2 o=G9 2 (cz o)
  unfold G9;rw[TO (h o ho),(Jr o).1,(Jr o).2.2.1]
 have e4:ops.all NW=(ops.map cz).all NW:=by
  rw[List.all_map];refine cK λo ho=>?_
  show NW o=NW (cz o)
  unfold NW;rw[(Jr o).1,(Jr o).2.1,(Jr o).2.2.1,(Jr o).2.2.2.1,(Jr o).2.2.2.2]
 have e5:sizeW (fV ps r ops a)=sizeW (fV ps r (ops.map cz) a):=by
  unfold sizeW Pf
  show Ap ((((0+ops.length+1)+0:Nat):Int))=Ap ((((0+(ops.map cz).length+1)+0:Nat):Int))
  rw[Nd]
 refine(Nv (by omega) (by omega)).2 ⟨?_,h2,?_,?_⟩
 ·have:Rk (fV ps r ops a)=Rk (fV ps r (ops.map cz) a):=by
   unfold Rk;rw[e5]
   show(_&&((true&&ops.all NW&&OZ ⟨0,a,[]⟩)&&true))=(_&&((true&&(ops.map cz).all NW&&OZ ⟨0,a,[]⟩)&&true))
   rw[e4]
   rfl
  rw[this];exact h1
 ·have:Py (fV ps r ops a) 2=Py (fV ps r (ops.map cz) a) 2:=by
   show(ps.all Dr&&((true&&ops.all (G9 2))&&true)&&Dr r)=(ps.all Dr&&((true&&(ops.map cz).all (G9 2))&&true)&&Dr r)
   rw[e3]
  rw[this];exact h3
 ·have e6:B4 (fV ps r ops a)=B4 (fV ps r (ops.map cz) a):=rfl;unfold FT at h4 ⊢;rw[e1,e2,e6];exact h4
def pT(o:Int):A1:=⟨[⟨1,1⟩],o⟩
theorem eJ(o:Int):Es 0 (pT o).Terms=true:=rfl
theorem ka(o:Int):Es 0 (⟨[],o⟩:A1).Terms=true:=rfl
theorem oZ(v:Int):0<=Lk [⟨1,1⟩] v/\Lk [⟨1,1⟩] v<18446744073709551616:=g8 (λt ht=>by obtain rfl:=zzL15.1 ht;show(0:Int)<=1/\(1:Int)<_;omega) v
theorem mj(o s:Int):Nl TC (pT o) ⟨[],s⟩=pT (C1 (o+s)):=by
 rw[XI (eJ o) (ka s)]
 have e:(fq λv=>TC (Lk (pT o).Terms v) (Lk (⟨[],s⟩:A1).Terms v))=fq (Lk [⟨1,1⟩]):=IC λv _ _=>by
  have:=oZ v
  show C1 (Lk [⟨1,1⟩] v+0)=_
  rw[Int.add_zero,U7 this.1 this.2]
 rw[e,cL rfl]
 rfl
theorem iF{D:Int->Option Bl}{n:Nat}{v:Int}(h:D v=none):Oz D (n+1) v=CF v:=by unfold Oz;rw[h]
theorem dM{D:Int->Option Bl}{n:Nat}{v:Int}{o:Bl}(h:D v=some o)(h0:o.Kind=0):Oz D (n+1) v=⟨[],o.Imm⟩:=by unfold Oz;rw[h];simp[h0]
theorem mc{D:Int->Option Bl}{n:Nat}{v k a b:Int}{o:Bl}(h:D v=some o)(hk:o.Kind=k)(h0:k≠0)(ha:o.Args.getD 0 0=a)(hb:o.Args.getD 1 0=b):Oz D (n+1) v=dJ v (ia k (Oz D n a) (Oz D n b)):=by
 conv=>lhs;unfold Oz
 rw[h];simp only;rw[hk,ha,hb,show(k==0)=false from zzL25.2 h0,Az]
def bf(o:Bl):Bool:=o.Kind==16 || (o.Kind==17 || (o.Kind==18 || o.Kind==19))
def wh(o:Bl):Nat:=bif o.Kind==16 || o.Kind==17 then 0 else 1
def DK(o:Bl):Int:=o.Args.getD (wh o) 0
def P4(o:Bl):Int:=o.Lanes*(o.Bits / 8)
theorem bP{o:Bl}(h:bf o=true):o.Kind=16\/o.Kind=17\/o.Kind=18\/o.Kind=19:=by simpa [bf] using h
theorem bN{b n:Int}(h:Va b n=true)(h8:8<=b):1<=n*(b / 8)/\n*(b / 8)<=16/\n*b=8*(n*(b / 8)):=by
 have hw:=width_cases (shape_width h);have hl:=Mo h
 have h128:n=1\/b*n<=128:=by
  simp only[Va,A6,V3,zzL61,Du]at h;rcases h.2 with h|h
  ·exact .inl h
  ·exact .inr h.2
 rcases hw with rfl|rfl|rfl|rfl|rfl<;>rcases hl with rfl|rfl|rfl|rfl|rfl<;>omega
theorem RL{f:Aa}(R:mR f 2){i k:Nat}(hi:i<f.Blocks.length)(hk:k<(bA f i).Ops.length){o:Bl}(e:(bA f i).Ops.getD k default=o)(ht:bf o=true) :
  wh o<o.Args.length/\Gd f (DK o)/\1<=P4 o/\P4 o<=16/\o.Lanes*o.Bits=8*P4 o/\0<=o.Bits/\o.Bits<=64:=by
 have hmay:=UK R hi hk;rw[e]at hmay;obtain⟨m1,m2,m3,m4,m5,m6,m7⟩:=Xv hmay;have hk':=bP ht
 have hwl:wh o<o.Args.length:=by
  have:Lp o.Kind o.Lanes=1/\wh o=0\/2<=Lp o.Kind o.Lanes/\wh o<=1:=by
   unfold wh;rcases hk' with h|h|h|h<;>rw[h]
   ·exact .inl ⟨rfl,rfl⟩
   ·exact .inr ⟨by show(2:Int)<=2;omega,by decide⟩
   ·exact .inr ⟨by show(2:Int)<=3;omega,by decide⟩
   ·exact .inr ⟨by show(2:Int)<=3;omega,by decide⟩
  omega
 have h8:8<=o.Bits:=by
  rcases hk' with h|h|h|h<;>rw[h]at m3
  ·exact Qk m3
  ·exact Qk m3
  ·exact Qk (Bool.and_eq_true_iff.1 m3).1
  ·exact Qk (Bool.and_eq_true_iff.1 m3).1
 have hel:Xi o (wh o)=(64,1):=by unfold Xi wh;rcases hk' with h|h|h|h<;>rw[h]<;>rfl
 have hu:(⟨DK o,(i:Int),(k:Int),Xi o (wh o)⟩:Mx)∈D5 f:=
  (XV (λb hb o ho=>eT R hb ho)).2 ⟨i,hi,.inr (.inl ⟨k,wh o,hk,by rw[e];exact hwl,by rw[e];rfl⟩)⟩
 obtain⟨d,hd,hv,hs,_⟩:=eV R hu;obtain⟨l1,l2,l3⟩:=bN m1 h8;exact⟨hwl,⟨d,hd,hv,hs.trans hel⟩,l1,l2,l3,by omega,by rcases width_cases (shape_width m1) with h|h|h|h|h<;>omega⟩
def iA(p q:A1):Int×Bool:=bif (Nl GD q p).Terms.length==0 then((Nl GD q p).Off,true) else(0,false)
section
variable {p q:A1} (hp:Es 0 p.Terms=true) (hq:Es 0 q.Terms=true)
include hp hq
omit hq in
end
def nj(d m n:Int):Bool:=decide (m<=d)&&decide (n<=C1 (-d))
def oN:Bl:=⟨0,0,0,0,[],0⟩
def oG(f:Aa)(b k:Int):Bl:=(f.Blocks.getD b.toNat default).Ops.getD k.toNat default
def kH(f:Aa)(b k:Int):Prop:=Bv b f.Blocks.length/\Bv k (f.Blocks.getD b.toNat default).Ops.length
def Vv(f:Aa)(b k:Int):Bool:=(Cr f 2==0)&&((decide (0<=b)&&decide (b<f.Blocks.length))&&(decide (0<=k)&&decide (k<(f.Blocks.getD b.toNat default).Ops.length)))&&bf (oG f b k)
def dQ(f:Aa)(v:Int):A1:=Oz (XO f) (jv f v+1) v
def dF(f:Aa)(b x y:Int):Int×Bool:=bif Vv f b x&&Vv f b y then iA (dQ f (DK (oG f b x))) (dQ f (DK (oG f b y))) else(0,false)
theorem to_iff{f:Aa}{b k:Int}:Vv f b k=true↔Cr f 2=0/\kH f b k/\bf (oG f b k)=true:=by
 simp only[Vv,kH,Bv,A6,zzL61,Du,and_assoc]
theorem Mq{f:Aa}{b k:Int}(h:Vv f b k=true) :
  wh (oG f b k)<(oG f b k).Args.length/\Gd f (DK (oG f b k))/\1<=P4 (oG f b k)/\P4 (oG f b k)<=16/\(oG f b k).Lanes*(oG f b k).Bits=8*P4 (oG f b k)/\0<=(oG f b k).Bits/\(oG f b k).Bits<=64:=by
 obtain⟨h1,⟨h2,h3⟩,h4⟩:=to_iff.1 h;have h2:=h2;have h3:=h3;unfold Bv at h2 h3;exact RL (Wv h1) (i:=b.toNat) (k:=k.toNat) (by omega) (by show _<(f.Blocks.getD b.toNat default).Ops.length;omega) rfl h4
theorem WL{f:Aa}{b k:Int}(hI:∀ o∈Ml f,0<=o.Imm)(h:Vv f b k=true):DK (oG f b k)≠0:=by
 have:=(dI (Wv (to_iff.1 h).1) hI).rng _ (Mq h).2.1;omega
theorem AL(f:Aa)(b k:Int):(kH f b k->C4 f b k=some (oG f b k))/\(¬ kH f b k->C4 f b k=some oN):=by
 unfold kH Bv C4
 by_cases h1:b<0
 ·rw[Da h1];exact⟨λh=>absurd h1 (by omega),λ_=>rfl⟩
 by_cases h2:(f.Blocks.length:Int)<=b
 ·rw[Dm h1,Da h2];exact⟨λh=>absurd h2 (by omega),λ_=>rfl⟩
 rw[Dm h1,Dm h2,Az,Az,Ac ⟨by omega,by omega⟩]
 by_cases h3:k<0
 ·rw[Da h3];exact⟨λh=>absurd h3 (by omega),λ_=>rfl⟩
 by_cases h4:((f.Blocks.getD b.toNat default).Ops.length:Int)<=k
 ·rw[Dm h3,Da h4];exact⟨λh=>absurd h4 (by omega),λ_=>rfl⟩
 rw[Dm h3,Dm h4,Az,Az,Ac ⟨by omega,by omega⟩];exact⟨λ_=>rfl,λh=>absurd ⟨⟨by omega,by omega⟩,by omega,by omega⟩ h⟩
theorem IH(o:Bl):D2 o=some (bif bf o&&decide (wh o<o.Args.length) then DK o else 0):=by
 obtain⟨k,b,l,d,gs,i⟩:=o
 have fin:∀ n:Nat,(bif decide ((gs.length:Int)<=(n:Int)) then some (0:Int) else Cd (Bv (n:Int) gs.length) (some (gs.getD ((n:Int)).toNat 0)))=some (bif decide (n<gs.length) then gs.getD n 0 else 0):=λn=>by
  by_cases h:n<gs.length
  ·rw[Da h,Dm (by omega),Az,Ac ⟨by omega,by omega⟩];rfl
  ·rw[Dm h,Da (by omega)];rfl
 have f0:=fin 0;have f1:=fin 1;have fl:=fin gs.length;rw[Dm (V4 _)]at fl;unfold D2 bf wh DK
 by_cases h1:k=16
 ·subst h1;exact f0
 by_cases h2:k=17
 ·subst h2;exact f0
 by_cases h3:k=18
 ·subst h3;exact f1
 by_cases h4:k=19
 ·subst h4;exact f1
 ·have e1:(k==16)=false:=by simp[h1]
  have e2:(k==17)=false:=by simp[h2]
  have e3:(k==18)=false:=by simp[h3]
  have e4:(k==19)=false:=by simp[h4]
  simp only[e1,e2,e3,e4,Az,Ar,Bool.or_self,Ud];exact fl
theorem Ta{f:Aa}{b k:Int}(h:Vv f b k=true):E7 (oG f b k)=some (P4 (oG f b k)):=by
 obtain⟨_,_,h1,h2,h3,_⟩:=Mq h;unfold E7;rw[h3,show Ap (8*P4 (oG f b k))=8*P4 (oG f b k) from B1 (by omega) (by omega),Int.tdiv_eq_ediv_of_nonneg (by omega),show 8*P4 (oG f b k) / 8=P4 (oG f b k) by omega,B1 (by omega) (by omega)]
section
variable {f:Aa} (h:Sm f) (b:Int)
include h
theorem GB:∀ o∈Ml f,0<=o.Imm:=(GC h).2.2
theorem ky(hc:Cr f 2=0):¬ Gd f 0:=λhg=>by have:=(dI (Wv hc) (GB h)).rng _ hg;omega
theorem mX(k:Int):∃ o,C4 f b k=some o/\∃ v,D2 o=some v /\
  (Vv f b k=true->o=oG f b k/\v=DK o/\v≠0)/\(Vv f b k=false->Cr f 2=0->v=0):=by
 by_cases hi:kH f b k
 ·refine⟨_,(AL f b k).1 hi,_,IH _,λht=>?_,λht hc=>?_⟩
  ·have hp:=WL (GB h) ht;rw[(to_iff.1 ht).2.2,Da (Mq ht).1];exact⟨rfl,rfl,hp⟩
  ·cases ht':bf (oG f b k) with
   | false=>rfl
   | true=>exact absurd (to_iff.2 ⟨hc,hi,ht'⟩) (by rw[ht];exact Bool.false_ne_true)
 ·refine⟨_,(AL f b k).2 hi,0,rfl,λht=>absurd (to_iff.1 ht).2.1 hi,λ_ _=>rfl⟩
theorem LW:H0 f=some (Cr f 2==0):=by unfold H0;rw[gu f 2 h];rfl
theorem kX(k:Int):Jz f b k=some (bif Vv f b k then(DK (oG f b k),P4 (oG f b k),true) else(0,0,false)):=by
 obtain⟨o,ho,v,hv,h1,h2⟩:=mX h b k;unfold Jz;rw[ho,Ar,hv,Ar]
 cases ht:Vv f b k with
 | true=>
  obtain⟨rfl,rfl,hz⟩:=h1 ht;rw[show(DK (oG f b k)==0)=false from zzL25.2 hz,LW h,(to_iff.1 ht).1,Ta ht]
  rfl
 | false=>
  by_cases hc:Cr f 2=0
  ·rw[h2 ht hc];rfl
  ·rw[LW h,show(Cr f 2==0)=false from zzL25.2 hc]
   cases v==0<;>rfl
theorem dR{k:Int}(ht:Vv f b k=true):Es 0 (dQ f (DK (oG f b k))).Terms=true/\0<=(dQ f (DK (oG f b k))).Off/\(dQ f (DK (oG f b k))).Terms.length<=16:=
 dN (dI (Wv (to_iff.1 ht).1) (GB h)) _ _ (Mq ht).2.1
theorem WU(k:Int):∃ o,C4 f b k=some o/\∃ v,D2 o=some v /\
  Hm f v=some (bif Vv f b k then(dQ f (DK (oG f b k)),0) else(⟨[],0⟩,10)):=by
 obtain⟨o,ho,v,hv,h1,h2⟩:=mX h b k;refine⟨o,ho,v,hv,?_⟩
 cases ht:Vv f b k with
 | true=>
  obtain⟨rfl,rfl,hz⟩:=h1 ht;exact cm h (to_iff.1 ht).1 (Mq ht).2.1
 | false=>
  refine gx h λ⟨hc,hg⟩=>?_;rw[h2 ht hc]at hg;exact ky h hc hg
theorem LU(x y:Int):Ew f b x y=some (dF f b x y):=by
 obtain⟨o,ho,v,hv,e1⟩:=WU h b x;obtain⟨o',ho',v',hv',e2⟩:=WU h b y;unfold Ew dF;rw[ho,Ar,hv,Ar,e1,Ar]
 cases hx:Vv f b x with
 | false=>rfl
 | true=>
  rw[Ae,show((0:Int)!=0)=false from rfl,Az,ho',Ar,hv',Ar,e2,Ar]
  cases hy:Vv f b y with
  | false=>rfl
  | true=>
   have l1:=(dR h b hx).2.2;have l2:=(dR h b hy).2.2;rw[Ae,show((0:Int)!=0)=false from rfl,Az,WT (x:=dQ f (DK (oG f b y))) (y:=dQ f (DK (oG f b x))) (by omega) (by omega),Ar];unfold iA;simp only[R0,Ae]
   cases(Nl GD (dQ f (DK (oG f b y))) (dQ f (DK (oG f b x)))).Terms with
   | nil=>rfl
   | cons a l=>
    rw[show decide ((0:Int)<(((a::l).length:Nat):Int))=true from Da (by rw[Nc];omega)]
    rfl
theorem WY{x y:Int}(hd:(dF f b x y).2=true):Vv f b x=true/\Vv f b y=true:=by
 unfold dF at hd;cases hx:Vv f b x<;>cases hy:Vv f b y<;>rw[hx,hy]at hd<;>first|cases hd|exact⟨rfl,rfl⟩
def ll(f:Aa)(b x y:Int):Bool:=(dF f b x y).2&&nj (dF f b x y).1 (P4 (oG f b x)) (P4 (oG f b y))
def lm(f:Aa)(b x y:Int):Bool:=(dF f b x y).2&&(dF f b x y).1==P4 (oG f b x)
theorem VH{k:Int}(ht:Vv f b k=true):C1 (P4 (oG f b k))=P4 (oG f b k):=by
 obtain⟨_,_,h1,h2,_⟩:=Mq ht;exact U7 (by omega) (by omega)
theorem Y0(x y:Int):Ge f b x y=some (lm f b x y):=by
 unfold Ge Rf lm;rw[LU h,Ar]
 cases hd:(dF f b x y).2 with
 | false=>rfl
 | true=>
  obtain⟨hx,hy⟩:=WY h b hd;obtain⟨i1,i2⟩:=(to_iff.1 hx).2.1;have i3:=(to_iff.1 hy).2.1.2;have ex:(f.Blocks.getD b.toNat default).Ops.getD x.toNat default=oG f b x:=rfl;have ey:(f.Blocks.getD b.toNat default).Ops.getD y.toNat default=oG f b y:=rfl;rw[show(!true)=false from rfl,Az,Ac i1,Ac i2,ex,Ta hx,Ar,Ac i3,ey,Ta hy,Ar,VH h b hx]
  rfl
theorem LS(x y:Int):H9 f b x y=some (ll f b x y):=by
 unfold H9 M2 ll;rw[LU h,Ar]
 cases hd:(dF f b x y).2 with
 | false=>rfl
 | true=>
  obtain⟨hx,hy⟩:=WY h b hd;obtain⟨i1,i2⟩:=(to_iff.1 hx).2.1;have i3:=(to_iff.1 hy).2.1.2;have ex:(f.Blocks.getD b.toNat default).Ops.getD x.toNat default=oG f b x:=rfl;have ey:(f.Blocks.getD b.toNat default).Ops.getD y.toNat default=oG f b y:=rfl;rw[show(!true)=false from rfl,Az,Ac i1,Ac i2,ex,Ta hx,Ar,Ac i3,ey,Ta hy,Ar,VH h b hx,VH h b hy];unfold M1 nj;rw[Int.zero_sub]
  cases decide (P4 (oG f b x)<=(dF f b x y).1)<;>rfl
def YA(f:Aa)(b:Int)(k:Nat):List Int:=bif Vv f b (k:Int) then[(k:Int)] else[]
def j8(f:Aa)(b:Int):List Int:=((List.range (f.Blocks.getD b.toNat default).Ops.length).map (YA f b)).flatten
def mz(f:Aa)(b:Int):List Int:=bif decide (0<=b)&&decide (b<f.Blocks.length) then j8 f b else[]
omit h in
theorem jK(k:Nat):(YA f b k).length<=1:=by unfold YA;cases Vv f b (k:Int)<;>simp
theorem io(hc:Cr f 2=0)(hb:Bv b f.Blocks.length):(f.Blocks.getD b.toNat default).Ops.length<=512:=by
 have hO:=j0 h (Wv hc).may;unfold Bv at hb;exact(hO.block _ (getD_mem (by omega))).ops
theorem ip(hb:Bv b f.Blocks.length):(f.Blocks.getD b.toNat default).Ops.length<9223372036854775808:=by
 unfold Bv at hb;exact(GC h).2.1 _ (getD_mem (by omega))
theorem ei(hb:Bv b f.Blocks.length):(j8 f b).length<=512:=by
 unfold j8
 by_cases hc:Cr f 2=0
 ·have:=DZ (List.range (f.Blocks.getD b.toNat default).Ops.length) (YA f b) 1 λk _=>jK b k;rw[V1]at this;have:=io h b hc hb;omega
 ·have:=DZ (List.range (f.Blocks.getD b.toNat default).Ops.length) (YA f b) 0 λk _=>by
   unfold YA;rw[show Vv f b (k:Int)=false from Bool.eq_false_iff.2 λe=>hc (to_iff.1 e).1];exact zzL7 _
  omega
theorem ax(hb:Bv b f.Blocks.length)(g:List Int×Int->Option (LR (List Int×Int) (List Int)))
  (hn:∀(out:List Int) (k:Nat),k<(f.Blocks.getD b.toNat default).Ops.length->(Vv f b (k:Int)=true->out.length+([(k:Int)]:List Int).length<=room)->g (out,(k:Int))=some (.next (out++YA f b k,((k+1:Nat):Int))))
  (hd:∀ out:List Int,g (out,((f.Blocks.getD b.toNat default).Ops.length:Int))=some (.done out)):Ah g (([]:List Int),(0:Int))=some (j8 f b):=by
 have hl:(List.range (f.Blocks.getD b.toNat default).Ops.length).length=(f.Blocks.getD b.toNat default).Ops.length:=V1
 have hg:∀ i,i<(f.Blocks.getD b.toNat default).Ops.length->(List.range (f.Blocks.getD b.toNat default).Ops.length).getD i 0=i:=λi hi=>by
  rw[Ab _ _ _ (by simpa using hi),List.getElem_range]
 have key:=AW (List.range (f.Blocks.getD b.toNat default).Ops.length) 0 (YA f b) room g (λout i hi hr=>?_) (λout=>by rw[hl];exact hd out) (f.Blocks.getD b.toNat default).Ops.length 0 [] (by rw[hl,Fp]) ?_
 ·rw[Lr]at key;exact key
 ·rw[hl]at hi;rw[hg i hi]at hr ⊢;refine hn out i hi λht=>?_;unfold YA at hr;rw[ht]at hr;exact hr
 ·have:=ei h b hb;unfold j8 at this;rw[Lr,List.length_nil,NA];omega
theorem IJ:Hz f b=some (mz f b):=by
 unfold Hz mz
 by_cases h1:b<0
 ·rw[Da h1,Dm (show ¬ 0<=b by omega)];rfl
 by_cases h2:(f.Blocks.length:Int)<=b
 ·rw[Dm h1,Da h2,Dm (show ¬ b<(f.Blocks.length:Int) by omega),Bool.and_false];rfl
 have hb:Bv b f.Blocks.length:=⟨by omega,by omega⟩
 rw[Dm h1,Dm h2,Da hb.1,Da hb.2,show(bif false then true else false)=false from rfl,show(false==false)=true from rfl,Ae,LW h,Ar,Az,
  show(true&&true)=true from rfl,Ae]
 by_cases hc:Cr f 2=0
 ·rw[show(Cr f 2==0)=true by rw[hc];rfl,show(!true)=false from rfl,Az,Ac hb];rw[ax h b hb (Hr f b) (λout k hk hr=>?_) λout=>?_]
  ·rfl
  ·have hkk:=ip h b hb;have ha:=IH (oG f b (k:Int))
   have eo:(f.Blocks.getD b.toNat default).Ops.getD k default=oG f b (k:Int):=by unfold oG;rw[A4]
   unfold Hr YA;simp only[E9 hk,Ae,A4];rw[Ac (I8 hk),eo,ha,Ar]
   cases ht:Vv f b (k:Int) with
   | true=>
    rw[(to_iff.1 ht).2.2,Da (Mq ht).1,show((bif true&&true then DK (oG f b (k:Int)) else 0)!=0)=true from zzL88.2 (WL (GB h) ht),Ae,Ac (hr ht),Ar];simp only[Ae];rw[B1 (by omega) (by omega)]
    rfl
   | false=>
    have:bf (oG f b (k:Int))=false:=by
     cases ht':bf (oG f b (k:Int)) with
     | false=>rfl
     | true=>exact absurd (to_iff.2 ⟨hc,⟨hb,by omega,by omega⟩,ht'⟩) (by rw[ht];exact Bool.false_ne_true)
    rw[this,Ud,Az,show((0:Int)!=0)=false from rfl];simp only[Az,Ar,List.append_nil];rw[B1 (by omega) (by omega)]
    rfl
  ·unfold Hr;simp only[Jk,Az]
 ·rw[show(Cr f 2==0)=false from zzL25.2 hc]
  have hz:j8 f b=[]:=by
   unfold j8;rw[List.flatten_eq_nil_iff];intro l hl;obtain⟨k,_,rfl⟩:=zzL26.1 hl;unfold YA;rw[show Vv f b (k:Int)=false from Bool.eq_false_iff.2 λe=>hc (to_iff.1 e).1]
   rfl
  rw[hz]
  rfl
end
theorem jz{ps:List Int}{r:Int}{ops:List Bl}{a:Int}(h0:ps.length<=16)(h1:ops.length<=300)(h2:∀ o∈ops,o.Args.length<=3/\0<=o.Imm/\o.Imm<18446744073709551616):Sm (fV ps r ops a):=by
 have hb:∀ b∈(fV ps r ops a).Blocks,b=⟨[],ops,⟨0,a,[]⟩⟩:=λb hb=>by simpa [fV] using hb
 refine my ⟨by rw[Je];show ps.length<=_;omega,by rw[Je];show(1:Nat)<=_;omega,λb h=>?_,λb h p hp=>?_,λb h o ho=>?_⟩ (by show ps.length<=64;omega) (λb h=>?_) ?_
 ·rw[hb b h,Je];exact⟨Li _,by show ops.length<=_;omega,Li _⟩
 ·rw[hb b h]at hp;cases hp
 ·rw[hb b h]at ho;obtain⟨g1,g2⟩:=h2 o ho;exact⟨by rw[Je];omega,g2⟩
 ·rw[hb b h];exact⟨Li _,(λp hp=>by cases hp),λo ho=>by have:=(h2 o ho).1;omega⟩
 ·have hs:∀ l:List Bl,(∀ o∈l,o.Args.length<=3)->(l.map LZ).sum<=4*l.length:=by
   intro l
   induction l with
   | nil=>intro _;simp
   | cons x l ih=>
    intro hl;have h0:=hl x (Jn ..);have h1:=ih λo ho=>hl o (Fh _ ho);rw[Bu,V6,Nc];unfold LZ at h1 ⊢;omega
  have:=hs ops λo ho=>(h2 o ho).1
  show ps.length+((1+0+0+(ops.map LZ).sum)+0)<=20000
  omega
def fW:Aa:=fV [64] 32 [⟨0,64,1,2,[],4⟩,⟨1,64,1,3,[1,2],0⟩,⟨16,32,1,4,[1],0⟩,⟨16,32,1,5,[3],0⟩] 5
theorem VA:Sm fW:=jz (by show 1<=16;omega) (by show 4<=300;omega) λo ho=>by
 simp only[zzL24,List.not_mem_nil,or_false]at ho;rcases ho with rfl|rfl|rfl|rfl<;>decide
theorem oc:Vv fW 0 3=true/\Vv fW 0 2=true/\DK (oG fW 0 3)=3/\P4 (oG fW 0 3)=4/\mz fW 0=[2,3]:=by decide +kernel
theorem pU:dF fW 0 3 2=(18446744073709551612,true)/\lm fW 0 2 3=true/\lm fW 0 3 2=false/\ll fW 0 3 2=true/\ll fW 0 2 2=false:=by decide +kernel
theorem gn:m_locksteplaw18_awake=some true:=by
 obtain⟨t1,t2,t3,t4,t5⟩:=oc;obtain⟨d1,d2,d3,d4,d5⟩:=pU;have a1:=kX VA 0 3;have a2:=LU VA 0 3 2;have a3:=Y0 VA 0 2 3;have a4:=Y0 VA 0 3 2;have a5:=LS VA 0 3 2;have a6:=LS VA 0 2 2;have a7:=IJ VA 0;rw[t1,t3,t4]at a1;rw[d1]at a2;rw[d2]at a3;rw[d3]at a4;rw[d4]at a5;rw[d5]at a6;rw[t5]at a7;have a8:=k9 [2,3] [2,3] (by decide);unfold fW fV at a1 a2 a3 a4 a5 a6 a7;unfold m_locksteplaw18_awake;rw[show Ba=[⟨0,64,1,2,[],4⟩,⟨1,64,1,3,[1,2],0⟩,⟨16,32,1,4,[1],0⟩,⟨16,32,1,5,[3],0⟩] from rfl,a1,Ar,a2,Ar];simp only[Ae,BEq.rfl];rw[a3,Ar];simp only[Ae,BEq.rfl];rw[a4,Ar];simp only[Ae,BEq.rfl,Lh];rw[a5,Ar];simp only[Ae,BEq.rfl];rw[a6,Ar];simp only[Ae,BEq.rfl,Lh];rw[a7,Ar,a8]
 rfl
theorem mb(a b:Int)(ha:0<=a/\a<18446744073709551616)(hb:0<=b/\b<18446744073709551616):iA (pT a) (pT b)=(C1 (b-a),true):=by
 have e:Nl GD (pT b) (pT a)=⟨[],C1 (b-a)⟩:=by
  rw[XI (eJ b) (eJ a)]
  have e:(fq λv=>GD (Lk (pT b).Terms v) (Lk (pT a).Terms v))=[]:=by
   rw[<- cI];refine IC λv _ _=>?_
   show GD (Lk [⟨1,1⟩] v) (Lk [⟨1,1⟩] v)=0
   unfold GD;rw[Int.sub_self];rfl
  rw[e]
  rfl
 unfold iA;rw[e]
 rfl
section
variable {k:Int} (hk:0<=k/\k<65536)
include hk
end
def Yi(w:Int)(c:Nat->Int)(i:Nat):List Bl:=[⟨0,64,1,((2+3*i:Nat):Int),[],c i⟩,⟨1,64,1,((3+3*i:Nat):Int),[1,((2+3*i:Nat):Int)],0⟩,⟨16,w,1,((4+3*i:Nat):Int),[((3+3*i:Nat):Int)],0⟩]
def E6(w:Int)(c:Nat->Int)(k:Nat):List Bl:=(List.range k).flatMap (Yi w c)
def D3(k:Nat):Int:=if k=0 then 0 else((1+3*k:Nat):Int)
def wF(j:Nat):Int:=match j with|0=>8|1=>16|2=>32|_=>64
theorem Rx:∀(j:Fin 4) (k:Fin 16),Cr (fV [64] (wF j.val) (E6 (wF j.val) (λ_=>0) (k.val+1)) (D3 (k.val+1))) 2=0:=by decide +kernel
theorem X8(w:Int)(c:Nat->Int)(k:Nat):(E6 w c k).length=3*k:=by
 unfold E6
 induction k with
 | zero=>rfl
 | succ k ih=>rw[Sk,List.flatMap_append,Em,ih];simp[Yi];omega
theorem QN(w:Int)(c:Nat->Int)(k:Nat):E6 w c (k+1)=E6 w c k++Yi w c k:=by
 unfold E6;rw[Sk,List.flatMap_append]
 simp
theorem XP(w:Int)(c:Nat->Int)(r:Nat)(hr:r<3):∀ k i,i<k->(E6 w c k).getD (3*i+r) default=(Yi w c i).getD r default
 | 0,_,h=>absurd h (Mt _)
 | k+1,i,h=>by
  rw[QN];have hl:=X8 w c k
  by_cases hi:i<k
  ·rw[<- XP w c r hr k i hi];simp only[Oi,List.getElem?_append];rw[if_pos (by omega)]
  ·obtain rfl:i=k:=by omega
   simp only[Oi,List.getElem?_append];rw[if_neg (by omega),hl,show 3*i+r-3*i=r by omega]
theorem MY{w:Int}{c:Nat->Int}{k:Nat}{o:Bl}(h:o∈E6 w c k):∃ i,i<k/\o∈Yi w c i:=by
 obtain⟨i,hi,ho⟩:=zzL57.1 h;exact⟨i,zzL35.1 hi,ho⟩
theorem eG{w:Int}{c:Nat->Int}{k i:Nat}{o:Bl}(hi:i<k)(ho:o∈Yi w c i):o∈E6 w c k:=zzL57.2 ⟨i,zzL35.2 hi,ho⟩
section
variable {w:Int} (hq:w=8\/w=16\/w=32\/w=64) {c:Nat->Int} (hc:∀ i,0<=c i/\c i<18446744073709551616) {k:Nat} (h1:1<=k) (hk:k<=16)
include hq hc h1 hk
theorem eY:Sm (fV [64] w (E6 w c k) (D3 k)):=jz (by show 1<=16;omega) (by rw[X8];omega) λo ho=>by
 obtain⟨i,_,ho⟩:=MY ho;simp only[Yi,zzL24,List.not_mem_nil,or_false]at ho;rcases ho with rfl|rfl|rfl
 ·exact⟨Li _,hc i⟩
 ·exact⟨by show 2<=3;omega,by show(0:Int)<=0/\(0:Int)<_;omega⟩
 ·exact⟨by show 1<=3;omega,by show(0:Int)<=0/\(0:Int)<_;omega⟩
theorem KA:Cr (fV [64] w (E6 w c k) (D3 k)) 2=0:=by
 refine ZM (λo ho h0=>?_) ?_
 ·obtain⟨i,_,ho⟩:=MY ho;simp only[Yi,zzL24,List.not_mem_nil,or_false]at ho;rcases ho with rfl|rfl|rfl
  ·exact⟨rfl,hc i⟩
  ·cases h0
  ·cases h0
 ·have e:(E6 w c k).map cz=E6 w (λ_=>0) k:=by
   unfold E6;rw[List.map_flatMap]
   congr 1
  rw[e];obtain⟨k,rfl⟩:∃ m,k=m+1:=⟨k-1,by omega⟩;rcases hq with rfl|rfl|rfl|rfl
  ·exact Rx 0 ⟨k,by omega⟩
  ·exact Rx 1 ⟨k,by omega⟩
  ·exact Rx 2 ⟨k,by omega⟩
  ·exact Rx 3 ⟨k,by omega⟩
theorem FX{i r:Nat}(hi:i<k)(hr:r<3):oG (fV [64] w (E6 w c k) (D3 k)) 0 ((3*i+r:Nat):Int)=(Yi w c i).getD r default:=by
 unfold oG;rw[A4];exact XP w c r hr k i hi
theorem NC{i r:Nat}(hi:i<k)(hr:r<3):Vv (fV [64] w (E6 w c k) (D3 k)) 0 ((3*i+r:Nat):Int)=Nat.beq r 2:=by
 have hl:=X8 w c k;have ho:=FX hq hc h1 hk hi hr;have hin:kH (fV [64] w (E6 w c k) (D3 k)) 0 ((3*i+r:Nat):Int):=⟨⟨by omega,by show(0:Int)<1;omega⟩,by omega,by show _<(((E6 w c k).length:Nat):Int);omega⟩
 have key:Vv (fV [64] w (E6 w c k) (D3 k)) 0 ((3*i+r:Nat):Int)=bf ((Yi w c i).getD r default):=by
  rw[<- ho]
  cases ht:bf (oG (fV [64] w (E6 w c k) (D3 k)) 0 ((3*i+r:Nat):Int)) with
  | true=>exact to_iff.2 ⟨KA hq hc h1 hk,hin,ht⟩
  | false=>exact Bool.eq_false_iff.2 λe=>absurd (to_iff.1 e).2.2 (by rw[ht];exact Bool.false_ne_true)
 rw[key]
 obtain rfl|rfl|rfl:r=0\/r=1\/r=2:=by omega
 all_goals rfl
theorem RC:mz (fV [64] w (E6 w c k) (D3 k)) 0=(List.range k).map λi=>((3*i+2:Nat):Int):=by
 have key:∀ m,m<=k->((List.range (3*m)).map (YA (fV [64] w (E6 w c k) (D3 k)) 0)).flatten=(List.range m).map λi=>((3*i+2:Nat):Int):=by
  intro m
  induction m with
  | zero=>intro _;rfl
  | succ m ih=>
   intro hm
   have t:∀ r,r<3->YA (fV [64] w (E6 w c k) (D3 k)) 0 (3*m+r)=bif Nat.beq r 2 then[((3*m+r:Nat):Int)] else[]:=λr hr=>by
    unfold YA;rw[NC hq hc h1 hk (show m<k by omega) hr]
   rw[show 3*(m+1)=3*m+2+1 by omega,Sk,V2,List.flatten_append,show 3*m+2=3*m+1+1 by omega,Sk,V2,List.flatten_append,Sk,V2,List.flatten_append,ih (by omega)];rw[Sk,V2];simp only[Bu,Cf,List.flatten_cons,List.flatten_nil,List.append_nil];rw[show 3*m+1+1=3*m+2 by omega,t 2 (by omega),t 1 (by omega),show 3*m=3*m+0 from rfl,t 0 (by omega)];simp[Nat.beq]
 unfold mz j8;have hl:=X8 w c k
 show((List.range (E6 w c k).length).map _).flatten=_
 rw[hl];exact key k (zzL7 _)
theorem XW{i:Nat}(hi:i<k):dQ (fV [64] w (E6 w c k) (D3 k)) ((3+3*i:Nat):Int)=pT (c i):=by
 have R:=Wv (KA hq hc h1 hk)
 have hA:Ml (fV [64] w (E6 w c k) (D3 k))=E6 w c k:=by unfold Ml fV;simp
 have d2:XO (fV [64] w (E6 w c k) (D3 k)) ((2+3*i:Nat):Int)=some ⟨0,64,1,((2+3*i:Nat):Int),[],c i⟩:=
  FF R (o:=⟨0,64,1,((2+3*i:Nat):Int),[],c i⟩) (by rw[hA];exact eG hi (by simp[Yi])) rfl
 have d3:XO (fV [64] w (E6 w c k) (D3 k)) ((3+3*i:Nat):Int)=some ⟨1,64,1,((3+3*i:Nat):Int),[1,((2+3*i:Nat):Int)],0⟩:=
  FF R (o:=⟨1,64,1,((3+3*i:Nat):Int),[1,((2+3*i:Nat):Int)],0⟩) (by rw[hA];exact eG hi (by simp[Yi])) rfl
 have d1:XO (fV [64] w (E6 w c k) (D3 k)) 1=none:=by
  cases h:XO (fV [64] w (E6 w c k) (D3 k)) 1 with
  | none=>rfl
  | some o=>
   obtain⟨m1,_,m3⟩:=U1 h;rw[hA]at m1;obtain⟨j,_,ho⟩:=MY m1;simp only[Yi,zzL24,List.not_mem_nil,or_false]at ho;rcases ho with rfl|rfl|rfl
   ·have:((2+3*j:Nat):Int)=1:=m3;omega
   ·have:((3+3*j:Nat):Int)=1:=m3;omega
   ·have:((4+3*j:Nat):Int)=1:=m3;omega
 have ht:Vv (fV [64] w (E6 w c k) (D3 k)) 0 ((3*i+2:Nat):Int)=true:=NC hq hc h1 hk hi (by omega);have hg:=(Mq ht).2.1;rw[FX hq hc h1 hk hi (by omega)]at hg;have hg:Gd (fV [64] w (E6 w c k) (D3 k)) ((3+3*i:Nat):Int):=hg
 have hf:∀ n,Oz (XO (fV [64] w (E6 w c k) (D3 k))) (n+2) ((3+3*i:Nat):Int)=pT (c i):=λn=>by
  rw[mc (n:=n+1) d3 rfl (show(1:Int)≠0 by omega) (a:=1) (b:=((2+3*i:Nat):Int)) rfl rfl,iF d1,dM d2 rfl]
  show dJ _ (some (Nl TC (pT 0) ⟨[],c i⟩))=_
  rw[mj,Int.zero_add,U7 (hc i).1 (hc i).2]
  rfl
 rw[<- hf (jv (fV [64] w (E6 w c k) (D3 k)) ((3+3*i:Nat):Int))];exact Xm (dI R (GB (eY hq hc h1 hk))) _ _ _ hg (Nat.lt_succ_self _) (by omega)
theorem lQ{i j:Nat}(hi:i<k)(hj:j<k):dF (fV [64] w (E6 w c k) (D3 k)) 0 ((3*i+2:Nat):Int) ((3*j+2:Nat):Int)=(C1 (c j-c i),true) /\
  P4 (oG (fV [64] w (E6 w c k) (D3 k)) 0 ((3*i+2:Nat):Int))=1*(w / 8):=by
 have ai:DK (oG (fV [64] w (E6 w c k) (D3 k)) 0 ((3*i+2:Nat):Int))=((3+3*i:Nat):Int):=by rw[FX hq hc h1 hk hi (by omega)];rfl
 have aj:DK (oG (fV [64] w (E6 w c k) (D3 k)) 0 ((3*j+2:Nat):Int))=((3+3*j:Nat):Int):=by rw[FX hq hc h1 hk hj (by omega)];rfl
 refine⟨?_,by rw[FX hq hc h1 hk hi (by omega)];rfl⟩;unfold dF;rw[NC hq hc h1 hk hi (by omega),NC hq hc h1 hk hj (by omega),ai,aj,XW hq hc h1 hk hi,XW hq hc h1 hk hj];rw[show(Nat.beq 2 2&&Nat.beq 2 2)=true from rfl,Ae];exact mb _ _ (hc i) (hc j)
end
def cR(base w:Int)(i:Nat):Int:=C1 (base+(i:Int)*(w / 8))
theorem kW(base w:Int)(i:Nat):0<=cR base w i/\cR base w i<18446744073709551616:=by unfold cR;simp only[Lg];omega
theorem BK(z:Int):Int.tdiv (8*z) 8=z:=Int.mul_tdiv_cancel_left z (by decide)
section
variable {w:Int} (hq:w=8\/w=16\/w=32\/w=64) {i j:Nat} (hi:i<16) (hj:j<16)
include hq hi
theorem mr(base:Int):C1 (base+C1 (Ap (Int.tdiv (Ap ((i:Int)*w)) 8)))=cR base w i:=by
 unfold cR
 have e:Ap (Int.tdiv (Ap ((i:Int)*w)) 8)=(i:Int)*(w / 8)/\0<=(i:Int)*(w / 8)/\(i:Int)*(w / 8)<1000:=by
  rcases hq with rfl|rfl|rfl|rfl
  ·rw[show Ap ((i:Int)*8)=8*((i:Int)*(8 / 8)) by rw[B1 (by omega) (by omega)];omega,BK];exact⟨B1 (by omega) (by omega),by omega,by omega⟩
  ·rw[show Ap ((i:Int)*16)=8*((i:Int)*(16 / 8)) by rw[B1 (by omega) (by omega)];omega,BK];exact⟨B1 (by omega) (by omega),by omega,by omega⟩
  ·rw[show Ap ((i:Int)*32)=8*((i:Int)*(32 / 8)) by rw[B1 (by omega) (by omega)];omega,BK];exact⟨B1 (by omega) (by omega),by omega,by omega⟩
  ·rw[show Ap ((i:Int)*64)=8*((i:Int)*(64 / 8)) by rw[B1 (by omega) (by omega)];omega,BK];exact⟨B1 (by omega) (by omega),by omega,by omega⟩
 rw[e.1,U7 (n:=(i:Int)*(w / 8)) e.2.1 (by omega)]
include hj
theorem mt(base:Int):C1 (Ap (Int.tdiv (Ap ((Ap ((j:Int)-(i:Int)))*w)) 8))=C1 (cR base w j-cR base w i):=by
 have e0:Ap ((j:Int)-(i:Int))=(j:Int)-(i:Int):=B1 (by omega) (by omega);rw[e0];unfold cR;rcases hq with rfl|rfl|rfl|rfl
 ·rw[show Ap (((j:Int)-(i:Int))*8)=8*(((j:Int)-(i:Int))*(8 / 8)) by rw[B1 (by omega) (by omega)];omega,BK,B1 (by omega) (by omega)];simp only[Lg];omega
 ·rw[show Ap (((j:Int)-(i:Int))*16)=8*(((j:Int)-(i:Int))*(16 / 8)) by rw[B1 (by omega) (by omega)];omega,BK,B1 (by omega) (by omega)];simp only[Lg];omega
 ·rw[show Ap (((j:Int)-(i:Int))*32)=8*(((j:Int)-(i:Int))*(32 / 8)) by rw[B1 (by omega) (by omega)];omega,BK,B1 (by omega) (by omega)];simp only[Lg];omega
 ·rw[show Ap (((j:Int)-(i:Int))*64)=8*(((j:Int)-(i:Int))*(64 / 8)) by rw[B1 (by omega) (by omega)];omega,BK,B1 (by omega) (by omega)];simp only[Lg];omega
theorem lR(base:Int):(C1 (cR base w j-cR base w i)==1*(w / 8))=((j:Int)==Ap ((i:Int)+1)):=by
 rw[w1 (by omega),Ms,zzL61,zzL61];unfold cR;simp only[Lg];rcases hq with rfl|rfl|rfl|rfl<;>omega
theorem lP(base:Int):nj (C1 (cR base w j-cR base w i)) (1*(w / 8)) (1*(w / 8))=((i:Int)!=(j:Int)):=by
 unfold nj cR;rw[Ms,A6,Du,Du,zzL88];simp only[Lg];rcases hq with rfl|rfl|rfl|rfl<;>omega
end
theorem bI{n p1 base w:Int}{k:Nat}(hW:([(8:Int),16,32,64]).getD (Int.tmod (Ap p1) 4).toNat 0=w)(hK:Ap (1+Int.tmod (Ap n) 16)=(k:Int))(hq:w=8\/w=16\/w=32\/w=64)(hk:k<=16) :
  Ah (Bq n p1 base) (([]:List Bl),(0:Int),(0:Int))=some (E6 w (cR base w) k,D3 k):=by
 refine N2 (Bq n p1 base) (λj=>(E6 w (cR base w) j,D3 j,(j:Int))) (E6 w (cR base w) k,D3 k) k (λi hi=>?_) ?_
 ·have hl:=X8 w (cR base w) i
  have hroom:∀ m:Nat,m<=100->m<=room:=λm hm=>by rw[NA];omega
  have e3:Ap (3*(i:Int))=((3*i:Nat):Int):=by rw[B1 (by omega) (by omega)];omega
  have e2:Ap (2+((3*i:Nat):Int))=((2+3*i:Nat):Int):=by rw[B1 (by omega) (by omega)];omega
  have e33:Ap (3+((3*i:Nat):Int))=((3+3*i:Nat):Int):=by rw[B1 (by omega) (by omega)];omega
  have e4:Ap (4+((3*i:Nat):Int))=((4+3*i:Nat):Int):=by rw[B1 (by omega) (by omega)];omega
  show Bq n p1 base (E6 w (cR base w) i,D3 i,(i:Int))=_
  unfold Bq;simp only[hK,hW,E9 hi,Ae,e3,e2,e33,e4,mr hq (show i<16 by omega) base];rw[Ac (hroom _ (by simp[hl];omega)),Ac (hroom _ (by simp[hl];omega)),Ac (hroom _ (by simp[hl];omega)),w1 (by omega),QN]
  have e5:D3 (i+1)=((4+3*i:Nat):Int):=by unfold D3;rw[if_neg (by omega)];omega
  rw[e5];simp[Yi]
 ·show Bq n p1 base (E6 w (cR base w) k,D3 k,(k:Int))=_
  unfold Bq;simp only[hK,Jk,Az]
theorem XX{k i:Nat}(hi:i<k):((List.range k).map λi=>((3*i+2:Nat):Int)).getD i 0=((3*i+2:Nat):Int):=by
 rw[Ab _ _ _ (by simpa using hi)]
 simp
theorem row18(n p1 base:Int)(hn:0<=n/\n<256)(hp:0<=p1/\p1<256)(hb:0<=base/\base<18446744073709551616):G4 n p1 base=some true:=by
 have en:Ap n=n:=B1 (by omega) (by omega);have ep:Ap p1=p1:=B1 (by omega) (by omega);obtain⟨m,hm⟩:∃ m:Nat,n % 16=(m:Int):=⟨(n % 16).toNat,by omega⟩
 have htm:Int.tmod (Ap n) 16=(m:Int):=by rw[en,Int.tmod_eq_emod_of_nonneg hn.1];exact hm
 have hm16:m<16:=by omega
 have hK:Ap (1+Int.tmod (Ap n) 16)=((m+1:Nat):Int):=by rw[htm,B1 (by omega) (by omega)];omega
 obtain⟨t,ht⟩:∃ t:Nat,p1 % 4=(t:Int):=⟨(p1 % 4).toNat,by omega⟩
 have htp:Int.tmod (Ap p1) 4=(t:Int):=by rw[ep,Int.tmod_eq_emod_of_nonneg hp.1];exact ht
 have ht4:t=0\/t=1\/t=2\/t=3:=by omega
 have hin:Bv (Int.tmod (Ap p1) 4) ([(8:Int),16,32,64]).length:=by rw[htp];exact⟨by omega,by show(t:Int)<4;omega⟩
 obtain⟨w,hW,hq⟩:∃ w:Int,([(8:Int),16,32,64]).getD (Int.tmod (Ap p1) 4).toNat 0=w/\(w=8\/w=16\/w=32\/w=64):=by
  rw[htp,A4];rcases ht4 with rfl|rfl|rfl|rfl
  ·exact⟨8,rfl,.inl rfl⟩
  ·exact⟨16,rfl,.inr (.inl rfl)⟩
  ·exact⟨32,rfl,.inr (.inr (.inl rfl))⟩
  ·exact⟨64,rfl,.inr (.inr (.inr rfl))⟩
 generalize hk:m+1=k at hK
 have h1:1<=k:=by omega
 have hk16:k<=16:=by omega
 have hc:=kW base w;have h:=eY hq hc h1 hk16;have htt:=RC hq hc h1 hk16;have hd:=λ(i j:Nat) (hi:i<k) (hj:j<k)=>lQ hq hc h1 hk16 hi hj;have q1:=IJ h 0;have q2:=λx y=>LU h 0 x y;have q3:=λx y=>Y0 h 0 x y;have q4:=λx y=>LS h 0 x y;rw[htt]at q1
 have h2:∀ i,i<k->Ah (Br n p1 (E6 w (cR base w) k) (D3 k) ((List.range k).map λi=>((3*i+2:Nat):Int)) (i:Int)) (0:Int)=some (.inl ()):=λi hi=>by
  refine N2 (Br n p1 (E6 w (cR base w) k) (D3 k) ((List.range k).map λi=>((3*i+2:Nat):Int)) (i:Int)) (λj=>(j:Int)) (.inl ()) k (λj hj=>?_) ?_
  ·obtain⟨d1,d2⟩:=hd i j hi hj;obtain⟨_,d3⟩:=hd j i hj hi
   have hlen:((List.range k).map λi=>((3*i+2:Nat):Int)).length=k:=by simp
   have ini:Bv (i:Int) ((List.range k).map λi=>((3*i+2:Nat):Int)).length:=by rw[hlen];exact I8 hi
   have inj:Bv (j:Int) ((List.range k).map λi=>((3*i+2:Nat):Int)).length:=by rw[hlen];exact I8 hj
   have r2:=q2 ((3*i+2:Nat):Int) ((3*j+2:Nat):Int);have r3:=q3 ((3*i+2:Nat):Int) ((3*j+2:Nat):Int);have r4:=q4 ((3*i+2:Nat):Int) ((3*j+2:Nat):Int);rw[d1]at r2;rw[show lm (fV [64] w (E6 w (cR base w) k) (D3 k)) 0 ((3*i+2:Nat):Int) ((3*j+2:Nat):Int)=((j:Int)==Ap ((i:Int)+1)) from by unfold lm;rw[d1,d2,<- lR hq (show i<16 by omega) (show j<16 by omega) base];rfl]at r3;rw[show ll (fV [64] w (E6 w (cR base w) k) (D3 k)) 0 ((3*i+2:Nat):Int) ((3*j+2:Nat):Int)=((i:Int)!=(j:Int)) from by unfold ll;rw[d1,d2,d3,<- lP hq (show i<16 by omega) (show j<16 by omega) base];rfl]at r4;unfold fV at r2 r3 r4
   show Br n p1 (E6 w (cR base w) k) (D3 k) ((List.range k).map λi=>((3*i+2:Nat):Int)) (i:Int) (j:Int)=_
   unfold Br;simp only[hK,hW,E9 hj,Ae,A4,XX hi,XX hj];rw[Ac ini,Ac inj,r2,Ar,mt hq (show i<16 by omega) (show j<16 by omega) base];simp only[Fi,Az,bne_self_eq_false,BEq.rfl,Ae];rw[Ac λ_=>ini,Ac λ_=>inj,r3,Ar];simp only[Az,bne_self_eq_false,BEq.rfl,Ae];rw[Ac λ_=>ini,Ac λ_=>inj,r4,Ar];simp only[Az,bne_self_eq_false];rw[w1 (by omega)]
  ·show Br n p1 (E6 w (cR base w) k) (D3 k) ((List.range k).map λi=>((3*i+2:Nat):Int)) (i:Int) (k:Int)=_
   unfold Br;simp only[hK,Jk,Az]
 have h3:Ah (Bs n p1 (E6 w (cR base w) k) (D3 k) ((List.range k).map λi=>((3*i+2:Nat):Int))) (0:Int)=some (.inl ()):=by
  refine N2 (Bs n p1 (E6 w (cR base w) k) (D3 k) ((List.range k).map λi=>((3*i+2:Nat):Int))) (λj=>(j:Int)) (.inl ()) k (λi hi=>?_) ?_
  ·show Bs n p1 (E6 w (cR base w) k) (D3 k) ((List.range k).map λi=>((3*i+2:Nat):Int)) (i:Int)=_
   unfold Bs;simp only[hK,E9 hi,Ae];rw[h2 i hi,Ar];simp only;rw[w1 (by omega)]
  ·show Bs n p1 (E6 w (cR base w) k) (D3 k) ((List.range k).map λi=>((3*i+2:Nat):Int)) (k:Int)=_
   unfold Bs;simp only[hK,Jk,Az]
 unfold fV at q1;unfold G4;rw[gn,Ar,show(!true)=false from rfl,Az,Ac hin,bI hW hK hq hk16,Ar];simp only[hW];rw[q1,Ar,hK,show((((List.range k).map λi=>((3*i+2:Nat):Int)).length:Int)!=(k:Int))=false by simp,Az,h3,Ar]
end
end Go.Proofs.YtjpnobeadcdnoaaGreat
