/-
  The machine, the program's functions and the laws' arithmetic: part 5 of 5.
-/
import Derived.Test.YtiendmljhgbjoaaGreatPk4
set_option linter.unusedSectionVars false
set_option linter.unusedVariables false
set_option linter.unusedSimpArgs false
namespace Go.Proofs.YtiendmljhgbjoaaGreat
noncomputable section
open Go Go.RowKit
theorem Tv{β S X:Type}(B:Nat)(mk:Int->List β->S)(out:List β->X)(n:Nat)(E:Nat->List β)(f:S->Option (LR S X))(hn:∀(acc:List β) (i:Nat),i<n->(acc++E i).length<=B->f (mk i acc)=some (.next (mk ((i:Int)+1) (acc++E i))))
  (hd:∀ acc:List β,f (mk n acc)=some (.done (out acc))):∀(k i:Nat) (acc:List β),i+k=n->(acc++(List.range' i k).flatMap E).length<=B->Ai f (mk i acc)=some (out (acc++(List.range' i k).flatMap E))
 | 0,i,acc,h,_=>by
  obtain rfl:i=n:=by omega
  rw[Ag (hd acc)]
  simp
 | k+1,i,acc,h,hB=>by
  have hi:i<n:=by omega
  rw[Xh,Ta,<- Zw]at hB ⊢;rw[An (hn acc i hi (by rw[E6]at hB;omega)),show((i:Int)+1)=((i+1:Nat):Int) by omega,Tv B mk out n E f hn hd k (i+1) _ (by omega) hB]
theorem ND{β γ:Type}(h:β->γ)(n:Nat)(g:Nat->β):(List.range' 0 n).flatMap (λj=>[h (g j)])=((List.range n).flatMap λj=>[g j]).map h:=by
 rw[List.map_flatMap,Zv];rfl
theorem CV{β γ:Type}(h:β->γ)(n:Nat)(g:Nat->List β):(List.range' 0 n).flatMap (λj=>(g j).map h)=((List.range n).flatMap g).map h:=by
 rw[List.map_flatMap,Zv]
def Kt(f:Ab)(b:Int):Int:=((f.Blocks.getD b.toNat default).Ops.length:Int)
def Dv(f:Ab)(u:Mk):A7:=⟨u.V,u.Shape,⟨u.Block,bif u.At==1000 then Kt f u.Block else u.At⟩⟩
theorem TX(f:Ab)(l:Int)(t:List Int)(vs:List (Int×Aj))(v:Int)(s:Int×Int)(p:G1)(u:List A7)(h:(u++[(⟨v,s,p⟩:A7)]).length<=10000000):Dj v s p f l t vs u=some (f,l,t,u++[⟨v,s,p⟩]):=by
 unfold Dj;rw[Ad (by rw[E6]at h;rw[fg];omega)]
theorem ap(f:Ab)(l:Int)(t:List Int)(vs:List (Int×Aj))(b:Int)(hb:Cd b f.Blocks.length)(u:List A7):Eb b f l t vs u=some (⟨b,Kt f b⟩,f,l,t,u):=by
 unfold Eb;rw[Ad hb];rfl
section
variable {f:Ab} (hf:OkF f) (l:Int) (t:List Int) (vs:List (Int×Aj))
include hf
theorem iU(i k:Nat)(hi:i<f.Blocks.length)(hk:k<(f.Blocks.getD i default).Phis.length)(hfit:((f.Blocks.getD i default).Phis.getD k default).Args.length<=((f.Blocks.getD i default).Phis.getD k default).From.length)
  (hin:∀ x∈((f.Blocks.getD i default).Phis.getD k default).From,Cd x f.Blocks.length) (u:List A7) (hB:(u++(Kw ((f.Blocks.getD i default).Phis.getD k default)).map (Dv f)).length<=10000000) :
  Ai (C5 f vs (i:Int) (k:Int)) ((0:Int),f.Params,f.Ret,f.Blocks,l,t,u)=some (f.Params,f.Ret,f.Blocks,l,t,u++(Kw ((f.Blocks.getD i default).Phis.getD k default)).map (Dv f)):=by
 have hlen:=cD hf (getD_mem (d:=(default:Ak)) hi) (getD_mem (d:=(default:F8)) hk)
 generalize hp:(f.Blocks.getD i default).Phis.getD k default=p at *
 have e:=ND (Dv f) p.Args.length λ(j:Nat)=>(⟨p.Args.getD j 0,p.From.getD j 0,1000,(p.Bits,1)⟩:Mk)
 have:=Tv 10000000 (λj u=>(j,f.Params,f.Ret,f.Blocks,l,t,u)) (λu=>(f.Params,f.Ret,f.Blocks,l,t,u)) p.Args.length (λ(j:Nat)=>[Dv f ⟨p.Args.getD j 0,p.From.getD j 0,1000,(p.Bits,1)⟩]) (C5 f vs (i:Int) (k:Int)) (λacc j hj hacc=>by
  unfold C5 Db
  have hd:decide ((j:Int)<(p.Args.length:Int))=true:=by simpa using hj
  have hjf:j<p.From.length:=by omega
  simp only[Dh,hp,hd,Ae,Ar (Bb hj),Aw,Ar (Bb hjf)];rw[show(⟨f.Params,f.Ret,f.Blocks⟩:Ab)=f from rfl,ap f l t vs _ (hin _ (getD_mem hjf)),Aw];simp only;have eu:Dv f ⟨p.Args.getD j 0,p.From.getD j 0,1000,(p.Bits,1)⟩=⟨p.Args.getD j 0,(p.Bits,1),⟨p.From.getD j 0,Kt f (p.From.getD j 0)⟩⟩:=rfl;rw[eu]at hacc ⊢
  rw[TX f l t vs _ _ _ acc hacc,Aw,Dg hj (by omega)]) (λacc=>by unfold C5;simp only[Dh,hp,show decide ((p.Args.length:Int)<(p.Args.length:Int))=false by simp,A2]) p.Args.length 0 u (by omega) (by rw[e];exact hB)
 rw[e]at this;exact this
theorem eO(i:Nat)(hi:i<f.Blocks.length)(hfit:∀ p∈(f.Blocks.getD i default).Phis,p.Args.length<=p.From.length/\∀ x∈p.From,Cd x f.Blocks.length)(u:List A7)(hB:(u++(Qt (f.Blocks.getD i default)).map (Dv f)).length<=10000000) :
  Ai (C6 f vs (i:Int)) ((0:Int),f.Params,f.Ret,f.Blocks,l,t,u)=some (f.Params,f.Ret,f.Blocks,l,t,u++(Qt (f.Blocks.getD i default)).map (Dv f)):=by
 have hBk:=hf.block _ (getD_mem (d:=(default:Ak)) hi);have e:=CV (Dv f) (f.Blocks.getD i default).Phis.length λ(k:Nat)=>Kw ((f.Blocks.getD i default).Phis.getD k default)
 have:=Tv 10000000 (λj u=>(j,f.Params,f.Ret,f.Blocks,l,t,u)) (λu=>(f.Params,f.Ret,f.Blocks,l,t,u)) (f.Blocks.getD i default).Phis.length (λ(k:Nat)=>(Kw ((f.Blocks.getD i default).Phis.getD k default)).map (Dv f)) (C6 f vs (i:Int)) (λacc k hk hacc=>by
  have hq:=hfit _ (getD_mem (d:=(default:F8)) hk);have h1:=iU hf l t vs i k hi hk hq.1 hq.2 acc hacc;unfold C6
  have hd:decide ((k:Int)<((f.Blocks.getD i default).Phis.length:Int))=true:=by simpa using hk
  simp only[Dh,hd,Ae,Ar (Bb hk),h1,Aw,Dg hk (by have:=hBk.phis;omega)]) (λacc=>by unfold C6;simp) (f.Blocks.getD i default).Phis.length 0 u (by omega) (by rw[e];exact hB)
 rw[e]at this;exact this
theorem j8(i k:Nat)(hi:i<f.Blocks.length)(hk:k<(f.Blocks.getD i default).Ops.length)(u:List A7)(hB:(u++(Ls ((f.Blocks.getD i default).Ops.getD k default) i k).map (Dv f)).length<=10000000) :
  Ai (C7 f vs (i:Int) (k:Int) (Ey ((f.Blocks.getD i default).Ops.getD k default))) ((0:Int),f.Params,f.Ret,f.Blocks,l,t,u)=some (f.Params,f.Ret,f.Blocks,l,t,u++(Ls ((f.Blocks.getD i default).Ops.getD k default) i k).map (Dv f)):=by
 have hBk:=hf.block _ (getD_mem (d:=(default:Ak)) hi);have hlen:=EI (gq hf (getD_mem (d:=(default:Ak)) hi) (getD_mem (d:=(default:Ce)) hk));have hk512:=hBk.ops
 generalize hp:(f.Blocks.getD i default).Ops.getD k default=o at *
 have e:=ND (Dv f) (Ey o).length λ(j:Nat)=>(⟨o.Args.getD j 0,i,k,(Ey o).getD j (0,0)⟩:Mk)
 have:=Tv 10000000 (λj u=>(j,f.Params,f.Ret,f.Blocks,l,t,u)) (λu=>(f.Params,f.Ret,f.Blocks,l,t,u)) (Ey o).length (λ(j:Nat)=>[Dv f ⟨o.Args.getD j 0,i,k,(Ey o).getD j (0,0)⟩]) (C7 f vs (i:Int) (k:Int) (Ey o)) (λacc j hj hacc=>by
  have hkk:((k:Int)==1000)=false:=by simp;omega
  have eu:Dv f ⟨o.Args.getD j 0,i,k,(Ey o).getD j (0,0)⟩=⟨o.Args.getD j 0,(Ey o).getD j (0,0),⟨(i:Int),(k:Int)⟩⟩:=by unfold Dv;simp only[hkk,A2]
  rw[eu]at hacc ⊢;unfold C7
  have hd:decide ((j:Int)<((Ey o).length:Int))=true:=by simpa using hj
  have hja:j<o.Args.length:=by omega
  simp only[Dh,hp,hd,Ae,Ar (Bb hj),Ar (Bb hja)]
  rw[show(⟨f.Params,f.Ret,f.Blocks⟩:Ab)=f from rfl,TX f l t vs _ _ _ acc hacc,Aw,Dg hj (by omega)]) (λacc=>by unfold C7;simp) (Ey o).length 0 u (by omega) (by rw[e];exact hB)
 rw[e]at this;exact this
theorem iT(i:Nat)(hi:i<f.Blocks.length)(u:List A7)(hB:(u++(Qs (f.Blocks.getD i default) i).map (Dv f)).length<=10000000) :
  Ai (C8 f vs (i:Int)) ((0:Int),f.Params,f.Ret,f.Blocks,l,t,u)=some (f.Params,f.Ret,f.Blocks,l,t,u++(Qs (f.Blocks.getD i default) i).map (Dv f)):=by
 have hmem:=getD_mem (d:=(default:Ak)) hi;have hBk:=hf.block _ hmem;have e:=CV (Dv f) (f.Blocks.getD i default).Ops.length λ(k:Nat)=>Ls ((f.Blocks.getD i default).Ops.getD k default) i k
 have:=Tv 10000000 (λj u=>(j,f.Params,f.Ret,f.Blocks,l,t,u)) (λu=>(f.Params,f.Ret,f.Blocks,l,t,u)) (f.Blocks.getD i default).Ops.length (λ(k:Nat)=>(Ls ((f.Blocks.getD i default).Ops.getD k default) i k).map (Dv f)) (C8 f vs (i:Int)) (λacc k hk hacc=>by
  have h1:=j8 hf l t vs i k hi hk acc hacc;have ht:Kl ((f.Blocks.getD i default).Ops.getD k default)=some (Ey ((f.Blocks.getD i default).Ops.getD k default)):=RL _ (i0 hf hmem (getD_mem hk));unfold C8
  have hd:decide ((k:Int)<((f.Blocks.getD i default).Ops.length:Int))=true:=by simpa using hk
  simp only[Dh,hd,Ae,Ar (Bb hk),ht,h1,Aw,Dg hk (by have:=hBk.ops;omega)]) (λacc=>by unfold C8;simp) (f.Blocks.getD i default).Ops.length 0 u (by omega) (by rw[e];exact hB)
 rw[e]at this;exact this
theorem WF (hfit : ∀ b ∈ f.Blocks, ∀ p ∈ b.Phis, p.Args.length ≤ p.From.length ∧ ∀ x ∈ p.From, Cd x f.Blocks.length) : Ez f l t vs [] = some (f, l, t, (Dy f).map (Dv f)) := by
  have e := CV (Dv f) f.Blocks.length fun (i : Nat) => S3 f (f.Blocks.getD i default) i; have hul := HX hf
  have := Tv 10000000 (fun j u => (j, f.Params, f.Ret, f.Blocks, l, t, u)) (fun u => (f.Params, f.Ret, f.Blocks, l, t, u)) f.Blocks.length (fun (i : Nat) => (S3 f (f.Blocks.getD i default) i).map (Dv f)) (C9 f vs) (fun acc i hi hacc => by
    have hmem := getD_mem (d := (default : Ak)) hi; unfold S3 at hacc ⊢; rw [Vt, Vt, ← Zw, ← Zw] at hacc ⊢; have l1 := hacc; simp only [E6, Mg] at l1; have h1 := eO hf l t vs i hi (hfit _ hmem) acc (by simp only [E6, Mg]; omega); have h2 := iT hf l t vs i hi (acc ++ (Qt (f.Blocks.getD i default)).map (Dv f)) (by simp only [E6, Mg]; omega); have hinb : Cd (i : Int) f.Blocks.length := Bb hi; unfold C9 Db
    have hd : decide ((i : Int) < (f.Blocks.length : Int)) = true := by simpa using hi
    simp only [hd, Ae, Ar (Bb hi), h1, Aw, h2, Dh]; have hF : (⟨f.Params, f.Ret, f.Blocks⟩ : Ab) = f := rfl; have hw : Bd ((i : Int) + 1) = (i : Int) + 1 := Dg hi (by have := hf.blocks; omega); unfold T7 at hacc ⊢
    cases hz : ((f.Blocks.getD i default).End.Kind == 0) with
    | true =>
      have hz2 : ((f.Blocks.getD i default).End.Kind == 2) = false := by have : (f.Blocks.getD i default).End.Kind = 0 := by simpa using hz
                                                                         rw [this]; rfl
      rw [hz, hz2] at hacc; simp only [Ae, A2, hz2, List.append_nil, Bq, Cc] at hacc ⊢; rw [hF, ap f l t vs _ hinb, Aw]; simp only; rw [TX f l t vs _ _ _ _ (show (_ ++ [(⟨_, _, ⟨(i : Int), Kt f (i : Int)⟩⟩ : A7)]).length ≤ 10000000 from hacc), Aw, Aw, hw]
      rfl
    | false =>
      rw [hz] at hacc
      cases hz2 : ((f.Blocks.getD i default).End.Kind == 2) with
      | true =>
        rw [hz2] at hacc; simp only [Ae, A2, Tb, Bq, Cc] at hacc ⊢; rw [hF, ap f l t vs _ hinb, Aw]; simp only; rw [TX f l t vs _ _ _ _ (show (_ ++ [(⟨_, _, ⟨(i : Int), Kt f (i : Int)⟩⟩ : A7)]).length ≤ 10000000 from hacc), Aw, Aw, hw]
        rfl
      | false =>
        simp only [A2, Tb, Cc, List.append_nil, Aw, hw]) (fun acc => by unfold C9; simp) f.Blocks.length 0 [] (by omega) (by rw [e]; simpa [Dy] using (by omega : (Dy f).length ≤ 10000000))
  rw [e, Tb] at this; unfold Ez; rw [show (0 : Int) = ((0 : Nat) : Int) from rfl]
  show ((Ai (C9 f vs) (((0 : Nat) : Int), f.Params, f.Ret, f.Blocks, l, t, [])).bind _) = _
  rw [this, Aw]
  rfl
end
theorem eA{σ X:Type}(mk:Int->σ)(U:List A7)(p:A7->Bool)(f:σ->Option (LR σ X))(yes no:X)(hk:∀ i:Nat,i<U.length->f (mk i)=some (bif p (U.getD i default) then .next (mk ((i:Int)+1)) else .done no))(he:f (mk U.length)=some (.done yes)) :
  ∀ k i:Nat,i+k=U.length->Ai f (mk i)=some (bif (U.drop i).all p then yes else no)
 | 0,i,h=>by
  obtain rfl:i=U.length:=by omega
  rw[Ag he]
  simp
 | k+1,i,h=>by
  have hi:i<U.length:=by omega
  have hdr:U.drop i=U.getD i default::U.drop (i+1):=by rw[Nn hi,Aa _ _ _ hi]
  have hx:=hk i hi;rw[hdr,Ok]
  cases hp:p (U.getD i default) with
  | true=>
   rw[hp]at hx;rw[An hx,show((i:Int)+1)=((i+1:Nat):Int) by omega,eA mk U p f yes no hk he k (i+1) (by omega),G8]
  | false=>
   rw[hp]at hx;rw[Ag hx]
   rfl
theorem CG(d:TDef)(l:List TDef)(v:Int):H6 (d::l) v=bif d.V==v then 0 else bif decide (H6 l v<0) then -1 else H6 l v+1:=by
 unfold H6;rw[List.findIdx?_cons]
 cases d.V==v with
 | true=>rfl
 | false=>
  cases l.findIdx? (λd=>d.V==v) with
  | none=>rfl
  | some i=>
   simp only[A2,Vv];rw[Gy (by omega)]
   simp
theorem CX(v:Int):∀ l:List TDef,Bz (dv l) v = !decide (H6 l v<0)
 | []=>rfl
 | d::l=>by
  rw[CG]
  show((v==d.V) || Bz (dv l) v)=_
  rw[CX v l,show(v==d.V)=(d.V==v) by rw[Mh];simp;exact Nm]
  cases d.V==v with
  | true=>rfl
  | false=>
   by_cases h:H6 l v<0
   ·simp[h]
   ·simp[h];omega
theorem Vi(v:Int):∀ l:List TDef,¬ H6 l v<0->mget (default:Aj) (dv l) v=AM (defOf l v)
 | [],h=>absurd (show(-1:Int)<0 by decide) h
 | d::l,h=>by
  unfold defOf;rw[CG]at h ⊢
  show(bif v==d.V then AM d else mget default (dv l) v)=_
  rw[show(v==d.V)=(d.V==v) by rw[Mh];simp;exact Nm]
  cases hb:d.V==v with
  | true=>rfl
  | false=>
   rw[hb]at h
   by_cases hn:H6 l v<0
   ·simp[hn]at h
   ·have hz:decide (H6 l v<0)=false:=Gy hn;simp only[A2,hz];rw[Vi v l hn,show(H6 l v+1).toNat=(H6 l v).toNat+1 by omega]
    rfl
def YS(f:Ab)(d:TDef):Prop:=d.Block = -1\/(Cd d.Block f.Blocks.length/\d.At<Kt f d.Block/\d.At<1000)
def gE(f:Ab)(u:Mk):Prop:=Cd u.Block f.Blocks.length/\0<=u.At
theorem eX{f:Ab}(hf:OkF f):∀ d∈Au f,YS f d:=λd hd=>by
 rcases zzL11.1 hd with h|h
 ·obtain⟨i,_,hi⟩:=zzL64.1 h;rw[zzL14.1 hi];exact .inl rfl
 ·obtain⟨i,hi,h⟩:=zzL64.1 h
  have hi:i<f.Blocks.length:=by simpa using hi
  have hB:=hf.block _ (getD_mem (d:=(default:Ak)) hi);have ho:Kt f (i:Int)=((f.Blocks.getD i default).Ops.length:Int):=rfl;rcases zzL11.1 h with h|h
  ·obtain⟨k,hk,h⟩:=zzL64.1 h;rw[zzL14.1 h];refine .inr ⟨Bb hi,?_,?_⟩
   ·show(-1:Int)<Kt f (i:Int);rw[ho];omega
   ·show(-1:Int)<1000;omega
  ·obtain⟨k,hk,h⟩:=zzL64.1 h
   have hk:k<(f.Blocks.getD i default).Ops.length:=by simpa using hk
   cases hg:decide (0<(Gq ((f.Blocks.getD i default).Ops.getD k default)).1) with
   | false=>rw[hg]at h;cases h
   | true=>
    rw[hg]at h;rw[zzL14.1 h];refine .inr ⟨Bb hi,?_,?_⟩
    ·show(k:Int)<Kt f (i:Int);rw[ho];omega
    ·show(k:Int)<1000;have:=hB.ops;omega
theorem fp{f:Ab}(hfit:∀ b∈f.Blocks,∀ p∈b.Phis,p.Args.length<=p.From.length/\∀ x∈p.From,Cd x f.Blocks.length):∀ u∈Dy f,gE f u:=λu hu=>by
 obtain⟨i,hi,h⟩:=zzL64.1 hu
 have hi:i<f.Blocks.length:=by simpa using hi
 have hmem:=getD_mem (d:=(default:Ak)) hi;rcases zzL11.1 h with h|h
 ·rcases zzL11.1 h with h|h
  ·obtain⟨k,hk,h⟩:=zzL64.1 h
   have hk:k<(f.Blocks.getD i default).Phis.length:=by simpa using hk
   obtain⟨j,hj,h⟩:=zzL64.1 h;have hj:=zzL34.1 hj;have hq:=hfit _ hmem _ (getD_mem (d:=(default:F8)) hk);rw[zzL14.1 h];exact⟨hq.2 _ (getD_mem (by omega)),by show(0:Int)<=1000;omega⟩
  ·obtain⟨k,hk,h⟩:=zzL64.1 h;obtain⟨j,hj,h⟩:=zzL64.1 h;rw[zzL14.1 h];exact⟨Bb hi,by show(0:Int)<=(k:Int);omega⟩
 ·unfold T7 at h
  have:u=⟨(f.Blocks.getD i default).End.Arg,i,1000,(f.Ret,1)⟩\/u=⟨(f.Blocks.getD i default).End.Arg,i,1000,(1,1)⟩:=by
   rcases zzL11.1 h with h|h
   ·cases hz:((f.Blocks.getD i default).End.Kind==0) with
    | true=>rw[hz]at h;exact .inl (zzL14.1 h)
    | false=>rw[hz]at h;cases h
   ·cases hz:((f.Blocks.getD i default).End.Kind==2) with
    | true=>rw[hz]at h;exact .inr (zzL14.1 h)
    | false=>rw[hz]at h;cases h
  rcases this with rfl|rfl<;>exact⟨Bb hi,by show(0:Int)<=1000;omega⟩
theorem ig{f:Ab}(h:F4 f=true):∀ b∈f.Blocks,∀ p∈b.Phis,p.Args.length<=p.From.length/\∀ x∈p.From,Cd x f.Blocks.length:=λb hb p hp=>by
 have hs:Nj f=true:=by simp only[F4,A4]at h;exact h.1
 refine⟨XW h b hb p hp,λx hx=>?_⟩;obtain⟨i,hi,rfl⟩:=K4 hb;simp only[F4,A4]at h;have h1:=ZQ h.2 i hi;simp only[Pv,A4,zzL25]at h1;rw[Aa _ _ _ hi]at h1;have h2:=h1.2 p hp;simp only[G6,A4,D0]at h2;rw[h2.1]at hx;obtain⟨q,rfl,hq,_⟩:=(W0 (L:=Ei f) (Su hs) (y:=i) (by rw[W6];exact hi)).1 hx;exact Bb (by rw[W6]at hq;exact hq)
theorem RZ{f:Ab}(h:F4 f=true){b:Int}(hb:Cd b f.Blocks.length):Nd (Bw f) 0 b=true:=by
 have hs:Nj f=true:=by simp only[F4,A4]at h;exact h.1
 have hm:=Su hs;have hlen:=W6 f
 have hpos:0<(Ei f).length:=by have:=(shape_iff.1 hs).1.1;omega
 obtain⟨P,hP,o,ht⟩:=XZ hm hpos
 have e:Bw f=Xb (Ei f) 0:=by
  unfold Bw OU;rw[if_pos ⟨NE hm,Int.le_refl _,by show(0:Int)<((Ei f).length:Int);omega⟩]
  rfl
 obtain⟨k,rfl⟩:∃ k:Nat,b=(k:Int):=⟨b.toNat,(Uz hb.1).symm⟩
 have hk:k<f.Blocks.length:=by have:=hb.2;omega
 simp only[F4,A4]at h;have h1:=ZQ h.2 k hk;simp only[Pv,A4]at h1;have hr:Rch (sN (Ei f)) 0 k:=(W1 (Ut hm) hpos k).1 h1.1.1;rw[e];refine(ht.over_dom o hpos (by omega)).2 ⟨rc_iff.2 hr,λha=>?_⟩;exact(av_iff.1 ha).1 rfl
theorem R5{l:List Mk}{g:Mk->A7}{p:A7->Bool}{q:Mk->Bool}(h:∀ u∈l,p (g u)=q u):(l.map g).all p=l.all q:=by
 induction l with
 | nil=>rfl
 | cons a l ih=>rw[Bq,Ok,Ok,h a (by simp),ih λu hu=>h u (by simp[hu])]
def eY(vs:List (Int×Aj))(u:A7):Bool:=((mget (default:Aj) vs u.v).shape.1==u.shape.1)&&(((mget (default:Aj) vs u.v).shape.2==u.shape.2)&&true)
def Va(vs:List (Int×Aj))(t:List Int)(u:A7):Bool:=bif (mget (default:Aj) vs u.v).place.block==u.place.block then decide ((mget (default:Aj) vs u.v).place.at_<u.place.at_) else Nd t (mget (default:Aj) vs u.v).place.block u.place.block
theorem ZP{f:Ab}(hs:F4 f=true){D:List TDef}(hD:∀ d∈D,YS f d){u:Mk}(hu:gE f u)(hfd:Ks D u=true):Va (dv D) (Bw f) (Dv f u)=Uo D (Bw f) u:=by
 have hF:¬ H6 D u.V<0:=by simpa [Ks] using hfd
 have hin:=MN hF;have hd:YS f (defOf D u.V):=hD _ (by unfold defOf;exact getD_mem (by have:=hin.1;have:=hin.2;omega));have hg:mget (default:Aj) (dv D) (Dv f u).v=AM (defOf D u.V):=Vi u.V D hF;unfold Va Uo;rw[hg]
 generalize defOf D u.V=d at *
 have hub:=hu.1.1
 have hul:0<=Kt f u.Block:=by unfold Kt;omega
 have hat:∀ a:Int,a<0\/(a<Kt f u.Block/\a<1000)->decide (a<(Dv f u).place.at_)=decide (a<u.At)\/a<0:=λa ha=>by
  rcases ha with ha|ha
  ·exact .inr ha
  ·refine .inl ?_
   show decide (a<bif u.At==1000 then Kt f u.Block else u.At)=_
   by_cases h:u.At=1000
   ·rw[h];simp only[show((1000:Int)==1000)=true from rfl,Ae];rw[Fy ha.1,Fy ha.2]
   ·have:(u.At==1000)=false:=by simpa using h
    rw[this];rfl
 have hpos:0<=(Dv f u).place.at_:=by
  show 0<=bif u.At==1000 then Kt f u.Block else u.At
  cases u.At==1000
  ·exact hu.2
  ·exact hul
 have hblk:(Dv f u).place.block=u.Block:=rfl;rw[hblk];rcases hd with hd|⟨hd1,hd2,hd3⟩
 ·have e:(AM d).place=⟨0,-1⟩:=by show eD d=_;unfold eD;rw[hd];rfl
  rw[e,hd,Fy (show(-1:Int)<0 by decide)]
  show(bif (0:Int)==u.Block then decide ((-1:Int)<(Dv f u).place.at_) else Nd (Bw f) 0 u.Block)=_
  rw[Bool.true_or,Bool.true_or,RZ hs hu.1,Fy (show(-1:Int)<(Dv f u).place.at_ by omega)]
  cases(0:Int)==u.Block<;>rfl
 ·have hn:¬ d.Block<0:=by have:=hd1.1;omega
  have e:(AM d).place=⟨d.Block,d.At⟩:=by show eD d=_;unfold eD;rw[Gy hn];rfl
  rw[e,Gy hn,ES]
  show(bif d.Block==u.Block then decide (d.At<(Dv f u).place.at_) else Nd (Bw f) d.Block u.Block)=_
  cases hb:d.Block==u.Block with
  | true=>
   have hbe:d.Block=u.Block:=by simpa using hb
   simp only[Ae,G8,Fd,Vw,Bool.or_false];rcases hat d.At (.inr ⟨by rw[<- hbe];exact hd2,hd3⟩) with h|h
   ·exact h
   ·rw[Fy (by omega),Fy (by have:=hu.2;omega)]
  | false=>
   simp only[A2,Vw,ES,L2,G8];unfold Nd
   by_cases hm:Lw (Bw f) d.Block u.Block=d.Block
   ·rw[hm]
    have:(d.Block !=-2)=true:=by simp;omega
    simp[this]
   ·have:(Lw (Bw f) d.Block u.Block==d.Block)=false:=by simpa using hm
    simp[this,bne]
section
variable {f:Ab} (l:Int) (vs:List (Int×Aj))
def YP(f:Ab)(l:Int)(U:List A7)(i:Int):Int×List Int×Int×List Ak×Int×List Int×List A7:=(i,f.Params,f.Ret,f.Blocks,l,Bw f,U)
def LH(f:Ab)(l:Int)(U:List A7):List Int×Int×List Ak×Int×List Int×List A7:=(f.Params,f.Ret,f.Blocks,l,Bw f,U)
theorem eQ(U:List A7)(hU:U.length<9223372036854775808):Ai (C1 vs (f,l,Bw f,U)) (YP f l U 0)=some (bif U.all (λu=>Bz vs u.v) then .inl (LH f l U) else .inr (LH f l U)):=by
 have:=eA (YP f l U) U (λu=>Bz vs u.v) (C1 vs (f,l,Bw f,U)) (.inl (LH f l U)) (.inr (LH f l U)) (λi hi=>by
  unfold C1 YP G4
  have hd:decide ((i:Int)<(U.length:Int))=true:=by simpa using hi
  simp only[hd,Ae,Ar (Bb hi),Dh,Aw,Dg hi hU]
  cases Bz vs (U.getD i default).v<;>rfl) (by unfold C1 YP;simp;rfl) U.length 0 (by omega)
 rw[K5]at this;exact this
theorem eR(U:List A7)(hU:U.length<9223372036854775808):Ai (C2 vs U) (YP f l U 0)=some (bif U.all (eY vs) then .inl (LH f l U) else .inr (LH f l U)):=by
 have:=eA (YP f l U) U (eY vs) (C2 vs U) (.inl (LH f l U)) (.inr (LH f l U)) (λi hi=>by
  unfold C2 YP H9
  have hd:decide ((i:Int)<(U.length:Int))=true:=by simpa using hi
  simp only[hd,Ae,Ar (Bb hi),Dh,Aw,Dg hi hU];unfold eY
  cases(((mget (default:Aj) vs (U.getD i default).v).shape.1==(U.getD i default).shape.1)&&(((mget (default:Aj) vs (U.getD i default).v).shape.2==(U.getD i default).shape.2)&&true))<;>rfl) (by unfold C2 YP;simp;rfl) U.length 0 (by omega)
 rw[K5]at this;exact this
theorem eS(htl:(Bw f).length<=1000)(U:List A7)(hU:U.length<9223372036854775808):Ai (C3 vs U) (YP f l U 0)=some (bif U.all (Va vs (Bw f)) then .inl (LH f l U) else .inr (LH f l U)):=by
 have:=eA (YP f l U) U (Va vs (Bw f)) (C3 vs U) (.inl (LH f l U)) (.inr (LH f l U)) (λi hi=>by
  have hx:E1 (U.getD i default) f l (Bw f) vs U=some (Va vs (Bw f) (U.getD i default),f,l,Bw f,U):=by
   unfold E1 Va;rw[il htl]
   cases(mget (default:Aj) vs (U.getD i default).v).place.block==(U.getD i default).place.block<;>rfl
  unfold C3 YP
  have hd:decide ((i:Int)<(U.length:Int))=true:=by simpa using hi
  simp only[hd,Ae,Ar (Bb hi),Dh];rw[show(⟨f.Params,f.Ret,f.Blocks⟩:Ab)=f from rfl,hx,Aw,Dg hi hU]
  cases Va vs (Bw f) (U.getD i default)<;>rfl) (by unfold C3 YP;simp;rfl) U.length 0 (by omega)
 rw[K5]at this;exact this
end
def EL(f:Ab):Int:=bif !(Dy f).all (Ks (Au f)) then 7 else bif !(Dy f).all (Wu (Au f)) then 6 else bif !(Dy f).all (Uo (Au f) (Bw f)) then 7 else 0
theorem ib{f:Ab}(hf:OkF f)(hs:F4 f=true)(l:Int):∃ U,Gg f l (Bw f) (dv (Au f)) []=some (EL f,f,l,Bw f,U):=by
 have hfit:=ig hs;have hul:=HX hf
 have hsB:Nj f=true:=by simp only[F4,A4]at hs;exact hs.1
 refine⟨(Dy f).map (Dv f),?_⟩
 have hU:((Dy f).map (Dv f)).length<9223372036854775808:=by rw[Mg];omega
 have h1:=eQ (f:=f) l (dv (Au f)) _ hU;have h2:=eR (f:=f) l (dv (Au f)) _ hU;have h3:=eS (f:=f) l (dv (Au f)) (cn hsB) _ hU;rw[R5 (q:=Ks (Au f)) (λu _=>CX u.V _)]at h1;unfold Gg EL O1;rw[WF hf l (Bw f) (dv (Au f)) hfit,Aw];simp only;rw[show(Ai (C1 (dv (Au f)) (f,l,Bw f,(Dy f).map (Dv f))) ((0:Int),f.Params,f.Ret,f.Blocks,l,Bw f,(Dy f).map (Dv f)))=_ from h1,Aw];have fin:∀ e:Int,Ai Jy (e,f.Params,f.Ret,f.Blocks,l,Bw f,(Dy f).map (Dv f))=some (e,f,l,Bw f,(Dy f).map (Dv f)):=λe=>Ag rfl
 cases hfd:(Dy f).all (Ks (Au f)) with
 | false=>simp only[A2,L2,Ae,LH,Aw,fin]
 | true=>
  have hmf:=zzL25.1 hfd
  rw[R5 (q:=Wu (Au f)) (λu hu=>by
   have:=hmf u hu;simp only[Ks,Oi,IC]at this;have hg:mget (default:Aj) (dv (Au f)) (Dv f u).v=AM (defOf (Au f) u.V):=Vi u.V _ this;unfold eY Wu
   rw[hg];rfl)]at h2
  rw[R5 (q:=Uo (Au f) (Bw f)) (λu hu=>ZP hs (eX hf) (fp hfit u hu) (hmf u hu))]at h3;simp only[Ae,Fd,A2,LH];rw[show(Ai (C2 (dv (Au f)) ((Dy f).map (Dv f))) ((0:Int),f.Params,f.Ret,f.Blocks,l,Bw f,(Dy f).map (Dv f)))=_ from h2,Aw]
  cases(Dy f).all (Wu (Au f)) with
  | false=>simp only[A2,L2,Ae,LH,Aw,fin]
  | true=>
   simp only[Ae,Fd,A2,LH];rw[show(Ai (C3 (dv (Au f)) ((Dy f).map (Dv f))) ((0:Int),f.Params,f.Ret,f.Blocks,l,Bw f,(Dy f).map (Dv f)))=_ from h3,Aw]
   cases(Dy f).all (Uo (Au f) (Bw f)) with
   | false=>simp only[A2,L2,Ae,LH,Aw,fin]
   | true=>simp only[Ae,Fd,A2,LH,Aw]
theorem eT{f:Ab}(h:Sm f)(l:Int)(h0:0<=l)(h2:l<=2):∃ t u vs,F1 f l [] []=some (E7 f l,f,l,t,u,vs)/\(E7 f l=0->vs=dv (Au f)):=by
 have hc:E7 f l=bif !Qe f then 4 else KS f l:=by
  unfold E7;rw[Gy (by omega),Gy (by omega)];rfl
 rw[hc];unfold F1;rw[ia f h.1,Aw]
 cases hm:Qe f with
 | false=>exact⟨[],[],[],rfl,λh=>by cases h⟩
 | true=>
  have hf:=kU h hm;simp only[Ae,Fd,A2,show((0:Int)!=0)=false from rfl,KS];obtain⟨t',hsh,hst⟩:=au hf l [] [];rw[hsh,Aw]
  cases hs:F4 f with
  | false=>exact⟨t',[],[],rfl,λh=>by cases h⟩
  | true=>
   obtain rfl:=hst hs;simp only[Ae,Fd,A2,show((0:Int)!=0)=false from rfl];rw[eP hf l h0 h2,Aw]
   cases O2 f l with
   | false=>exact⟨Bw f,[],[],rfl,λh=>by cases h⟩
   | true=>
    simp only[Ae,Fd,A2,show((0:Int)!=0)=false from rfl];obtain⟨vs,hd,hv⟩:=WH hf l (Bw f) [];rw[hd,Aw]
    cases hdd:(List.range (Au f).length).all (Kr (Au f)) with
    | false=>exact⟨Bw f,[],vs,rfl,λh=>by cases h⟩
    | true=>
     obtain rfl:=hv hdd;simp only[Ae,Fd,A2,show((0:Int)!=0)=false from rfl];obtain⟨U,hu⟩:=ib hf hs l;rw[hu,Aw];refine⟨Bw f,U,dv (Au f),?_,λ_=>rfl⟩
     show(bif EL f !=0 then some (EL f,f,l,Bw f,U,dv (Au f)) else some (0,f,l,Bw f,U,dv (Au f)))=some (EL f,f,l,Bw f,U,dv (Au f))
     cases hz:EL f !=0 with
     | true=>rfl
     | false=>
      have:EL f=0:=by simpa using hz
      rw[this];rfl
def lone(e:Ip)(b r:Int):Ab:=⟨[b],r,[⟨[],[],e⟩]⟩
theorem mu{α:Type}(l:List α):(l.map λ_=>1).sum=l.length:=by induction l with|nil=>rfl|cons a l ih=>simp[ih];omega
def fh(l:List TDef):List (Int×(Int×Int)):=l.map λd=>(d.V,d.Shape)
theorem Vd{f:Ab}(h:(List.range (Au f).length).all (Kr (Au f))=true):((Au f).map (·.V)).Nodup:=by
 rw[List.nodup_iff_pairwise_ne,List.pairwise_map,zzL96];intro i j hi hj hij he;have:=((Ty hj).1 (ZQ h j hj)).2 i hij;rw[Aa _ _ _ hi,Aa _ _ _ hj]at this;exact this he
theorem EE{x1:Int×Ab×Int×List Int×List A7×List (Int×Aj)}(D:List TDef)(hx:x1.2.2.2.2.2=dv D)(hn:(D.map (·.V)).Nodup):∀(τ:List Nat) (acc:List (Int×(Int×Int))),τ.Nodup->(∀ i∈τ,i<D.length)->(∀ i∈τ,Bz acc (D.getD i default).V=false)->
  Sv (Ge x1) H0 τ acc=some (acc++τ.map λi=>((D.getD i default).V,(D.getD i default).Shape))
 | [],acc,_,_,_=>by simp[Sv,H0]
 | i::τ,acc,hd,hin,hf=>by
  have hi:=hin i (by simp)
  have hg:(dv D).getD i ((0:Int),(default:Aj))=((D.getD i default).V,AM (D.getD i default)):=by
   unfold dv;simp[List.getD,hi]
  have hm:=Tw (D.getD i default).V (D.getD i default).Shape (hf i (by simp))
  have hstep:Ge x1 i acc=some (.next (acc++[((D.getD i default).V,(D.getD i default).Shape)])):=by
   unfold Ge;rw[hx,hg]
   show some (LR.next (Eh acc (D.getD i default).V ((D.getD i default).Shape.1,(D.getD i default).Shape.2)))=_
   rw[show((D.getD i default).Shape.1,(D.getD i default).Shape.2)=(D.getD i default).Shape from rfl,hm]
  unfold Sv;rw[hstep]
  show Sv _ _ τ _=_
  rw[EE D hx hn τ _ (zzL74.1 hd).2 (λj hj=>hin j (by simp[hj])) (λj hj=>?_),Bq,Zw]
  ·rfl
  ·have h1:=hf j (by simp[hj]);rw[Sf]at h1 ⊢;rw[List.any_append,h1,ES];have hj':=hin j (by simp[hj]);have hne:j≠i:=λe=>(zzL74.1 hd).1 (e▸hj)
   have:(D.getD j default).V≠(D.getD i default).V:=λe=>by
    rw[List.nodup_iff_pairwise_ne,List.pairwise_map,zzL96]at hn;rw[Aa _ _ _ hi,Aa _ _ _ hj']at e;rcases Nat.lt_or_gt_of_ne hne with h|h
    ·exact hn j i hj' hi h e
    ·exact hn i j hi hj' h e.symm
   simpa using this
theorem MB(f:Ab)(h:Sm f):∃ s,Kg f=some s/\ZC f s:=by
 obtain⟨t,u,vs,hw,hv⟩:=eT h 2 (by omega) (by omega);unfold Kg;rw[hw,Aw]
 cases hc:(E7 f 2 !=0) with
 | true=>
  have hne:E7 f 2≠0:=by simpa using hc
  exact⟨[],rfl,λ_=>rfl,λe=>absurd e hne,λe=>absurd e hne,λe=>absurd e hne⟩
 | false=>
  have h0:E7 f 2=0:=by simpa using hc
  obtain rfl:=hv h0;have hz:=(Mz (f:=f) (l:=2) (by omega) (by omega)).1 h0
  have hall:(List.range (Au f).length).all (Kr (Au f))=true:=by
   have:=hz.2.2.2;unfold DZ at this
   cases hb:(List.range (Au f).length).all (Kr (Au f)) with
   | true=>rfl
   | false=>rw[hb]at this;cases this
  have hn:=Vd hall
  have hlen:(mapE (λ(v_:Aj)=>((.agg (Pz v_)):AV)) (dv (Au f))).length=(Au f).length:=by simp[mapE,dv]
  have hkeys:((fh (Au f)).map (·.1)).Nodup:=by
   have:(fh (Au f)).map (·.1)=(Au f).map (·.V):=by unfold fh;rw[List.map_map];rfl
   rw[this];exact hn
  have hrun:∀ τ:List Nat,τ.Perm (List.range (mapE (λ(v_:Aj)=>((.agg (Pz v_)):AV)) (dv (Au f))).length)->∃ x',Sv (Ge (E7 f 2,f,2,t,u,dv (Au f))) H0 τ ([]:List (Int×(Int×Int)))=some x'/\HL x' (fh (Au f)):=λτ hτ=>by
   rw[hlen]at hτ;have hr:=EE (x1:=(E7 f 2,f,2,t,u,dv (Au f))) (Au f) rfl hn τ [] (hτ.nodup_iff.2 List.nodup_range) (λi hi=>zzL34.1 (hτ.mem_iff.1 hi)) (λ_ _=>rfl);refine⟨_,hr,?_,hkeys⟩;rw[Tb];have:=hτ.map λi=>(((Au f).getD i default).V,((Au f).getD i default).Shape);refine this.trans ?_
   have e:(List.range (Au f).length).map (λi=>(((Au f).getD i default).V,((Au f).getD i default).Shape))=fh (Au f):=by
    unfold fh
    apply Yv
    ·simp
    ·intro i h1 h2;simp only[Mg,Zx]at h1;simp only[List.getElem_map,List.getElem_range,Aa _ _ _ h1]
   rw[e]
  obtain⟨s,hs⟩:=XM ⟨fh (Au f),hrun⟩
  have hp:s.Perm (fh (Au f))/\(s.map (·.1)).Nodup:=by
   have hsp:=Zl hs (List.range _) (List.Perm.refl _);obtain⟨x',h1,h2⟩:=hsp;obtain⟨x2,h3,h4⟩:=hrun (List.range _) (List.Perm.refl _);rw[h1]at h3;obtain rfl:=OI h3;exact⟨h2.1.symm.trans h4.1,h2.2⟩
  refine⟨s,?_,λhne=>absurd h0 hne,λ_=>?_,λ_ d hd=>?_,λ_ v hv=>?_⟩
  ·show(Vk HL _ _ _ _).bind _=_
   rw[hs];rfl
  ·rw[hp.1.length_eq];simp[fh]
  ·have hm:(d.V,d.Shape)∈s:=hp.1.mem_iff.2 (zzL22.2 ⟨d,hd,rfl⟩);exact CW hp.2 hm
  ·rw[Sf,List.any_eq_true]at hv;obtain⟨q,hq,he⟩:=hv;obtain⟨d,hd,rfl⟩:=zzL22.1 (hp.1.mem_iff.1 hq);exact⟨d,hd,by simpa using(by simpa using he:v=d.V).symm⟩
abbrev bA(f:Ab)(i:Nat):Ak:=f.Blocks.getD i default
def mY(f:Ab)(i:Nat)(k:Nat):Int:=(bA f i).End.To.getD k 0
structure Rt(f:Ab):Prop where
 lo:1<=f.Blocks.length
 hi:f.Blocks.length<=64
 to:∀ i,i<f.Blocks.length->∀ k,k<(bA f i).End.To.length->0<mY f i k/\mY f i k<f.Blocks.length
 one:∀ i,i<f.Blocks.length->(bA f i).End.Kind=1->(bA f i).End.To.length=1
 two:∀ i,i<f.Blocks.length->(bA f i).End.Kind=2->(bA f i).End.To.length=2
 may:Li (Ei f)=true
 ok:OkF f
set_option maxRecDepth 100000
def me(f:Ab)(d:TDef)(b a:Int):Prop:=d.Block<0\/(d.Block=b/\d.At<a)\/(d.Block≠b/\Nd (Bw f) d.Block b=true)
theorem RA{l:List TDef}(hn:(l.map (·.V)).Nodup){d:TDef}(hd:d∈l):0<=H6 l d.V/\defOf l d.V=d:=by
 obtain⟨i,hi,rfl⟩:=K4 hd
 have hx:∃ k,l.findIdx? (λe=>e.V==l[i].V)=some k:=by
  cases h:l.findIdx? (λe=>e.V==l[i].V) with
  | some k=>exact⟨k,rfl⟩
  | none=>
   have:=List.findIdx?_eq_none_iff.1 h _ (Xi hi);simp at this
 obtain⟨k,hk⟩:=hx;obtain⟨hk1,hk2,_⟩:=List.findIdx?_eq_some_iff_getElem.1 hk
 have e:k=i:=by
  have h1:(l.map (·.V))[k]'(by simpa using hk1)=(l.map (·.V))[i]'(by simpa using hi):=by simpa using hk2
  exact(List.getElem_inj hn).1 h1
 subst e;unfold defOf H6;rw[hk];refine⟨by simp,?_⟩
 show l.getD ((k:Int)).toNat default=l[k]
 rw[A6,Aa _ _ _ hi]
structure lA(f:Ab)(l:Int):Prop where
 may:Qe f=true
 shape:F4 f=true
 typed:O2 f l=true
 rest:DZ f=0
theorem fc{f:Ab}{l:Int}(hl:0<=l/\l<=2):E7 f l=0↔lA f l:=
 ⟨λh=>by obtain⟨a,b,c,d⟩:=(Mz hl.1 hl.2).1 h;exact⟨a,b,c,d⟩,λh=>(Mz hl.1 hl.2).2 ⟨h.1,h.2,h.3,h.4⟩⟩
section
variable {f:Ab} {l:Int} (R:lA f l)
include R
theorem cT{b:Ak}(hb:b∈f.Blocks){o:Ce}(ho:o∈b.Ops):G0 l o=true:=by
 have h:=R.typed;simp only[O2,He,A4,zzL25]at h;exact(h.1.2 b hb).2 o ho
theorem gu{b:Ak}(hb:b∈f.Blocks){o:Ce}(ho:o∈b.Ops):Hm o=true:=by
 have:=cT R hb ho;unfold G0 at this;simp only[A4]at this;exact this.1.1
theorem BJ:(List.range (Au f).length).all (Kr (Au f))=true/\(∀ u∈Dy f,Ks (Au f) u=true)/\(∀ u∈Dy f,Wu (Au f) u=true)/\∀ u∈Dy f,Uo (Au f) (Bw f) u=true:=by
 have h:=R.rest;unfold DZ at h
 cases h1:(List.range _).all _ with
 | false=>rw[h1]at h;cases h
 | true=>grind
theorem cS{d e:TDef}(hd:d∈Au f)(he:e∈Au f)(hv:d.V=e.V):d=e:=by
 have hn:=Vd (BJ R).1;have h1:=(RA hn hd).2;rw[hv,(RA hn he).2]at h1;exact h1.symm
theorem jE{d:TDef}(hd:d∈Au f):valS d.V=true:=by
 obtain⟨i,hi,rfl⟩:=K4 hd;have:=((Ty hi).1 (ZQ (BJ R).1 i hi)).1;rw[Aa _ _ _ hi]at this;exact this
theorem jD{u:Mk}(hu:u∈Dy f):∃ d∈Au f,d.V=u.V/\d.Shape=u.Shape/\me f d u.Block u.At:=by
 obtain⟨_,h2,h3,h4⟩:=BJ R;have hf:=h2 u hu;have hfit:=h3 u hu;have hdom:=h4 u hu;unfold Ks at hf
 have hneg:¬ H6 (Au f) u.V<0:=by simpa using hf
 have hin:=MN hneg;have hmem:defOf (Au f) u.V∈Au f:=getD_mem (by have:=hin.1;have:=hin.2;omega)
 have hV:(defOf (Au f) u.V).V=u.V:=by
  unfold defOf;unfold H6 at hneg ⊢
  cases hx:(Au f).findIdx? (λd=>d.V==u.V) with
  | none=>rw[hx]at hneg;exact absurd (by decide) hneg
  | some i=>
   obtain⟨hi,hp,_⟩:=List.findIdx?_eq_some_iff_getElem.1 hx
   show((Au f).getD ((i:Int)).toNat default).V=_
   rw[A6,Aa _ _ _ hi]
   simpa using hp
 refine⟨_,hmem,hV,?_,?_⟩
 ·unfold Wu at hfit;simp only[A4,zzL72]at hfit;exact Prod.ext hfit.1 hfit.2.1
 ·unfold Uo at hdom;simp only[Xk,A4,D0,zzL72,Oi,zzL24]at hdom;rcases hdom with(h|h)|⟨h,h'⟩
  ·exact .inl h
  ·exact .inr (.inl h)
  ·by_cases hb:(defOf (Au f) u.V).Block<0
   ·exact .inl hb
   ·refine .inr (.inr ⟨h,?_⟩);rw[bne_eq_false_iff_eq]at h';unfold Nd;rw[h',A4];exact⟨by simp,by rw[zzL91];omega⟩
end
theorem ri_def{f:Ab}{d:TDef}:d∈Au f↔(∃ i,i<f.Params.length/\d=⟨(i:Int)+1,-1,0,(f.Params.getD i 0,1)⟩) \/
  ∃ i,i<f.Blocks.length/\((∃ k,k<(bA f i).Phis.length/\d=⟨((bA f i).Phis.getD k default).Dst,i,-1,(((bA f i).Phis.getD k default).Bits,1)⟩) \/
   ∃ k,k<(bA f i).Ops.length/\0<(Gq ((bA f i).Ops.getD k default)).1/\d=⟨((bA f i).Ops.getD k default).Dst,i,k,Gq ((bA f i).Ops.getD k default)⟩):=by
 unfold Au K1 Jw Tk Xx;simp only[zzL11,zzL64,zzL34,zzL14]
 constructor
 ·rintro(h|⟨i,hi,⟨k,hk,h⟩|⟨k,hk,h⟩⟩)
  ·exact .inl h
  ·exact .inr ⟨i,hi,.inl ⟨k,hk,h⟩⟩
  ·refine .inr ⟨i,hi,.inr ⟨k,hk,?_⟩⟩
   cases hg:decide (0<(Gq ((f.Blocks.getD i default).Ops.getD k default)).1) with
   | true=>rw[hg]at h;exact⟨Xg hg,zzL14.1 h⟩
   | false=>rw[hg]at h;cases h
 ·rintro(h|⟨i,hi,⟨k,hk,h⟩|⟨k,hk,hg,h⟩⟩)
  ·exact .inl h
  ·exact .inr ⟨i,hi,.inl ⟨k,hk,h⟩⟩
  ·exact .inr ⟨i,hi,.inr ⟨k,hk,by rw[Fy hg];exact zzL14.2 h⟩⟩
theorem HV{o:Ce}(hm:Hm o=true):(Ey o).length=o.Args.length/\∀ j,j<o.Args.length->(Ey o).getD j (0,0)=GN o j:=by
 obtain⟨_,_,_,_,hn,_,_⟩:=BD hm
 have ht:Ey o=Ln o:=by unfold Ey;rw[hm];rfl
 have htl:(Ln o).length=o.Args.length:=by unfold Ln;rw[Mg,Zx];omega
 refine⟨by rw[ht,htl],λj hj=>?_⟩;rw[ht];unfold Ln;rw[P6 (by omega)]
theorem fe {f : Ab} (hk : ∀ b ∈ f.Blocks, ∀ o ∈ b.Ops, Hm o = true) {u : Mk} : u ∈ Dy f ↔ ∃ i, i < f.Blocks.length ∧
    ((∃ k j, k < (bA f i).Phis.length ∧ j < ((bA f i).Phis.getD k default).Args.length ∧ u = ⟨((bA f i).Phis.getD k default).Args.getD j 0, ((bA f i).Phis.getD k default).From.getD j 0, 1000, (((bA f i).Phis.getD k default).Bits, 1)⟩) ∨
     (∃ k j, k < (bA f i).Ops.length ∧ j < ((bA f i).Ops.getD k default).Args.length ∧ u = ⟨((bA f i).Ops.getD k default).Args.getD j 0, i, k, GN ((bA f i).Ops.getD k default) j⟩) ∨
     ((bA f i).End.Kind = 0 ∧ u = ⟨(bA f i).End.Arg, i, 1000, (f.Ret, 1)⟩) ∨ ((bA f i).End.Kind = 2 ∧ u = ⟨(bA f i).End.Arg, i, 1000, (1, 1)⟩)) := by
  unfold Dy S3 Qt Kw Qs Ls T7; simp only [zzL11, zzL64, zzL34, zzL14]
  have hE : ∀ (k c : Int) (x : Mk), u ∈ (bif k == c then [x] else []) ↔ (k = c ∧ u = x) := fun k c x => by
    by_cases h : k = c
    · rw [zzL72.2 h]; simp [h]
    · rw [zzL24.2 h]; simp [h]
  simp only [hE]
  constructor
  · rintro ⟨i, hi, (⟨k, hk', j, hj, h⟩ | ⟨k, hk', j, hj, h⟩) | h⟩
    · exact ⟨i, hi, .inl ⟨k, j, hk', hj, h⟩⟩
    · obtain ⟨e1, e2⟩ := HV (hk _ (getD_mem (d := default) hi) _ (getD_mem (d := default) hk')); rw [e1] at hj; rw [e2 j hj] at h; exact ⟨i, hi, .inr (.inl ⟨k, j, hk', hj, h⟩)⟩
    · exact ⟨i, hi, .inr (.inr h)⟩
  · rintro ⟨i, hi, ⟨k, j, hk', hj, h⟩ | ⟨k, j, hk', hj, h⟩ | h⟩
    · exact ⟨i, hi, .inl (.inl ⟨k, hk', j, hj, h⟩)⟩
    · obtain ⟨e1, e2⟩ := HV (hk _ (getD_mem (d := default) hi) _ (getD_mem (d := default) hk')); exact ⟨i, hi, .inl (.inr ⟨k, hk', j, by rw [e1]; exact hj, by rw [e2 j hj]; exact h⟩)⟩
    · exact ⟨i, hi, .inr h⟩
def Ky:List Ah->Int->Int
 | [],_=>0
 | t::r,v=>bif t.V==v then t.Scale else Ky r v
def Ex:Int->List Ah->Bool
 | _,[]=>true
 | lo,t::r=>(decide (lo<t.V)&&decide (t.V<=1023)&&!(t.Scale==0))&&Ex t.V r
def Pg(g:Int->Int):Nat->Nat->List Ah
 | _,0=>[]
 | a,n+1=>bif g (a:Int)==0 then Pg g (a+1) n else⟨(a:Int),g (a:Int)⟩::Pg g (a+1) n
def df(g:Int->Int):List Ah:=Pg g 1 1023
theorem Vl{g h:Int->Int}:∀{n a:Nat},(∀ v:Int,(a:Int)<=v->g v=h v)->Pg g a n=Pg h a n
 | 0,_,_=>rfl
 | n+1,a,e=>by
  unfold Pg;rw[e a (Int.le_refl _),Vl (n:=n) (a:=a+1) λv hv=>e v (by omega)]
theorem V8:∀{l:List Ah} {lo v:Int},Ex lo l=true->v<=lo->Ky l v=0
 | [],_,_,_,_=>rfl
 | t::r,lo,v,h,hv=>by
  simp only[Ex,A4,D0]at h;unfold Ky;rw[show(t.V==v)=false from zzL24.2 (by omega),A2];exact V8 h.2 (by omega)
theorem Ss:∀(n a:Nat) {l:List Ah},a+n=1024->Ex ((a:Int)-1) l=true->Pg (Ky l) a n=l
 | 0,a,[],_,_=>rfl
 | 0,a,t::r,h,hm=>by
  simp only[Ex,A4,D0]at hm;omega
 | n+1,a,[],h,_=>by
  unfold Pg;rw[show(Ky [] (a:Int)==0)=true from rfl,Ae];exact Ss n (a+1) (by omega) rfl
 | n+1,a,t::r,h,hm=>by
  have hm':=hm;simp only[Ex,A4,D0,Oi,zzL24]at hm;obtain⟨⟨⟨h1,h2⟩,h3⟩,h4⟩:=hm;unfold Pg
  by_cases e:t.V=a
  ·have e1:Ky (t::r) (a:Int)=t.Scale:=by unfold Ky;rw[e];simp
   rw[e1,show(t.Scale==0)=false from zzL24.2 h3,A2];rw[e]at h4
   have e2:Pg (Ky (t::r)) (a+1) n=Pg (Ky r) (a+1) n:=Vl λv hv=>by
    unfold Ky;rw[show(t.V==v)=false from zzL24.2 (by omega),A2]
    cases r<;>rfl
   rw[e2,Ss n (a+1) (by omega) (by rw[show(((a+1:Nat):Int)-1)=a by omega];exact h4),<- e]
  ·have e1:Ky (t::r) (a:Int)=0:=by
    unfold Ky;rw[show(t.V==(a:Int))=false from zzL24.2 e,A2];exact V8 h4 (by omega)
   rw[e1];simp only[BEq.rfl,Ae];refine Ss n (a+1) (by omega) ?_;simp only[Ex,A4,D0,Oi,zzL24];exact⟨⟨⟨by omega,h2⟩,h3⟩,h4⟩
theorem LN{l:List Ah}(h:Ex 0 l=true):df (Ky l)=l:=Ss 1023 1 rfl h
theorem KM{g:Int->Int}:∀(n a:Nat) (lo:Int),lo<a->a+n<=1024->Ex lo (Pg g a n)=true
 | 0,_,_,_,_=>rfl
 | n+1,a,lo,h,h2=>by
  unfold Pg
  cases e:g (a:Int)==0 with
  | true=>exact KM n (a+1) lo (by omega) (by omega)
  | false=>
   simp only[A2,Ex,A4,D0,e,L2,Be];exact⟨⟨h,by omega⟩,KM n (a+1) a (by omega) (by omega)⟩
theorem eC(g:Int->Int):Ex 0 (df g)=true:=KM 1023 1 0 (by omega) (by omega)
theorem GA{g h:Int->Int}(e:∀ v:Int,1<=v->v<1024->g v=h v):df g=df h:=by
 have:∀ n a:Nat,1<=a->a+n<=1024->Pg g a n=Pg h a n:=by
  intro n
  induction n with
  | zero=>intros;rfl
  | succ n ih=>
   intro a h1 h2;unfold Pg;rw[e a (by omega) (by omega),ih (a+1) (by omega) (by omega)]
 exact this 1023 1 (zzL8 _) (zzL8 _)
theorem GF{x:Aq}(hl:x.Terms.length<9223372036854775808):Ep x=some (Ex 0 x.Terms):=by
 have key:∀(k i:Nat) (lo:Int),i+k=x.Terms.length->Ai (Hn x) (lo,(i:Int))=some (bif Ex lo (x.Terms.drop i) then .inl () else .inr false):=by
  intro k
  induction k with
  | zero=>
   intro i lo h
   obtain rfl:i=x.Terms.length:=by omega
   rw[List.drop_length];exact Ag (by unfold Hn;simp only[Kd,A2];rfl)
  | succ k ih=>
   intro i lo h
   have hi:i<x.Terms.length:=by omega
   have hd:x.Terms.drop i=x.Terms.getD i default::x.Terms.drop (i+1):=by rw[Nn hi,Aa _ _ _ hi]
   rw[hd]
   have hs:Hn x (lo,(i:Int))=some (bif decide (lo<(x.Terms.getD i default).V)&&decide ((x.Terms.getD i default).V<=1023)&&!((x.Terms.getD i default).Scale==0) then .next ((x.Terms.getD i default).V,((i+1:Nat):Int)) else .done (.inr false)):=by
    unfold Hn;simp only[Fv hi,Ae,A6];rw[Ad (I9 hi),Dg hi hl]
    generalize x.Terms.getD i default=t
    have a1:decide (t.V<=lo) = !decide (lo<t.V):=by by_cases h:lo<t.V<;>simp[h]<;>omega
    have a2:decide ((1023:Int)<t.V) = !decide (t.V<=1023):=by by_cases h:t.V<=1023<;>simp[h]<;>omega
    rw[a1,a2]
    cases decide (lo<t.V)<;>cases decide (t.V<=1023)<;>cases(t.Scale==0)<;>rfl
   cases hb:(decide (lo<(x.Terms.getD i default).V)&&decide ((x.Terms.getD i default).V<=1023)&&!((x.Terms.getD i default).Scale==0)) with
   | true=>
    rw[hb,Ae]at hs;rw[An hs,ih (i+1) _ (by omega)];simp only[Ex,hb,G8]
   | false=>
    rw[hb,A2]at hs;rw[Ag hs];simp only[Ex,hb,Vw,A2]
 unfold Ep;have:=key x.Terms.length 0 0 (by omega);rw[show(((0:Nat):Int))=0 from rfl,K5]at this;rw[this]
 cases Ex 0 x.Terms<;>rfl
def bV(l:List Ah):Int:=match l with|[]=>1024|t::_=>t.V
def jZ(l:List Ah)(v:Int):Int×List Ah:=match l with|[]=>(0,[])|t::r=>bif t.V==v then(t.Scale,r) else(0,t::r)
theorem JL(l:List Ah):Cq l=some (bV l):=by
 cases l with
 | nil=>rfl
 | cons t r=>
  unfold Cq;rw[show((((t::r).length:Int))==0)=false from zzL24.2 (by simp;omega),A2,Ad ⟨by omega,by simp⟩]
  rfl
theorem TW(l:List Ah){v:Int}(hv:v<1024):C4 l v=some (jZ l v):=by
 unfold C4;rw[JL,Aw]
 cases l with
 | nil=>rw[show(bV []!=v)=true from zzL91.2 (by simp[bV];omega)];rfl
 | cons t r=>
  show(bif t.V !=v then _ else _)=some (bif t.V==v then _ else _)
  by_cases e:t.V=v
  ·rw[show(t.V !=v)=false by simp[e],show(t.V==v)=true by simp[e],A2,Ae,Ad ⟨by omega,by simp⟩,Ad ⟨by omega,by simp only[Oj];omega⟩]
   rfl
  ·rw[show(t.V !=v)=true by simp[e],show(t.V==v)=false by simp[e]]
   rfl
theorem g6{l:List Ah}{a:Int}(h:Ex (a-1) l=true):(jZ l a).1=Ky l a/\Ex a (jZ l a).2=true/\∀ v,a<v->Ky (jZ l a).2 v=Ky l v:=by
 cases l with
 | nil=>exact⟨rfl,rfl,λ_ _=>rfl⟩
 | cons t r=>
  have h':=h;simp only[Ex,A4,D0]at h
  show(bif t.V==a then(t.Scale,r) else(0,t::r)).1=_/\Ex a (bif t.V==a then(t.Scale,r) else(0,t::r)).2=true/\∀ v,a<v->Ky (bif t.V==a then(t.Scale,r) else(0,t::r)).2 v=_
  by_cases e:t.V=a
  ·rw[show(t.V==a)=true by simp[e]];refine⟨by simp[Ky,e],by rw[<- e];exact h.2,λv hv=>?_⟩;simp only[Ky,show(t.V==v)=false from zzL24.2 (by omega),show(t.V==a)=true by simp[e],Ae,A2]
  ·rw[show(t.V==a)=false by simp[e]];refine⟨?_,?_,λv hv=>rfl⟩
   ·simp only[A2,Ky,show(t.V==a)=false by simp[e]];exact(V8 h.2 (by omega)).symm
   ·simp only[A2,Ex,A4,D0];exact⟨⟨⟨by omega,h.1.1.2⟩,h.1.2⟩,h.2⟩
theorem gh{l:List Ah}{a:Int}(h:Ex (a-1) l=true)(ha:a<=1024):a<=bV l:=by
 cases l with
 | nil=>exact ha
 | cons t r=>
  simp only[Ex,A4,D0]at h
  show a<=t.V
  omega
theorem bo{l:List Ah}{a:Int}(h:Ex (a-1) l=true)(hn:bV l≠a):Ex a l=true:=by
 cases l with
 | nil=>rfl
 | cons t r=>
  simp only[Ex,A4,D0]at h ⊢;have:t.V≠a:=hn;exact⟨⟨⟨by omega,h.1.1.2⟩,h.1.2⟩,h.2⟩
def jG{S X:Type}(g:Int->Int->Int)(mk:List Ah->List Ah->List Ah->S)(out:List Ah->X)(xs ys acc:List Ah):Option (LR S X):=
 bif bif decide ((0:Int)<(xs.length:Int)) then true else decide ((0:Int)<(ys.length:Int)) then
  (Cq xs).bind λp=>(Cq ys).bind λq=>(C4 xs (if q<p then q else p)).bind λu=>(C4 ys (if q<p then q else p)).bind λw=>
   bif g u.1 w.1 !=0 then Cw (acc.length+1<=room) (some (.next (mk u.2 w.2 (acc++[⟨if q<p then q else p,g u.1 w.1⟩])))) else some (.next (mk u.2 w.2 acc))
 else some (.done (out acc))
theorem Vg{S X:Type}(g:Int->Int->Int)(mk:List Ah->List Ah->List Ah->S)(out:List Ah->X)(f:S->Option (LR S X))(hf:∀ xs ys acc,f (mk xs ys acc)=jG g mk out xs ys acc)(h0:g 0 0=0) :
  ∀(n a:Nat) (xs ys acc:List Ah),a+n=1024->Ex ((a:Int)-1) xs=true->Ex ((a:Int)-1) ys=true->acc.length+n<=2000->
   Ai f (mk xs ys acc)=some (out (acc++Pg (λv=>g (Ky xs v) (Ky ys v)) a n)):=by
 intro n
 induction n with
 | zero=>
  intro a xs ys acc h hx hy _
  have e:∀{l:List Ah},Ex ((a:Int)-1) l=true->l=[]:=λ{l} hl=>by
   have:=Ss 0 a h hl;exact this.symm
  rw[e hx,e hy];refine Ag ?_;rw[hf];simp[jG,Pg]
 | succ n ih=>
  intro a xs ys acc h hx hy hl;have hpa:=gh hx (by omega);have hqa:=gh hy (by omega)
  by_cases hh:bV xs=a\/bV ys=a
  ·have hv:(if bV ys<bV xs then bV ys else bV xs)=(a:Int):=by split<;>omega
   have hne:(bif decide ((0:Int)<(xs.length:Int)) then true else decide ((0:Int)<(ys.length:Int)))=true:=by
    rcases hh with e|e
    ·cases xs with
     | nil=>exact absurd e (by show ¬ ((1024:Int)=a);omega)
     | cons=>simp
    ·cases ys with
     | nil=>exact absurd e (by show ¬ ((1024:Int)=a);omega)
     | cons=>simp
   obtain⟨p1,p2,p3⟩:=g6 hx;obtain⟨q1,q2,q3⟩:=g6 hy
   have hs:f (mk xs ys acc)=some (.next (mk (jZ xs a).2 (jZ ys a).2 (acc++(bif g (Ky xs a) (Ky ys a)==0 then[] else[⟨(a:Int),g (Ky xs a) (Ky ys a)⟩])))):=by
    rw[hf];unfold jG;rw[hne,Ae,JL,JL];simp only[Aw,hv];rw[TW _ (by omega),TW _ (by omega)];simp only[Aw,p1,q1]
    cases hz:g (Ky xs a) (Ky ys a)==0 with
    | true=>rw[show(g (Ky xs a) (Ky ys a)!=0)=false by simp[bne,hz]];simp
    | false=>
     rw[show(g (Ky xs a) (Ky ys a)!=0)=true by simp[bne,hz],Ae,Ad (by unfold room;omega)]
     rfl
   rw[An hs];rw[ih (a+1) _ _ _ (by omega) (by rw[show(((a+1:Nat):Int)-1)=a by omega];exact p2) (by rw[show(((a+1:Nat):Int)-1)=a by omega];exact q2) (by cases g (Ky xs a) (Ky ys a)==0<;>simp<;>omega)];rw[Vl (n:=n) (a:=a+1) (h:=λv=>g (Ky xs v) (Ky ys v)) λv hv=>by rw[p3 v (by omega),q3 v (by omega)]]
   congr 2
   rw[Zw]
   congr 1
   conv=>rhs;unfold Pg
   cases g (Ky xs a) (Ky ys a)==0<;>rfl
  ·have hx':=bo hx (by omega);have hy':=bo hy (by omega);rw[ih (a+1) xs ys acc (by omega) (by rw[show(((a+1:Nat):Int)-1)=a by omega];exact hx') (by rw[show(((a+1:Nat):Int)-1)=a by omega];exact hy') (by omega)]
   congr 3
   conv=>rhs;unfold Pg
   rw[V8 hx' (Int.le_refl _),V8 hy' (Int.le_refl _),h0]
   rfl
def Nr(g:Int->Int->Int)(x y:Aq):Aq:=bif Ex 0 x.Terms&&Ex 0 y.Terms then⟨df λv=>g (Ky x.Terms v) (Ky y.Terms v),g x.Off y.Off⟩ else⟨[],0⟩
def NI:Aq:=⟨[],0⟩
def QN(a b:Int):Int:=Dt (a+b)
def SO(a b:Int):Int:=Dt (a-b)
def XE(n a _b:Int):Int:=Dt (a*n)
theorem iW{x y:Aq}(hx:x.Terms.length<9223372036854775808)(hy:y.Terms.length<9223372036854775808):Jc x y=some (Nr QN x y):=by
 unfold Jc L6 Nr;rw[GF hx,GF hy]
 cases h1:Ex 0 x.Terms with
 | false=>rfl
 | true=>
  cases h2:Ex 0 y.Terms with
  | false=>rfl
  | true=>
   simp only[Fd,BEq.rfl,Ae,A2,Aw,S7,Ji];rw[Vg QN (λa b c=>(a,b,c)) id M7 (λxs ys acc=>rfl) rfl 1023 1 x.Terms y.Terms [] rfl h1 h2 (by simp)]
   rfl
theorem eL{x y:Aq}(hx:x.Terms.length<9223372036854775808)(hy:y.Terms.length<9223372036854775808):H8 x y=some (Nr SO x y):=by
 unfold H8 Jq Nr;rw[GF hx,GF hy]
 cases h1:Ex 0 x.Terms with
 | false=>rfl
 | true=>
  cases h2:Ex 0 y.Terms with
  | false=>rfl
  | true=>
   simp only[Fd,BEq.rfl,Ae,A2,Aw,S7,It];rw[Vg SO (λa b c=>(a,b,c)) id K2 (λxs ys acc=>rfl) rfl 1023 1 x.Terms y.Terms [] rfl h1 h2 (by simp)]
   rfl
theorem JM{x:Aq}{n:Int}(hx:x.Terms.length<9223372036854775808):Ew x n=some (Nr (XE n) x NI):=by
 unfold Ew Jr Nr;rw[GF hx,GF (x:=⟨[],0⟩) (by simp)]
 cases h1:Ex 0 x.Terms with
 | false=>rfl
 | true=>
  simp only[Fd,BEq.rfl,Ae,A2,Aw,S7,Iu,Ex,NI];rw[Vg (XE n) (λa b c=>(a,b,c,n)) (λl=>(l,n)) K3 (λxs ys acc=>rfl) (by show Dt (0*n)=0;rw[Int.zero_mul];rfl) 1023 1 x.Terms [] [] rfl h1 rfl (by simp)]
  rfl
theorem iX{x y:Aq}(hx:x.Terms.length<9223372036854775808):Gr x y=some (decide (x=y)):=by
 have hT:Cy x.Terms y.Terms=some (decide (x.Terms=y.Terms)):=by
  unfold Cy
  by_cases hl:x.Terms.length=y.Terms.length
  ·rw[show(((x.Terms.length:Int))!=(y.Terms.length:Int))=false by simp[hl],A2];have:=UI x.Terms y.Terms default (Bo x.Terms y.Terms) (.inl ()) (.inr false) hl
    (λi hi he=>by
     unfold Bo;simp only[Fv hi,Ae,A6];rw[Ad (I9 hi),Ad (I9 (by omega)),eq_of_beq he,Dg hi hx]
     simp)
    (λi hi he=>by
     unfold Bo;simp only[Fv hi,Ae,A6];rw[Ad (I9 hi),Ad (I9 (by omega))]
     have:((x.Terms.getD i default).V==(y.Terms.getD i default).V&&((x.Terms.getD i default).Scale==(y.Terms.getD i default).Scale&&true))=false:=by
      rw[<- he]
      generalize x.Terms.getD i default=s
      generalize y.Terms.getD i default=t
      rw[Mh]
      cases s;cases t
      simp
     rw[this]
     rfl)
    (by unfold Bo;simp only[Kd,A2]) x.Terms.length 0 (by omega)
   rw[show(((0:Nat):Int))=0 from rfl,K5,K5]at this;rw[this]
   by_cases e:x.Terms=y.Terms
   ·simp[e]
   ·rw[Gy e,zzL24.2 e];rfl
  ·rw[show(((x.Terms.length:Int))!=(y.Terms.length:Int))=true by simp;omega,Ae];rw[Gy (λe=>hl (by rw[e]))]
 unfold Gr;rw[hT]
 by_cases ho:x.Off=y.Off
 ·rw[ho];simp only[BEq.rfl,Ae,Aw]
  congr 1
  cases x;cases y
  simp_all
 ·rw[show(x.Off==y.Off)=false by simp[ho]];have:¬ x=y:=λe=>ho (by rw[e]);simp[this]
theorem UJ{g:Int->Int->Int}{x y:Aq}(hx:Ex 0 x.Terms=true)(hy:Ex 0 y.Terms=true):Nr g x y=⟨df λv=>g (Ky x.Terms v) (Ky y.Terms v),g x.Off y.Off⟩:=by
 unfold Nr;rw[hx,hy];rfl
theorem bs(g:Int->Int->Int)(x y:Aq):Ex 0 (Nr g x y).Terms=true:=by
 unfold Nr
 cases Ex 0 x.Terms&&Ex 0 y.Terms with
 | false=>rfl
 | true=>rw[Ae];exact eC (λv=>g (Ky x.Terms v) (Ky y.Terms v))
theorem Sg{V:Type}(k v:Int)(x:V):∀ l:List (Int×V),Bz (Eh l k x) v=(v==k || Bz l v)
 | []=>by simp[Eh,Bz]
 | (a,b)::r=>by
  unfold Eh
  by_cases e:k=a
  ·subst e;simp only[BEq.rfl,Ae,Bz]
   cases(v==k)<;>simp
  ·rw[show(k==a)=false by simp[e],A2];simp only[Bz,Sg k v x r]
   cases(v==a)<;>cases(v==k)<;>simp
theorem Wq{V:Type}(d:V)(k v:Int)(x:V):∀ l:List (Int×V),mget d (Eh l k x) v=bif v==k then x else mget d l v
 | []=>by simp only[Eh,mget]
 | (a,b)::r=>by
  unfold Eh
  by_cases e:k=a
  ·subst e;simp only[BEq.rfl,Ae,mget]
   cases(v==k)<;>rfl
  ·rw[show(k==a)=false by simp[e],A2];simp only[mget,Wq d k v x r]
   by_cases h:v=a
   ·subst h;rw[show(v==k)=false from zzL24.2 (Ha e)]
    simp
   ·rw[show(v==a)=false by simp[h]];rfl
def DL(v:Int):Aq:=⟨[⟨v,1⟩],0⟩
def gn(k:Int)(a b:Aq):Option Aq:=
 bif k==1 then some (Nr QN a b) else bif k==2 then some (Nr SO a b)
 else bif (k==3)&&((b.Terms.length:Int)==0) then some (Nr (XE b.Off) a NI) else bif (k==3)&&((a.Terms.length:Int)==0) then some (Nr (XE a.Off) b NI)
 else bif ((k==8)&&((b.Terms.length:Int)==0))&&decide (b.Off<64) then some (Nr (XE (SL .u64 1 b.Off)) a NI) else none
def RI(k:Int):Bool:=k==0 || (k==1 || (k==2 || (k==3 || k==8)))
def bL(v:Int):Option Aq->Aq
 | some y=>bif decide ((16:Int)<(y.Terms.length:Int)) then DL v else y
 | none=>DL v
def Pq(D:Int->Option Ce):Nat->Int->Aq
 | 0,v=>DL v
 | n+1,v=>match D v with
  | none=>DL v
  | some o=>bif o.Kind==0 then⟨[],o.Imm⟩ else bL v (gn o.Kind (Pq D n (o.Args.getD 0 0)) (Pq D n (o.Args.getD 1 0)))
structure dk(D:Int->Option Ce)(G:Int->Prop)(rk:Int->Nat):Prop where
 rng:∀ v,G v->1<=v/\v<=1023
 kind:∀ v o,G v->D v=some o->RI o.Kind=true
 args:∀ v o,G v->D v=some o->o.Kind≠0->o.Args.length=2/\(G (o.Args.getD 0 0)/\rk (o.Args.getD 0 0)<rk v)/\G (o.Args.getD 1 0)/\rk (o.Args.getD 1 0)<rk v
 imm:∀ v o,G v->D v=some o->0<=o.Imm
section
variable {D:Int->Option Ce} {G:Int->Prop} {rk:Int->Nat} (W:dk D G rk)
include W
theorem Tm:∀(n:Nat) (v:Int) (m:Nat),G v->rk v<n->rk v<m->Pq D n v=Pq D m v
 | 0,_,_,_,h,_=>absurd h (Mi _)
 | _,_,0,_,_,h=>absurd h (Mi _)
 | n+1,v,m+1,hg,h1,h2=>by
  unfold Pq
  cases hd:D v with
  | none=>rfl
  | some o=>
   by_cases h0:o.Kind=0
   ·simp[h0]
   ·obtain⟨_,⟨g0,r0⟩,g1,r1⟩:=W.args v o hg hd h0;simp only;rw[Tm n _ m g0 (by omega) (by omega),Tm n _ m g1 (by omega) (by omega)]
omit W in
theorem Yr(n:Int):0<=Dt n:=by rw[S5];omega
omit W in
theorem gp{k:Int}{a b y:Aq}(h:gn k a b=some y):Ex 0 y.Terms=true/\0<=y.Off:=by
 have key:∀(g:Int->Int->Int) (a b:Aq),(∀ x y,0<=g x y)->Ex 0 (Nr g a b).Terms=true/\0<=(Nr g a b).Off:=λg a b hg=>by
  refine⟨bs g a b,?_⟩;unfold Nr
  cases Ex 0 a.Terms&&Ex 0 b.Terms with
  | false=>exact Int.le_refl _
  | true=>exact hg _ _
 have e1:∀ x y,0<=QN x y:=λx y=>Yr _;have e2:∀ x y,0<=SO x y:=λx y=>Yr _;have e3:∀ n x y,0<=XE n x y:=λn x y=>Yr _;unfold gn at h
 cases c1:k==1 with
 | true=>rw[c1]at h;cases h;exact key _ _ _ e1
 | false=>
  rw[c1,A2]at h
  cases c2:k==2 with
  | true=>rw[c2]at h;cases h;exact key _ _ _ e2
  | false=>
   rw[c2,A2]at h
   cases c3:(k==3)&&((b.Terms.length:Int)==0) with
   | true=>rw[c3]at h;cases h;exact key _ _ _ (e3 _)
   | false=>
    rw[c3,A2]at h
    cases c4:(k==3)&&((a.Terms.length:Int)==0) with
    | true=>rw[c4]at h;cases h;exact key _ _ _ (e3 _)
    | false=>
     rw[c4,A2]at h
     cases c5:((k==8)&&((b.Terms.length:Int)==0))&&decide (b.Off<64) with
     | true=>rw[c5]at h;cases h;exact key _ _ _ (e3 _)
     | false=>rw[c5]at h;cases h
omit W in
theorem jA{v:Int}(h1:1<=v)(h2:v<=1023):Ex 0 (DL v).Terms=true/\0<=(DL v).Off/\(DL v).Terms.length<=16:=by
 refine⟨?_,Int.le_refl _,by simp[DL]⟩;simp only[DL,Ex,Yx,A4,D0];exact⟨⟨by omega,h2⟩,rfl⟩
theorem gZ:∀(n:Nat) (v:Int),G v->Ex 0 (Pq D n v).Terms=true/\0<=(Pq D n v).Off/\(Pq D n v).Terms.length<=16:=λn v hg=>by
 have ho:=jA (W.rng v hg).1 (W.rng v hg).2
 cases n with
 | zero=>exact ho
 | succ n=>
  unfold Pq
  cases hd:D v with
  | none=>exact ho
  | some o=>
   simp only
   cases h0:o.Kind==0 with
   | true=>exact⟨rfl,W.imm v o hg hd,by simp⟩
   | false=>
    rw[A2]
    cases hm:gn o.Kind (Pq D n (o.Args.getD 0 0)) (Pq D n (o.Args.getD 1 0)) with
    | none=>exact ho
    | some y=>
     unfold bL;simp only
     by_cases hl:(16:Int)<(y.Terms.length:Int)
     ·rw[Fy hl];exact ho
     ·rw[Gy hl];exact⟨(gp hm).1,(gp hm).2,by simp only[A2];omega⟩
end
theorem iS{k:Int}{a b:Aq}(ha:a.Terms.length<9223372036854775808)(hb:b.Terms.length<9223372036854775808)(h0:0<=b.Off) :
  Jd k a b=some (match gn k a b with|some y=>(y,true)|none=>(⟨[],0⟩,false)):=by
 unfold Jd gn Gc;rw[iW ha hb,eL ha hb,JM ha,JM hb,JM ha,Ad h0]
 by_cases k1:k=1
 ·subst k1;rfl
 ·by_cases k2:k=2
  ·subst k2;rfl
  ·rw[show(k==1)=false by simp[k1],show(k==2)=false by simp[k2]];simp only[A2]
   by_cases k3:k=3
   ·subst k3
    cases((b.Terms.length:Int)==0)<;>cases((a.Terms.length:Int)==0)<;>rfl
   ·rw[show(k==3)=false by simp[k3]]
    by_cases k8:k=8
    ·subst k8
     cases((b.Terms.length:Int)==0)<;>cases decide (b.Off<(64:Int))<;>rfl
    ·rw[show(k==8)=false by simp[k8]];rfl
def QG(M:List (Int×Ce))(D:Int->Option Ce)(G:Int->Prop):Prop:=∀ v,G v->Bz M v=(D v).isSome/\∀ o,D v=some o->mget default M v=o
section
variable {D:Int->Option Ce} {G:Int->Prop} {rk:Int->Nat} (W:dk D G rk)
include W
theorem XL{M:List (Int×Ce)}(hM:QG M D G):∀(r:Nat) (v:Int) (fd:List (Int×Aq)),G v->rk v<r->(∀ x,G x->Bz fd x=true->mget default fd x=Pq D (rk x+1) x)->
  ∃ fd',(∀ n,2*r<=n->Bh n v M fd=some (Pq D (rk v+1) v,fd'))/\∀ x,G x->Bz fd' x=true->mget default fd' x=Pq D (rk x+1) x:=by
 intro r
 induction r with
 | zero=>intro v fd _ h;exact absurd h (Mi _)
 | succ r ih=>
  intro v fd hg hr hfd;have step:∀ fd':List (Int×Aq),(∀ n,2*r<=n->Br (Bh (n+1)) (B0 (n+1)) v M fd=some (Pq D (rk v+1) v,fd'))->
    ∀ n,2*(r+1)<=n->Bh n v M fd=some (Pq D (rk v+1) v,fd'):=λfd' h n hn=>by
   obtain⟨n,rfl⟩:∃ m,n=m+2:=⟨n-2,by omega⟩;exact h n (by omega)
  have fin:∀(s:Option (Aq×Bool×List (Int×Aq))) (y:Aq) (b:Bool) (fd':List (Int×Aq)),s=some (y,b,fd')->(bif (bif (!b) then true else decide ((16:Int)<(y.Terms.length:Int))) then DL v else y)=Pq D (rk v+1) v->
    (s.bind λx1=>(Option.bind (α:=(List (Ah)×Int)) (bif (bif (!x1.2.1) then true else(decide (((16:Int):Int)<(x1.1.Terms.length:Int)))) then(some ((([(⟨v,(1:Int)⟩:Ah)]:List (Ah)),(0:Int)))) else(some ((x1.1.Terms,x1.1.Off)))) (λx4=>(match x4 with|(l2,i3)=>(some ((⟨l2,i3⟩:Aq),(Eh x1.2.2 v (⟨l2,i3⟩:Aq))))))))
    = some (Pq D (rk v+1) v,Eh fd' v (Pq D (rk v+1) v)):=λs y b fd' hs hy=>by
   rw[hs,Aw,<- hy]
   cases b with
   | false=>rfl
   | true=>
    simp only[Fd,A2]
    cases decide ((16:Int)<(y.Terms.length:Int))<;>rfl
  have put:∀(fd':List (Int×Aq)),(∀ x,G x->Bz fd' x=true->mget default fd' x=Pq D (rk x+1) x)->∀ x,G x->Bz (Eh fd' v (Pq D (rk v+1) v)) x=true->mget default (Eh fd' v (Pq D (rk v+1) v)) x=Pq D (rk x+1) x:=λfd' h x hx hh=>by
   rw[Wq]
   by_cases e:x=v
   ·subst e;simp
   ·rw[Sg,show(x==v)=false by simp[e],ES]at hh;rw[show(x==v)=false by simp[e],A2];exact h x hx hh
  cases hh:Bz fd v with
  | true=>exact⟨fd,step fd (λn hn=>by unfold Br;rw[hh,Ae,hfd v hg hh]),hfd⟩
  | false=>
   obtain⟨hM1,hM2⟩:=hM v hg
   have hF:Pq D (rk v+1) v=match D v with
    | none=>DL v
    | some o=>bif o.Kind==0 then⟨[],o.Imm⟩ else bL v (gn o.Kind (Pq D (rk v) (o.Args.getD 0 0)) (Pq D (rk v) (o.Args.getD 1 0))):=rfl
   have hsum:∀ n,B0 (n+1) v M fd=Cg (Bh n) (B0 n) v M fd:=λn=>rfl
   cases hd:D v with
   | none=>
    rw[hd]at hM1 hF;refine⟨_,step _ λn hn=>?_,put fd hfd⟩;unfold Br;rw[hh,A2,hsum];refine fin _ ⟨[],0⟩ false fd ?_ (by rw[hF];rfl);unfold Cg;rw[hM1]
    rfl
   | some o=>
    rw[hd]at hM1 hF;have hg2:=hM2 o hd
    by_cases h0:o.Kind=0
    ·refine⟨_,step _ λn hn=>?_,put fd hfd⟩;unfold Br;rw[hh,A2,hsum];refine fin _ ⟨[],o.Imm⟩ true fd ?_ (by rw[hF];dsimp only;rw[h0];rfl);unfold Cg;rw[hM1,hg2,h0]
     rfl
    ·obtain⟨hl,⟨g0,r0⟩,g1,r1⟩:=W.args v o hg hd h0;obtain⟨f1,a1,a2⟩:=ih _ fd g0 (by omega) hfd;obtain⟨f2,b1,b2⟩:=ih _ f1 g1 (by omega) a2;rw[Tm W _ _ (rk v) g0 (by omega) r0]at a1;rw[Tm W _ _ (rk v) g1 (by omega) r1]at b1;obtain⟨p1,p2,p3⟩:=gZ W (rk v) _ g0;obtain⟨q1,q2,q3⟩:=gZ W (rk v) _ g1;have hmade:=iS (k:=o.Kind) (a:=Pq D (rk v) (o.Args.getD 0 0)) (b:=Pq D (rk v) (o.Args.getD 1 0)) (by omega) (by omega) q2
     have hrun:∀ n,2*r<=n->Cg (Bh n) (B0 n) v M fd=(Jd o.Kind (Pq D (rk v) (o.Args.getD 0 0)) (Pq D (rk v) (o.Args.getD 1 0))).bind λx5=>some (x5.1,x5.2,f2):=λn hn=>by
      unfold Cg;rw[hM1,hg2];simp only[Option.isSome_some,Fd,A2,show(o.Kind==(0:Int))=false from zzL24.2 h0];rw[Ad ⟨by omega,by omega⟩,show((0:Int)).toNat=0 from rfl,a1 n hn,Aw,Ad ⟨by omega,by omega⟩,show((1:Int)).toNat=1 from rfl];simp only;rw[b1 n hn,Aw]
     dsimp only at hF
     rw[show(o.Kind==0)=false from zzL24.2 h0,A2]at hF
     cases hm:gn o.Kind (Pq D (rk v) (o.Args.getD 0 0)) (Pq D (rk v) (o.Args.getD 1 0)) with
     | none=>
      rw[hm]at hF hmade;refine⟨_,step _ λn hn=>?_,put f2 b2⟩;unfold Br;rw[hh,A2,hsum,hrun n hn,hmade,Aw];exact fin _ ⟨[],0⟩ false f2 rfl (by rw[hF];rfl)
     | some y=>
      rw[hm]at hF hmade;refine⟨_,step _ λn hn=>?_,put f2 b2⟩;unfold Br;rw[hh,A2,hsum,hrun n hn,hmade,Aw];exact fin _ y true f2 rfl (by rw[hF];rfl)
theorem SB{M:List (Int×Ce)}(hM:QG M D G){v:Int}(hg:G v):∃ fd,Gb v M []=some (Pq D (rk v+1) v,fd):=by
 obtain⟨fd,h,_⟩:=XL W hM (rk v+1) v [] hg (Nat.lt_succ_self _) (λx _ h=>by cases h);exact⟨fd,eb _ λm hm=>h m hm⟩
end
section
variable {D:Int->Option Ce} {G:Int->Prop} {rk:Int->Nat} (W:dk D G rk)
include W
end
theorem KQ{t:List Int}:∀{k:Nat} {a:Int} {q:List Int},upD t k a=some q->∀{m:Nat},k<=m->upD t m a=some q
 | 0,_,_,h,_,_=>by cases h
 | k+1,a,q,h,0,hm=>absurd hm (by omega)
 | k+1,a,q,h,m+1,hm=>by
  unfold upD at h ⊢
  split at h
  ·rename_i h1
   rw[if_pos h1]
   split at h
   ·rename_i h2
    rw[if_pos h2];exact h
   ·rename_i h2
    rw[if_neg h2]
    cases hu:upD t k (t.getD a.toNat 0) with
    | none=>rw[hu]at h;cases h
    | some q'=>rw[hu]at h;rw[KQ hu (by omega:k<=m)];exact h
  ·cases h
theorem cp{t:List Int}:∀{k:Nat} {b a:Int} {q:List Int},upD t k b=some q->a∈q->a≠b->∃ q',upD t k a=some q'/\q'.length<q.length
 | 0,_,_,_,h,_,_=>by cases h
 | k+1,b,a,q,h,ha,hne=>by
  have h0:=h;unfold upD at h
  split at h
  ·split at h
   ·cases h;exact absurd (zzL14.1 ha) hne
   ·cases hu:upD t k (t.getD b.toNat 0) with
    | none=>rw[hu]at h;cases h
    | some q'=>
     rw[hu]at h;cases h;rcases zzL23.1 ha with e|hin
     ·exact absurd e hne
     ·by_cases e:a=t.getD b.toNat 0
      ·exact⟨q',by rw[e];exact KQ hu (by omega),by simp⟩
      ·obtain⟨q2,h1,h2⟩:=cp hu hin e;exact⟨q2,KQ h1 (by omega),by simp;omega⟩
  ·cases h
theorem KL{t:List Int}{a b:Int}(h:Nd t a b=true)(hne:a≠b):(Ek t a).length<(Ek t b).length:=by
 unfold Nd at h;simp only[A4,zzL72,zzL91]at h;obtain⟨h1,h2⟩:=h;unfold Lw at h1 h2
 split at h1
 ·rename_i hr
  rw[if_pos hr]at h2
  cases hf:(Ek t a).find? λx=>(Ek t b).contains x with
  | none=>rw[hf]at h2;exact absurd rfl h2
  | some x=>
   rw[hf]at h1;obtain rfl:x=a:=h1;have hc:=List.find?_some hf
   have hin:x∈Ek t b:=by simpa using hc
   unfold Ek at hin ⊢
   cases hu:upD t t.length b with
   | none=>rw[hu]at hin;cases hin
   | some q=>
    rw[hu]at hin;obtain⟨q',g1,g2⟩:=cp hu hin hne;rw[g1];exact g2
 ·rename_i hr
  rw[if_neg hr]at h2;exact absurd rfl h2
def Gd(f:Ab)(v:Int):Prop:=∃ d∈Au f,d.V=v/\d.Shape=(64,1)
def Ll(f:Ab):List Ce:=f.Blocks.flatMap (·.Ops)
def UP(f:Ab)(v:Int):Option Ce:=(Ll f).find? λo=>RI o.Kind&&o.Dst==v
def lw(f:Ab)(d:TDef):Nat:=if d.Block<0 then 0 else(Ek (Bw f) d.Block).length*((Ll f).length+5)+(d.At+2).toNat
def jF(f:Ab)(v:Int):Nat:=lw f (defOf (Au f) v)
theorem opsA_mem{f:Ab}{o:Ce}:o∈Ll f↔∃ i,i<f.Blocks.length/\∃ k,k<(bA f i).Ops.length/\o=(bA f i).Ops.getD k default:=by
 unfold Ll;rw[zzL64]
 constructor
 ·rintro⟨b,hb,ho⟩;obtain⟨i,hi,rfl⟩:=K4 hb;obtain⟨k,hk,rfl⟩:=K4 ho;have e:bA f i=f.Blocks[i]:=Aa _ _ _ hi;refine⟨i,hi,k,by rw[e];exact hk,?_⟩;rw[e,Aa _ _ _ hk]
 ·rintro⟨i,hi,k,hk,rfl⟩;exact⟨bA f i,getD_mem hi,getD_mem hk⟩
theorem cI{f:Ab}{i:Nat}(hi:i<f.Blocks.length):(bA f i).Ops.length<=(Ll f).length:=by
 unfold Ll
 have:∀(l:List Ak) (b:Ak),b∈l->b.Ops.length<=(l.flatMap (·.Ops)).length:=by
  intro l
  induction l with
  | nil=>intro b h;cases h
  | cons x l ih=>
   intro b h;rw[Ta,E6];rcases zzL23.1 h with rfl|h
   ·omega
   ·have:=ih b h;omega
 exact this _ _ (getD_mem hi)
section
variable {f:Ab} (R:lA f 2)
include R
theorem cG{i k:Nat}(hi:i<f.Blocks.length)(hk:k<(bA f i).Ops.length):Hm ((bA f i).Ops.getD k default)=true:=gu R (getD_mem hi) (getD_mem hk)
theorem op_dst{o:Ce}(ho:o∈Ll f):o.Dst=0/\RI o.Kind=false\/∃ i k:Nat,i<f.Blocks.length/\k<(bA f i).Ops.length/\o=(bA f i).Ops.getD k default/\1<=o.Dst/\o.Dst<=1023/\(⟨o.Dst,(i:Int),(k:Int),L5 o.Kind o.Bits o.Lanes⟩:TDef)∈Au f:=by
 obtain⟨i,hi,k,hk,e⟩:=opsA_mem.1 ho;have hm:=cG R hi hk;rw[<- e]at hm;obtain⟨m1,m2,m3,m4,m5,m6,m7⟩:=BD hm
 by_cases hst:o.Kind=17\/o.Kind=19
 ·left
  have:(o.Kind==17 || o.Kind==19)=true:=by simpa using hst
  unfold dstS at m7;rw[this,Ae]at m7;refine⟨by simpa using m7,?_⟩;rcases hst with h|h<;>rw[h]<;>rfl
 ·right
  have hf:(o.Kind==17 || o.Kind==19)=false:=by simpa using hst
  unfold dstS at m7;rw[hf,A2]at m7;simp only[valS,A4,D0]at m7
  have hg:Gq o=L5 o.Kind o.Bits o.Lanes:=by unfold Gq;rw[hm];rfl
  have hz:=CJ (k:=o.Kind) m1;rw[hf]at hz
  have hpos:0<(Gq o).1:=by
   rw[hg];have hn:(L5 o.Kind o.Bits o.Lanes).1≠0:=zzL24.1 hz;have hb:=width_cases (S1 m1);unfold L5 at hn ⊢;rw[hf,A2]at hn ⊢
   cases(o.Kind==10 || o.Kind==11 || o.Kind==12) with
   | true=>show(0:Int)<1;omega
   | false=>cases(o.Kind==22)<;>simp<;>omega
  refine⟨i,k,hi,hk,e,m7.1,m7.2,ri_def.2 (.inr ⟨i,hi,.inr ⟨k,hk,by rw[<- e];exact hpos,?_⟩⟩)⟩;rw[<- e,hg]
theorem cH{o o':Ce}(ho:o∈Ll f)(ho':o'∈Ll f)(h1:1<=o.Dst)(h:o.Dst=o'.Dst):o=o':=by
 rcases op_dst R ho with⟨h0,_⟩|⟨i,k,hi,hk,e,_,_,hd⟩
 ·omega
 ·rcases op_dst R ho' with⟨h0,_⟩|⟨i',k',hi',hk',e',_,_,hd'⟩
  ·omega
  ·have:=cS R hd hd' h;simp only[TDef.mk.injEq]at this;obtain⟨_,h2,h3,_⟩:=this
   have e1:i=i':=by omega
   have e2:k=k':=by omega
   rw[e,e',e1,e2]
theorem DK{o:Ce}(ho:o∈Ll f)(hk:RI o.Kind=true):UP f o.Dst=some o:=by
 unfold UP
 cases h:(Ll f).find? λx=>RI x.Kind&&x.Dst==o.Dst with
 | none=>
  have:=List.find?_eq_none.1 h o ho;simp[hk]at this
 | some x=>
  have hp:=List.find?_some h;simp only[A4,zzL72]at hp
  have h1:1<=x.Dst:=by
   rcases op_dst R (List.mem_of_find?_eq_some h) with⟨_,h0⟩|⟨i,k,hi,hk',e,h1,_,_⟩
   ·rw[hp.1]at h0;cases h0
   ·exact h1
  rw[cH R (List.mem_of_find?_eq_some h) ho h1 hp.2]
omit R in
theorem T0{v:Int}{o:Ce}(h:UP f v=some o):o∈Ll f/\RI o.Kind=true/\o.Dst=v:=by
 unfold UP at h;have hp:=List.find?_some h;simp only[A4,zzL72]at hp;exact⟨List.mem_of_find?_eq_some h,hp.1,hp.2⟩
theorem gw{d:TDef}(hd:d∈Au f):jF f d.V=lw f d:=by
 unfold jF;rw[(RA (Vd (BJ R).1) hd).2]
theorem ie(hI:∀ o∈Ll f,0<=o.Imm):dk (UP f) (Gd f) (jF f):=by
 refine⟨λv ⟨d,hd,hv,_⟩=>?_,λv o _ h=>(T0 h).2.1,λv o ⟨d,hd,hv,hs⟩ h h0=>?_,λv o _ h=>hI o (T0 h).1⟩
 ·have:=jE R hd;simp only[valS,A4,D0]at this;rw[<- hv];exact this
 ·obtain⟨hm,hk,hdst⟩:=T0 h;rcases op_dst R hm with⟨_,h2⟩|⟨i,k,hi,hkk,e,h1,_,hde⟩
  ·rw[hk]at h2;cases h2
  ·have hdd:=cS R hd hde (by rw[hv,hdst]);have hmay:=cG R hi hkk;rw[<- e]at hmay;obtain⟨m1,m2,m3,m4,m5,m6,m7⟩:=BD hmay
   have hk':o.Kind=1\/o.Kind=2\/o.Kind=3\/o.Kind=8:=by
    simp only[RI,Xk,zzL72]at hk;omega
   have hgs:L5 o.Kind o.Bits o.Lanes=(o.Bits,o.Lanes):=by rcases hk' with h|h|h|h<;>rw[h]<;>rfl
   have hel:∀ j,GN o j=(o.Bits,o.Lanes):=λj=>by unfold GN;rcases hk' with h|h|h|h<;>rw[h]<;>rfl
   have hna:Me o.Kind o.Lanes=2:=by rcases hk' with h|h|h|h<;>rw[h]<;>rfl
   rw[hdd]at hs;have hsh:(o.Bits,o.Lanes)=((64:Int),(1:Int)):=hgs.symm.trans hs
   have hlen:o.Args.length=2:=by omega
   have harg:∀ j,j<2->Gd f (o.Args.getD j 0)/\jF f (o.Args.getD j 0)<jF f v:=λj hj=>by
    have hu:(⟨o.Args.getD j 0,(i:Int),(k:Int),GN o j⟩:Mk)∈Dy f:=by
     refine(fe (λb hb o ho=>gu R hb ho)).2 ⟨i,hi,.inr (.inl ⟨k,j,hkk,by rw[<- e];omega,by rw[<- e]⟩)⟩
    obtain⟨d',hd',hv',hs',ht⟩:=jD R hu;have hv':d'.V=o.Args.getD j 0:=hv';refine⟨⟨d',hd',hv',by rw[hs',<- hsh];exact hel j⟩,?_⟩;rw[<- hv',gw R hd',<- hv,gw R hd,hdd];unfold lw
    have hbn:¬ ((⟨o.Dst,(i:Int),(k:Int),L5 o.Kind o.Bits o.Lanes⟩:TDef).Block<0):=by show ¬ ((i:Int)<0);omega
    rw[if_neg hbn];have ht:d'.Block<0\/(d'.Block=(i:Int)/\d'.At<(k:Int))\/(d'.Block≠(i:Int)/\Nd (Bw f) d'.Block (i:Int)=true):=ht
    show(if d'.Block<0 then 0 else _)<(Ek (Bw f) (i:Int)).length*_+((k:Int)+2).toNat
    split
    ·omega
    ·rename_i hb
     rcases ht with h|⟨h,ha⟩|⟨h,ho⟩
     ·exact absurd h hb
     ·rw[h]
      have:(d'.At+2).toNat<((k:Int)+2).toNat:=by omega
      omega
     ·have hsh:=KL ho h
      have hat:(d'.At+2).toNat<=(Ll f).length+2:=by
       rcases ri_def.1 hd' with⟨p,hp,rfl⟩|⟨p,hp,⟨q,hq,rfl⟩|⟨q,hq,_,rfl⟩⟩
       ·show((0:Int)+2).toNat<=_;simp
       ·show((-1:Int)+2).toNat<=_;simp
       ·show((q:Int)+2).toNat<=_
        have:=cI hp;omega
      have hmul:((Ek (Bw f) d'.Block).length+1)*((Ll f).length+5)<=(Ek (Bw f) (i:Int)).length*((Ll f).length+5):=Dm _ hsh;rw[D1]at hmul;omega
   exact⟨hlen,harg 0 (by omega),harg 1 (by omega)⟩
theorem iZ(hb:f.Blocks.length<9223372036854775808)(hl:∀ b∈f.Blocks,b.Ops.length<9223372036854775808):∃ M,Lp f=some M/\QG M (UP f) (Gd f):=by
 let st (M:List (Int×Ce)) (o:Ce):List (Int×Ce):=bif RI o.Kind then Eh M o.Dst o else M
 have inner:∀(i:Nat),i<f.Blocks.length->∀(k j:Nat) (M:List (Int×Ce)),j+k=(bA f i).Ops.length->Ai (G2 f (i:Int)) ((j:Int),M)=some (((bA f i).Ops.drop j).foldl st M):=by
  intro i hi k;have hlen:=hl _ (getD_mem hi:bA f i∈f.Blocks)
  induction k with
  | zero=>
   intro j M h
   obtain rfl:j=(bA f i).Ops.length:=by omega
   rw[List.drop_length];refine Ag ?_;unfold G2;simp only[A6];rw[show f.Blocks.getD i default=bA f i from rfl,Kd]
   rfl
  | succ k ih=>
   intro j M h
   have hj:j<(bA f i).Ops.length:=by omega
   have hd:(bA f i).Ops.drop j=(bA f i).Ops.getD j default::(bA f i).Ops.drop (j+1):=by rw[Nn hj,Aa _ _ _ hj]
   have hs:G2 f (i:Int) ((j:Int),M)=some (.next (((j+1:Nat):Int),st M ((bA f i).Ops.getD j default))):=by
    unfold G2;simp only[A6];rw[show f.Blocks.getD i default=bA f i from rfl,Fv hj,Ae,Ad (I9 hj),Dg hj hlen]
    generalize (bA f i).Ops.getD j default=o
    simp only[st,RI]
    cases(o.Kind==0)<;>cases(o.Kind==1)<;>cases(o.Kind==2)<;>cases(o.Kind==3)<;>cases(o.Kind==8)<;>rfl
   rw[An hs,ih (j+1) _ (by omega),hd,List.foldl_cons]
 have outer:∀(k i:Nat) (M:List (Int×Ce)),i+k=f.Blocks.length->Ai (G3 f) ((i:Int),M)=some (((f.Blocks.drop i).flatMap (·.Ops)).foldl st M):=by
  intro k
  induction k with
  | zero=>
   intro i M h
   obtain rfl:i=f.Blocks.length:=by omega
   rw[List.drop_length];exact Ag (by unfold G3;simp only[Kd,A2];rfl)
  | succ k ih=>
   intro i M h
   have hi:i<f.Blocks.length:=by omega
   have hd:f.Blocks.drop i=bA f i::f.Blocks.drop (i+1):=by rw[Nn hi];exact B7 (·::_) (Aa _ _ _ hi).symm
   have hs:G3 f ((i:Int),M)=some (.next (((i+1:Nat):Int),(bA f i).Ops.foldl st M)):=by
    unfold G3;simp only[Fv hi,Ae];have:=inner i hi (bA f i).Ops.length 0 M (by omega);rw[show(((0:Nat):Int))=0 from rfl,K5]at this;rw[Ad (I9 hi),this,Aw,Dg hi hb]
    rfl
   rw[An hs,ih (i+1) _ (by omega),hd,Ta,List.foldl_append]
 refine⟨(Ll f).foldl st [],?_,?_⟩
 ·unfold Lp;have:=outer f.Blocks.length 0 [] (by omega);rw[show(((0:Nat):Int))=0 from rfl,K5]at this;rw[this]
  rfl
 ·have key:∀(l done:List Ce) (M:List (Int×Ce)),(∀ o∈done++l,o∈Ll f)->(∀ o∈done,RI o.Kind=true->Bz M o.Dst=true/\mget default M o.Dst=o)->(∀ v,Bz M v=true->∃ o∈done,RI o.Kind=true/\o.Dst=v)->
    (∀ o∈done++l,RI o.Kind=true->Bz (l.foldl st M) o.Dst=true/\mget default (l.foldl st M) o.Dst=o)/\(∀ v,Bz (l.foldl st M) v=true->∃ o∈done++l,RI o.Kind=true/\o.Dst=v):=by
   intro l
   induction l with
   | nil=>intro done M _ h1 h2;rw[List.append_nil];exact⟨h1,h2⟩
   | cons x l ih=>
    intro done M hin h1 h2;have hx:x∈Ll f:=hin x (by simp)
    have:=ih (done++[x]) (st M x) (by rw[Zw];exact hin) (λo ho hk=>by
     rcases zzL11.1 ho with h|h
     ·obtain⟨g1,g2⟩:=h1 o h hk;simp only[st]
      cases hxk:RI x.Kind with
      | false=>exact⟨g1,g2⟩
      | true=>
       rw[Ae,Sg,Wq,g1,g2]
       by_cases e:o.Dst=x.Dst
       ·have h1o:1<=o.Dst:=by
         rcases op_dst R (hin o (by simp[h])) with⟨_,h0⟩|⟨_,_,_,_,_,h1,_⟩
         ·rw[hk]at h0;cases h0
         ·exact h1
        have:=cH R (hin o (by simp[h])) hx h1o e;subst this
        simp
       ·rw[show(o.Dst==x.Dst)=false by simp[e]];simp
     ·obtain rfl:=zzL14.1 h;simp only[st];rw[hk,Ae,Sg,Wq]
      simp) (λv hv=>by
     simp only[st]at hv
     cases hxk:RI x.Kind with
     | false=>
      rw[hxk,A2]at hv;obtain⟨o,ho,h⟩:=h2 v hv;exact⟨o,by simp[ho],h⟩
     | true=>
      rw[hxk,Ae,Sg,Xk]at hv;rcases hv with hv|hv
      ·exact⟨x,by simp,hxk,(eq_of_beq hv).symm⟩
      ·obtain⟨o,ho,h⟩:=h2 v hv
       exact⟨o,by simp[ho],h⟩)
    rw[Zw]at this;exact this
  obtain⟨k1,k2⟩:=key (Ll f) [] [] (λo ho=>by simpa using ho) (λo ho=>by cases ho) (λv hv=>by cases hv);rw[Tb]at k1 k2;intro v hg;refine⟨?_,λo h=>?_⟩
  ·cases hd:UP f v with
   | some o=>
    obtain⟨a,b,c⟩:=T0 hd;have:=(k1 o a b).1;rw[c]at this;exact this
   | none=>
    cases hm:Bz ((Ll f).foldl st []) v with
    | false=>rfl
    | true=>
     obtain⟨o,a,b,c⟩:=k2 v hm;have:=DK R a b;rw[c,hd]at this
     cases this
  ·obtain⟨a,b,c⟩:=T0 h;have:=(k1 o a b).2;rw[c]at this;exact this
end
section
variable {f:Ab} (h:Sm f)
include h
omit h in
theorem KP(hc:E7 f 2=0):lA f 2:=(fc (by omega)).1 hc
theorem EG:f.Blocks.length<9223372036854775808/\(∀ b∈f.Blocks,b.Ops.length<9223372036854775808)/\∀ o∈Ll f,0<=o.Imm:=by
 have hI:=h.1;refine⟨by have:=hI.blocks;rw[Ix]at this;omega,λb hb=>by have:=(hI.block b hb).2.1;rw[Ix]at this;omega,λo ho=>?_⟩;obtain⟨i,hi,k,hk,rfl⟩:=opsA_mem.1 ho;exact(hI.op _ (getD_mem hi) _ (getD_mem hk)).2.1
theorem MA(hc:E7 f 2=0){v:Int}(hg:Gd f v):Eu f v=some (Pq (UP f) (jF f v+1) v,0):=by
 obtain⟨s,hs,hS⟩:=MB f h;obtain⟨p1,p2,p3⟩:=EG h;have R:=KP hc;obtain⟨M,m1,m2⟩:=iZ R p1 p2;obtain⟨fd,f1⟩:=SB (ie R p3) m2 hg;obtain⟨d,hd,hv,hsh⟩:=hg;have hget:=hS.get hc d hd;rw[hv,hsh]at hget;unfold Eu;rw[hs,Aw,hget,m1]
 show(Gb v M []).bind _=_
 rw[f1]
 rfl
theorem eM{v:Int}(hn:¬ (E7 f 2=0/\Gd f v)):Eu f v=some (⟨[],0⟩,10):=by
 obtain⟨s,hs,hS⟩:=MB f h
 have hne:mget ((0:Int),(0:Int)) s v≠(64,1):=λe=>by
  by_cases hc:E7 f 2=0
  ·cases hm:Bz s v with
   | false=>rw[X8 hm]at e;cases e
   | true=>
    obtain⟨d,hd,hv⟩:=hS.has hc v hm;have:=hS.get hc d hd;rw[hv,e]at this;exact hn ⟨hc,d,hd,hv,this.symm⟩
  ·have:=hS.none hc;rw[KT this]at e
   cases e
 unfold Eu;rw[hs,Aw]
 have:(!(((mget ((0:Int),(0:Int)) s v).1==(64:Int))&&(((mget ((0:Int),(0:Int)) s v).2==(1:Int))&&true)))=true:=by
  generalize mget ((0:Int),(0:Int)) s v=p at hne ⊢
  obtain⟨a,b⟩:=p
  by_cases ha:a=64
  ·have hb:b≠1:=λe=>hne (by rw[ha,e]);simp[hb]
  ·simp[ha]
 rw[this]
 rfl
end
def fB(ops:List Ce)(a:Int):Ab:=⟨[64],64,[⟨[],ops,⟨0,a,[]⟩⟩]⟩
theorem gy{ops:List Ce}{a:Int}(h1:ops.length<=300)(h2:∀ o∈ops,o.Args.length<=3/\0<=o.Imm/\o.Imm<18446744073709551616):Sm (fB ops a):=by
 have hb:∀ b∈(fB ops a).Blocks,b=⟨[],ops,⟨0,a,[]⟩⟩:=λb hb=>by simpa [fB] using hb
 refine kT ⟨by rw[Ix];show(1:Nat)<=_;omega,by rw[Ix];show(1:Nat)<=_;omega,λb h=>?_,λb h p hp=>?_,λb h o ho=>?_⟩ (by show 1<=64;omega) (λb h=>?_) ?_
 ·rw[hb b h,Ix];exact⟨K7 _,by show ops.length<=_;omega,K7 _⟩
 ·rw[hb b h]at hp;cases hp
 ·rw[hb b h]at ho;obtain⟨g1,g2⟩:=h2 o ho;exact⟨by rw[Ix];omega,g2⟩
 ·rw[hb b h];exact⟨K7 _,(λp hp=>by cases hp),λo ho=>by have:=(h2 o ho).1;omega⟩
 ·have hs:∀ l:List Ce,(∀ o∈l,o.Args.length<=3)->(l.map JO).sum<=4*l.length:=by
   intro l
   induction l with
   | nil=>intro _;simp
   | cons x l ih=>
    intro hl;have h0:=hl x (Io ..);have h1:=ih λo ho=>hl o (Em _ ho);rw[Bq,U1,Oj];unfold JO at h1 ⊢;omega
  have:=hs ops λo ho=>(h2 o ho).1
  show 1+((1+0+0+(ops.map JO).sum)+0)<=20000
  omega
def fA:Ab:=fB [⟨0,64,1,2,[],8⟩,⟨1,64,1,3,[1,2],0⟩,⟨3,64,1,4,[2,3],0⟩] 4
theorem jH:Sm fA:=gy (by show 3<=300;omega) λo ho=>by
 simp only[zzL23,List.not_mem_nil,or_false]at ho;rcases ho with rfl|rfl|rfl<;>decide
theorem TY:E7 fA 2=0:=by decide +kernel
theorem lv:Eu fA 4=some (⟨[⟨1,8⟩],64⟩,0):=by
 rw[MA jH TY (v:=4) ⟨⟨4,0,2,(64,1)⟩,by decide +kernel,rfl,rfl⟩];have R:=KP TY;rw[Tm (ie R (EG jH).2.2) _ 4 40 ⟨⟨4,0,2,(64,1)⟩,by decide +kernel,rfl,rfl⟩ (Nat.lt_succ_self _) (by decide +kernel)]
 show _=_
 kernel_rfl
theorem kH:Eu fA 5=some (⟨[],0⟩,10):=eM jH λ⟨_,d,hd,hv,_⟩=>by
 have:∀ d∈Au fA,d.V≠5:=by decide +kernel
 exact this d hd hv
theorem eF:m_locksteplaw17_awake=some true:=by
 have h4:=lv;have h5:=kH;unfold fA fB at h4 h5;unfold m_locksteplaw17_awake;rw[show C0=[⟨0,64,1,2,[],8⟩,⟨1,64,1,3,[1,2],0⟩,⟨3,64,1,4,[2,3],0⟩] from rfl,h4,h5]
 show _=_
 kernel_rfl
theorem eU{l:List Ah}(h:∀ t∈l,0<=t.Scale/\t.Scale<18446744073709551616)(v:Int):0<=Ky l v/\Ky l v<18446744073709551616:=by
 induction l with
 | nil=>exact⟨Int.le_refl _,by show(0:Int)<_;omega⟩
 | cons t r ih=>
  unfold Ky
  cases t.V==v with
  | true=>exact h t (Io ..)
  | false=>exact ih λu hu=>h u (Em _ hu)
section
variable {x y:Aq} (hx:Ex 0 x.Terms=true) (hy:Ex 0 y.Terms=true)
include hx
end
theorem cY{x y:Aq}(hx:x.Terms.length<9223372036854775808)(h:x=y):Gr x y=some true:=by rw[iX hx,Fy h]
set_option linter.unusedSectionVars false
def cz(o:Ce):Ce:=bif o.Kind==0 then⟨o.Kind,o.Bits,o.Lanes,o.Dst,o.Args,0⟩ else o
def Cn(o:Ce):Prop:=o.Kind=0->o.Bits=64/\0<=o.Imm/\o.Imm<18446744073709551616
theorem QZ{o:Ce}(h:Cn o):Hm (cz o)=Hm o:=by
 unfold cz
 by_cases h0:o.Kind=0
 ·obtain⟨h1,h2,h3⟩:=h h0;rw[show(o.Kind==0)=true by simp[h0],Ae];obtain⟨k,b,l,d,a,i⟩:=o;simp only at h0 h1 h2 h3;subst h0 h1
  have e:(i % 18446744073709551616==i)=true:=by rw[zzL72];omega
  have h1:ifitS 0 64 l i=(i % 18446744073709551616==i):=rfl;have h2:ifitS 0 64 l 0=true:=rfl;unfold Hm;simp only[h1,h2,e]
 ·rw[show(o.Kind==0)=false by simp[h0]];rfl
theorem Jb(o:Ce):(cz o).Kind=o.Kind/\(cz o).Bits=o.Bits/\(cz o).Lanes=o.Lanes/\(cz o).Dst=o.Dst/\(cz o).Args=o.Args:=by
 unfold cz
 cases o.Kind==0<;>exact⟨rfl,rfl,rfl,rfl,rfl⟩
theorem bD{o:Ce}(h:Cn o):Gq (cz o)=Gq o:=by
 obtain⟨h1,h2,h3,h4,h5⟩:=Jb o;unfold Gq;rw[QZ h,h1,h2,h3]
theorem WK(o:Ce):Ln (cz o)=Ln o:=by
 unfold cz
 by_cases h0:o.Kind=0
 ·rw[show(o.Kind==0)=true by simp[h0],Ae];obtain⟨k,b,l,d,a,i⟩:=o;simp only at h0;subst h0
  rfl
 ·rw[show(o.Kind==0)=false by simp[h0]];rfl
theorem bE{o:Ce}(h:Cn o):Ey (cz o)=Ey o:=by
 unfold Ey;rw[QZ h,WK]
theorem gX{ops:List Ce}{k:Nat}(hk:k<ops.length):(ops.map cz).getD k default=cz (ops.getD k default):=by
 rw[Aa _ _ _ (by simpa using hk),Aa _ _ _ hk,List.getElem_map]
theorem BB{α:Type}{l:List Nat}{f g:Nat->List α}(h:∀ k,k∈l->f k=g k):l.flatMap f=l.flatMap g:=by
 induction l with
 | nil=>rfl
 | cons k l ih=>rw[Ta,Ta,h k (Io ..),ih λj hj=>h j (Em _ hj)]
theorem bC{ops:List Ce}{a:Int}(h:∀ o∈ops,Cn o)(hc:E7 (fB (ops.map cz) a) 2=0):E7 (fB ops a) 2=0:=by
 obtain⟨h1,h2,h3,h4⟩:=(Mz (by omega) (by omega)).1 hc;have hat:∀ k,k<ops.length->Cn (ops.getD k default):=λk hk=>h _ (getD_mem hk)
 have e1:Au (fB ops a)=Au (fB (ops.map cz) a):=by
  unfold Au
  congr 1
  show(List.range 1).flatMap _=(List.range 1).flatMap _
  refine BB λi hi=>?_
  obtain rfl:i=0:=by have:=zzL34.1 hi;omega
  show Jw ⟨[],ops,⟨0,a,[]⟩⟩ 0=Jw ⟨[],ops.map cz,⟨0,a,[]⟩⟩ 0
  unfold Jw Xx
  congr 1
  simp only[Mg];refine BB λk hk=>?_;have hk:=zzL34.1 hk;rw[gX hk,bD (hat k hk),(Jb _).2.2.2.1]
 have e2:Dy (fB ops a)=Dy (fB (ops.map cz) a):=by
  unfold Dy
  show(List.range 1).flatMap _=(List.range 1).flatMap _
  refine BB λi hi=>?_
  obtain rfl:i=0:=by have:=zzL34.1 hi;omega
  show S3 (fB ops a) ⟨[],ops,⟨0,a,[]⟩⟩ 0=S3 (fB (ops.map cz) a) ⟨[],ops.map cz,⟨0,a,[]⟩⟩ 0
  have hop:Qs ⟨[],ops,⟨0,a,[]⟩⟩ 0=Qs ⟨[],ops.map cz,⟨0,a,[]⟩⟩ 0:=by
   unfold Qs;simp only[Mg];refine BB λk hk=>?_;have hk:=zzL34.1 hk;unfold Ls;rw[gX hk,bE (hat k hk),(Jb _).2.2.2.2]
  unfold S3;rw[hop]
  rfl
 have e3:ops.all (G0 2)=(ops.map cz).all (G0 2):=by
  rw[List.all_map];refine List.all_congr' λo ho=>?_
  show G0 2 o=G0 2 (cz o)
  unfold G0;rw[QZ (h o ho),(Jb o).1,(Jb o).2.2.1]
 have e4:ops.all LG=(ops.map cz).all LG:=by
  rw[List.all_map];refine List.all_congr' λo ho=>?_
  show LG o=LG (cz o)
  unfold LG;rw[(Jb o).1,(Jb o).2.1,(Jb o).2.2.1,(Jb o).2.2.2.1,(Jb o).2.2.2.2]
 have e5:sizeW (fB ops a)=sizeW (fB (ops.map cz) a):=by
  unfold sizeW Oh
  show Bd ((((0+ops.length+1)+0:Nat):Int))=Bd ((((0+(ops.map cz).length+1)+0:Nat):Int))
  rw[Mg]
 refine(Mz (by omega) (by omega)).2 ⟨?_,h2,?_,?_⟩
 ·have:Qe (fB ops a)=Qe (fB (ops.map cz) a):=by
   unfold Qe;rw[e5]
   show(_&&((true&&ops.all LG&&MJ ⟨0,a,[]⟩)&&true))=(_&&((true&&(ops.map cz).all LG&&MJ ⟨0,a,[]⟩)&&true))
   rw[e4]
   rfl
  rw[this];exact h1
 ·have:O2 (fB ops a) 2=O2 (fB (ops.map cz) a) 2:=by
   show((Dk 64&&true)&&((true&&ops.all (G0 2))&&true)&&Dk 64)=((Dk 64&&true)&&((true&&(ops.map cz).all (G0 2))&&true)&&Dk 64)
   rw[e3]
  rw[this];exact h3
 ·have e6:Bw (fB ops a)=Bw (fB (ops.map cz) a):=rfl;unfold DZ at h4 ⊢;rw[e1,e2,e6];exact h4
where
 List.all_congr' {l:List Ce} {p q:Ce->Bool} (h:∀ o∈l,p o=q o):l.all p=l.all q:=by
  induction l with
  | nil=>rfl
  | cons x l ih=>rw[Ok,Ok,h x (Io ..),ih λo ho=>h o (Em _ ho)]
def pT(o:Int):Aq:=⟨[⟨1,1⟩],o⟩
theorem gt(o:Int):Ex 0 (pT o).Terms=true:=rfl
theorem aq(o:Int):Ex 0 (⟨[],o⟩:Aq).Terms=true:=rfl
theorem kK(v:Int):0<=Ky [⟨1,1⟩] v/\Ky [⟨1,1⟩] v<18446744073709551616:=eU (λt ht=>by obtain rfl:=zzL14.1 ht;show(0:Int)<=1/\(1:Int)<_;omega) v
theorem kJ(o s:Int):Nr QN (pT o) ⟨[],s⟩=pT (Dt (o+s)):=by
 rw[UJ (gt o) (aq s)]
 have e:(df λv=>QN (Ky (pT o).Terms v) (Ky (⟨[],s⟩:Aq).Terms v))=df (Ky [⟨1,1⟩]):=GA λv _ _=>by
  have:=kK v
  show Dt (Ky [⟨1,1⟩] v+0)=_
  rw[Int.add_zero,Xc this.1 this.2]
 rw[e,LN rfl]
 rfl
theorem kL(o s:Int):Nr SO (pT o) ⟨[],s⟩=pT (Dt (o-s)):=by
 rw[UJ (gt o) (aq s)]
 have e:(df λv=>SO (Ky (pT o).Terms v) (Ky (⟨[],s⟩:Aq).Terms v))=df (Ky [⟨1,1⟩]):=GA λv _ _=>by
  have:=kK v
  show Dt (Ky [⟨1,1⟩] v-0)=_
  rw[Int.sub_zero,Xc this.1 this.2]
 rw[e,LN rfl]
 rfl
def vS(i:Nat):Int:=if i=0 then 1 else((2+i:Nat):Int)
def oS(kind:Int)(i:Nat):Ce:=⟨kind,64,1,((3+i:Nat):Int),[vS i,2],0⟩
def Jf(kind size:Int)(k:Nat):List Ce:=⟨0,64,1,2,[],size⟩::(List.range k).map (oS kind)
theorem Zq:∀(d:Bool) (k:Fin 60),E7 (fB (Jf (bif d then 2 else 1) 0 k.val) (vS k.val)) 2=0:=by decide +kernel
theorem XX(n kind size:Int)(k:Nat)(hn:Int.tmod (Bd n) 60=(k:Int))(hk:k<60):∀(m i:Nat),i+m=k->
  Ai (B8 n kind) (Jf kind size i,vS i,(i:Int))=some (Jf kind size k,vS k):=by
 intro m
 induction m with
 | zero=>
  intro i h
  obtain rfl:i=k:=by omega
  refine Ag ?_;unfold B8;simp only[hn,Kd,A2]
 | succ m ih=>
  intro i h
  have hi:i<k:=by omega
  have hs:B8 n kind (Jf kind size i,vS i,(i:Int))=some (.next (Jf kind size (i+1),vS (i+1),((i+1:Nat):Int))):=by
   unfold B8;simp only[hn,Fv hi,Ae]
   have e1:Bd ((3:Int)+(i:Int))=((3+i:Nat):Int):=by rw[Gv (by omega) (by omega)];omega
   have e2:Bd ((i:Int)+1)=((i+1:Nat):Int):=by rw[Gv (by omega) (by omega)];omega
   have e3:vS (i+1)=((3+i:Nat):Int):=by unfold vS;rw[if_neg (by omega)];omega
   rw[Ad (by simp[Jf,room];omega),e1,e2,e3]
   have e4:Jf kind size (i+1)=Jf kind size i++[oS kind i]:=by unfold Jf;rw[Vu,Vt,Xj];rfl
   rw[e4]
   rfl
  rw[An hs];exact ih (i+1) (by omega)
section
variable {kind size:Int} {k:Nat} (hk:k<60) (hkd:kind=1\/kind=2) (hs:0<=size/\size<18446744073709551616)
include hk hkd hs
theorem steps_ops:∀ o∈Jf kind size k,o=⟨0,64,1,2,[],size⟩\/∃ i,i<k/\o=oS kind i:=λo ho=>by
 unfold Jf at ho;rcases zzL23.1 ho with h|h
 ·exact .inl h
 ·obtain⟨i,hi,rfl⟩:=zzL22.1 h;exact .inr ⟨i,zzL34.1 hi,rfl⟩
theorem cf:Sm (fB (Jf kind size k) (vS k)):=gy (by simp[Jf];omega) λo ho=>by
 rcases steps_ops hk hkd hs o ho with rfl|⟨i,_,rfl⟩
 ·exact⟨by simp,hs⟩
 ·exact⟨by simp[oS],by show(0:Int)<=0/\(0:Int)<_;omega⟩
theorem Zr:E7 (fB (Jf kind size k) (vS k)) 2=0:=by
 refine bC (λo ho h0=>?_) ?_
 ·rcases steps_ops hk hkd hs o ho with rfl|⟨i,_,rfl⟩
  ·exact⟨rfl,hs⟩
  ·have:kind=0:=h0;omega
 ·have e:(Jf kind size k).map cz=Jf kind 0 k:=by
   unfold Jf;rw[Bq,List.map_map]
   congr 1
   refine EP λi _=>?_
   show cz (oS kind i)=oS kind i
   unfold cz;rw[show((oS kind i).Kind==0)=false from zzL24.2 (by show kind≠0;omega)]
   rfl
  rw[e];rcases hkd with rfl|rfl
  ·exact Zq false ⟨k,hk⟩
  ·exact Zq true ⟨k,hk⟩
theorem fj:UP (fB (Jf kind size k) (vS k)) 2=some ⟨0,64,1,2,[],size⟩/\(∀ i,i<k->UP (fB (Jf kind size k) (vS k)) ((3+i:Nat):Int)=some (oS kind i))/\UP (fB (Jf kind size k) (vS k)) 1=none:=by
 have R:=KP (Zr hk hkd hs)
 have hA:Ll (fB (Jf kind size k) (vS k))=Jf kind size k:=by unfold Ll fB;simp
 refine⟨?_,λi hi=>?_,?_⟩
 ·exact DK R (o:=⟨0,64,1,2,[],size⟩) (by rw[hA];exact Io ..) rfl
 ·exact DK R (o:=oS kind i) (by rw[hA];exact Em _ (zzL22.2 ⟨i,zzL34.2 hi,rfl⟩)) (by rcases hkd with rfl|rfl<;>rfl)
 ·cases h:UP (fB (Jf kind size k) (vS k)) 1 with
  | none=>rfl
  | some o=>
   obtain⟨h1,_,h3⟩:=T0 h;rw[hA]at h1;rcases steps_ops hk hkd hs o h1 with rfl|⟨i,_,rfl⟩
   ·cases h3
   ·have:((3+i:Nat):Int)=1:=h3;omega
theorem cd:∀(i:Nat),i<=k->∀ n,i+2<=n->Pq (UP (fB (Jf kind size k) (vS k))) n (vS i)=pT (Dt (bif kind==1 then size*i else 0-size*i)):=by
 obtain⟨d2,d3,d1⟩:=fj hk hkd hs;intro i
 induction i with
 | zero=>
  intro _ n hn;obtain⟨n,rfl⟩:∃ m,n=m+1:=⟨n-1,by omega⟩
  show Pq _ (n+1) 1=_
  unfold Pq;rw[d1]
  have:(bif kind==1 then size*((0:Nat):Int) else 0-size*((0:Nat):Int))=0:=by cases(kind==1)<;>simp
  rw[this]
  rfl
 | succ i ih=>
  intro hi n hn;obtain⟨n,rfl⟩:∃ m,n=m+2:=⟨n-2,by omega⟩
  have e3:vS (i+1)=((3+i:Nat):Int):=by unfold vS;rw[if_neg (by omega)];omega
  have hc:Pq (UP (fB (Jf kind size k) (vS k))) (n+1) 2=⟨[],size⟩:=by unfold Pq;rw[d2];rfl
  have hp:=ih (by omega) (n+1) (by omega);rw[e3];unfold Pq;rw[d3 i (by omega)];have hk0:((oS kind i).Kind==0)=false:=zzL24.2 (by show kind≠0;omega);simp only[hk0,A2];rw[show(oS kind i).Args.getD 0 0=vS i from rfl,show(oS kind i).Args.getD 1 0=2 from rfl,hp,hc,show(oS kind i).Kind=kind from rfl];rcases hkd with rfl|rfl
  ·show bL _ (some (Nr QN (pT (Dt (size*i))) ⟨[],size⟩))=pT (Dt (size*((i+1:Nat):Int)))
   rw[kJ]
   have:Dt (Dt (size*i)+size)=Dt (size*((i+1:Nat):Int)):=by
    rw[Int.natCast_add,Int.mul_add];simp only[S5]
    generalize size*(i:Int)=z
    omega
   rw[this]
   rfl
  ·show bL _ (some (Nr SO (pT (Dt (0-size*i))) ⟨[],size⟩))=pT (Dt (0-size*((i+1:Nat):Int)))
   rw[kL]
   have:Dt (Dt (0-size*i)-size)=Dt (0-size*((i+1:Nat):Int)):=by
    rw[Int.natCast_add,Int.mul_add];simp only[S5]
    generalize size*(i:Int)=z
    omega
   rw[this]
   rfl
theorem ce:Eu (fB (Jf kind size k) (vS k)) (vS k)=some (pT (Dt (bif kind==1 then size*k else 0-size*k)),0):=by
 have hr:=Zr hk hkd hs;have hsm:=cf hk hkd hs;have R:=KP hr
 have hg:Gd (fB (Jf kind size k) (vS k)) (vS k):=by
  by_cases h0:k=0
  ·subst h0;exact⟨⟨1,-1,0,(64,1)⟩,ri_def.2 (.inl ⟨0,by show 0<1;omega,rfl⟩),rfl,rfl⟩
  ·obtain⟨i,rfl⟩:∃ i,k=i+1:=⟨k-1,by omega⟩
   have hA:Ll (fB (Jf kind size (i+1)) (vS (i+1)))=Jf kind size (i+1):=by unfold Ll fB;simp
   have hm:oS kind i∈Ll (fB (Jf kind size (i+1)) (vS (i+1))):=by rw[hA];exact Em _ (zzL22.2 ⟨i,zzL34.2 (by omega),rfl⟩)
   rcases op_dst R hm with⟨h,_⟩|⟨b,j,_,_,_,_,_,hd⟩
   ·have:((3+i:Nat):Int)=0:=h;omega
   ·refine⟨_,hd,?_,?_⟩
    ·show((3+i:Nat):Int)=vS (i+1)
     unfold vS;rw[if_neg (by omega)];omega
    ·rcases hkd with rfl|rfl<;>rfl
 rw[MA hsm hr hg];rw[Tm (ie R (EG hsm).2.2) _ _ (jF (fB (Jf kind size k) (vS k)) (vS k)+1+k+2) hg (by omega) (by omega),cd hk hkd hs k (zzL8 _) _ (by omega)]
end
theorem steps17(n size:Int)(d:Bool)(hn:0<=n/\n<256)(hs:0<=size/\size<18446744073709551616):Fk n size d=some true:=by
 have hw:Bd n=n:=Gv (by omega) (by omega);obtain⟨k,hk⟩:∃ k:Nat,n % 60=(k:Int):=⟨(n % 60).toNat,by omega⟩
 have hk60:k<60:=by omega
 have htm:Int.tmod (Bd n) 60=(k:Int):=by rw[hw,Int.tmod_eq_emod_of_nonneg hn.1];exact hk
 have hkd:(bif d then(2:Int) else 1)=1\/(bif d then(2:Int) else 1)=2:=by cases d<;>simp
 have hrun:=XX n (bif d then 2 else 1) size k htm hk60 k 0 (by omega);have hof:=ce hk60 hkd hs;unfold Fk;rw[eF,Aw,show(!true)=false from rfl,A2,show(bif d then some (2:Int) else some 1)=some (bif d then 2 else 1) by cases d<;>rfl,Aw];rw[show(([(⟨(0:Int),(64:Int),(1:Int),(2:Int),([]:List Int),size⟩:Ce)]:List (Ce)),(1:Int),(0:Int))=(Jf (bif d then 2 else 1) size 0,vS 0,((0:Nat):Int)) from rfl,hrun,Aw];unfold fB at hof;simp only;rw[hof,Aw,htm];have hkw:Dt (k:Int)=(k:Int):=Xc (by omega) (by omega);rw[hkw]
 cases d with
 | false=>
  simp only[A2,Aw,BEq.rfl,Ae];rw[cY (x:=pT (Dt (size*(k:Int)))) (by simp[pT]) (y:=⟨[⟨1,1⟩],Dt (size*(k:Int))⟩) rfl]
  rfl
 | true=>
  simp only[Ae,A2,Aw,BEq.rfl,show((2:Int)==1)=false from rfl]
  rw[cY (x:=pT (Dt (0-size*(k:Int)))) (by simp[pT]) (y:=⟨[⟨1,1⟩],Dt (0-Dt (size*(k:Int)))⟩) (by
   show pT (Dt (0-size*k))=_
   unfold pT
   congr 1
   simp only[S5]
   omega)]
  rfl
end
end Go.Proofs.YtiendmljhgbjoaaGreat
