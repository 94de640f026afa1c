/-
  The machine, the program's functions and the laws' arithmetic: part 5 of 5.
-/
import Derived.Test.YtiendmljhgbjoaaGreatPk4
set_option linter.unusedSectionVars false
set_option linter.unusedVariables false
set_option linter.unusedSimpArgs false
namespace Go.Proofs.YtiendmljhgbjoaaGreat
noncomputable section
open Go Go.RowKit
theorem Tz{β S X:Type}(B:Nat)(mk:Int->List β->S)(out:List β->X)(n:Nat)(E:Nat->List β)(f:S->Option (LR S X))(hn:∀(acc:List β) (i:Nat),i<n->(acc++E i).length<=B->f (mk i acc)=some (.next (mk ((i:Int)+1) (acc++E i))))
  (hd:∀ acc:List β,f (mk n acc)=some (.done (out acc))):∀(k i:Nat) (acc:List β),i+k=n->(acc++(List.range' i k).flatMap E).length<=B->Aj f (mk i acc)=some (out (acc++(List.range' i k).flatMap E))
 | 0,i,acc,h,_=>by
  obtain rfl:i=n:=by omega
  rw[Ah (hd acc)]
  simp
 | k+1,i,acc,h,hB=>by
  have hi:i<n:=by omega
  rw[Xl,Te,<- Zy]at hB ⊢;rw[Ao (hn acc i hi (by rw[E8]at hB;omega)),show((i:Int)+1)=((i+1:Nat):Int) by omega,Tz B mk out n E f hn hd k (i+1) _ (by omega) hB]
theorem NJ{β γ:Type}(h:β->γ)(n:Nat)(g:Nat->β):(List.range' 0 n).flatMap (λj=>[h (g j)])=((List.range n).flatMap λj=>[g j]).map h:=by
 rw[List.map_flatMap,Zx];rfl
theorem CZ{β γ:Type}(h:β->γ)(n:Nat)(g:Nat->List β):(List.range' 0 n).flatMap (λj=>(g j).map h)=((List.range n).flatMap g).map h:=by
 rw[List.map_flatMap,Zx]
def Kx(f:Ab)(b:Int):Int:=((f.Blocks.getD b.toNat default).Ops.length:Int)
def Dt(f:Ab)(u:Mq):A7:=⟨u.V,u.Shape,⟨u.Block,bif u.At==1000 then Kx f u.Block else u.At⟩⟩
theorem UA(f:Ab)(l:Int)(t:List Int)(vs:List (Int×Ak))(v:Int)(s:Int×Int)(p:G4)(u:List A7)(h:(u++[(⟨v,s,p⟩:A7)]).length<=10000000):Di v s p f l t vs u=some (f,l,t,u++[⟨v,s,p⟩]):=by
 unfold Di;rw[Ad (by rw[E8]at h;rw[fu];omega)]
theorem bC(f:Ab)(l:Int)(t:List Int)(vs:List (Int×Ak))(b:Int)(hb:B9 b f.Blocks.length)(u:List A7):Ef b f l t vs u=some (⟨b,Kx f b⟩,f,l,t,u):=by
 unfold Ef;rw[Ad hb];rfl
section
variable {f:Ab} (hf:OkF f) (l:Int) (t:List Int) (vs:List (Int×Ak))
include hf
theorem ik(i k:Nat)(hi:i<f.Blocks.length)(hk:k<(f.Blocks.getD i default).Phis.length)(hfit:((f.Blocks.getD i default).Phis.getD k default).Args.length<=((f.Blocks.getD i default).Phis.getD k default).From.length)
  (hin:∀ x∈((f.Blocks.getD i default).Phis.getD k default).From,B9 x f.Blocks.length) (u:List A7) (hB:(u++(K0 ((f.Blocks.getD i default).Phis.getD k default)).map (Dt f)).length<=10000000) :
  Aj (C5 f vs (i:Int) (k:Int)) ((0:Int),f.Params,f.Ret,f.Blocks,l,t,u)=some (f.Params,f.Ret,f.Blocks,l,t,u++(K0 ((f.Blocks.getD i default).Phis.getD k default)).map (Dt f)):=by
 have hlen:=cJ hf (getD_mem (d:=(default:Ag)) hi) (getD_mem (d:=(default:Fy)) hk)
 generalize hp:(f.Blocks.getD i default).Phis.getD k default=p at *
 have e:=NJ (Dt f) p.Args.length λ(j:Nat)=>(⟨p.Args.getD j 0,p.From.getD j 0,1000,(p.Bits,1)⟩:Mq)
 have:=Tz 10000000 (λj u=>(j,f.Params,f.Ret,f.Blocks,l,t,u)) (λu=>(f.Params,f.Ret,f.Blocks,l,t,u)) p.Args.length (λ(j:Nat)=>[Dt f ⟨p.Args.getD j 0,p.From.getD j 0,1000,(p.Bits,1)⟩]) (C5 f vs (i:Int) (k:Int)) (λacc j hj hacc=>by
  unfold C5 Db
  have hd:decide ((j:Int)<(p.Args.length:Int))=true:=by simpa using hj
  have hjf:j<p.From.length:=by omega
  simp only[Dg,hp,hd,Ae,Ar (Bb hj),Ay,Ar (Bb hjf)];rw[show(⟨f.Params,f.Ret,f.Blocks⟩:Ab)=f from rfl,bC f l t vs _ (hin _ (getD_mem hjf)),Ay];simp only;have eu:Dt f ⟨p.Args.getD j 0,p.From.getD j 0,1000,(p.Bits,1)⟩=⟨p.Args.getD j 0,(p.Bits,1),⟨p.From.getD j 0,Kx f (p.From.getD j 0)⟩⟩:=rfl;rw[eu]at hacc ⊢
  rw[UA f l t vs _ _ _ acc hacc,Ay,Dc hj (by omega)]) (λacc=>by unfold C5;simp only[Dg,hp,show decide ((p.Args.length:Int)<(p.Args.length:Int))=false by simp,A0]) p.Args.length 0 u (by omega) (by rw[e];exact hB)
 rw[e]at this;exact this
theorem eW(i:Nat)(hi:i<f.Blocks.length)(hfit:∀ p∈(f.Blocks.getD i default).Phis,p.Args.length<=p.From.length/\∀ x∈p.From,B9 x f.Blocks.length)(u:List A7)(hB:(u++(Qu (f.Blocks.getD i default)).map (Dt f)).length<=10000000) :
  Aj (C6 f vs (i:Int)) ((0:Int),f.Params,f.Ret,f.Blocks,l,t,u)=some (f.Params,f.Ret,f.Blocks,l,t,u++(Qu (f.Blocks.getD i default)).map (Dt f)):=by
 have hBk:=hf.block _ (getD_mem (d:=(default:Ag)) hi);have e:=CZ (Dt f) (f.Blocks.getD i default).Phis.length λ(k:Nat)=>K0 ((f.Blocks.getD i default).Phis.getD k default)
 have:=Tz 10000000 (λj u=>(j,f.Params,f.Ret,f.Blocks,l,t,u)) (λu=>(f.Params,f.Ret,f.Blocks,l,t,u)) (f.Blocks.getD i default).Phis.length (λ(k:Nat)=>(K0 ((f.Blocks.getD i default).Phis.getD k default)).map (Dt f)) (C6 f vs (i:Int)) (λacc k hk hacc=>by
  have hq:=hfit _ (getD_mem (d:=(default:Fy)) hk);have h1:=ik hf l t vs i k hi hk hq.1 hq.2 acc hacc;unfold C6
  have hd:decide ((k:Int)<((f.Blocks.getD i default).Phis.length:Int))=true:=by simpa using hk
  simp only[Dg,hd,Ae,Ar (Bb hk),h1,Ay,Dc hk (by have:=hBk.phis;omega)]) (λacc=>by unfold C6;simp) (f.Blocks.getD i default).Phis.length 0 u (by omega) (by rw[e];exact hB)
 rw[e]at this;exact this
theorem kL(i k:Nat)(hi:i<f.Blocks.length)(hk:k<(f.Blocks.getD i default).Ops.length)(u:List A7)(hB:(u++(Lw ((f.Blocks.getD i default).Ops.getD k default) i k).map (Dt f)).length<=10000000) :
  Aj (C7 f vs (i:Int) (k:Int) (Ex ((f.Blocks.getD i default).Ops.getD k default))) ((0:Int),f.Params,f.Ret,f.Blocks,l,t,u)=some (f.Params,f.Ret,f.Blocks,l,t,u++(Lw ((f.Blocks.getD i default).Ops.getD k default) i k).map (Dt f)):=by
 have hBk:=hf.block _ (getD_mem (d:=(default:Ag)) hi);have hlen:=EK (hY hf (getD_mem (d:=(default:Ag)) hi) (getD_mem (d:=(default:Bv)) hk));have hk512:=hBk.ops
 generalize hp:(f.Blocks.getD i default).Ops.getD k default=o at *
 have e:=NJ (Dt f) (Ex o).length λ(j:Nat)=>(⟨o.Args.getD j 0,i,k,(Ex o).getD j (0,0)⟩:Mq)
 have:=Tz 10000000 (λj u=>(j,f.Params,f.Ret,f.Blocks,l,t,u)) (λu=>(f.Params,f.Ret,f.Blocks,l,t,u)) (Ex o).length (λ(j:Nat)=>[Dt f ⟨o.Args.getD j 0,i,k,(Ex o).getD j (0,0)⟩]) (C7 f vs (i:Int) (k:Int) (Ex o)) (λacc j hj hacc=>by
  have hkk:((k:Int)==1000)=false:=by simp;omega
  have eu:Dt f ⟨o.Args.getD j 0,i,k,(Ex o).getD j (0,0)⟩=⟨o.Args.getD j 0,(Ex o).getD j (0,0),⟨(i:Int),(k:Int)⟩⟩:=by unfold Dt;simp only[hkk,A0]
  rw[eu]at hacc ⊢;unfold C7
  have hd:decide ((j:Int)<((Ex o).length:Int))=true:=by simpa using hj
  have hja:j<o.Args.length:=by omega
  simp only[Dg,hp,hd,Ae,Ar (Bb hj),Ar (Bb hja)]
  rw[show(⟨f.Params,f.Ret,f.Blocks⟩:Ab)=f from rfl,UA f l t vs _ _ _ acc hacc,Ay,Dc hj (by omega)]) (λacc=>by unfold C7;simp) (Ex o).length 0 u (by omega) (by rw[e];exact hB)
 rw[e]at this;exact this
theorem ij(i:Nat)(hi:i<f.Blocks.length)(u:List A7)(hB:(u++(Qt (f.Blocks.getD i default) i).map (Dt f)).length<=10000000) :
  Aj (C8 f vs (i:Int)) ((0:Int),f.Params,f.Ret,f.Blocks,l,t,u)=some (f.Params,f.Ret,f.Blocks,l,t,u++(Qt (f.Blocks.getD i default) i).map (Dt f)):=by
 have hmem:=getD_mem (d:=(default:Ag)) hi;have hBk:=hf.block _ hmem;have e:=CZ (Dt f) (f.Blocks.getD i default).Ops.length λ(k:Nat)=>Lw ((f.Blocks.getD i default).Ops.getD k default) i k
 have:=Tz 10000000 (λj u=>(j,f.Params,f.Ret,f.Blocks,l,t,u)) (λu=>(f.Params,f.Ret,f.Blocks,l,t,u)) (f.Blocks.getD i default).Ops.length (λ(k:Nat)=>(Lw ((f.Blocks.getD i default).Ops.getD k default) i k).map (Dt f)) (C8 f vs (i:Int)) (λacc k hk hacc=>by
  have h1:=kL hf l t vs i k hi hk acc hacc;have ht:Kp ((f.Blocks.getD i default).Ops.getD k default)=some (Ex ((f.Blocks.getD i default).Ops.getD k default)):=RR _ (jM hf hmem (getD_mem hk));unfold C8
  have hd:decide ((k:Int)<((f.Blocks.getD i default).Ops.length:Int))=true:=by simpa using hk
  simp only[Dg,hd,Ae,Ar (Bb hk),ht,h1,Ay,Dc hk (by have:=hBk.ops;omega)]) (λacc=>by unfold C8;simp) (f.Blocks.getD i default).Ops.length 0 u (by omega) (by rw[e];exact hB)
 rw[e]at this;exact this
theorem WL (hfit : ∀ b ∈ f.Blocks, ∀ p ∈ b.Phis, p.Args.length ≤ p.From.length ∧ ∀ x ∈ p.From, B9 x f.Blocks.length) : E0 f l t vs [] = some (f, l, t, (Dy f).map (Dt f)) := by
  have e := CZ (Dt f) f.Blocks.length fun (i : Nat) => S7 f (f.Blocks.getD i default) i; have hul := HZ hf
  have := Tz 10000000 (fun j u => (j, f.Params, f.Ret, f.Blocks, l, t, u)) (fun u => (f.Params, f.Ret, f.Blocks, l, t, u)) f.Blocks.length (fun (i : Nat) => (S7 f (f.Blocks.getD i default) i).map (Dt f)) (C9 f vs) (fun acc i hi hacc => by
    have hmem := getD_mem (d := (default : Ag)) hi; unfold S7 at hacc ⊢; rw [Y0, Y0, ← Zy, ← Zy] at hacc ⊢; have l1 := hacc; simp only [E8, Mm] at l1; have h1 := eW hf l t vs i hi (hfit _ hmem) acc (by simp only [E8, Mm]; omega); have h2 := ij hf l t vs i hi (acc ++ (Qu (f.Blocks.getD i default)).map (Dt f)) (by simp only [E8, Mm]; omega); have hinb : B9 (i : Int) f.Blocks.length := Bb hi; unfold C9 Db
    have hd : decide ((i : Int) < (f.Blocks.length : Int)) = true := by simpa using hi
    simp only [hd, Ae, Ar (Bb hi), h1, Ay, h2, Dg]; have hF : (⟨f.Params, f.Ret, f.Blocks⟩ : Ab) = f := rfl; have hw : Bh ((i : Int) + 1) = (i : Int) + 1 := Dc hi (by have := hf.blocks; omega); unfold Uc at hacc ⊢
    cases hz : ((f.Blocks.getD i default).End.Kind == 0) with
    | true =>
      have hz2 : ((f.Blocks.getD i default).End.Kind == 2) = false := by have : (f.Blocks.getD i default).End.Kind = 0 := by simpa using hz
                                                                         rw [this]; rfl
      rw [hz, hz2] at hacc; simp only [Ae, A0, hz2, List.append_nil, Bs, Cd] at hacc ⊢; rw [hF, bC f l t vs _ hinb, Ay]; simp only; rw [UA f l t vs _ _ _ _ (show (_ ++ [(⟨_, _, ⟨(i : Int), Kx f (i : Int)⟩⟩ : A7)]).length ≤ 10000000 from hacc), Ay, Ay, hw]
      rfl
    | false =>
      rw [hz] at hacc
      cases hz2 : ((f.Blocks.getD i default).End.Kind == 2) with
      | true =>
        rw [hz2] at hacc; simp only [Ae, A0, Tf, Bs, Cd] at hacc ⊢; rw [hF, bC f l t vs _ hinb, Ay]; simp only; rw [UA f l t vs _ _ _ _ (show (_ ++ [(⟨_, _, ⟨(i : Int), Kx f (i : Int)⟩⟩ : A7)]).length ≤ 10000000 from hacc), Ay, Ay, hw]
        rfl
      | false =>
        simp only [A0, Tf, Cd, List.append_nil, Ay, hw]) (fun acc => by unfold C9; simp) f.Blocks.length 0 [] (by omega) (by rw [e]; simpa [Dy] using (by omega : (Dy f).length ≤ 10000000))
  rw [e, Tf] at this; unfold E0; rw [show (0 : Int) = ((0 : Nat) : Int) from rfl]
  show ((Aj (C9 f vs) (((0 : Nat) : Int), f.Params, f.Ret, f.Blocks, l, t, [])).bind _) = _
  rw [this, Ay]
  rfl
end
theorem eJ{σ X:Type}(mk:Int->σ)(U:List A7)(p:A7->Bool)(f:σ->Option (LR σ X))(yes no:X)(hk:∀ i:Nat,i<U.length->f (mk i)=some (bif p (U.getD i default) then .next (mk ((i:Int)+1)) else .done no))(he:f (mk U.length)=some (.done yes)) :
  ∀ k i:Nat,i+k=U.length->Aj f (mk i)=some (bif (U.drop i).all p then yes else no)
 | 0,i,h=>by
  obtain rfl:i=U.length:=by omega
  rw[Ah he]
  simp
 | k+1,i,h=>by
  have hi:i<U.length:=by omega
  have hdr:U.drop i=U.getD i default::U.drop (i+1):=by rw[Ml hi,Aa _ _ _ hi]
  have hx:=hk i hi;rw[hdr,Oq]
  cases hp:p (U.getD i default) with
  | true=>
   rw[hp]at hx;rw[Ao hx,show((i:Int)+1)=((i+1:Nat):Int) by omega,eJ mk U p f yes no hk he k (i+1) (by omega),Gz]
  | false=>
   rw[hp]at hx;rw[Ah hx]
   rfl
theorem CK(d:TDef)(l:List TDef)(v:Int):Ia (d::l) v=bif d.V==v then 0 else bif decide (Ia l v<0) then -1 else Ia l v+1:=by
 unfold Ia;rw[List.findIdx?_cons]
 cases d.V==v with
 | true=>rfl
 | false=>
  cases l.findIdx? (λd=>d.V==v) with
  | none=>rfl
  | some i=>
   simp only[A0,Vy];rw[Fh (by omega)]
   simp
theorem DB(v:Int):∀ l:List TDef,B0 (dv l) v = !decide (Ia l v<0)
 | []=>rfl
 | d::l=>by
  rw[CK]
  show((v==d.V) || B0 (dv l) v)=_
  rw[DB v l,show(v==d.V)=(d.V==v) by rw[Mn];simp;exact Nr]
  cases d.V==v with
  | true=>rfl
  | false=>
   by_cases h:Ia l v<0
   ·simp[h]
   ·simp[h];omega
theorem Vo(v:Int):∀ l:List TDef,¬ Ia l v<0->mget (default:Ak) (dv l) v=AR (defOf l v)
 | [],h=>absurd (show(-1:Int)<0 by decide) h
 | d::l,h=>by
  unfold defOf;rw[CK]at h ⊢
  show(bif v==d.V then AR d else mget default (dv l) v)=_
  rw[show(v==d.V)=(d.V==v) by rw[Mn];simp;exact Nr]
  cases hb:d.V==v with
  | true=>rfl
  | false=>
   rw[hb]at h
   by_cases hn:Ia l v<0
   ·simp[hn]at h
   ·have hz:decide (Ia l v<0)=false:=Fh hn;simp only[A0,hz];rw[Vo v l hn,show(Ia l v+1).toNat=(Ia l v).toNat+1 by omega]
    rfl
def ZB(f:Ab)(d:TDef):Prop:=d.Block = -1\/(B9 d.Block f.Blocks.length/\d.At<Kx f d.Block/\d.At<1000)
def gf(f:Ab)(u:Mq):Prop:=B9 u.Block f.Blocks.length/\0<=u.At
theorem eh{f:Ab}(hf:OkF f):∀ d∈Au f,ZB f d:=λd hd=>by
 rcases zzL11.1 hd with h|h
 ·obtain⟨i,_,hi⟩:=zzL64.1 h;rw[zzL14.1 hi];exact .inl rfl
 ·obtain⟨i,hi,h⟩:=zzL64.1 h
  have hi:i<f.Blocks.length:=by simpa using hi
  have hB:=hf.block _ (getD_mem (d:=(default:Ag)) hi);have ho:Kx f (i:Int)=((f.Blocks.getD i default).Ops.length:Int):=rfl;rcases zzL11.1 h with h|h
  ·obtain⟨k,hk,h⟩:=zzL64.1 h;rw[zzL14.1 h];refine .inr ⟨Bb hi,?_,?_⟩
   ·show(-1:Int)<Kx f (i:Int);rw[ho];omega
   ·show(-1:Int)<1000;omega
  ·obtain⟨k,hk,h⟩:=zzL64.1 h
   have hk:k<(f.Blocks.getD i default).Ops.length:=by simpa using hk
   cases hg:decide (0<(Gu ((f.Blocks.getD i default).Ops.getD k default)).1) with
   | false=>rw[hg]at h;cases h
   | true=>
    rw[hg]at h;rw[zzL14.1 h];refine .inr ⟨Bb hi,?_,?_⟩
    ·show(k:Int)<Kx f (i:Int);rw[ho];omega
    ·show(k:Int)<1000;have:=hB.ops;omega
theorem gE{f:Ab}(hfit:∀ b∈f.Blocks,∀ p∈b.Phis,p.Args.length<=p.From.length/\∀ x∈p.From,B9 x f.Blocks.length):∀ u∈Dy f,gf f u:=λu hu=>by
 obtain⟨i,hi,h⟩:=zzL64.1 hu
 have hi:i<f.Blocks.length:=by simpa using hi
 have hmem:=getD_mem (d:=(default:Ag)) hi;rcases zzL11.1 h with h|h
 ·rcases zzL11.1 h with h|h
  ·obtain⟨k,hk,h⟩:=zzL64.1 h
   have hk:k<(f.Blocks.getD i default).Phis.length:=by simpa using hk
   obtain⟨j,hj,h⟩:=zzL64.1 h;have hj:=zzL38.1 hj;have hq:=hfit _ hmem _ (getD_mem (d:=(default:Fy)) hk);rw[zzL14.1 h];exact⟨hq.2 _ (getD_mem (by omega)),by show(0:Int)<=1000;omega⟩
  ·obtain⟨k,hk,h⟩:=zzL64.1 h;obtain⟨j,hj,h⟩:=zzL64.1 h;rw[zzL14.1 h];exact⟨Bb hi,by show(0:Int)<=(k:Int);omega⟩
 ·unfold Uc at h
  have:u=⟨(f.Blocks.getD i default).End.Arg,i,1000,(f.Ret,1)⟩\/u=⟨(f.Blocks.getD i default).End.Arg,i,1000,(1,1)⟩:=by
   rcases zzL11.1 h with h|h
   ·cases hz:((f.Blocks.getD i default).End.Kind==0) with
    | true=>rw[hz]at h;exact .inl (zzL14.1 h)
    | false=>rw[hz]at h;cases h
   ·cases hz:((f.Blocks.getD i default).End.Kind==2) with
    | true=>rw[hz]at h;exact .inr (zzL14.1 h)
    | false=>rw[hz]at h;cases h
  rcases this with rfl|rfl<;>exact⟨Bb hi,by show(0:Int)<=1000;omega⟩
theorem iy{f:Ab}(h:F8 f=true):∀ b∈f.Blocks,∀ p∈b.Phis,p.Args.length<=p.From.length/\∀ x∈p.From,B9 x f.Blocks.length:=λb hb p hp=>by
 have hs:Nn f=true:=by simp only[F8,A4]at h;exact h.1
 refine⟨YE h b hb p hp,λx hx=>?_⟩;obtain⟨i,hi,rfl⟩:=K9 hb;simp only[F8,A4]at h;have h1:=ZY h.2 i hi;simp only[Px,A4,zzL27]at h1;rw[Aa _ _ _ hi]at h1;have h2:=h1.2 p hp;simp only[Ha,A4,Du]at h2;rw[h2.1]at hx;obtain⟨q,rfl,hq,_⟩:=(W5 (L:=El f) (Sy hs) (y:=i) (by rw[W9];exact hi)).1 hx;exact Bb (by rw[W9]at hq;exact hq)
theorem SD{f:Ab}(h:F8 f=true){b:Int}(hb:B9 b f.Blocks.length):Ni (Bx f) 0 b=true:=by
 have hs:Nn f=true:=by simp only[F8,A4]at h;exact h.1
 have hm:=Sy hs;have hlen:=W9 f
 have hpos:0<(El f).length:=by have:=(shape_iff.1 hs).1.1;omega
 obtain⟨P,hP,o,ht⟩:=YG hm hpos
 have e:Bx f=Xe (El f) 0:=by
  unfold Bx PA;rw[if_pos ⟨NK hm,Int.le_refl _,by show(0:Int)<((El f).length:Int);omega⟩]
  rfl
 obtain⟨k,rfl⟩:∃ k:Nat,b=(k:Int):=⟨b.toNat,(U5 hb.1).symm⟩
 have hk:k<f.Blocks.length:=by have:=hb.2;omega
 simp only[F8,A4]at h;have h1:=ZY h.2 k hk;simp only[Px,A4]at h1;have hr:Rch (sN (El f)) 0 k:=(W6 (Uz hm) hpos k).1 h1.1.1;rw[e];refine(ht.over_dom o hpos (by omega)).2 ⟨rc_iff.2 hr,λha=>?_⟩;exact(av_iff.1 ha).1 rfl
theorem R6{l:List Mq}{g:Mq->A7}{p:A7->Bool}{q:Mq->Bool}(h:∀ u∈l,p (g u)=q u):(l.map g).all p=l.all q:=by
 induction l with
 | nil=>rfl
 | cons a l ih=>rw[Bs,Oq,Oq,h a (by simp),ih λu hu=>h u (by simp[hu])]
def ei(vs:List (Int×Ak))(u:A7):Bool:=((mget (default:Ak) vs u.v).shape.1==u.shape.1)&&(((mget (default:Ak) vs u.v).shape.2==u.shape.2)&&true)
def Vg(vs:List (Int×Ak))(t:List Int)(u:A7):Bool:=bif (mget (default:Ak) vs u.v).place.block==u.place.block then decide ((mget (default:Ak) vs u.v).place.at_<u.place.at_) else Ni t (mget (default:Ak) vs u.v).place.block u.place.block
theorem ZX{f:Ab}(hs:F8 f=true){D:List TDef}(hD:∀ d∈D,ZB f d){u:Mq}(hu:gf f u)(hfd:Kw D u=true):Vg (dv D) (Bx f) (Dt f u)=Uu D (Bx f) u:=by
 have hF:¬ Ia D u.V<0:=by simpa [Kw] using hfd
 have hin:=MS hF;have hd:ZB f (defOf D u.V):=hD _ (by unfold defOf;exact getD_mem (by have:=hin.1;have:=hin.2;omega));have hg:mget (default:Ak) (dv D) (Dt f u).v=AR (defOf D u.V):=Vo u.V D hF;unfold Vg Uu;rw[hg]
 generalize defOf D u.V=d at *
 have hub:=hu.1.1
 have hul:0<=Kx f u.Block:=by unfold Kx;omega
 have hat:∀ a:Int,a<0\/(a<Kx f u.Block/\a<1000)->decide (a<(Dt f u).place.at_)=decide (a<u.At)\/a<0:=λa ha=>by
  rcases ha with ha|ha
  ·exact .inr ha
  ·refine .inl ?_
   show decide (a<bif u.At==1000 then Kx f u.Block else u.At)=_
   by_cases h:u.At=1000
   ·rw[h];simp only[show((1000:Int)==1000)=true from rfl,Ae];rw[Ey ha.1,Ey ha.2]
   ·have:(u.At==1000)=false:=by simpa using h
    rw[this];rfl
 have hpos:0<=(Dt f u).place.at_:=by
  show 0<=bif u.At==1000 then Kx f u.Block else u.At
  cases u.At==1000
  ·exact hu.2
  ·exact hul
 have hblk:(Dt f u).place.block=u.Block:=rfl;rw[hblk];rcases hd with hd|⟨hd1,hd2,hd3⟩
 ·have e:(AR d).place=⟨0,-1⟩:=by show eL d=_;unfold eL;rw[hd];rfl
  rw[e,hd,Ey (show(-1:Int)<0 by decide)]
  show(bif (0:Int)==u.Block then decide ((-1:Int)<(Dt f u).place.at_) else Ni (Bx f) 0 u.Block)=_
  rw[Bool.true_or,Bool.true_or,SD hs hu.1,Ey (show(-1:Int)<(Dt f u).place.at_ by omega)]
  cases(0:Int)==u.Block<;>rfl
 ·have hn:¬ d.Block<0:=by have:=hd1.1;omega
  have e:(AR d).place=⟨d.Block,d.At⟩:=by show eL d=_;unfold eL;rw[Fh hn];rfl
  rw[e,Fh hn,ET]
  show(bif d.Block==u.Block then decide (d.At<(Dt f u).place.at_) else Ni (Bx f) d.Block u.Block)=_
  cases hb:d.Block==u.Block with
  | true=>
   have hbe:d.Block=u.Block:=by simpa using hb
   simp only[Ae,Gz,Fi,Ta,Bool.or_false];rcases hat d.At (.inr ⟨by rw[<- hbe];exact hd2,hd3⟩) with h|h
   ·exact h
   ·rw[Ey (by omega),Ey (by have:=hu.2;omega)]
  | false=>
   simp only[A0,Ta,ET,L7,Gz];unfold Ni
   by_cases hm:L0 (Bx f) d.Block u.Block=d.Block
   ·rw[hm]
    have:(d.Block !=-2)=true:=by simp;omega
    simp[this]
   ·have:(L0 (Bx f) d.Block u.Block==d.Block)=false:=by simpa using hm
    simp[this,bne]
section
variable {f:Ab} (l:Int) (vs:List (Int×Ak))
def YY(f:Ab)(l:Int)(U:List A7)(i:Int):Int×List Int×Int×List Ag×Int×List Int×List A7:=(i,f.Params,f.Ret,f.Blocks,l,Bx f,U)
def LM(f:Ab)(l:Int)(U:List A7):List Int×Int×List Ag×Int×List Int×List A7:=(f.Params,f.Ret,f.Blocks,l,Bx f,U)
theorem eY(U:List A7)(hU:U.length<9223372036854775808):Aj (C0 vs (f,l,Bx f,U)) (YY f l U 0)=some (bif U.all (λu=>B0 vs u.v) then .inl (LM f l U) else .inr (LM f l U)):=by
 have:=eJ (YY f l U) U (λu=>B0 vs u.v) (C0 vs (f,l,Bx f,U)) (.inl (LM f l U)) (.inr (LM f l U)) (λi hi=>by
  unfold C0 YY G7
  have hd:decide ((i:Int)<(U.length:Int))=true:=by simpa using hi
  simp only[hd,Ae,Ar (Bb hi),Dg,Ay,Dc hi hU]
  cases B0 vs (U.getD i default).v<;>rfl) (by unfold C0 YY;simp;rfl) U.length 0 (by omega)
 rw[K1]at this;exact this
theorem eZ(U:List A7)(hU:U.length<9223372036854775808):Aj (C1 vs U) (YY f l U 0)=some (bif U.all (ei vs) then .inl (LM f l U) else .inr (LM f l U)):=by
 have:=eJ (YY f l U) U (ei vs) (C1 vs U) (.inl (LM f l U)) (.inr (LM f l U)) (λi hi=>by
  unfold C1 YY Ie
  have hd:decide ((i:Int)<(U.length:Int))=true:=by simpa using hi
  simp only[hd,Ae,Ar (Bb hi),Dg,Ay,Dc hi hU];unfold ei
  cases(((mget (default:Ak) vs (U.getD i default).v).shape.1==(U.getD i default).shape.1)&&(((mget (default:Ak) vs (U.getD i default).v).shape.2==(U.getD i default).shape.2)&&true))<;>rfl) (by unfold C1 YY;simp;rfl) U.length 0 (by omega)
 rw[K1]at this;exact this
theorem ea(htl:(Bx f).length<=1000)(U:List A7)(hU:U.length<9223372036854775808):Aj (C2 vs U) (YY f l U 0)=some (bif U.all (Vg vs (Bx f)) then .inl (LM f l U) else .inr (LM f l U)):=by
 have:=eJ (YY f l U) U (Vg vs (Bx f)) (C2 vs U) (.inl (LM f l U)) (.inr (LM f l U)) (λi hi=>by
  have hx:E2 (U.getD i default) f l (Bx f) vs U=some (Vg vs (Bx f) (U.getD i default),f,l,Bx f,U):=by
   unfold E2 Vg;rw[jB htl]
   cases(mget (default:Ak) vs (U.getD i default).v).place.block==(U.getD i default).place.block<;>rfl
  unfold C2 YY
  have hd:decide ((i:Int)<(U.length:Int))=true:=by simpa using hi
  simp only[hd,Ae,Ar (Bb hi),Dg];rw[show(⟨f.Params,f.Ret,f.Blocks⟩:Ab)=f from rfl,hx,Ay,Dc hi hU]
  cases Vg vs (Bx f) (U.getD i default)<;>rfl) (by unfold C2 YY;simp;rfl) U.length 0 (by omega)
 rw[K1]at this;exact this
end
def EN(f:Ab):Int:=bif !(Dy f).all (Kw (Au f)) then 7 else bif !(Dy f).all (Ww (Au f)) then 6 else bif !(Dy f).all (Uu (Au f) (Bx f)) then 7 else 0
theorem iu{f:Ab}(hf:OkF f)(hs:F8 f=true)(l:Int):∃ U,Gj f l (Bx f) (dv (Au f)) []=some (EN f,f,l,Bx f,U):=by
 have hfit:=iy hs;have hul:=HZ hf
 have hsB:Nn f=true:=by simp only[F8,A4]at hs;exact hs.1
 refine⟨(Dy f).map (Dt f),?_⟩
 have hU:((Dy f).map (Dt f)).length<9223372036854775808:=by rw[Mm];omega
 have h1:=eY (f:=f) l (dv (Au f)) _ hU;have h2:=eZ (f:=f) l (dv (Au f)) _ hU;have h3:=ea (f:=f) l (dv (Au f)) (cw hsB) _ hU;rw[R6 (q:=Kw (Au f)) (λu _=>DB u.V _)]at h1;unfold Gj EN O6;rw[WL hf l (Bx f) (dv (Au f)) hfit,Ay];simp only;rw[show(Aj (C0 (dv (Au f)) (f,l,Bx f,(Dy f).map (Dt f))) ((0:Int),f.Params,f.Ret,f.Blocks,l,Bx f,(Dy f).map (Dt f)))=_ from h1,Ay];have fin:∀ e:Int,Aj J3 (e,f.Params,f.Ret,f.Blocks,l,Bx f,(Dy f).map (Dt f))=some (e,f,l,Bx f,(Dy f).map (Dt f)):=λe=>Ah rfl
 cases hfd:(Dy f).all (Kw (Au f)) with
 | false=>simp only[A0,L7,Ae,LM,Ay,fin]
 | true=>
  have hmf:=zzL27.1 hfd
  rw[R6 (q:=Ww (Au f)) (λu hu=>by
   have:=hmf u hu;simp only[Kw,On,IE]at this;have hg:mget (default:Ak) (dv (Au f)) (Dt f u).v=AR (defOf (Au f) u.V):=Vo u.V _ this;unfold ei Ww
   rw[hg];rfl)]at h2
  rw[R6 (q:=Uu (Au f) (Bx f)) (λu hu=>ZX hs (eh hf) (gE hfit u hu) (hmf u hu))]at h3;simp only[Ae,Fi,A0,LM];rw[show(Aj (C1 (dv (Au f)) ((Dy f).map (Dt f))) ((0:Int),f.Params,f.Ret,f.Blocks,l,Bx f,(Dy f).map (Dt f)))=_ from h2,Ay]
  cases(Dy f).all (Ww (Au f)) with
  | false=>simp only[A0,L7,Ae,LM,Ay,fin]
  | true=>
   simp only[Ae,Fi,A0,LM];rw[show(Aj (C2 (dv (Au f)) ((Dy f).map (Dt f))) ((0:Int),f.Params,f.Ret,f.Blocks,l,Bx f,(Dy f).map (Dt f)))=_ from h3,Ay]
   cases(Dy f).all (Uu (Au f) (Bx f)) with
   | false=>simp only[A0,L7,Ae,LM,Ay,fin]
   | true=>simp only[Ae,Fi,A0,LM,Ay]
theorem eb{f:Ab}(h:Sm f)(l:Int)(h0:0<=l)(h2:l<=2):∃ t u vs,F5 f l [] []=some (E9 f l,f,l,t,u,vs)/\(E9 f l=0->vs=dv (Au f)):=by
 have hc:E9 f l=bif !Qf f then 4 else KY f l:=by
  unfold E9;rw[Fh (by omega),Fh (by omega)];rfl
 rw[hc];unfold F5;rw[ir f h.1,Ay]
 cases hm:Qf f with
 | false=>exact⟨[],[],[],rfl,λh=>by cases h⟩
 | true=>
  have hf:=kq h hm;simp only[Ae,Fi,A0,show((0:Int)!=0)=false from rfl,KY];obtain⟨t',hsh,hst⟩:=bE hf l [] [];rw[hsh,Ay]
  cases hs:F8 f with
  | false=>exact⟨t',[],[],rfl,λh=>by cases h⟩
  | true=>
   obtain rfl:=hst hs;simp only[Ae,Fi,A0,show((0:Int)!=0)=false from rfl];rw[eX hf l h0 h2,Ay]
   cases O7 f l with
   | false=>exact⟨Bx f,[],[],rfl,λh=>by cases h⟩
   | true=>
    simp only[Ae,Fi,A0,show((0:Int)!=0)=false from rfl];obtain⟨vs,hd,hv⟩:=WN hf l (Bx f) [];rw[hd,Ay]
    cases hdd:(List.range (Au f).length).all (Kv (Au f)) with
    | false=>exact⟨Bx f,[],vs,rfl,λh=>by cases h⟩
    | true=>
     obtain rfl:=hv hdd;simp only[Ae,Fi,A0,show((0:Int)!=0)=false from rfl];obtain⟨U,hu⟩:=iu hf hs l;rw[hu,Ay];refine⟨Bx f,U,dv (Au f),?_,λ_=>rfl⟩
     show(bif EN f !=0 then some (EN f,f,l,Bx f,U,dv (Au f)) else some (0,f,l,Bx f,U,dv (Au f)))=some (EN f,f,l,Bx f,U,dv (Au f))
     cases hz:EN f !=0 with
     | true=>rfl
     | false=>
      have:EN f=0:=by simpa using hz
      rw[this];rfl
def lone(e:H1)(b r:Int):Ab:=⟨[b],r,[⟨[],[],e⟩]⟩
theorem nK{α:Type}(l:List α):(l.map λ_=>1).sum=l.length:=by induction l with|nil=>rfl|cons a l ih=>simp[ih];omega
def fw(l:List TDef):List (Int×(Int×Int)):=l.map λd=>(d.V,d.Shape)
theorem Vj{f:Ab}(h:(List.range (Au f).length).all (Kv (Au f))=true):((Au f).map (·.V)).Nodup:=by
 rw[List.nodup_iff_pairwise_ne,List.pairwise_map,zzL96];intro i j hi hj hij he;have:=((T4 hj).1 (ZY h j hj)).2 i hij;rw[Aa _ _ _ hi,Aa _ _ _ hj]at this;exact this he
theorem EG{x1:Int×Ab×Int×List Int×List A7×List (Int×Ak)}(D:List TDef)(hx:x1.2.2.2.2.2=dv D)(hn:(D.map (·.V)).Nodup):∀(τ:List Nat) (acc:List (Int×(Int×Int))),τ.Nodup->(∀ i∈τ,i<D.length)->(∀ i∈τ,B0 acc (D.getD i default).V=false)->
  Sz (Gh x1) H3 τ acc=some (acc++τ.map λi=>((D.getD i default).V,(D.getD i default).Shape))
 | [],acc,_,_,_=>by simp[Sz,H3]
 | i::τ,acc,hd,hin,hf=>by
  have hi:=hin i (by simp)
  have hg:(dv D).getD i ((0:Int),(default:Ak))=((D.getD i default).V,AR (D.getD i default)):=by
   unfold dv;simp[List.getD,hi]
  have hm:=T0 (D.getD i default).V (D.getD i default).Shape (hf i (by simp))
  have hstep:Gh x1 i acc=some (.next (acc++[((D.getD i default).V,(D.getD i default).Shape)])):=by
   unfold Gh;rw[hx,hg]
   show some (LR.next (Ek acc (D.getD i default).V ((D.getD i default).Shape.1,(D.getD i default).Shape.2)))=_
   rw[show((D.getD i default).Shape.1,(D.getD i default).Shape.2)=(D.getD i default).Shape from rfl,hm]
  unfold Sz;rw[hstep]
  show Sz _ _ τ _=_
  rw[EG D hx hn τ _ (zzL74.1 hd).2 (λj hj=>hin j (by simp[hj])) (λj hj=>?_),Bs,Zy]
  ·rfl
  ·have h1:=hf j (by simp[hj]);rw[Sh]at h1 ⊢;rw[List.any_append,h1,ET];have hj':=hin j (by simp[hj]);have hne:j≠i:=λe=>(zzL74.1 hd).1 (e▸hj)
   have:(D.getD j default).V≠(D.getD i default).V:=λe=>by
    rw[List.nodup_iff_pairwise_ne,List.pairwise_map,zzL96]at hn;rw[Aa _ _ _ hi,Aa _ _ _ hj']at e;rcases Nat.lt_or_gt_of_ne hne with h|h
    ·exact hn j i hj' hi h e
    ·exact hn i j hi hj' h e.symm
   simpa using this
theorem MH(f:Ab)(h:Sm f):∃ s,Kk f=some s/\ZL f s:=by
 obtain⟨t,u,vs,hw,hv⟩:=eb h 2 (by omega) (by omega);unfold Kk;rw[hw,Ay]
 cases hc:(E9 f 2 !=0) with
 | true=>
  have hne:E9 f 2≠0:=by simpa using hc
  exact⟨[],rfl,λ_=>rfl,λe=>absurd e hne,λe=>absurd e hne,λe=>absurd e hne⟩
 | false=>
  have h0:E9 f 2=0:=by simpa using hc
  obtain rfl:=hv h0;have hz:=(M5 (f:=f) (l:=2) (by omega) (by omega)).1 h0
  have hall:(List.range (Au f).length).all (Kv (Au f))=true:=by
   have:=hz.2.2.2;unfold EB at this
   cases hb:(List.range (Au f).length).all (Kv (Au f)) with
   | true=>rfl
   | false=>rw[hb]at this;cases this
  have hn:=Vj hall
  have hlen:(mapE (λ(v_:Ak)=>((.agg (P0 v_)):AV)) (dv (Au f))).length=(Au f).length:=by simp[mapE,dv]
  have hkeys:((fw (Au f)).map (·.1)).Nodup:=by
   have:(fw (Au f)).map (·.1)=(Au f).map (·.V):=by unfold fw;rw[List.map_map];rfl
   rw[this];exact hn
  have hrun:∀ τ:List Nat,τ.Perm (List.range (mapE (λ(v_:Ak)=>((.agg (P0 v_)):AV)) (dv (Au f))).length)->∃ x',Sz (Gh (E9 f 2,f,2,t,u,dv (Au f))) H3 τ ([]:List (Int×(Int×Int)))=some x'/\HL x' (fw (Au f)):=λτ hτ=>by
   rw[hlen]at hτ;have hr:=EG (x1:=(E9 f 2,f,2,t,u,dv (Au f))) (Au f) rfl hn τ [] (hτ.nodup_iff.2 List.nodup_range) (λi hi=>zzL38.1 (hτ.mem_iff.1 hi)) (λ_ _=>rfl);refine⟨_,hr,?_,hkeys⟩;rw[Tf];have:=hτ.map λi=>(((Au f).getD i default).V,((Au f).getD i default).Shape);refine this.trans ?_
   have e:(List.range (Au f).length).map (λi=>(((Au f).getD i default).V,((Au f).getD i default).Shape))=fw (Au f):=by
    unfold fw
    apply Yy
    ·simp
    ·intro i h1 h2;simp only[Mm,Zz]at h1;simp only[List.getElem_map,List.getElem_range,Aa _ _ _ h1]
   rw[e]
  obtain⟨s,hs⟩:=XT ⟨fw (Au f),hrun⟩
  have hp:s.Perm (fw (Au f))/\(s.map (·.1)).Nodup:=by
   have hsp:=Zp hs (List.range _) (List.Perm.refl _);obtain⟨x',h1,h2⟩:=hsp;obtain⟨x2,h3,h4⟩:=hrun (List.range _) (List.Perm.refl _);rw[h1]at h3;obtain rfl:=OI h3;exact⟨h2.1.symm.trans h4.1,h2.2⟩
  refine⟨s,?_,λhne=>absurd h0 hne,λ_=>?_,λ_ d hd=>?_,λ_ v hv=>?_⟩
  ·show(Vq HL _ _ _ _).bind _=_
   rw[hs];rfl
  ·rw[hp.1.length_eq];simp[fw]
  ·have hm:(d.V,d.Shape)∈s:=hp.1.mem_iff.2 (zzL24.2 ⟨d,hd,rfl⟩);exact DA hp.2 hm
  ·rw[Sh,List.any_eq_true]at hv;obtain⟨q,hq,he⟩:=hv;obtain⟨d,hd,rfl⟩:=zzL24.1 (hp.1.mem_iff.1 hq);exact⟨d,hd,by simpa using(by simpa using he:v=d.V).symm⟩
abbrev bA(f:Ab)(i:Nat):Ag:=f.Blocks.getD i default
def mq(f:Ab)(i:Nat)(k:Nat):Int:=(bA f i).End.To.getD k 0
structure Rt(f:Ab):Prop where
 lo:1<=f.Blocks.length
 hi:f.Blocks.length<=64
 to:∀ i,i<f.Blocks.length->∀ k,k<(bA f i).End.To.length->0<mq f i k/\mq f i k<f.Blocks.length
 one:∀ i,i<f.Blocks.length->(bA f i).End.Kind=1->(bA f i).End.To.length=1
 two:∀ i,i<f.Blocks.length->(bA f i).End.Kind=2->(bA f i).End.To.length=2
 may:Ln (El f)=true
 ok:OkF f
set_option maxRecDepth 100000
def mz(f:Ab)(d:TDef)(b a:Int):Prop:=d.Block<0\/(d.Block=b/\d.At<a)\/(d.Block≠b/\Ni (Bx f) d.Block b=true)
theorem RG{l:List TDef}(hn:(l.map (·.V)).Nodup){d:TDef}(hd:d∈l):0<=Ia l d.V/\defOf l d.V=d:=by
 obtain⟨i,hi,rfl⟩:=K9 hd
 have hx:∃ k,l.findIdx? (λe=>e.V==l[i].V)=some k:=by
  cases h:l.findIdx? (λe=>e.V==l[i].V) with
  | some k=>exact⟨k,rfl⟩
  | none=>
   have:=List.findIdx?_eq_none_iff.1 h _ (Xm hi);simp at this
 obtain⟨k,hk⟩:=hx;obtain⟨hk1,hk2,_⟩:=List.findIdx?_eq_some_iff_getElem.1 hk
 have e:k=i:=by
  have h1:(l.map (·.V))[k]'(by simpa using hk1)=(l.map (·.V))[i]'(by simpa using hi):=by simpa using hk2
  exact(List.getElem_inj hn).1 h1
 subst e;unfold defOf Ia;rw[hk];refine⟨by simp,?_⟩
 show l.getD ((k:Int)).toNat default=l[k]
 rw[A5,Aa _ _ _ hi]
structure lM(f:Ab)(l:Int):Prop where
 may:Qf f=true
 shape:F8 f=true
 typed:O7 f l=true
 rest:EB f=0
theorem fp{f:Ab}{l:Int}(hl:0<=l/\l<=2):E9 f l=0↔lM f l:=
 ⟨λh=>by obtain⟨a,b,c,d⟩:=(M5 hl.1 hl.2).1 h;exact⟨a,b,c,d⟩,λh=>(M5 hl.1 hl.2).2 ⟨h.1,h.2,h.3,h.4⟩⟩
section
variable {f:Ab} {l:Int} (R:lM f l)
include R
theorem cd{b:Ag}(hb:b∈f.Blocks){o:Bv}(ho:o∈b.Ops):G3 l o=true:=by
 have h:=R.typed;simp only[O7,Hh,A4,zzL27]at h;exact(h.1.2 b hb).2 o ho
theorem h9{b:Ag}(hb:b∈f.Blocks){o:Bv}(ho:o∈b.Ops):Hq o=true:=by
 have:=cd R hb ho;unfold G3 at this;simp only[A4]at this;exact this.1.1
theorem BN:(List.range (Au f).length).all (Kv (Au f))=true/\(∀ u∈Dy f,Kw (Au f) u=true)/\(∀ u∈Dy f,Ww (Au f) u=true)/\∀ u∈Dy f,Uu (Au f) (Bx f) u=true:=by
 have h:=R.rest;unfold EB at h
 cases h1:(List.range _).all _ with
 | false=>rw[h1]at h;cases h
 | true=>grind
theorem ca{d e:TDef}(hd:d∈Au f)(he:e∈Au f)(hv:d.V=e.V):d=e:=by
 have hn:=Vj (BN R).1;have h1:=(RG hn hd).2;rw[hv,(RG hn he).2]at h1;exact h1.symm
theorem jR{d:TDef}(hd:d∈Au f):valS d.V=true:=by
 obtain⟨i,hi,rfl⟩:=K9 hd;have:=((T4 hi).1 (ZY (BN R).1 i hi)).1;rw[Aa _ _ _ hi]at this;exact this
theorem jQ{u:Mq}(hu:u∈Dy f):∃ d∈Au f,d.V=u.V/\d.Shape=u.Shape/\mz f d u.Block u.At:=by
 obtain⟨_,h2,h3,h4⟩:=BN R;have hf:=h2 u hu;have hfit:=h3 u hu;have hdom:=h4 u hu;unfold Kw at hf
 have hneg:¬ Ia (Au f) u.V<0:=by simpa using hf
 have hin:=MS hneg;have hmem:defOf (Au f) u.V∈Au f:=getD_mem (by have:=hin.1;have:=hin.2;omega)
 have hV:(defOf (Au f) u.V).V=u.V:=by
  unfold defOf;unfold Ia at hneg ⊢
  cases hx:(Au f).findIdx? (λd=>d.V==u.V) with
  | none=>rw[hx]at hneg;exact absurd (by decide) hneg
  | some i=>
   obtain⟨hi,hp,_⟩:=List.findIdx?_eq_some_iff_getElem.1 hx
   show((Au f).getD ((i:Int)).toNat default).V=_
   rw[A5,Aa _ _ _ hi]
   simpa using hp
 refine⟨_,hmem,hV,?_,?_⟩
 ·unfold Ww at hfit;simp only[A4,zzL72]at hfit;exact Prod.ext hfit.1 hfit.2.1
 ·unfold Uu at hdom;simp only[Xn,A4,Du,zzL72,On,zzL23]at hdom;rcases hdom with(h|h)|⟨h,h'⟩
  ·exact .inl h
  ·exact .inr (.inl h)
  ·by_cases hb:(defOf (Au f) u.V).Block<0
   ·exact .inl hb
   ·refine .inr (.inr ⟨h,?_⟩);rw[bne_eq_false_iff_eq]at h';unfold Ni;rw[h',A4];exact⟨by simp,by rw[zzL90];omega⟩
end
theorem ri_def{f:Ab}{d:TDef}:d∈Au f↔(∃ i,i<f.Params.length/\d=⟨(i:Int)+1,-1,0,(f.Params.getD i 0,1)⟩) \/
  ∃ i,i<f.Blocks.length/\((∃ k,k<(bA f i).Phis.length/\d=⟨((bA f i).Phis.getD k default).Dst,i,-1,(((bA f i).Phis.getD k default).Bits,1)⟩) \/
   ∃ k,k<(bA f i).Ops.length/\0<(Gu ((bA f i).Ops.getD k default)).1/\d=⟨((bA f i).Ops.getD k default).Dst,i,k,Gu ((bA f i).Ops.getD k default)⟩):=by
 unfold Au K6 J1 Tn X1;simp only[zzL11,zzL64,zzL38,zzL14]
 constructor
 ·rintro(h|⟨i,hi,⟨k,hk,h⟩|⟨k,hk,h⟩⟩)
  ·exact .inl h
  ·exact .inr ⟨i,hi,.inl ⟨k,hk,h⟩⟩
  ·refine .inr ⟨i,hi,.inr ⟨k,hk,?_⟩⟩
   cases hg:decide (0<(Gu ((f.Blocks.getD i default).Ops.getD k default)).1) with
   | true=>rw[hg]at h;exact⟨Xk hg,zzL14.1 h⟩
   | false=>rw[hg]at h;cases h
 ·rintro(h|⟨i,hi,⟨k,hk,h⟩|⟨k,hk,hg,h⟩⟩)
  ·exact .inl h
  ·exact .inr ⟨i,hi,.inl ⟨k,hk,h⟩⟩
  ·exact .inr ⟨i,hi,.inr ⟨k,hk,by rw[Ey hg];exact zzL14.2 h⟩⟩
theorem HX{o:Bv}(hm:Hq o=true):(Ex o).length=o.Args.length/\∀ j,j<o.Args.length->(Ex o).getD j (0,0)=GN o j:=by
 obtain⟨_,_,_,_,hn,_,_⟩:=BH hm
 have ht:Ex o=Lr o:=by unfold Ex;rw[hm];rfl
 have htl:(Lr o).length=o.Args.length:=by unfold Lr;rw[Mm,Zz];omega
 refine⟨by rw[ht,htl],λj hj=>?_⟩;rw[ht];unfold Lr;rw[P7 (by omega)]
theorem fq {f : Ab} (hk : ∀ b ∈ f.Blocks, ∀ o ∈ b.Ops, Hq o = true) {u : Mq} : u ∈ Dy f ↔ ∃ i, i < f.Blocks.length ∧
    ((∃ k j, k < (bA f i).Phis.length ∧ j < ((bA f i).Phis.getD k default).Args.length ∧ u = ⟨((bA f i).Phis.getD k default).Args.getD j 0, ((bA f i).Phis.getD k default).From.getD j 0, 1000, (((bA f i).Phis.getD k default).Bits, 1)⟩) ∨
     (∃ k j, k < (bA f i).Ops.length ∧ j < ((bA f i).Ops.getD k default).Args.length ∧ u = ⟨((bA f i).Ops.getD k default).Args.getD j 0, i, k, GN ((bA f i).Ops.getD k default) j⟩) ∨
     ((bA f i).End.Kind = 0 ∧ u = ⟨(bA f i).End.Arg, i, 1000, (f.Ret, 1)⟩) ∨ ((bA f i).End.Kind = 2 ∧ u = ⟨(bA f i).End.Arg, i, 1000, (1, 1)⟩)) := by
  unfold Dy S7 Qu K0 Qt Lw Uc; simp only [zzL11, zzL64, zzL38, zzL14]
  have hE : ∀ (k c : Int) (x : Mq), u ∈ (bif k == c then [x] else []) ↔ (k = c ∧ u = x) := fun k c x => by
    by_cases h : k = c
    · rw [zzL72.2 h]; simp [h]
    · rw [zzL23.2 h]; simp [h]
  simp only [hE]
  constructor
  · rintro ⟨i, hi, (⟨k, hk', j, hj, h⟩ | ⟨k, hk', j, hj, h⟩) | h⟩
    · exact ⟨i, hi, .inl ⟨k, j, hk', hj, h⟩⟩
    · obtain ⟨e1, e2⟩ := HX (hk _ (getD_mem (d := default) hi) _ (getD_mem (d := default) hk')); rw [e1] at hj; rw [e2 j hj] at h; exact ⟨i, hi, .inr (.inl ⟨k, j, hk', hj, h⟩)⟩
    · exact ⟨i, hi, .inr (.inr h)⟩
  · rintro ⟨i, hi, ⟨k, j, hk', hj, h⟩ | ⟨k, j, hk', hj, h⟩ | h⟩
    · exact ⟨i, hi, .inl (.inl ⟨k, hk', j, hj, h⟩)⟩
    · obtain ⟨e1, e2⟩ := HX (hk _ (getD_mem (d := default) hi) _ (getD_mem (d := default) hk')); exact ⟨i, hi, .inl (.inr ⟨k, hk', j, by rw [e1]; exact hj, by rw [e2 j hj]; exact h⟩)⟩
    · exact ⟨i, hi, .inr h⟩
def K4:List Ai->Int->Int
 | [],_=>0
 | t::r,v=>bif t.V==v then t.Scale else K4 r v
def Ec:Int->List Ai->Bool
 | _,[]=>true
 | lo,t::r=>(decide (lo<t.V)&&decide (t.V<=1023)&&!(t.Scale==0))&&Ec t.V r
def L3(g:Int->Int):Nat->Nat->List Ai
 | _,0=>[]
 | a,n+1=>bif g (a:Int)==0 then L3 g (a+1) n else⟨(a:Int),g (a:Int)⟩::L3 g (a+1) n
def dk(g:Int->Int):List Ai:=L3 g 1 1023
theorem Qs{g h:Int->Int}:∀{n a:Nat},(∀ v:Int,(a:Int)<=v->g v=h v)->L3 g a n=L3 h a n
 | 0,_,_=>rfl
 | n+1,a,e=>by
  unfold L3;rw[e a (Int.le_refl _),Qs (n:=n) (a:=a+1) λv hv=>e v (by omega)]
theorem Wc:∀{l:List Ai} {lo v:Int},Ec lo l=true->v<=lo->K4 l v=0
 | [],_,_,_,_=>rfl
 | t::r,lo,v,h,hv=>by
  simp only[Ec,A4,Du]at h;unfold K4;rw[show(t.V==v)=false from zzL23.2 (by omega),A0];exact Wc h.2 (by omega)
theorem Sx:∀(n a:Nat) {l:List Ai},a+n=1024->Ec ((a:Int)-1) l=true->L3 (K4 l) a n=l
 | 0,a,[],_,_=>rfl
 | 0,a,t::r,h,hm=>by
  simp only[Ec,A4,Du]at hm;omega
 | n+1,a,[],h,_=>by
  unfold L3;rw[show(K4 [] (a:Int)==0)=true from rfl,Ae];exact Sx n (a+1) (by omega) rfl
 | n+1,a,t::r,h,hm=>by
  have hm':=hm;simp only[Ec,A4,Du,On,zzL23]at hm;obtain⟨⟨⟨h1,h2⟩,h3⟩,h4⟩:=hm;unfold L3
  by_cases e:t.V=a
  ·have e1:K4 (t::r) (a:Int)=t.Scale:=by unfold K4;rw[e];simp
   rw[e1,show(t.Scale==0)=false from zzL23.2 h3,A0];rw[e]at h4
   have e2:L3 (K4 (t::r)) (a+1) n=L3 (K4 r) (a+1) n:=Qs λv hv=>by
    unfold K4;rw[show(t.V==v)=false from zzL23.2 (by omega),A0]
    cases r<;>rfl
   rw[e2,Sx n (a+1) (by omega) (by rw[show(((a+1:Nat):Int)-1)=a by omega];exact h4),<- e]
  ·have e1:K4 (t::r) (a:Int)=0:=by
    unfold K4;rw[show(t.V==(a:Int))=false from zzL23.2 e,A0];exact Wc h4 (by omega)
   rw[e1];simp only[BEq.rfl,Ae];refine Sx n (a+1) (by omega) ?_;simp only[Ec,A4,Du,On,zzL23];exact⟨⟨⟨by omega,h2⟩,h3⟩,h4⟩
theorem LU{l:List Ai}(h:Ec 0 l=true):dk (K4 l)=l:=Sx 1023 1 rfl h
theorem KP{g:Int->Int}:∀(n a:Nat) (lo:Int),lo<a->a+n<=1024->Ec lo (L3 g a n)=true
 | 0,_,_,_,_=>rfl
 | n+1,a,lo,h,h2=>by
  unfold L3
  cases e:g (a:Int)==0 with
  | true=>exact KP n (a+1) lo (by omega) (by omega)
  | false=>
   simp only[A0,Ec,A4,Du,e,L7,Bd];exact⟨⟨h,by omega⟩,KP n (a+1) a (by omega) (by omega)⟩
theorem eK(g:Int->Int):Ec 0 (dk g)=true:=KP 1023 1 0 (by omega) (by omega)
theorem UY{g:Int->Int}:∀(n a:Nat),(L3 g a n).length<=n
 | 0,_=>zzL8 _
 | n+1,a=>by
  have:=UY (g:=g) n (a+1);unfold L3
  cases g (a:Int)==0<;>simp<;>omega
theorem fN{l:List Ai}(h:Ec 0 l=true):l.length<=1023:=by rw[<- LU h];exact UY _ _
theorem WC{g h:Int->Int}(e:∀ v:Int,1<=v->v<1024->g v=h v):dk g=dk h:=by
 have:∀ n a:Nat,1<=a->a+n<=1024->L3 g a n=L3 h a n:=by
  intro n
  induction n with
  | zero=>intros;rfl
  | succ n ih=>
   intro a h1 h2;unfold L3;rw[e a (by omega) (by omega),ih (a+1) (by omega) (by omega)]
 exact this 1023 1 (zzL8 _) (zzL8 _)
theorem GF{x:An}(hl:x.Terms.length<9223372036854775808):Es x=some (Ec 0 x.Terms):=by
 have key:∀(k i:Nat) (lo:Int),i+k=x.Terms.length->Aj (Hr x) (lo,(i:Int))=some (bif Ec lo (x.Terms.drop i) then .inl () else .inr false):=by
  intro k
  induction k with
  | zero=>
   intro i lo h
   obtain rfl:i=x.Terms.length:=by omega
   rw[List.drop_length];exact Ah (by unfold Hr;simp only[Kh,A0];rfl)
  | succ k ih=>
   intro i lo h
   have hi:i<x.Terms.length:=by omega
   have hd:x.Terms.drop i=x.Terms.getD i default::x.Terms.drop (i+1):=by rw[Ml hi,Aa _ _ _ hi]
   rw[hd]
   have hs:Hr x (lo,(i:Int))=some (bif decide (lo<(x.Terms.getD i default).V)&&decide ((x.Terms.getD i default).V<=1023)&&!((x.Terms.getD i default).Scale==0) then .next ((x.Terms.getD i default).V,((i+1:Nat):Int)) else .done (.inr false)):=by
    unfold Hr;simp only[F1 hi,Ae,A5];rw[Ad (H6 hi),Dc hi hl]
    generalize x.Terms.getD i default=t
    have a1:decide (t.V<=lo) = !decide (lo<t.V):=by by_cases h:lo<t.V<;>simp[h]<;>omega
    have a2:decide ((1023:Int)<t.V) = !decide (t.V<=1023):=by by_cases h:t.V<=1023<;>simp[h]<;>omega
    rw[a1,a2]
    cases decide (lo<t.V)<;>cases decide (t.V<=1023)<;>cases(t.Scale==0)<;>rfl
   cases hb:(decide (lo<(x.Terms.getD i default).V)&&decide ((x.Terms.getD i default).V<=1023)&&!((x.Terms.getD i default).Scale==0)) with
   | true=>
    rw[hb,Ae]at hs;rw[Ao hs,ih (i+1) _ (by omega)];simp only[Ec,hb,Gz]
   | false=>
    rw[hb,A0]at hs;rw[Ah hs];simp only[Ec,hb,Ta,A0]
 unfold Es;have:=key x.Terms.length 0 0 (by omega);rw[show(((0:Nat):Int))=0 from rfl,K1]at this;rw[this]
 cases Ec 0 x.Terms<;>rfl
def bb(l:List Ai):Int:=match l with|[]=>1024|t::_=>t.V
def jn(l:List Ai)(v:Int):Int×List Ai:=match l with|[]=>(0,[])|t::r=>bif t.V==v then(t.Scale,r) else(0,t::r)
theorem JO(l:List Ai):Cp l=some (bb l):=by
 cases l with
 | nil=>rfl
 | cons t r=>
  unfold Cp;rw[show((((t::r).length:Int))==0)=false from zzL23.2 (by simp;omega),A0,Ad ⟨by omega,by simp⟩]
  rfl
theorem TZ(l:List Ai){v:Int}(hv:v<1024):C4 l v=some (jn l v):=by
 unfold C4;rw[JO,Ay]
 cases l with
 | nil=>rw[show(bb []!=v)=true from zzL90.2 (by simp[bb];omega)];rfl
 | cons t r=>
  show(bif t.V !=v then _ else _)=some (bif t.V==v then _ else _)
  by_cases e:t.V=v
  ·rw[show(t.V !=v)=false by simp[e],show(t.V==v)=true by simp[e],A0,Ae,Ad ⟨by omega,by simp⟩,Ad ⟨by omega,by simp only[Oo];omega⟩]
   rfl
  ·rw[show(t.V !=v)=true by simp[e],show(t.V==v)=false by simp[e]]
   rfl
theorem iF{l:List Ai}{a:Int}(h:Ec (a-1) l=true):(jn l a).1=K4 l a/\Ec a (jn l a).2=true/\∀ v,a<v->K4 (jn l a).2 v=K4 l v:=by
 cases l with
 | nil=>exact⟨rfl,rfl,λ_ _=>rfl⟩
 | cons t r=>
  have h':=h;simp only[Ec,A4,Du]at h
  show(bif t.V==a then(t.Scale,r) else(0,t::r)).1=_/\Ec a (bif t.V==a then(t.Scale,r) else(0,t::r)).2=true/\∀ v,a<v->K4 (bif t.V==a then(t.Scale,r) else(0,t::r)).2 v=_
  by_cases e:t.V=a
  ·rw[show(t.V==a)=true by simp[e]];refine⟨by simp[K4,e],by rw[<- e];exact h.2,λv hv=>?_⟩;simp only[K4,show(t.V==v)=false from zzL23.2 (by omega),show(t.V==a)=true by simp[e],Ae,A0]
  ·rw[show(t.V==a)=false by simp[e]];refine⟨?_,?_,λv hv=>rfl⟩
   ·simp only[A0,K4,show(t.V==a)=false by simp[e]];exact(Wc h.2 (by omega)).symm
   ·simp only[A0,Ec,A4,Du];exact⟨⟨⟨by omega,h.1.1.2⟩,h.1.2⟩,h.2⟩
theorem g5{l:List Ai}{a:Int}(h:Ec (a-1) l=true)(ha:a<=1024):a<=bb l:=by
 cases l with
 | nil=>exact ha
 | cons t r=>
  simp only[Ec,A4,Du]at h
  show a<=t.V
  omega
theorem bv{l:List Ai}{a:Int}(h:Ec (a-1) l=true)(hn:bb l≠a):Ec a l=true:=by
 cases l with
 | nil=>rfl
 | cons t r=>
  simp only[Ec,A4,Du]at h ⊢;have:t.V≠a:=hn;exact⟨⟨⟨by omega,h.1.1.2⟩,h.1.2⟩,h.2⟩
def jS{S X:Type}(g:Int->Int->Int)(mk:List Ai->List Ai->List Ai->S)(out:List Ai->X)(xs ys acc:List Ai):Option (LR S X):=
 bif bif decide ((0:Int)<(xs.length:Int)) then true else decide ((0:Int)<(ys.length:Int)) then
  (Cp xs).bind λp=>(Cp ys).bind λq=>(C4 xs (if q<p then q else p)).bind λu=>(C4 ys (if q<p then q else p)).bind λw=>
   bif g u.1 w.1 !=0 then Cs (acc.length+1<=room) (some (.next (mk u.2 w.2 (acc++[⟨if q<p then q else p,g u.1 w.1⟩])))) else some (.next (mk u.2 w.2 acc))
 else some (.done (out acc))
theorem Vm{S X:Type}(g:Int->Int->Int)(mk:List Ai->List Ai->List Ai->S)(out:List Ai->X)(f:S->Option (LR S X))(hf:∀ xs ys acc,f (mk xs ys acc)=jS g mk out xs ys acc)(h0:g 0 0=0) :
  ∀(n a:Nat) (xs ys acc:List Ai),a+n=1024->Ec ((a:Int)-1) xs=true->Ec ((a:Int)-1) ys=true->acc.length+n<=2000->
   Aj f (mk xs ys acc)=some (out (acc++L3 (λv=>g (K4 xs v) (K4 ys v)) a n)):=by
 intro n
 induction n with
 | zero=>
  intro a xs ys acc h hx hy _
  have e:∀{l:List Ai},Ec ((a:Int)-1) l=true->l=[]:=λ{l} hl=>by
   have:=Sx 0 a h hl;exact this.symm
  rw[e hx,e hy];refine Ah ?_;rw[hf];simp[jS,L3]
 | succ n ih=>
  intro a xs ys acc h hx hy hl;have hpa:=g5 hx (by omega);have hqa:=g5 hy (by omega)
  by_cases hh:bb xs=a\/bb ys=a
  ·have hv:(if bb ys<bb xs then bb ys else bb xs)=(a:Int):=by split<;>omega
   have hne:(bif decide ((0:Int)<(xs.length:Int)) then true else decide ((0:Int)<(ys.length:Int)))=true:=by
    rcases hh with e|e
    ·cases xs with
     | nil=>exact absurd e (by show ¬ ((1024:Int)=a);omega)
     | cons=>simp
    ·cases ys with
     | nil=>exact absurd e (by show ¬ ((1024:Int)=a);omega)
     | cons=>simp
   obtain⟨p1,p2,p3⟩:=iF hx;obtain⟨q1,q2,q3⟩:=iF hy
   have hs:f (mk xs ys acc)=some (.next (mk (jn xs a).2 (jn ys a).2 (acc++(bif g (K4 xs a) (K4 ys a)==0 then[] else[⟨(a:Int),g (K4 xs a) (K4 ys a)⟩])))):=by
    rw[hf];unfold jS;rw[hne,Ae,JO,JO];simp only[Ay,hv];rw[TZ _ (by omega),TZ _ (by omega)];simp only[Ay,p1,q1]
    cases hz:g (K4 xs a) (K4 ys a)==0 with
    | true=>rw[show(g (K4 xs a) (K4 ys a)!=0)=false by simp[bne,hz]];simp
    | false=>
     rw[show(g (K4 xs a) (K4 ys a)!=0)=true by simp[bne,hz],Ae,Ad (by unfold room;omega)]
     rfl
   rw[Ao hs];rw[ih (a+1) _ _ _ (by omega) (by rw[show(((a+1:Nat):Int)-1)=a by omega];exact p2) (by rw[show(((a+1:Nat):Int)-1)=a by omega];exact q2) (by cases g (K4 xs a) (K4 ys a)==0<;>simp<;>omega)];rw[Qs (n:=n) (a:=a+1) (h:=λv=>g (K4 xs v) (K4 ys v)) λv hv=>by rw[p3 v (by omega),q3 v (by omega)]]
   congr 2
   rw[Zy]
   congr 1
   conv=>rhs;unfold L3
   cases g (K4 xs a) (K4 ys a)==0<;>rfl
  ·have hx':=bv hx (by omega);have hy':=bv hy (by omega);rw[ih (a+1) xs ys acc (by omega) (by rw[show(((a+1:Nat):Int)-1)=a by omega];exact hx') (by rw[show(((a+1:Nat):Int)-1)=a by omega];exact hy') (by omega)]
   congr 3
   conv=>rhs;unfold L3
   rw[Wc hx' (Int.le_refl _),Wc hy' (Int.le_refl _),h0]
   rfl
def Jw(g:Int->Int->Int)(x y:An):An:=bif Ec 0 x.Terms&&Ec 0 y.Terms then⟨dk λv=>g (K4 x.Terms v) (K4 y.Terms v),g x.Off y.Off⟩ else⟨[],0⟩
def noF17:An:=⟨[],0⟩
def QT(a b:Int):Int:=Ez (a+b)
def f8(a b:Int):Int:=Ez (a-b)
def Sj(n a _b:Int):Int:=Ez (a*n)
theorem im{x y:An}(hx:x.Terms.length<9223372036854775808)(hy:y.Terms.length<9223372036854775808):Jh x y=some (Jw QT x y):=by
 unfold Jh Mb Jw;rw[GF hx,GF hy]
 cases h1:Ec 0 x.Terms with
 | false=>rfl
 | true=>
  cases h2:Ec 0 y.Terms with
  | false=>rfl
  | true=>
   simp only[Fi,BEq.rfl,Ae,A0,Ay,Tb,Jm];rw[Vm QT (λa b c=>(a,b,c)) id Nc (λxs ys acc=>rfl) rfl 1023 1 x.Terms y.Terms [] rfl h1 h2 (by simp)]
   rfl
theorem eU{x y:An}(hx:x.Terms.length<9223372036854775808)(hy:y.Terms.length<9223372036854775808):Ic x y=some (Jw f8 x y):=by
 unfold Ic Ju Jw;rw[GF hx,GF hy]
 cases h1:Ec 0 x.Terms with
 | false=>rfl
 | true=>
  cases h2:Ec 0 y.Terms with
  | false=>rfl
  | true=>
   simp only[Fi,BEq.rfl,Ae,A0,Ay,Tb,Iw];rw[Vm f8 (λa b c=>(a,b,c)) id K7 (λxs ys acc=>rfl) rfl 1023 1 x.Terms y.Terms [] rfl h1 h2 (by simp)]
   rfl
theorem Wb{x:An}{n:Int}(hx:x.Terms.length<9223372036854775808):Dp x n=some (Jw (Sj n) x noF17):=by
 unfold Dp Jv Jw;rw[GF hx,GF (x:=⟨[],0⟩) (by simp)]
 cases h1:Ec 0 x.Terms with
 | false=>rfl
 | true=>
  simp only[Fi,BEq.rfl,Ae,A0,Ay,Tb,Ix,Ec,noF17];rw[Vm (Sj n) (λa b c=>(a,b,c,n)) (λl=>(l,n)) K8 (λxs ys acc=>rfl) (by show Ez (0*n)=0;rw[Int.zero_mul];rfl) 1023 1 x.Terms [] [] rfl h1 rfl (by simp)]
  rfl
theorem io{x y:An}(hx:x.Terms.length<9223372036854775808):D0 x y=some (decide (x=y)):=by
 have hT:Cx x.Terms y.Terms=some (decide (x.Terms=y.Terms)):=by
  unfold Cx
  by_cases hl:x.Terms.length=y.Terms.length
  ·rw[show(((x.Terms.length:Int))!=(y.Terms.length:Int))=false by simp[hl],A0];have:=UM x.Terms y.Terms default (Bo x.Terms y.Terms) (.inl ()) (.inr false) hl
    (λi hi he=>by
     unfold Bo;simp only[F1 hi,Ae,A5];rw[Ad (H6 hi),Ad (H6 (by omega)),eq_of_beq he,Dc hi hx]
     simp)
    (λi hi he=>by
     unfold Bo;simp only[F1 hi,Ae,A5];rw[Ad (H6 hi),Ad (H6 (by omega))]
     have:((x.Terms.getD i default).V==(y.Terms.getD i default).V&&((x.Terms.getD i default).Scale==(y.Terms.getD i default).Scale&&true))=false:=by
      rw[<- he]
      generalize x.Terms.getD i default=s
      generalize y.Terms.getD i default=t
      rw[Mn]
      cases s;cases t
      simp
     rw[this]
     rfl)
    (by unfold Bo;simp only[Kh,A0]) x.Terms.length 0 (by omega)
   rw[show(((0:Nat):Int))=0 from rfl,K1,K1]at this;rw[this]
   by_cases e:x.Terms=y.Terms
   ·simp[e]
   ·rw[Fh e,zzL23.2 e];rfl
  ·rw[show(((x.Terms.length:Int))!=(y.Terms.length:Int))=true by simp;omega,Ae];rw[Fh (λe=>hl (by rw[e]))]
 unfold D0;rw[hT]
 by_cases ho:x.Off=y.Off
 ·rw[ho];simp only[BEq.rfl,Ae,Ay]
  congr 1
  cases x;cases y
  simp_all
 ·rw[show(x.Off==y.Off)=false by simp[ho]];have:¬ x=y:=λe=>ho (by rw[e]);simp[this]
theorem kZ{x:An}(hl:x.Terms.length<9223372036854775808):G2 x=some (Ec 0 x.Terms):=by
 have key:∀(k i:Nat) (lo:Int),i+k=x.Terms.length->(i=0/\lo=0\/0<i/\lo=(x.Terms.getD (i-1) default).V/\1<=lo)->Aj (D9 x) (i:Int)=some (bif Ec lo (x.Terms.drop i) then .inl () else .inr false):=by
  intro k
  induction k with
  | zero=>
   intro i lo h _
   obtain rfl:i=x.Terms.length:=by omega
   rw[List.drop_length];exact Ah (by unfold D9;simp only[Kh,A0];rfl)
  | succ k ih=>
   intro i lo h hlo
   have hi:i<x.Terms.length:=by omega
   have hd:x.Terms.drop i=x.Terms.getD i default::x.Terms.drop (i+1):=by rw[Ml hi,Aa _ _ _ hi]
   rw[hd]
   have hs:D9 x (i:Int)=some (bif decide (lo<(x.Terms.getD i default).V)&&decide ((x.Terms.getD i default).V<=1023)&&!((x.Terms.getD i default).Scale==0) then .next (((i+1:Nat):Int)) else .done (.inr false)):=by
    unfold D9;simp only[F1 hi,Ae,A5];rw[Ad (H6 hi),Ad (λ_=>H6 hi),Ad (λ_=>H6 hi),Ad (λ_=>H6 hi),Dc hi hl]
    have hp:0<i->Bh ((i:Int)-1)=((i-1:Nat):Int):=λh0=>by rw[Hp (by omega) (by omega)];omega
    rw[Ad (λh0=>by
     simp only[A4,zzL72,Du]at h0
     have:0<i:=by omega
     rw[hp this];exact H6 (by omega))]
    rcases hlo with⟨rfl,rfl⟩|⟨h0,h1,h2⟩
    ·generalize x.Terms.getD 0 default=t
     have a1:decide (t.V<(1:Int)) = !decide ((0:Int)<t.V):=by by_cases h:(0:Int)<t.V<;>simp[h]<;>omega
     have a2:decide ((1023:Int)<t.V) = !decide (t.V<=1023):=by by_cases h:t.V<=1023<;>simp[h]<;>omega
     rw[a1,a2,show decide ((0:Int)<((0:Nat):Int))=false from rfl]
     cases decide ((0:Int)<t.V)<;>cases decide (t.V<=1023)<;>cases(t.Scale==0)<;>rfl
    ·rw[hp h0,A5,<- h1,Ey (show(0:Int)<(i:Int) by omega)]
     generalize x.Terms.getD i default=t
     have a1:decide (t.V<=lo) = !decide (lo<t.V):=by by_cases h:lo<t.V<;>simp[h]<;>omega
     have a2:decide ((1023:Int)<t.V) = !decide (t.V<=1023):=by by_cases h:t.V<=1023<;>simp[h]<;>omega
     rw[a1,a2]
     by_cases h:lo<t.V
     ·rw[Ey h,Fh (show ¬ t.V<1 by omega)]
      cases decide (t.V<=1023)<;>cases(t.Scale==0)<;>rfl
     ·rw[Fh h]
      cases decide (t.V<1)<;>cases decide (t.V<=1023)<;>cases(t.Scale==0)<;>rfl
   cases hb:(decide (lo<(x.Terms.getD i default).V)&&decide ((x.Terms.getD i default).V<=1023)&&!((x.Terms.getD i default).Scale==0)) with
   | true=>
    rw[hb,Ae]at hs
    have h1:lo<(x.Terms.getD i default).V:=by simp only[A4,Du]at hb;exact hb.1.1
    rw[Ao hs,ih (i+1) (x.Terms.getD i default).V (by omega) (.inr ⟨by omega,by simp,by rcases hlo with⟨_,rfl⟩|⟨_,_,h⟩<;>omega⟩)];simp only[Ec,hb,Gz]
   | false=>
    rw[hb,A0]at hs;rw[Ah hs];simp only[Ec,hb,Ta,A0]
 unfold G2;have:=key x.Terms.length 0 0 (by omega) (.inl ⟨rfl,rfl⟩);rw[show(((0:Nat):Int))=0 from rfl,K1]at this;rw[this]
 cases Ec 0 x.Terms<;>rfl
theorem UN{g:Int->Int->Int}{x y:An}(hx:Ec 0 x.Terms=true)(hy:Ec 0 y.Terms=true):Jw g x y=⟨dk λv=>g (K4 x.Terms v) (K4 y.Terms v),g x.Off y.Off⟩:=by
 unfold Jw;rw[hx,hy];rfl
theorem NM(g:Int->Int->Int)(x y:An):Ec 0 (Jw g x y).Terms=true:=by
 unfold Jw
 cases Ec 0 x.Terms&&Ec 0 y.Terms with
 | false=>rfl
 | true=>rw[Ae];exact eK (λv=>g (K4 x.Terms v) (K4 y.Terms v))
theorem Si{V:Type}(k v:Int)(x:V):∀ l:List (Int×V),B0 (Ek l k x) v=(v==k || B0 l v)
 | []=>by simp[Ek,B0]
 | (a,b)::r=>by
  unfold Ek
  by_cases e:k=a
  ·subst e;simp only[BEq.rfl,Ae,B0]
   cases(v==k)<;>simp
  ·rw[show(k==a)=false by simp[e],A0];simp only[B0,Si k v x r]
   cases(v==a)<;>cases(v==k)<;>simp
theorem Ws{V:Type}(d:V)(k v:Int)(x:V):∀ l:List (Int×V),mget d (Ek l k x) v=bif v==k then x else mget d l v
 | []=>by simp only[Ek,mget]
 | (a,b)::r=>by
  unfold Ek
  by_cases e:k=a
  ·subst e;simp only[BEq.rfl,Ae,mget]
   cases(v==k)<;>rfl
  ·rw[show(k==a)=false by simp[e],A0];simp only[mget,Ws d k v x r]
   by_cases h:v=a
   ·subst h;rw[show(v==k)=false from zzL23.2 (Hd e)]
    simp
   ·rw[show(v==a)=false by simp[h]];rfl
def Uk(v:Int):An:=⟨[⟨v,1⟩],0⟩
def YW(k:Int)(a b:An):Option An:=
 bif k==1 then some (Jw QT a b) else bif k==2 then some (Jw f8 a b)
 else bif (k==3)&&((b.Terms.length:Int)==0) then some (Jw (Sj b.Off) a noF17) else bif (k==3)&&((a.Terms.length:Int)==0) then some (Jw (Sj a.Off) b noF17)
 else bif ((k==8)&&((b.Terms.length:Int)==0))&&decide (b.Off<64) then some (Jw (Sj (FW .u64 1 b.Off)) a noF17) else none
def RO(k:Int):Bool:=k==0 || (k==1 || (k==2 || (k==3 || k==8)))
def WX(v:Int):Option An->An
 | some y=>bif decide ((16:Int)<(y.Terms.length:Int)) then Uk v else y
 | none=>Uk v
def L9(D:Int->Option Bv):Nat->Int->An
 | 0,v=>Uk v
 | n+1,v=>match D v with
  | none=>Uk v
  | some o=>bif o.Kind==0 then⟨[],o.Imm⟩ else WX v (YW o.Kind (L9 D n (o.Args.getD 0 0)) (L9 D n (o.Args.getD 1 0)))
structure dq(D:Int->Option Bv)(G:Int->Prop)(rk:Int->Nat):Prop where
 rng:∀ v,G v->1<=v/\v<=1023
 kind:∀ v o,G v->D v=some o->RO o.Kind=true
 args:∀ v o,G v->D v=some o->o.Kind≠0->o.Args.length=2/\(G (o.Args.getD 0 0)/\rk (o.Args.getD 0 0)<rk v)/\G (o.Args.getD 1 0)/\rk (o.Args.getD 1 0)<rk v
 imm:∀ v o,G v->D v=some o->0<=o.Imm
section
variable {D:Int->Option Bv} {G:Int->Prop} {rk:Int->Nat} (W:dq D G rk)
include W
theorem Ts:∀(n:Nat) (v:Int) (m:Nat),G v->rk v<n->rk v<m->L9 D n v=L9 D m v
 | 0,_,_,_,h,_=>absurd h (Mo _)
 | _,_,0,_,_,h=>absurd h (Mo _)
 | n+1,v,m+1,hg,h1,h2=>by
  unfold L9
  cases hd:D v with
  | none=>rfl
  | some o=>
   by_cases h0:o.Kind=0
   ·simp[h0]
   ·obtain⟨_,⟨g0,r0⟩,g1,r1⟩:=W.args v o hg hd h0;simp only;rw[Ts n _ m g0 (by omega) (by omega),Ts n _ m g1 (by omega) (by omega)]
omit W in
theorem Yu(n:Int):0<=Ez n:=by rw[PF];omega
omit W in
theorem g9{k:Int}{a b y:An}(h:YW k a b=some y):Ec 0 y.Terms=true/\0<=y.Off:=by
 have key:∀(g:Int->Int->Int) (a b:An),(∀ x y,0<=g x y)->Ec 0 (Jw g a b).Terms=true/\0<=(Jw g a b).Off:=λg a b hg=>by
  refine⟨NM g a b,?_⟩;unfold Jw
  cases Ec 0 a.Terms&&Ec 0 b.Terms with
  | false=>exact Int.le_refl _
  | true=>exact hg _ _
 have e1:∀ x y,0<=QT x y:=λx y=>Yu _;have e2:∀ x y,0<=f8 x y:=λx y=>Yu _;have e3:∀ n x y,0<=Sj n x y:=λn x y=>Yu _;unfold YW at h
 cases c1:k==1 with
 | true=>rw[c1]at h;cases h;exact key _ _ _ e1
 | false=>
  rw[c1,A0]at h
  cases c2:k==2 with
  | true=>rw[c2]at h;cases h;exact key _ _ _ e2
  | false=>
   rw[c2,A0]at h
   cases c3:(k==3)&&((b.Terms.length:Int)==0) with
   | true=>rw[c3]at h;cases h;exact key _ _ _ (e3 _)
   | false=>
    rw[c3,A0]at h
    cases c4:(k==3)&&((a.Terms.length:Int)==0) with
    | true=>rw[c4]at h;cases h;exact key _ _ _ (e3 _)
    | false=>
     rw[c4,A0]at h
     cases c5:((k==8)&&((b.Terms.length:Int)==0))&&decide (b.Off<64) with
     | true=>rw[c5]at h;cases h;exact key _ _ _ (e3 _)
     | false=>rw[c5]at h;cases h
omit W in
theorem jN{v:Int}(h1:1<=v)(h2:v<=1023):Ec 0 (Uk v).Terms=true/\0<=(Uk v).Off/\(Uk v).Terms.length<=16:=by
 refine⟨?_,Int.le_refl _,by simp[Uk]⟩;simp only[Uk,Ec,Y2,A4,Du];exact⟨⟨by omega,h2⟩,rfl⟩
theorem gu:∀(n:Nat) (v:Int),G v->Ec 0 (L9 D n v).Terms=true/\0<=(L9 D n v).Off/\(L9 D n v).Terms.length<=16:=λn v hg=>by
 have ho:=jN (W.rng v hg).1 (W.rng v hg).2
 cases n with
 | zero=>exact ho
 | succ n=>
  unfold L9
  cases hd:D v with
  | none=>exact ho
  | some o=>
   simp only
   cases h0:o.Kind==0 with
   | true=>exact⟨rfl,W.imm v o hg hd,by simp⟩
   | false=>
    rw[A0]
    cases hm:YW o.Kind (L9 D n (o.Args.getD 0 0)) (L9 D n (o.Args.getD 1 0)) with
    | none=>exact ho
    | some y=>
     unfold WX;simp only
     by_cases hl:(16:Int)<(y.Terms.length:Int)
     ·rw[Ey hl];exact ho
     ·rw[Fh hl];exact⟨(g9 hm).1,(g9 hm).2,by simp only[A0];omega⟩
end
theorem ig{k:Int}{a b:An}(ha:a.Terms.length<9223372036854775808)(hb:b.Terms.length<9223372036854775808)(h0:0<=b.Off) :
  Ji k a b=some (match YW k a b with|some y=>(y,true)|none=>(⟨[],0⟩,false)):=by
 unfold Ji YW Gg;rw[im ha hb,eU ha hb,Wb ha,Wb hb,Wb ha,Ad h0]
 by_cases k1:k=1
 ·subst k1;rfl
 ·by_cases k2:k=2
  ·subst k2;rfl
  ·rw[show(k==1)=false by simp[k1],show(k==2)=false by simp[k2]];simp only[A0]
   by_cases k3:k=3
   ·subst k3
    cases((b.Terms.length:Int)==0)<;>cases((a.Terms.length:Int)==0)<;>rfl
   ·rw[show(k==3)=false by simp[k3]]
    by_cases k8:k=8
    ·subst k8
     cases((b.Terms.length:Int)==0)<;>cases decide (b.Off<(64:Int))<;>rfl
    ·rw[show(k==8)=false by simp[k8]];rfl
def QN(M:List (Int×Bv))(D:Int->Option Bv)(G:Int->Prop):Prop:=∀ v,G v->B0 M v=(D v).isSome/\∀ o,D v=some o->mget default M v=o
section
variable {D:Int->Option Bv} {G:Int->Prop} {rk:Int->Nat} (W:dq D G rk)
include W
theorem XS{M:List (Int×Bv)}(hM:QN M D G):∀(r:Nat) (v:Int) (fd:List (Int×An)),G v->rk v<r->(∀ x,G x->B0 fd x=true->mget default fd x=L9 D (rk x+1) x)->
  ∃ fd',(∀ n,2*r<=n->Bg n v M fd=some (L9 D (rk v+1) v,fd'))/\∀ x,G x->B0 fd' x=true->mget default fd' x=L9 D (rk x+1) x:=by
 intro r
 induction r with
 | zero=>intro v fd _ h;exact absurd h (Mo _)
 | succ r ih=>
  intro v fd hg hr hfd;have step:∀ fd':List (Int×An),(∀ n,2*r<=n->Bt (Bg (n+1)) (B1 (n+1)) v M fd=some (L9 D (rk v+1) v,fd'))->
    ∀ n,2*(r+1)<=n->Bg n v M fd=some (L9 D (rk v+1) v,fd'):=λfd' h n hn=>by
   obtain⟨n,rfl⟩:∃ m,n=m+2:=⟨n-2,by omega⟩;exact h n (by omega)
  have fin:∀(s:Option (An×Bool×List (Int×An))) (y:An) (b:Bool) (fd':List (Int×An)),s=some (y,b,fd')->(bif (bif (!b) then true else decide ((16:Int)<(y.Terms.length:Int))) then Uk v else y)=L9 D (rk v+1) v->
    (s.bind λx1=>(Option.bind (α:=(List (Ai)×Int)) (bif (bif (!x1.2.1) then true else(decide (((16:Int):Int)<(x1.1.Terms.length:Int)))) then(some ((([(⟨v,(1:Int)⟩:Ai)]:List (Ai)),(0:Int)))) else(some ((x1.1.Terms,x1.1.Off)))) (λx4=>(match x4 with|(l2,i3)=>(some ((⟨l2,i3⟩:An),(Ek x1.2.2 v (⟨l2,i3⟩:An))))))))
    = some (L9 D (rk v+1) v,Ek fd' v (L9 D (rk v+1) v)):=λs y b fd' hs hy=>by
   rw[hs,Ay,<- hy]
   cases b with
   | false=>rfl
   | true=>
    simp only[Fi,A0]
    cases decide ((16:Int)<(y.Terms.length:Int))<;>rfl
  have put:∀(fd':List (Int×An)),(∀ x,G x->B0 fd' x=true->mget default fd' x=L9 D (rk x+1) x)->∀ x,G x->B0 (Ek fd' v (L9 D (rk v+1) v)) x=true->mget default (Ek fd' v (L9 D (rk v+1) v)) x=L9 D (rk x+1) x:=λfd' h x hx hh=>by
   rw[Ws]
   by_cases e:x=v
   ·subst e;simp
   ·rw[Si,show(x==v)=false by simp[e],ET]at hh;rw[show(x==v)=false by simp[e],A0];exact h x hx hh
  cases hh:B0 fd v with
  | true=>exact⟨fd,step fd (λn hn=>by unfold Bt;rw[hh,Ae,hfd v hg hh]),hfd⟩
  | false=>
   obtain⟨hM1,hM2⟩:=hM v hg
   have hF:L9 D (rk v+1) v=match D v with
    | none=>Uk v
    | some o=>bif o.Kind==0 then⟨[],o.Imm⟩ else WX v (YW o.Kind (L9 D (rk v) (o.Args.getD 0 0)) (L9 D (rk v) (o.Args.getD 1 0))):=rfl
   have hsum:∀ n,B1 (n+1) v M fd=Cf (Bg n) (B1 n) v M fd:=λn=>rfl
   cases hd:D v with
   | none=>
    rw[hd]at hM1 hF;refine⟨_,step _ λn hn=>?_,put fd hfd⟩;unfold Bt;rw[hh,A0,hsum];refine fin _ ⟨[],0⟩ false fd ?_ (by rw[hF];rfl);unfold Cf;rw[hM1]
    rfl
   | some o=>
    rw[hd]at hM1 hF;have hg2:=hM2 o hd
    by_cases h0:o.Kind=0
    ·refine⟨_,step _ λn hn=>?_,put fd hfd⟩;unfold Bt;rw[hh,A0,hsum];refine fin _ ⟨[],o.Imm⟩ true fd ?_ (by rw[hF];dsimp only;rw[h0];rfl);unfold Cf;rw[hM1,hg2,h0]
     rfl
    ·obtain⟨hl,⟨g0,r0⟩,g1,r1⟩:=W.args v o hg hd h0;obtain⟨f1,a1,a2⟩:=ih _ fd g0 (by omega) hfd;obtain⟨f2,b1,b2⟩:=ih _ f1 g1 (by omega) a2;rw[Ts W _ _ (rk v) g0 (by omega) r0]at a1;rw[Ts W _ _ (rk v) g1 (by omega) r1]at b1;obtain⟨p1,p2,p3⟩:=gu W (rk v) _ g0;obtain⟨q1,q2,q3⟩:=gu W (rk v) _ g1;have hmade:=ig (k:=o.Kind) (a:=L9 D (rk v) (o.Args.getD 0 0)) (b:=L9 D (rk v) (o.Args.getD 1 0)) (by omega) (by omega) q2
     have hrun:∀ n,2*r<=n->Cf (Bg n) (B1 n) v M fd=(Ji o.Kind (L9 D (rk v) (o.Args.getD 0 0)) (L9 D (rk v) (o.Args.getD 1 0))).bind λx5=>some (x5.1,x5.2,f2):=λn hn=>by
      unfold Cf;rw[hM1,hg2];simp only[Option.isSome_some,Fi,A0,show(o.Kind==(0:Int))=false from zzL23.2 h0];rw[Ad ⟨by omega,by omega⟩,show((0:Int)).toNat=0 from rfl,a1 n hn,Ay,Ad ⟨by omega,by omega⟩,show((1:Int)).toNat=1 from rfl];simp only;rw[b1 n hn,Ay]
     dsimp only at hF
     rw[show(o.Kind==0)=false from zzL23.2 h0,A0]at hF
     cases hm:YW o.Kind (L9 D (rk v) (o.Args.getD 0 0)) (L9 D (rk v) (o.Args.getD 1 0)) with
     | none=>
      rw[hm]at hF hmade;refine⟨_,step _ λn hn=>?_,put f2 b2⟩;unfold Bt;rw[hh,A0,hsum,hrun n hn,hmade,Ay];exact fin _ ⟨[],0⟩ false f2 rfl (by rw[hF];rfl)
     | some y=>
      rw[hm]at hF hmade;refine⟨_,step _ λn hn=>?_,put f2 b2⟩;unfold Bt;rw[hh,A0,hsum,hrun n hn,hmade,Ay];exact fin _ y true f2 rfl (by rw[hF];rfl)
theorem SF{M:List (Int×Bv)}(hM:QN M D G){v:Int}(hg:G v):∃ fd,Gf v M []=some (L9 D (rk v+1) v,fd):=by
 obtain⟨fd,h,_⟩:=XS W hM (rk v+1) v [] hg (Nat.lt_succ_self _) (λx _ h=>by cases h);exact⟨fd,ep _ λm hm=>h m hm⟩
end
section
variable {D:Int->Option Bv} {G:Int->Prop} {rk:Int->Nat} (W:dq D G rk)
include W
end
theorem KV{t:List Int}:∀{k:Nat} {a:Int} {q:List Int},upD t k a=some q->∀{m:Nat},k<=m->upD t m a=some q
 | 0,_,_,h,_,_=>by cases h
 | k+1,a,q,h,0,hm=>absurd hm (by omega)
 | k+1,a,q,h,m+1,hm=>by
  unfold upD at h ⊢
  split at h
  ·rename_i h1
   rw[if_pos h1]
   split at h
   ·rename_i h2
    rw[if_pos h2];exact h
   ·rename_i h2
    rw[if_neg h2]
    cases hu:upD t k (t.getD a.toNat 0) with
    | none=>rw[hu]at h;cases h
    | some q'=>rw[hu]at h;rw[KV hu (by omega:k<=m)];exact h
  ·cases h
theorem cx{t:List Int}:∀{k:Nat} {b a:Int} {q:List Int},upD t k b=some q->a∈q->a≠b->∃ q',upD t k a=some q'/\q'.length<q.length
 | 0,_,_,_,h,_,_=>by cases h
 | k+1,b,a,q,h,ha,hne=>by
  have h0:=h;unfold upD at h
  split at h
  ·split at h
   ·cases h;exact absurd (zzL14.1 ha) hne
   ·cases hu:upD t k (t.getD b.toNat 0) with
    | none=>rw[hu]at h;cases h
    | some q'=>
     rw[hu]at h;cases h;rcases zzL22.1 ha with e|hin
     ·exact absurd e hne
     ·by_cases e:a=t.getD b.toNat 0
      ·exact⟨q',by rw[e];exact KV hu (by omega),by simp⟩
      ·obtain⟨q2,h1,h2⟩:=cx hu hin e;exact⟨q2,KV h1 (by omega),by simp;omega⟩
  ·cases h
theorem KO{t:List Int}{a b:Int}(h:Ni t a b=true)(hne:a≠b):(En t a).length<(En t b).length:=by
 unfold Ni at h;simp only[A4,zzL72,zzL90]at h;obtain⟨h1,h2⟩:=h;unfold L0 at h1 h2
 split at h1
 ·rename_i hr
  rw[if_pos hr]at h2
  cases hf:(En t a).find? λx=>(En t b).contains x with
  | none=>rw[hf]at h2;exact absurd rfl h2
  | some x=>
   rw[hf]at h1;obtain rfl:x=a:=h1;have hc:=List.find?_some hf
   have hin:x∈En t b:=by simpa using hc
   unfold En at hin ⊢
   cases hu:upD t t.length b with
   | none=>rw[hu]at hin;cases hin
   | some q=>
    rw[hu]at hin;obtain⟨q',g1,g2⟩:=cx hu hin hne;rw[g1];exact g2
 ·rename_i hr
  rw[if_neg hr]at h2;exact absurd rfl h2
def Gd(f:Ab)(v:Int):Prop:=∃ d∈Au f,d.V=v/\d.Shape=(64,1)
def Mw(f:Ab):List Bv:=f.Blocks.flatMap (·.Ops)
def AQ(f:Ab)(v:Int):Option Bv:=(Mw f).find? λo=>RO o.Kind&&o.Dst==v
def mM(f:Ab)(d:TDef):Nat:=if d.Block<0 then 0 else(En (Bx f) d.Block).length*((Mw f).length+5)+(d.At+2).toNat
def YX(f:Ab)(v:Int):Nat:=mM f (defOf (Au f) v)
theorem opsA_mem{f:Ab}{o:Bv}:o∈Mw f↔∃ i,i<f.Blocks.length/\∃ k,k<(bA f i).Ops.length/\o=(bA f i).Ops.getD k default:=by
 unfold Mw;rw[zzL64]
 constructor
 ·rintro⟨b,hb,ho⟩;obtain⟨i,hi,rfl⟩:=K9 hb;obtain⟨k,hk,rfl⟩:=K9 ho;have e:bA f i=f.Blocks[i]:=Aa _ _ _ hi;refine⟨i,hi,k,by rw[e];exact hk,?_⟩;rw[e,Aa _ _ _ hk]
 ·rintro⟨i,hi,k,hk,rfl⟩;exact⟨bA f i,getD_mem hi,getD_mem hk⟩
theorem cP{f:Ab}{i:Nat}(hi:i<f.Blocks.length):(bA f i).Ops.length<=(Mw f).length:=by
 unfold Mw
 have:∀(l:List Ag) (b:Ag),b∈l->b.Ops.length<=(l.flatMap (·.Ops)).length:=by
  intro l
  induction l with
  | nil=>intro b h;cases h
  | cons x l ih=>
   intro b h;rw[Te,E8];rcases zzL22.1 h with rfl|h
   ·omega
   ·have:=ih b h;omega
 exact this _ _ (getD_mem hi)
section
variable {f:Ab} (R:lM f 2)
include R
theorem cN{i k:Nat}(hi:i<f.Blocks.length)(hk:k<(bA f i).Ops.length):Hq ((bA f i).Ops.getD k default)=true:=h9 R (getD_mem hi) (getD_mem hk)
theorem op_dst{o:Bv}(ho:o∈Mw f):o.Dst=0/\RO o.Kind=false\/∃ i k:Nat,i<f.Blocks.length/\k<(bA f i).Ops.length/\o=(bA f i).Ops.getD k default/\1<=o.Dst/\o.Dst<=1023/\(⟨o.Dst,(i:Int),(k:Int),Lg o.Kind o.Bits o.Lanes⟩:TDef)∈Au f:=by
 obtain⟨i,hi,k,hk,e⟩:=opsA_mem.1 ho;have hm:=cN R hi hk;rw[<- e]at hm;obtain⟨m1,m2,m3,m4,m5,m6,m7⟩:=BH hm
 by_cases hst:o.Kind=17\/o.Kind=19
 ·left
  have:(o.Kind==17 || o.Kind==19)=true:=by simpa using hst
  unfold dstS at m7;rw[this,Ae]at m7;refine⟨by simpa using m7,?_⟩;rcases hst with h|h<;>rw[h]<;>rfl
 ·right
  have hf:(o.Kind==17 || o.Kind==19)=false:=by simpa using hst
  unfold dstS at m7;rw[hf,A0]at m7;simp only[valS,A4,Du]at m7
  have hg:Gu o=Lg o.Kind o.Bits o.Lanes:=by unfold Gu;rw[hm];rfl
  have hz:=CN (k:=o.Kind) m1;rw[hf]at hz
  have hpos:0<(Gu o).1:=by
   rw[hg];have hn:(Lg o.Kind o.Bits o.Lanes).1≠0:=zzL23.1 hz;have hb:=width_cases (S5 m1);unfold Lg at hn ⊢;rw[hf,A0]at hn ⊢
   cases(o.Kind==10 || o.Kind==11 || o.Kind==12) with
   | true=>show(0:Int)<1;omega
   | false=>cases(o.Kind==22)<;>simp<;>omega
  refine⟨i,k,hi,hk,e,m7.1,m7.2,ri_def.2 (.inr ⟨i,hi,.inr ⟨k,hk,by rw[<- e];exact hpos,?_⟩⟩)⟩;rw[<- e,hg]
theorem cO{o o':Bv}(ho:o∈Mw f)(ho':o'∈Mw f)(h1:1<=o.Dst)(h:o.Dst=o'.Dst):o=o':=by
 rcases op_dst R ho with⟨h0,_⟩|⟨i,k,hi,hk,e,_,_,hd⟩
 ·omega
 ·rcases op_dst R ho' with⟨h0,_⟩|⟨i',k',hi',hk',e',_,_,hd'⟩
  ·omega
  ·have:=ca R hd hd' h;simp only[TDef.mk.injEq]at this;obtain⟨_,h2,h3,_⟩:=this
   have e1:i=i':=by omega
   have e2:k=k':=by omega
   rw[e,e',e1,e2]
theorem cM{o:Bv}(ho:o∈Mw f)(hk:RO o.Kind=true):AQ f o.Dst=some o:=by
 unfold AQ
 cases h:(Mw f).find? λx=>RO x.Kind&&x.Dst==o.Dst with
 | none=>
  have:=List.find?_eq_none.1 h o ho;simp[hk]at this
 | some x=>
  have hp:=List.find?_some h;simp only[A4,zzL72]at hp
  have h1:1<=x.Dst:=by
   rcases op_dst R (List.mem_of_find?_eq_some h) with⟨_,h0⟩|⟨i,k,hi,hk',e,h1,_,_⟩
   ·rw[hp.1]at h0;cases h0
   ·exact h1
  rw[cO R (List.mem_of_find?_eq_some h) ho h1 hp.2]
omit R in
theorem W4{v:Int}{o:Bv}(h:AQ f v=some o):o∈Mw f/\RO o.Kind=true/\o.Dst=v:=by
 unfold AQ at h;have hp:=List.find?_some h;simp only[A4,zzL72]at hp;exact⟨List.mem_of_find?_eq_some h,hp.1,hp.2⟩
theorem iA{d:TDef}(hd:d∈Au f):YX f d.V=mM f d:=by
 unfold YX;rw[(RG (Vj (BN R).1) hd).2]
theorem iw(hI:∀ o∈Mw f,0<=o.Imm):dq (AQ f) (Gd f) (YX f):=by
 refine⟨λv ⟨d,hd,hv,_⟩=>?_,λv o _ h=>(W4 h).2.1,λv o ⟨d,hd,hv,hs⟩ h h0=>?_,λv o _ h=>hI o (W4 h).1⟩
 ·have:=jR R hd;simp only[valS,A4,Du]at this;rw[<- hv];exact this
 ·obtain⟨hm,hk,hdst⟩:=W4 h;rcases op_dst R hm with⟨_,h2⟩|⟨i,k,hi,hkk,e,h1,_,hde⟩
  ·rw[hk]at h2;cases h2
  ·have hdd:=ca R hd hde (by rw[hv,hdst]);have hmay:=cN R hi hkk;rw[<- e]at hmay;obtain⟨m1,m2,m3,m4,m5,m6,m7⟩:=BH hmay
   have hk':o.Kind=1\/o.Kind=2\/o.Kind=3\/o.Kind=8:=by
    simp only[RO,Xn,zzL72]at hk;omega
   have hgs:Lg o.Kind o.Bits o.Lanes=(o.Bits,o.Lanes):=by rcases hk' with h|h|h|h<;>rw[h]<;>rfl
   have hel:∀ j,GN o j=(o.Bits,o.Lanes):=λj=>by unfold GN;rcases hk' with h|h|h|h<;>rw[h]<;>rfl
   have hna:Mj o.Kind o.Lanes=2:=by rcases hk' with h|h|h|h<;>rw[h]<;>rfl
   rw[hdd]at hs;have hsh:(o.Bits,o.Lanes)=((64:Int),(1:Int)):=hgs.symm.trans hs
   have hlen:o.Args.length=2:=by omega
   have harg:∀ j,j<2->Gd f (o.Args.getD j 0)/\YX f (o.Args.getD j 0)<YX f v:=λj hj=>by
    have hu:(⟨o.Args.getD j 0,(i:Int),(k:Int),GN o j⟩:Mq)∈Dy f:=by
     refine(fq (λb hb o ho=>h9 R hb ho)).2 ⟨i,hi,.inr (.inl ⟨k,j,hkk,by rw[<- e];omega,by rw[<- e]⟩)⟩
    obtain⟨d',hd',hv',hs',ht⟩:=jQ R hu;have hv':d'.V=o.Args.getD j 0:=hv';refine⟨⟨d',hd',hv',by rw[hs',<- hsh];exact hel j⟩,?_⟩;rw[<- hv',iA R hd',<- hv,iA R hd,hdd];unfold mM
    have hbn:¬ ((⟨o.Dst,(i:Int),(k:Int),Lg o.Kind o.Bits o.Lanes⟩:TDef).Block<0):=by show ¬ ((i:Int)<0);omega
    rw[if_neg hbn];have ht:d'.Block<0\/(d'.Block=(i:Int)/\d'.At<(k:Int))\/(d'.Block≠(i:Int)/\Ni (Bx f) d'.Block (i:Int)=true):=ht
    show(if d'.Block<0 then 0 else _)<(En (Bx f) (i:Int)).length*_+((k:Int)+2).toNat
    split
    ·omega
    ·rename_i hb
     rcases ht with h|⟨h,ha⟩|⟨h,ho⟩
     ·exact absurd h hb
     ·rw[h]
      have:(d'.At+2).toNat<((k:Int)+2).toNat:=by omega
      omega
     ·have hsh:=KO ho h
      have hat:(d'.At+2).toNat<=(Mw f).length+2:=by
       rcases ri_def.1 hd' with⟨p,hp,rfl⟩|⟨p,hp,⟨q,hq,rfl⟩|⟨q,hq,_,rfl⟩⟩
       ·show((0:Int)+2).toNat<=_;simp
       ·show((-1:Int)+2).toNat<=_;simp
       ·show((q:Int)+2).toNat<=_
        have:=cP hp;omega
      have hmul:((En (Bx f) d'.Block).length+1)*((Mw f).length+5)<=(En (Bx f) (i:Int)).length*((Mw f).length+5):=Dm _ hsh;rw[Dz]at hmul;omega
   exact⟨hlen,harg 0 (by omega),harg 1 (by omega)⟩
theorem iq(hb:f.Blocks.length<9223372036854775808)(hl:∀ b∈f.Blocks,b.Ops.length<9223372036854775808):∃ M,Lt f=some M/\QN M (AQ f) (Gd f):=by
 let st (M:List (Int×Bv)) (o:Bv):List (Int×Bv):=bif RO o.Kind then Ek M o.Dst o else M
 have inner:∀(i:Nat),i<f.Blocks.length->∀(k j:Nat) (M:List (Int×Bv)),j+k=(bA f i).Ops.length->Aj (G5 f (i:Int)) ((j:Int),M)=some (((bA f i).Ops.drop j).foldl st M):=by
  intro i hi k;have hlen:=hl _ (getD_mem hi:bA f i∈f.Blocks)
  induction k with
  | zero=>
   intro j M h
   obtain rfl:j=(bA f i).Ops.length:=by omega
   rw[List.drop_length];refine Ah ?_;unfold G5;simp only[A5];rw[show f.Blocks.getD i default=bA f i from rfl,Kh]
   rfl
  | succ k ih=>
   intro j M h
   have hj:j<(bA f i).Ops.length:=by omega
   have hd:(bA f i).Ops.drop j=(bA f i).Ops.getD j default::(bA f i).Ops.drop (j+1):=by rw[Ml hj,Aa _ _ _ hj]
   have hs:G5 f (i:Int) ((j:Int),M)=some (.next (((j+1:Nat):Int),st M ((bA f i).Ops.getD j default))):=by
    unfold G5;simp only[A5];rw[show f.Blocks.getD i default=bA f i from rfl,F1 hj,Ae,Ad (H6 hj),Dc hj hlen]
    generalize (bA f i).Ops.getD j default=o
    simp only[st,RO]
    cases(o.Kind==0)<;>cases(o.Kind==1)<;>cases(o.Kind==2)<;>cases(o.Kind==3)<;>cases(o.Kind==8)<;>rfl
   rw[Ao hs,ih (j+1) _ (by omega),hd,List.foldl_cons]
 have outer:∀(k i:Nat) (M:List (Int×Bv)),i+k=f.Blocks.length->Aj (G6 f) ((i:Int),M)=some (((f.Blocks.drop i).flatMap (·.Ops)).foldl st M):=by
  intro k
  induction k with
  | zero=>
   intro i M h
   obtain rfl:i=f.Blocks.length:=by omega
   rw[List.drop_length];exact Ah (by unfold G6;simp only[Kh,A0];rfl)
  | succ k ih=>
   intro i M h
   have hi:i<f.Blocks.length:=by omega
   have hd:f.Blocks.drop i=bA f i::f.Blocks.drop (i+1):=by rw[Ml hi];exact B8 (·::_) (Aa _ _ _ hi).symm
   have hs:G6 f ((i:Int),M)=some (.next (((i+1:Nat):Int),(bA f i).Ops.foldl st M)):=by
    unfold G6;simp only[F1 hi,Ae];have:=inner i hi (bA f i).Ops.length 0 M (by omega);rw[show(((0:Nat):Int))=0 from rfl,K1]at this;rw[Ad (H6 hi),this,Ay,Dc hi hb]
    rfl
   rw[Ao hs,ih (i+1) _ (by omega),hd,Te,List.foldl_append]
 refine⟨(Mw f).foldl st [],?_,?_⟩
 ·unfold Lt;have:=outer f.Blocks.length 0 [] (by omega);rw[show(((0:Nat):Int))=0 from rfl,K1]at this;rw[this]
  rfl
 ·have key:∀(l done:List Bv) (M:List (Int×Bv)),(∀ o∈done++l,o∈Mw f)->(∀ o∈done,RO o.Kind=true->B0 M o.Dst=true/\mget default M o.Dst=o)->(∀ v,B0 M v=true->∃ o∈done,RO o.Kind=true/\o.Dst=v)->
    (∀ o∈done++l,RO o.Kind=true->B0 (l.foldl st M) o.Dst=true/\mget default (l.foldl st M) o.Dst=o)/\(∀ v,B0 (l.foldl st M) v=true->∃ o∈done++l,RO o.Kind=true/\o.Dst=v):=by
   intro l
   induction l with
   | nil=>intro done M _ h1 h2;rw[List.append_nil];exact⟨h1,h2⟩
   | cons x l ih=>
    intro done M hin h1 h2;have hx:x∈Mw f:=hin x (by simp)
    have:=ih (done++[x]) (st M x) (by rw[Zy];exact hin) (λo ho hk=>by
     rcases zzL11.1 ho with h|h
     ·obtain⟨g1,g2⟩:=h1 o h hk;simp only[st]
      cases hxk:RO x.Kind with
      | false=>exact⟨g1,g2⟩
      | true=>
       rw[Ae,Si,Ws,g1,g2]
       by_cases e:o.Dst=x.Dst
       ·have h1o:1<=o.Dst:=by
         rcases op_dst R (hin o (by simp[h])) with⟨_,h0⟩|⟨_,_,_,_,_,h1,_⟩
         ·rw[hk]at h0;cases h0
         ·exact h1
        have:=cO R (hin o (by simp[h])) hx h1o e;subst this
        simp
       ·rw[show(o.Dst==x.Dst)=false by simp[e]];simp
     ·obtain rfl:=zzL14.1 h;simp only[st];rw[hk,Ae,Si,Ws]
      simp) (λv hv=>by
     simp only[st]at hv
     cases hxk:RO x.Kind with
     | false=>
      rw[hxk,A0]at hv;obtain⟨o,ho,h⟩:=h2 v hv;exact⟨o,by simp[ho],h⟩
     | true=>
      rw[hxk,Ae,Si,Xn]at hv;rcases hv with hv|hv
      ·exact⟨x,by simp,hxk,(eq_of_beq hv).symm⟩
      ·obtain⟨o,ho,h⟩:=h2 v hv
       exact⟨o,by simp[ho],h⟩)
    rw[Zy]at this;exact this
  obtain⟨k1,k2⟩:=key (Mw f) [] [] (λo ho=>by simpa using ho) (λo ho=>by cases ho) (λv hv=>by cases hv);rw[Tf]at k1 k2;intro v hg;refine⟨?_,λo h=>?_⟩
  ·cases hd:AQ f v with
   | some o=>
    obtain⟨a,b,c⟩:=W4 hd;have:=(k1 o a b).1;rw[c]at this;exact this
   | none=>
    cases hm:B0 ((Mw f).foldl st []) v with
    | false=>rfl
    | true=>
     obtain⟨o,a,b,c⟩:=k2 v hm;have:=cM R a b;rw[c,hd]at this
     cases this
  ·obtain⟨a,b,c⟩:=W4 h;have:=(k1 o a b).2;rw[c]at this;exact this
end
section
variable {f:Ab} (h:Sm f)
include h
omit h in
theorem KU(hc:E9 f 2=0):lM f 2:=(fp (by omega)).1 hc
theorem EI:f.Blocks.length<9223372036854775808/\(∀ b∈f.Blocks,b.Ops.length<9223372036854775808)/\∀ o∈Mw f,0<=o.Imm:=by
 have hI:=h.1;refine⟨by have:=hI.blocks;rw[I4]at this;omega,λb hb=>by have:=(hI.block b hb).2.1;rw[I4]at this;omega,λo ho=>?_⟩;obtain⟨i,hi,k,hk,rfl⟩:=opsA_mem.1 ho;exact(hI.op _ (getD_mem hi) _ (getD_mem hk)).2.1
theorem MG(hc:E9 f 2=0){v:Int}(hg:Gd f v):Dl f v=some (L9 (AQ f) (YX f v+1) v,0):=by
 obtain⟨s,hs,hS⟩:=MH f h;obtain⟨p1,p2,p3⟩:=EI h;have R:=KU hc;obtain⟨M,m1,m2⟩:=iq R p1 p2;obtain⟨fd,f1⟩:=SF (iw R p3) m2 hg;obtain⟨d,hd,hv,hsh⟩:=hg;have hget:=hS.get hc d hd;rw[hv,hsh]at hget;unfold Dl;rw[hs,Ay,hget,m1]
 show(Gf v M []).bind _=_
 rw[f1]
 rfl
theorem eV{v:Int}(hn:¬ (E9 f 2=0/\Gd f v)):Dl f v=some (⟨[],0⟩,10):=by
 obtain⟨s,hs,hS⟩:=MH f h
 have hne:mget ((0:Int),(0:Int)) s v≠(64,1):=λe=>by
  by_cases hc:E9 f 2=0
  ·cases hm:B0 s v with
   | false=>rw[Yb hm]at e;cases e
   | true=>
    obtain⟨d,hd,hv⟩:=hS.has hc v hm;have:=hS.get hc d hd;rw[hv,e]at this;exact hn ⟨hc,d,hd,hv,this.symm⟩
  ·have:=hS.none hc;rw[KZ this]at e
   cases e
 unfold Dl;rw[hs,Ay]
 have:(!(((mget ((0:Int),(0:Int)) s v).1==(64:Int))&&(((mget ((0:Int),(0:Int)) s v).2==(1:Int))&&true)))=true:=by
  generalize mget ((0:Int),(0:Int)) s v=p at hne ⊢
  obtain⟨a,b⟩:=p
  by_cases ha:a=64
  ·have hb:b≠1:=λe=>hne (by rw[ha,e]);simp[hb]
  ·simp[ha]
 rw[this]
 rfl
end
def fB(ops:List Bv)(a:Int):Ab:=⟨[64],64,[⟨[],ops,⟨0,a,[]⟩⟩]⟩
theorem iC{ops:List Bv}{a:Int}(h1:ops.length<=300)(h2:∀ o∈ops,o.Args.length<=3/\0<=o.Imm/\o.Imm<18446744073709551616):Sm (fB ops a):=by
 have hb:∀ b∈(fB ops a).Blocks,b=⟨[],ops,⟨0,a,[]⟩⟩:=λb hb=>by simpa [fB] using hb
 refine kp ⟨by rw[I4];show(1:Nat)<=_;omega,by rw[I4];show(1:Nat)<=_;omega,λb h=>?_,λb h p hp=>?_,λb h o ho=>?_⟩ (by show 1<=64;omega) (λb h=>?_) ?_
 ·rw[hb b h,I4];exact⟨Lb _,by show ops.length<=_;omega,Lb _⟩
 ·rw[hb b h]at hp;cases hp
 ·rw[hb b h]at ho;obtain⟨g1,g2⟩:=h2 o ho;exact⟨by rw[I4];omega,g2⟩
 ·rw[hb b h];exact⟨Lb _,(λp hp=>by cases hp),λo ho=>by have:=(h2 o ho).1;omega⟩
 ·have hs:∀ l:List Bv,(∀ o∈l,o.Args.length<=3)->(l.map JQ).sum<=4*l.length:=by
   intro l
   induction l with
   | nil=>intro _;simp
   | cons x l ih=>
    intro hl;have h0:=hl x (Jd ..);have h1:=ih λo ho=>hl o (E7 _ ho);rw[Bs,U7,Oo];unfold JQ at h1 ⊢;omega
  have:=hs ops λo ho=>(h2 o ho).1
  show 1+((1+0+0+(ops.map JQ).sum)+0)<=20000
  omega
def fA:Ab:=fB [⟨0,64,1,2,[],8⟩,⟨1,64,1,3,[1,2],0⟩,⟨3,64,1,4,[2,3],0⟩] 4
theorem jT:Sm fA:=iC (by show 3<=300;omega) λo ho=>by
 simp only[zzL22,List.not_mem_nil,or_false]at ho;rcases ho with rfl|rfl|rfl<;>decide
theorem UB:E9 fA 2=0:=by decide +kernel
theorem mK:Dl fA 4=some (⟨[⟨1,8⟩],64⟩,0):=by
 rw[MG jT UB (v:=4) ⟨⟨4,0,2,(64,1)⟩,by decide +kernel,rfl,rfl⟩];have R:=KU UB;rw[Ts (iw R (EI jT).2.2) _ 4 40 ⟨⟨4,0,2,(64,1)⟩,by decide +kernel,rfl,rfl⟩ (Nat.lt_succ_self _) (by decide +kernel)]
 show _=_
 kernel_rfl
theorem kU:Dl fA 5=some (⟨[],0⟩,10):=eV jT λ⟨_,d,hd,hv,_⟩=>by
 have:∀ d∈Au fA,d.V≠5:=by decide +kernel
 exact this d hd hv
theorem eO:m_locksteplaw17_awake=some true:=by
 have h4:=mK;have h5:=kU;unfold fA fB at h4 h5;unfold m_locksteplaw17_awake;rw[show Cz=[⟨0,64,1,2,[],8⟩,⟨1,64,1,3,[1,2],0⟩,⟨3,64,1,4,[2,3],0⟩] from rfl,h4,h5]
 show _=_
 kernel_rfl
theorem ed{l:List Ai}(h:∀ t∈l,0<=t.Scale/\t.Scale<18446744073709551616)(v:Int):0<=K4 l v/\K4 l v<18446744073709551616:=by
 induction l with
 | nil=>exact⟨Int.le_refl _,by show(0:Int)<_;omega⟩
 | cons t r ih=>
  unfold K4
  cases t.V==v with
  | true=>exact h t (Jd ..)
  | false=>exact ih λu hu=>h u (E7 _ hu)
theorem HT:∀ n a,L3 (λ_=>0) a n=[]
 | 0,_=>rfl
 | n+1,a=>by unfold L3;exact HT n (a+1)
theorem KD(g:Int->Int->Int)(x y:An):(Jw g x y).Terms.length<9223372036854775808:=by
 have:=fN (NM g x y);omega
section
variable {x y:An} (hx:Ec 0 x.Terms=true) (hy:Ec 0 y.Terms=true)
include hx
end
theorem KR{x y:An}(hx:x.Terms.length<9223372036854775808)(h:x=y):D0 x y=some true:=by rw[io hx,Ey h]
set_option linter.unusedSectionVars false
def cz(o:Bv):Bv:=bif o.Kind==0 then⟨o.Kind,o.Bits,o.Lanes,o.Dst,o.Args,0⟩ else o
def Cn(o:Bv):Prop:=o.Kind=0->o.Bits=64/\0<=o.Imm/\o.Imm<18446744073709551616
theorem RF{o:Bv}(h:Cn o):Hq (cz o)=Hq o:=by
 unfold cz
 by_cases h0:o.Kind=0
 ·obtain⟨h1,h2,h3⟩:=h h0;rw[show(o.Kind==0)=true by simp[h0],Ae];obtain⟨k,b,l,d,a,i⟩:=o;simp only at h0 h1 h2 h3;subst h0 h1
  have e:(i % 18446744073709551616==i)=true:=by rw[zzL72];omega
  have h1:ifitS 0 64 l i=(i % 18446744073709551616==i):=rfl;have h2:ifitS 0 64 l 0=true:=rfl;unfold Hq;simp only[h1,h2,e]
 ·rw[show(o.Kind==0)=false by simp[h0]];rfl
theorem Jg(o:Bv):(cz o).Kind=o.Kind/\(cz o).Bits=o.Bits/\(cz o).Lanes=o.Lanes/\(cz o).Dst=o.Dst/\(cz o).Args=o.Args:=by
 unfold cz
 cases o.Kind==0<;>exact⟨rfl,rfl,rfl,rfl,rfl⟩
theorem bL{o:Bv}(h:Cn o):Gu (cz o)=Gu o:=by
 obtain⟨h1,h2,h3,h4,h5⟩:=Jg o;unfold Gu;rw[RF h,h1,h2,h3]
theorem WQ(o:Bv):Lr (cz o)=Lr o:=by
 unfold cz
 by_cases h0:o.Kind=0
 ·rw[show(o.Kind==0)=true by simp[h0],Ae];obtain⟨k,b,l,d,a,i⟩:=o;simp only at h0;subst h0
  rfl
 ·rw[show(o.Kind==0)=false by simp[h0]];rfl
theorem bM{o:Bv}(h:Cn o):Ex (cz o)=Ex o:=by
 unfold Ex;rw[RF h,WQ]
theorem gr{ops:List Bv}{k:Nat}(hk:k<ops.length):(ops.map cz).getD k default=cz (ops.getD k default):=by
 rw[Aa _ _ _ (by simpa using hk),Aa _ _ _ hk,List.getElem_map]
theorem BF{α:Type}{l:List Nat}{f g:Nat->List α}(h:∀ k,k∈l->f k=g k):l.flatMap f=l.flatMap g:=by
 induction l with
 | nil=>rfl
 | cons k l ih=>rw[Te,Te,h k (Jd ..),ih λj hj=>h j (E7 _ hj)]
theorem bK{ops:List Bv}{a:Int}(h:∀ o∈ops,Cn o)(hc:E9 (fB (ops.map cz) a) 2=0):E9 (fB ops a) 2=0:=by
 obtain⟨h1,h2,h3,h4⟩:=(M5 (by omega) (by omega)).1 hc;have hat:∀ k,k<ops.length->Cn (ops.getD k default):=λk hk=>h _ (getD_mem hk)
 have e1:Au (fB ops a)=Au (fB (ops.map cz) a):=by
  unfold Au
  congr 1
  show(List.range 1).flatMap _=(List.range 1).flatMap _
  refine BF λi hi=>?_
  obtain rfl:i=0:=by have:=zzL38.1 hi;omega
  show J1 ⟨[],ops,⟨0,a,[]⟩⟩ 0=J1 ⟨[],ops.map cz,⟨0,a,[]⟩⟩ 0
  unfold J1 X1
  congr 1
  simp only[Mm];refine BF λk hk=>?_;have hk:=zzL38.1 hk;rw[gr hk,bL (hat k hk),(Jg _).2.2.2.1]
 have e2:Dy (fB ops a)=Dy (fB (ops.map cz) a):=by
  unfold Dy
  show(List.range 1).flatMap _=(List.range 1).flatMap _
  refine BF λi hi=>?_
  obtain rfl:i=0:=by have:=zzL38.1 hi;omega
  show S7 (fB ops a) ⟨[],ops,⟨0,a,[]⟩⟩ 0=S7 (fB (ops.map cz) a) ⟨[],ops.map cz,⟨0,a,[]⟩⟩ 0
  have hop:Qt ⟨[],ops,⟨0,a,[]⟩⟩ 0=Qt ⟨[],ops.map cz,⟨0,a,[]⟩⟩ 0:=by
   unfold Qt;simp only[Mm];refine BF λk hk=>?_;have hk:=zzL38.1 hk;unfold Lw;rw[gr hk,bM (hat k hk),(Jg _).2.2.2.2]
  unfold S7;rw[hop]
  rfl
 have e3:ops.all (G3 2)=(ops.map cz).all (G3 2):=by
  rw[List.all_map];refine List.all_congr' λo ho=>?_
  show G3 2 o=G3 2 (cz o)
  unfold G3;rw[RF (h o ho),(Jg o).1,(Jg o).2.2.1]
 have e4:ops.all LL=(ops.map cz).all LL:=by
  rw[List.all_map];refine List.all_congr' λo ho=>?_
  show LL o=LL (cz o)
  unfold LL;rw[(Jg o).1,(Jg o).2.1,(Jg o).2.2.1,(Jg o).2.2.2.1,(Jg o).2.2.2.2]
 have e5:sizeW (fB ops a)=sizeW (fB (ops.map cz) a):=by
  unfold sizeW Om
  show Bh ((((0+ops.length+1)+0:Nat):Int))=Bh ((((0+(ops.map cz).length+1)+0:Nat):Int))
  rw[Mm]
 refine(M5 (by omega) (by omega)).2 ⟨?_,h2,?_,?_⟩
 ·have:Qf (fB ops a)=Qf (fB (ops.map cz) a):=by
   unfold Qf;rw[e5]
   show(_&&((true&&ops.all LL&&MO ⟨0,a,[]⟩)&&true))=(_&&((true&&(ops.map cz).all LL&&MO ⟨0,a,[]⟩)&&true))
   rw[e4]
   rfl
  rw[this];exact h1
 ·have:O7 (fB ops a) 2=O7 (fB (ops.map cz) a) 2:=by
   show((Dj 64&&true)&&((true&&ops.all (G3 2))&&true)&&Dj 64)=((Dj 64&&true)&&((true&&(ops.map cz).all (G3 2))&&true)&&Dj 64)
   rw[e3]
  rw[this];exact h3
 ·have e6:Bx (fB ops a)=Bx (fB (ops.map cz) a):=rfl;unfold EB at h4 ⊢;rw[e1,e2,e6];exact h4
where
 List.all_congr' {l:List Bv} {p q:Bv->Bool} (h:∀ o∈l,p o=q o):l.all p=l.all q:=by
  induction l with
  | nil=>rfl
  | cons x l ih=>rw[Oq,Oq,h x (Jd ..),ih λo ho=>h o (E7 _ ho)]
def pT(o:Int):An:=⟨[⟨1,1⟩],o⟩
theorem cS(o:Int):Ec 0 (pT o).Terms=true:=rfl
theorem ii(o:Int):Ec 0 (⟨[],o⟩:An).Terms=true:=rfl
theorem mL(v:Int):0<=K4 [⟨1,1⟩] v/\K4 [⟨1,1⟩] v<18446744073709551616:=ed (λt ht=>by obtain rfl:=zzL14.1 ht;show(0:Int)<=1/\(1:Int)<_;omega) v
theorem kW(o s:Int):Jw QT (pT o) ⟨[],s⟩=pT (Ez (o+s)):=by
 rw[UN (cS o) (ii s)]
 have e:(dk λv=>QT (K4 (pT o).Terms v) (K4 (⟨[],s⟩:An).Terms v))=dk (K4 [⟨1,1⟩]):=WC λv _ _=>by
  have:=mL v
  show Ez (K4 [⟨1,1⟩] v+0)=_
  rw[Int.add_zero,Xf this.1 this.2]
 rw[e,LU rfl]
 rfl
theorem fa{g:Int->Int}(h:∀ v:Int,2<=v->g v=0):(dk g).length<=16:=by
 have e:dk g=L3 g 1 (1022+1):=rfl;rw[e];unfold L3;rw[(Qs (n:=1022) (a:=1+1) (h:=λ_=>0) λv hv=>h v hv),HT]
 cases g ((1:Nat):Int)==0<;>simp
theorem XQ(o b:Int):(Jw (Sj b) (pT o) noF17).Terms.length<=16:=by
 rw[UN (cS o) rfl]
 have h:∀ v:Int,2<=v->Sj b (K4 (pT o).Terms v) (K4 noF17.Terms v)=0:=λv hv=>by
  show Ez (K4 [⟨1,1⟩] v*b)=0
  have:K4 [(⟨1,1⟩:Ai)] v=0:=by
   show(bif ((1:Int)==v) then(1:Int) else 0)=0
   rw[show((1:Int)==v)=false from zzL23.2 (by omega)];rfl
  rw[this,Int.zero_mul];rfl
 exact fa h
theorem er{D:Int->Option Bv}{n:Nat}{v:Int}(h:D v=none):L9 D (n+1) v=Uk v:=by unfold L9;rw[h]
theorem MU{D:Int->Option Bv}{n:Nat}{v:Int}{o:Bv}(h:D v=some o)(h0:o.Kind=0):L9 D (n+1) v=⟨[],o.Imm⟩:=by unfold L9;rw[h];simp[h0]
theorem UE{D:Int->Option Bv}{n:Nat}{v k a b:Int}{o:Bv}(h:D v=some o)(hk:o.Kind=k)(h0:k≠0)(ha:o.Args.getD 0 0=a)(hb:o.Args.getD 1 0=b):L9 D (n+1) v=WX v (YW k (L9 D n a) (L9 D n b)):=by
 conv=>lhs;unfold L9
 rw[h];simp only;rw[hk,ha,hb,show(k==0)=false from zzL23.2 h0,A0]
def Hn(n b:Int):List Bv:=[⟨0,64,1,2,[],n⟩,⟨0,64,1,3,[],b⟩,⟨1,64,1,4,[1,2],0⟩,⟨3,64,1,5,[4,3],0⟩,⟨3,64,1,6,[3,4],0⟩,⟨8,64,1,7,[4,3],0⟩]
theorem KS:E9 (fB (Hn 0 0) 7) 2=0:=by decide +kernel
section
variable {n b:Int} (hn:0<=n/\n<18446744073709551616) (hb:0<=b/\b<256)
include hn hb
theorem YC:Sm (fB (Hn n b) 7):=iC (by show 6<=300;omega) λo ho=>by
 simp only[Hn,zzL22,List.not_mem_nil,or_false]at ho;rcases ho with rfl|rfl|rfl|rfl|rfl|rfl
 ·exact⟨by simp,hn⟩
 ·exact⟨by simp,hb.1,by show b<_;omega⟩
 all_goals exact⟨by simp,by show(0:Int)<=0/\(0:Int)<_;omega⟩
theorem Xa:E9 (fB (Hn n b) 7) 2=0:=by
 refine bK (λo ho h0=>?_) KS;simp only[Hn,zzL22,List.not_mem_nil,or_false]at ho;rcases ho with rfl|rfl|rfl|rfl|rfl|rfl
 ·exact⟨rfl,hn⟩
 ·exact⟨rfl,hb.1,by show b<_;omega⟩
 all_goals cases h0
theorem ck:AQ (fB (Hn n b) 7) 1=none/\AQ (fB (Hn n b) 7) 2=some ⟨0,64,1,2,[],n⟩/\AQ (fB (Hn n b) 7) 3=some ⟨0,64,1,3,[],b⟩/\AQ (fB (Hn n b) 7) 4=some ⟨1,64,1,4,[1,2],0⟩ /\
  AQ (fB (Hn n b) 7) 5=some ⟨3,64,1,5,[4,3],0⟩/\AQ (fB (Hn n b) 7) 6=some ⟨3,64,1,6,[3,4],0⟩/\AQ (fB (Hn n b) 7) 7=some ⟨8,64,1,7,[4,3],0⟩:=⟨rfl,rfl,rfl,rfl,rfl,rfl,rfl⟩
theorem HV{v:Int}(hv:4<=v/\v<=7):Gd (fB (Hn n b) 7) v:=by
 have R:=KU (Xa hn hb)
 have hA:Mw (fB (Hn n b) 7)=Hn n b:=by unfold Mw fB;simp
 have key:∀ o:Bv,o∈Hn n b->1<=o.Dst->Lg o.Kind o.Bits o.Lanes=(64,1)->Gd (fB (Hn n b) 7) o.Dst:=λo ho h1 hg=>by
  rcases op_dst R (o:=o) (by rw[hA];exact ho) with⟨h,_⟩|⟨_,_,_,_,_,_,_,hd⟩
  ·omega
  ·exact⟨_,hd,rfl,hg⟩
 have:v=4\/v=5\/v=6\/v=7:=by omega
 rcases this with rfl|rfl|rfl|rfl
 ·exact key ⟨1,64,1,4,[1,2],0⟩ (by simp[Hn]) (by decide) rfl
 ·exact key ⟨3,64,1,5,[4,3],0⟩ (by simp[Hn]) (by decide) rfl
 ·exact key ⟨3,64,1,6,[3,4],0⟩ (by simp[Hn]) (by decide) rfl
 ·exact key ⟨8,64,1,7,[4,3],0⟩ (by simp[Hn]) (by decide) rfl
theorem T9{v:Int}(hv:4<=v/\v<=7):Dl (fB (Hn n b) 7) v=some (L9 (AQ (fB (Hn n b) 7)) (YX (fB (Hn n b) 7) v+4) v,0):=by
 have hr:=Xa hn hb;have hsm:=YC hn hb;rw[MG hsm hr (HV hn hb hv),Ts (iw (KU hr) (EI hsm).2.2) _ v (YX (fB (Hn n b) 7) v+4) (HV hn hb hv) (by omega) (by omega)]
theorem T8(m:Nat):L9 (AQ (fB (Hn n b) 7)) (m+3) 3=⟨[],b⟩/\L9 (AQ (fB (Hn n b) 7)) (m+3) 4=pT n/\L9 (AQ (fB (Hn n b) 7)) (m+4) 5=Jw (Sj b) (pT n) noF17 /\
  L9 (AQ (fB (Hn n b) 7)) (m+4) 6=Jw (Sj b) (pT n) noF17/\L9 (AQ (fB (Hn n b) 7)) (m+4) 7=bif decide (b<64) then Jw (Sj (FW .u64 1 b)) (pT n) noF17 else Uk 7:=by
 obtain⟨d1,d2,d3,d4,d5,d6,d7⟩:=ck hn hb;have h3:∀ m,L9 (AQ (fB (Hn n b) 7)) (m+1) 3=⟨[],b⟩:=λm=>MU d3 rfl;have h1:∀ m,L9 (AQ (fB (Hn n b) 7)) (m+1) 1=pT 0:=λm=>er d1;have h2:∀ m,L9 (AQ (fB (Hn n b) 7)) (m+1) 2=⟨[],n⟩:=λm=>MU d2 rfl
 have h4:∀ m,L9 (AQ (fB (Hn n b) 7)) (m+2) 4=pT n:=λm=>by
  rw[UE d4 (k:=1) (a:=1) (b:=2) rfl (by decide) rfl rfl,h1,h2]
  show WX 4 (some (Jw QT (pT 0) ⟨[],n⟩))=_
  rw[kW,Int.zero_add,Xf hn.1 hn.2]
  rfl
 have fit:∀ v o c,WX v (some (Jw (Sj c) (pT o) noF17))=Jw (Sj c) (pT o) noF17:=λv o c=>by
  have:=XQ o c
  show(bif decide ((16:Int)<((Jw (Sj c) (pT o) noF17).Terms.length:Int)) then Uk v else _)=_
  rw[Fh (by omega)]
  rfl
 have m5:YW 3 (pT n) ⟨[],b⟩=some (Jw (Sj b) (pT n) noF17):=rfl;have m6:YW 3 ⟨[],b⟩ (pT n)=some (Jw (Sj b) (pT n) noF17):=rfl;have m7:YW 8 (pT n) ⟨[],b⟩=bif decide (b<64) then some (Jw (Sj (FW .u64 1 b)) (pT n) noF17) else none:=rfl;refine⟨h3 _,h4 _,?_,?_,?_⟩
 ·rw[UE d5 (k:=3) (a:=4) (b:=3) rfl (by decide) rfl rfl,h4,h3,m5,fit]
 ·rw[UE d6 (k:=3) (a:=3) (b:=4) rfl (by decide) rfl rfl,h4,h3,m6,fit]
 ·rw[UE d7 (k:=8) (a:=4) (b:=3) rfl (by decide) rfl rfl,h4,h3,m7]
  cases decide (b<64) with
  | true=>exact fit 7 n _
  | false=>rfl
end
theorem scales17(n b:Int)(hn:0<=n/\n<18446744073709551616)(hb:0<=b/\b<256):Fc n b=some true:=by
 have hw:Ez b=b:=Xf hb.1 (by omega);obtain⟨f3,f4,_,_,_⟩:=T8 hn hb (YX (fB (Hn n b) 7) 4+1);obtain⟨_,_,f5,_,_⟩:=T8 hn hb (YX (fB (Hn n b) 7) 5);obtain⟨_,_,_,f6,_⟩:=T8 hn hb (YX (fB (Hn n b) 7) 6);obtain⟨_,_,_,_,f7⟩:=T8 hn hb (YX (fB (Hn n b) 7) 7);have o4:=T9 hn hb (v:=4) (by omega);have o5:=T9 hn hb (v:=5) (by omega);have o6:=T9 hn hb (v:=6) (by omega);have o7:=T9 hn hb (v:=7) (by omega);rw[f4]at o4;rw[f5]at o5;rw[f6]at o6;rw[f7]at o7;unfold fB Hn at o4 o5 o6 o7;unfold Fc;rw[eO,Ay,show(!true)=false from rfl,A0,hw,o4,Ay,o5,Ay,o6,Ay,o7,Ay]
 have lp:(pT n).Terms.length<9223372036854775808:=by simp[pT]
 simp only[show((0:Int)!=0)=false from rfl,A0,BEq.rfl,Ae];rw[kZ lp,cS,Ay,show(!true)=false from rfl,A0,Wb lp,Ay,KR (KD _ _ _) rfl,Ay,show((!true)==false)=true from rfl,Ae]
 try rw[KR (KD _ _ _) rfl]
 rw[Ay,show(bif (!true) then true else(!true))=false from rfl,A0]
 by_cases h:64<=b
 ·rw[Ey h,Ae,Fh (show ¬ b<64 by omega),A0,KR (x:=Uk 7) (y:=⟨[⟨7,1⟩],0⟩) (by simp[Uk]) rfl]
  rfl
 ·rw[Fh h,A0,Ey (show b<64 by omega),Ae,Ad hb.1,Wb lp,Ay,KR (KD _ _ _) rfl]
  rfl
end
end Go.Proofs.YtiendmljhgbjoaaGreat
