/-
  The machine, the program's functions and the laws' arithmetic: part 6 of 6.
-/
import Derived.Test.YtlnbjgmjaioagaaGreatPk5
set_option linter.unusedSectionVars false
set_option linter.unusedVariables false
set_option linter.unusedSimpArgs false
namespace Go.Proofs.YtlnbjgmjaioagaaGreat
noncomputable section
open Go Go.RowKit
theorem u3{σ X:Type}(mk:Int->σ)(U:List Be)(p:Be->Bool)(f:σ->Option (LR σ X))(yes no:X)(hk:∀ i:Nat,i<U.length->f (mk i)=some (bif p (U.getD i default) then .next (mk ((i:Int)+1)) else .done no))(he:f (mk U.length)=some (.done yes)) :
  ∀ k i:Nat,i+k=U.length->Ad f (mk i)=some (bif (U.drop i).all p then yes else no)
 | 0,i,h=>by
  obtain rfl:i=U.length:=by omega
  rw[Am he]
  simp
 | k+1,i,h=>by
  have hi:i<U.length:=by omega
  have hdr:U.drop i=U.getD i default::U.drop (i+1):=by simp_all
  have hx:=hk i hi;rw[hdr,HF]
  cases hp:p _ with
  | true=>
   rw[hp]at hx;rw[Aq hx,show((i:Int)+1)=(i+1:Nat) by omega,u3 mk U p f yes no hk he k _ (by omega),Hn]
  | false=>
   rw[hp]at hx;rw[Am hx]
   rfl
theorem RY(d:Ch)(l:List Ch)(v:Int):N6 (d::l) v=bif d.V==v then 0 else bif decide (N6 l v<0) then -1 else N6 l v+1:=by
 unfold N6;rw[List.findIdx?_cons]
 cases d.V==v with
 | true=>rfl
 | false=>
  grind
theorem SW(v:Int):∀ l:List Ch,Ks (dv l) v = !decide (N6 l v<0)
 | []=>rfl
 | d::l=>by
  rw[RY]
  show((v==d.V) || Ks (dv l) v)=_
  rw[SW v l,show(v==d.V)=(d.V==v) by grind]
  cases d.V==v with
  | true=>rfl
  | false=>
   grind
theorem HZ(v:Int):∀ l:List Ch,¬ N6 l v<0->Mw (default:Az) (dv l) v=UP (defOf l v)
 | [],h=>absurd (show -1<0 by decide) h
 | d::l,h=>by
  unfold defOf;rw[RY]at h ⊢
  show(bif v==d.V then UP d else Mw _ (dv l) v)=_
  rw[show(v==d.V)=(d.V==v) by grind]
  cases hb:d.V==v with
  | true=>rfl
  | false=>
   rw[hb]at h
   by_cases hn:N6 l v<0
   ·simp[hn]at h
   ·have hz :=Db hn;simp only[Ar,hz];rw[HZ v l hn,show(N6 l v+1).toNat=(N6 l v).toNat+1 by omega]
    rfl
def oU(f:TFunc)(d:Ch):Prop:=d.Block = -1\/(As d.Block f.Blocks.length/\d.At<T9 f d.Block/\d.At<1000)
def xE(f:TFunc)(u:Dd):Prop:=As u.Block f.Blocks.length/\0<=u.At
theorem vR{f:TFunc}(hf:OkF f):∀ d∈Bf f,oU f d:=λd hd=>by
 rcases zzL11.1 hd with h|h
 ·obtain⟨i,_,hi⟩:=zzL74.1 h;rw[zzL22.1 hi];exact .inl rfl
 ·obtain⟨i,hi,h⟩:=zzL74.1 h
  have hi :=by simpa using hi
  have hB:=hf.block _ (Ah (d:=default) hi);have ho:T9 f i=(f.Blocks.getD i default).Ops.length:=rfl;rcases zzL11.1 h with h|h
  ·obtain⟨k,hk,h⟩:=zzL74.1 h;rw[zzL22.1 h];refine .inr ⟨Ag hi,?_,?_⟩
   ·grind
   ·grind
  ·obtain⟨k,hk,h⟩:=zzL74.1 h
   have hk:k<(f.Blocks.getD i default).Ops.length:=by simpa using hk
   cases hg:decide (0<(Qb _).1) with
   | false=>rw[hg]at h;cases h
   | true=>
    rw[hg]at h;rw[zzL22.1 h];refine .inr ⟨Ag hi,?_,?_⟩
    ·grind
    ·show(k:Int)<1000;have:=hB.ops;omega
theorem wi{f:TFunc}(hfit:∀ b∈f.Blocks,∀ p∈b.Phis,p.Args.length<=p.From.length/\∀ x∈p.From,As x f.Blocks.length):∀ u∈B9 f,xE f u:=λu hu=>by
 obtain⟨i,hi,h⟩:=zzL74.1 hu
 have hi :=by simpa using hi
 have hmem:=Ah (d:=default) hi;rcases zzL11.1 h with h|h
 ·rcases zzL11.1 h with h|h
  ·obtain⟨k,hk,h⟩:=zzL74.1 h
   have hk :=by simpa using hk
   obtain⟨j,hj,h⟩:=zzL74.1 h;have hj:=zzL82.1 hj;have hq:=hfit _ hmem _ (Ah (d:=default) hk);rw[zzL22.1 h];exact⟨hq.2 _ (Ah (by omega)),by grind⟩
  ·obtain⟨k,hk,h⟩:=zzL74.1 h;obtain⟨j,hj,h⟩:=zzL74.1 h;rw[zzL22.1 h];exact⟨Ag hi,by grind⟩
 ·unfold FZ at h
  have:u=⟨(f.Blocks.getD i default).End.Arg,i,1000,(f.Ret,1)⟩\/u=⟨(f.Blocks.getD i default).End.Arg,i,1000,(1,1)⟩:=by
   grind
  rcases this with rfl|rfl<;>exact⟨Ag hi,by grind⟩
theorem zF{f:TFunc}(h:Fq f=true):∀ b∈f.Blocks,∀ p∈b.Phis,p.Args.length<=p.From.length/\∀ x∈p.From,As x f.Blocks.length:=λb hb p hp=>by
 have hs :=by simp only[Fq,A4]at h;exact h.1
 refine⟨am h b hb p hp,λx hx=>?_⟩;obtain⟨i,hi,rfl⟩:=Nc hb;simp only[Fq,A4]at h;have h1:=yn h.2 i hi;simp only[Mq,A4,zzL29]at h1;rw[Ao _ _ _ hi]at h1;have h2:=h1.2 p hp;simp only[J5,A4,Jd]at h2;rw[h2.1]at hx;obtain⟨q,rfl,hq,_⟩:=(DV  (R9 hs)  (by rw[Pu];exact hi)).1 hx;exact Ag (by rw[Pu]at hq;exact hq)
theorem jI{f:TFunc}(h:Fq f=true){b:Int}(hb:As b f.Blocks.length):OT (Ex f) 0 b=true:=by
 have hs :=by simp only[Fq,A4]at h;exact h.1
 have hm:=R9 hs;have hlen:=Pu f
 have hpos:0<(Bu f).length:=by have:=(shape_iff.1 hs).1.1;omega
 obtain⟨P,hP,o,ht⟩:=n8 hm hpos
 have e:Ex f=ED (Bu f) 0:=by
  unfold Ex UL;rw[if_pos ⟨fD hm,Int.le_refl _,by show(0:Int)<(Bu f).length;omega⟩]
  rfl
 obtain⟨k,rfl⟩:∃ k:Nat,b=k:=⟨b.toNat,(Mi hb.1).symm⟩
 have hk:k<f.Blocks.length:=by have:=hb.2;omega
 simp only[Fq,A4]at h;have h1:=yn h.2 k hk;simp only[Mq,A4]at h1;have hr :=(KN (AQ hm) hpos k).1 h1.1.1;rw[e];refine(ht.over_dom o hpos (by omega)).2 ⟨rc_iff.2 hr,λha=>?_⟩;exact(av_iff.1 ha).1 rfl
theorem CQ{l:List Dd}{g:Dd->Be}{p:Be->Bool}{q:Dd->Bool}(h:∀ u∈l,p (g u)=q u):(l.map g).all p=l.all q:=by
 grind
def vV(vs:List (Int×Az))(u:Be):Bool:=((Mw (default:Az) vs u.v).shape.1==u.shape.1)&&(((Mw (default:Az) vs u.v).shape.2==u.shape.2)&&true)
def HR(vs:List (Int×Az))(t:List Int)(u:Be):Bool:=bif (Mw (default:Az) vs u.v).place.block==u.place.block then decide ((Mw (default:Az) vs u.v).place.at_<u.place.at_) else OT t (Mw (default:Az) vs u.v).place.block u.place.block
theorem pX{f:TFunc}(hs:Fq f=true){D:List Ch}(hD:∀ d∈D,oU f d){u:Dd}(hu:xE f u)(hfd:Oz D u=true):HR (dv D) (Ex f) (J6 f u)=GU D (Ex f) u:=by
 have hF:¬ N6 D u.V<0:=by simpa [Oz] using hfd
 have hin:=eP hF;have hd:oU f (defOf D u.V):=hD _ (by unfold defOf;exact Ah (by have:=hin.1;have:=hin.2;omega));have hg:Mw (default:Az) (dv D) (J6 f u).v=UP (defOf D u.V):=HZ u.V D hF;unfold HR GU;rw[hg]
 generalize defOf D u.V=d at *
 have hub:=hu.1.1
 have hul:0<=T9 f u.Block:=by unfold T9;omega
 have hat:∀ a:Int,a<0\/(a<T9 f u.Block/\a<1000)->decide (a<(J6 f u).place.at_)=decide (a<u.At)\/a<0:=λa ha=>by
  rcases ha with ha|ha
  ·exact .inr ha
  ·refine .inl ?_
   show decide (a<bif u.At==1000 then T9 f u.Block else u.At)=_
   by_cases h:u.At=1000
   ·rw[h];simp only[show((1000:Int)==1000)=true from rfl,Af];rw[Gi ha.1,Gi ha.2]
   ·have:(u.At==1000)=false:=by simpa using h
    rw[this];rfl
 have hpos:0<=(J6 f u).place.at_:=by
  show 0<=bif u.At==1000 then T9 f u.Block else u.At
  cases u.At==1000
  ·exact hu.2
  ·exact hul
 have hblk:(J6 f u).place.block=u.Block:=rfl;rw[hblk];rcases hd with hd|⟨hd1,hd2,hd3⟩
 ·have e:(UP d).place=⟨0,-1⟩:=by show xL d=_;unfold xL;rw[hd];rfl
  rw[e,hd,Gi (show(-1:Int)<0 by decide)];rw[Bool.true_or,Bool.true_or,jI hs hu.1,Gi (show(-1:Int)<(J6 f u).place.at_ by omega)]
  cases(0:Int)==u.Block<;>rfl
 ·have hn:¬ d.Block<0:=by have:=hd1.1;omega
  have e:(UP d).place=⟨d.Block,d.At⟩:=by show xL d=_;unfold xL;rw[Db hn];rfl
  rw[e,Db hn,UW]
  cases hb:d.Block==u.Block with
  | true=>
   have hbe:d.Block=u.Block:=by simpa using hb
   simp only[Af,Hn,C0,HD,Bool.or_false];rcases hat d.At (.inr ⟨by rw[<- hbe];exact hd2,hd3⟩) with h|h
   ·exact h
   ·rw[Gi (by omega),Gi (by have:=hu.2;omega)]
  | false=>
   simp only[Ar,HD,UW,J0,Hn];unfold OT
   by_cases hm:Si (Ex f) d.Block u.Block=d.Block
   ·rw[hm]
    have:(d.Block !=-2)=true:=by simp;omega
    simp[this]
   ·have:(Si (Ex f) d.Block u.Block==d.Block)=false:=by simpa using hm
    simp[this,bne]
section
variable {f:TFunc} (l:Int) (vs:List (Int×Az))
def oQ(f:TFunc)(l:Int)(U:List Be)(i:Int):Int×List Int×Int×List Ab×Int×List Int×List Be:=(i,f.Params,f.Ret,f.Blocks,l,Ex f,U)
def oR(f:TFunc)(l:Int)(U:List Be):List Int×Int×List Ab×Int×List Int×List Be:=(f.Params,f.Ret,f.Blocks,l,Ex f,U)
theorem vL(U:List Be)(hU:U.length<9223372036854775808):Ad (Ft vs (f,l,Ex f,U)) (oQ f l U 0)=some (bif U.all (λu=>Ks vs u.v) then .inl (oR f l U) else .inr (oR f l U)):=by
 have:=u3 (oQ f l U) U (λu=>Ks vs u.v) (Ft vs (f,l,Ex f,U)) _ _ (λi hi=>by
  unfold Ft oQ Mb
  have hd:decide (i<(U.length:Int))=true:=by simpa using hi
  simp only[hd, Aa (Ag hi),Cr, A3 hi hU]
  cases Ks vs _<;>rfl) (by unfold Ft oQ;simp;rfl) U.length 0 (by omega)
 exact this
theorem vM(U:List Be)(hU:U.length<9223372036854775808):Ad (Fu vs U) (oQ f l U 0)=some (bif U.all (vV vs) then .inl (oR f l U) else .inr (oR f l U)):=by
 have:=u3 (oQ f l U) U (vV vs) (Fu vs U) _ _ (λi hi=>by
  unfold Fu oQ N8
  have hd:decide (i<(U.length:Int))=true:=by simpa using hi
  simp only[hd, Aa (Ag hi),Cr, A3 hi hU];unfold vV
  cases(((Mw _ vs _).shape.1==(U.getD i _).shape.1)&&(((Mw _ vs _).shape.2==(U.getD i _).shape.2)&&true))<;>rfl) (by unfold Fu oQ;simp;rfl) U.length 0 (by omega)
 exact this
theorem vN(htl:(Ex f).length<=1000)(U:List Be)(hU:U.length<9223372036854775808):Ad (Fv vs U) (oQ f l U 0)=some (bif U.all (HR vs (Ex f)) then .inl (oR f l U) else .inr (oR f l U)):=by
 have:=u3 (oQ f l U) U (HR vs _) (Fv vs U) _ _ (λi hi=>by
  have hx:Im (U.getD i default) f l (Ex f) vs U=some (HR vs (Ex f) (U.getD i default),f,l,Ex f,U):=by
   unfold Im HR;rw[zN htl]
   cases(Mw _ vs _).place.block==(U.getD i _).place.block<;>rfl
  unfold Fv oQ
  have hd:decide ((i:Int)<U.length)=true:=by simpa using hi
  simp only[hd, Aa (Ag hi),Cr];rw[ hx, A3 hi hU]
  cases HR vs _ _<;>rfl) (by unfold Fv oQ;simp;rfl) U.length 0 (by omega)
 exact this
end
def f4(f:TFunc):Int:=bif !(B9 f).all (Oz (Bf f)) then 7 else bif !(B9 f).all (GV (Bf f)) then 6 else bif !(B9 f).all (GU (Bf f) (Ex f)) then 7 else 0
theorem zC{f:TFunc}(hf:OkF f)(hs:Fq f=true)(l:Int):∃ U,K2 f l (Ex f) (dv (Bf f)) []=some (f4 f,f,l,Ex f,U):=by
 have hfit:=zF hs;have hul:=MW hf
 have hsB :=by simp only[Fq,A4]at hs;exact hs.1
 refine⟨(B9 f).map (J6 f),?_⟩
 have hU:((B9 f).map (J6 f)).length<9223372036854775808:=by grind
 have h1:=vL (f:=f) l (dv (Bf f)) _ hU;have h2:=vM (f:=f) l (dv (Bf f)) _ hU;have h3:=vN  l (dv (Bf f)) (fx hsB) _ hU;rw[CQ (q:=Oz _) (λu _=>SW u.V _)]at h1;unfold K2 f4 Ua;rw[mz hf l _ _ hfit,Ak];rw[show(Ad _ ((0:Int),f.Params,f.Ret,f.Blocks,l,Ex f,(B9 f).map _))=_ from h1,Ak];have fin:∀ e ,Ad Qj (e,f.Params,f.Ret,f.Blocks,l,Ex f,(B9 f).map (J6 f))=some _:=λe=>Am rfl
 cases hfd:(B9 f).all _ with
 | false=>simp only[Ar,J0,Af,oR,Ak,fin]
 | true=>
  have hmf:=zzL29.1 hfd
  rw[CQ (q:=GV _) (λu hu=>by
   have:=hmf u hu;simp only[Oz,Qr,UX]at this;have hg:Mw _ _ (J6 f u).v=UP _:=HZ u.V _ this;unfold vV GV
   rw[hg];rfl)]at h2
  rw[CQ  (λu hu=>pX hs (vR hf) (wi hfit u hu) (hmf u hu))]at h3;simp only[Af,C0, oR];rw[show(Ad _ ((0:Int),f.Params,f.Ret,f.Blocks,l,Ex f,(B9 f).map _))=_ from h2,Ak]
  cases(B9 f).all _ with
  | false=>simp only[Ar,J0,Af,oR,Ak,fin]
  | true=>
   simp only[Af,C0, oR];rw[show(Ad _ ((0:Int),f.Params,f.Ret,f.Blocks,l,Ex f,(B9 f).map _))=_ from h3]
   cases(B9 f).all _ with
   | false=>simp only[Ar,J0,Af,oR,Ak,fin]
   | true=>simp only[Af,C0,Ar,oR,Ak]
theorem vO{f:TFunc}(h:Sm f)(l:Int)(h0:0<=l)(h2:l<=2):∃ t u vs,Kh f l [] []=some (G5 f l,f,l,t,u,vs)/\(G5 f l=0->vs=dv (Bf f)):=by
 have hc:G5 f l=bif !Qx f then 4 else UR f l:=by
  unfold G5;rw[Db (by omega),Db (by omega)];rfl
 rw[hc];unfold Kh;rw[zB f h.1,Ak]
 cases hm:Qx f with
 | false=>simp_all
 | true=>
  have hf:=sH h hm;simp only[    UR];obtain⟨t',hsh,hst⟩:=qK hf l [] [];rw[hsh,Ak]
  cases hs:Fq f with
  | false=>simp_all
  | true=>
   obtain rfl:=hst hs;rw[vK hf l h0 h2,Ak]
   cases Vw f l with
   | false=>simp_all
   | true=>
    obtain⟨vs,hd,hv⟩:=m6 hf l _ [];rw[hd,Ak]
    cases hdd:(List.range _).all _ with
    | false=>grind
    | true=>
     obtain rfl:=hv hdd;obtain⟨U,hu⟩:=zC hf hs l;rw[hu];refine⟨Ex f,U,dv _,?_,λ_=>rfl⟩
     show(bif f4 f !=0 then some _ else some _)=some (f4 f,f,l,Ex f,U,dv _)
     cases hz:f4 f !=0 with
     | true=>rfl
     | false=>
      grind
theorem vD(f:TFunc)(l:Int)(h:Sm f):Ta f l=some (G5 f l):=by
 unfold Ta
 by_cases h0:l<0
 · unfold G5;rw[Gi h0];rfl
 ·by_cases h2:2<l
  · unfold G5;rw[Db h0,Gi h2];rfl
  ·obtain⟨t,u,vs,hw,_⟩:=vO h l (by omega) (by omega);rw[Db h0,Db h2,hw];rfl
abbrev bA(f:TFunc)(i:Nat):Ab:=f.Blocks.getD i default
def Dy(f:TFunc)(i:Nat)(k:Nat):Int:=(bA f i).End.To.getD k 0
def JA(f:TFunc)(i:Nat):List Int:=(Cg (Bu f)).getD i []
structure Rt(f:TFunc):Prop where
 lo:1<=f.Blocks.length
 hi:f.Blocks.length<=64
 to:∀ i,i<f.Blocks.length->∀ k,k<(bA f i).End.To.length->0<Dy f i k/\Dy f i k<f.Blocks.length
 one:∀ i,i<f.Blocks.length->(bA f i).End.Kind=1->(bA f i).End.To.length=1
 two:∀ i,i<f.Blocks.length->(bA f i).End.Kind=2->(bA f i).End.To.length=2
 may:Og (Bu f)=true
 ok:OkF f
theorem DW{f:TFunc}(h:Sm f)(hc:G5 f 2=0):Rt f:=by
 have hz:=(N4   (by omega) (by omega)).1 hc
 have hs :=by
  have:=hz.2.1;unfold Fq at this;rw[A4]at this;exact this.1
 obtain⟨⟨h1,h2⟩,h3⟩:=shape_iff.1 hs
 have hw:∀ i,i<f.Blocks.length->((bA f i).End.To.length:Nat)=Vz (bA f i).End.Kind:=λi hi=>by
  have:=h3 i hi;unfold Np DE at this;simp only[A4,Jd]at this;exact this.1.2
 refine⟨h1,h2,λi hi k hk=>?_,λi hi hk=>?_,λi hi hk=>?_,R9 hs,sH h hz.1⟩
 ·exact toB_iff.1 (bf (h3 i hi)) _ (Ah  hk)
 ·have:=hw i hi;rw[hk,show Vz 1=1 from rfl]at this;omega
 ·have:=hw i hi;rw[hk,show Vz 2=2 from rfl]at this;omega
theorem ld{f:TFunc}{i:Nat}(hi:i<f.Blocks.length):(Bu f).getD i []=KS (bA f i).End.To:=by
 unfold Bu;rw[S9 hi];rfl
theorem rf(f:TFunc):(Cg (Bu f)).length=f.Blocks.length:=by rw[Qe,Pu]
theorem Zm{f:TFunc}(R:Rt f){y:Nat}(hy:y<f.Blocks.length){x:Int}:x∈JA f y↔∃ p:Nat,x=(p:Int)/\p<f.Blocks.length/\(y:Int)∈(bA f p).End.To:=by
 unfold JA;have hl:=Pu f;rw[DV R.may (by omega)]
 constructor
 ·rintro⟨p,h1,h2,h3⟩;rw[rC R.may (by omega),ld (by omega),(FU _).2]at h3;exact⟨p,h1,by omega,h3⟩
 ·rintro⟨p,h1,h2,h3⟩;exact⟨p,h1,by omega,by rw[rC R.may (by omega),ld (by omega),(FU _).2];exact h3⟩
theorem rg{f:TFunc}(R:Rt f)(i:Nat):(JA f i).length<=64:=by
 unfold JA
 by_cases hi:i<(Cg (Bu f)).length
 ·exact(Ux R.may).2 _ (Ah hi)
 ·grind
def Nx(f:TFunc)(a x:Int):Bool:=((bA f x.toNat).End.Kind==1)&&decide ((bA f x.toNat).Phis.length=0)&&decide (JA f x.toNat=[a])
theorem vC{f:TFunc}(R:Rt f)(a x:Int)(hx:As x f.Blocks.length):Gr x f.Blocks (Cg (Bu f)) a=some (bif Nx f a x then(x,Dy f x.toNat 0,true) else(-1,-1,false)):=by
 have hxn:x.toNat<f.Blocks.length:=by have:=hx.1;have:=hx.2;omega
 unfold Gr Nx;rw[Aa hx]
 have hlen:As x (Cg (Bu f)).length:=by rw[rf];exact hx
 rw[Aa (λ_=>hlen)]
 by_cases hk:(bA f x.toNat).End.Kind=1
 ·have hk':((f.Blocks.getD x.toNat default).End.Kind !=1)=false:=by simpa using hk
  have hto:=R.one _ hxn hk
  by_cases hp:(bA f x.toNat).Phis.length=0
  ·have hp':decide ((0:Int)<(f.Blocks.getD x.toNat default).Phis.length)=false:=by grind
   rw[hk',Ar,hp',show(false==false)=true from rfl,Af,QW _ _ (by simp),Ak]
   have e1:((bA f x.toNat).End.Kind==1)=true:=by simpa using hk
   rw[e1,Gi hp,Hn];unfold JA Dy
   cases decide ((Cg _).getD _ []=[a]) with
   | true=>rw[C0, Aa (show As 0 _ from⟨by omega,by grind⟩)];rfl
   | false=>rfl
  ·grind
 ·grind
def zH:THammock:=⟨0,0,0,0⟩
def mv(f:TFunc)(a:Int)(x y:Int):Bool:=Nx f a x&&Nx f a y&&(Dy f x.toNat 0==Dy f y.toNat 0)&&!(Dy f x.toNat 0==a)
def YR(f:TFunc)(a:Int)(x y:Int):Bool:=Nx f a x&&(Dy f x.toNat 0==y)&&!(y==a)
def DB(f:TFunc)(i:Nat):Option THammock:=
 bif ((bA f i).End.Kind==2)&&!(Dy f i 0==Dy f i 1) then
  bif mv f i (Dy f i 0) (Dy f i 1) then some ⟨i,Dy f i 0,Dy f i 1,Dy f (Dy f i 0).toNat 0⟩ else
  bif YR f i (Dy f i 0) (Dy f i 1) then some ⟨i,Dy f i 0,-1,Dy f i 1⟩ else
  bif YR f i (Dy f i 1) (Dy f i 0) then some ⟨i,-1,Dy f i 1,Dy f i 0⟩ else none
 else none
section
variable {f:TFunc} (R:Rt f) {a:Int} {i:Nat} (hi:i<f.Blocks.length) (hk:(bA f i).End.Kind=2)
include R hi hk
theorem Qp(k:Nat)(hk2:k<2):As (Dy f i k) f.Blocks.length:=by
 have:=R.to i hi k (by rw[R.two i hi hk];exact hk2);exact⟨by omega,this.2⟩
theorem vF:Nr i (bA f i).End.To f.Blocks (Cg (Bu f)) i f.Blocks (Cg (Bu f)) i =
  some (bif mv f i (Dy f i 0) (Dy f i 1) then(⟨i,Dy f i 0,Dy f i 1,Dy f (Dy f i 0).toNat 0⟩,true) else(zH,false)):=by
 have h2:=R.two i hi hk;unfold Nr;rw[Aa (⟨by omega,by omega⟩)];have e0:=vC R i _ (Qp R hi hk 0 (by omega));have e1:=vC R i _ (Qp R hi hk 1 (by omega));have g0:(bA f i).End.To.getD (0:Int).toNat 0=Dy f i 0:=rfl;have g1:(bA f i).End.To.getD (1:Int).toNat 0=Dy f i 1:=rfl;rw[g0,g1,e0,Ak,Aa (⟨by omega,by omega⟩),e1,Ak];unfold mv
 cases Nx f i _ with
 | false=>rfl
 | true=>
  cases Nx f i _ with
  | false=>rfl
  | true=>
   simp only[Af,   bne]
   cases(Dy f _ 0==Dy f _ 0) with
   | false=>rfl
   | true=>cases(Dy f _ 0==i)<;>rfl
theorem vG:K7 i (bA f i).End.To f.Blocks (Cg (Bu f)) i =
  some (bif YR f i (Dy f i 0) (Dy f i 1) then(⟨i,Dy f i 0,-1,Dy f i 1⟩,true) else(zH,false)):=by
 have h2:=R.two i hi hk;unfold K7;rw[Aa (⟨by omega,by omega⟩)];have e0:=vC R i _ (Qp R hi hk 0 (by omega));have g0:(bA f i).End.To.getD (0:Int).toNat 0=Dy f i 0:=rfl;have g1:(bA f i).End.To.getD (1:Int).toNat 0=Dy f i 1:=rfl;rw[g0,g1,e0,Ak,Aa (⟨by omega,by omega⟩),K9,Ak];unfold YR
 cases Nx f i _ with
 | false=>rfl
 | true=>
  simp only[Af,   bne]
  cases h:(Dy f _ 0==Dy f i 1) with
  | false=>rfl
  | true=>
   have h' :=by simpa using h
   rw[h']
   cases(Dy f i 1==i)<;>rfl
theorem vH:K8 i (bA f i).End.To f.Blocks (Cg (Bu f)) i =
  some (bif YR f i (Dy f i 1) (Dy f i 0) then(⟨i,-1,Dy f i 1,Dy f i 0⟩,true) else(zH,false)):=by
 have h2:=R.two i hi hk;unfold K8;rw[Aa (⟨by omega,by omega⟩)];have e1:=vC R i _ (Qp R hi hk 1 (by omega));have g0:(bA f i).End.To.getD (0:Int).toNat 0=Dy f i 0:=rfl;have g1:(bA f i).End.To.getD (1:Int).toNat 0=Dy f i 1:=rfl;rw[g0,g1,K9,Ak,Aa (⟨by omega,by omega⟩),e1,Ak];unfold YR
 cases Nx f i _ with
 | false=>rfl
 | true=>
  simp only[Af,   bne];rw[show(Dy f i 0==Dy f _ 0)=(Dy f (Dy f i 1).toNat 0==Dy f i 0) by grind]
  cases(Dy f _ 0==Dy f i 0) with
  | false=>rfl
  | true=>cases(Dy f i 0==i)<;>rfl
end
def bW(f:TFunc):List THammock:=(List.range f.Blocks.length).flatMap λi=>(DB f i).toList
theorem ao{α:Type}(o:Option α):o.toList.length<=1:=by cases o<;>simp
theorem pZ{f:TFunc}(R:Rt f){i:Nat}(hi:i<f.Blocks.length)(l:List THammock)(hl:l.length<=0+i*1)(c:Int) :
  Ot f (Kp (Bu f),c) (l,(i:Int))=some (.next (l++(DB f i).toList,(i:Int)+1)):=by
 have hroom:(1000:Nat)<=room:=by decide
 have hi64:=R.hi;unfold Ot DB;have hg:f.Blocks.getD (i:Int).toNat default=bA f i:=rfl;simp only[hg,Bo hi,Af,Aa (Ag hi),w1 (show i<4611686018427387904 by omega)]
 have hap:∀ h:THammock,l.length+[h].length<=room:=λh=>by simp;omega
 have ie :=by omega
 by_cases hk:(bA f i).End.Kind=2
 ·have hk':((bA f i).End.Kind !=2)=false:=by simpa using hk
  have hk2:((bA f i).End.Kind==2)=true:=by simpa using hk
  have h2:=R.two i hi hk;have i0:As (0:Int) (bA f i).End.To.length:=⟨by omega,by omega⟩;have i1:As (1:Int) (bA f i).End.To.length:=⟨by omega,by omega⟩;simp only[hk',hk2,Aa (λ_=>i0),Aa (λ_=>i1),Ar];have g0:(bA f i).End.To.getD (0:Int).toNat 0=Dy f i 0:=rfl;have g1:(bA f i).End.To.getD (1:Int).toNat 0=Dy f i 1:=rfl;rw[g0,g1]
  cases(Dy f i 0==Dy f i 1) with
  | true=>simp[ie]
  | false=>
   have hpred:(Kp (Bu f)).Pred=Cg (Bu f):=rfl;simp only[Ar, Af,T6,Ak,hpred,vF R hi hk,vG R hi hk,vH R hi hk]
   cases mv f i (Dy f i 0) (Dy f i 1) with
   | true =>  rw[Ac (hap _)];simp[ie]
   | false=>
    simp only[Ar]
    cases YR f i (Dy f i 0) (Dy f i 1) with
    | true =>  rw[Ac (hap _)];simp[ie]
    | false=>
     simp only[Ar]
     cases YR f i (Dy f i 1) (Dy f i 0) with
     | true =>  rw[Ac (hap _)];simp[ie]
     | false=>simp[ie]
 ·have hk':((bA f i).End.Kind !=2)=true:=by simpa using hk
  have hk2:((bA f i).End.Kind==2)=false:=by simpa using hk
  simp only[hk',hk2,Af, Ar];rw[Aa (λh=>by cases h),Aa (λh=>by cases h)];simp[ie]
theorem Ab8{f:TFunc}(h:Sm f):Lw f=some (bif G5 f 2==0 then bW f else[]):=by
 have hmax :=h.1.blocks;unfold Lw;rw[vD f 2 h,Ak]
 by_cases hc:G5 f 2=0
 ·have R:=DW h hc
  have hs :=by
   have:=((N4   (by omega) (by omega)).1 hc).2.1;unfold Fq at this;rw[A4]at this;exact this.1
  rw[hc,show((0:Int)!=0)=false from rfl,show((0:Int)==0)=true from rfl,  Aca f hmax,hs,Af,Ak];have hL:=Ma _ 0 1 _ (λi _=>ao _) _ (λacc i hi ha=>pZ R hi acc ha 0)
   (λacc=>by unfold Ot;simp only[Cm,Ar]) f.Blocks.length 0 [] (by omega) (by simp)
  have hL':Ad _ ([],(0:Int))=_:=hL;rw[hL'];unfold Ua bW;rw[Sp];rfl
 ·have e1:((G5 f 2)!=0)=true:=by simpa using hc
  have e2:((G5 f 2)==0)=false:=by simpa using hc
  rw[e1,e2,Af]
  rfl
theorem loop_first{X:Type}(f:Int->Option (LR Int X))(p:Nat->Bool)(out:Nat->X)(no:X)(n:Nat)(hn:∀ i,i<n->p i=false->f (i:Int)=some (.next (((i+1:Nat):Int))))
  (hf:∀ i,i<n->p i=true->f (i:Int)=some (.done (out i))) (he:f (n:Int)=some (.done no)) :
  (∃ i,i<n/\p i=true/\Ad f (0:Int)=some (out i))\/((∀ i,i<n->p i=false)/\Ad f (0:Int)=some no):=by
 suffices h:∀ k i,i+k=n->(∀ j,j<i->p j=false)->(∃ i',i'<n/\p i'=true/\Ad f (i:Int)=some (out i'))\/((∀ i,i<n->p i=false)/\Ad f (i:Int)=some no) from
  h n 0 (by omega) (λj hj=>absurd hj (V2 _))
 intro k
 induction k with
 | zero=>
  intro i hi hj
  obtain rfl:i=n:=by omega
  exact .inr ⟨hj,Am he⟩
 | succ k ih=>
  intro i hi hj
  cases hp:p i with
  | true=>exact .inl ⟨i,by omega,hp,Am (hf i (by omega) hp)⟩
  | false=>
   rw[Aq (hn i (by omega) hp)];refine ih (i+1) (by omega) λj hj2=>?_
   by_cases e:j=i
   ·subst e;exact hp
   ·exact hj j (by omega)
theorem iX{f:TFunc}{i:Nat}{h:THammock}(hh:DB f i=some h):h.At=i:=by
 unfold DB at hh
 revert hh
 cases(((bA f i).End.Kind==2)&&!(Dy f i 0==Dy f i 1))<;>cases mv f i (Dy f i 0) (Dy f i 1)<;>cases YR f i (Dy f i 0) (Dy f i 1)<;>cases YR f i (Dy f i 1) (Dy f i 0)<;>intro hh<;>cases hh<;>rfl
theorem mem_all{f:TFunc}{h:THammock}:h∈bW f↔∃ i,i<f.Blocks.length/\DB f i=some h:=by
 unfold bW;rw[zzL74]
 constructor
 ·rintro⟨i,h1,h2⟩;exact⟨i,zzL82.1 h1,by simpa using h2⟩
 ·rintro⟨i,h1,h2⟩;exact⟨i,zzL82.2 h1,by simpa using h2⟩
theorem u4{f:TFunc}:(bW f).length<=f.Blocks.length:=by
 unfold bW;have:=Js 1 (λi=>(DB f i).toList) (List.range f.Blocks.length) (λi _=>ao _)
 simpa using this
def tb(f:TFunc)(h:THammock):Bool:=decide (As h.At f.Blocks.length)&&decide (DB f h.At.toNat=some h)
theorem is_mem{f:TFunc}{h:THammock}:tb f h=true↔h∈bW f:=by
 unfold tb;rw[mem_all,A4,Jd,Jd]
 constructor
 ·rintro⟨h1,h2⟩;exact⟨_,by have:=h1.1;have:=h1.2;omega,h2⟩
 ·rintro⟨i,h1,h2⟩;have:=iX h2;exact⟨by rw[this];exact Ag h1,by rw[this,Ap];exact h2⟩
def ZA(f:TFunc)(a:Int):THammock×Bool:=if As a f.Blocks.length then(match DB f a.toNat with|some h=>(h,true)|none=>(zH,false)) else(zH,false)
theorem nG{f:TFunc}{h:THammock}(hh:tb f h=true):ZA f h.At=(h,true):=by
 unfold tb at hh;rw[A4,Jd,Jd]at hh;unfold ZA;rw[if_pos hh.1,hh.2]
theorem nF{f:TFunc}{a:Int}(hh:∀ h,tb f h=true->h.At≠a):ZA f a=(zH,false):=by
 unfold ZA
 split
 ·rename_i hin
  cases ho:DB f a.toNat with
  | none=>rfl
  | some h=>
   have e:=iX ho;have:((a.toNat:Nat):Int)=a:=Mi hin.1;exact absurd (e.trans this) (hh h (is_mem.2 (mem_all.2 ⟨_,by have:=hin.1;have:=hin.2;omega,ho⟩)))
 ·rfl
def R0(f:TFunc):Bool:=G5 f 2==0
def allHR(f:TFunc):List THammock:=bif R0 f then bW f else[]
def K0(f:TFunc)(h:THammock):Bool:=R0 f&&tb f h
def Yy(f:TFunc)(a:Int):THammock×Bool:=bif R0 f then ZA f a else(zH,false)
theorem isHR_mem{f:TFunc}{h:THammock}:K0 f h=true↔h∈allHR f:=by
 unfold K0 allHR
 cases R0 f with
 | true=>rw[Hn];exact is_mem
 | false=>simp
theorem ip{f:TFunc}(h:Sm f):Lw f=some (allHR f):=Ab8 h
theorem mn{f:TFunc}:(allHR f).length<=f.Blocks.length:=by
 unfold allHR;cases R0 f
 ·simp
 ·exact u4
theorem lf{f:TFunc}(h:Sm f):(allHR f).length<4611686018427387904:=by
 by_cases hc:R0 f=true
 ·have:=(DW h (by simpa [R0] using hc)).hi;have:=mn (f:=f);omega
 ·unfold allHR;rw[Bool.eq_false_iff.2 hc];simp
theorem qi(v x:THammock):((v.At==x.At)&&((v.Then==x.Then)&&((v.Else==x.Else)&&((v.Join==x.Join)&&true))))=decide (v=x):=by
 cases v;cases x
 rw[Ul];simp[THammock.mk.injEq]
theorem Ad5{f:TFunc}(h:Sm f)(v:THammock):Uu f v=some (K0 f v):=by
 unfold Uu Dn Eg;rw[ip h,Ak];have hn:=lf h
 rcases loop_first (m_slices_Index_api_Hammock_api_Hammock_L1 (allHR f) v) (λi=>decide (v=(allHR f).getD i default)) (λi=>.inr (i:Int)) (.inl ()) (allHR f).length (λi hi hp=>by
   unfold m_slices_Index_api_Hammock_api_Hammock_L1
   simp only[Bo hi,Af,Ap,Aa (Ag hi),qi,hp,Ar,w1 (show i<4611686018427387904 by omega)]) (λi hi hp=>by
   unfold m_slices_Index_api_Hammock_api_Hammock_L1
   simp only[Bo hi,Af,Ap,Aa (Ag hi),qi,hp]) (by unfold m_slices_Index_api_Hammock_api_Hammock_L1;simp only[Cm,Ar]) with⟨i,hi,hp,hl⟩|⟨hp,hl⟩
 ·rw[hl];have hm:K0 f v=true:=isHR_mem.2 (by rw[Jd]at hp;rw[hp];exact Ah hi);rw[hm]
  simp
 ·rw[hl]
  have hm:K0 f v=false:=by
   rw[Bool.eq_false_iff];intro hm;obtain⟨i,hi,he⟩:=Nc (isHR_mem.1 hm);have:=hp i hi;rw[Ao _ _ _ hi,he]at this;simp at this
  rw[hm];rfl
def Mk(f:TFunc)(x:Int):List Ay:=bif x !=-1 then(bA f x.toNat).Ops else[]
def Vm(f:TFunc)(h:THammock):List Ay:=Mk f h.Then++Mk f h.Else
theorem bi{f:TFunc}(R:Rt f){i:Nat}(hi:i<f.Blocks.length){h:THammock}(hh:DB f i=some h) :
  (bA f i).End.Kind=2/\Dy f i 0≠Dy f i 1/\As h.Join f.Blocks.length/\h.Join≠i /\
  ((h.Then=Dy f i 0/\h.Else=Dy f i 1/\Nx f i h.Then=true/\Nx f i h.Else=true/\Dy f h.Then.toNat 0=h.Join/\Dy f h.Else.toNat 0=h.Join)\/(h.Then=Dy f i 0/\h.Else = -1/\h.Join=Dy f i 1/\Nx f i h.Then=true/\Dy f h.Then.toNat 0=h.Join)\/(h.Then = -1/\h.Else=Dy f i 1/\h.Join=Dy f i 0/\Nx f i h.Else=true/\Dy f h.Else.toNat 0=h.Join)):=by
 unfold DB at hh
 cases hk:(((bA f i).End.Kind==2)&&!(Dy f i 0==Dy f i 1)) with
 | false=>rw[hk]at hh;cases hh
 | true=>
  rw[hk,Af]at hh;simp only[A4,zzL45,Qr,zzL34]at hk;obtain⟨hk1,hk2⟩:=hk;have t0:=Qp R hi hk1 0 (by omega);have t1:=Qp R hi hk1 1 (by omega)
  have hb:∀ x,As x f.Blocks.length->Nx f i x=true->As (Dy f x.toNat 0) f.Blocks.length:=λx hx hm=>by
   have hxn:x.toNat<f.Blocks.length:=by have:=hx.1;have:=hx.2;omega
   unfold Nx at hm;simp only[A4,zzL45]at hm;have:=R.to _ hxn 0 (by rw[R.one _ hxn hm.1.1];omega);exact⟨by omega,this.2⟩
  refine⟨hk1,hk2,?_⟩
  cases h1:mv f i (Dy f i 0) (Dy f i 1) with
  | true=>
   rw[h1,Af]at hh;cases hh;unfold mv at h1;simp only[A4,zzL45,Qr,zzL34]at h1;obtain⟨⟨⟨a1,a2⟩,a3⟩,a4⟩:=h1;exact⟨hb _ t0 a1,a4,.inl ⟨rfl,rfl,a1,a2,rfl,a3.symm⟩⟩
  | false=>
   rw[h1,Ar]at hh
   cases h2:YR f i (Dy f i 0) (Dy f i 1) with
   | true=>
    rw[h2,Af]at hh;cases hh;unfold YR at h2;simp only[A4,zzL45,Qr,zzL34]at h2;obtain⟨⟨a1,a3⟩,a4⟩:=h2;exact⟨t1,a4,.inr (.inl ⟨rfl,rfl,rfl,a1,a3⟩)⟩
   | false=>
    rw[h2,Ar]at hh
    cases h3:YR f i (Dy f i 1) (Dy f i 0) with
    | true=>
     rw[h3,Af]at hh;cases hh;unfold YR at h3;simp only[A4,zzL45,Qr,zzL34]at h3;obtain⟨⟨a1,a3⟩,a4⟩:=h3;exact⟨t0,a4,.inr (.inr ⟨rfl,rfl,rfl,a1,a3⟩)⟩
    | false=>rw[h3]at hh;cases hh
theorem Xw{f:TFunc}(R:Rt f){i:Nat}(hi:i<f.Blocks.length){h:THammock}(hh:DB f i=some h):(h.Then = -1\/As h.Then f.Blocks.length)/\(h.Else = -1\/As h.Else f.Blocks.length):=by
 obtain⟨hk,_,_,_,hc⟩:=bi R hi hh;have t0:=Qp R hi hk 0 (by omega);have t1:=Qp R hi hk 1 (by omega);rcases hc with⟨a,b,_⟩|⟨a,b,_⟩|⟨a,b,_⟩
 ·exact⟨.inr (a▸t0),.inr (b▸t1)⟩
 ·exact⟨.inr (a▸t0),.inl b⟩
 ·exact⟨.inl a,.inr (b▸t1)⟩
theorem Mf{f:TFunc}(R:Rt f){x:Int}(hx:x = -1\/As x f.Blocks.length):(Mk f x).length<=512:=by
 unfold Mk
 by_cases e:x = -1
 ·subst e;exact Yh _
 ·rcases hx with hx|hx
  ·exact absurd hx e
  ·rw[show(x !=-1)=true by simpa using e,Af];exact(R.ok.block _ (Ah (by have:=hx.1;have:=hx.2;omega))).ops
theorem dy{f:TFunc}(R:Rt f)(h:THammock){k:Nat}(hk:k<2)(x:Int)(he:([h.Then,h.Else]:List Int).getD k 0=x)(hx:x = -1\/As x f.Blocks.length)(l:List Ay)(hl:l.length<=512) :
  Ee f h (l,(k:Int))=some (.next (l++Mk f x,((k+1:Nat):Int))):=by
 have hroom:(2000:Nat)<=room:=by decide
 unfold Ee;have hlen:=Mf R hx;simp only[Ap,he,Bo (show k<([h.Then,h.Else]:List Int).length from hk),Af,Aa (Ag (show k<([h.Then,h.Else]:List Int).length from hk)),w1 (show k<4611686018427387904 by omega)];unfold Mk at hlen ⊢
 by_cases e:x = -1
 ·subst e;rw[show((-1:Int)!=-1)=false from rfl,Ar,Ar,Ak,List.append_nil]
 ·have e':(x !=-1)=true:=by simpa using e
  rw[e']at hlen ⊢;rcases hx with hx|hx
  ·exact absurd hx e
  ·rw[Af]at hlen;rw[Af,Aa hx,Af,Aa (show l.length+(bA f x.toNat).Ops.length<=room by omega),Ak]
theorem xS{f:TFunc}(h:Sm f)(v:THammock):K6 f v=some (bif K0 f v then(Vm f v,true) else([],false)):=by
 unfold K6;rw[Ad5 h,Ak]
 cases hi:K0 f v with
 | false=>rfl
 | true=>
  rw[C0,Ar,Af];unfold K0 at hi;rw[A4]at hi;have R:=DW h (by simpa [R0] using hi.1);obtain⟨i,hin,ho⟩:=mem_all.1 (is_mem.1 hi.2);obtain⟨h1,h2⟩:=Xw R hin ho;have s0:=dy R v (k:=0) (by omega) v.Then rfl h1 [] (by simp);have s1:=dy R v (k:=1) (by omega) v.Else rfl h2 ([]++Mk f v.Then) (by rw[Um];exact Mf R h1)
  have hL:Ad (Ee f v) (([]:List Ay),(0:Int))=some (Vm f v):=by
   have e0:Ad (Ee f v) (([]:List Ay),(0:Int))=_:=Aq s0;rw[e0];have e1:Ad (Ee f v) ([]++Mk f v.Then,((0+1:Nat):Int))=_:=Aq s1;rw[e1];refine Am ?_;unfold Ee Vm;rw[Um];rfl
  rw[hL];rfl
theorem zM{f:TFunc}(h:Sm f)(v:THammock):Oc f v=some (bif K0 f v then((Vm f v).length:Int) else 0):=by
 unfold Oc;rw[xS h,Ak]
 cases K0 f v<;>rfl
theorem vj(l:List Ay)(hl:l.length<4611686018427387904):Dc l=some (l.any λo=>o.Lanes !=1):=by
 unfold Dc Gw
 rcases loop_first (m_slices_IndexFunc_api_Op_api_Op_L1 l) (λi=>(l.getD i default).Lanes !=1) (λi=>.inr (i:Int)) (.inl ()) l.length (λi hi hp=>by
   unfold m_slices_IndexFunc_api_Op_api_Op_L1
   simp only[Bo hi,Af,Ap,Aa (Ag hi),Mu,Ak,hp,Ar,w1 (show i<4611686018427387904 by omega)]) (λi hi hp=>by
   unfold m_slices_IndexFunc_api_Op_api_Op_L1
   simp only[Bo hi,Af,Ap,Aa (Ag hi),Mu,Ak,hp]) (by unfold m_slices_IndexFunc_api_Op_api_Op_L1;simp only[Cm,Ar]) with⟨i,hi,hp,hl⟩|⟨hp,hl⟩
 ·rw[hl,List.any_eq_true.2 ⟨_,Ah hi,hp⟩]
  simp
 ·rw[hl]
  have:(l.any λo=>o.Lanes !=1)=false:=by
   rw[Bool.eq_false_iff];intro h;obtain⟨o,ho,hb⟩:=List.any_eq_true.1 h;obtain⟨i,hi,he⟩:=Nc ho;have:=hp i hi;rw[Ao _ _ _ hi,he,hb]at this
   cases this
  rw[this];rfl
def P8(f:TFunc)(v:THammock):Bool:=K0 f v&&(Vm f v).all λo=>o.Lanes==1
theorem fX{f:TFunc}(h:Sm f){v:THammock}(hi:K0 f v=true):(Vm f v).length<=1024:=by
 unfold K0 at hi;rw[A4]at hi;have R:=DW h (by simpa [R0] using hi.1);obtain⟨i,hin,ho⟩:=mem_all.1 (is_mem.1 hi.2);obtain⟨h1,h2⟩:=Xw R hin ho;have:=Mf R h1;have:=Mf R h2;unfold Vm;rw[G3];omega
theorem qv{f:TFunc}(h:Sm f)(v:THammock):Ou f v=some (P8 f v):=by
 unfold Ou P8;rw[xS h,Ak]
 cases hi:K0 f v with
 | false=>rfl
 | true=>
  have hl:=fX h hi;simp only[Af,show((true:Bool)==true)=true from rfl,vj _ (show(Vm f v).length<4611686018427387904 by omega),Ak,Hn]
  congr 1
  rw[List.not_any_eq_all_not]
  congr 1
  funext o
  simp[bne]
theorem wI(l:List Int)(a:Int):(bif ((l.length:Int)==1) then(l.getD (0:Int).toNat 0==a) else false)=decide (l=[a]):=by
 rcases l with _|⟨x,_|⟨y,l⟩⟩
 ·rfl
 ·rw[Ul];simp
 ·simp only[Tz];rw[show((((l.length+1+1:Nat)):Int)==1)=false by simp;omega,Ar]
  simp
theorem q8{f:TFunc}(R:Rt f)(a t x j:Int)(ht:As t f.Blocks.length) :
  Gd f (Kp (Bu f)) a t x j=some (bif x==-1 then t==j else(x==t)&&(Nx f a x&&(Dy f x.toNat 0==j))):=by
 unfold Gd
 cases hx:(x==-1) with
 | true=>rfl
 | false=>
  rw[Ar,Ar]
  by_cases e:x=t
  ·subst e;have hp:(Kp (Bu f)).Pred=Cg (Bu f):=rfl
   have hpl:As x (Cg (Bu f)).length:=by rw[rf];exact ht
   have hxn:x.toNat<f.Blocks.length:=by have:=ht.1;have:=ht.2;omega
   have eb:f.Blocks.getD x.toNat default=bA f x.toNat:=rfl;have ep:(Cg (Bu f)).getD x.toNat []=JA f x.toNat:=rfl;rw[show(x !=x)=false by simp,Ar,show(x==x)=true by simp,Hn,hp,eb,ep,Aa ht,Aa hpl,Aa (λ_=>hpl),wI]
   have c0:∀ q:Bool,((((JA f x.toNat).length:Int)==1)==true)=true->As (0:Int) (JA f x.toNat).length:=λ_ hq=>by
    have:((JA f x.toNat).length:Int)=1:=by simpa using hq
    exact⟨by omega,by omega⟩
   rw[Aa (c0 true)]
   have e2:(((((bA f x.toNat).Phis.length:Int):Int)==0))=decide ((bA f x.toNat).Phis.length=0):=by rw[Ul];simp
   rw[e2]
   have e3:(bif (bif decide (JA f x.toNat=[a]) then decide ((bA f x.toNat).Phis.length=0) else false) then((bA f x.toNat).End.Kind==1) else false)=Nx f a x:=by
    unfold Nx
    cases decide (JA f x.toNat=[a])<;>cases decide ((bA f x.toNat).Phis.length=0)<;>cases((bA f x.toNat).End.Kind==1)<;>rfl
   rw[e3,Aa (λhq=>by
    have hm:Nx f a x=true:=by simpa using hq
    unfold Nx at hm;simp only[A4,zzL45]at hm
    exact⟨by omega,by rw[R.one _ hxn hm.1.1];omega⟩)]
   cases Nx f a x<;>rfl
  ·rw[show(x !=t)=true by simpa using e,Af,show(x==t)=false by simpa using e,HD]
def fp(f:TFunc)(a t x j:Int):Bool:=bif x==-1 then t==j else(x==t)&&(Nx f a x&&(Dy f x.toNat 0==j))
def isD(f:TFunc)(h:THammock):Bool:=
 decide (As h.At f.Blocks.length)&&decide (As h.Join f.Blocks.length)&&!(h.At==h.Join)&&!((h.Then==-1)&&(h.Else==-1)) &&
 (((bA f h.At.toNat).End.Kind==2)&&!(Dy f h.At.toNat 0==Dy f h.At.toNat 1))&&(fp f h.At (Dy f h.At.toNat 0) h.Then h.Join&&fp f h.At (Dy f h.At.toNat 1) h.Else h.Join)
theorem qx{f:TFunc}(h:Sm f)(v:THammock):Hs f v=some (R0 f&&isD f v):=by
 have hmax:f.Blocks.length<=maxLen:=h.1.blocks;unfold Hs;rw[OK h 2,Ak]
 cases hc:R0 f with
 | false=>
  have:(G5 f 2 !=0)=true:=by unfold R0 at hc;simpa using hc
  rw[this,Af,HD]
 | true=>
  have hc0:G5 f 2=0:=by simpa [R0] using hc
  have R:=DW h hc0
  have hs:Sb f=true:=by
   have:=((N4 (f:=f) (l:=2) (by omega) (by omega)).1 hc0).2.1;unfold Fq at this;rw[A4]at this;exact this.1
  rw[hc0,show((0:Int)!=0)=false from rfl,Ar,Hn];unfold isD
  have e1:(bif (bif (bif (decide (v.At<0)) then true else(decide ((f.Blocks.length:Int)<=v.At))) then true else(decide (v.Join<0))) then true else(decide ((f.Blocks.length:Int)<=v.Join))) = !(decide (As v.At f.Blocks.length)&&decide (As v.Join f.Blocks.length)):=by
   simp only[YQ];rw[Ul];simp only[EN,Jd,Qr,Bool.and_eq_false_iff,UX];unfold As;omega
  rw[e1]
  by_cases hA:As v.At f.Blocks.length
  ·by_cases hJ:As v.Join f.Blocks.length
   ·rw[Gi hA,Gi hJ]
    have hAn:v.At.toNat<f.Blocks.length:=by have:=hA.1;have:=hA.2;omega
    cases hAJ:(v.At==v.Join) with
    | true=>rfl
    | false=>
     have e2:(bif (v.Then==-1) then(v.Else==-1) else false)=((v.Then==-1)&&(v.Else==-1)):=by cases(v.Then==-1)<;>rfl
     rw[e2]
     cases hTE:((v.Then==-1)&&(v.Else==-1)) with
     | true=>rfl
     | false=>
      have eb:f.Blocks.getD v.At.toNat default=bA f v.At.toNat:=rfl;simp only[Hn,C0,J0,Ar,Aa hA,eb]
      by_cases hk:(bA f v.At.toNat).End.Kind=2
      ·have h2:=R.two _ hAn hk;have i0:As (0:Int) (bA f v.At.toNat).End.To.length:=⟨by omega,by omega⟩;have i1:As (1:Int) (bA f v.At.toNat).End.To.length:=⟨by omega,by omega⟩;have g0:(bA f v.At.toNat).End.To.getD (0:Int).toNat 0=Dy f v.At.toNat 0:=rfl;have g1:(bA f v.At.toNat).End.To.getD (1:Int).toNat 0=Dy f v.At.toNat 1:=rfl;rw[Aa (λ_=>i0),Aa (λ_=>i1),g0,g1,show((bA f v.At.toNat).End.Kind !=2)=false by simpa using hk,show((bA f v.At.toNat).End.Kind==2)=true by simpa using hk,Ar,Hn]
       cases(Dy f v.At.toNat 0==Dy f v.At.toNat 1) with
       | true=>rfl
       | false=>
        rw[Ar,SR f hmax,hs,Af,Ak,Aa i0]
        show((Gd f (Kp (Bu f)) v.At (Dy f v.At.toNat 0) v.Then v.Join).bind _)=_
        rw[q8 R _ _ _ _ (Qp R hAn hk 0 (by omega)),Ak,Aa (λ_=>i1),q8 R _ _ _ _ (Qp R hAn hk 1 (by omega))];unfold fp
        cases(bif v.Then==-1 then Dy f v.At.toNat 0==v.Join else(v.Then==Dy f v.At.toNat 0)&&(Nx f v.At v.Then&&(Dy f v.Then.toNat 0==v.Join)))<;>rfl
      ·have e5:((bA f v.At.toNat).End.Kind !=2)=true:=by simpa using hk
       have e6:((bA f v.At.toNat).End.Kind==2)=false:=by simpa using hk
       rw[e5,e6,Af,Aa (λh=>by cases h),Aa (λh=>by cases h)]
       rfl
   ·rw[Gi hA,Db hJ];rfl
  ·rw[Db hA];rfl
theorem rF{f:TFunc}(R:Rt f){a:Int}{x:Int}(hx:As x f.Blocks.length)(hm:Nx f a x=true){p:Nat}(hp:p<f.Blocks.length){k:Nat}(hk:k<(bA f p).End.To.length)(ht:Dy f p k=x):(p:Int)=a:=by
 have hxn:x.toNat<f.Blocks.length:=by have:=hx.1;have:=hx.2;omega
 unfold Nx at hm;simp only[A4,Jd]at hm;have:(p:Int)∈JA f x.toNat:=(Zm R hxn).2 ⟨p,rfl,hp,by rw[Mi hx.1,<- ht];exact Ah hk⟩;rw[hm.2]at this
 simpa using this
theorem Pq{f:TFunc}{a x:Int}(hm:Nx f a x=true):(bA f x.toNat).End.Kind=1:=by
 unfold Nx at hm;simp only[A4,zzL45]at hm;exact hm.1.1
theorem zK{f:TFunc}(R:Rt f)(v:THammock):isD f v=tb f v:=by
 rw[Ul]
 constructor
 ·intro h;unfold isD at h;simp only[A4,Jd,Qr,zzL34,zzL45]at h;obtain⟨⟨⟨⟨⟨hA,hJ⟩,hAJ⟩,hTE⟩,hk,hne⟩,h1,h2⟩:=h
  have hAn:v.At.toNat<f.Blocks.length:=by have:=hA.1;have:=hA.2;omega
  have hAc:((v.At.toNat:Nat):Int)=v.At:=Mi hA.1;have t0:=Qp R hAn hk 0 (by omega);have t1:=Qp R hAn hk 1 (by omega);unfold tb;rw[A4,Jd,Jd];refine⟨hA,?_⟩;unfold DB;rw[show((bA f v.At.toNat).End.Kind==2)=true by simpa using hk,show(Dy f v.At.toNat 0==Dy f v.At.toNat 1)=false by simpa using hne,Hn,J0,Af,hAc]
  have hno:∀ x y:Int,As x f.Blocks.length->As y f.Blocks.length->Nx f v.At y=true->Dy f y.toNat 0=x->Nx f v.At x=true->False:=λx y hx hy my hyx mx=>by
   have hyn:y.toNat<f.Blocks.length:=by have:=hy.1;have:=hy.2;omega
   have:=rF R hx mx hyn (k:=0) (by rw[R.one _ hyn (Pq my)];omega) hyx
   have e:v.At.toNat=y.toNat:=by omega
   have:=Pq my;rw[<- e,hk]at this;exact absurd this (by decide)
  unfold fp at h1 h2
  by_cases eT:v.Then = -1
  ·have eE:v.Else≠-1:=λe=>by rw[eT,e]at hTE;cases hTE
   rw[show(v.Then==-1)=true by simpa using eT,Af,zzL45]at h1;rw[show(v.Else==-1)=false by simpa using eE,Ar,A4,A4,zzL45,zzL45]at h2;obtain⟨b1,b2,b3⟩:=h2;have b2':=b2;rw[b1]at b2 b3
   have hm0:Nx f v.At (Dy f v.At.toNat 0)=false:=by
    rw[Bool.eq_false_iff];exact λhm=>hno _ _ t0 t1 b2 (by rw[b3,h1]) hm
   have c1:mv f v.At (Dy f v.At.toNat 0) (Dy f v.At.toNat 1)=false:=by unfold mv;rw[hm0];rfl
   have c2:YR f v.At (Dy f v.At.toNat 0) (Dy f v.At.toNat 1)=false:=by unfold YR;rw[hm0];rfl
   have c3:YR f v.At (Dy f v.At.toNat 1) (Dy f v.At.toNat 0)=true:=by
    unfold YR;rw[b2,b3,h1]
    simp;exact λe=>hAJ e.symm
   rw[c1,c2,c3,Ar,Ar,Af]
   cases v;simp_all
  ·rw[show(v.Then==-1)=false by simpa using eT,Ar,A4,A4,zzL45,zzL45]at h1;obtain⟨a1,a2,a3⟩:=h1;rw[a1]at a2 a3
   by_cases eE:v.Else = -1
   ·rw[show(v.Else==-1)=true by simpa using eE,Af,zzL45]at h2
    have hm1:Nx f v.At (Dy f v.At.toNat 1)=false:=by
     rw[Bool.eq_false_iff];exact λhm=>hno _ _ t1 t0 a2 (by rw[a3,h2]) hm
    have c1:mv f v.At (Dy f v.At.toNat 0) (Dy f v.At.toNat 1)=false:=by unfold mv;rw[hm1,Bool.and_false];rfl
    have c2:YR f v.At (Dy f v.At.toNat 0) (Dy f v.At.toNat 1)=true:=by
     unfold YR;rw[a2,a3,h2]
     simp;exact λe=>hAJ e.symm
    rw[c1,c2,Ar,Af]
    cases v;simp_all
   ·rw[show(v.Else==-1)=false by simpa using eE,Ar,A4,A4,zzL45,zzL45]at h2;obtain⟨b1,b2,b3⟩:=h2;rw[b1]at b2 b3
    have c1:mv f v.At (Dy f v.At.toNat 0) (Dy f v.At.toNat 1)=true:=by
     unfold mv;rw[a2,b2,a3,b3]
     simp;exact λe=>hAJ e.symm
    rw[c1,Af]
    cases v;simp_all
 ·intro h;unfold tb at h;rw[A4,Jd,Jd]at h;obtain⟨hA,ho⟩:=h
  have hAn:v.At.toNat<f.Blocks.length:=by have:=hA.1;have:=hA.2;omega
  have hAc:((v.At.toNat:Nat):Int)=v.At:=Mi hA.1;obtain⟨hk,hne,hJ,hAJ,hc⟩:=bi R hAn ho;have t0:=Qp R hAn hk 0 (by omega);have t1:=Qp R hAn hk 1 (by omega);rw[hAc]at hAJ hc
  have n0:Dy f v.At.toNat 0≠-1:=by have:=t0.1;omega
  have n1:Dy f v.At.toNat 1≠-1:=by have:=t1.1;omega
  unfold isD;simp only[A4,Jd,Qr,zzL34,zzL45];refine⟨⟨⟨⟨⟨hA,hJ⟩,λe=>hAJ e.symm⟩,?_⟩,hk,hne⟩,?_⟩
  ·rcases hc with⟨a,b,_⟩|⟨a,b,_⟩|⟨a,b,_⟩
   ·rw[a];simp[n0]
   ·rw[a];simp[n0]
   ·rw[b];simp[n1]
  ·unfold fp;rcases hc with⟨a,b,c,d,e,g⟩|⟨a,b,c,d,e⟩|⟨a,b,c,d,e⟩
   ·rw[<- a,<- b];rw[show(v.Then==-1)=false by rw[a];simpa using n0,show(v.Else==-1)=false by rw[b];simpa using n1,c,d,e,g]
    simp
   ·rw[<- a,b,<- c];rw[show(v.Then==-1)=false by rw[a];simpa using n0,d,e]
    simp
   ·rw[a,<- b,<- c];rw[show(v.Else==-1)=false by rw[b];simpa using n1,d,e]
    simp
theorem lI{f:TFunc}(h:Sm f)(v:THammock):Hs f v=some (K0 f v):=by
 rw[qx h];unfold K0
 cases hc:R0 f with
 | false=>rfl
 | true=>rw[zK (DW h (by simpa [R0] using hc))]
def oP(f:TFunc)(a:Int)(s:Nat):Int:=bif (s:Int)==2 then -1 else Dy f a.toNat 0
def oO(f:TFunc)(a:Int)(s:Nat):Int:=bif (s:Int)==1 then -1 else Dy f a.toNat 1
theorem vU{f:TFunc}(R:Rt f){a:Int}(hA:As a f.Blocks.length)(hk:(bA f a.toNat).End.Kind=2)(hc:R0 f=true)(h:Sm f)(s:Nat)(hs:s<3) :
  (∃ j,j<f.Blocks.length/\K0 f ⟨a,oP f a s,oO f a s,(j:Int)⟩=true/\Ad (m_lockstepref14_Find_L1 f a (s:Int)) (0:Int)=some (.inr (⟨a,oP f a s,oO f a s,(j:Int)⟩,true))) \/
  ((∀ j,j<f.Blocks.length->K0 f ⟨a,oP f a s,oO f a s,(j:Int)⟩=false)/\Ad (m_lockstepref14_Find_L1 f a (s:Int)) (0:Int)=some (.inl ())):=by
 have hAn:a.toNat<f.Blocks.length:=by have:=hA.1;have:=hA.2;omega
 have h2:=R.two _ hAn hk;have i0:As (0:Int) (bA f a.toNat).End.To.length:=⟨by omega,by omega⟩;have i1:As (1:Int) (bA f a.toNat).End.To.length:=⟨by omega,by omega⟩;have hhi:=R.hi
 have key:∀ j:Nat,j<f.Blocks.length->m_lockstepref14_Find_L1 f a (s:Int) (j:Int)=bif K0 f ⟨a,oP f a s,oO f a s,(j:Int)⟩ then some (.done (.inr (⟨a,oP f a s,oO f a s,(j:Int)⟩,true))) else some (.next (((j+1:Nat):Int))):=λj hj=>by
  unfold m_lockstepref14_Find_L1;have eb:f.Blocks.getD a.toNat default=bA f a.toNat:=rfl;have g0:(bA f a.toNat).End.To.getD (0:Int).toNat 0=Dy f a.toNat 0:=rfl;have g1:(bA f a.toNat).End.To.getD (1:Int).toNat 0=Dy f a.toNat 1:=rfl;simp only[eb,Bo hj,Af,Aa i0,Aa i1,g0,g1]
  have eE:(bif ((s:Int)==1) then(some (-1:Int)) else(some (Dy f a.toNat 1)))=some (oO f a s):=by unfold oO;cases((s:Int)==1)<;>rfl
  have eT:(bif ((s:Int)==2) then(some (-1:Int)) else(some (Dy f a.toNat 0)))=some (oP f a s):=by unfold oP;cases((s:Int)==2)<;>rfl
  rw[eE,Ak,eT,Ak,lI h,Ak,w1 (show j<4611686018427387904 by omega)]
 rcases loop_first (m_lockstepref14_Find_L1 f a (s:Int)) (λj=>K0 f ⟨a,oP f a s,oO f a s,(j:Int)⟩) (λj=>.inr (⟨a,oP f a s,oO f a s,(j:Int)⟩,true)) (.inl ()) f.Blocks.length
  (λj hj hp=>by rw[key j hj,hp];rfl) (λj hj hp=>by rw[key j hj,hp];rfl) (by unfold m_lockstepref14_Find_L1;simp only[Cm,Ar]) with⟨j,hj,hp,hl⟩|⟨hp,hl⟩
 ·exact .inl ⟨j,hj,hp,hl⟩
 ·exact .inr ⟨hp,hl⟩
theorem eQ{f:TFunc}{v:THammock}(hv:K0 f v=true):Yy f v.At=(v,true):=by
 unfold K0 at hv;rw[A4]at hv;unfold Yy;rw[hv.1,Af,nG hv.2]
theorem CW{f:TFunc}{a:Int}(hn:∀ v,K0 f v=true->v.At≠a):Yy f a=(zH,false):=by
 unfold Yy
 cases hc:R0 f with
 | false=>rfl
 | true=>
  rw[Af];exact nF λv hv=>hn v (by unfold K0;rw[hc,hv];rfl)
theorem SE{f:TFunc}(R:Rt f){v:THammock}(hv:K0 f v=true):(bA f v.At.toNat).End.Kind=2/\As v.At f.Blocks.length/\As v.Join f.Blocks.length/\∃ s,s<3/\v.Then=oP f v.At s/\v.Else=oO f v.At s:=by
 unfold K0 tb at hv;simp only[A4,Jd]at hv;obtain⟨hc,hA,ho⟩:=hv
 have hAn:v.At.toNat<f.Blocks.length:=by have:=hA.1;have:=hA.2;omega
 obtain⟨hk,hne,hJ,hAJ,hcs⟩:=bi R hAn ho;refine⟨hk,hA,hJ,?_⟩;rcases hcs with⟨a,b,_⟩|⟨a,b,_⟩|⟨a,b,_⟩
 ·exact⟨0,by omega,a,b⟩
 ·exact⟨1,by omega,a,b⟩
 ·exact⟨2,by omega,a,b⟩
theorem nR{f:TFunc}(h:Sm f)(a:Int):Lq f a=some (Yy f a):=by
 unfold Lq;rw[OK h 2,Ak]
 cases hc:R0 f with
 | false=>
  have e:(G5 f 2 !=0)=true:=by unfold R0 at hc;simpa using hc
  rw[e];simp only[Af];rw[Aa (λh=>by cases h)];unfold Yy;rw[hc];rfl
 | true=>
  have hc0:G5 f 2=0:=by simpa [R0] using hc
  have R:=DW h hc0
  have e0:(bif (bif (G5 f 2 !=0) then true else(decide (a<0))) then true else(decide ((f.Blocks.length:Int)<=a))) = !decide (As a f.Blocks.length):=by
   rw[hc0,show((0:Int)!=0)=false from rfl];simp only[YQ,UW];rw[Ul];simp only[EN,Jd,Qr,UX];unfold As;omega
  rw[e0]
  by_cases hA:As a f.Blocks.length
  ·rw[Gi hA,C0,Ar,Aa (λ_=>hA)];have eb:f.Blocks.getD a.toNat default=bA f a.toNat:=rfl;rw[eb]
   by_cases hk:(bA f a.toNat).End.Kind=2
   ·rw[show((bA f a.toNat).End.Kind !=2)=false by simpa using hk,Ar,Aa hA];have hin:=vU R hA hk hc h
    have step:∀ s:Nat,s<3->(∃ v,K0 f v=true/\v.At=a/\Bx f a (s:Int)=some (.done (.inr (v,true))))\/((∀ j:Nat,j<f.Blocks.length->K0 f ⟨a,oP f a s,oO f a s,(j:Int)⟩=false)/\Bx f a (s:Int)=some (.next (((s+1:Nat):Int)))):=λs hs=>by
     unfold Bx;have hd:decide ((s:Int)<3)=true:=Gi (by omega);rw[hd,Af];rcases hin s hs with⟨j,hj,hp,hl⟩|⟨hp,hl⟩
     ·exact .inl ⟨_,hp,rfl,by rw[hl];rfl⟩
     ·refine .inr ⟨hp,?_⟩;rw[hl,Ak,w1 (show s<4611686018427387904 by omega)]
    have fin:∀ v,K0 f v=true->v.At=a->Ad (Bx f a) (0:Int)=some (.inr (v,true))->(Ad (Bx f a) (0:Int)).bind (λx18=>(match x18 with|(.inl _)=>(some ((⟨(0:Int),(0:Int),(0:Int),(0:Int)⟩:THammock),false))|(.inr r20)=>(some r20)))=some (Yy f a):=λv hv e hl=>by
     rw[hl,<- e,eQ hv];rfl
    rcases step 0 (by omega) with⟨v,h1,h2,h3⟩|⟨p0,n0⟩
    ·exact fin v h1 h2 (Am h3)
    ·have n0':Ad (Bx f a) (0:Int)=Ad (Bx f a) ((1:Nat):Int):=Aq n0;rcases step 1 (by omega) with⟨v,h1,h2,h3⟩|⟨p1,n1⟩
     ·exact fin v h1 h2 (by rw[n0'];exact Am h3)
     ·have n1':=Aq n1;rcases step 2 (by omega) with⟨v,h1,h2,h3⟩|⟨p2,n2⟩
      ·exact fin v h1 h2 (by rw[n0',n1'];exact Am h3)
      ·have n2':=Aq n2
       have hend:Ad (Bx f a) (0:Int)=some (.inl ()):=by
        rw[n0',n1',n2'];refine Am ?_;unfold Bx;rfl
       rw[hend,CW]
       ·rfl
       ·intro v hv e;obtain⟨_,_,hJ,s,hs,eT,eE⟩:=SE R hv
        have hj:v.Join.toNat<f.Blocks.length:=by have:=hJ.1;have:=hJ.2;omega
        have ev:v=⟨a,oP f a s,oO f a s,((v.Join.toNat:Nat):Int)⟩:=by
         rw[Mi hJ.1,<- e,<- eT,<- eE]
        rw[ev]at hv
        have hcs:s=0\/s=1\/s=2:=by omega
        rcases hcs with rfl|rfl|rfl
        ·rw[p0 _ hj]at hv;cases hv
        ·rw[p1 _ hj]at hv;cases hv
        ·rw[p2 _ hj]at hv;cases hv
   ·rw[show((bA f a.toNat).End.Kind !=2)=true by simpa using hk,Af,CW]
    ·rfl
    ·intro v hv e;obtain⟨hk2,_⟩:=SE R hv;rw[e]at hk2;exact hk hk2
  ·rw[Db hA,J0];simp only[Af];rw[Aa (λh=>by cases h),CW]
   ·rfl
   ·intro v hv e;obtain⟨_,hA2,_⟩:=SE R hv;rw[e]at hA2;exact hA hA2
def lone(e:H7)(b r:Int):TFunc:=⟨[b],r,[⟨[],[],e⟩]⟩
theorem Aea{α:Type}(l:List α):(l.map λ_=>1).sum=l.length:=by induction l with|nil=>rfl|cons a l ih=>simp[ih];omega
theorem UN{f:TFunc}(h:Vw f 2=true){b:Ab}(hb:b∈f.Blocks){o:Ay}(ho:o∈b.Ops):Ih o=true:=by
 simp only[Vw,J3,A4,zzL29]at h;have:=(h.1.2 b hb).2 o ho;rw[fV  rfl]at this;exact this.1
theorem vY(n d:Int):n<=grow n d/\d<=grow n d:=by
 unfold grow
 by_cases h:n<d
 ·grind
 ·grind
theorem LX{α:Type}(v:α->Int):∀(l:List α) (n:Int),n<=l.foldl (λn a=>grow n (v a)) n/\∀ a∈l,v a<=l.foldl (λn a=>grow n (v a)) n
 | [],n=>by simp
 | a::l,n=>by
  obtain⟨h1,h2⟩:=LX v l (grow n (v a));have h3:=vY n (v a);rw[Yf];refine⟨by omega,λx hx=>?_⟩;rcases zzL31.1 hx with rfl|hx
  ·omega
  ·exact h2 x hx
theorem OJ:∀(l:List Ab) (n:Int),n<=l.foldl (λn b=>b.Ops.foldl (λn o=>grow n o.Dst) (b.Phis.foldl (λn p=>grow n p.Dst) n)) n /\
  ∀ b∈l,(∀ p∈b.Phis,p.Dst<=l.foldl (λn b=>b.Ops.foldl (λn o=>grow n o.Dst) (b.Phis.foldl (λn p=>grow n p.Dst) n)) n)/\∀ o∈b.Ops,o.Dst<=l.foldl (λn b=>b.Ops.foldl (λn o=>grow n o.Dst) (b.Phis.foldl (λn p=>grow n p.Dst) n)) n
 | [],n=>by simp
 | b::l,n=>by
  obtain⟨p1,p2⟩:=LX (λp =>p.Dst) b.Phis n;obtain⟨q1,q2⟩:=LX (λo =>o.Dst) b.Ops (b.Phis.foldl (λn p=>grow n p.Dst) n);obtain⟨h1,h2⟩:=OJ l (b.Ops.foldl (λn o=>grow n o.Dst) (b.Phis.foldl (λn p=>grow n p.Dst) n));rw[Yf];refine⟨by omega,λx hx=>?_⟩;rcases zzL31.1 hx with rfl|hx
  ·grind
  ·exact h2 x hx
set_option maxRecDepth 100000
theorem fq{f:TFunc}(hf:NT f):Ad (Cc f) ((0:Int),(0:Int))=some (sizeW f):=by
 have hl:=FO _ default Vt id (Cc f) (λn i hi=>by
   have e1:decide ((i:Int)<f.Blocks.length)=true:=by simpa using hi
   unfold Cc;simp only[e1,Af,Aa (Ag hi),Cr,J7 hi hf.blocks]
   congr 3
   rw[Ws,Ws,Int.add_assoc _,Ws];unfold Vt
   congr 1
   omega) (λn=>by
   unfold Cc
   simp) _ 0 0 (Ie _)
 rw[show w64 _=0 from rfl,show((0:Nat):Int)=0 from rfl]at hl;rw[hl];simp[Sn,sizeW]
theorem nV{f:TFunc}(hf:NT f):∃ b,E4 f=some b/\(b=true->Sm f/\(Qx f=true->f.Blocks.length<=16)):=by
 obtain⟨b,h1,h2⟩:=nU hf;refine⟨b,h1,λhb=>⟨h2 hb,λhm=>?_⟩⟩;unfold E4 at h1;rw[fq hf,Ak]at h1;obtain⟨y,hy,h1⟩:=bind_some h1;have h3:=OI h1;unfold Qx at hm;simp only[A4,Jd]at hm;rw[ Db (show ¬ (64:Int)<f.Blocks.length by omega)]at h3
 by_cases hn:f.Blocks.length<=16
 ·omega
 ·grind
theorem fA{f:TFunc}(h:Sm f){v:THammock}(hi:K0 f v=true):Jg f v=some (Vm f v):=by
 have hroom:2000<=room:=by decide
 unfold K0 at hi;rw[A4]at hi;have R:=DW h (by simpa [R0] using hi.1);obtain⟨i,hin,ho⟩:=mem_all.1 (is_mem.1 hi.2);obtain⟨h1,h2⟩:=Xw R hin ho;have l1:=Mf R h1
 have one:∀ x ,(x = -1\/As x _)->∀ l ,l.length<=512->(bif (decide (0<=x)) then(Ax _ (Ax _ _)) else(some l))=some (l++Mk f x):=λx hx l hl=>by
  rcases hx with rfl|hx
  ·unfold Mk;rw[show(-1 !=-1)=false from rfl,Ar,List.append_nil];rfl
  ·have e1:x≠-1:=by have:=hx.1;omega
   have hlen:=Mf R (.inr hx);unfold Mk at hlen ⊢;rw[show(x !=-1)=true by simpa using e1,Af]at hlen ⊢;rw[Gi hx.1,Af,Aa hx,Aa (show l.length+(f.Blocks.getD x.toNat default).Ops.length<=room by grind)]
 unfold Jg;rw[one _ h1 [] (by simp),Ak,Um,one _ h2 _ l1]
 rfl
theorem rW{f:TFunc}(h:Sm f)(hc:R0 f=true){b:Ab}(hb:b∈f.Blocks){o:Ay}(ho:o∈b.Ops):Ih o=true:=
 UN ((N4   (by omega) (by omega)).1 (by simpa [R0] using hc)).2.2.1 hb ho
theorem rX{f:TFunc}(h:Sm f){v:THammock}(hi:K0 f v=true){o:Ay}(ho:o∈Vm f v):∃ b∈f.Blocks,o∈b.Ops:=by
 unfold K0 at hi;rw[A4]at hi;have R:=DW h (by simpa [R0] using hi.1);obtain⟨i,hin,hm⟩:=mem_all.1 (is_mem.1 hi.2);obtain⟨h1,h2⟩:=Xw R hin hm
 have one:∀ x ,(x = -1\/As x f.Blocks.length)->o∈Mk f x->∃ b∈f.Blocks,o∈b.Ops:=λx hx hox=>by
  unfold Mk at hox;rcases hx with rfl|hx
  ·cases hox
  ·rw[show(x !=-1)=true by grind]at hox;exact⟨_,Ah (by  have:=hx.2;omega),hox⟩
 rcases zzL11.1 ho with h3|h3
 ·exact one _ h1 h3
 ·exact one _ h2 h3
theorem nJ{o:Ay}(h:Ih o=true)(hl:o.Lanes=1):¬ 21<=o.Kind:=by
 simp only[Ih,A4]at h;have hk:=zL h.1.2.1.1.1;have hs:=h.1.2.1.1.2;intro h21
 have hc:o.Kind=21\/o.Kind=22:=by omega
 rw[hl]at hs;rcases hc with e|e<;>rw[e]at hs<;>exact absurd hs (by simp[sfitS])
theorem e9{f:TFunc}(h:Sm f)(v:THammock):Jo f v=some (P8 f v):=by
 unfold Jo P8;rw[lI h,Ak]
 cases hi:K0 f v with
 | false=>rfl
 | true=>
  have hl:=fX h hi
  have hc :=by unfold K0 at hi;rw[A4]at hi;exact hi.1
  rw[C0, fA h hi,Ak]
  have key:∀ i,i<(Vm f v).length->m_lockstepref14_Merges_L1 (Vm f v) i=bif ((Vm f v).getD i _).Lanes !=1 then some (.done _) else some _:=λi hil=>by
   unfold m_lockstepref14_Merges_L1;simp only[Bo hil,Af,Ap,Aa (Ag hil),Aa (λ_=>Ag hil),w1 (show i<4611686018427387904 by omega)]
   by_cases e:((Vm f v).getD i default).Lanes=1
   ·obtain⟨b,hb,ho⟩:=rX h hi (Ah  hil);rw[show(((Vm f v).getD i _).Lanes !=1)=false by simpa using e,  Db (nJ (rW h hc hb ho) e),Ar]
   ·grind
  rcases loop_first (m_lockstepref14_Merges_L1 _) (λi=>((Vm f v).getD i _).Lanes !=1) _ (.inl ()) _ (λi hil hp=>by rw[key i hil,hp];rfl) (λi hil hp=>by rw[key i hil,hp];rfl)
   (by unfold m_lockstepref14_Merges_L1;simp only[Cm,Ar]) with⟨i,hil,hp,hL⟩|⟨hp,hL⟩
  ·grind
  ·rw[hL]
   have:((Vm f v).all λo=>o.Lanes==1)=true:=by
    rw[zzL29];intro o ho;obtain⟨i,hil,he⟩:=Nc ho;have:=hp i hil;rw[Ao _ _ _ hil,he]at this
    simpa using this
   rw[this];rfl
theorem er{α σ S X:Type}(l:List α)(d:α)(mk:Nat->σ->S)(P:Nat->σ->Prop)(g:σ->α->σ)(out:σ->X)(f:S->Option (LR S X))
  (hn:∀ i s,i<l.length->P i s->f (mk i s)=some (.next (mk (i+1) (g s (l.getD i d))))/\P (i+1) (g s (l.getD i d)))
  (hd:∀ s,P l.length s->f (mk l.length s)=some (.done (out s))):∀(k i:Nat) (s:σ),i+k=l.length->P i s->Ad f (mk i s)=some (out ((l.drop i).foldl g s))/\P l.length ((l.drop i).foldl g s)
 | 0,i,s,h,hP=>by
  obtain rfl:i=l.length:=by omega
  rw[Am (hd s hP)]
  simpa using hP
 | k+1,i,s,h,hP=>by
  have hi:i<l.length:=by omega
  obtain⟨h1,h2⟩:=hn i s hi hP;obtain⟨h3,h4⟩:=er l d mk P g out f hn hd k _ _ (by omega) h2
  have hdr:l.drop i=l.getD i d::l.drop (i+1):=by simp_all
  rw[Aq h1,h3,hdr];exact⟨rfl,h4⟩
theorem Ku{α σ S X:Type}(l:List α)(d:α)(mk:Nat->σ->S)(P:Nat->σ->Prop)(g:σ->α->σ)(out:σ->X)(f:S->Option (LR S X))
  (hn:∀ i s,i<l.length->P i s->f (mk i s)=some (.next (mk (i+1) (g s (l.getD i d))))/\P (i+1) (g s (l.getD i d)))
  (hd:∀ s,P l.length s->f (mk l.length s)=some (.done (out s))) (s:σ) (hP:P 0 s):Ad f (mk 0 s)=some (out (l.foldl g s))/\P l.length (l.foldl g s):=
 er l d mk P g out f hn hd l.length 0 s (by omega) hP
abbrev Pt:=List Ay×Int
def I7(s:Pt)(k b m:Int)(az:List Int):Pt:=(s.1++[⟨k,b,1,w64 (s.2+1),az,m⟩],w64 (s.2+1))
def GI(o:Ay)(g:Int)(s:Pt):Ay×Pt:=
 bif o.Kind==16 then(⟨18,o.Bits,o.Lanes,o.Dst,[g,o.Args.getD 0 0,w64 (s.2+1)],o.Imm⟩,I7 s 0 o.Bits 0 []) else
 bif o.Kind==17 then(⟨19,o.Bits,o.Lanes,o.Dst,[g,o.Args.getD 0 0,o.Args.getD 1 0],o.Imm⟩,s) else
 bif o.Kind==4 then(⟨20,o.Bits,o.Lanes,o.Dst,[g,o.Args.getD 0 0,o.Args.getD 1 0,w64 (s.2+1)],o.Imm⟩,I7 s 0 o.Bits 0 []) else
 bif o.Kind==18 || (o.Kind==19 || o.Kind==20) then(⟨o.Kind,o.Bits,o.Lanes,o.Dst,w64 (s.2+1)::o.Args.drop 1,o.Imm⟩,I7 s 5 1 0 [o.Args.getD 0 0,g]) else(o,s)
def QG(g:Int)(s:Pt)(o:Ay):Pt:=((GI o g s).2.1++[(GI o g s).1],(GI o g s).2.2)
def Vs(ops:List Ay)(g:Int)(s:Pt):Pt:=ops.foldl (QG g) s
theorem Xt(s:Pt)(k b m:Int)(az:List Int):(I7 s k b m az).1.length=s.1.length+1:=by simp[I7]
theorem SA(o:Ay)(g:Int)(s:Pt):(GI o g s).2.1.length<=s.1.length+1:=by
 unfold GI
 cases o.Kind==16<;>cases o.Kind==17<;>cases o.Kind==4<;>cases o.Kind==18 || (o.Kind==19 || o.Kind==20)<;>simp[I7]
theorem TO(g:Int)(s:Pt)(o:Ay):(QG g s o).1.length<=s.1.length+2:=by
 have:=SA o g s;simp[QG];omega
theorem an(ops:List Ay)(g:Int):∀ s:Pt,(Vs ops g s).1.length<=s.1.length+2*ops.length:=by
 unfold Vs
 induction ops with
 | nil =>  simp
 | cons o l ih=>
  intro s;have h1:=ih (QG g s o);have h2:=TO g s o;simp only[Yf,Tz];omega
theorem grd_cases(o:Ay)(g:Int)(s:Pt) :
  (o.Kind=16/\GI o g s=(⟨18,o.Bits,o.Lanes,o.Dst,[g,o.Args.getD 0 0,w64 (s.2+1)],o.Imm⟩,I7 s 0 o.Bits 0 []))\/(o.Kind=17/\GI o g s=(⟨19,o.Bits,o.Lanes,o.Dst,[g,o.Args.getD 0 0,o.Args.getD 1 0],o.Imm⟩,s)) \/
  (o.Kind=4/\GI o g s=(⟨20,o.Bits,o.Lanes,o.Dst,[g,o.Args.getD 0 0,o.Args.getD 1 0,w64 (s.2+1)],o.Imm⟩,I7 s 0 o.Bits 0 [])) \/
  ((o.Kind=18\/o.Kind=19\/o.Kind=20)/\GI o g s=(⟨o.Kind,o.Bits,o.Lanes,o.Dst,w64 (s.2+1)::o.Args.drop 1,o.Imm⟩,I7 s 5 1 0 [o.Args.getD 0 0,g])) \/
  ((o.Kind≠16/\o.Kind≠17/\o.Kind≠4/\o.Kind≠18/\o.Kind≠19/\o.Kind≠20)/\GI o g s=(o,s)):=by
 unfold GI
 by_cases h1:o.Kind=16
 ·grind
 by_cases h2:o.Kind=17
 ·grind
 by_cases h3:o.Kind=4
 ·grind
 rw[ show(o.Kind==17)=false by simpa using h2]
 by_cases h4:o.Kind=18\/o.Kind=19\/o.Kind=20
 ·grind
 ·grind
def RL(o:Ay):Prop:=((o.Kind=16\/o.Kind=18\/o.Kind=19\/o.Kind=20)->1<=o.Args.length)/\((o.Kind=17\/o.Kind=4)->2<=o.Args.length)/\o.Args.length<=64
theorem u5{o:Ay}(h:Ih o=true)(hl:o.Args.length<=64):RL o:=by
 simp only[Ih,A4]at h;have hn:=h.1.2.2;refine⟨λhk=>?_,λhk=>?_,hl⟩
 ·rcases hk with e|e|e|e<;>rw[e]at hn<;>simp[Rz]at hn<;>omega
 ·rcases hk with e|e<;>rw[e]at hn<;>simp[Rz]at hn<;>omega
theorem FF(d b m:Int)(az:List Int)(f:TFunc)(h:THammock)(s:Pt)(hl:s.1.length<=1000000) :
  Ci d b m az f h s.1 s.2=some (w64 (s.2+1),f,h,(I7 s d b m az).1,(I7 s d b m az).2):=by
 have hroom:1000001<=room:=by decide
 unfold Ci I7;rw[Ac (by grind)]
theorem ab(d b m:Int)(az:List Int)(s:Pt)(hl:s.1.length<=1000000) :
  B4 d b m az s.1 s.2=some (w64 (s.2+1),(I7 s d b m az).1,(I7 s d b m az).2):=by
 have hroom:1000001<=room:=by decide
 unfold B4 I7;rw[Ac (by grind)]
theorem m7{o:Ay}(ha:RL o)(g:Int)(f:TFunc)(h:THammock)(s:Pt)(hl:s.1.length<=1000000) :
  Iq o g f h s.1 s.2=some ((GI o g s).1,f,h,(GI o g s).2.1,(GI o g s).2.2):=by
 have hroom:(1000001:Nat)<=room:=by decide
 obtain⟨a1,a2,a3⟩:=ha;unfold Iq GI
 by_cases h16:o.Kind=16
 ·have hi:As (0:Int) o.Args.length:=⟨by omega,by grind⟩;rw[h16,show((16:Int)==16)=true from rfl,Af,Af,Aa hi,FF _ _ _ _ _ _ _ hl]
  rfl
 ·rw[show(o.Kind==16)=false by simpa using h16,Ar,Ar]
  by_cases h17:o.Kind=17
  ·have hi:As (0:Int) o.Args.length:=⟨by omega,by omega⟩;have hj:As (1:Int) o.Args.length:=⟨by omega,by omega⟩;rw[h17,show((17:Int)==17)=true from rfl,Af,Af,Aa hi,Aa hj]
   rfl
  ·rw[show(o.Kind==17)=false by simpa using h17,Ar,Ar]
   by_cases h4:o.Kind=4
   ·have hi:As (0:Int) o.Args.length:=⟨by omega,by omega⟩;have hj:As (1:Int) o.Args.length:=⟨by omega,by omega⟩;rw[h4,show((4:Int)==4)=true from rfl,Af,Af,Aa hi,Aa hj,FF _ _ _ _ _ _ _ hl]
    rfl
   ·rw[show(o.Kind==4)=false by simpa using h4,Ar]
    have e:(bif (o.Kind==18) then some (o.Kind==18) else bif (o.Kind==19) then some (o.Kind==19) else some (o.Kind==20))=some (o.Kind==18 || (o.Kind==19 || o.Kind==20)):=by
     grind
    rw[e,Ak]
    cases hb:(o.Kind==18 || (o.Kind==19 || o.Kind==20)) with
    | false=>rfl
    | true=>
     simp only[EN,zzL45]at hb;have hi:As (0:Int) o.Args.length:=⟨by omega,by omega⟩;rw[Af,Af,Aa hi,FF _ _ _ _ _ _ _ hl];simp only[Ak];rw[Ac (by omega),Ac (by simp;omega)]
     rfl
theorem d6{ops:List Ay}(ho:∀ o∈ops,RL o)(hn:ops.length<=100000)(g:Int)(f:TFunc)(h:THammock)(s:Pt)(hl:s.1.length<=100000) :
  El ops g f h s.1 s.2=some (f,h,(Vs ops g s).1,(Vs ops g s).2):=by
 have hroom:1000001<=room:=by decide
 have key:=Ku ops default (λi t=>((i:Int),f.Params,f.Ret,f.Blocks,h.At,h.Then,h.Else,h.Join,t.1,t.2)) (λi t=>t.1.length<=s.1.length+2*i) (QG g) (λt=>(f.Params,f.Ret,f.Blocks,h.At,h.Then,h.Else,h.Join,t.1,t.2)) (G8 ops g)
  (λi t hi hP=>by
   have h2:=TO g t (ops.getD i default);refine⟨?_,by omega⟩;have h3:=SA (ops.getD i default) g t;unfold G8;simp only[Bo hi, Aa (Ag hi),Ap,w1 (show i<4611686018427387904 by omega)];rw[  m7 (ho _ (Ah hi)) g f h t (by omega),Ak];rw[Ac (by grind)]
   rfl)
  (λt _=>by unfold G8;simp only[Cm,Ar]) s (by omega)
 unfold El;rw[show(0,f.Params,f.Ret,f.Blocks,h.At,h.Then,h.Else,h.Join,s.1,s.2)=(((0:Nat):Int),f.Params,f.Ret,f.Blocks,h.At,h.Then,h.Else,h.Join,s.1,s.2) from rfl,key.1]
 rfl
theorem rm{ops:List Ay}(ho:∀ o∈ops,RL o)(hn:ops.length<=100000)(g:Int)(s:Pt)(hl:s.1.length<=100000) :
  Cx ops g s.1 s.2=some (Vs ops g s):=by
 have hroom:(1000001:Nat)<=room:=by decide
 have key:=Ku ops (default:Ay) (λi (t:Pt)=>((i:Int),t.1,t.2)) (λi t=>t.1.length<=s.1.length+2*i) (QG g) (λt=>(t.1,t.2)) (Gg ops g)
  (λi t hi hP=>by
   have h2:=TO g t (ops.getD i default);refine⟨?_,by omega⟩;have h3:=SA (ops.getD i default) g t;obtain⟨a1,a2,a3⟩:=ho _ (Ah (d:=(default:Ay)) hi);unfold Gg;simp only[Bo hi,Af,Aa (Ag hi),Ap,w1 (show i<4611686018427387904 by omega)]
   revert h2 h3 a1 a2 a3
   generalize ops.getD i default=o
   intro h2 h3 a1 a2 a3;unfold QG
   revert h3
   unfold GI
   by_cases h16:o.Kind=16
   ·have hi:As (0:Int) o.Args.length:=⟨by omega,by have:=a1 (.inl h16);omega⟩;rw[h16,show((16:Int)==16)=true from rfl];simp only[Af];intro h3;rw[ab _ _ _ _ _ (by omega)];simp only[Ak];rw[Aa hi];simp only[Ak];rw[Ac (by simp only[Tz,List.length_nil];omega)]
    rfl
   ·rw[show(o.Kind==16)=false by simpa using h16];simp only[Ar]
    by_cases h17:o.Kind=17
    ·have:=a2 (.inl h17);have hi:As (0:Int) o.Args.length:=⟨by omega,by omega⟩;have hj:As (1:Int) o.Args.length:=⟨by omega,by omega⟩;rw[h17,show((17:Int)==17)=true from rfl];simp only[Af];intro h3;rw[Aa hi,Aa hj];simp only[Ak];rw[Ac (by simp only[Tz,List.length_nil];omega)]
     rfl
    ·rw[show(o.Kind==17)=false by simpa using h17];simp only[Ar]
     by_cases h4:o.Kind=4
     ·have:=a2 (.inr h4);have hi:As (0:Int) o.Args.length:=⟨by omega,by omega⟩;have hj:As (1:Int) o.Args.length:=⟨by omega,by omega⟩;rw[h4,show((4:Int)==4)=true from rfl];simp only[Af];intro h3;rw[ab _ _ _ _ _ (by omega)];simp only[Ak];rw[Aa hi,Aa hj];simp only[Ak];rw[Ac (by simp only[Tz,List.length_nil];omega)]
      rfl
     ·rw[show(o.Kind==4)=false by simpa using h4];simp only[Ar]
      have e:(bif (o.Kind==18) then some (o.Kind==18) else bif (o.Kind==19) then some (o.Kind==19) else some (o.Kind==20))=some (o.Kind==18 || (o.Kind==19 || o.Kind==20)):=by
       cases o.Kind==18<;>cases o.Kind==19<;>rfl
      rw[e,Ak]
      cases hb:(o.Kind==18 || (o.Kind==19 || o.Kind==20)) with
      | false=>
       simp only[Ar,Ak];intro h3;rw[Ac (by simp only[Tz,List.length_nil];omega)]
      | true=>
       simp only[EN,zzL45]at hb;have:=a1 (by omega);have hi:As (0:Int) o.Args.length:=⟨by omega,by omega⟩;simp only[Af];intro h3;rw[Aa hi,ab _ _ _ _ _ (by omega)];simp only[Ak];rw[Ac (by omega),Ac (by simp;omega)];simp only[Ak];rw[Ac (by grind)]
       rfl)
  (λt _=>by unfold Gg;simp only[Cm,Ar]) s (by omega)
 unfold Cx;rw[show((0:Int),s.1,s.2)=(((0:Nat):Int),s.1,s.2) from rfl,key.1]
 rfl
def Dz(h:THammock)(x:Int):Int:=bif x==-1 then h.At else x
structure Hm(f:TFunc)(h:THammock):Prop where
 R:Rt f
 at_:As h.At f.Blocks.length
 kind:(bA f h.At.toNat).End.Kind=2
 sides:(h.Then = -1\/As h.Then f.Blocks.length)/\(h.Else = -1\/As h.Else f.Blocks.length)
 join:As h.Join f.Blocks.length
 jne:h.Join≠h.At
 thenJ:Dz h h.Then∈JA f h.Join.toNat
 elseJ:Dz h h.Else∈JA f h.Join.toNat
 apart:Dz h h.Then≠Dz h h.Else
 atJ:h.At∈JA f h.Join.toNat->Dz h h.Then=h.At\/Dz h h.Else=h.At
 tne:h.Then≠h.At/\h.Else≠h.At/\h.Then≠h.Join/\h.Else≠h.Join
 mid:(h.Then≠-1->Nx f h.At h.Then=true/\Dy f h.Then.toNat 0=h.Join)/\(h.Else≠-1->Nx f h.At h.Else=true/\Dy f h.Else.toNat 0=h.Join)
 to:(h.Then≠-1->Dy f h.At.toNat 0=h.Then)/\(h.Then = -1->Dy f h.At.toNat 0=h.Join)/\(h.Else≠-1->Dy f h.At.toNat 1=h.Else)/\(h.Else = -1->Dy f h.At.toNat 1=h.Join)
 one:h.Then≠-1\/h.Else≠-1
theorem eV{f:TFunc}(hs:Sm f){h:THammock}(hi:K0 f h=true):Hm f h:=by
 have hi':=hi;unfold K0 at hi';rw[A4]at hi';have R:=DW hs (by simpa [R0] using hi'.1);obtain⟨i,hin,ho⟩:=mem_all.1 (is_mem.1 hi'.2);have ea:=iX ho;obtain⟨hk,hne,hJ,hJA,hcs⟩:=bi R hin ho;have hsd:=Xw R hin ho;have e2:=R.two i hin hk
 have ei:h.At.toNat=i:=by rw[ea];simp
 have hJn:h.Join.toNat<f.Blocks.length:=by have:=hJ.1;have:=hJ.2;omega
 have hJc:((h.Join.toNat:Nat):Int)=h.Join:=Mi hJ.1
 have mpos:∀ x,Nx f i x=true->As x f.Blocks.length->x≠i/\x≠h.Join:=λx hm hx=>by
  have hk1:=Pq hm
  constructor
  ·rintro rfl;rw[show((i:Int)).toNat=i by simp,hk]at hk1;cases hk1
  ·rintro rfl
   have hp:JA f h.Join.toNat=[(i:Int)]:=by
    unfold Nx at hm;simp only[A4,Jd]at hm;exact hm.2
   rcases hcs with⟨a1,a2,a3,a4,a5,a6⟩|⟨a1,a2,a3,a4,a5⟩|⟨a1,a2,a3,a4,a5⟩
   all_goals
    have hx0:=hx.1
   ·have h1:As h.Then f.Blocks.length:=hsd.1.resolve_left λe=>by rw[e]at a1;have:=Qp R hin hk 0 (by omega);rw[<- a1]at this;exact absurd this.1 (by omega)
    have hin2:h.Then∈JA f h.Join.toNat:=(Zm R hJn).2 ⟨h.Then.toNat,(Mi h1.1).symm,(by have:=h1.1;have:=h1.2;omega),by rw[hJc,<- a5];exact Ah (by rw[R.one _ (by have:=h1.1;have:=h1.2;omega) (Pq a3)];omega)⟩
    have h2:As h.Else f.Blocks.length:=hsd.2.resolve_left λe=>by rw[e]at a2;have:=Qp R hin hk 1 (by omega);rw[<- a2]at this;exact absurd this.1 (by omega)
    have hin3:h.Else∈JA f h.Join.toNat:=(Zm R hJn).2 ⟨h.Else.toNat,(Mi h2.1).symm,(by have:=h2.1;have:=h2.2;omega),by rw[hJc,<- a6];exact Ah (by rw[R.one _ (by have:=h2.1;have:=h2.2;omega) (Pq a4)];omega)⟩;rw[hp]at hin2 hin3;simp only[zzL22]at hin2 hin3;exact hne (by rw[<- a1,<- a2,hin2,hin3])
   ·have h1:As h.Then f.Blocks.length:=hsd.1.resolve_left λe=>by rw[e]at a1;have:=Qp R hin hk 0 (by omega);rw[<- a1]at this;exact absurd this.1 (by omega)
    have hin2:h.Then∈JA f h.Join.toNat:=(Zm R hJn).2 ⟨h.Then.toNat,(Mi h1.1).symm,(by have:=h1.1;have:=h1.2;omega),by rw[hJc,<- a5];exact Ah (by rw[R.one _ (by have:=h1.1;have:=h1.2;omega) (Pq a4)];omega)⟩;rw[hp]at hin2;simp only[zzL22]at hin2;have:=Pq a4;rw[hin2,show((i:Int)).toNat=i by simp,hk]at this
    cases this
   ·have h2:As h.Else f.Blocks.length:=hsd.2.resolve_left λe=>by rw[e]at a2;have:=Qp R hin hk 1 (by omega);rw[<- a2]at this;exact absurd this.1 (by omega)
    have hin3:h.Else∈JA f h.Join.toNat:=(Zm R hJn).2 ⟨h.Else.toNat,(Mi h2.1).symm,(by have:=h2.1;have:=h2.2;omega),by rw[hJc,<- a5];exact Ah (by rw[R.one _ (by have:=h2.1;have:=h2.2;omega) (Pq a4)];omega)⟩;rw[hp]at hin3;simp only[zzL22]at hin3;have:=Pq a4;rw[hin3,show((i:Int)).toNat=i by simp,hk]at this
    cases this
 have t0:=Qp R hin hk 0 (by omega);have t1:=Qp R hin hk 1 (by omega);have here:∀ k,k<2->Dy f i k=h.Join->(i:Int)∈JA f h.Join.toNat:=λk hk2 e=>(Zm R hJn).2 ⟨i,rfl,hin,by rw[hJc,<- e];exact Ah (by rw[e2];exact hk2)⟩;have there:∀ x,As x f.Blocks.length->Nx f i x=true->Dy f x.toNat 0=h.Join->x∈JA f h.Join.toNat:=λx hx hm e=>(Zm R hJn).2 ⟨x.toNat,(Mi hx.1).symm,(by have:=hx.1;have:=hx.2;omega),by rw[hJc,<- e];exact Ah (by rw[R.one _ (by have:=hx.1;have:=hx.2;omega) (Pq hm)];omega)⟩
 have pos:∀ x,As x f.Blocks.length->x≠-1:=λx hx e=>by have:=hx.1;omega
 have ce:∀ x,As x f.Blocks.length->Dz h x=x:=λx hx=>by unfold Dz;rw[show(x==-1)=false by simpa using pos x hx];rfl
 have cm:Dz h (-1)=i:=by unfold Dz;rw[ea];rfl
 have at_to:h.At∈JA f h.Join.toNat->h.Join=Dy f i 0\/h.Join=Dy f i 1:=λhm=>by
  obtain⟨p,hp,hpn,hto⟩:=(Zm R hJn).1 hm
  obtain rfl:p=i:=by omega
  rw[hJc]at hto;obtain⟨k,hk3,hk4⟩:=Nc hto
  have hk5:Dy f p k=h.Join:=by unfold Dy;rw[Ao _ _ _ hk3];exact hk4
  rw[e2]at hk3
  have:k=0\/k=1:=by omega
  rcases this with rfl|rfl
  ·exact .inl hk5.symm
  ·exact .inr hk5.symm
 rw[<- ei]at hk
 have hA:As h.At f.Blocks.length:=by rw[ea];exact Ag hin
 rcases hcs with⟨a1,a2,a3,a4,a5,a6⟩|⟨a1,a2,a3,a4,a5⟩|⟨a1,a2,a3,a4,a5⟩
 ·have i1:As h.Then f.Blocks.length:=by rw[a1];exact t0
  have i2:As h.Else f.Blocks.length:=by rw[a2];exact t1
  obtain⟨m1,m2⟩:=mpos _ a3 i1;obtain⟨m3,m4⟩:=mpos _ a4 i2;refine⟨R,hA,hk,hsd,hJ,by rw[ea];exact hJA,by rw[ce _ i1];exact there _ i1 a3 a5,by rw[ce _ i2];exact there _ i2 a4 a6,by rw[ce _ i1,ce _ i2,a1,a2];exact hne,λhm=>?_,⟨by rw[ea];exact m1,by rw[ea];exact m3,m2,m4⟩,by rw[ea];exact⟨λ_=>⟨a3,a5⟩,λ_=>⟨a4,a6⟩⟩,?_,.inl (pos _ i1)⟩
  ·rcases at_to hm with e|e
   ·exact absurd (by rw[e,a1]) m2
   ·exact absurd (by rw[e,a2]) m4
  ·rw[ei];exact⟨λ_=>a1.symm,λe=>absurd e (pos _ i1),λ_=>a2.symm,λe=>absurd e (pos _ i2)⟩
 ·have i1:As h.Then f.Blocks.length:=by rw[a1];exact t0
  obtain⟨m1,m2⟩:=mpos _ a4 i1;refine⟨R,hA,hk,hsd,hJ,by rw[ea];exact hJA,by rw[ce _ i1];exact there _ i1 a4 a5,by rw[a2,cm];exact here 1 (by omega) a3.symm,by rw[ce _ i1,a2,cm];exact m1,λ_=>.inr (by rw[a2,cm,ea]),⟨by rw[ea];exact m1,by rw[a2,ea];omega,m2,by rw[a2];exact λe=>pos _ hJ e.symm⟩,by rw[ea];exact⟨λ_=>⟨a4,a5⟩,λe=>absurd a2 e⟩,?_,.inl (pos _ i1)⟩;rw[ei];exact⟨λ_=>a1.symm,λe=>absurd e (pos _ i1),λe=>absurd a2 e,λ_=>a3.symm⟩
 ·have i2:As h.Else f.Blocks.length:=by rw[a2];exact t1
  obtain⟨m3,m4⟩:=mpos _ a4 i2;refine⟨R,hA,hk,hsd,hJ,by rw[ea];exact hJA,by rw[a1,cm];exact here 0 (by omega) a3.symm,by rw[ce _ i2];exact there _ i2 a4 a5,by rw[ce _ i2,a1,cm];exact λe=>m3 e.symm,λ_=>.inl (by rw[a1,cm,ea]),⟨by rw[a1,ea];omega,by rw[ea];exact m3,by rw[a1];exact λe=>pos _ hJ e.symm,m4⟩,by rw[ea];exact⟨λe=>absurd a1 e,λ_=>⟨a4,a5⟩⟩,?_,.inr (pos _ i2)⟩;rw[ei];exact⟨λe=>absurd a1 e,λ_=>a3.symm,λ_=>a2.symm,λe=>absurd e (pos _ i2)⟩
theorem vZ{a b:Nat}(h:a+b<4000000):w64 (Yc .u64 (Jc (w64 ((a:Int)+(b:Int)))) (1:Int))=(((a+b) / 2:Nat):Int):=by
 have e:(a+b)=((a+b:Nat):Int):=by omega
 rw[e,Ic (n:=(a+b:Nat)) (by omega) (by omega),KZ (by omega) (by omega)];unfold Yc;rw[show(1:Int).toNat=1 from rfl,show min 1 _=1 from rfl, Int.fdiv_eq_ediv_of_nonneg _ (by omega),Ic (by omega) (by omega)];omega
theorem qz{l:List Int}(hs:l.Pairwise (·<·))(hl:l.length<=1000)(x:Int):∃(i:Nat) (b:Bool),E0 l x=some ((i:Int),b)/\i<=l.length/\(∀ k,k<i->l.getD k 0<x)/\∀ k,i<=k->k<l.length->x<=l.getD k 0:=by
 have hmono:∀ i j,i<j->j<l.length->l.getD i 0<l.getD j 0:=λi j hij hj=>by
  rw[Ao _ _ _ hj,Ao _ _ _ (by omega)];exact zzL110.1 hs i j (by omega) hj hij
 have key:∀ d (a b:Nat),b-a<=d->a<=b->b<=l.length->(∀ k,k<a->l.getD k 0<x)->(∀ k,b<=k->k<l.length->x<=l.getD k 0)->
   ∃ i:Nat,Ad (B5 l x) ((a:Int),(b:Int))=some (i:Int)/\i<=l.length/\(∀ k,k<i->l.getD k 0<x)/\∀ k,i<=k->k<l.length->x<=l.getD k 0:=by
  intro d
  induction d with
  | zero=>
   intro a b h1 h2 h3 h4 h5
   obtain rfl:a=b:=by omega
   refine⟨a,Am ?_,h3,h4,h5⟩;unfold B5;simp only[Cm,Ar]
  | succ d ih=>
   intro a b h1 h2 h3 h4 h5
   by_cases hab:a<b
   ·have hm:(a+b) / 2<l.length:=by omega
    have e:B5 l x ((a:Int),(b:Int))=some (.next (bif decide (l.getD ((a+b) / 2) 0<x) then((((a+b) / 2+1:Nat):Int),(b:Int)) else((a:Int),(((a+b) / 2:Nat):Int)))):=by
     unfold B5 Vb P4;simp only[Bo hab,Af,vZ (show a+b<4000000 by omega),Aa (Ag hm),Ap,Ak,bne_self_eq_false,w1 (show(a+b) / 2<4611686018427387904 by omega)]
     cases decide (l.getD ((a+b) / 2) 0<x)<;>rfl
    rw[Aq e]
    by_cases hx:l.getD ((a+b) / 2) 0<x
    ·rw[Gi hx,Af];refine ih _ _ (by omega) (by omega) h3 (λk hk=>?_) h5;rcases zzL119 k ((a+b) / 2) with h6|h6
     ·exact Int.lt_trans (hmono k _ h6 hm) hx
     ·obtain rfl:k=(a+b) / 2:=by omega
      exact hx
    ·rw[Db hx,Ar];refine ih _ _ (by omega) (by omega) (by omega) h4 (λk hk hkl=>?_);rcases zzL119 ((a+b) / 2) k with h6|h6
     ·have:=hmono _ k h6 hkl;omega
     ·obtain rfl:k=(a+b) / 2:=by omega
      omega
   ·exact ih a b (by omega) h2 h3 h4 h5
 obtain⟨i,h1,h2,h3,h4⟩:=key l.length 0 l.length (by omega) (by omega) (zzL7 _) (λk hk=>by omega) (λk hk hk2=>by omega);have h1':Ad (B5 l x) ((0:Int),(l.length:Int))=some (i:Int):=h1;unfold E0 Mv;rw[h1',Ak]
 have hin:(decide ((i:Int)<(l.length:Int)))=true->As (i:Int) l.length:=λh=>by have:=NA h;exact⟨by omega,this⟩
 rw[Aa (λh=>hin (by simpa using h)),Aa (λh=>hin (by simp at h;simpa using h.1))];simp only[bne_self_eq_false];refine⟨i,(bif decide ((i:Int)<(l.length:Int)) then(bif (l.getD (i:Int).toNat 0==x) then true else(bif false then false else false)) else false),?_,h2,h3,h4⟩
 have e:∀ b:Bool,(bif b then some false else some false)=some false:=λb=>by cases b<;>rfl
 rw[e,Ak];simp only[Bool.and_false,show((false:Bool)==true)=false from rfl,Ar,Ak]
def BD(p:A1)(x:Int):Int:=match p.From.findIdx? (λy=>y==x) with|some i=>p.Args.getD i 0|none=>0
theorem iK{p:A1}(hs:p.From.Pairwise (·<·)){i:Nat}(hi:i<p.From.length):BD p (p.From.getD i 0)=p.Args.getD i 0:=by
 have hfi:p.From.findIdx? (λy=>y==p.From.getD i 0)=some i:=by
  rw[List.findIdx?_eq_some_iff_getElem];rw[Ao _ _ _ hi];refine⟨hi,by simp,λj hj=>?_⟩;have:=zzL110.1 hs j i (by omega) hi hj
  simp;omega
 unfold BD;rw[hfi]
theorem Ab9{p:A1}(hs:p.From.Pairwise (·<·))(hl:p.From.length<=1000)(ha:p.Args.length=p.From.length){x:Int}(hx:x∈p.From):Tn p x=some (BD p x):=by
 unfold Tn
 rcases m_index _ x hl with⟨r,h1,h2,_,h3⟩|⟨h1,_⟩
 ·rw[h3,Ak,Aa (by rw[ha];exact Ag h1),Ap,<- h2,iK hs h1]
 ·obtain⟨i,hi,he⟩:=Nc hx;exact absurd (by grind) (h1 i hi)
theorem rl{p:A1}(hs:p.From.Pairwise (·<·))(hl:p.From.length<=1000)(ha:p.Args.length=p.From.length)(x:Int):Ge p x=some (BD p x):=by
 unfold Ge
 rcases loop_first (m_lockstepref15_from_L1 p x) (λi=>p.From.getD i 0==x) (λi=>.inr (p.Args.getD i 0)) (.inl ()) p.From.length (λi hi hp=>by
   unfold m_lockstepref15_from_L1
   simp only[Bo hi,Af,Ap,Aa (Ag hi),hp,Ar,w1 (show i<4611686018427387904 by omega)]) (λi hi hp=>by
   unfold m_lockstepref15_from_L1
   have hi2:i<p.Args.length:=by omega
   simp only[Bo hi,Af,Ap,Aa (Ag hi),Aa (Ag hi2),hp]) (by unfold m_lockstepref15_from_L1;simp only[Cm,Ar]) with⟨i,hi,hp,hL⟩|⟨hp,hL⟩
 ·rw[hL];rw[<- iK hs hi,eq_of_beq hp]
  rfl
 ·rw[hL]
  have:p.From.findIdx? (λy=>y==x)=none:=by
   rw[List.findIdx?_eq_none_iff];intro y hy;obtain⟨i,hi,he⟩:=Nc hy;have:=hp i hi;rw[Ao _ _ _ hi,he]at this;exact this
  unfold BD;rw[this]
  rfl
def Wo(h:THammock)(x:Int):Int:=(λy:Int=>bif (h.Else !=-1)&&decide (h.Else<x) then y-1 else y) (bif (h.Then !=-1)&&decide (h.Then<x) then x-1 else x)
def BE(h:THammock)(p:A1):A1:=⟨p.Bits,p.Dst,p.From.map (Wo h),p.Args⟩
def iz(h:THammock)(b:Ab):Ab:=⟨b.Phis.map (BE h),b.Ops,⟨b.End.Kind,b.End.Arg,b.End.To.map (Wo h)⟩⟩
theorem FE(a b:Bool):(bif a then b else false)=(a&&b):=by cases a<;>rfl
theorem p9{α:Type}(b:Bool)(x y:α):(bif b then some x else some y)=some (bif b then x else y):=by cases b<;>rfl
theorem ku{h:THammock}{x:Int}(hx:0<=x/\x<1000000):Lb x h=some (Wo h x):=by
 unfold Lb Wo;rw[FE,FE,p9,Ak,Ic (n:=x-1) (by omega) (by omega)]
 generalize hz:(bif ((h.Then !=-1)&&decide (h.Then<x)) then x-1 else x)=z
 have hz2:-1<=z/\z<1000000:=by grind
 rw[Ic  (by omega) (by omega),p9]
 rfl
theorem cS{h:THammock}(h0:(h.Then = -1\/0<=h.Then)/\(h.Else = -1\/0<=h.Else)){x:Int}(hx:0<=x/\x<1000000):Dx x h=some (Wo h x):=by
 rw[<- ku hx];unfold Dx Lb
 have e:∀ y ,(y = -1\/0<=y)->decide (0<=y)=(y !=-1):=λy hy=>by
  grind
 rw[e _ h0.1,e _ h0.2]
theorem eS{α β:Type}(F:α->β):∀(l:List α) (k:Nat) (s:List β),s.length=k+l.length->(l.foldl (λ(t:Nat×List β) b=>(t.1+1,t.2.set t.1 (F b))) (k,s)).2=s.take k++l.map F
 | [],k,s,h=>by simp at h;simp[<- h]
 | b::l,k,s,h=>by
  simp only[Tz]at h;rw[Yf,eS F l _ _ (by simp;omega)]
  have e:(s.set k (F b)).take (k+1)=s.take k++[F b]:=by
   rw[List.take_add_one,List.take_set_of_le (by omega)];simp[ show k<s.length by omega]
  rw[e,LC];rfl
theorem et{α β X:Type}(l:List α)(d:α)(F:α->β)(out:List β->X)(f:Int×List β->Option (LR (Int×List β) X))(hn:∀(i:Nat) (s:List β),i<l.length->s.length=l.length->f ((i:Int),s)=some (.next (((i+1:Nat):Int),s.set i (F (l.getD i d)))))
  (hd:∀ s,f ((l.length:Int),s)=some (.done (out s))) (s:List β) (hs:s.length=l.length):Ad f ((0:Int),s)=some (out (l.map F)):=by
 have key:=Ku l d (λi t=>((i:Int),t.2)) (λi t=>t.1=i/\t.2.length=l.length) (λt b=>(t.1+1,t.2.set t.1 (F b))) _ f
  (λi t hi hP=>by grind) (λt _=>hd t.2) (0,s) ⟨rfl,hs⟩
 have:=key.1;rw[eS F l 0 s (by omega)]at this
 simpa using this
theorem RO{l:List Int}{h:THammock}(hl:l.length<=100000)(hx:∀ x∈l,0<=x/\x<1000000):La l h=some (l.map (Wo h)):=by
 have hroom:1000001<=room:=by decide
 unfold La
 rw[Aa (by omega),et l 0 _ id _ (λi s hi hs=>by
  unfold Od;simp only[Bo hi,Af,Aa (Ag hi),Ap,ku (hx _ (Ah hi)),Ak,w1 (show i<4611686018427387904 by omega)]
  rw[Aa (by rw[hs];exact Ag hi)]) (λs=>by unfold Od;simp only[Cm];rfl) _ (by simp)]
 rfl
theorem TP{l:List Int}{h:THammock}(h0:(h.Then = -1\/0<=h.Then)/\(h.Else = -1\/0<=h.Else))(hl:l.length<=100000)(hx:∀ x∈l,0<=x/\x<1000000):Fg l h=some (l.map (Wo h)):=by
 have hroom:1000001<=room:=by decide
 have key:=Ku l 0 (λi t=>(t,(i:Int))) (λi t=>t.length=i) (λt b=>t++[Wo h b]) id (Gh l h) (λi t hi hP=>by
  unfold Gh;simp only[Bo hi, Aa (Ag hi),Ap,cS h0 (hx _ (Ah hi)),Ak,w1 (show i<4611686018427387904 by omega)];rw[Ac (by simp;omega)]
  exact⟨rfl,by simp;omega⟩) (λt _=>by unfold Gh;simp only[Cm];rfl) [] rfl
 have e:∀(l s:List Int),l.foldl (λt b=>t++[Wo h b]) s=s++l.map (Wo h):=λl=>by
  induction l with
  | nil =>  simp
  | cons b l ih=>grind
 rw[e]at key;unfold Fg;have k1:=key.1;rw[show([],0)=([],((0:Nat):Int)) from rfl,k1]
 rfl
def w8(b:Ab):Prop:=b.Phis.length<=100000/\(∀ p∈b.Phis,p.From.length<=100000/\∀ x∈p.From,0<=x/\x<1000000)/\b.End.To.length<=100000/\∀ x∈b.End.To,0<=x/\x<1000000
theorem vI{b:Ab}(hb:w8 b)(h:THammock):Ro b h=some (iz h b):=by
 have hroom:1000001<=room:=by decide
 obtain⟨b1,b2,b3,b4⟩:=hb;unfold Ro
 rw[Aa (by omega),et _ _ (BE h) id _ (λi s hi hs=>by
  unfold Rp;have hm:=b2 _ (Ah (d:=default) hi);simp only[Bo hi, Aa (Ag hi),Ap,RO hm.1 hm.2,Ak,w1 (show i<4611686018427387904 by omega)];rw[Aa (by rw[hs];exact Ag hi)]
  rfl) (λs=>by unfold Rp;simp only[Cm];rfl) _ (by simp), RO b3 b4]
 rfl
def GR(h:THammock)(p:A1)(k:Nat):Bool:=((k:Int)==h.At) || (((k:Int)!=Dz h h.Then)&&(((k:Int)!=Dz h h.Else)&&p.From.contains (k:Int)))
def CY(n:Nat)(h:THammock)(p:A1):List Int:=((List.range n).filter (GR h p)).map Int.ofNat
def PX(n:Nat)(h:THammock)(p:A1)(v:Int):A1:=⟨p.Bits,p.Dst,CY n h p,(CY n h p).map λx=>bif x==h.At then v else BD p x⟩
theorem ZD{α β:Type}(c:α->Bool)(F:α->β):∀(l:List α) (s:List α×List β),l.foldl (λs b=>bif c b then(s.1++[b],s.2++[F b]) else s) s=(s.1++l.filter c,s.2++(l.filter c).map F)
 | [],s=>by simp
 | b::l,s=>by
  rw[Yf,ZD c F l];cases h:c b<;>simp[h]
theorem m8{n:Nat}{h:THammock}{p:A1}(hs:p.From.Pairwise (·<·))(hl:p.From.length<=1000)(ha:p.Args.length=p.From.length)(hin:∀ x∈p.From,As x n)(hA:As h.At n)(hat:h.At∈p.From->Dz h h.Then=h.At\/Dz h h.Else=h.At)(v:Int) :
  Ow p (Dz h h.Then) (Dz h h.Else) h.At v=some (PX n h p v):=by
 have hroom:(1000001:Nat)<=room:=by decide
 have key:=Ku p.From (0:Int) (λi (t:List Int×List Int)=>((i:Int),t.1,t.2)) (λi t=>t.1.length<=i/\t.2.length<=i) (λs b=>bif (b !=Dz h h.Then)&&(b !=Dz h h.Else) then(s.1++[b],s.2++[BD p b]) else s) (λt=>(t.1,t.2)) (L5 p (Dz h h.Then) (Dz h h.Else))
  (λi t hi hP=>by
   unfold L5;simp only[Bo hi,Af,Aa (Ag hi),Ap,w1 (show i<4611686018427387904 by omega),FE];rw[iK hs hi]
   cases((p.From.getD i 0 !=Dz h h.Then)&&(p.From.getD i 0 !=Dz h h.Else)) with
   | false=>exact⟨rfl,by simp only[Ar];omega⟩
   | true=>
    simp only[Af];rw[Ac (by simp;omega),Aa (by rw[ha];exact Ag hi),Ac (by simp;omega)]
    exact⟨rfl,by simp;omega⟩)
  (λt _=>by unfold L5;simp only[Cm,Ar]) ([],[]) (by simp)
 rw[ZD]at key;simp only[Um]at key;obtain⟨L,hL⟩:∃ L,L=p.From.filter λb=>(b !=Dz h h.Then)&&(b !=Dz h h.Else):=⟨_,rfl⟩;rw[<- hL]at key
 have hLs:L.Pairwise (·<·):=by rw[hL];exact hs.filter _
 have hLl:L.length<=1000:=by rw[hL];exact Qt (List.length_filter_le ..) hl
 have hLm:∀ x,x∈L↔x∈p.From/\x≠Dz h h.Then/\x≠Dz h h.Else:=λx=>by rw[hL,zzL95];simp
 have hLa:h.At∉L:=λhm=>by
  obtain⟨h1,h2,h3⟩:=(hLm _).1 hm;rcases hat h1 with e|e
  ·exact h2 e.symm
  ·exact h3 e.symm
 unfold Ow;rw[show((0:Int),([]:List Int),([]:List Int))=(((0:Nat):Int),[],[]) from rfl,key.1];obtain⟨i,b,hb,hi,hlt,hge⟩:=qz hLs hLl h.At
 have hI:∀ M:List Int,M.length=L.length->∀ z,EG M (i:Int) [z]=some (M.take i++[z]++M.drop i,M.take i++[z]++M.drop i,[z]):=λM hM z=>by
  unfold EG;rw[Ac ⟨by omega,by omega,by simp,by simp;omega⟩,Ap]
 simp only[Ak,hb,hI L rfl,hI (L.map (BD p)) (by simp)];rw[Ac (show 1=[h.At].length from rfl),Ac (show 1=[v].length from rfl)]
 have hF:L.take i++[h.At]++L.drop i=CY n h p:=by
  have hgt:∀ y∈L.drop i,h.At<y:=λy hy=>by
   obtain⟨k,hk,rfl⟩:=Nc hy;rw[List.getElem_drop];rw[EM]at hk;have h1:=hge (i+k) (by omega) (by omega);rw[Ao _ _ _ (show i+k<L.length by omega)]at h1;have h2:L[i+k]≠h.At:=λe=>hLa (e▸NB _);omega
  have hlt':∀ y∈L.take i,y<h.At:=λy hy=>by
   obtain⟨k,hk,rfl⟩:=Nc hy;rw[List.getElem_take];rw[LD]at hk;have h1:=hlt k (by omega);rwa[Ao _ _ _ (show k<L.length by omega)]at h1
  refine II ?_ (CV _ _) λx=>?_
  ·grind
  ·unfold CY;rw[SU]
   have hx:x∈L.take i++[h.At]++L.drop i↔x=h.At\/x∈L:=by
    conv=>rhs;rw[<- List.take_append_drop i L]
    simp only[zzL11,zzL22]
    constructor
    ·rintro((h1|h1)|h1)
     ·exact .inr (.inl h1)
     ·exact .inl h1
     ·exact .inr (.inr h1)
    ·rintro(h1|h1|h1)
     ·exact .inl (.inr h1)
     ·exact .inl (.inl h1)
     ·exact .inr h1
   rw[hx]
   constructor
   ·intro h1
    have hxn:As x n:=by
     rcases h1 with rfl|h1
     ·exact hA
     ·exact hin x ((hLm x).1 h1).1
    refine⟨x.toNat,(Mi hxn.1).symm,(by have:=hxn.1;have:=hxn.2;omega),?_⟩;unfold GR;rw[Mi hxn.1];rcases h1 with rfl|h1
    ·simp
    ·obtain⟨h2,h3,h4⟩:=(hLm x).1 h1;simp[h2,h3,h4]
   ·rintro⟨k,rfl,hk,h1⟩;unfold GR at h1;simp only[EN,zzL45,A4,zzL83,zzL63,ne_eq]at h1;rcases h1 with h1|⟨h1,h2,h3⟩
    ·exact .inl h1
    ·exact .inr ((hLm _).2 ⟨h3,h1,h2⟩)
 have hG:(L.map (BD p)).take i++[v]++(L.map (BD p)).drop i=(CY n h p).map λx=>bif x==h.At then v else BD p x:=by
  rw[<- hF,PJ,PJ,<- List.map_take,<- List.map_drop]
  have e:∀ M:List Int,(∀ x∈M,x∈L)->M.map (BD p)=M.map λx=>bif x==h.At then v else BD p x:=λM hM=>cn λx hx=>by
   have:(x==h.At)=false:=by simp;exact λe=>hLa (e▸hM x hx)
   rw[this];rfl
  rw[e _ (λx hx=>List.mem_of_mem_take hx),e _ (λx hx=>List.mem_of_mem_drop hx)]
  simp
 rw[hF,hG]
 rfl
set_option linter.unusedSectionVars false
theorem yu(k:Int):Wm k=some (X7 k):=by
 unfold Wm X7
 have e:(bif (k==4) then some (k==4) else bif (k==16) then some (k==16) else bif (k==17) then some (k==17) else bif (k==18) then some (k==18) else bif (k==19) then some (k==19) else some (k==20))=some (k==4 || k==16 || k==17 || k==18 || k==19 || k==20):=by
  grind
 rw[e, OH]
 cases(k==4 || k==16 || k==17 || k==18 || k==19 || k==20)<;>simp
theorem zk(k:Int):Lg k=some (X7 k):=by
 unfold Lg X7 dR
 congr 1
 rw[Ul];simp only[FE,A4, zzL83,Qr,cl,zzL34];rw[show(bif decide _ then true else decide _)=(decide (k<16) || decide (20<k)) by grind];simp only[EN,Jd];omega
def RK(l:List Ay):Bool:=l.any λo=>!X7 o.Kind
theorem yv(l:List Ay)(hl:l.length<4611686018427387904):Cq l=some (RK l):=by
 unfold Cq Fh RK
 have hk:∀ i,i<l.length->m_slices_IndexFunc_api_Op_api_Op_v2_L1 l i=bif !X7 (l.getD i default).Kind then some (.done (.inr i)) else some (.next ((i+1:Nat))):=λi hi=>by
  unfold m_slices_IndexFunc_api_Op_api_Op_v2_L1 Pd;simp only[Bo hi,Af,Ap,Aa (Ag hi),yu,Ak,w1 (show i<4611686018427387904 by omega)]
 rcases loop_first (m_slices_IndexFunc_api_Op_api_Op_v2_L1 l) (λi=>!X7 _) _ (.inl ()) _ (λi hi hp=>by rw[hk i hi,hp];rfl) (λi hi hp=>by rw[hk i hi,hp];rfl)
  (by unfold m_slices_IndexFunc_api_Op_api_Op_v2_L1;simp only[Cm,Ar]) with⟨i,hi,hp,hl⟩|⟨hp,hl⟩
 ·rw[hl,List.any_eq_true.2 ⟨_,Ah hi,hp⟩]
  simp
 ·rw[hl]
  have:(l.any λo=>!X7 o.Kind)=false:=by
   rw[Bool.eq_false_iff];intro h;obtain⟨o,ho,hb⟩:=List.any_eq_true.1 h;obtain⟨i,hi,he⟩:=Nc ho;have:=hp i hi;rw[Ao _ _ _ hi,he,hb]at this
   cases this
  rw[this];rfl
def OZ(f:TFunc)(h:THammock):Pt:=Vs (Mk f h.Then) (bA f h.At.toNat).End.Arg ((bA f h.At.toNat).Ops,Qh f)
def cX(f:TFunc)(h:THammock):Pt:=bif RK (Mk f h.Else) then I7 (I7 (OZ f h) 0 1 1 []) 7 1 0 [(bA f h.At.toNat).End.Arg,(I7 (OZ f h) 0 1 1 []).2] else OZ f h
def fG(f:TFunc)(h:THammock):Int:=bif RK (Mk f h.Else) then(cX f h).2 else 0
def LJ(f:TFunc)(h:THammock):Pt:=Vs (Mk f h.Else) (fG f h) (cX f h)
section
variable {f:TFunc} {h:THammock} (H:Hm f h)
include H
theorem cO(hc:R0 f=true){x:Int}(hx:x = -1\/As x f.Blocks.length):∀ o∈Mk f x,RL o:=by
 intro o ho;unfold Mk at ho;rcases hx with rfl|hx
 ·cases ho
 ·rw[show(x !=-1)=true by grind]at ho;have hm:bA f x.toNat∈f.Blocks:=Ah (by have:=hx.1;have:=hx.2;omega);exact u5 (UN ((N4   (by omega) (by omega)).1 (by simpa [R0] using hc)).2.2.1 hm ho) (ZW H.R.ok hm ho)
theorem bY:(bA f h.At.toNat).Ops.length<=512:=by
 have:=(H.R.ok.block _ (Ah  (i:=h.At.toNat) (d:=default) (by have:=H.at_.1;have:=H.at_.2;omega))).ops;exact this
theorem cW:(OZ f h).1.length<=2000:=by
 have h1:=an (Mk f h.Then) (bA f h.At.toNat).End.Arg ((bA f h.At.toNat).Ops,Qh f);have h2:=Mf H.R H.sides.1;have h3:=bY H;unfold OZ;simp only at h1;omega
theorem cY:(cX f h).1.length<=2002:=by
 have:=cW H;unfold cX
 cases RK _ with
 | false=>rw[Ar];omega
 | true=>rw[Af,Xt,Xt];omega
theorem cZ:(LJ f h).1.length<=4000:=by
 have h1:=an (Mk f h.Else) (fG f h) (cX f h);have h2:=Mf H.R H.sides.2;have h3:=cY H;unfold LJ;omega
theorem YS{x:Int}(hx:x = -1\/As x f.Blocks.length)(s:List Ay)(l:Int):Fy x f h s l=some (Mk f x):=by
 unfold Fy Mk;rcases hx with rfl|hx
 ·rfl
 ·have e:(x==-1)=false:=by have:=hx.1;simp;omega
  rw[e, Aa hx,show(x !=-1)=true by simpa using e]
  rfl
theorem iL(hc:R0 f=true):H2 (bA f h.At.toNat).End.Arg f h (bA f h.At.toNat).Ops (Qh f)=some (f,h,(LJ f h).1,(LJ f h).2):=by
 have l1:=Mf H.R H.sides.1;have l2:=Mf H.R H.sides.2;have k1:=cW H;have k2:=cY H;unfold H2;rw[YS H H.sides.1,Ak,d6 (cO H hc H.sides.1) (by omega) _ _ _ ((bA f h.At.toNat).Ops,Qh f) (by have:=bY H;simp only;omega),Ak];simp only;rw[show Vs (Mk f h.Then) (bA f h.At.toNat).End.Arg ((bA f h.At.toNat).Ops,Qh f)=OZ f h from rfl,YS H H.sides.2,Ak,yv _ (by omega),Ak];have e:∀ z ,z=(fG f h,f.Params,f.Ret,f.Blocks,h.At,h.Then,h.Else,h.Join,(cX f h).1,(cX f h).2)->
   (Option.bind (some z) λx17=>(match x17 with|(i4,l5,i6,l7,i8,i9,i10,i11,l12,i13)=>((El (Mk f h.Else) i4 (⟨l5,i6,l7⟩:TFunc) _ l12 i13).bind _)))=some (f,h,(LJ f h).1,(LJ f h).2):=λz hz=>by
  subst hz;simp only[Ak];rw[  d6 (cO H hc H.sides.2) (by omega) _ _ _ (cX f h) (by omega),Ak]
  rfl
 cases hg:RK (Mk f h.Else) with
 | false=>
  rw[Ar];refine e _ ?_;unfold fG cX;rw[hg];rfl
 | true=>
  rw[Af,FF _ _ _ _ _ _ _ (by omega),Ak];simp only;rw[FF _ _ _ _ _ _ _ (by rw[Xt];omega),Ak];refine e _ ?_;unfold fG cX;rw[hg];rfl
end
def YC(f:TFunc)(h:THammock)(s:List A1×Pt)(p:A1):List A1×Pt:=
 bif BD p (Dz h h.Then)==BD p (Dz h h.Else) then(s.1++[PX f.Blocks.length h p (BD p (Dz h h.Then))],s.2) else
  (s.1++[PX f.Blocks.length h p (w64 (s.2.2+1))],I7 s.2 13 p.Bits 0 [(bA f h.At.toNat).End.Arg,BD p (Dz h h.Then),BD p (Dz h h.Else)])
def CA(f:TFunc)(h:THammock):List A1×Pt:=(bA f h.Join.toNat).Phis.foldl (YC f h) ([],LJ f h)
theorem cP(f:TFunc)(h:THammock)(s:List A1×Pt)(p:A1):(YC f h s p).1.length=s.1.length+1/\(YC f h s p).2.1.length<=s.2.1.length+1:=by
 unfold YC
 cases BD p _==BD p _<;>simp[I7]
section
variable {f:TFunc} {h:THammock} (H:Hm f h)
include H
theorem X6(hc:R0 f=true){i:Nat}(hi:i<f.Blocks.length){p:A1}(hp:p∈(bA f i).Phis):p.From=JA f i/\p.From.Pairwise (·<·)/\p.From.length<=64/\p.Args.length=p.From.length/\∀ x∈p.From,As x f.Blocks.length:=by
 have hsh:=((N4  (l:=2) (by omega) (by omega)).1 (by simpa [R0] using hc)).2.1;unfold Fq at hsh;rw[A4]at hsh;have hb:=zzL29.1 hsh.2 i (by simpa using hi);unfold Mq at hb;rw[A4]at hb;have hp2:=zzL29.1 hb.2 p hp;simp only[J5,A4,Jd]at hp2;have e:p.From=JA f i:=hp2.1;refine⟨e,?_,by rw[e];exact rg H.R i,by grind,λx hx=>?_⟩
 ·rw[e];unfold JA;rw[FS (by rw[Pu];exact hi)];exact CV _ _
 ·rw[e]at hx;obtain⟨q,rfl,hq,_⟩:=(Zm H.R hi).1 hx;exact Ag hq
theorem Y1:h.Join.toNat<f.Blocks.length:=by have:=H.join.1;have:=H.join.2;omega
theorem R7{i:Nat}(hi:i<f.Blocks.length):(bA f i).Phis.length<=512:=(H.R.ok.block _ (Ah   hi)).phis
theorem ks(s:List Ay)(l x:Int):Hc x f h s l=some (Dz h x):=by
 unfold Hc Dz
 cases x==-1<;>rfl
theorem qF(b c v w:Int)(s:Pt)(hs:s.1.length<=1000000):Jl b c v w f h s.1 s.2=some (bif v==w then(v,f,h,s.1,s.2) else(w64 (s.2+1),f,h,(I7 s 13 b 0 [c,v,w]).1,(I7 s 13 b 0 [c,v,w]).2)):=by
 unfold Jl
 cases v==w with
 | true=>rfl
 | false=>rw[ FF _ _ _ _ _ _ _ hs];rfl
theorem Aby(hc:R0 f=true):L6 (bA f h.At.toNat).End.Arg f h (LJ f h).1 (LJ f h).2=some ((CA f h).1,f,h,(CA f h).2.1,(CA f h).2.2):=by
 have hroom:(1000001:Nat)<=room:=by decide
 have hJ:=Y1 H;have hpl:=R7 H hJ;have hsl:=cZ H;unfold L6;rw[ks H,Ak,ks H,Ak,Aa H.join];have key:=Ku (bA f h.Join.toNat).Phis (default:A1) (λi t=>(t.1,(i:Int),f.Params,f.Ret,f.Blocks,h.At,h.Then,h.Else,h.Join,t.2.1,t.2.2)) (λi t=>t.1.length=i/\t.2.1.length<=4000+i) (YC f h)
  (λt=>(t.1,f.Params,f.Ret,f.Blocks,h.At,h.Then,h.Else,h.Join,t.2.1,t.2.2)) (Jn _ f h (Dz h h.Then) (Dz h h.Else)) (λi t hi hP=>by
   obtain⟨g1,g2⟩:=cP f h t ((bA f h.Join.toNat).Phis.getD i default);refine⟨?_,by omega,by omega⟩;obtain⟨p1,p2,p3,p4,p5⟩:=X6 H hc hJ (Ah (d:=(default:A1)) hi);unfold Jn;have eb:f.Blocks.getD h.Join.toNat default=bA f _:=rfl;simp only[eb,Bo hi,Af,Aa (Ag hi),Ap,w1 (show i<4611686018427387904 by omega)]
   revert p1 p2 p3 p4 p5 g1
   generalize (bA f _).Phis.getD i default=p
   intro g1 p1 p2 p3 p4 p5;rw[Ab9 p2 (by omega) p4 (by rw[p1];exact H.thenJ),Ak,Ab9 p2 (by omega) p4 (by rw[p1];exact H.elseJ),Ak,qF H _ _ _ _ t.2 (by omega),Ak];unfold YC;have hI:=λv=>m8  (h:=h) p2 (by omega) p4 p5 H.at_ (λhm=>H.atJ (p1▸hm)) v
   cases(BD p _==BD p _) with
   | true=>
    simp only[Af];rw[hI,Ak,Ac (by simp;omega)]
   | false=>
    simp only[Ar]
    rw[hI,Ak,Ac (by simp;omega)]) (λt _=>by
   unfold Jn;have eb:f.Blocks.getD _ default=bA f h.Join.toNat:=rfl
   simp only[eb,Cm,Ar]) ([],LJ f h) (by simp;omega)
 have k1:=key.1;rw[show([],(0:Int),f.Params,f.Ret,f.Blocks,h.At,h.Then,h.Else,h.Join,(LJ f h).1,(LJ f h).2)=([],((0:Nat):Int),f.Params,f.Ret,f.Blocks,h.At,h.Then,h.Else,h.Join,(LJ f h).1,(LJ f h).2) from rfl,k1]
 rfl
theorem QZ(hc:R0 f=true):(CA f h).1.length=(bA f h.Join.toNat).Phis.length/\(CA f h).2.1.length<=4000+(bA f h.Join.toNat).Phis.length:=by
 have key:∀(l:List _) (s:List _×Pt),(l.foldl (YC f h) s).1.length=s.1.length+l.length/\(l.foldl (YC f h) s).2.1.length<=s.2.1.length+l.length:=λl=>by
  induction l with
  | nil =>  simp
  | cons p l ih=>
   intro s;obtain⟨g1,g2⟩:=cP f h s p;obtain⟨k1,k2⟩:=ih (YC f h s p);simp only[Yf,Tz];omega
 have hsl:=cZ H;obtain⟨k1,k2⟩:=key (bA f h.Join.toNat).Phis ([],LJ f h);unfold CA;simp only[List.length_nil]at k1 k2;omega
end
theorem k9(n d:Int):(if n<d then d else n)=grow n d:=by
 unfold grow
 by_cases h:n<d<;>simp[h]
theorem yx(f:TFunc)(h:Sm f):Ur f=some (Qh f):=by
 have hf:=h.1
 have h1:∀(i:Nat),i<f.Blocks.length->∀ n ,Ad (Pz f i) _=some ((f.Blocks.getD i _).Phis.foldl (λn p=>grow n p.Dst) n):=λi hi n=>by
  have hB:=hf.block _ (Ah (d:=default) hi);refine Su _ default _ _ (λs j hj=>?_) (λs=>?_) n
  ·unfold Pz
   have hd:decide ((j:Int)<(f.Blocks.getD i default).Phis.length)=true:=by simpa using hj
   simp only[Cr,hd,Af,Aa (Ag hj),MX hj hB.1,k9]
  ·unfold Pz
   simp
 have h2:∀(i:Nat),i<f.Blocks.length->∀ n ,Ad (P0 f i) _=some ((f.Blocks.getD i _).Ops.foldl (λn p=>grow n p.Dst) n):=λi hi n=>by
  have hB:=hf.block _ (Ah (d:=default) hi);refine Su _ default _ _ (λs j hj=>?_) (λs=>?_) n
  ·unfold P0
   have hd:decide (j<((f.Blocks.getD i default).Ops.length:Int))=true:=by simpa using hj
   simp only[Cr,hd,Af,Aa (Ag hj),MX hj hB.2.1,k9]
  ·unfold P0
   simp
 unfold Ur Qh
 rw[Su f.Blocks default (λn b=>b.Ops.foldl (λn o=>grow n o.Dst) (b.Phis.foldl (λn p=>grow n p.Dst) n)) _ (λs i hi=>by
  unfold T5
  have hd:decide (i<(f.Blocks.length:Int))=true:=by simpa using hi
  simp only[hd,Af,Aa (Ag hi),h1 i hi,h2 i hi,Ak,MX hi hf.blocks]) (λs=>by unfold T5;simp)]
 rfl
def AG(h:THammock)(x:Nat):Bool:=((x:Int)!=h.Then)&&((x:Int)!=h.Else)
def GH(f:TFunc)(h:THammock)(x:Nat):Ab:=
 bif (x:Int)==h.At then⟨(bA f h.At.toNat).Phis,(CA f h).2.1,⟨1,0,[h.Join]⟩⟩ else bif (x:Int)==h.Join then⟨(CA f h).1,(bA f h.Join.toNat).Ops,(bA f h.Join.toNat).End⟩ else bA f x
def DF(f:TFunc)(h:THammock):TFunc:=⟨f.Params,f.Ret,((List.range f.Blocks.length).filter (AG h)).map λx=>iz h (GH f h x)⟩
theorem LY{α β:Type}(c:α->Bool)(F:α->β):∀(l:List α) (s:List β),l.foldl (λs b=>bif c b then s++[F b] else s) s=s++(l.filter c).map F
 | [],s=>by simp
 | b::l,s=>by
  rw[Yf,LY c F l];cases h:c b<;>simp[h]
section
variable {f:TFunc} {h:THammock} (H:Hm f h) (hc:R0 f=true)
include H hc
theorem KV{i:Nat}(hi:i<f.Blocks.length):(bA f i).End.To.length<=2/\∀ x∈(bA f i).End.To,0<=x/\x<1000000:=by
 have hsh:=((N4  (l:=2) (by omega) (by omega)).1 (by simpa [R0] using hc)).2.1;unfold Fq at hsh;rw[A4]at hsh;have h3:=(shape_iff.1 hsh.1).2 i hi
 constructor
 ·unfold Np DE at h3;simp only[A4,Jd]at h3;have h4:((bA f i).End.To.length:Nat)=Vz (bA f i).End.Kind:=h3.1.2
  have h5:∀ k ,([0,1,2,0]:List Int).getD k 0<=2:=λk=>by
   match k with
   | 0=>decide
   | 1=>decide
   | 2=>decide
   | 3=>decide
   | k+4=>simp
  have h5:Vz (bA f i).End.Kind<=2:=h5 _;omega
 ·intro x hx;obtain⟨k,hk,rfl⟩:=Nc hx;have h4:=H.R.to i hi k hk;unfold Dy at h4;rw[Ao _ _ _ hk]at h4;have:=H.R.hi;omega
theorem ia{p:A1}(v:Int):(PX f.Blocks.length h p v).From.length<=64/\∀ x∈(PX f.Blocks.length h p v).From,0<=x/\x<1000000:=by
 have hn:=H.R.hi
 show(CY _ h p).length<=64/\∀ x∈CY _ h p,_
 unfold CY
 constructor
 ·grind
 ·grind
theorem zj:∀ p∈(CA f h).1,p.From.length<=64/\∀ x∈p.From,0<=x/\x<1000000:=by
 have key:∀(l:List _) (s:List _×Pt),(∀ p∈s.1,p.From.length<=64/\∀ x∈p.From,0<=x/\x<1000000)->∀ p∈(l.foldl (YC f h) s).1,p.From.length<=64/\∀ x∈p.From,0<=x/\x<1000000:=λl=>by
  induction l with
  | nil=>intro s hs;exact hs
  | cons q l ih=>
   intro s hs;refine ih _ λp hp=>?_;unfold YC at hp
   cases hb:BD q _==BD q _ with
   | true=>
    rw[hb]at hp;rcases zzL11.1 hp with h1|h1
    ·exact hs p h1
    ·rw[zzL22.1 h1];exact ia H hc _
   | false=>
    rw[hb]at hp;rcases zzL11.1 hp with h1|h1
    ·exact hs p h1
    ·rw[zzL22.1 h1];exact ia H hc _
 exact key _ _ (λp hp=>by cases hp)
theorem iH{x:Nat}(hx:x<f.Blocks.length):w8 (GH f h x):=by
 have hJ:=Y1 H
 have hA:h.At.toNat<f.Blocks.length:=by  have:=H.at_.2;omega
 have hn:=H.R.hi
 have ph:∀ i,i<f.Blocks.length->(bA f i).Phis.length<=100000/\∀ p∈(bA f i).Phis,p.From.length<=100000/\∀ x∈p.From,0<=x/\x<1000000:=λi hi=>⟨by have:=R7 H hi;omega,λp hp=>by
  obtain⟨_,_,p3,_,p5⟩:=X6 H hc hi hp
  exact⟨by omega,λx hx=>by have:=p5 x hx;exact⟨this.1,by have:=this.2;omega⟩⟩⟩
 unfold GH
 cases x==h.At with
 | true=>
  rw[Af]
  exact⟨(ph _ hA).1,(ph _ hA).2,by simp,λy hy=>by
   simp only[zzL22]at hy
   have:=H.join.1; omega⟩
 | false=>
  rw[Ar]
  cases x==h.Join with
  | true=>
   obtain⟨t1,t2⟩:=KV H hc hJ;exact⟨by have:=(QZ H hc).1;have:=R7 H hJ;show(CA f h).1.length<=_;omega,λp hp=>by obtain⟨g1,g2⟩:=zj H hc p hp;exact⟨by omega,g2⟩,by grind,t2⟩
  | false=>
   rw[Ar];obtain⟨t1,t2⟩:=KV H hc hx;exact⟨(ph _ hx).1,(ph _ hx).2,by omega,t2⟩
theorem wX{x:Nat}:((f.Blocks.set h.Join.toNat ⟨(CA f h).1,(f.Blocks.getD h.Join.toNat default).Ops,⟨(f.Blocks.getD h.Join.toNat default).End.Kind,(f.Blocks.getD h.Join.toNat default).End.Arg,(f.Blocks.getD h.Join.toNat default).End.To⟩⟩).set h.At.toNat ⟨(f.Blocks.getD h.At.toNat default).Phis,(CA f h).2.1,⟨1,0,[h.Join]⟩⟩).getD x default=GH f h x:=by
 have hJ:=Y1 H
 have hA:h.At.toNat<f.Blocks.length:=by  have:=H.at_.2;omega
 rw[CZ (by simpa using hA),CZ hJ];unfold GH;have a0:=H.at_.1;have j0:=H.join.1
 by_cases h1:x=h.At.toNat
 ·grind
 ·have e:(x==h.At)=false:=by simp;omega
  rw[if_neg h1,e]
  by_cases h2:x=h.Join.toNat
  ·have e:(x==h.Join)=true:=by simp;omega
   rw[if_pos h2,e];rfl
  ·grind
omit H hc in
theorem rgd{n i:Nat}(hi:i<n):(List.range n).getD i 0=i:=by simp[hi]
theorem qI:Jm ⟨f,h,[],Qh f⟩=some (DF f h,⟨f,h,(CA f h).2.1,(CA f h).2.2⟩):=by
 have hroom:1000001<=room:=by decide
 have hn:=H.R.hi;have hA :=H.at_;have hal:=bY H;unfold Jm Fj Cy;have eA:f.Blocks.getD h.At.toNat default=bA f _:=rfl;rw[Aa hA,eA,Ac (show[].length+(bA f _).Ops.length<=room by grind),Ak,Um];rw[  iL H hc,Ak];rw[Aby H hc,Ak];rw[Ac (show f.Blocks.length<=room by omega),Ak,Aa H.join,Aa (by simpa using hA)];unfold T7;have key:=Ku (List.range f.Blocks.length) _ (λi t=>((i:Int),t)) (λi t=>t.length<=i) (λt x=>bif AG h x then t++[iz h _] else t) id
  (G7 ⟨f,h,[],Qh f⟩ ((CA f h).1,f,h,(CA f h).2.1,(CA f h).2.2) f.Blocks) (λi t hi hP=>by
   rw[Sq]at hi;rw[rgd hi];unfold G7;simp only[D6,Bo hi, Aa (Ag hi),Ap,wX H hc,vI (iH H hc hi),Ak,w1 (show i<4611686018427387904 by omega),FE];unfold AG
   cases((i !=h.Then)&&(i !=h.Else)) with
   | false=>grind
   | true=>
    rw[Ac (by simp;omega)]
    exact⟨rfl,by simp;omega⟩) (λt _=>by
   unfold G7;simp only[D6,Sq,Cm]
   rfl) [] (by simp)
 have k1:=key.1;rw[LY]at k1;rw[show(0,[])=(((0:Nat):Int),[]) from rfl,k1]
 rfl
end
def Sz(f:TFunc)(h:THammock):TFunc×Int:=
 bif P8 f h then(bif decide (1023<(CA f h).2.2) || !Qx (DF f h) then(⟨[],0,[]⟩,4) else(DF f h,0)) else(⟨[],0,[]⟩,10)
def CL(o:Ay):Prop:=o.Args.length<=1000000/\0<=o.Imm/\o.Imm<18446744073709551616
theorem FC{s:Pt}(hs:∀ o∈s.1,CL o){k b m:Int}{az:List Int}(hm:0<=m/\m<18446744073709551616)(ha:az.length<=1000000):∀ o∈(I7 s k b m az).1,CL o:=λo ho=>by
 rcases zzL11.1 ho with h1|h1
 ·exact hs o h1
 ·rw[zzL22.1 h1];exact⟨ha,hm⟩
theorem wP{s:Pt}(hs:∀ o∈s.1,CL o){o:Ay}(ho:CL o)(g:Int):∀ x∈(QG g s o).1,CL x:=λx hx=>by
 have h0:(0:Int)<=0/\(0:Int)<18446744073709551616:=by omega
 have hd:(o.Args.drop 1).length<=999999:=by have:=ho.1;simp;omega
 rcases zzL11.1 hx with h1|h1
 ·rcases grd_cases o g s with⟨_,e⟩|⟨_,e⟩|⟨_,e⟩|⟨_,e⟩|⟨_,e⟩<;>rw[e]at h1
  ·exact FC hs h0 (by simp) x h1
  ·exact hs x h1
  ·exact FC hs h0 (by simp) x h1
  ·exact FC hs h0 (by simp) x h1
  ·exact hs x h1
 ·rw[zzL22.1 h1];rcases grd_cases o g s with⟨_,e⟩|⟨_,e⟩|⟨_,e⟩|⟨_,e⟩|⟨_,e⟩<;>rw[e]
  ·exact⟨by simp,ho.2⟩
  ·exact⟨by simp,ho.2⟩
  ·exact⟨by simp,ho.2⟩
  ·exact⟨by grind,ho.2⟩
  ·exact ho
theorem UG(g:Int):∀(ops:List Ay) (s:Pt),(∀ o∈s.1,CL o)->(∀ o∈ops,CL o)->∀ x∈(Vs ops g s).1,CL x
 | [],s,hs,_=>hs
 | o::l,s,hs,ho=>UG g l _ (wP hs (ho o (zzL44 ..)) g) λx hx=>ho x (Mn _ hx)
section
variable {f:TFunc} {h:THammock} (H:Hm f h) (hc:R0 f=true) (hf:NT f)
include H hc hf
theorem cN{i:Nat}(hi:i<f.Blocks.length):∀ o∈(bA f i).Ops,CL o:=λo ho=>by
 have hm:bA f i∈f.Blocks:=Ah hi;have h1:=hf.op _ hm o ho;have h2:=ZW H.R.ok hm ho;exact⟨by omega,h1.2⟩
theorem lT{x:Int}(hx:x = -1\/As x f.Blocks.length):∀ o∈Mk f x,CL o:=λo ho=>by
 unfold Mk at ho;rcases hx with rfl|hx
 ·cases ho
 ·rw[show(x !=-1)=true by grind]at ho;exact cN H hc hf (by have:=hx.1;have:=hx.2;omega) o ho
theorem zh:∀ o∈(CA f h).2.1,CL o:=by
 have hA:h.At.toNat<f.Blocks.length:=by have:=H.at_.1;have:=H.at_.2;omega
 have h1:∀ o∈(OZ f h).1,CL o:=UG _ _ _ (cN H hc hf hA) (lT H hc hf H.sides.1)
 have h2:∀ o∈(cX f h).1,CL o:=by
  unfold cX
  cases RK _ with
  | false=>exact h1
  | true=>exact FC (FC h1 (by omega) (by simp)) (by omega) (by simp)
 have h3:∀ o∈(LJ f h).1,CL o:=UG _ _ _ h2 (lT H hc hf H.sides.2)
 have key:∀(l:List _) (s:List _×Pt),(∀ o∈s.2.1,CL o)->∀ o∈(l.foldl (YC f h) s).2.1,CL o:=λl=>by
  induction l with
  | nil=>intro s hs;exact hs
  | cons q l ih=>
   intro s hs;refine ih _ ?_;unfold YC
   cases BD q _==BD q _ with
   | true=>exact hs
   | false=>exact FC hs (by omega) (by simp)
 exact key _ _ h3
theorem re:∀ p∈(CA f h).1,p.Args.length<=64:=by
 have key:∀(l:List _) (s:List _×Pt),(∀ p∈s.1,p.Args.length<=64)->∀ p∈(l.foldl (YC f h) s).1,p.Args.length<=64:=λl=>by
  have hl:∀ q v,(PX _ h q v).Args.length<=64:=λq v=>by
   have:=(ia H hc (p:=q) v).1
   show((CY _ h q).map _).length<=64
   rw[Ns];exact this
  induction l with
  | nil=>intro s hs;exact hs
  | cons q l ih=>
   intro s hs;refine ih _ λp hp=>?_;unfold YC at hp;cases hb:BD q _==BD q _<;>rw[hb]at hp<;>simp only[Af,Ar]at hp
   all_goals
    grind
 exact key _ _ (λp hp=>by cases hp)
theorem b8:NT (DF f h):=by
 have hmx:(1000001:Nat)<=maxLen:=by decide
 have hn:=H.R.hi;have hJ:=Y1 H
 have hA:h.At.toNat<f.Blocks.length:=by have:=H.at_.1;have:=H.at_.2;omega
 have hb:∀ b∈(DF f h).Blocks,∃ x,x<f.Blocks.length/\b=iz h (GH f h x):=λb hb=>by
  obtain⟨x,hx,rfl⟩:=zzL21.1 hb;exact⟨x,by grind,rfl⟩
 refine⟨hf.params,?_,λb hb'=>?_,λb hb' p hp=>?_,λb hb' o ho=>?_⟩
 ·show(List.map _ _).length<=_
  rw[Ns];have:=List.length_filter_le (AG h) (List.range f.Blocks.length);rw[Sq]at this;omega
 ·obtain⟨x,hx,rfl⟩:=hb b hb';obtain⟨b1,_,b3,_⟩:=iH H hc hx;refine⟨?_,?_,?_⟩
  ·show((GH f h x).Phis.map _).length<=_
   rw[Ns];omega
  ·unfold GH
   cases(x:Int)==h.At with
   | true=>
    have:=(QZ H hc).2;have:=R7 H hJ
    show(CA f h).2.1.length<=_
    omega
   | false=>
    rw[Ar]
    cases(x:Int)==h.Join with
    | true =>  exact(hf.block _ (Ah hJ)).2.1
    | false=>exact(hf.block _ (Ah hx)).2.1
  ·show((GH f h x).End.To.map _).length<=_
   rw[Ns];omega
 ·obtain⟨x,hx,rfl⟩:=hb b hb';obtain⟨q,hq,rfl⟩:=zzL21.1 (hp);obtain⟨_,b2,_,_⟩:=iH H hc hx;have h1:=(b2 q hq).1;refine⟨by show(q.From.map _).length<=_;rw[Ns];omega,?_⟩
  show q.Args.length<=_
  have ph:∀ i,i<f.Blocks.length->∀ q∈(bA f i).Phis,q.Args.length<=maxLen:=λi hi q hq=>(hf.phi _ (Ah hi) q hq).2
  revert hq
  unfold GH
  cases(x:Int)==h.At with
  | true=>exact λhq=>ph _ hA q hq
  | false=>
   rw[Ar]
   cases(x:Int)==h.Join with
   | true=>exact λhq=>by have:=re H hc hf q hq;omega
   | false=>exact λhq=>ph _ hx q hq
 ·obtain⟨x,hx,rfl⟩:=hb b hb';have ho':o∈(GH f h x).Ops:=ho;have fin:CL o->o.Args.length<=maxLen/\0<=o.Imm/\o.Imm<18446744073709551616:=λh1=>⟨by have:=h1.1;omega,h1.2⟩;refine fin ?_
  revert ho'
  unfold GH
  cases(x:Int)==h.At with
  | true=>exact λho'=>zh H hc hf o ho'
  | false=>
   rw[Ar]
   cases(x:Int)==h.Join with
   | true=>exact λho'=>cN H hc hf hJ o ho'
   | false=>exact λho'=>cN H hc hf hx o ho'
end
theorem lG{f:TFunc}(hs:Sm f)(h:THammock):H9 f h=some (Sz f h):=by
 unfold H9 Sz;rw[qv hs,Ak]
 cases hm:P8 f h with
 | false=>rfl
 | true=>
  have hi :=by unfold P8 at hm;rw[A4]at hm;exact hm.1
  have hc :=by unfold K0 at hi;rw[A4]at hi;exact hi.1
  have H:=eV hs hi;rw[C0, yx f hs,Ak,qI H hc,Ak, Acy _ (b8 H hc hs.1)]
  cases decide (1023<(CA f h).2.2) with
  | true=>rfl
  | false=>
   grind
theorem bg{α:Type}(v:α->Int)(B:Int):∀(l:List α) (n:Int),n<=B->(∀ a∈l,v a<=B)->l.foldl (λn a=>grow n (v a)) n<=B
 | [],n,h,_=>h
 | a::l,n,h,hl=>bg v B l _ (by
   have:=hl a (zzL44 ..)
   show(bif decide _ then v a else n)<=B
   by_cases hd:n<v a
   ·grind
   ·grind) λx hx=>hl x (Mn _ hx)
theorem vf{f:TFunc}{B:Int}(h0:(f.Params.length:Int)<=B)(hb:∀ b∈f.Blocks,(∀ p∈b.Phis,p.Dst<=B)/\∀ o∈b.Ops,o.Dst<=B):Qh f<=B:=by
 have key:∀(l:List Ab) (n:Int),n<=B->(∀ b∈l,(∀ p∈b.Phis,p.Dst<=B)/\∀ o∈b.Ops,o.Dst<=B)->l.foldl _ n<=B:=λl=>by
  induction l with
  | nil=>intro n h _;exact h
  | cons b l ih=>
   intro n h hl;obtain⟨h1,h2⟩:=hl b (zzL44 ..);exact ih _ (bg _ _ _ _ (bg _ _ _ _ h h1) h2) λx hx=>hl x (Mn _ hx)
 exact key _ _ h0 hb
theorem qp{f:TFunc}(hf:OkF f):0<=Qh f/\Qh f<=2147483647:=by
 constructor
 ·have:=(OJ f.Blocks f.Params.length).1;unfold Qh;omega
 ·refine vf (by have:=hf.few;omega) λb hb=>?_;obtain⟨h1,h2,_⟩:=blockB_iff.1 (hf.block b hb).may
  constructor
  ·intro p hp;have:=h1 p hp;simp only[IE,numB,A4,Jd]at this;omega
  ·intro o ho;have:=h2 o ho;simp only[gX,numB,A4,Jd]at this;omega
theorem LP{s:Pt}(h:0<=s.2/\s.2<=4000000000)(k b m:Int)(az:List Int):(I7 s k b m az).2=s.2+1:=Ic (by omega) (by omega)
theorem nj{s:Pt}(h:0<=s.2/\s.2<=4000000000)(g:Int)(o:Ay):s.2<=(QG g s o).2/\(QG g s o).2<=s.2+1:=by
 unfold QG;rcases grd_cases o g s with⟨_,e⟩|⟨_,e⟩|⟨_,e⟩|⟨_,e⟩|⟨_,e⟩<;>rw[e]<;>simp only[LP h]<;>omega
theorem UH(g:Int):∀(ops:List Ay) {s:Pt},0<=s.2/\s.2+ops.length<=4000000000->s.2<=(Vs ops g s).2/\(Vs ops g s).2<=s.2+ops.length
 | [],s,h=>by simp[Vs]
 | o::l,s,h=>by
  simp only[Tz]at h ⊢;have h1:=nj (s:=s) (by omega) g o;have h2:=UH g l (s:=QG g s o) (by omega)
  show _<=(Vs l g _).2/\(Vs l g _).2<=_
  omega
section
variable {f:TFunc} {h:THammock} (H:Hm f h)
include H
theorem sF:Qh f<=(OZ f h).2/\0<=(OZ f h).2/\(OZ f h).2<=2147485000:=by
 have h1:=Mf H.R H.sides.1;have h2:=qp H.R.ok;have:=UH (bA f h.At.toNat).End.Arg (Mk f h.Then) (s:=((bA f h.At.toNat).Ops,Qh f)) (by  omega);unfold OZ;omega
theorem qZ(c:Int):∀(l:List Ay) (s:Pt),0<=s.2->s.2<=4000000000-2->
  l.foldl (λ(t:Int×Pt) o=>bif (t.1==0)&&!X7 o.Kind then((I7 (I7 t.2 0 1 1 []) 7 1 0 [c,(I7 t.2 0 1 1 []).2]).2,I7 (I7 t.2 0 1 1 []) 7 1 0 [c,(I7 t.2 0 1 1 []).2]) else t) (0,s) =
   bif RK l then((I7 (I7 s 0 1 1 []) 7 1 0 [c,(I7 s 0 1 1 []).2]).2,I7 (I7 s 0 1 1 []) 7 1 0 [c,(I7 s 0 1 1 []).2]) else(0,s):=by
 intro l
 have stay:∀(l:List Ay) (t:Int×Pt),t.1≠0->l.foldl (λ(t:Int×Pt) o=>bif (t.1==0)&&!X7 o.Kind then((I7 (I7 t.2 0 1 1 []) 7 1 0 [c,(I7 t.2 0 1 1 []).2]).2,I7 (I7 t.2 0 1 1 []) 7 1 0 [c,(I7 t.2 0 1 1 []).2]) else t) t=t:=λl=>by
  induction l with
  | nil=>intro t _;rfl
  | cons o l ih=>
   intro t ht;rw[Yf,show(t.1==0)=false by simpa using ht,HD,Ar];exact ih t ht
 induction l with
 | nil=>intro s _ _;rfl
 | cons o l ih=>
  intro s h1 h2;rw[Yf];unfold RK;rw[List.any_cons]
  cases hp:X7 o.Kind with
  | true=>
   simp only[C0,Bool.and_false,Ar,UW];exact ih s h1 h2
  | false=>
   simp only[J0,EL,show((0:Int)==0)=true from rfl,Af,Bool.true_or];refine stay l _ ?_;have e:=LP (s:=s) (by omega) 0 1 1 [];simp only;rw[LP (by omega),e];omega
theorem Aco(hE:As h.Else f.Blocks.length):Ad (Dt f h) ((0:Int),(0:Int),(OZ f h).1,(OZ f h).2)=some (fG f h,(cX f h).1,(cX f h).2):=by
 have hEn:h.Else.toNat<f.Blocks.length:=by have:=hE.1;have:=hE.2;omega
 have eX:Mk f h.Else=(bA f h.Else.toNat).Ops:=by unfold Mk;rw[show(h.Else !=-1)=true by have:=hE.1;simp;omega];rfl
 have hl:(bA f h.Else.toNat).Ops.length<=512:=(H.R.ok.block _ (Ah (l:=f.Blocks) (d:=default) hEn)).ops;obtain⟨_,l1,l2⟩:=sF H;have ll:=cW H;have key:=Ku (bA f h.Else.toNat).Ops (default:Ay) (λi (t:Int×Pt)=>(t.1,(i:Int),t.2.1,t.2.2)) (λi t=>t.2.1.length<=2000+2*i)
  (λ(t:Int×Pt) o=>bif (t.1==0)&&!X7 o.Kind then((I7 (I7 t.2 0 1 1 []) 7 1 0 [(bA f h.At.toNat).End.Arg,(I7 t.2 0 1 1 []).2]).2,I7 (I7 t.2 0 1 1 []) 7 1 0 [(bA f h.At.toNat).End.Arg,(I7 t.2 0 1 1 []).2]) else t) (λt=>(t.1,t.2.1,t.2.2)) (Dt f h)
  (λi t hi hP=>by
   unfold Dt;have e1:f.Blocks.getD h.Else.toNat default=bA f h.Else.toNat:=rfl;have e2:f.Blocks.getD h.At.toNat default=bA f h.At.toNat:=rfl;simp only[Aa hE,e1,e2,Bo hi,Af,Ap,w1 (show i<4611686018427387904 by omega),zk];rw[Aa (λ_=>hE),Aa (λ_=>Ag hi)]
   cases ht:t.1==0 with
   | false=>
    grind
   | true=>
    simp only[ Af,Ak,Hn]
    cases hp:X7 _ with
    | true=>
     grind
    | false=>
     simp only[J0,Af];rw[ab _ _ _ _ t.2 (by omega),Ak];simp only;rw[ab _ _ _ _ (I7 t.2 0 1 1 []) (by rw[Xt];omega)]
     exact⟨rfl,by rw[Xt,Xt];omega⟩)
  (λt _=>by
   unfold Dt;have e1:f.Blocks.getD h.Else.toNat default=bA f h.Else.toNat:=rfl
   simp only[Aa hE,e1,Cm,Ar]) (0,OZ f h) (by simp only;omega)
 have k1:=key.1;rw[qZ H _ _ _ l1 (by omega)]at k1;rw[show((0:Int),(0:Int),(OZ f h).1,(OZ f h).2)=((0:Int),((0:Nat):Int),(OZ f h).1,(OZ f h).2) from rfl,k1];unfold fG cX;rw[eX]
 cases RK _<;>rfl
theorem ca:(h.Then = -1\/0<=h.Then)/\(h.Else = -1\/0<=h.Else):=⟨H.sides.1.imp id (·.1),H.sides.2.imp id (·.1)⟩
theorem Acp(hc:R0 f=true){p:A1}(hp:p∈(bA f h.Join.toNat).Phis){i:Nat}(hi:i<(bA f h.Join.toNat).Phis.length)(he:(bA f h.Join.toNat).Phis.getD i default=p)(v:Int) :
  Ad (Fc f h (Dz h h.Then) (Dz h h.Else) (i:Int) v) ((0:Int),([]:List Int),([]:List Int))=some ((BE h (PX f.Blocks.length h p v)).From,(BE h (PX f.Blocks.length h p v)).Args):=by
 have hroom:(1000001:Nat)<=room:=by decide
 have hn:=H.R.hi;obtain⟨p1,p2,p3,p4,p5⟩:=X6 H hc (Y1 H) hp;have key:=Ku (List.range f.Blocks.length) (0:Nat) (λk (t:List Int×List Int)=>((k:Int),t.1,t.2)) (λk t=>t.1.length<=k/\t.2.length<=k)
  (λt (x:Nat)=>bif GR h p x then(t.1++[Wo h (x:Int)],t.2++[bif (x:Int)==h.At then v else BD p (x:Int)]) else t) (λt=>(t.1,t.2)) (Fc f h (Dz h h.Then) (Dz h h.Else) (i:Int) v)
  (λk t hk hP=>by
   rw[Sq]at hk;rw[rgd hk];unfold Fc;have eJ:f.Blocks.getD h.Join.toNat default=bA f h.Join.toNat:=rfl;simp only[Bo hk,Af,Ap,eJ,he,w1 (show k<4611686018427387904 by omega),cS (ca H) (show(0:Int)<=(k:Int)/\(k:Int)<1000000 by omega),lH _ _ (show p.From.length<4611686018427387904 by omega),rl p2 (by omega) p4,Ak,FE];unfold GR
   cases hA:(k:Int)==h.At with
   | true=>
    simp only[Af,Bool.true_or];rw[Ac (by simp;omega),Ac (by simp;omega)];exact⟨rfl,by simp;omega⟩
   | false=>
    simp only[Ar,UW]
    cases h1:(k:Int)!=Dz h h.Then with
    | false=>
     grind
    | true=>
     cases h2:(k:Int)!=Dz h h.Else with
     | false=>
      grind
     | true=>
      simp only[Hn,show((true:Bool)==true)=true from rfl,Af,Ak]
      cases h3:p.From.contains (k:Int) with
      | false=>
       grind
      | true=>
       simp only[Af];rw[Ac (by simp;omega),Ac (by simp;omega)]
       exact⟨rfl,by simp;omega⟩)
  (λt _=>by unfold Fc;simp only[Sq,Cm,Ar]) ([],[]) (by simp)
 have k1:=key.1;have e:∀(l:List Nat) (s:List Int×List Int),l.foldl (λt (x:Nat)=>bif GR h p x then(t.1++[Wo h (x:Int)],t.2++[bif (x:Int)==h.At then v else BD p (x:Int)]) else t) s =
   (s.1++((l.filter (GR h p)).map Int.ofNat).map (Wo h),s.2++((l.filter (GR h p)).map Int.ofNat).map λx=>bif x==h.At then v else BD p x):=λl=>by
  induction l with
  | nil=>intro s;simp
  | cons x l ih=>
   intro s;rw[Yf,ih]
   cases hk:GR h p x with
   | false=>simp[hk]
   | true=>simp[hk]
 rw[e]at k1;rw[show((0:Int),([]:List Int),([]:List Int))=(((0:Nat):Int),[],[]) from rfl,k1];simp only[Um]
 rfl
theorem zl(hc:R0 f=true):Ad (Fd f h (Dz h h.Then) (Dz h h.Else)) (([]:List A1),(0:Int),(LJ f h).1,(LJ f h).2)=some ((CA f h).1.map (BE h),(CA f h).2.1,(CA f h).2.2):=by
 have hroom:(1000001:Nat)<=room:=by decide
 have hJ:=Y1 H;have hpl:=R7 H hJ;have hsl:=cZ H;have key:=Ku (bA f h.Join.toNat).Phis (default:A1) (λi t=>(t.1.map (BE h),(i:Int),t.2.1,t.2.2)) (λi t=>t.1.length=i/\t.2.1.length<=4000+i) (YC f h)
  (λt=>(t.1.map (BE h),t.2.1,t.2.2)) (Fd f h _ _) (λi t hi hP=>by
   obtain⟨g1,g2⟩:=cP f h t ((bA f h.Join.toNat).Phis.getD i default);refine⟨?_,by omega,by omega⟩;obtain⟨p1,p2,p3,p4,p5⟩:=X6 H hc hJ (Ah (d:=(default:A1)) hi);have hI:=λv=>Acp H hc (Ah  hi) hi rfl v;unfold Fd;have eJ:f.Blocks.getD h.Join.toNat default=bA f h.Join.toNat:=rfl;have eA:f.Blocks.getD h.At.toNat default=bA f h.At.toNat:=rfl;simp only[eJ,eA,Aa H.join,Bo hi,Af,Aa (Ag hi),Ap,w1 (show i<4611686018427387904 by omega),rl p2 (by omega) p4,Ak];unfold YC
   revert hI
   generalize (bA f h.Join.toNat).Phis.getD i default=p
   intro hI;unfold bne
   cases(BD p _==BD p _) with
   | true=>
    simp only[C0,Ar,Ak,hI,Af];rw[Ac (by simp;omega)];simp[BE,PX]
   | false=>
    simp only[J0,Af];rw[ab _ _ _ _ t.2 (by omega)];simp only[Ak,hI];rw[Ac (by simp;omega)]
    simp[BE,PX]) (λt _=>by
   unfold Fd;have eJ:f.Blocks.getD h.Join.toNat default=bA f h.Join.toNat:=rfl
   simp only[eJ,Aa H.join,Cm,Ar]) ([],LJ f h) (by simp;omega)
 have k1:=key.1;simp only[J8]at k1;rw[show([],(0:Int),(LJ f h).1,(LJ f h).2)=([],((0:Nat):Int),(LJ f h).1,(LJ f h).2) from rfl,k1]
 rfl
theorem nk(hc:R0 f=true){x:Nat}(hx:x<f.Blocks.length):Ad (Fe f h (x:Int)) ((0:Int),([]:List A1))=some ((bA f x).Phis.map (BE h)):=by
 have hroom:1000001<=room:=by decide
 have hpl:=R7 H hx
 have key:=Ku _ _ (λi t=>((i:Int),t)) (λi t=>t.length=i) (λt p=>t++[BE h p]) id (Fe f h x) (λi t hi hP=>by
   obtain⟨p1,p2,p3,p4,p5⟩:=X6 H hc hx (Ah (d:=default) hi);have hm:=TP (l:=((bA f x).Phis.getD i default).From)  (ca H) (by omega) (λy hy=>by have:=p5 y hy;have hn:=H.R.hi;exact⟨this.1,by have:=this.2;omega⟩);unfold Fe;have eX:f.Blocks.getD x _=bA f x:=rfl;simp only[Ap, Bo hi, Aa (Ag hi),w1 (show i<4611686018427387904 by omega),hm,Ak];rw[Ac (by simp;omega)]
   exact⟨rfl,by simp;omega⟩) (λt _=>by
   unfold Fe;have eX:f.Blocks.getD x _=bA f x:=rfl;simp only[Ap, Cm]
   rfl) [] rfl
 have k1:=key.1
 have e:∀(l s:List _),l.foldl (λt p=>t++[BE h p]) s=s++l.map (BE h):=λl=>by
  induction l with
  | nil =>  simp
  | cons b l ih=>grind
 rw[e]at k1;rw[show(0,[])=(((0:Nat):Int),[]) from rfl,k1]
 rfl
theorem rk(hc:R0 f=true):Ad (Ff f h ((CA f h).1.map (BE h)) (CA f h).2.1) ((0:Int),([]:List Ab))=some (DF f h).Blocks:=by
 have hroom:(1000001:Nat)<=room:=by decide
 have hn:=H.R.hi;have key:=Ku (List.range f.Blocks.length) (0:Nat) (λi (t:List Ab)=>((i:Int),t)) (λi t=>t.length<=i) (λt x=>bif AG h x then t++[iz h (GH f h x)] else t) id
  (Ff f h ((CA f h).1.map (BE h)) (CA f h).2.1) (λx t hx hP=>by
   rw[Sq]at hx;rw[rgd hx];obtain⟨t1,t2⟩:=KV H hc hx;have hmt:=TP (l:=(bA f x).End.To) (h:=h) (ca H) (by omega) t2;have hmj :=cS (ca H) ⟨H.join.1,by have:=H.join.2;omega⟩;have eX:f.Blocks.getD x default=bA f x:=rfl;unfold Ff;simp only[Bo hx,Af,Ap,eX,Aa (Ag hx),w1 (show x<4611686018427387904 by omega),hmt,nk H hc hx,hmj,Ak];unfold AG bne;have tn:=H.tne
   cases hT:(x:Int)==h.Then with
   | true=>grind
   | false=>
    cases hE:(x:Int)==h.Else with
    | true=>grind
    | false=>
     unfold GH
     cases hA:(x:Int)==h.At with
     | true=>
      have exA:x=h.At.toNat:=by have:=eq_of_beq hA;omega
      have eJ:((x:Int)==h.Join)=false:=by have:=eq_of_beq hA;rw[this];simpa using λe=>H.jne e.symm
      simp only[eJ,Ar,Af,Ak];rw[Ac (by simp;omega),exA];exact⟨rfl,by simp;omega⟩
     | false=>
      cases hJ:(x:Int)==h.Join with
      | true=>
       have exJ:x=h.Join.toNat:=by have:=eq_of_beq hJ;omega
       simp only[Ar,Af,Ak];rw[Ac (by simp;omega),exJ];exact⟨rfl,by simp;omega⟩
      | false=>
       simp only[Ar,Ak];rw[Ac (by simp;omega)]
       exact⟨rfl,by simp;omega⟩) (λt _=>by
   unfold Ff;simp only[Sq,Cm,Ar]
   rfl) [] (by simp)
 have k1:=key.1;rw[LY]at k1;rw[show((0:Int),([]:List Ab))=(((0:Nat):Int),[]) from rfl,k1]
 rfl
end
theorem SP{f:TFunc}(hs:Sm f)(h:THammock):Hh f h=some (Sz f h):=by
 unfold Hh Sz;rw[e9 hs,Ak]
 cases hm:P8 f h with
 | false=>rfl
 | true=>
  have hroom:(1000001:Nat)<=room:=by decide
  have hi:K0 f h=true:=by unfold P8 at hm;rw[A4]at hm;exact hm.1
  have hc:R0 f=true:=by unfold K0 at hi;rw[A4]at hi;exact hi.1
  have H:=eV hs hi;have hal:=bY H;have eA:f.Blocks.getD h.At.toNat default=bA f h.At.toNat:=rfl;rw[C0,Ar,Aa H.at_,eA,Ac (show([]:List Ay).length+(bA f h.At.toNat).Ops.length<=room by grind),zQ hs.1,Ak,Af,Um]
  have hT:(bif decide (0<=h.Then) then(Ax (As h.Then f.Blocks.length) ((Cx ((f.Blocks.getD h.Then.toNat default).Ops) (bA f h.At.toNat).End.Arg (bA f h.At.toNat).Ops (Qh f)).bind λx9=>(some ((h.Then,x9.1,x9.2))))) else(some ((h.At,(bA f h.At.toNat).Ops,Qh f))))=some (Dz h h.Then,(OZ f h).1,(OZ f h).2):=by
   have ok:=cO H hc H.sides.1;have ll:=Mf H.R H.sides.1;unfold OZ Dz;rcases H.sides.1 with e|e
   ·rw[e];rfl
   ·have e1:(h.Then==-1)=false:=by have:=e.1;simp;omega
    have eX:Mk f h.Then=(f.Blocks.getD h.Then.toNat default).Ops:=by unfold Mk bne;rw[e1];rfl
    rw[eX]at ok ll ⊢;rw[Gi e.1,Af,Aa e,rm ok (by omega) _ ((bA f h.At.toNat).Ops,Qh f) (by simp only;omega),e1]
    rfl
  rw[hT,Ak];simp only;have k2:=cY H
  have hE:(bif decide (0<=h.Else) then((Ad   (Dt f h) ((0:Int),(0:Int),(OZ f h).1,(OZ f h).2)).bind (λx33=>(match x33 with|(i19,l20,i21)=>(Ax (As h.Else f.Blocks.length) ((Cx ((f.Blocks.getD h.Else.toNat default).Ops) i19 l20 i21).bind λx36=>(some ((h.Else,x36.1,x36.2)))))))) else(some ((h.At,(OZ f h).1,(OZ f h).2))))=some (Dz h h.Else,(LJ f h).1,(LJ f h).2):=by
   have ok:=cO H hc H.sides.2;have ll:=Mf H.R H.sides.2;unfold Dz;rcases H.sides.2 with e|e
   ·have eX:Mk f h.Else=[]:=by unfold Mk;rw[e];rfl
    unfold LJ cX fG;rw[eX,e];rfl
   ·have e1:(h.Else==-1)=false:=by have:=e.1;simp;omega
    have eX:Mk f h.Else=(f.Blocks.getD h.Else.toNat default).Ops:=by unfold Mk bne;rw[e1];rfl
    rw[Gi e.1,Af,Aco H e,Ak];simp only;unfold LJ;rw[eX]at ok ll ⊢;rw[Aa e,rm ok (by omega) _ (cX f h) (by omega),e1]
    rfl
  rw[hE,Ak];simp only;rw[zl H hc,Ak];simp only;rw[rk H hc,Ak];rw[show(⟨f.Params,f.Ret,(DF f h).Blocks⟩:TFunc)=DF f h from rfl,lc _ (b8 H hc hs.1)]
  cases decide (1023<(CA f h).2.2) with
  | true=>rfl
  | false=>
   grind
structure oH(f:TFunc):Prop where
 inf:NT f
 blocks:f.Blocks.length<=16
 params:f.Params.length<=64
 to:∀ b∈f.Blocks,b.End.To.length<=2
 phi:∀ b∈f.Blocks,∀ p∈b.Phis,p.From.length<=16/\p.Args.length<=16
 op:∀ b∈f.Blocks,∀ o∈b.Ops,o.Args.length<=16
 size:Sn f<=512
theorem IA{f:TFunc}(h:oH f):Sm f:=by
 refine Acv h.inf h.params (λb hb=>⟨by have:=h.to b hb;omega,λp hp=>by have:=h.phi b hb p hp;omega,λo ho=>by have:=h.op b hb o ho;omega⟩) ?_
 have hB:∀ b∈f.Blocks,XL b<=33*Vt b:=λb hb=>by
  have h1:(b.Phis.map eI).sum<=b.Phis.length*33:=cd _ _ _ λp hp=>by have:=h.phi b hb p hp;unfold eI;omega
  have h2:(b.Ops.map eH).sum<=b.Ops.length*33:=cd _ _ _ λo ho=>by have:=h.op b hb o ho;unfold eH;omega
  have h3:=h.to b hb;unfold XL Vt;omega
 have hS:∀ l:List _,(∀ b∈l,XL b<=33*Vt b)->(l.map XL).sum<=33*(l.map Vt).sum:=λl=>by
  induction l with
  | nil =>  simp
  | cons b l ih=>
   grind
 have h1:=hS _ hB;have h2:=h.size;have h3:=h.params;unfold Sn at h2;unfold iU;omega
theorem rG{k n:Int}(hn:n<=16):Rz k n<=16:=by
 unfold Rz
 cases k==0<;>cases(k==13 || k==18 || k==19)<;>cases(k==14 || k==15 || k==16 || k==22)<;>cases k==20<;>cases k==21<;>simp only[Af,Ar]<;>omega
theorem rA{o:Ay}(h:Ih o=true):o.Args.length<=16:=by
 simp only[Ih,A4,zzL45]at h;have h2:=rG (k:=o.Kind) (n:=o.Lanes) (by rcases shape_lanes h.1.1 with e|e|e|e|e<;>omega);omega
theorem jA{f:TFunc}(hs:Sm f)(h16:Qx f=true->f.Blocks.length<=16)(hc:R0 f=true):oH f:=by
 have hz:=(N4 (f:=f) (l:=2) (by omega) (by omega)).1 (by simpa [R0] using hc);have R:=DW hs (by simpa [R0] using hc);have hn:=h16 hz.1;obtain⟨sm,hsm,hp⟩:=PA f hs.1;rw[hs.2]at hsm;obtain⟨_,hsz,_⟩:=hp (OI hsm).symm hz.1
 have hi:∀ b∈f.Blocks,∃ i,i<f.Blocks.length/\bA f i=b:=λb hb=>by
  obtain⟨i,hi,he⟩:=Nc hb;exact⟨i,hi,by grind⟩
 have hsh:=hz.2.1;unfold Fq at hsh;rw[A4]at hsh;refine⟨hs.1,hn,by have:=R.ok.few;omega,λb hb=>?_,λb hb p hp=>?_,λb hb o ho=>rA (UN hz.2.2.1 hb ho),hsz⟩
 ·obtain⟨i,hi',rfl⟩:=hi b hb;have h3:=(shape_iff.1 hsh.1).2 i hi';unfold Np DE at h3;simp only[A4,Jd]at h3;have h4:(((bA f i).End.To.length:Nat):Int)=Vz (bA f i).End.Kind:=h3.1.2
  have h5:∀ k:Nat,([0,1,2,0]:List Int).getD k 0<=2:=λk=>by
   grind
  have h5:Vz (bA f i).End.Kind<=2:=h5 _;omega
 ·obtain⟨i,hi',rfl⟩:=hi b hb;have hb2:=zzL29.1 hsh.2 i (by simpa using hi');unfold Mq at hb2;rw[A4]at hb2;have hp2:=zzL29.1 hb2.2 p hp;simp only[J5,A4,Jd,zzL45]at hp2;have e :=hp2.1
  have hl:(JA f i).length<=f.Blocks.length:=by
   unfold JA;rw[FS (by rw[Pu];exact hi')];unfold Kt;rw[Ns];have:=List.length_filter_le (λk=>AF (Bu f) k i) (List.range (Bu f).length);rw[Sq]at this;rw[Pu]at this ⊢;exact this
  have h2:(p.Args.length:Int)=((JA f i).length:Int):=hp2.2;rw[e];omega
section
variable {f:TFunc} {h:THammock} (H:Hm f h) (hc:R0 f=true) (hN:oH f)
include H hc hN
theorem MT(g:Int):∀(ops:List Ay) (s:Pt),(∀ o∈s.1,o.Args.length<=16)->(∀ o∈ops,o.Args.length<=16)->∀ x∈(Vs ops g s).1,x.Args.length<=16
 | [],s,hs,_=>hs
 | o::l,s,hs,ho=>MT g l _ (λx hx=>by
   have h0:=ho o (zzL44 ..)
   have ha:∀ k b m az,az.length<=16->∀ y∈(I7 s k b m az).1,y.Args.length<=16:=λk b m az hz y hy=>by
    rcases zzL11.1 hy with h1|h1
    ·exact hs y h1
    ·grind
   rcases zzL11.1 hx with h1|h1
   ·rcases grd_cases o g s with⟨_,e⟩|⟨_,e⟩|⟨_,e⟩|⟨_,e⟩|⟨_,e⟩<;>rw[e]at h1
    ·grind
    ·exact hs x h1
    ·grind
    ·grind
    ·exact hs x h1
   ·rw[zzL22.1 h1];rcases grd_cases o g s with⟨_,e⟩|⟨_,e⟩|⟨_,e⟩|⟨_,e⟩|⟨_,e⟩<;>rw[e]
    ·simp
    ·simp
    ·simp
    ·grind
    ·exact h0) λx hx=>ho x (Mn _ hx)
theorem rZ:∀ o∈(CA f h).2.1,o.Args.length<=16:=by
 have hA:h.At.toNat<f.Blocks.length:=by have:=H.at_.1;have:=H.at_.2;omega
 have hb:∀ i,i<f.Blocks.length->∀ o∈(bA f i).Ops,o.Args.length<=16:=λi hi o ho=>hN.op _ (Ah hi) o ho
 have hX:∀ x:Int,(x = -1\/As x f.Blocks.length)->∀ o∈Mk f x,o.Args.length<=16:=λx hx o ho=>by
  unfold Mk at ho;rcases hx with rfl|hx
  ·cases ho
  ·rw[show(x !=-1)=true by grind]at ho;exact hb _ (by  have:=hx.2;omega) o ho
 have ha:∀(s:Pt),(∀ o∈s.1,o.Args.length<=16)->∀ k b m az,az.length<=16->∀ y∈(I7 s k b m az).1,y.Args.length<=16:=λs hs k b m az hz y hy=>by
  rcases zzL11.1 hy with h1|h1
  ·exact hs y h1
  ·grind
 have h1:∀ o∈(OZ f h).1,o.Args.length<=16:=MT H hc hN _ _ _ (hb _ hA) (hX _ H.sides.1)
 have h2:∀ o∈(cX f h).1,o.Args.length<=16:=by
  unfold cX
  cases RK (Mk f h.Else) with
  | false=>exact h1
  | true=>grind
 have h3:∀ o∈(LJ f h).1,o.Args.length<=16:=MT H hc hN _ _ _ h2 (hX _ H.sides.2)
 have key:∀(l:List A1) (s:List A1×Pt),(∀ o∈s.2.1,o.Args.length<=16)->∀ o∈(l.foldl (YC f h) s).2.1,o.Args.length<=16:=λl=>by
  induction l with
  | nil=>intro s hs;exact hs
  | cons q l ih=>
   intro s hs;refine ih _ ?_;unfold YC
   cases BD q (Dz h h.Then)==BD q (Dz h h.Else) with
   | true=>exact hs
   | false=>grind
 exact key _ _ h3
theorem zJ{p:A1}(v:Int):(PX f.Blocks.length h p v).From.length<=16/\(PX f.Blocks.length h p v).Args.length<=16:=by
 have hn:=hN.blocks
 have:(CY f.Blocks.length h p).length<=16:=by
  unfold CY;rw[Ns];have:=List.length_filter_le (GR h p) (List.range f.Blocks.length);rw[Sq]at this;omega
 exact⟨this,by show(List.map _ _).length<=16;rw[Ns];exact this⟩
theorem zi:∀ p∈(CA f h).1,p.From.length<=16/\p.Args.length<=16:=by
 have key:∀(l:List _) (s:List _×Pt),(∀ p∈s.1,p.From.length<=16/\p.Args.length<=16)->∀ p∈(l.foldl (YC f h) s).1,p.From.length<=16/\p.Args.length<=16:=λl=>by
  induction l with
  | nil=>intro s hs;exact hs
  | cons q l ih=>
   intro s hs;refine ih _ λp hp=>?_;unfold YC at hp;cases hb:BD q _==BD q _<;>rw[hb]at hp<;>simp only[Af,Ar]at hp
   all_goals
    rcases zzL11.1 hp with h1|h1
    ·exact hs p h1
    ·rw[zzL22.1 h1];exact zJ H hc hN _
 exact key _ _ (λp hp=>by cases hp)
theorem wA{b:Ab}(hb:b∈(DF f h).Blocks):∃ x,x<f.Blocks.length/\AG h x=true/\b=iz h (GH f h x):=by
 obtain⟨x,hx,rfl⟩:=zzL21.1 hb;exact⟨x,by grind,(zzL95.1 hx).2,rfl⟩
theorem cA:(DF f h).Blocks.length<f.Blocks.length:=by
 show(List.map _ _).length<_
 rw[Ns]
 obtain⟨x,hx,hk⟩:∃ x,x<f.Blocks.length/\AG h x=false:=by
  rcases H.one with e|e
  ·have q:=H.sides.1.resolve_left e;refine⟨h.Then.toNat,by have:=q.1;have:=q.2;omega,?_⟩;unfold AG;rw[Mi q.1];simp
  ·have q:=H.sides.2.resolve_left e;refine⟨h.Else.toNat,by have:=q.1;have:=q.2;omega,?_⟩;unfold AG;rw[Mi q.1];simp
 have h1:(List.filter (AG h) _).length≠(List.range _).length:=λe=>by
  have:=List.length_filter_eq_length_iff.1 e x (by simpa using hx);rw[hk]at this;cases this
 have h2:=List.length_filter_le (AG h) (List.range f.Blocks.length);rw[Sq]at h1 h2;omega
theorem lK(hm:Qx (DF f h)=true):oH (DF f h):=by
 have hJ:=Y1 H
 have hA:h.At.toNat<f.Blocks.length:=by have:=H.at_.1;have:=H.at_.2;omega
 have hin:=b8 H hc hN.inf;have hlen:=cA H hc hN;have hbl:=hN.blocks
 have hblk:∀ b∈(DF f h).Blocks,b.End.To.length<=2/\(∀ p∈b.Phis,p.From.length<=16/\p.Args.length<=16)/\(∀ o∈b.Ops,o.Args.length<=16)/\b.Phis.length<=512/\b.Ops.length<=5000:=λb hb=>by
  obtain⟨x,hx,_,rfl⟩:=wA H hc hN hb
  have ph:∀ i,i<f.Blocks.length->∀ p∈((bA f i).Phis.map (BE h)),p.From.length<=16/\p.Args.length<=16:=λi hi p hp=>by
   obtain⟨q,hq,rfl⟩:=zzL21.1 hp;have:=hN.phi _ (Ah hi) q hq;exact⟨by show(q.From.map _).length<=16;rw[Ns];exact this.1,this.2⟩
  have pl:∀ i,i<f.Blocks.length->((bA f i).Phis.map (BE h)).length<=512:=λi hi=>by rw[Ns];exact R7 H hi
  have ol:∀ i,i<f.Blocks.length->(bA f i).Ops.length<=5000:=λi hi=>by have:=(H.R.ok.block _ (Ah (l:=f.Blocks) (d:=default) hi)).ops;exact Qt this (by omega)
  have tl:∀ i,i<f.Blocks.length->((bA f i).End.To.map (Wo h)).length<=2:=λi hi=>by rw[Ns];exact(KV H hc hi).1
  unfold iz GH
  cases(x:Int)==h.At with
  | true=>
   refine⟨by simp,ph _ hA,rZ H hc hN,pl _ hA,?_⟩;have:=(QZ H hc).2;have:=R7 H hJ
   show(CA f h).2.1.length<=_
   omega
  | false=>
   rw[Ar]
   cases(x:Int)==h.Join with
   | true=>
    refine⟨tl _ hJ,λp hp=>?_,λo ho=>hN.op _ (Ah hJ) o ho,?_,ol _ hJ⟩
    ·obtain⟨q,hq,rfl⟩:=zzL21.1 hp;have:=zi H hc hN q hq;exact⟨by show(q.From.map _).length<=16;rw[Ns];exact this.1,this.2⟩
    ·show((CA f h).1.map (BE h)).length<=512
     rw[Ns,(QZ H hc).1];exact R7 H hJ
   | false=>exact⟨tl _ hx,ph _ hx,λo ho=>hN.op _ (Ah hx) o ho,pl _ hx,ol _ hx⟩
 refine⟨hin,by omega,hN.params,λb hb=>(hblk b hb).1,λb hb=>(hblk b hb).2.1,λb hb=>(hblk b hb).2.2.1,?_⟩
 have hs:Sn (DF f h)<=(DF f h).Blocks.length*6000:=cd _ _ _ λb hb=>by
  obtain⟨_,_,_,h1,h2⟩:=hblk b hb;unfold Vt;omega
 unfold Qx at hm;simp only[A4,Jd]at hm;have h5:=hm.1.2;unfold sizeW at h5;rw[KY (by omega)]at h5;omega
end
def ID(f:TFunc)(most:Int)(h:THammock):Option TFunc:=bif decide (most<((Vm f h).length:Int)) then none else bif (Sz f h).2==0 then some (Sz f h).1 else none
def Sc(f:TFunc)(most:Int):Option TFunc:=(allHR f).findSome? (ID f most)
def CP:Nat->TFunc->Int->TFunc
 | 0,f,_=>f
 | n+1,f,most=>match Sc f most with|some g=>CP n g most|none=>f
theorem lS{f:TFunc}{most:Int}{h:THammock}{g:TFunc}(hh:ID f most h=some g):g=DF f h/\P8 f h=true/\Qx g=true/\(CA f h).2.2<=1023/\((Vm f h).length:Int)<=most:=by
 unfold ID Sz at hh
 cases hd:decide (most<(Vm f h).length) with
 | true=>rw[hd]at hh;cases hh
 | false=>
  grind
theorem lg{f:TFunc}{most:Int}{g:TFunc}(hh:Sc f most=some g):∃ h,h∈allHR f/\ID f most h=some g:=by
 obtain⟨h,h1,h2⟩:=List.exists_of_findSome?_eq_some hh;exact⟨h,h1,h2⟩
theorem KU{f:TFunc}(hN:oH f){most:Int}{g:TFunc}(hh:Sc f most=some g):∃ h,Hm f h/\R0 f=true/\K0 f h=true/\g=DF f h/\oH g/\g.Blocks.length<f.Blocks.length:=by
 obtain⟨h,h1,h2⟩:=lg hh;have hi:=isHR_mem.2 h1
 have hc :=by unfold K0 at hi;rw[A4]at hi;exact hi.1
 have H:=eV (IA hN) hi;obtain⟨e,_,hm,_⟩:=lS h2;subst e;exact⟨h,H,hc,hi,rfl,lK H hc hN hm,cA H hc hN⟩
theorem SO{α β X:Type}(l:List α)(d:α)(q:α->Option β)(out:β->X)(no:X)(f:Int->Option (LR Int X))(hn:∀ i,i<l.length->q (l.getD i d)=none->f (i:Int)=some (.next (((i+1:Nat):Int))))
  (hf:∀ i,i<l.length->∀ b,q (l.getD i d)=some b->f (i:Int)=some (.done (out b))) (he:f (l.length:Int)=some (.done no)):Ad f (0:Int)=some (match l.findSome? q with|some b=>out b|none=>no):=by
 have key:∀ k i ,i+k=l.length->Ad f i=some (match(l.drop i).findSome? q with|some b=>out b|none=>no):=by
  intro k
  induction k with
  | zero=>
   intro i h
   obtain rfl:i=l.length:=by omega
   rw[Am he];simp
  | succ k ih=>
   intro i h
   have hi:i<l.length:=by omega
   have hdr:l.drop i=l.getD i d::l.drop (i+1):=by simp_all
   rw[hdr,List.findSome?_cons]
   cases hq:q _ with
   | some b=>rw[Am (hf i hi b hq)]
   | none=>rw[Aq (hn i hi hq),ih _ (by omega)]
 have:=key l.length 0 (by omega)
 simpa using this
theorem qL{f:TFunc}(hs:Sm f)(most:Int):Ad (I9 f most (allHR f)) (0:Int)=some (match Sc f most with|some g=>.inr (g.Params,g.Ret,g.Blocks)|none=>.inl ()):=by
 have hl :=lf hs
 have hk:∀ i,i<(allHR f).length->I9 f _ (allHR f) i=(match ID f _ _ with|some g=>some (.done (.inr (g.Params,g.Ret,g.Blocks)))|none=>some _):=λi hi=>by
  have hiv:=isHR_mem.2 (Ah (d:=default) hi);unfold I9 ID;simp only[Bo hi,Af,Aa (Ag hi),Ap,zM hs,hiv, Ak,lG hs,w1 (show i<4611686018427387904 by omega)]
  cases decide (most<((Vm f _).length:Int)) with
  | true=>rfl
  | false=>
   grind
 have:=SO  _ _ (ID f _) _ (.inl ()) (I9 f _ _) (λi hi hq=>by rw[hk i hi,hq]) (λi hi b hq=>by rw[hk i hi,hq]) (by unfold I9;simp only[Cm,Ar]);rw[this];unfold Sc
 cases List.findSome? _ _<;>rfl
theorem EB{f:TFunc}(hc:R0 f=false)(most:Int):Sc f most=none:=by
 unfold Sc allHR;rw[hc];rfl
theorem Abx{f:TFunc}(hs:Sm f)(h16:Qx f=true->f.Blocks.length<=16)(most:Int):Ov f most=some (CP f.Blocks.length f most):=by
 have hL2:∀ g ,AH _ _ _ _ (allHR g)=I9 g most _:=λg=>rfl
 have hF:∀ g ,Sm g->P7 _ (g.Params,g.Ret,g.Blocks)=(match Sc g _ with|some g'=>some _|none=>some _):=λg hg=>by
  unfold P7
  dsimp only
  rw[ip hg,Ak,hL2,qL hg]
  cases Sc g _<;>rfl
 have key:∀(n:Nat) (g:TFunc),oH g->g.Blocks.length<=n->Ad (P7 most) (g.Params,g.Ret,g.Blocks)=some (CP n g most):=by
  intro n
  induction n with
  | zero=>
   intro g hg hn
   have:Sc g most=none:=by
    cases h:Sc g _ with
    | none=>rfl
    | some g'=>obtain⟨_,_,_,_,_,_,h2⟩:=KU hg h;omega
   rw[Am  (by rw[hF g (IA hg),this])]
   rfl
  | succ n ih=>
   intro g hg hn;unfold CP
   cases h:Sc g _ with
   | none=>rw[Am  (by rw[hF g (IA hg),h])]
   | some g'=>
    obtain⟨_,_,_,_,_,h1,h2⟩:=KU hg h;rw[Aq  (by rw[hF g (IA hg),h]),ih g' h1 (by omega)]
 unfold Ov;rw[ip hs,Ak,qL hs]
 cases h:Sc f _ with
 | none=>
  have:CP f.Blocks.length f most=f:=by
   cases f.Blocks.length with
   | zero=>rfl
   | succ n=>unfold CP;rw[h]
  rw[this];rfl
 | some g=>
  have hc:R0 f=true:=by
   cases hc:R0 f with
   | true=>rfl
   | false=>rw[EB hc]at h;cases h
  have hN:=jA hs h16 hc;obtain⟨_,_,_,_,_,h1,h2⟩:=KU hN h
  show(Ad _ _).bind _=_
  have e:CP f.Blocks.length f most=CP (f.Blocks.length-1) g most:=by
   obtain⟨n,hn⟩:∃ n,f.Blocks.length=n+1:=⟨f.Blocks.length-1,by omega⟩;rw[hn]
   show(match Sc f _ with|some g=>CP n g _|none=>f)=_
   rw[h];rfl
  rw[key (f.Blocks.length-1) g h1 (by omega),e]
  rfl
theorem ZB{α β γ:Type}(F:α->List β)(q:β->Option γ):∀ l:List α,(l.flatMap F).findSome? q=l.findSome? λx=>(F x).findSome? q
 | []=>rfl
 | a::l=>by
  rw[UZ,List.findSome?_append,List.findSome?_cons,ZB F q l]
  cases(F a).findSome? q<;>rfl
def bh(f:TFunc)(x:Nat):Option THammock:=bif R0 f then DB f x else none
theorem jW(f:TFunc)(most:Int):Sc f most=(List.range f.Blocks.length).findSome? λx=>(bh f x).bind (ID f most):=by
 unfold Sc allHR bh
 cases R0 f with
 | false=>
  grind
 | true=>
  simp only[Af];unfold bW;rw[ZB]
  congr 1
  funext x
  cases DB f x with
  | none=>rfl
  | some v=>simp
theorem qW{f:TFunc}{i:Nat}(hi:i<f.Blocks.length):Yy f (i:Int)=(match bh f i with|some v=>(v,true)|none=>(zH,false)):=by
 unfold Yy bh ZA
 cases R0 f with
 | false=>rfl
 | true=>
  rw[if_pos (Ag hi),Ap];cases DB f i<;>rfl
theorem jL{f:TFunc}(hs:Sm f)(most:Int)(rec:TFunc->Int->Option TFunc)(R:TFunc->TFunc)(hrec:∀ h g,h∈allHR f->ID f most h=some g->rec g most=some (R g)) :
  De rec f most=some (match Sc f most with|some g=>R g|none=>f):=by
 have hk:∀ i,i<f.Blocks.length->D2 rec f most (i:Int)=(match(bh f i).bind (ID f most) with|some g=>some (.done (.inr (R g)))|none=>some _):=λi hi=>by
  unfold D2;simp only[Bo hi,Af,nR hs, qW hi,J7 hi hs.1.blocks]
  cases hv:bh f i with
  | none=>rfl
  | some v=>
   have hc:R0 f=true:=by
    cases hc:R0 f with
    | true=>rfl
    | false=>unfold bh at hv;rw[hc]at hv;cases hv
   have ho :=by unfold bh at hv;rw[hc]at hv;exact hv
   have hm:v∈allHR f:=by unfold allHR;rw[hc];exact mem_all.2 ⟨i,hi,ho⟩
   have hiv:=isHR_mem.2 hm;simp only[C0,show((false:Bool)==false)=true from rfl,Af,fA hs hiv,Ak,Ar,SP hs]
   cases hq:ID f most v with
   | none=>
    unfold ID at hq
    cases hd:decide (most<((Vm f v).length:Int)) with
    | true=>rfl
    | false=>
     grind
   | some g=>
    have hr:=hrec v g hm hq;unfold ID at hq
    cases hd:decide (most<((Vm f v).length:Int)) with
    | true=>rw[hd]at hq;cases hq
    | false=>
     grind
 have key:=SO  (List.range f.Blocks.length) (0:Nat) (λx=>(bh f x).bind (ID f most)) (λg=>.inr (R g)) (.inl ()) (D2 rec f most) (λi hi hq=>by
   grind) (λi hi b hq=>by
   grind) (by rw[Sq];unfold D2;simp only[Cm,Ar])
 unfold De;rw[key, jW]
 cases List.findSome? _ _<;>rfl
theorem cM{f:TFunc}(hN:oH f){most:Int}{h:THammock}{g:TFunc}(h1:h∈allHR f)(h2:ID f most h=some g):oH g/\g.Blocks.length<f.Blocks.length:=by
 have hi:=isHR_mem.2 h1
 have hc :=by unfold K0 at hi;rw[A4]at hi;exact hi.1
 have H:=eV (IA hN) hi;obtain⟨e,_,hm,_⟩:=lS h2;subst e;exact⟨lK H hc hN hm,cA H hc hN⟩
theorem rj(most:Int):∀(n:Nat) (g:TFunc),oH g->g.Blocks.length<=n->∀ m,n<m->H8 m g most=some (CP n g most)
 | n,g,hN,hn,0,hm=>by omega
 | n,g,hN,hn,m+1,hm=>by
  cases n with
  | zero=>
   show De _ g _=_
   rw[jL (IA hN) _ _ id (λh g' h1 h2=>by have:=(cM hN h1 h2).2;omega)]
   cases hs:Sc g _ with
   | none=>rfl
   | some g'=>obtain⟨h,h1,h2⟩:=lg hs;have:=(cM hN h1 h2).2;omega
  | succ n=>
   show De _ g _=_
   rw[jL (IA hN) _ _ _ (λh g' h1 h2=>by
    obtain⟨h3,h4⟩:=cM hN h1 h2
    exact rj _ n g' h3 (by omega) m (by omega))]
   rfl
theorem Acn{f:TFunc}(hs:Sm f)(h16:Qx f=true->f.Blocks.length<=16)(most:Int):Pe f most=some (CP f.Blocks.length f most):=by
 refine vX (f.Blocks.length+2) λm hm=>?_
 cases hc:R0 f with
 | true=>
  exact rj _ _ f (jA hs h16 hc) (zzL7 _) m (by omega)
 | false=>
  obtain⟨k,rfl⟩:∃ k,m=k+1:=⟨m-1,by omega⟩
  show De _ f _=_
  have hA:allHR f=[]:=by unfold allHR;rw[hc];rfl
  rw[jL hs _ _ id (λh g' h1 h2=>by rw[hA]at h1;cases h1),EB hc]
  cases f.Blocks.length with
  | zero=>rfl
  | succ n=>unfold CP;rw[EB hc]
theorem pY{most:Int}:∀(n:Nat) {f:TFunc},NT f->(R0 f=true->oH f)->NT (CP n f most)/\(R0 f=true->oH (CP n f most))
 | 0,f,hf,hN=>⟨hf,hN⟩
 | n+1,f,hf,hN=>by
  unfold CP
  cases h:Sc f _ with
  | none=>exact⟨hf,hN⟩
  | some g=>
   have hc:R0 f=true:=by
    cases hc:R0 f with
    | true=>rfl
    | false=>rw[EB hc]at h;cases h
   obtain⟨_,_,_,_,_,h1,_⟩:=KU (hN hc) h;obtain⟨h2,h3⟩:=pY n  h1.inf (λ_=>h1);refine⟨h2,λ_=>?_⟩
   cases hg:R0 g with
   | true=>exact h3 hg
   | false=>
    have:CP n g most=g:=by
     cases n with
     | zero=>rfl
     | succ n=>unfold CP;rw[EB hg]
    simp only[this];exact h1
theorem nO:m_locksteplaw15_awake=some true:=by kernel_rfl
theorem rE{f:TFunc}(hs:Sm f)(h:THammock):NT (Sz f h).1:=by
 have hz:NT ⟨[],0,[]⟩:=⟨by simp,by simp,λb hb=>(by cases hb),λb hb=>(by cases hb),λb hb=>(by cases hb)⟩;unfold Sz
 cases hm:P8 f h with
 | false=>exact hz
 | true=>
  have hi :=by unfold P8 at hm;rw[A4]at hm;exact hm.1
  have hc :=by unfold K0 at hi;rw[A4]at hi;exact hi.1
  cases(decide (1023<(CA f h).2.2) || !Qx _) with
  | true=>exact hz
  | false=>exact b8 (eV hs hi) hc hs.1
theorem merges15(f:TFunc)(h:THammock)(most:Int)(hf:NT f):Jb f h most=some true:=by
 unfold Jb;rw[nO,Ak,C0];obtain⟨b,hb,hsm⟩:=nV hf;rw[hb,Ak]
 cases b with
 | false=>rfl
 | true=>
  obtain⟨hs,h16⟩:=hsm rfl;rw[C0, lG hs,Ak,SP hs,Ak,fm _ _ (rE hs h),Ak]
  have e1:(bif decide ((Sz f h).1=(Sz f h).1) then((Sz f h).2==(Sz f h).2) else false)=true:=by simp
  rw[e1,show(true==true)=true from rfl,Af,Abx hs h16,Ak,Af,Acn hs h16,Ak,Af,fm _ _ (pY _ hf (jA hs h16)).1,Ak]
  simp
end
end Go.Proofs.YtlnbjgmjaioagaaGreat
