/-
  The machine, the program's functions and the laws' arithmetic: part 5 of 5.
-/
import Derived.Test.YtfhggcbcamamdaaGreatPk4
set_option linter.unusedSectionVars false
set_option linter.unusedVariables false
set_option linter.unusedSimpArgs false
namespace Go.Proofs.YtfhggcbcamamdaaGreat
noncomputable section
open Go Go.RowKit
theorem kd{σ X:Type}(mk:Int->σ)(U:List A6)(p:A6->Bool)(f:σ->Option (LR σ X))(yes no:X)(hk:∀ i:Nat,i<U.length->f (mk i)=some (bif p (U.getD i default) then .next (mk ((i:Int)+1)) else .done no))(he:f (mk U.length)=some (.done yes)) :
  ∀ k i:Nat,i+k=U.length->Af f (mk i)=some (bif (U.drop i).all p then yes else no)
 | 0,i,h=>by
  obtain rfl:i=U.length:=by omega
  rw[Am he]
  simp
 | k+1,i,h=>by
  have hi:i<U.length:=by omega
  have hdr:U.drop i=U.getD i default::U.drop (i+1):=by simp_all
  have hx:=hk i hi;rw[hdr,Xm]
  cases hp:p _ with
  | true=>
   rw[hp]at hx;rw[An hx,show((i:Int)+1)=(i+1:Nat) by omega,kd mk U p f yes no hk he k _ (by omega),Kw]
  | false=>
   rw[hp]at hx;rw[Am hx]
   rfl
theorem GS(d:G1)(l:List G1)(v:Int):Kn (d::l) v=bif d.V==v then 0 else bif decide (Kn l v<0) then -1 else Kn l v+1:=by
 unfold Kn;rw[List.findIdx?_cons]
 cases d.V==v with
 | true=>rfl
 | false=>
  grind
theorem HO(v:Int):∀ l:List G1,C5 (dv l) v = !decide (Kn l v<0)
 | []=>rfl
 | d::l=>by
  rw[GS]
  show((v==d.V) || C5 (dv l) v)=_
  rw[HO v l,show(v==d.V)=(d.V==v) by grind]
  cases d.V==v with
  | true=>rfl
  | false=>
   grind
theorem X1(v:Int):∀ l:List G1,¬ Kn l v<0->D7 (default:Aw) (dv l) v=JE (defOf l v)
 | [],h=>absurd (show -1<0 by decide) h
 | d::l,h=>by
  unfold defOf;rw[GS]at h ⊢
  show(bif v==d.V then JE d else D7 _ (dv l) v)=_
  rw[show(v==d.V)=(d.V==v) by grind]
  cases hb:d.V==v with
  | true=>rfl
  | false=>
   rw[hb]at h
   by_cases hn:Kn l v<0
   ·simp[hn]at h
   ·have hz :=Gv hn;simp only[A8,hz];rw[X1 v l hn,show(Kn l v+1).toNat=(Kn l v).toNat+1 by omega]
    rfl
def eR(f:Ab)(d:G1):Prop:=d.Block = -1\/(Bl d.Block f.Blocks.length/\d.At<Oe f d.Block/\d.At<1000)
def mg(f:Ab)(u:M1):Prop:=Bl u.Block f.Blocks.length/\0<=u.At
theorem defs_in{f:Ab}(hf:OkF f):∀ d∈A7 f,eR f d:=λd hd=>by
 rcases zzL9.1 hd with h|h
 ·obtain⟨i,_,hi⟩:=zzL42.1 h;rw[zzL11.1 hi];exact .inl rfl
 ·obtain⟨i,hi,h⟩:=zzL42.1 h
  have hi :=by simpa using hi
  have hB:=hf.block _ (Ag (d:=default) hi);have ho:Oe f i=(f.Blocks.getD i default).Ops.length:=rfl;rcases zzL9.1 h with h|h
  ·obtain⟨k,hk,h⟩:=zzL42.1 h;rw[zzL11.1 h];refine .inr ⟨Ar hi,?_,?_⟩
   ·grind
   ·grind
  ·obtain⟨k,hk,h⟩:=zzL42.1 h
   have hk:k<(f.Blocks.getD i default).Ops.length:=by simpa using hk
   cases hg:decide (0<(G4 _).1) with
   | false=>rw[hg]at h;cases h
   | true=>
    rw[hg]at h;rw[zzL11.1 h];refine .inr ⟨Ar hi,?_,?_⟩
    ·grind
    ·show(k:Int)<1000;have:=hB.ops;omega
theorem mO{f:Ab}(hfit:∀ b∈f.Blocks,∀ p∈b.Phis,p.Args.length<=p.From.length/\∀ x∈p.From,Bl x f.Blocks.length):∀ u∈Du f,mg f u:=λu hu=>by
 obtain⟨i,hi,h⟩:=zzL42.1 hu
 have hi :=by simpa using hi
 have hmem:=Ag (d:=default) hi;rcases zzL9.1 h with h|h
 ·rcases zzL9.1 h with h|h
  ·obtain⟨k,hk,h⟩:=zzL42.1 h
   have hk :=by simpa using hk
   obtain⟨j,hj,h⟩:=zzL42.1 h;have hj:=zzL30.1 hj;have hq:=hfit _ hmem _ (Ag (d:=default) hk);rw[zzL11.1 h];exact⟨hq.2 _ (Ag (by omega)),by grind⟩
  ·obtain⟨k,hk,h⟩:=zzL42.1 h;obtain⟨j,hj,h⟩:=zzL42.1 h;rw[zzL11.1 h];exact⟨Ar hi,by grind⟩
 ·unfold Wj at h
  have:u=⟨(f.Blocks.getD i default).End.Arg,i,1000,(f.Ret,1)⟩\/u=⟨(f.Blocks.getD i default).End.Arg,i,1000,(1,1)⟩:=by
   grind
  rcases this with rfl|rfl<;>exact⟨Ar hi,by grind⟩
theorem oL{f:Ab}(h:Ex f=true):∀ b∈f.Blocks,∀ p∈b.Phis,p.Args.length<=p.From.length/\∀ x∈p.From,Bl x f.Blocks.length:=λb hb p hp=>by
 have hs :=by simp only[Ex,Az]at h;exact h.1
 refine⟨dw h b hb p hp,λx hx=>?_⟩;obtain⟨i,hi,rfl⟩:=E1 hb;simp only[Ex,Az]at h;have h1:=WX h.2 i hi;simp only[K9,Az,zzL23]at h1;rw[Aa _ _ _ hi]at h1;have h2:=h1.2 p hp;simp only[Iu,Az,El]at h2;rw[h2.1]at hx;obtain⟨q,rfl,hq,_⟩:=(U3  (Iv hs)  (by rw[Kt];exact hi)).1 hx;exact Ar (by rw[Kt]at hq;exact hq)
theorem YN{f:Ab}(h:Ex f=true){b:Int}(hb:Bl b f.Blocks.length):Hy (B1 f) 0 b=true:=by
 have hs :=by simp only[Ex,Az]at h;exact h.1
 have hm:=Iv hs;have hlen:=Kt f
 have hpos:0<(Bb f).length:=by have:=(shape_iff.1 hs).1.1;omega
 obtain⟨P,hP,o,ht⟩:=NP hm hpos
 have e:B1 f=Xe (Bb f) 0:=by
  unfold B1 NR;rw[if_pos ⟨HM hm,Int.le_refl _,by show(0:Int)<(Bb f).length;omega⟩]
  rfl
 obtain⟨k,rfl⟩:∃ k:Nat,b=k:=⟨b.toNat,(Xh hb.1).symm⟩
 have hk:k<f.Blocks.length:=by have:=hb.2;omega
 simp only[Ex,Az]at h;have h1:=WX h.2 k hk;simp only[K9,Az]at h1;have hr :=(U4 (Vb hm) hpos k).1 h1.1.1;rw[e];refine(ht.over_dom o hpos (by omega)).2 ⟨rc_iff.2 hr,λha=>?_⟩;exact(av_iff.1 ha).1 rfl
theorem Uj{l:List M1}{g:M1->A6}{p:A6->Bool}{q:M1->Bool}(h:∀ u∈l,p (g u)=q u):(l.map g).all p=l.all q:=by
 grind
def lJ(vs:List (Int×Aw))(u:A6):Bool:=((D7 (default:Aw) vs u.v).shape.1==u.shape.1)&&(((D7 (default:Aw) vs u.v).shape.2==u.shape.2)&&true)
def Xu(vs:List (Int×Aw))(t:List Int)(u:A6):Bool:=bif (D7 (default:Aw) vs u.v).place.block==u.place.block then decide ((D7 (default:Aw) vs u.v).place.at_<u.place.at_) else Hy t (D7 (default:Aw) vs u.v).place.block u.place.block
theorem fS{f:Ab}(hs:Ex f=true){D:List G1}(hD:∀ d∈D,eR f d){u:M1}(hu:mg f u)(hfd:Ms D u=true):Xu (dv D) (B1 f) (Gt f u)=Zk D (B1 f) u:=by
 have hF:¬ Kn D u.V<0:=by simpa [Ms] using hfd
 have hin:=SU hF;have hd:eR f (defOf D u.V):=hD _ (by unfold defOf;exact Ag (by have:=hin.1;have:=hin.2;omega));have hg:D7 (default:Aw) (dv D) (Gt f u).v=JE (defOf D u.V):=X1 u.V D hF;unfold Xu Zk;rw[hg]
 generalize defOf D u.V=d at *
 have hub:=hu.1.1
 have hul:0<=Oe f u.Block:=by unfold Oe;omega
 have hat:∀ a:Int,a<0\/(a<Oe f u.Block/\a<1000)->decide (a<(Gt f u).place.at_)=decide (a<u.At)\/a<0:=λa ha=>by
  rcases ha with ha|ha
  ·exact .inr ha
  ·refine .inl ?_
   show decide (a<bif u.At==1000 then Oe f u.Block else u.At)=_
   by_cases h:u.At=1000
   ·rw[h];simp only[show((1000:Int)==1000)=true from rfl,Ai];rw[Gw ha.1,Gw ha.2]
   ·have:(u.At==1000)=false:=by simpa using h
    rw[this];rfl
 have hpos:0<=(Gt f u).place.at_:=by
  show 0<=bif u.At==1000 then Oe f u.Block else u.At
  cases u.At==1000
  ·exact hu.2
  ·exact hul
 have hblk:(Gt f u).place.block=u.Block:=rfl;rw[hblk];rcases hd with hd|⟨hd1,hd2,hd3⟩
 ·have e:(JE d).place=⟨0,-1⟩:=by show mp d=_;unfold mp;rw[hd];rfl
  rw[e,hd,Gw (show(-1:Int)<0 by decide)];rw[Bool.true_or,Bool.true_or,YN hs hu.1,Gw (show(-1:Int)<(Gt f u).place.at_ by omega)]
  cases(0:Int)==u.Block<;>rfl
 ·have hn:¬ d.Block<0:=by have:=hd1.1;omega
  have e:(JE d).place=⟨d.Block,d.At⟩:=by show mp d=_;unfold mp;rw[Gv hn];rfl
  rw[e,Gv hn,Bool.false_or]
  cases hb:d.Block==u.Block with
  | true=>
   have hbe:d.Block=u.Block:=by simpa using hb
   simp only[Ai,Kw,Hz,JP,Bool.or_false];rcases hat d.At (.inr ⟨by rw[<- hbe];exact hd2,hd3⟩) with h|h
   ·exact h
   ·rw[Gw (by omega),Gw (by have:=hu.2;omega)]
  | false=>
   simp only[A8,JP,Bool.false_or,Lx,Kw];unfold Hy
   by_cases hm:Ok (B1 f) d.Block u.Block=d.Block
   ·rw[hm]
    have:(d.Block !=-2)=true:=by simp;omega
    simp[this]
   ·have:(Ok (B1 f) d.Block u.Block==d.Block)=false:=by simpa using hm
    simp[this,bne]
section
variable {f:Ab} (l:Int) (vs:List (Int×Aw))
def eL(f:Ab)(l:Int)(U:List A6)(i:Int):Int×List Int×Int×List Ac×Int×List Int×List A6:=(i,f.Params,f.Ret,f.Blocks,l,B1 f,U)
def eM(f:Ab)(l:Int)(U:List A6):List Int×Int×List Ac×Int×List Int×List A6:=(f.Params,f.Ret,f.Blocks,l,B1 f,U)
theorem k7(U:List A6)(hU:U.length<9223372036854775808):Af (Eg vs (f,l,B1 f,U)) (eL f l U 0)=some (bif U.all (λu=>C5 vs u.v) then .inl (eM f l U) else .inr (eM f l U)):=by
 have:=kd (eL f l U) U (λu=>C5 vs u.v) (Eg vs (f,l,B1 f,U)) _ _ (λi hi=>by
  unfold Eg eL H1
  have hd:decide (i<(U.length:Int))=true:=by simpa using hi
  simp only[hd, Ad (Ar hi),Do, Fa hi hU]
  cases C5 vs _<;>rfl) (by unfold Eg eL;simp;rfl) U.length 0 (by omega)
 exact this
theorem k8(U:List A6)(hU:U.length<9223372036854775808):Af (Eh vs U) (eL f l U 0)=some (bif U.all (lJ vs) then .inl (eM f l U) else .inr (eM f l U)):=by
 have:=kd (eL f l U) U (lJ vs) (Eh vs U) _ _ (λi hi=>by
  unfold Eh eL Jl
  have hd:decide (i<(U.length:Int))=true:=by simpa using hi
  simp only[hd, Ad (Ar hi),Do, Fa hi hU];unfold lJ
  cases(((D7 _ vs _).shape.1==(U.getD i _).shape.1)&&(((D7 _ vs _).shape.2==(U.getD i _).shape.2)&&true))<;>rfl) (by unfold Eh eL;simp;rfl) U.length 0 (by omega)
 exact this
theorem k9(htl:(B1 f).length<=1000)(U:List A6)(hU:U.length<9223372036854775808):Af (Ei vs U) (eL f l U 0)=some (bif U.all (Xu vs (B1 f)) then .inl (eM f l U) else .inr (eM f l U)):=by
 have:=kd (eL f l U) U (Xu vs _) (Ei vs U) _ _ (λi hi=>by
  have hx:Fu (U.getD i default) f l (B1 f) vs U=some (Xu vs (B1 f) (U.getD i default),f,l,B1 f,U):=by
   unfold Fu Xu;rw[oR htl]
   cases(D7 _ vs _).place.block==(U.getD i _).place.block<;>rfl
  unfold Ei eL
  have hd:decide ((i:Int)<U.length)=true:=by simpa using hi
  simp only[hd, Ad (Ar hi),Do];rw[ hx, Fa hi hU]
  cases Xu vs _ _<;>rfl) (by unfold Ei eL;simp;rfl) U.length 0 (by omega)
 exact this
end
def VI(f:Ab):Int:=bif !(Du f).all (Ms (A7 f)) then 7 else bif !(Du f).all (Zl (A7 f)) then 6 else bif !(Du f).all (Zk (A7 f) (B1 f)) then 7 else 0
theorem oF{f:Ab}(hf:OkF f)(hs:Ex f=true)(l:Int):∃ U,Hb f l (B1 f) (dv (A7 f)) []=some (VI f,f,l,B1 f,U):=by
 have hfit:=oL hs;have hul:=NT hf
 have hsB :=by simp only[Ex,Az]at hs;exact hs.1
 refine⟨(Du f).map (Gt f),?_⟩
 have hU:((Du f).map (Gt f)).length<9223372036854775808:=by grind
 have h1:=k7 (f:=f) l (dv (A7 f)) _ hU;have h2:=k8 (f:=f) l (dv (A7 f)) _ hU;have h3:=k9  l (dv (A7 f)) (jI hsB) _ hU;rw[Uj (q:=Ms _) (λu _=>HO u.V _)]at h1;unfold Hb VI Nj;rw[cx hf l _ _ hfit,Ax];rw[show(Af _ ((0:Int),f.Params,f.Ret,f.Blocks,l,B1 f,(Du f).map _))=_ from h1,Ax];have fin:∀ e ,Af Lp (e,f.Params,f.Ret,f.Blocks,l,B1 f,(Du f).map (Gt f))=some _:=λe=>Am rfl
 cases hfd:(Du f).all _ with
 | false=>simp only[A8,Lx,Ai,eM,Ax,fin]
 | true=>
  have hmf:=zzL23.1 hfd
  rw[Uj (q:=Zl _) (λu hu=>by
   have:=hmf u hu;simp only[Ms,Xi,QV]at this;have hg:D7 _ _ (Gt f u).v=JE _:=X1 u.V _ this;unfold lJ Zl
   rw[hg];rfl)]at h2
  rw[Uj  (λu hu=>fS hs (defs_in hf) (mO hfit u hu) (hmf u hu))]at h3;simp only[Ai,Hz, eM];rw[show(Af _ ((0:Int),f.Params,f.Ret,f.Blocks,l,B1 f,(Du f).map _))=_ from h2,Ax]
  cases(Du f).all _ with
  | false=>simp only[A8,Lx,Ai,eM,Ax,fin]
  | true=>
   simp only[Ai,Hz, eM];rw[show(Af _ ((0:Int),f.Params,f.Ret,f.Blocks,l,B1 f,(Du f).map _))=_ from h3]
   cases(Du f).all _ with
   | false=>simp only[A8,Lx,Ai,eM,Ax,fin]
   | true=>simp only[Ai,Hz,A8,eM,Ax]
theorem lA{f:Ab}(h:Sm f)(l:Int)(h0:0<=l)(h2:l<=2):∃ t u vs,Gz f l [] []=some (Fl f l,f,l,t,u,vs)/\(Fl f l=0->vs=dv (A7 f)):=by
 have hc:Fl f l=bif !Rj f then 4 else QT f l:=by
  unfold Fl;rw[Gv (by omega),Gv (by omega)];rfl
 rw[hc];unfold Gz;rw[oE f h.1,Ax]
 cases hm:Rj f with
 | false=>simp_all
 | true=>
  have hf:=jA h hm;simp only[    QT];obtain⟨t',hsh,hst⟩:=f7 hf l [] [];rw[hsh,Ax]
  cases hs:Ex f with
  | false=>simp_all
  | true=>
   obtain rfl:=hst hs;rw[k6 hf l h0 h2,Ax]
   cases Ll f l with
   | false=>simp_all
   | true=>
    obtain⟨vs,hd,hv⟩:=cz hf l _ [];rw[hd,Ax]
    cases hdd:(List.range _).all _ with
    | false=>grind
    | true=>
     obtain rfl:=hv hdd;obtain⟨U,hu⟩:=oF hf hs l;rw[hu];refine⟨B1 f,U,dv _,?_,λ_=>rfl⟩
     show(bif VI f !=0 then some _ else some _)=some (VI f,f,l,B1 f,U,dv _)
     cases hz:VI f !=0 with
     | true=>rfl
     | false=>
      grind
theorem kv(f:Ab)(l:Int)(h:Sm f):Nl f l=some (Fl f l):=by
 unfold Nl
 by_cases h0:l<0
 · unfold Fl;rw[Gw h0];rfl
 ·by_cases h2:2<l
  · unfold Fl;rw[Gv h0,Gw h2];rfl
  ·obtain⟨t,u,vs,hw,_⟩:=lA h l (by omega) (by omega);rw[Gv h0,Gv h2,hw];rfl
def lone(e:F4)(b r:Int):Ab:=⟨[b],r,[⟨[],[],e⟩]⟩
theorem tb{α:Type}(l:List α):(l.map λ_=>1).sum=l.length:=by induction l with|nil=>rfl|cons a l ih=>simp[ih];omega
theorem Sh{f:Ab}(h:(List.range (A7 f).length).all (Qf (A7 f))=true):((A7 f).map (·.V)).Nodup:=by
 rw[List.nodup_iff_pairwise_ne,List.pairwise_map,zzL87];intro i j hi hj hij he;have:=((Rl hj).1 (WX h j hj)).2 i hij;rw[Aa _ _ _ hi,Aa _ _ _ hj]at this;exact this he
abbrev bA(f:Ab)(i:Nat):Ac:=f.Blocks.getD i default
def cD(f:Ab)(i:Nat)(k:Nat):Int:=(bA f i).End.To.getD k 0
def prF(f:Ab)(i:Nat):List Int:=(Ec (Bb f)).getD i []
structure Rt(f:Ab):Prop where
 lo:1<=f.Blocks.length
 hi:f.Blocks.length<=64
 to:∀ i,i<f.Blocks.length->∀ k,k<(bA f i).End.To.length->0<cD f i k/\cD f i k<f.Blocks.length
 one:∀ i,i<f.Blocks.length->(bA f i).End.Kind=1->(bA f i).End.To.length=1
 two:∀ i,i<f.Blocks.length->(bA f i).End.Kind=2->(bA f i).End.To.length=2
 may:Ld (Bb f)=true
 ok:OkF f
theorem mH{f:Ab}{i:Nat}(hi:i<f.Blocks.length):(Bb f).getD i []=W9 (bA f i).End.To:=by
 unfold Bb;rw[Kx hi];rfl
theorem om(f:Ab):(Ec (Bb f)).length=f.Blocks.length:=by rw[Nh,Kt]
set_option maxRecDepth 100000
def WQ(f:Ab)(d:G1)(b a:Int):Prop:=d.Block<0\/(d.Block=b/\d.At<a)\/(d.Block≠b/\Hy (B1 f) d.Block b=true)
theorem GN{l:List G1}(hn:(l.map (·.V)).Nodup){d:G1}(hd:d∈l):0<=Kn l d.V/\defOf l d.V=d:=by
 obtain⟨i,hi,rfl⟩:=E1 hd
 have hx:∃ k,l.findIdx? (λe=>e.V==l[i].V)=some k:=by
  cases h:l.findIdx? _ with
  | some k=>exact⟨k,rfl⟩
  | none=>
   grind
 obtain⟨k,hk⟩:=hx;obtain⟨hk1,hk2,_⟩:=List.findIdx?_eq_some_iff_getElem.1 hk
 have e :=by
  have h1:(l.map (·.V))[k]'(by simpa using hk1)=(l.map (·.V))[i]'(by simpa using hi):=by simpa using hk2
  exact(List.getElem_inj hn).1 h1
 subst e;unfold defOf Kn;rw[hk];refine⟨by simp,?_⟩;rw[Ao,Aa _ _ _ hi]
theorem X4{f:Ab}(hn:((A7 f).map (·.V)).Nodup)(hv:∀ d∈A7 f,Iy d.V=true)(hu:∀ u∈Du f,∃ d∈A7 f,d.V=u.V/\d.Shape=u.Shape/\WQ f d u.Block u.At):NH f=0:=by
 have h1:(List.range (A7 f).length).all (Qf (A7 f))=true:=by
  rw[zzL23];intro i hi;rw[zzL30]at hi;refine(Rl hi).2 ⟨hv _ (Ag hi),λj hj he=>?_⟩;rw[Aa _ _ _ hi,Aa _ _ _ (by omega)]at he;have:=(List.getElem_inj (h₀:=show j<((A7 f).map _).length by simp;omega) (h₁:=by simpa using hi) hn).1 (by simpa using he);omega
 have h2:(Du f).all (Ms (A7 f))=true:=by
  rw[zzL23];intro u h;obtain⟨d,hd,e,_⟩:=hu u h;unfold Ms;have:=(GN hn hd).1;rw[e]at this
  simp;omega
 have h3:(Du f).all (Zl (A7 f))=true:=by
  rw[zzL23];intro u h;obtain⟨d,hd,e,es,_⟩:=hu u h;unfold Zl;rw[<- e,(GN hn hd).2,es];simp
 have h4:(Du f).all (Zk (A7 f) (B1 f))=true:=by
  rw[zzL23];intro u h;obtain⟨d,hd,e,_,ht⟩:=hu u h;unfold Zk;rw[<- e,(GN hn hd).2];rcases ht with h|⟨h,h'⟩|⟨h,h'⟩
  ·grind
  ·grind
  ·unfold Hy at h';rw[Az,zzL62]at h';rw[h'.1,zzL28.2 h];simp
 unfold NH;rw[h1,h2,h3,h4];rfl
structure AJ(f:Ab)(l:Int):Prop where
 may:Rj f=true
 shape:Ex f=true
 typed:Ll f l=true
 rest:NH f=0
theorem FT{f:Ab}{l:Int}(hl:0<=l/\l<=2):Fl f l=0↔AJ f l:=
 ⟨λh=>by obtain⟨a,b,c,d⟩:=(GL hl.1 hl.2).1 h;exact⟨a,b,c,d⟩,λh=>(GL hl.1 hl.2).2 ⟨h.1,h.2,h.3,h.4⟩⟩
section
variable {f:Ab} {l:Int} (R:AJ f l)
include R
theorem UY{b:Ac}(hb:b∈f.Blocks){o:Bz}(ho:o∈b.Ops):Ja l o=true:=by
 have h:=R.typed;simp only[Ll,F0,Az,zzL23]at h;exact(h.1.2 b hb).2 o ho
theorem qj{b:Ac}(hb:b∈f.Blocks){o:Bz}(ho:o∈b.Ops):Fp o=true:=by
 have:=UY R hb ho;unfold Ja at this;simp only[Az]at this;exact this.1.1
theorem Wf:(List.range (A7 f).length).all (Qf (A7 f))=true/\(∀ u∈Du f,Ms (A7 f) u=true)/\(∀ u∈Du f,Zl (A7 f) u=true)/\∀ u∈Du f,Zk (A7 f) (B1 f) u=true:=by
 have h:=R.rest;unfold NH at h
 cases h1:(List.range _).all _ with
 | false=>rw[h1]at h;cases h
 | true=>grind
theorem iq{d e:G1}(hd:d∈A7 f)(he:e∈A7 f)(hv:d.V=e.V):d=e:=by
 have hn:=Sh (Wf R).1;have h1:=(GN hn hd).2;rw[hv,(GN hn he).2]at h1;exact h1.symm
theorem S5{d:G1}(hd:d∈A7 f):Iy d.V=true:=by
 obtain⟨i,hi,rfl⟩:=E1 hd;have:=((Rl hi).1 (WX (Wf R).1 i hi)).1;rw[Aa _ _ _ hi]at this;exact this
theorem CA{u:M1}(hu:u∈Du f):∃ d∈A7 f,d.V=u.V/\d.Shape=u.Shape/\WQ f d u.Block u.At:=by
 obtain⟨_,h2,h3,h4⟩:=Wf R;have hf:=h2 u hu;have hfit:=h3 u hu;have hdom:=h4 u hu;unfold Ms at hf
 have hneg:¬ Kn (A7 f) u.V<0:=by simpa using hf
 have hin:=SU hneg;have hmem:defOf _ u.V∈A7 f:=Ag (by  have:=hin.2;omega)
 have hV:(defOf (A7 f) u.V).V=u.V:=by
  unfold defOf;unfold Kn at hneg ⊢
  cases hx:(A7 f).findIdx? _ with
  | none=>grind
  | some i=>
   obtain⟨hi,hp,_⟩:=List.findIdx?_eq_some_iff_getElem.1 hx;rw[Ao,Aa _ _ _ hi]
   simpa using hp
 refine⟨_,hmem,hV,?_,?_⟩
 ·unfold Zl at hfit;simp only[Az,zzL62]at hfit;exact Prod.ext hfit.1 hfit.2.1
 ·unfold Zk at hdom;simp only[Vi,Az,El,zzL62,Xi,zzL28]at hdom;rcases hdom with(h|h)|⟨h,h'⟩
  ·exact .inl h
  ·exact .inr (.inl h)
  ·by_cases hb:(defOf (A7 f) u.V).Block<0
   ·exact .inl hb
   ·refine .inr (.inr ⟨h,?_⟩);rw[bne_eq_false_iff_eq]at h';unfold Hy;rw[h',Az];exact⟨by simp,by rw[Q4];omega⟩
end
theorem ri_def{f:Ab}{d:G1}:d∈A7 f↔(∃ i,i<f.Params.length/\d=⟨(i:Int)+1,-1,0,(f.Params.getD i 0,1)⟩) \/
  ∃ i,i<f.Blocks.length/\((∃ k,k<(bA f i).Phis.length/\d=⟨((bA f i).Phis.getD k default).Dst,i,-1,(((bA f i).Phis.getD k default).Bits,1)⟩) \/
   ∃ k,k<(bA f i).Ops.length/\0<(G4 ((bA f i).Ops.getD k default)).1/\d=⟨((bA f i).Ops.getD k default).Dst,i,k,G4 ((bA f i).Ops.getD k default)⟩):=by
 unfold A7 Pa P3 Yy GO;simp only[zzL9,zzL42,zzL30,zzL11]
 constructor
 ·grind
 ·rintro(h|⟨i,hi,⟨k,hk,h⟩|⟨k,hk,hg,h⟩⟩)
  ·exact .inl h
  ·exact .inr ⟨i,hi,.inl ⟨k,hk,h⟩⟩
  ·exact .inr ⟨i,hi,.inr ⟨k,hk,by simp_all⟩⟩
theorem NO{o:Bz}(hm:Fp o=true):(Hw o).length=o.Args.length/\∀ j,j<o.Args.length->(Hw o).getD j (0,0)=gj o j:=by
 obtain⟨_,_,_,_,hn,_,_⟩:=FN hm
 have ht:Hw o=Po o:=by unfold Hw;rw[hm];rfl
 have htl:(Po o).length=o.Args.length:=by unfold Po;rw[B9,Lw];omega
 refine⟨by rw[ht,htl],λj hj=>?_⟩;rw[ht];unfold Po;rw[Kx (by omega)]
theorem E7 {f : Ab} (hk : ∀ b ∈ f.Blocks, ∀ o ∈ b.Ops, Fp o = true) {u : M1} : u ∈ Du f ↔ ∃ i, i < f.Blocks.length ∧
    ((∃ k j, k < (bA f i).Phis.length ∧ j < ((bA f i).Phis.getD k default).Args.length ∧ u = ⟨((bA f i).Phis.getD k default).Args.getD j 0, ((bA f i).Phis.getD k default).From.getD j 0, 1000, (((bA f i).Phis.getD k default).Bits, 1)⟩) ∨
     (∃ k j, k < (bA f i).Ops.length ∧ j < ((bA f i).Ops.getD k default).Args.length ∧ u = ⟨((bA f i).Ops.getD k default).Args.getD j 0, i, k, gj ((bA f i).Ops.getD k default) j⟩) ∨
     ((bA f i).End.Kind = 0 ∧ u = ⟨(bA f i).End.Arg, i, 1000, (f.Ret, 1)⟩) ∨ ((bA f i).End.Kind = 2 ∧ u = ⟨(bA f i).End.Arg, i, 1000, (1, 1)⟩)) := by
  unfold Du JD S8 N5 CE Qn Wj; simp only [zzL9, zzL42, zzL30, zzL11]
  have hE : ∀ (k c : Int) (x : M1), u ∈ (bif k == c then [x] else []) ↔ (k = c ∧ u = x) := fun k c x => by
    grind
  simp only [hE]
  constructor
  · rintro ⟨i, hi, (⟨k, hk', j, hj, h⟩ | ⟨k, hk', j, hj, h⟩) | h⟩
    · exact ⟨i, hi, .inl ⟨k, j, hk', hj, h⟩⟩
    · obtain ⟨e1, e2⟩ := NO (hk _ (Ag  hi) _ (Ag  hk')); rw [e1] at hj; rw [e2 j hj] at h; exact ⟨i, hi, .inr (.inl ⟨k, j, hk', hj, h⟩)⟩
    · exact ⟨i, hi, .inr (.inr h)⟩
  · rintro ⟨i, hi, ⟨k, j, hk', hj, h⟩ | ⟨k, j, hk', hj, h⟩ | h⟩
    · grind
    · obtain ⟨e1, e2⟩ := NO (hk _ (Ag  hi) _ (Ag  hk')); exact ⟨i, hi, .inl (.inr ⟨k, hk', j, by rw [e1]; exact hj, by rw [e2 j hj]; exact h⟩)⟩
    · grind
theorem ir{f:Ab}(hm:Ld (Bb f)=true){x y:Nat}(hx:x<f.Blocks.length):y∈sN (Bb f) x↔(y:Int)∈(bA f x).End.To:=by
 rw[oV hm (by rw[Kt];exact hx),mH hx,(NK _).2]
theorem mD{f:Ab}(hm:Ld (Bb f)=true)(h0:0<f.Blocks.length){a b:Nat}(ha:a<f.Blocks.length)(hb:b<f.Blocks.length):Hy (B1 f) (a:Int) (b:Int)=true↔Rc (sN (Bb f)) 0 b/\¬ Av (sN (Bb f)) 0 a b:=by
 have hl:=Kt f;obtain⟨P,_,o,t⟩:=NP hm (r:=0) (by omega)
 have e:B1 f=Xe (Bb f) 0:=by
  unfold B1 NR;rw[if_pos ⟨HM hm,Int.le_refl _,by show 0<((Bb f).length:Int);omega⟩];rfl
 rw[e];exact t.over_dom o (by omega) (by omega)
theorem UX{f:Ab}(hm:Ld (Bb f)=true)(h0:0<f.Blocks.length)(z:Nat):(Zq (Bb f)).getD z false=true↔Rc (sN (Bb f)) 0 z:=by
 rw[rc_iff];exact U4 (Vb hm) (by rw[Kt];exact h0) z
theorem BU(f:Ab){i:Nat}(hi:i<f.Blocks.length):(prF f i).Pairwise (·<·):=by
 unfold prF;rw[BV (by rw[Kt];exact hi)];exact ST _ _
set_option linter.unusedSectionVars false
theorem Wi{l:Int}{o:Bz}(h:Ja l o=true):Fp o=true:=by
 unfold Ja at h;simp only[Az]at h;exact h.1.1
theorem Y6{o:Bz}(h:Fp o=true):G4 o=Ur o.Kind o.Bits o.Lanes:=by unfold G4;rw[h];rfl
theorem AY{o:Bz}(h:Fp o=true)(hg:0<(G4 o).1):Iy o.Dst=true:=by
 have hd:=(FN h).2.2.2.2.2.2;rw[Y6 h]at hg;unfold dstS at hd
 cases hk:(o.Kind==17 || o.Kind==19) with
 | true=>unfold Ur at hg;rw[hk,Ai]at hg;exact absurd hg (by decide)
 | false=>rw[hk]at hd;exact hd
def KO(s:List Bz):List Int:=(s.filter λo=>decide (0<(G4 o).1)).map (·.Dst)
def FV(b:Ac):List Int:=b.Phis.map (·.Dst)++KO b.Ops
theorem NF{α β:Type}(l:List α)(d:α)(F:α->β):(List.range l.length).map (λk=>F (l.getD k d))=l.map F:=by
 apply AA
 ·simp
 ·intro i h1 h2;simp at h1 h2 ⊢;simp[h1]
theorem dG(l:List Bz):l.flatMap (λo=>bif decide (0<(G4 o).1) then[o.Dst] else[])=KO l:=by
 induction l with
 | nil=>rfl
 | cons o l ih=>
  rw[Yc,ih];unfold KO
  by_cases h:0<(G4 o).1<;>simp[h]
theorem lI(b:Ac)(i:Nat):(P3 b i).map (·.V)=FV b:=by
 unfold P3 FV Yy GO;rw[Om,List.map_flatMap,List.map_flatMap]
 congr 1
 ·show(List.range b.Phis.length).flatMap (λk=>[(b.Phis.getD k default).Dst])=_
  rw[<- List.map_eq_flatMap];exact NF b.Phis default (·.Dst)
 ·rw[<- dG,List.flatMap_def,List.flatMap_def]
  congr 1
  rw[<- NF b.Ops default];refine Tq λk hk=>?_
  cases decide (0<(G4 (b.Ops.getD k default)).1)<;>rfl
theorem gf(g:Ab):(A7 g).map (·.V)=(List.range g.Params.length).map (λi:Nat=>(i:Int)+1)++(List.range g.Blocks.length).flatMap (λy=>FV (bA g y)):=by
 unfold A7 Pa;rw[Om,List.map_flatMap,List.map_flatMap]
 congr 1
 ·rw[List.map_eq_flatMap];rfl
 ·rw[List.flatMap_def,List.flatMap_def]
  congr 1
  exact Tq λy _=>lI _ y
theorem nodup_split(g:Ab):((A7 g).map (·.V)).Nodup↔(∀ y,y<g.Blocks.length->(FV (bA g y)).Nodup)/\(∀ y z,y<g.Blocks.length->z<g.Blocks.length->y≠z->∀ v∈FV (bA g y),v∉FV (bA g z))/\(∀ i:Nat,i<g.Params.length->∀ y,y<g.Blocks.length->((i:Int)+1)∉FV (bA g y)):=by
 rw[gf,List.nodup_append,List.nodup_iff_pairwise_ne (l:=List.flatMap _ _),List.pairwise_flatMap]
 have hP:((List.range g.Params.length).map (λi:Nat=>(i:Int)+1)).Nodup:=by
  rw[List.nodup_iff_pairwise_ne,List.pairwise_map];exact List.Pairwise.imp (λ{a b} (h:a<b)=>by omega) List.pairwise_lt_range
 constructor
 ·rintro⟨_,⟨h1,h2⟩,h3⟩;refine⟨λy hy=>List.nodup_iff_pairwise_ne.2 (h1 y (zzL30.2 hy)),?_,λi hi y hy hv=>h3 _ (zzL14.2 ⟨i,zzL30.2 hi,rfl⟩) _ (zzL42.2 ⟨y,zzL30.2 hy,hv⟩) rfl⟩
  have key:∀ y z,y<z->z<g.Blocks.length->∀ v∈FV (bA g y),v∉FV (bA g z):=λy z hyz hz v h4 h5=>by
   have:=(zzL87.1 h2) y z (by simp;omega) (by simpa using hz) hyz;simp only[List.getElem_range]at this;exact this v h4 v h5 rfl
  intro y z hy hz hne v h4 h5;rcases Nat.lt_or_gt_of_ne hne with e|e
  ·exact key y z e hz v h4 h5
  ·exact key z y e hy v h5 h4
 ·rintro⟨h1,h2,h3⟩;refine⟨hP,⟨λy hy=>List.nodup_iff_pairwise_ne.1 (h1 y (zzL30.1 hy)),?_⟩,λa ha b hb hab=>?_⟩
  ·refine List.Pairwise.imp_of_mem (λ{a b} ha hb hab v hv w hw e=>?_) (List.pairwise_lt_range (n:=g.Blocks.length));exact h2 a b (zzL30.1 ha) (zzL30.1 hb) (by omega) v hv (e▸hw)
  ·obtain⟨i,hi,rfl⟩:=zzL14.1 ha;obtain⟨y,hy,hv⟩:=zzL42.1 hb;exact h3 i (zzL30.1 hi) y (zzL30.1 hy) (hab▸hv)
def Yb(y k:Nat):Nat:=if k<y then k else k+1
def psJ(x y b:Nat):Nat:=if y<(if b=y then x else b) then(if b=y then x else b)-1 else(if b=y then x else b)
def YP(x y:Nat)(a:Int):Int:=((psJ x y a.toNat:Nat):Int)
def Uc(ps:List A4)(v:Int):Int:=match ps.find? (λp=>p.Dst==v) with|some p=>p.Args.getD 0 0|none=>v
def EO(l:List (Int×Int))(e:Int×Int):List (Int×Int):=l.takeWhile (λp=>decide (p.1<e.1))++e::l.dropWhile (λp=>decide (p.1<e.1))
def Ub(l:List (Int×Int)):List (Int×Int):=l.foldl EO []
def Kj(v:Int->Int)(x y:Nat)(p:A4):List (Int×Int):=List.zip (p.From.map (YP x y)) (p.Args.map v)
def EW(v:Int->Int)(x y:Nat)(p:A4):A4:=⟨p.Bits,p.Dst,(Ub (Kj v x y p)).map (·.1),(Ub (Kj v x y p)).map (·.2)⟩
def WJ(v:Int->Int)(o:Bz):Bz:=⟨o.Kind,o.Bits,o.Lanes,o.Dst,o.Args.map v,o.Imm⟩
def XJ(v:Int->Int)(x y:Nat)(e:F4):F4:=⟨e.Kind,v e.Arg,e.To.map (YP x y)⟩
def Xv(v:Int->Int)(x y:Nat)(b:Ac):Ac:=⟨b.Phis.map (EW v x y),b.Ops.map (WJ v),XJ v x y b.End⟩
def F5(f:Ab)(x y i:Nat):Ac:=if i=x then⟨(bA f x).Phis,(bA f x).Ops++(bA f y).Ops,(bA f y).End⟩ else bA f i
def vJ(f:Ab)(y:Nat):Int->Int:=Uc (bA f y).Phis
def Bk(f:Ab)(x y:Nat):Ab:=⟨f.Params,f.Ret,(List.range (f.Blocks.length-1)).map λk=>Xv (vJ f y) x y (F5 f x y (Yb y k))⟩
structure Jn(f:Ab)(x y:Nat):Prop where
 hx:x<f.Blocks.length
 kind:(bA f x).End.Kind=1
 to:(bA f x).End.To=[(y:Int)]
 ne:y≠x
 pred:prF f y=[(x:Int)]
def EY(f:Ab)(x y:Nat):Prop:=(y:Int)∈(bA f x).End.To
def O3(x y a:Nat):Nat:=if a=x then y else a
theorem K5{g:Ab}(hg:Fn g=true){y:Nat}(hy:y<g.Blocks.length){x:Int}:x∈prF g y↔∃ p:Nat,x=(p:Int)/\p<g.Blocks.length/\EY g p y:=by
 unfold prF;have hl:=Kt g;rw[U3 (Iv hg) (by omega)]
 constructor
 ·rintro⟨p,h1,h2,h3⟩;exact⟨p,h1,by omega,(ir (Iv hg) (by omega)).1 h3⟩
 ·rintro⟨p,h1,h2,h3⟩;exact⟨p,h1,by omega,(ir (Iv hg) h2).2 h3⟩
theorem Ya{f:Ab}(hs:Fn f=true){a:Nat}(ha:a<f.Blocks.length){z:Int}(hz:z∈(bA f a).End.To):∃ c:Nat,z=(c:Int)/\c<f.Blocks.length/\0<c/\EY f a c:=by
 have h:=toB_iff.1 (bR ((shape_iff.1 hs).2 a ha)) z hz;refine⟨z.toNat,by omega,by omega,by omega,?_⟩;unfold EY;rw[show((z.toNat:Nat):Int)=z by omega];exact hz
theorem YG{f:Ab}(hs:Fn f=true){a b:Nat}(ha:a<f.Blocks.length)(h:EY f a b):b<f.Blocks.length/\0<b:=by
 obtain⟨c,h1,h2,h3,_⟩:=Ya hs ha h;omega
theorem Mw{f:Ab}(hs:Fn f=true){a b:Nat}(ha:a<f.Blocks.length):b∈sN (Bb f) a↔EY f a b:=ir (Iv hs) ha
theorem YS{f:Ab}(hs:Fn f=true){b:Nat}(h:Rc (sN (Bb f)) 0 b):b<f.Blocks.length:=by
 have h0:=(shape_iff.1 hs).1.1
 induction h with
 | root=>omega
 | step hx hy ih=>exact(YG hs ih ((Mw hs ih).1 hy)).1
theorem qF{S:Nat->List Nat}{r z b:Nat}(h:Av S r z b):Rc S r b:=by
 induction h with
 | root=>exact .root
 | step _ hy _ ih=>exact .step ih hy
theorem mq{S:Nat->List Nat}{r z b:Nat}(h:Av S r z b):b≠z:=by
 cases h with
 | root h=>exact h
 | step _ _ h=>exact h
theorem av_split{S:Nat->List Nat}{r a b c:Nat}(h:Av S r a c):Av S r b c\/Av S r a b:=by
 induction h with
 | root h=>
  by_cases e:r=b
  ·subst e;exact .inr (.root h)
  ·exact .inl (.root e)
 | @step x y h hy hz ih=>
  rcases ih with h1|h1
  ·by_cases e:y=b
   ·subst e;exact .inr (.step h hy hz)
   ·exact .inl (.step h1 hy e)
  ·exact .inr h1
section
variable {f:Ab} (hs:Fn f=true)
include hs
theorem Pk{a b:Nat}(ha:a<f.Blocks.length)(hb:b<f.Blocks.length):Hy (B1 f) (a:Int) (b:Int)=true↔Rc (sN (Bb f)) 0 b/\¬ Av (sN (Bb f)) 0 a b:=
 mD (Iv hs) (by have:=(shape_iff.1 hs).1.1;omega) ha hb
theorem IC{a b c:Nat}(ha:a<f.Blocks.length)(hb:b<f.Blocks.length)(hc:c<f.Blocks.length)(h1:Hy (B1 f) (a:Int) (b:Int)=true)(h2:Hy (B1 f) (b:Int) (c:Int)=true):Hy (B1 f) (a:Int) (c:Int)=true:=by
 rw[Pk hs ha hb]at h1;rw[Pk hs hb hc]at h2;refine(Pk hs ha hc).2 ⟨h2.1,λh=>?_⟩;rcases av_split (b:=b) h with e|e
 ·exact h2.2 e
 ·exact h1.2 e
end
theorem up_eq(y k:Nat):(k<y/\Yb y k=k)\/(y<=k/\Yb y k=k+1):=by unfold Yb;split<;>omega
theorem ps_eq{x y:Nat}(hne:y≠x)(b:Nat):(b=y/\psJ x y b=psJ x y x)\/(b<y/\psJ x y b=b)\/(y<b/\psJ x y b=b-1):=by
 unfold psJ
 by_cases e:b=y
 ·left;subst e;simp
 ·rw[if_neg e]
  by_cases h:y<b
  ·rw[if_pos h];omega
  ·rw[if_neg h];omega
theorem UQ{x y:Nat}(hne:y≠x)(k:Nat):psJ x y (Yb y k)=k:=by
 rcases up_eq y k with⟨h,e⟩|⟨h,e⟩<;>rw[e]
 ·rcases ps_eq hne k with h1|h1|h1<;>omega
 ·rcases ps_eq hne (k+1) with h1|h1|h1<;>omega
theorem jJ{x y:Nat}(hne:y≠x){b:Nat}(hb:b≠y):Yb y (psJ x y b)=b:=by
 rcases ps_eq hne b with h|⟨h,e⟩|⟨h,e⟩
 ·omega
 ·rw[e];rcases up_eq y b with h1|h1<;>omega
 ·rw[e];rcases up_eq y (b-1) with h1|h1<;>omega
theorem NS(y k:Nat):Yb y k≠y:=by rcases up_eq y k with h|h<;>omega
theorem YQ{x y:Nat}(hne:y≠x){b c:Nat}(hb:b≠y)(hc:c≠y)(h:psJ x y b=psJ x y c):b=c:=by
 rw[<- jJ hne hb,<- jJ hne hc,h]
theorem qe{x y n:Nat}(hne:y≠x)(hx:x<n)(hy:y<n){b:Nat}(hb:b<n):psJ x y b<n-1:=by
 rcases ps_eq hne b with⟨_,e⟩|h|h
 ·rw[e];rcases ps_eq hne x with h|h|h<;>omega
 ·omega
 ·omega
theorem VH{y n k:Nat}(hy:y<n)(hk:k<n-1):Yb y k<n:=by rcases up_eq y k with h|h<;>omega
theorem Jb(x y b:Nat):YP x y (b:Int)=((psJ x y b:Nat):Int):=by unfold YP;rw[Ao]
section
variable {f:Ab} {x y:Nat} (J:Jn f x y) (hs:Fn f=true)
include J
theorem Kb:(Bk f x y).Blocks.length=f.Blocks.length-1:=by
 show(List.map _ _).length=_;rw[B9,Lw]
theorem qW{k:Nat}(hk:k<f.Blocks.length-1):bA (Bk f x y) k=Xv (vJ f y) x y (F5 f x y (Yb y k)):=Kx hk
include hs
theorem DB:y<f.Blocks.length/\0<y:=YG hs J.hx (by unfold EY;rw[J.to];exact zzL11.2 rfl)
theorem Rd{b:Nat}(hb:b<f.Blocks.length):psJ x y b<f.Blocks.length-1:=qe J.ne J.hx (DB J hs).1 hb
theorem lT{b:Nat}(hb:b<f.Blocks.length)(hne:b≠y):bA (Bk f x y) (psJ x y b)=Xv (vJ f y) x y (F5 f x y b):=by
 rw[qW J (Rd J hs hb),jJ J.ne hne]
theorem JI{a:Nat}(ha:a<f.Blocks.length)(h:EY f a y):a=x:=by
 have:(a:Int)∈prF f y:=(K5 hs (DB J hs).1).2 ⟨a,rfl,ha,h⟩;rw[J.pred,zzL11]at this;omega
theorem S6{a:Nat}(ha:a<f.Blocks.length):O3 x y a<f.Blocks.length:=by
 unfold O3;split
 ·exact(DB J hs).1
 ·exact ha
theorem ZD{a b:Nat}(ha:a<f.Blocks.length)(hay:a≠y)(h:EY f (O3 x y a) b):b≠y:=by
 intro e;subst e;have:=JI J hs (S6 J hs ha) h;unfold O3 at this
 split at this
 ·exact J.ne this
 ·omega
theorem GW{a:Nat}(ha:a<f.Blocks.length)(hay:a≠y):(bA (Bk f x y) (psJ x y a)).End=XJ (vJ f y) x y (bA f (O3 x y a)).End:=by
 rw[lT J hs ha hay];unfold Xv F5 O3
 split
 ·rfl
 ·rfl
theorem lR{a b:Nat}(ha:a<f.Blocks.length)(hay:a≠y)(hb:b≠y):EY (Bk f x y) (psJ x y a) (psJ x y b)↔EY f (O3 x y a) b:=by
 unfold EY;rw[GW J hs ha hay]
 constructor
 ·intro h;obtain⟨z,hz,e⟩:=zzL14.1 h;obtain⟨c,rfl,hc,_,hn⟩:=Ya hs (S6 J hs ha) hz;rw[Jb]at e;have:c=b:=YQ J.ne (ZD J hs ha hay hn) hb (by omega);rw[<- this];exact hz
 ·intro h;exact zzL14.2 ⟨_,h,Jb x y b⟩
theorem qX{a:Nat}(ha:a<f.Blocks.length)(hay:a≠y){w:Nat}(h:EY (Bk f x y) (psJ x y a) w):∃ b,b<f.Blocks.length/\b≠y/\0<b/\w=psJ x y b/\EY f (O3 x y a) b:=by
 have h0:=h;unfold EY at h;rw[GW J hs ha hay]at h;obtain⟨z,hz,e⟩:=zzL14.1 h;obtain⟨c,rfl,hc,hc0,hn⟩:=Ya hs (S6 J hs ha) hz;rw[Jb]at e;exact⟨c,hc,ZD J hs ha hay hn,hc0,by omega,hn⟩
theorem oO:(0:Nat)≠y/\psJ x y 0=0:=by
 have:=(DB J hs).2;refine⟨by omega,?_⟩;rcases ps_eq J.ne 0 with h|h|h<;>omega
theorem j_shapeB:Fn (Bk f x y)=true:=by
 obtain⟨⟨s1,s2⟩,s3⟩:=shape_iff.1 hs;have hy:=DB J hs;have hx:=J.hx;have hne:=J.ne;refine shape_iff.2 ⟨by rw[Kb J];omega,λk hk=>?_⟩;rw[Kb J]at hk ⊢;have hu:=VH hy.1 hk
 have e:Md (Bk f x y) k=XJ (vJ f y) x y (bA f (O3 x y (Yb y k))).End:=by
  have:=GW J hs hu (NS y k);rw[UQ hne]at this;exact this
 have h3:=s3 _ (S6 J hs hu);have h4:Jj (bA f (O3 x y (Yb y k))).End f.Blocks.length=true:=h3;rw[e];unfold Jj at h4 ⊢;rw[Az]at h4 ⊢;refine⟨?_,toB_iff.2 λw hw=>?_⟩
 ·have:=h4.1;unfold Y9 XJ at *
  simpa using this
 ·obtain⟨z,hz,rfl⟩:=zzL14.1 hw;obtain⟨c,rfl,hc,hc0,hn⟩:=Ya hs (S6 J hs hu) hz;rw[Jb];have h1:=Rd J hs hc;have h2:=ZD J hs hu (NS y k) hn
  have:0<psJ x y c:=by rcases ps_eq hne c with h|h|h<;>omega
  omega
theorem bY{b:Nat}(h:Rc (sN (Bb f)) 0 b):b<f.Blocks.length/\Rc (sN (Bb (Bk f x y))) 0 (psJ x y b):=by
 have hy:=DB J hs;have hgs:=j_shapeB J hs
 induction h with
 | root=>exact⟨by omega,by rw[(oO J hs).2];exact .root⟩
 | @step a b ha hb ih=>
  have hn:=(Mw hs ih.1).1 hb;have hbl:=(YG hs ih.1 hn).1;refine⟨hbl,?_⟩
  have key:∀ c,c<f.Blocks.length->c≠y->psJ x y c=psJ x y a->EY f (O3 x y c) b->b≠y->Rc (sN (Bb (Bk f x y))) 0 (psJ x y b):=λc hc hcy e hcn hby=>by
   rw[<- e]at ih;exact .step ih.2 ((Mw hgs (by rw[Kb J];exact Rd J hs hc)).2 ((lR J hs hc hcy hby).2 hcn))
  by_cases e:b=y
  ·subst e;have:=JI J hs ih.1 hn;subst this;rcases ps_eq J.ne b with h|h|h
   ·rw[h.2];exact ih.2
   ·omega
   ·omega
  ·by_cases ea:a=y
   ·refine key x J.hx (λh=>J.ne h.symm) ?_ ?_ e
    ·rw[ea];rcases ps_eq J.ne y with h|h|h
     ·rw[h.2]
     ·omega
     ·omega
    ·unfold O3;rw[if_pos rfl,<- ea];exact hn
   ·by_cases ex:a=x
    ·exfalso
     unfold EY at hn;rw[ex,J.to,zzL11]at hn;omega
    ·refine key a ih.1 ea rfl ?_ e;unfold O3;rw[if_neg ex];exact hn
theorem sc{a:Nat}(hay:a≠y){w:Nat}(h:Av (sN (Bb (Bk f x y))) 0 (psJ x y a) w):∃ b,b<f.Blocks.length/\b≠y/\psJ x y b=w/\Av (sN (Bb f)) 0 a b:=by
 have hy:=DB J hs;have hgs:=j_shapeB J hs
 induction h with
 | root hne=>exact⟨0,by omega,(oO J hs).1,(oO J hs).2,.root (λe=>hne (by rw[<- e,(oO J hs).2]))⟩
 | @step w w' hw hy' hz ih=>
  obtain⟨b,hb,hby,rfl,hav⟩:=ih;have hn:=(Mw hgs (by rw[Kb J];exact Rd J hs hb)).1 hy';obtain⟨c,hc,hcy,_,rfl,hnc⟩:=qX J hs hb hby hn;have hca:c≠a:=λe=>hz (by rw[e]);refine⟨c,hc,hcy,rfl,?_⟩;unfold O3 at hnc
  by_cases e:b=x
  ·rw[if_pos e]at hnc;have h1:Av (sN (Bb f)) 0 a y:=.step hav ((Mw hs hb).2 (by unfold EY;rw[e,J.to];exact zzL11.2 rfl)) (λe=>hay e.symm);exact .step h1 ((Mw hs hy.1).2 hnc) hca
  ·rw[if_neg e]at hnc;exact .step hav ((Mw hs hb).2 hnc) hca
theorem oP{a b:Nat}(ha:a<f.Blocks.length)(hay:a≠y)(hb:b<f.Blocks.length)(hby:b≠y)(h:Hy (B1 f) (a:Int) (b:Int)=true):Hy (B1 (Bk f x y)) (psJ x y a:Int) (psJ x y b:Int)=true:=by
 obtain⟨h1,h2⟩:=(Pk hs ha hb).1 h;refine(Pk (j_shapeB J hs) (by rw[Kb J];exact Rd J hs ha) (by rw[Kb J];exact Rd J hs hb)).2 ⟨(bY J hs h1).2,λhav=>h2 ?_⟩;obtain⟨c,hc,hcy,e,hv⟩:=sc J hs hay hav;rw[<- YQ J.ne hcy hby e];exact hv
theorem sf{d:Nat}(hd:d≠y)(h:Av (sN (Bb f)) 0 d x):Av (sN (Bb f)) 0 d y:=
 .step h ((Mw hs J.hx).2 (by unfold EY;rw[J.to];exact zzL11.2 rfl)) (λe=>hd e.symm)
theorem si{d:Nat}(h:Av (sN (Bb f)) 0 d y):Av (sN (Bb f)) 0 d x:=by
 cases h with
 | root=>exact absurd rfl (oO J hs).1
 | @step a _ h hy _=>
  have ha:=YS hs (qF h);have:=JI J hs ha ((Mw hs ha).1 hy);rw[<- this];exact h
theorem sj(h:Rc (sN (Bb f)) 0 y):Rc (sN (Bb f)) 0 x:=by
 cases h with
 | root=>exact absurd rfl (oO J hs).1
 | @step a _ h hy=>
  have ha:=YS hs h;have:=JI J hs ha ((Mw hs ha).1 hy);rw[<- this];exact h
theorem ol{d:Nat}(hd:d<f.Blocks.length)(hdy:d≠y):Hy (B1 f) (d:Int) (y:Int)=true↔Hy (B1 f) (d:Int) (x:Int)=true:=by
 rw[Pk hs hd (DB J hs).1,Pk hs hd J.hx]
 constructor
 ·rintro⟨h1,h2⟩;exact⟨sj J hs h1,λh=>h2 (sf J hs hdy h)⟩
 ·rintro⟨h1,h2⟩;exact⟨.step h1 ((Mw hs J.hx).2 (by unfold EY;rw[J.to];exact zzL11.2 rfl)),λh=>h2 (si J hs h)⟩
theorem YF:¬ Hy (B1 f) (y:Int) (x:Int)=true:=by
 intro h;obtain⟨h1,h2⟩:=(Pk hs (DB J hs).1 J.hx).1 h
 have key:∀ b,Rc (sN (Bb f)) 0 b->Av (sN (Bb f)) 0 y b\/Av (sN (Bb f)) 0 y x:=by
  intro b hb
  induction hb with
  | root=>exact .inl (.root (oO J hs).1)
  | @step a b ha hb ih=>
   rcases ih with ih|ih
   ·by_cases eb:b=y
    ·right
     have hal:=YS hs ha;have:=JI J hs hal ((Mw hs hal).1 (by rw[<- eb];exact hb));rw[<- this];exact ih
    ·exact .inl (.step ih hb eb)
   ·exact .inr ih
 rcases key x h1 with h|h
 ·exact h2 h
 ·exact h2 h
end
theorem Ze{α β:Type}{l:List α}{F:α->β}{d:α}{d':β}{j:Nat}(h:j<l.length):(l.map F).getD j d'=F (l.getD j d):=by
 rw[Aa _ _ _ (by rw[B9];exact h),List.getElem_map,Aa _ _ _ h]
def cg(l:List (Int×Int)):Prop:=l.Pairwise λp q=>p.1<q.1
theorem V8(p:Int×Int)(l:List (Int×Int))(e:Int×Int):EO (p::l) e=if p.1<e.1 then p::EO l e else e::p::l:=by
 unfold EO
 by_cases h:p.1<e.1<;>simp[h]
theorem insJ_perm(e:Int×Int):∀ l:List (Int×Int),(EO l e).Perm (e::l)
 | []=>.refl _
 | p::l=>by
  rw[V8]
  split
  ·exact((insJ_perm e l).cons p).trans (.swap ..)
  ·exact .refl _
theorem SY{e:Int×Int}:∀{l:List (Int×Int)},cg l->(∀ p∈l,p.1≠e.1)->cg (EO l e)
 | [],_,_=>List.pairwise_singleton _ _
 | p::l,h,hn=>by
  rw[V8];obtain⟨h1,h2⟩:=zzL69.1 h;have hp:=hn p (by simp)
  split
  ·rename_i hlt
   refine zzL69.2 ⟨λq hq=>?_,SY h2 λq hq=>hn q (by simp[hq])⟩;rcases zzL35.1 ((insJ_perm e l).mem_iff.1 hq) with rfl|hq
   ·exact hlt
   ·exact h1 q hq
  ·refine zzL69.2 ⟨λq hq=>?_,h⟩;rcases zzL35.1 hq with rfl|hq
   ·omega
   ·have:=h1 q hq;omega
theorem bx:∀(L acc:List (Int×Int)),cg acc->((acc++L).map (·.1)).Nodup->(L.foldl EO acc).Perm (acc++L)/\cg (L.foldl EO acc)
 | [],acc,h,_=>⟨by simp,h⟩
 | e::L,acc,h,hn=>by
  rw[AB];have hp:=insJ_perm e acc
  have hne:∀ p∈acc,p.1≠e.1:=λp hp he=>by
   rw[Om,List.nodup_append]at hn;exact hn.2.2 _ (zzL14.2 ⟨p,hp,rfl⟩) _ (by simp) he
  have hpp:(acc++e::L).Perm (EO acc e++L):=by
   refine List.perm_middle.trans ?_;exact(hp.symm.append_right L)
  obtain⟨h1,h2⟩:=bx L (EO acc e) (SY h hne) ((hpp.map _).nodup_iff.1 hn);exact⟨h1.trans hpp.symm,h2⟩
theorem bz{L:List (Int×Int)}(h:(L.map (·.1)).Nodup):(Ub L).Perm L/\cg (Ub L):=by
 have:=bx L [] List.Pairwise.nil (by simpa using h)
 simpa [Ub] using this
theorem FW{v:Int->Int}{x y:Nat}{p:A4}(h:p.Args.length=p.From.length):(Kj v x y p).map (·.1)=p.From.map (YP x y):=by
 unfold Kj;rw[List.map_fst_zip];simp[h]
theorem cH{v:Int->Int}{x y:Nat}{p:A4}(h:p.Args.length=p.From.length):(Kj v x y p).length=p.From.length:=by
 have:=Bi List.length (FW (v:=v) (x:=x) (y:=y) h)
 simpa using this
theorem ma{v:Int->Int}{x y:Nat}{p:A4}(h:p.Args.length=p.From.length){e:Int×Int}:e∈Kj v x y p↔∃ i,i<p.Args.length/\e=(YP x y (p.From.getD i 0),v (p.Args.getD i 0)):=by
 unfold Kj;rw[List.mem_iff_getElem]
 constructor
 ·rintro⟨i,hi,rfl⟩
  have hi':i<p.Args.length:=by simp at hi;omega
  refine⟨i,hi',?_⟩;rw[List.getElem_zip,List.getElem_map,List.getElem_map,Aa _ _ _ hi',Aa _ _ _ (by omega)]
 ·rintro⟨i,hi,rfl⟩;refine⟨i,by simp;omega,?_⟩;rw[List.getElem_zip,List.getElem_map,List.getElem_map,Aa _ _ _ hi,Aa _ _ _ (by omega)]
section
variable {f:Ab} {x y:Nat} (J:Jn f x y) (hs:Fn f=true)
include J hs
theorem iQ{a b:Nat}(ha:a<f.Blocks.length)(hb:b≠y)(h:EY f a b):a≠x:=by
 intro e;unfold EY at h;rw[e,J.to,zzL11]at h;omega
theorem nE{b:Nat}(hb:b<f.Blocks.length)(hby:b≠y):((prF f b).map (YP x y)).Nodup:=by
 rw[List.nodup_iff_pairwise_ne,List.pairwise_map];refine List.Pairwise.imp_of_mem (λ{p q} hp hq hpq e=>?_) (BU f hb);obtain⟨a,rfl,ha,hna⟩:=(K5 hs hb).1 hp;obtain⟨c,rfl,hc,hnc⟩:=(K5 hs hb).1 hq;rw[Jb,Jb]at e;have h1:=iQ J hs ha hby hna;have h2:=iQ J hs hc hby hnc;have hne:=J.ne
 have e':psJ x y a=psJ x y c:=by omega
 rcases ps_eq hne a with h3|h3|h3<;>rcases ps_eq hne c with h4|h4|h4<;>rcases ps_eq hne x with h5|h5|h5<;>omega
theorem iA{b:Nat}(hb:b<f.Blocks.length)(hby:b≠y){z:Int}:z∈prF (Bk f x y) (psJ x y b)↔z∈(prF f b).map (YP x y):=by
 have hgs:=j_shapeB J hs
 have hbl:psJ x y b<(Bk f x y).Blocks.length:=by rw[Kb J];exact Rd J hs hb
 rw[K5 hgs hbl,zzL14]
 constructor
 ·rintro⟨w,rfl,hw,hn⟩;rw[Kb J]at hw;have hu:=VH (DB J hs).1 hw;have e:=UQ J.ne (x:=x) (y:=y) w;rw[<- e,lR J hs hu (NS y w) hby]at hn;refine⟨(O3 x y (Yb y w):Int),(K5 hs hb).2 ⟨_,rfl,S6 J hs hu,hn⟩,?_⟩;rw[Jb];unfold O3
  split
  ·rename_i h
   rcases ps_eq J.ne y with h1|h1|h1
   ·rw[h1.2];rw[h]at e;omega
   ·omega
   ·omega
  ·rw[e]
 ·rintro⟨q,hq,rfl⟩;obtain⟨c,rfl,hc,hnc⟩:=(K5 hs hb).1 hq;rw[Jb];have hcx:=iQ J hs hc hby hnc
  by_cases e:c=y
  ·refine⟨psJ x y x,?_,by rw[Kb J];exact Rd J hs J.hx,(lR J hs J.hx (λh=>J.ne h.symm) hby).2 (by unfold O3;rw[if_pos rfl,<- e];exact hnc)⟩;rcases ps_eq J.ne c with h1|h1|h1
   ·rw[h1.2]
   ·omega
   ·omega
  ·exact⟨psJ x y c,rfl,by rw[Kb J];exact Rd J hs hc,(lR J hs hc e hby).2 (by unfold O3;rw[if_neg hcx];exact hnc)⟩
theorem FQ{v:Int->Int}{b:Nat}(hb:b<f.Blocks.length)(hby:b≠y){p:A4}(h1:p.From=prF f b)(h2:p.Args.length=p.From.length) :
  (EW v x y p).From=prF (Bk f x y) (psJ x y b)/\(EW v x y p).Args.length=p.Args.length/\(EW v x y p).From.length=p.From.length/\(Ub (Kj v x y p)).Perm (Kj v x y p)/\cg (Ub (Kj v x y p)):=by
 have hnd:((Kj v x y p).map (·.1)).Nodup:=by rw[FW h2,h1];exact nE J hs hb hby
 obtain⟨k1,k2⟩:=bz hnd
 have hbl:psJ x y b<(Bk f x y).Blocks.length:=by rw[Kb J];exact Rd J hs hb
 have hl:(Ub (Kj v x y p)).length=p.From.length:=by rw[k1.length_eq,cH h2]
 refine⟨?_,by show(List.map _ _).length=_;rw[B9,hl,h2],by show(List.map _ _).length=_;rw[B9,hl],k1,k2⟩;refine X9 ?_ (BU _ hbl) λz=>?_
 ·show(List.map _ _).Pairwise _
  rw[List.pairwise_map];exact k2
 ·rw[iA J hs hb hby,<- h1,<- FW (v:=v) h2];exact(k1.map _).mem_iff
theorem br{v:Int->Int}{p:A4}(h2:p.Args.length=p.From.length)(hp:(Ub (Kj v x y p)).Perm (Kj v x y p)){j:Nat}(hj:j<(EW v x y p).Args.length) :
  ∃ i,i<p.Args.length/\(EW v x y p).From.getD j 0=YP x y (p.From.getD i 0)/\(EW v x y p).Args.getD j 0=v (p.Args.getD i 0):=by
 have hj':j<(Ub (Kj v x y p)).length:=by
  have:j<(List.map _ _).length:=hj;rwa[B9]at this
 obtain⟨i,hi,e⟩:=(ma h2).1 (hp.mem_iff.1 (CJ hj'));refine⟨i,hi,?_,?_⟩
 ·show(List.map _ _).getD j 0=_
  rw[Aa _ _ _ (by rw[B9];exact hj'),List.getElem_map,e]
 ·show(List.map _ _).getD j 0=_
  rw[Aa _ _ _ (by rw[B9];exact hj'),List.getElem_map,e]
end
theorem A5{f:Ab}{l:Int}(R:AJ f l):Fn f=true:=by
 have:=R.shape;unfold Ex at this;rw[Az]at this;exact this.1
theorem E6{f:Ab}{l:Int}(R:AJ f l):∀ b∈f.Blocks,∀ o∈b.Ops,Fp o=true:=λb hb o ho=>qj R hb ho
theorem Qj{f:Ab}{l:Int}(R:AJ f l){b:Nat}(hb:b<f.Blocks.length){p:A4}(hp:p∈(bA f b).Phis):p.From=prF f b/\p.Args.length=p.From.length:=by
 have hs:=R.shape;unfold Ex at hs;rw[Az]at hs;have:=WX hs.2 b hb;unfold K9 at this;simp only[Az,zzL23]at this;have:=this.2 p hp;unfold Iu at this;rw[Az,El,zzL62]at this;refine⟨this.1,?_⟩;rw[this.1];omega
theorem Rs{f:Ab}{l:Int}(R:AJ f l){b:Nat}(hb:b<f.Blocks.length):Rc (sN (Bb f)) 0 b/\((bA f b).End.Kind=1\/(bA f b).End.Kind=3->(bA f b).End.Arg=0):=by
 have hs:=R.shape;unfold Ex at hs;rw[Az]at hs;have h0:=(shape_iff.1 hs.1).1.1;have:=WX hs.2 b hb;unfold K9 at this;simp only[Az]at this;refine⟨(UX (Iv hs.1) (by omega) b).1 this.1.1,λh=>?_⟩;have h2:=this.1.2;rcases h with h|h<;>rw[h]at h2<;>simpa using h2
theorem Vc{f:Ab}(hs:Fn f=true)(h:∀ b,b<f.Blocks.length->Rc (sN (Bb f)) 0 b/\((bA f b).End.Kind=1\/(bA f b).End.Kind=3->(bA f b).End.Arg=0)/\∀ p∈(bA f b).Phis,p.From=prF f b/\p.Args.length=p.From.length):Ex f=true:=by
 have h0:=(shape_iff.1 hs).1.1;unfold Ex;rw[hs,Kw,zzL23];intro b hb;rw[zzL30]at hb;obtain⟨h1,h2,h3⟩:=h b hb;unfold K9;simp only[Az,zzL23];refine⟨⟨(UX (Iv hs) (by omega) b).2 h1,?_⟩,λp hp=>?_⟩
 ·by_cases hk:(bA f b).End.Kind=1\/(bA f b).End.Kind=3
  ·rw[h2 hk];simp
  ·have e:((bA f b).End.Kind==1 || (bA f b).End.Kind==3)=false:=by
    rw[CG,zzL28,zzL28];exact⟨λh=>hk (.inl h),λh=>hk (.inr h)⟩
   rw[e];rfl
 ·obtain⟨e1,e2⟩:=h3 p hp;unfold Iu;rw[Az,El,zzL62];refine⟨e1,?_⟩;have e3:(Ec (Bb f)).getD b []=prF f b:=rfl;rw[e3,<- e1];omega
theorem bo{v:Int->Int}{o:Bz}(h:Fp o=true)(hv:∀ a∈o.Args,Iy (v a)=true):Fp (WJ v o)=true:=by
 simp only[Fp,Az]at h ⊢;refine⟨⟨h.1.1,⟨h.1.2.1,?_⟩⟩,?_,h.2.2⟩
 ·have:=h.1.2.2;unfold WJ;rw[B9];exact this
 ·unfold WJ;rw[List.all_map,zzL23];exact hv
theorem di{v:Int->Int}{l:Int}{o:Bz}(h:Ja l o=true)(hv:∀ a∈o.Args,Iy (v a)=true):Ja l (WJ v o)=true:=by
 have hm:=bo (Wi h) hv;have hm0:=Wi h;unfold Ja at h ⊢;rw[hm];rw[hm0]at h;exact h
theorem NA{v:Int->Int}{o:Bz}(h:Fp o=true)(hv:∀ a∈o.Args,Iy (v a)=true):G4 (WJ v o)=G4 o:=by
 rw[Y6 (bo h hv),Y6 h];rfl
def rh(y:Nat)(d:G1):Prop:=d.Block=(y:Int)/\d.At = -1
section
variable {f:Ab} {x y:Nat} {l:Int} (J:Jn f x y) (R:AJ f l)
include J R
theorem NX{p:A4}(hp:p∈(bA f y).Phis):p.Args.length=1/\(⟨p.Args.getD 0 0,(x:Int),1000,(p.Bits,1)⟩:M1)∈Du f/\(⟨p.Dst,(y:Int),-1,(p.Bits,1)⟩:G1)∈A7 f:=by
 have hs:=A5 R;have hy:=(DB J hs).1;obtain⟨h1,h2⟩:=Qj R hy hp;rw[J.pred]at h1;rw[h1,DZ]at h2;obtain⟨k,hk,e⟩:=E1 hp
 have e':(bA f y).Phis.getD k default=p:=by rw[Aa _ _ _ hk];exact e
 refine⟨h2,?_,ri_def.2 (.inr ⟨y,hy,.inl ⟨k,hk,by rw[e']⟩⟩)⟩;refine(E7 (E6 R)).2 ⟨y,hy,.inl ⟨k,0,hk,by rw[e'];omega,?_⟩⟩;rw[e',h1];rfl
theorem jM{d:G1}(hd:d∈A7 f){b:Nat}(hb:b<f.Blocks.length){a:Int}(ha:0<=a)(ht:WQ f d (b:Int) a) :
  ∃ e∈A7 f,e.V=vJ f y d.V/\e.Shape=d.Shape/\WQ f e (b:Int) a/\¬ rh y e:=by
 have hs:=A5 R;have hy:=DB J hs;unfold vJ Uc
 cases hq:(bA f y).Phis.find? (λp=>p.Dst==d.V) with
 | none=>
  refine⟨d,hd,rfl,rfl,ht,λ⟨h1,h2⟩=>?_⟩;rcases ri_def.1 hd with⟨i,hi,e⟩|⟨i,hi,⟨k,hk,e⟩|⟨k,hk,hg,e⟩⟩
  ·rw[e]at h1;have:(-1:Int)=(y:Int):=h1;omega
  ·rw[e]at h1
   have hiy:i=y:=by have:(i:Int)=(y:Int):=h1;omega
   subst hiy;have:=List.find?_eq_none.1 hq _ (Ag (d:=(default:A4)) hk);rw[e]at this;simp at this
  ·rw[e]at h2;have:(k:Int) = -1:=h2;omega
 | some p=>
  have hp:=List.mem_of_find?_eq_some hq
  have hpv:p.Dst=d.V:=by simpa using List.find?_some hq
  obtain⟨_,hu,hdp⟩:=NX J R hp;have hde:=iq R hd hdp hpv.symm;obtain⟨e,he,ev,es,et⟩:=CA R hu
  have hen:∀ i:Nat,e.Block=(i:Int)->i<f.Blocks.length:=λi hi=>by
   rcases ri_def.1 he with⟨j,_,e'⟩|⟨j,hj,⟨k,hk,e'⟩|⟨k,hk,hg,e'⟩⟩<;>rw[e']at hi
   ·have:(-1:Int)=(i:Int):=hi;omega
   ·have:(j:Int)=(i:Int):=hi;omega
   ·have:(j:Int)=(i:Int):=hi;omega
  have hnb:∀ i:Nat,e.Block=(i:Int)->Hy (B1 f) (i:Int) (x:Int)=true/\i≠y:=λi hi=>by
   have hin:=hen i hi
   have hov:Hy (B1 f) (i:Int) (x:Int)=true:=by
    rcases et with h|⟨h,_⟩|⟨_,h⟩
    ·omega
    ·have h:e.Block=(x:Int):=h
     have:i=x:=by omega
     rw[this];exact(Pk hs J.hx J.hx).2 ⟨(Rs R J.hx).1,λh=>mq h rfl⟩
    ·rw[hi]at h;exact h
   exact⟨hov,λe=>YF J hs (by rw[<- e];exact hov)⟩
  refine⟨e,he,ev,by rw[es,hde],?_,λ⟨h1,_⟩=>(hnb y h1).2 rfl⟩
  by_cases h0:e.Block<0
  ·exact .inl h0
  ·obtain⟨i,hi⟩:∃ i:Nat,e.Block=(i:Int):=⟨e.Block.toNat,by omega⟩;have hin:=hen i hi;obtain⟨hov,hiy⟩:=hnb i hi;have hovy:Hy (B1 f) (i:Int) (y:Int)=true:=(ol J hs hin hiy).2 hov;rw[hde]at ht;refine .inr (.inr ?_);rw[hi];rcases ht with h|⟨h,_⟩|⟨h1,h2⟩
   ·have:(y:Int)<0:=h;omega
   ·have h:(y:Int)=(b:Int):=h
    have:b=y:=by omega
    subst this;exact⟨by omega,hovy⟩
   ·have h1:(y:Int)≠(b:Int):=h1;have h2:Hy (B1 f) (y:Int) (b:Int)=true:=h2;refine⟨λe=>?_,IC hs hin hy.1 hb hovy h2⟩
    have:i=b:=by omega
    subst this;exact YF J hs (IC hs hy.1 hin J.hx h2 hov)
theorem ou{d:G1}(hd:d∈A7 f):Iy (vJ f y d.V)=true:=by
 unfold vJ Uc
 cases hq:(bA f y).Phis.find? (λp=>p.Dst==d.V) with
 | none=>exact S5 R hd
 | some p=>
  obtain⟨_,hu,_⟩:=NX J R (List.mem_of_find?_eq_some hq);obtain⟨e,he,ev,_⟩:=CA R hu;have:=S5 R he;rw[ev]at this;exact this
theorem QR{u:M1}(hu:u∈Du f):Iy (vJ f y u.V)=true:=by
 obtain⟨d,hd,e,_⟩:=CA R hu;rw[<- e];exact ou J R hd
theorem QN{b:Nat}(hb:b<f.Blocks.length){o:Bz}(ho:o∈(bA f b).Ops):∀ a∈o.Args,Iy (vJ f y a)=true:=λa ha=>by
 obtain⟨k,hk,e⟩:=E1 ho;obtain⟨j,hj,e2⟩:=E1 ha
 have e':(bA f b).Ops.getD k default=o:=by rw[Aa _ _ _ hk];exact e
 have:=QR J R ((E7 (E6 R)).2 ⟨b,hb,.inr (.inl ⟨k,j,hk,by rw[e'];exact hj,rfl⟩)⟩);rw[e',Aa _ _ _ hj,e2]at this;exact this
def offJ(f:Ab)(x y b:Nat):Nat:=if b=y then(bA f x).Ops.length else 0
theorem BA{b:Nat}(hb:b<f.Blocks.length)(hby:b≠y):(bA (Bk f x y) (psJ x y b)).Phis=(bA f b).Phis.map (EW (vJ f y) x y):=by
 rw[lT J (A5 R) hb hby];unfold Xv F5
 split
 ·rename_i e;rw[e]
 ·rfl
theorem GX:(bA (Bk f x y) (psJ x y x)).Ops=((bA f x).Ops++(bA f y).Ops).map (WJ (vJ f y)):=by
 rw[lT J (A5 R) J.hx (λh=>J.ne h.symm)];unfold Xv F5;rw[if_pos rfl]
theorem bX{b:Nat}(hb:b<f.Blocks.length)(hby:b≠y)(hbx:b≠x):(bA (Bk f x y) (psJ x y b)).Ops=(bA f b).Ops.map (WJ (vJ f y)):=by
 rw[lT J (A5 R) hb hby];unfold Xv F5;rw[if_neg hbx]
theorem ie:psJ x y y=psJ x y x:=by rcases ps_eq J.ne y with h|h|h<;>omega
theorem lS{b:Nat}(hb:b<f.Blocks.length){k:Nat}(hk:k<(bA f b).Ops.length):k+offJ f x y b<(bA (Bk f x y) (psJ x y b)).Ops.length/\(bA (Bk f x y) (psJ x y b)).Ops.getD (k+offJ f x y b) default=WJ (vJ f y) ((bA f b).Ops.getD k default):=by
 unfold offJ
 by_cases ey:b=y
 ·subst ey;rw[if_pos rfl,ie J R,GX J R];refine⟨by rw[B9,Fb];omega,?_⟩;rw[Aa _ _ _ (by rw[B9,Fb];omega),List.getElem_map,List.getElem_append_right (by omega),Aa _ _ _ hk]
  congr 2;omega
 ·rw[if_neg ey,Jc]
  by_cases ex:b=x
  ·subst ex;rw[GX J R];refine⟨by rw[B9,Fb];omega,?_⟩;rw[Aa _ _ _ (by rw[B9,Fb];omega),List.getElem_map,List.getElem_append_left hk,Aa _ _ _ hk]
  ·rw[bX J R hb ey ex];refine⟨by rw[B9];exact hk,?_⟩;rw[Aa _ _ _ (by rw[B9];exact hk),List.getElem_map,Aa _ _ _ hk]
theorem tZ{d:G1}(hd:d∈A7 f){i:Nat}(hi:d.Block=(i:Int))(hp:¬ rh y d):∃ e∈A7 (Bk f x y),e.V=d.V/\e.Shape=d.Shape/\e.Block=(psJ x y i:Int)/\e.At=d.At+(offJ f x y i:Int)/\i<f.Blocks.length/\d.At<((bA f i).Ops.length:Int):=by
 have hs:=A5 R;rcases ri_def.1 hd with⟨j,_,e⟩|⟨j,hj,h'⟩
 ·rw[e]at hi;have:(-1:Int)=(i:Int):=hi;omega
 ·have hij:j=i:=by rcases h' with⟨k,_,e⟩|⟨k,_,_,e⟩<;>rw[e]at hi<;>exact(by have:(j:Int)=(i:Int):=hi;omega)
  subst hij
  have hpl:psJ x y j<(Bk f x y).Blocks.length:=by rw[Kb J];exact Rd J hs hj
  rcases h' with⟨k,hk,e⟩|⟨k,hk,hg,e⟩
  ·have hjy:j≠y:=λh=>hp ⟨by rw[e,h],by rw[e]⟩;have h1:=BA J R hj hjy;refine⟨_,ri_def.2 (.inr ⟨_,hpl,.inl ⟨k,by rw[h1,B9];exact hk,rfl⟩⟩),?_,?_,rfl,?_,hj,by rw[e];show(-1:Int)<_;omega⟩
   ·rw[h1,Aa _ _ _ (by rw[B9];exact hk),List.getElem_map,e,Aa _ _ _ hk];rfl
   ·rw[h1,Aa _ _ _ (by rw[B9];exact hk),List.getElem_map,e,Aa _ _ _ hk];rfl
   ·rw[e];unfold offJ;rw[if_neg hjy];rfl
  ·obtain⟨h1,h2⟩:=lS J R hj hk;have hm:=E6 R _ (Ag (d:=default) hj) _ (Ag (d:=default) hk);have hv:=QN J R hj (Ag (d:=default) hk);have hgv:=NA hm hv;refine⟨_,ri_def.2 (.inr ⟨_,hpl,.inr ⟨k+offJ f x y j,h1,by rw[h2,hgv];exact hg,rfl⟩⟩),?_,?_,rfl,?_,hj,by rw[e];show(k:Int)<_;omega⟩
   ·rw[h2,e];rfl
   ·rw[h2,hgv,e]
   ·rw[e];show((k+offJ f x y j:Nat):Int)=(k:Int)+_;omega
theorem tc{d:G1}(hd:d∈A7 f)(hp:¬ rh y d){b:Nat}(hb:b<f.Blocks.length){a:Int}(ha:0<=a)(ht:WQ f d (b:Int) a) :
  ∃ e∈A7 (Bk f x y),e.V=d.V/\e.Shape=d.Shape/\WQ (Bk f x y) e (psJ x y b) (a+(offJ f x y b:Int)):=by
 have hs:=A5 R;have hy:=DB J hs
 by_cases h0:d.Block<0
 ·rcases ri_def.1 hd with⟨j,hj,e⟩|⟨j,hj,h'⟩
  ·exact⟨d,ri_def.2 (.inl ⟨j,hj,e⟩),rfl,rfl,.inl h0⟩
  ·exfalso
   rcases h' with⟨k,_,e⟩|⟨k,_,_,e⟩<;>rw[e]at h0<;>exact absurd h0 (by show ¬ (j:Int)<0;omega)
 ·obtain⟨i,hi⟩:∃ i:Nat,d.Block=(i:Int):=⟨d.Block.toNat,by omega⟩;obtain⟨e,he,ev,es,eb,ea,hin,hat⟩:=tZ J R hd hi hp;refine⟨e,he,ev,es,?_⟩;have hpy:=ie J R
  have key:∀ c c',c<f.Blocks.length->c≠y->c'<f.Blocks.length->c'≠y->psJ x y c=psJ x y i->psJ x y c'=psJ x y b->c≠c'->Hy (B1 f) (c:Int) (c':Int)=true->WQ (Bk f x y) e (psJ x y b) (a+(offJ f x y b:Int)):=λc c' hc hcy hc' hcy' e1 e2 hne ho=>by
   refine .inr (.inr ⟨?_,?_⟩)
   ·rw[eb,<- e1,<- e2];intro h;exact hne (YQ J.ne hcy hcy' (by omega))
   ·rw[eb,<- e1,<- e2];exact oP J hs hc hcy hc' hcy' ho
  rcases ht with h|⟨h1,h2⟩|⟨h1,h2⟩
  ·exact absurd h h0
  ·have:i=b:=by omega
   subst this;exact .inr (.inl ⟨eb,by rw[ea];omega⟩)
  ·rw[hi]at h1 h2;have hib:i≠b:=λh=>h1 (by rw[h])
   by_cases eiy:i=y
   ·subst eiy;have hxb:Hy (B1 f) (x:Int) (b:Int)=true:=IC hs J.hx hin hb ((ol J hs J.hx (λh=>J.ne h.symm)).2 ((Pk hs J.hx J.hx).2 ⟨(Rs R J.hx).1,λh=>mq h rfl⟩)) h2;have hbx:x≠b:=λh=>YF J hs (by rw[h];exact h2);exact key x b J.hx (λh=>J.ne h.symm) hb (λh=>hib h.symm) hpy.symm rfl hbx hxb
   ·by_cases eby:b=y
    ·subst eby
     by_cases eix:i=x
     ·subst eix;refine .inr (.inl ⟨by rw[eb,hpy],?_⟩);rw[ea];unfold offJ;rw[if_neg (λh=>J.ne h.symm),if_pos rfl];omega
     ·exact key i x hin eiy J.hx (λh=>J.ne h.symm) rfl hpy.symm eix ((ol J hs hin eiy).1 h2)
    ·exact key i b hin eiy hb eby rfl rfl hib h2
theorem dz{u:M1}(hu:u∈Du f){b:Nat}(hb:b<f.Blocks.length)(e1:u.Block=(b:Int))(ha:0<=u.At) :
  ∃ e∈A7 (Bk f x y),e.V=vJ f y u.V/\e.Shape=u.Shape/\WQ (Bk f x y) e (psJ x y b) (u.At+(offJ f x y b:Int)):=by
 obtain⟨d,hd,hv,hsh,ht⟩:=CA R hu;rw[e1]at ht;obtain⟨d1,hd1,v1,s1,t1,p1⟩:=jM J R hd hb ha ht;obtain⟨e,he,ev,es,et⟩:=tc J R hd1 p1 hb ha t1;exact⟨e,he,by rw[ev,v1,hv],by rw[es,s1,hsh],et⟩
end
structure Nw(f:Ab):Prop where
 inf:eS f
 params:f.Params.length<=64
 to:∀ b∈f.Blocks,b.End.To.length<=2
 phi:∀ b∈f.Blocks,∀ p∈b.Phis,p.From.length<=16/\p.Args.length<=16
 op:∀ b∈f.Blocks,∀ o∈b.Ops,o.Args.length<=16
 size:sizeN f<=512
theorem bh{f:Ab}(h:Nw f):Sm f:=by
 refine qn h.inf h.params (λb hb=>⟨by have:=h.to b hb;omega,λp hp=>by have:=h.phi b hb p hp;omega,λo ho=>by have:=h.op b hb o ho;omega⟩) ?_
 have hB:∀ b∈f.Blocks,KP b<=33*Dt b:=λb hb=>by
  have h1:(b.Phis.map SO).sum<=b.Phis.length*33:=ZG _ _ _ λp hp=>by have:=h.phi b hb p hp;unfold SO;omega
  have h2:(b.Ops.map SN).sum<=b.Ops.length*33:=ZG _ _ _ λo ho=>by have:=h.op b hb o ho;unfold SN;omega
  have h3:=h.to b hb;unfold KP Dt;omega
 have hS:∀ l:List Ac,(∀ b∈l,KP b<=33*Dt b)->(l.map KP).sum<=33*(l.map Dt).sum:=λl=>by
  induction l with
  | nil=>intro _;simp
  | cons b l ih=>
   intro hl;have h1:=hl b (zzL53 ..);have h2:=ih λx hx=>hl x (Jz _ hx);simp only[B4,JR];omega
 have h1:=hS _ hB;have h2:=h.size;have h3:=h.params;unfold sizeN at h2;unfold XK;omega
def N4(n:Nat)(F:Nat->Nat):Nat:=((List.range n).map F).sum
theorem Lt(n:Nat)(F:Nat->Nat):N4 (n+1) F=N4 n F+F n:=by
 unfold N4;rw[R5,Om,List.sum_append];simp
theorem S7{n:Nat}{F G:Nat->Nat}(h:∀ i,i<n->F i=G i):N4 n F=N4 n G:=by
 unfold N4;rw[Tq λi hi=>h i (zzL30.1 hi)]
theorem b8{n:Nat}{F G:Nat->Nat}(h:∀ i,i<n->F i<=G i):N4 n F<=N4 n G:=by
 induction n with
 | zero=>exact zzL5 _
 | succ n ih=>rw[Lt,Lt];have:=ih λi hi=>h i (by omega);have:=h n (by omega);omega
theorem Rx{n:Nat}{F:Nat->Nat}{i:Nat}(h:i<n):F i<=N4 n F:=by
 induction n with
 | zero=>omega
 | succ n ih=>
  rw[Lt]
  by_cases e:i=n
  ·subst e;omega
  ·have:=ih (by omega);omega
theorem cA{y:Nat}(F:Nat->Nat):∀ n,y<n->N4 (n-1) (λk=>F (Yb y k))+F y=N4 n F
 | 0,h=>by omega
 | n+1,h=>by
  rw[Lt,show n+1-1=n by omega]
  by_cases e:y=n
  ·have e2:N4 n (λk=>F (Yb y k))=N4 n F:=S7 λi hi=>by
    have:Yb y i=i:=by rcases up_eq y i with h|h<;>omega
    rw[this]
   rw[e2,e]
  ·obtain⟨m,rfl⟩:∃ m,n=m+1:=⟨n-1,by omega⟩;have:=cA (y:=y) F (m+1) (by omega);rw[show m+1-1=m by omega]at this
   have e3:Yb y m=m+1:=by rcases up_eq y m with h|h<;>omega
   have e4:N4 (m+1) (λk=>F (Yb y k))=N4 m (λk=>F (Yb y k))+F (Yb y m):=Lt ..;rw[e4,e3];omega
theorem b6{x:Nat}(F:Nat->Nat)(c:Nat):∀ n,x<n->N4 n (λb=>if b=x then F b+c else F b)=N4 n F+c
 | 0,h=>by omega
 | n+1,h=>by
  rw[Lt,Lt]
  by_cases e:n=x
  ·subst e;rw[if_pos rfl,S7 (G:=F) λi hi=>by rw[if_neg (by omega)]];omega
  ·rw[if_neg e,b6 F c n (by omega)];omega
theorem H5(f:Ab):sizeN f=N4 f.Blocks.length λb=>Dt (bA f b):=by
 unfold sizeN N4
 congr 1
 apply AA
 ·simp
 ·intro i h1 h2;simp at h1 h2 ⊢;simp[h1]
theorem mayF_iff{f:Ab}:Rj f=true↔(1<=f.Blocks.length/\f.Blocks.length<=64)/\f.Params.length<=16/\Lo f.Params=true/\numB f.Ret=true/\sizeW f<=512/\∀ b∈f.Blocks,blockB b=true:=by
 unfold Rj;simp only[Az,El,zzL23,and_assoc]
theorem numBJ{n:Int}:numB n=true↔0<=n/\n<=2147483647:=by unfold numB;rw[Az,El,El]
theorem listBJ{l:List Int}:Lo l=true↔(∀ n∈l,0<=n/\n<=2147483647)/\l.length<=64:=by
 unfold Lo;rw[Az,zzL23,El];exact⟨λh=>⟨λn hn=>numBJ.1 (h.1 n hn),h.2⟩,λh=>⟨λn hn=>numBJ.2 (h.1 n hn),h.2⟩⟩
theorem Zw{v:Int}(h:Iy v=true):0<=v/\v<=2147483647:=by
 unfold Iy at h;simp only[Az,El]at h;omega
section
variable {f:Ab} {x y:Nat} {l:Int} (J:Jn f x y) (R:AJ f l)
include J R
theorem XT:sizeN (Bk f x y)+(bA f y).Phis.length+1=sizeN f:=by
 have hy:=(DB J (A5 R)).1;rw[H5,H5,Kb J]
 have h1:N4 (f.Blocks.length-1) (λb=>Dt (bA (Bk f x y) b))=N4 (f.Blocks.length-1) (λk=>(λb=>Dt (F5 f x y b)) (Yb y k)):=S7 λi hi=>by
  rw[qW J hi];unfold Xv Dt
  simp
 have h2:=cA (y:=y) (λb=>Dt (F5 f x y b)) f.Blocks.length hy
 have h3:N4 f.Blocks.length (λb=>Dt (F5 f x y b))=N4 f.Blocks.length (λb=>if b=x then Dt (bA f b)+(bA f y).Ops.length else Dt (bA f b)):=S7 λi hi=>by
  unfold F5
  split
  ·rename_i e;subst e;unfold Dt;simp;omega
  ·rfl
 rw[b6 (x:=x) (λb=>Dt (bA f b)) _ _ J.hx]at h3
 have h4:Dt (F5 f x y y)=Dt (bA f y):=by unfold F5;rw[if_neg J.ne]
 have h2':N4 (f.Blocks.length-1) (λk=>(λb=>Dt (F5 f x y b)) (Yb y k))+Dt (F5 f x y y)=_:=h2;rw[h4]at h2';unfold Dt at h2' h3 h1 ⊢;omega
theorem TA{b:Ac}(hb:b∈(Bk f x y).Blocks):∃ c,c<f.Blocks.length/\c≠y/\b=bA (Bk f x y) (psJ x y c)/\b.Phis=(bA f c).Phis.map (EW (vJ f y) x y)/\(∀ o∈b.Ops,∃ d,d<f.Blocks.length/\∃ o'∈(bA f d).Ops,o=WJ (vJ f y) o') /\
  b.End=XJ (vJ f y) x y (bA f (O3 x y c)).End/\O3 x y c<f.Blocks.length:=by
 have hs:=A5 R;have hy:=(DB J hs).1;obtain⟨k,hk,e⟩:=E1 hb
 have e':bA (Bk f x y) k=b:=by unfold bA;rw[Aa _ _ _ hk];exact e
 rw[Kb J]at hk;have hu:=VH hy hk;have hun:=NS y k;have hps:=UQ J.ne (x:=x) k;refine⟨Yb y k,hu,hun,by rw[hps,e'],?_,λo ho=>?_,?_,S6 J hs hu⟩
 ·rw[<- e',<- BA J R hu hun,hps]
 ·rw[<- e',<- hps]at ho
  by_cases ex:Yb y k=x
  ·rw[ex,GX J R]at ho;obtain⟨o',ho',rfl⟩:=zzL14.1 ho;rcases zzL9.1 ho' with h|h
   ·exact⟨x,J.hx,o',h,rfl⟩
   ·exact⟨y,hy,o',h,rfl⟩
  ·rw[bX J R hu hun ex]at ho;obtain⟨o',ho',rfl⟩:=zzL14.1 ho;exact⟨_,hu,o',ho',rfl⟩
 ·rw[<- e',<- GW J hs hu hun,hps]
theorem end_val{c:Nat}(hc:c<f.Blocks.length):(((bA f c).End.Kind=0\/(bA f c).End.Kind=2)/\Iy (vJ f y (bA f c).End.Arg)=true)\/(((bA f c).End.Kind=1\/(bA f c).End.Kind=3)/\(bA f c).End.Arg=0/\vJ f y (bA f c).End.Arg=0):=by
 have hs:=A5 R
 have hk:(bA f c).End.Kind=0\/(bA f c).End.Kind=1\/(bA f c).End.Kind=2\/(bA f c).End.Kind=3:=by
  have h3:Jj (bA f c).End f.Blocks.length=true:=(shape_iff.1 hs).2 c hc;unfold Jj Y9 at h3;simp only[Az,El]at h3;have:=h3.1.1;omega
 have hu:∀ b,(⟨(bA f c).End.Arg,(c:Int),1000,(b,1)⟩:M1)∈Du f->Iy (vJ f y (bA f c).End.Arg)=true:=λb h=>QR J R h
 have h13:(bA f c).End.Kind=1\/(bA f c).End.Kind=3->(bA f c).End.Arg=0/\vJ f y (bA f c).End.Arg=0:=λh=>by
  have h0:=(Rs R hc).2 h;refine⟨h0,?_⟩;rw[h0];unfold vJ Uc;rw[List.find?_eq_none.2];intro p hp;have:=S5 R (NX J R hp).2.2;have:Iy p.Dst=true:=this;unfold Iy at this;simp only[Az,El]at this
  simp;omega
 rcases hk with h|h|h|h
 ·exact .inl ⟨.inl h,hu _ ((E7 (E6 R)).2 ⟨c,hc,.inr (.inr (.inl ⟨h,rfl⟩))⟩)⟩
 ·exact .inr ⟨.inl h,h13 (.inl h)⟩
 ·exact .inl ⟨.inr h,hu _ ((E7 (E6 R)).2 ⟨c,hc,.inr (.inr (.inr ⟨h,rfl⟩))⟩)⟩
 ·exact .inr ⟨.inr h,h13 (.inr h)⟩
theorem UM{c:Nat}(hc:c<f.Blocks.length){p:A4}(hp:p∈(bA f c).Phis){i:Nat}(hi:i<p.Args.length):(⟨p.Args.getD i 0,p.From.getD i 0,1000,(p.Bits,1)⟩:M1)∈Du f:=by
 obtain⟨k,hk,e⟩:=E1 hp
 have e':(bA f c).Phis.getD k default=p:=by rw[Aa _ _ _ hk];exact e
 refine(E7 (E6 R)).2 ⟨c,hc,.inl ⟨k,i,hk,by rw[e'];exact hi,by rw[e']⟩⟩
theorem nA(hsz:sizeN f<=512):Rj (Bk f x y)=true:=by
 have hs:=A5 R;have hy:=DB J hs;have hsz':=XT J R;obtain⟨⟨m1,m2⟩,m3,m4,m5,m6,m7⟩:=mayF_iff.1 R.may;refine mayF_iff.2 ⟨by rw[Kb J];have:=J.hx;have:=J.ne;omega,m3,m4,m5,?_,λb hb=>?_⟩
 ·unfold sizeW;rw[Qo (by omega)];omega
 ·obtain⟨c,hc,hcy,_,e1,e2,e3,hsc⟩:=TA J R hb;refine blockB_iff.2 ⟨λp hp=>?_,λo ho=>?_,?_⟩
  ·rw[e1]at hp;obtain⟨q,hq,rfl⟩:=zzL14.1 hp;obtain⟨q1,q2⟩:=Qj R hc hq;obtain⟨p1,p2,p3,p4,_⟩:=FQ J hs (v:=vJ f y) hc hcy q1 q2;have hb0:=(blockB_iff.1 (m7 _ (Ag (d:=default) hc))).1 q hq;unfold IG at hb0 ⊢;simp only[Az,and_assoc]at hb0 ⊢;obtain⟨n1,n2,n3,n4⟩:=hb0;refine⟨n1,n2,listBJ.2 ⟨λn hn=>?_,?_⟩,listBJ.2 ⟨λn hn=>?_,?_⟩⟩
   ·rw[p1]at hn;obtain⟨w,rfl,hw,_⟩:=(K5 (j_shapeB J hs) (by rw[Kb J];exact Rd J hs hc)).1 hn;rw[Kb J]at hw;omega
   ·rw[p3];exact(listBJ.1 n3).2
   ·obtain⟨j,hj,e⟩:=E1 hn;obtain⟨i,hi,_,h2⟩:=br J hs q2 p4 hj;rw[Aa _ _ _ hj,e]at h2;rw[h2];exact Zw (QR J R (UM J R hc hq hi))
   ·rw[p2];exact(listBJ.1 n4).2
  ·obtain⟨d,hd,o',ho',rfl⟩:=e2 o ho;have hb0:=(blockB_iff.1 (m7 _ (Ag (d:=default) hd))).2.1 o' ho';unfold dh at hb0 ⊢;simp only[Az,and_assoc]at hb0 ⊢;obtain⟨n1,n2,n3,n4,n5⟩:=hb0;refine⟨n1,n2,n3,n4,listBJ.2 ⟨λn hn=>?_,?_⟩⟩
   ·obtain⟨a,ha,rfl⟩:=zzL14.1 hn;exact Zw (QN J R hd ho' a ha)
   ·show(List.map _ _).length<=_;rw[B9];exact(listBJ.1 n5).2
  ·have hb0:=(blockB_iff.1 (m7 _ (Ag (d:=default) hsc))).2.2;rw[e3];unfold PF at hb0 ⊢;simp only[Az,and_assoc]at hb0 ⊢;obtain⟨n1,n2,n3⟩:=hb0;refine⟨n1,?_,listBJ.2 ⟨λn hn=>?_,?_⟩⟩
   ·rcases end_val J R hsc with⟨_,h⟩|⟨_,_,h⟩
    ·exact numBJ.2 (Zw h)
    ·show numB (vJ f y _)=true;rw[h];rfl
   ·obtain⟨z,hz,rfl⟩:=zzL14.1 hn;obtain⟨w,rfl,hw,_⟩:=Ya hs hsc hz;rw[Jb];have:=Rd J hs hw;omega
   ·show(List.map _ _).length<=_;rw[B9];exact(listBJ.1 n3).2
theorem iB:Ex (Bk f x y)=true:=by
 have hs:=A5 R;have hy:=DB J hs;refine Vc (j_shapeB J hs) λk hk=>?_;rw[Kb J]at hk;have hu:=VH hy.1 hk;have hun:=NS y k;have hps:=UQ J.ne (x:=x) k;refine⟨?_,?_,λp hp=>?_⟩
 ·have:=(bY J hs (Rs R hu).1).2;rwa[hps]at this
 ·rw[<- hps,GW J hs hu hun];intro h;have hsc:=S6 J hs hu;rcases end_val J R hsc with⟨h1,_⟩|⟨_,_,h2⟩
  ·have h:(bA f (O3 x y (Yb y k))).End.Kind=1\/(bA f (O3 x y (Yb y k))).End.Kind=3:=h;omega
  ·exact h2
 ·rw[<- hps,BA J R hu hun]at hp;obtain⟨q,hq,rfl⟩:=zzL14.1 hp;obtain⟨q1,q2⟩:=Qj R hu hq;obtain⟨p1,p2,p3,_⟩:=FQ J hs (v:=vJ f y) hu hun q1 q2;rw[hps]at p1;exact⟨p1,by rw[p2,p3,q2]⟩
theorem lU:Ll (Bk f x y) l=true:=by
 have h:=R.typed;simp only[Ll,F0,Az,zzL23]at h ⊢;obtain⟨⟨t1,t2⟩,t3⟩:=h;refine⟨⟨t1,λb hb=>?_⟩,t3⟩;obtain⟨c,hc,hcy,_,e1,e2,e3,hsc⟩:=TA J R hb;refine⟨λp hp=>?_,λo ho=>?_⟩
 ·rw[e1]at hp;obtain⟨q,hq,rfl⟩:=zzL14.1 hp;exact(t2 _ (Ag (d:=default) hc)).1 q hq
 ·obtain⟨d,hd,o',ho',rfl⟩:=e2 o ho;exact di (UY R (Ag (d:=default) hd) ho') (QN J R hd ho')
theorem h9{s:List Bz}(h:∀ o∈s,∃ d,d<f.Blocks.length/\o∈(bA f d).Ops):KO (s.map (WJ (vJ f y)))=KO s:=by
 unfold KO
 induction s with
 | nil=>rfl
 | cons o s ih=>
  obtain⟨d,hd,ho⟩:=h o (by simp);have hg:=NA (E6 R _ (Ag (d:=default) hd) _ ho) (QN J R hd ho);rw[B4,List.filter_cons,List.filter_cons,hg];have:=ih λo ho=>h o (by simp[ho])
  split
  ·rw[B4,B4,this];rfl
  ·exact this
theorem qY{b:Nat}(hb:b<f.Blocks.length)(hby:b≠y):FV (bA (Bk f x y) (psJ x y b))=if b=x then FV (bA f x)++KO (bA f y).Ops else FV (bA f b):=by
 have hy:=(DB J (A5 R)).1
 have h1:(bA (Bk f x y) (psJ x y b)).Phis.map (·.Dst)=(bA f b).Phis.map (·.Dst):=by
  rw[BA J R hb hby,List.map_map];rfl
 unfold FV;rw[h1]
 split
 ·rename_i e
  subst e;rw[GX J R,h9 J R,EB]
  ·congr 1
   unfold KO;rw[Vl,Om]
  ·intro o ho;rcases zzL9.1 ho with h|h
   ·exact⟨_,hb,h⟩
   ·exact⟨_,hy,h⟩
 ·rename_i e
  rw[bX J R hb hby e,h9 J R];exact λo ho=>⟨_,hb,ho⟩
theorem GY{b:Nat}(hb:b<f.Blocks.length)(hby:b≠y){v:Int}(hv:v∈FV (bA (Bk f x y) (psJ x y b))):∃ c,c<f.Blocks.length/\(c=b\/(b=x/\c=y))/\v∈FV (bA f c):=by
 rw[qY J R hb hby]at hv
 split at hv
 ·rename_i e
  rcases zzL9.1 hv with h|h
  ·exact⟨b,hb,.inl rfl,by rw[e];exact h⟩
  ·exact⟨y,(DB J (A5 R)).1,.inr ⟨e,rfl⟩,by unfold FV;exact zzL9.2 (.inr h)⟩
 ·exact⟨b,hb,.inl rfl,hv⟩
theorem XU(hsz:sizeN f<=512)(hok:OkF (Bk f x y)):AJ (Bk f x y) l:=by
 have hs:=A5 R;have hy:=DB J hs;have hgt:=lU J R
 have hgm:∀ b∈(Bk f x y).Blocks,∀ o∈b.Ops,Fp o=true:=λb hb o ho=>by
  simp only[Ll,F0,Az,zzL23]at hgt;exact Wi ((hgt.1.2 b hb).2 o ho)
 obtain⟨N1,N2,N3⟩:=(nodup_split f).1 (Sh (Wf R).1)
 have pos_of:∀ k,k<(Bk f x y).Blocks.length->∃ b,b<f.Blocks.length/\b≠y/\psJ x y b=k:=λk hk=>by
  rw[Kb J]at hk;exact⟨Yb y k,VH hy.1 hk,NS y k,UQ J.ne k⟩
 have hcap:∀{d:G1} {b a:Int},d∈A7 (Bk f x y)->WQ (Bk f x y) d b a->WQ (Bk f x y) d b 1000:=λ{d b a} hd h=>by
  rcases h with h|⟨h1,h2⟩|h
  ·exact .inl h
  ·refine .inr (.inl ⟨h1,?_⟩);rcases defs_in hok d hd with h3|⟨_,_,h3⟩
   ·rcases ri_def.1 hd with⟨i,_,e⟩|⟨i,_,⟨k,_,e⟩|⟨k,_,_,e⟩⟩
    ·rw[e];show(0:Int)<1000;omega
    ·rw[e]at h3;have:(i:Int) = -1:=h3;omega
    ·rw[e]at h3;have:(i:Int) = -1:=h3;omega
   ·exact h3
  ·exact .inr (.inr h)
 refine⟨nA J R hsz,iB J R,hgt,X4 ((nodup_split _).2 ⟨λk hk=>?_,λk m hk hm hne v hv hw=>?_,λi hi k hk hv=>?_⟩) (λd hd=>?_) (λu hu=>?_)⟩
 ·obtain⟨b,hb,hby,rfl⟩:=pos_of k hk;rw[qY J R hb hby]
  split
  ·rename_i e
   rw[List.nodup_append];have hn:=N1 y hy.1;unfold FV at hn;rw[List.nodup_append]at hn;refine⟨N1 x J.hx,hn.2.1,λa ha c hc hac=>?_⟩;exact N2 x y J.hx hy.1 (λh=>J.ne h.symm) a ha (by unfold FV;exact zzL9.2 (.inr (hac▸hc)))
  ·exact N1 b hb
 ·obtain⟨b,hb,hby,rfl⟩:=pos_of k hk;obtain⟨c,hc,hcy,rfl⟩:=pos_of m hm;have hbc:b≠c:=λe=>hne (by rw[e]);obtain⟨b',hb',eb,hvb⟩:=GY J R hb hby hv;obtain⟨c',hc',ec,hvc⟩:=GY J R hc hcy hw;refine N2 b' c' hb' hc' ?_ v hvb hvc;rcases eb with e1|e1<;>rcases ec with e2|e2<;>omega
 ·obtain⟨b,hb,hby,rfl⟩:=pos_of k hk;obtain⟨b',hb',_,hvb⟩:=GY J R hb hby hv;exact N3 i hi b' hb' hvb
 ·rcases ri_def.1 hd with⟨i,hi,e⟩|⟨k,hk,⟨j,hj,e⟩|⟨j,hj,hg,e⟩⟩
  ·rw[e];exact S5 R (d:=⟨(i:Int)+1,-1,0,(f.Params.getD i 0,1)⟩) (ri_def.2 (.inl ⟨i,hi,rfl⟩))
  ·obtain⟨b,hb,hby,rfl⟩:=pos_of k hk;rw[e]
   have h1:=BA J R hb hby
   rw[h1,B9]at hj
   show Iy ((bA (Bk f x y) (psJ x y b)).Phis.getD j default).Dst=true
   rw[h1,Aa _ _ _ (by rw[B9];exact hj),List.getElem_map];have:=S5 R (d:=⟨((bA f b).Phis.getD j default).Dst,b,-1,(((bA f b).Phis.getD j default).Bits,1)⟩) (ri_def.2 (.inr ⟨b,hb,.inl ⟨j,hj,rfl⟩⟩));rw[Aa _ _ _ hj]at this;exact this
  ·rw[e];exact AY (hgm _ (Ag (d:=default) hk) _ (Ag (d:=default) hj)) hg
 ·obtain⟨k,hk,hcase⟩:=(E7 hgm).1 hu;obtain⟨b,hb,hby,rfl⟩:=pos_of k hk;have hsc:=S6 J hs hb
  have hpsrc:psJ x y (O3 x y b)=psJ x y b:=by
   unfold O3;split
   ·rename_i e;rw[e];exact ie J R
   ·rfl
  rcases hcase with⟨k,j,hk',hj,e⟩|⟨k,j,hk',hj,e⟩|⟨hK,e⟩|⟨hK,e⟩
  ·have h1:=BA J R hb hby
   rw[h1,B9]at hk';have hq:=Ag (d:=(default:A4)) hk';obtain⟨q1,q2⟩:=Qj R hb hq;obtain⟨p1,p2,p3,p4,_⟩:=FQ J hs (v:=vJ f y) hb hby q1 q2
   have eq:(bA (Bk f x y) (psJ x y b)).Phis.getD k default=EW (vJ f y) x y ((bA f b).Phis.getD k default):=by
    rw[h1,Aa _ _ _ (by rw[B9];exact hk'),List.getElem_map,Aa _ _ _ hk']
   rw[eq]at e hj;obtain⟨i,hi,e1,e2⟩:=br J hs q2 p4 hj;rw[e1,e2]at e;have hu':=UM J R hb hq hi;obtain⟨c,ec,hc,_⟩:=(K5 hs hb).1 (show((bA f b).Phis.getD k default).From.getD i 0∈prF f b by rw[<- q1];exact Ag (by omega));rw[ec]at hu' e;obtain⟨d',m1,m2,m3,m4⟩:=dz J R hu' hc rfl (show(0:Int)<=1000 by omega);rw[Jb]at e;rw[e];exact⟨d',m1,m2,m3,hcap m1 m4⟩
  ·by_cases ex:b=x
   ·subst ex;have ho:=GX J R;rw[ho,B9,Fb]at hk'
    by_cases hkx:k<(bA f b).Ops.length
    ·have h2:=(lS J R hb hkx).2
     have hof:offJ f b y b=0:=by unfold offJ;rw[if_neg hby]
     rw[hof,Jc]at h2;rw[h2]at e hj
     have hj':j<((bA f b).Ops.getD k default).Args.length:=by have:j<(List.map _ _).length:=hj;rwa[B9]at this
     have hu':=(E7 (E6 R) (f:=f)).2 ⟨b,hb,.inr (.inl ⟨k,j,hkx,hj',rfl⟩)⟩;obtain⟨d',m1,m2,m3,m4⟩:=dz J R hu' hb rfl (show(0:Int)<=(k:Int) by omega);rw[hof]at m4;refine⟨d',m1,?_,?_,?_⟩
     ·rw[m2,e];exact(Ze hj').symm
     ·rw[m3,e];rfl
     ·rw[e];simpa using m4
    ·have hky:k-(bA f b).Ops.length<(bA f y).Ops.length:=by omega
     have h2:=(lS J R hy.1 hky).2
     have hof:offJ f b y y=(bA f b).Ops.length:=by unfold offJ;rw[if_pos rfl]
     rw[hof,ie J R,show k-(bA f b).Ops.length+(bA f b).Ops.length=k by omega]at h2;rw[h2]at e hj
     have hj':j<((bA f y).Ops.getD (k-(bA f b).Ops.length) default).Args.length:=by have:j<(List.map _ _).length:=hj;rwa[B9]at this
     have hu':=(E7 (E6 R) (f:=f)).2 ⟨y,hy.1,.inr (.inl ⟨k-(bA f b).Ops.length,j,hky,hj',rfl⟩)⟩;obtain⟨d',m1,m2,m3,m4⟩:=dz J R hu' hy.1 rfl (show(0:Int)<=((k-(bA f b).Ops.length:Nat):Int) by omega);rw[hof,ie J R]at m4;refine⟨d',m1,?_,?_,?_⟩
     ·rw[m2,e];exact(Ze hj').symm
     ·rw[m3,e];rfl
     ·rw[e]
      have e4:(((k-(bA f b).Ops.length:Nat):Int)+((bA f b).Ops.length:Int))=(k:Int):=by omega
      have m4':WQ (Bk f b y) d' (psJ b y b:Int) (((k-(bA f b).Ops.length:Nat):Int)+((bA f b).Ops.length:Int)):=m4;rw[e4]at m4';exact m4'
   ·have ho:=bX J R hb hby ex;rw[ho,B9]at hk';have h2:=(lS J R hb hk').2
    have hof:offJ f x y b=0:=by unfold offJ;rw[if_neg hby]
    rw[hof,Jc]at h2;rw[h2]at e hj
    have hj':j<((bA f b).Ops.getD k default).Args.length:=by have:j<(List.map _ _).length:=hj;rwa[B9]at this
    have hu':=(E7 (E6 R) (f:=f)).2 ⟨b,hb,.inr (.inl ⟨k,j,hk',hj',rfl⟩)⟩;obtain⟨d',m1,m2,m3,m4⟩:=dz J R hu' hb rfl (show(0:Int)<=(k:Int) by omega);rw[hof]at m4;refine⟨d',m1,?_,?_,?_⟩
    ·rw[m2,e];exact(Ze hj').symm
    ·rw[m3,e];rfl
    ·rw[e];simpa using m4
  ·rw[GW J hs hb hby]at hK e;have hu':=(E7 (E6 R) (f:=f)).2 ⟨_,hsc,.inr (.inr (.inl ⟨hK,rfl⟩))⟩;obtain⟨d',m1,m2,m3,m4⟩:=dz J R hu' hsc rfl (show(0:Int)<=1000 by omega);rw[hpsrc]at m4;rw[e];exact⟨d',m1,m2,m3,hcap m1 m4⟩
  ·rw[GW J hs hb hby]at hK e;have hu':=(E7 (E6 R) (f:=f)).2 ⟨_,hsc,.inr (.inr (.inr ⟨hK,rfl⟩))⟩;obtain⟨d',m1,m2,m3,m4⟩:=dz J R hu' hsc rfl (show(0:Int)<=1000 by omega);rw[hpsrc]at m4;rw[e];exact⟨d',m1,m2,m3,hcap m1 m4⟩
end
theorem sd{f:Ab}{x y:Nat}{l:Int}(J:Jn f x y)(R:AJ f l)(hN:Nw f):Nw (Bk f x y):=by
 have hs:=A5 R;have hmx:maxLen=9223372036854775807:=O6;have hsz:=XT J R;have hszf:=hN.size
 have hblk:∀ b∈(Bk f x y).Blocks,Dt b<=512:=λb hb=>by
  obtain⟨k,hk,e⟩:=E1 hb;have:=Rx (F:=λb=>Dt (bA (Bk f x y) b)) hk;rw[<- H5]at this
  have e':bA (Bk f x y) k=b:=by unfold bA;rw[Aa _ _ _ hk];exact e
  simp only[e']at this;omega
 have hto:∀ b∈(Bk f x y).Blocks,b.End.To.length<=2:=λb hb=>by
  obtain⟨c,hc,hcy,_,e1,e2,e3,hsc⟩:=TA J R hb;rw[e3]
  show(List.map _ _).length<=2
  rw[B9];exact hN.to _ (Ag (d:=default) hsc)
 have hphi:∀ b∈(Bk f x y).Blocks,∀ p∈b.Phis,p.From.length<=16/\p.Args.length<=16:=λb hb p hp=>by
  obtain⟨c,hc,hcy,_,e1,e2,e3,hsc⟩:=TA J R hb;rw[e1]at hp;obtain⟨q,hq,rfl⟩:=zzL14.1 hp;obtain⟨q1,q2⟩:=Qj R hc hq;obtain⟨_,p2,p3,_⟩:=FQ J hs (v:=vJ f y) hc hcy q1 q2;rw[p2,p3];exact hN.phi _ (Ag (d:=default) hc) q hq
 have hop:∀ b∈(Bk f x y).Blocks,∀ o∈b.Ops,o.Args.length<=16/\0<=o.Imm/\o.Imm<18446744073709551616:=λb hb o ho=>by
  obtain⟨c,hc,hcy,_,e1,e2,e3,hsc⟩:=TA J R hb;obtain⟨d,hd,o',ho',rfl⟩:=e2 o ho;have h1:=hN.op _ (Ag (d:=default) hd) o' ho';have h2:=hN.inf.op _ (Ag (d:=default) hd) o' ho';refine⟨?_,h2.2⟩
  show(List.map _ _).length<=_
  rw[B9];exact h1
 refine⟨⟨hN.inf.params,?_,λb hb=>?_,λb hb p hp=>?_,λb hb o ho=>?_⟩,hN.params,hto,hphi,λb hb o ho=>(hop b hb o ho).1,by omega⟩
 ·rw[Kb J];have:=hN.inf.blocks;omega
 ·have:=hblk b hb;have h2:=hto b hb;unfold Dt at this;omega
 ·have:=hphi b hb p hp;omega
 ·have:=hop b hb o ho;exact⟨by omega,this.2⟩
theorem TB{f:Ab}{x y:Nat}{l:Int}(J:Jn f x y)(R:AJ f l)(hN:Nw f):AJ (Bk f x y) l/\Nw (Bk f x y):=
 have hn:=sd J R hN
 ⟨XU J R hN.size (jA (bh hn) (nA J R hN.size)),hn⟩
theorem iJ{α σ S X:Type}(l:List α)(d:α)(mk:Nat->σ->S)(P:Nat->σ->Prop)(g:σ->α->σ)(out:σ->X)(f:S->Option (LR S X))
  (hn:∀ i s,i<l.length->P i s->f (mk i s)=some (.next (mk (i+1) (g s (l.getD i d))))/\P (i+1) (g s (l.getD i d)))
  (hd:∀ s,P l.length s->f (mk l.length s)=some (.done (out s))):∀(k i:Nat) (s:σ),i+k=l.length->P i s->Af f (mk i s)=some (out ((l.drop i).foldl g s))/\P l.length ((l.drop i).foldl g s)
 | 0,i,s,h,hP=>by
  obtain rfl:i=l.length:=by omega
  rw[Am (hd s hP)]
  simpa using hP
 | k+1,i,s,h,hP=>by
  have hi:i<l.length:=by omega
  obtain⟨h1,h2⟩:=hn i s hi hP;obtain⟨h3,h4⟩:=iJ l d mk P g out f hn hd k (i+1) _ (by omega) h2
  have hdr:l.drop i=l.getD i d::l.drop (i+1):=by simp_all
  rw[An h1,h3,hdr];exact⟨rfl,h4⟩
theorem Wc{α σ S X:Type}(l:List α)(d:α)(mk:Nat->σ->S)(P:Nat->σ->Prop)(g:σ->α->σ)(out:σ->X)(f:S->Option (LR S X))
  (hn:∀ i s,i<l.length->P i s->f (mk i s)=some (.next (mk (i+1) (g s (l.getD i d))))/\P (i+1) (g s (l.getD i d)))
  (hd:∀ s,P l.length s->f (mk l.length s)=some (.done (out s))) (s:σ) (hP:P 0 s):Af f (mk 0 s)=some (out (l.foldl g s))/\P l.length (l.foldl g s):=
 iJ l d mk P g out f hn hd l.length 0 s (by omega) hP
theorem MH{α β:Type}(F:α->β):∀(l:List α) (k:Nat) (s:List β),s.length=k+l.length->(l.foldl (λ(t:Nat×List β) b=>(t.1+1,t.2.set t.1 (F b))) (k,s)).2=s.take k++l.map F
 | [],k,s,h=>by simp at h;simp[<- h]
 | b::l,k,s,h=>by
  simp only[Xj]at h;rw[AB,MH F l (k+1) (s.set k (F b)) (by simp;omega),B4]
  have e:(s.set k (F b)).take (k+1)=s.take k++[F b]:=by
   rw[List.take_add_one,List.take_set_of_le (by omega)];simp[List.getElem?_set,show k<s.length by omega]
  rw[e,EB];rfl
theorem PO{α β X:Type}(l:List α)(d:α)(F:α->β)(out:List β->X)(f:Int×List β->Option (LR (Int×List β) X))(hn:∀(i:Nat) (s:List β),i<l.length->s.length=l.length->f ((i:Int),s)=some (.next (((i+1:Nat):Int),s.set i (F (l.getD i d)))))
  (hd:∀ s,f ((l.length:Int),s)=some (.done (out s))) (s:List β) (hs:s.length=l.length):Af f ((0:Int),s)=some (out (l.map F)):=by
 have key:=Wc l d (λi (t:Nat×List β)=>((i:Int),t.2)) (λi t=>t.1=i/\t.2.length=l.length) (λt b=>(t.1+1,t.2.set t.1 (F b))) (λt=>out t.2) f
  (λi t hi hP=>by obtain⟨h1,h2⟩:=hP;subst h1;exact⟨hn _ _ hi h2,rfl,by simpa using h2⟩) (λt _=>hd t.2) (0,s) ⟨rfl,hs⟩
 have:=key.1;rw[MH F l 0 s (by omega)]at this
 simpa using this
theorem iI{α β X:Type}(l:List α)(d:α)(q:α->Option β)(out:β->X)(no:X)(f:Int->Option (LR Int X))(hn:∀ i,i<l.length->q (l.getD i d)=none->f (i:Int)=some (.next (((i+1:Nat):Int))))
  (hf:∀ i,i<l.length->∀ b,q (l.getD i d)=some b->f (i:Int)=some (.done (out b))) (he:f (l.length:Int)=some (.done no)):Af f (0:Int)=some (match l.findSome? q with|some b=>out b|none=>no):=by
 have key:∀ k i:Nat,i+k=l.length->Af f (i:Int)=some (match(l.drop i).findSome? q with|some b=>out b|none=>no):=by
  intro k
  induction k with
  | zero=>
   intro i h
   obtain rfl:i=l.length:=by omega
   rw[Am he];simp
  | succ k ih=>
   intro i h
   have hi:i<l.length:=by omega
   have hdr:l.drop i=l.getD i d::l.drop (i+1):=by simp_all
   rw[hdr,List.findSome?_cons]
   cases hq:q (l.getD i d) with
   | some b=>rw[Am (hf i hi b hq)]
   | none=>rw[An (hn i hi hq),ih (i+1) (by omega)]
 have:=key l.length 0 (by omega)
 simpa using this
theorem g6{a b:Nat}(h:a+b<4000000):Ay (Rw .u64 (Ki (Ay ((a:Int)+(b:Int)))) (1:Int))=(((a+b) / 2:Nat):Int):=by
 have e:((a:Int)+(b:Int))=((a+b:Nat):Int):=by omega
 rw[e,Ed (n:=((a+b:Nat):Int)) (by omega) (by omega),QU (by omega) (by omega)];unfold Rw;rw[show(1:Int).toNat=1 from rfl,show min 1 IntKind.u64.bits=1 from rfl,show(2:Int) ^ 1=2 from rfl,Int.fdiv_eq_ediv_of_nonneg _ (by omega),Ed (by omega) (by omega)];omega
theorem dV{l:List Int}(hs:l.Pairwise (·<·))(hl:l.length<=1000)(x:Int):∃(i:Nat) (b:Bool),Dy l x=some ((i:Int),b)/\i<=l.length/\(∀ k,k<i->l.getD k 0<x)/\∀ k,i<=k->k<l.length->x<=l.getD k 0:=by
 have hmono:∀ i j,i<j->j<l.length->l.getD i 0<l.getD j 0:=λi j hij hj=>by
  rw[Aa _ _ _ hj,Aa _ _ _ (by omega)];exact zzL87.1 hs i j (by omega) hj hij
 have key:∀ d (a b:Nat),b-a<=d->a<=b->b<=l.length->(∀ k,k<a->l.getD k 0<x)->(∀ k,b<=k->k<l.length->x<=l.getD k 0)->
   ∃ i:Nat,Af (Bo l x) ((a:Int),(b:Int))=some (i:Int)/\i<=l.length/\(∀ k,k<i->l.getD k 0<x)/\∀ k,i<=k->k<l.length->x<=l.getD k 0:=by
  intro d
  induction d with
  | zero=>
   intro a b h1 h2 h3 h4 h5
   obtain rfl:a=b:=by omega
   refine⟨a,Am ?_,h3,h4,h5⟩;unfold Bo;simp only[Fm,A8]
  | succ d ih=>
   intro a b h1 h2 h3 h4 h5
   by_cases hab:a<b
   ·have hm:(a+b) / 2<l.length:=by omega
    have e:Bo l x ((a:Int),(b:Int))=some (.next (bif decide (l.getD ((a+b) / 2) 0<x) then((((a+b) / 2+1:Nat):Int),(b:Int)) else((a:Int),(((a+b) / 2:Nat):Int)))):=by
     unfold Bo Pb K1;simp only[Dd hab,Ai,g6 (show a+b<4000000 by omega),Ad (Ar hm),Ao,Ax,bne_self_eq_false,w1 (show(a+b) / 2<4611686018427387904 by omega)]
     cases decide (l.getD ((a+b) / 2) 0<x)<;>rfl
    rw[An e]
    by_cases hx:l.getD ((a+b) / 2) 0<x
    ·rw[Gw hx,Ai];refine ih _ _ (by omega) (by omega) h3 (λk hk=>?_) h5;rcases zzL121 k ((a+b) / 2) with h6|h6
     ·exact Int.lt_trans (hmono k _ h6 hm) hx
     ·obtain rfl:k=(a+b) / 2:=by omega
      exact hx
    ·rw[Gv hx,A8];refine ih _ _ (by omega) (by omega) (by omega) h4 (λk hk hkl=>?_);rcases zzL121 ((a+b) / 2) k with h6|h6
     ·have:=hmono _ k h6 hkl;omega
     ·obtain rfl:k=(a+b) / 2:=by omega
      omega
   ·exact ih a b (by omega) h2 h3 h4 h5
 obtain⟨i,h1,h2,h3,h4⟩:=key l.length 0 l.length (by omega) (by omega) (zzL5 _) (λk hk=>by omega) (λk hk hk2=>by omega);have h1':Af (Bo l x) ((0:Int),(l.length:Int))=some (i:Int):=h1;unfold Dy Ij;rw[h1',Ax]
 have hin:(decide ((i:Int)<(l.length:Int)))=true->Bl (i:Int) l.length:=λh=>by have:=CI h;exact⟨by omega,this⟩
 rw[Ad (λh=>hin (by simpa using h)),Ad (λh=>hin (by simp at h;simpa using h.1))];simp only[bne_self_eq_false];refine⟨i,(bif decide ((i:Int)<(l.length:Int)) then(bif (l.getD (i:Int).toNat 0==x) then true else(bif false then false else false)) else false),?_,h2,h3,h4⟩
 have e:∀ b:Bool,(bif b then some false else some false)=some false:=λb=>by cases b<;>rfl
 rw[e,Ax];simp only[Bool.and_false,show((false:Bool)==true)=false from rfl,A8,Ax]
theorem TR{V:Type}(k v:Int)(x:V):∀ l:List (Int×V),C5 (Gq l k x) v=(v==k || C5 l v)
 | []=>by simp[Gq,C5]
 | (a,b)::r=>by
  unfold Gq
  cases h:(k==a) with
  | true=>
   have:k=a:=eq_of_beq h;subst this;simp[C5]
  | false=>
   simp only[A8,C5,TR k v x r]
   cases v==a<;>cases v==k<;>rfl
theorem TQ{V:Type}(d:V)(k v:Int)(x:V):∀ l:List (Int×V),D7 d (Gq l k x) v=bif v==k then x else D7 d l v
 | []=>by simp[Gq,D7]
 | (a,b)::r=>by
  unfold Gq
  cases h:(k==a) with
  | true=>
   have:k=a:=eq_of_beq h;subst this;simp only[Ai,D7]
   cases v==k<;>rfl
  | false=>
   simp only[A8,D7,TQ d k v x r]
   cases h1:(v==a) with
   | true=>
    have:v=a:=eq_of_beq h1;subst this
    have:(v==k)=false:=by
     cases h2:(v==k) with
     | false=>rfl
     | true=>have:=eq_of_beq h2;subst this;simp at h
    rw[this];rfl
   | false=>rfl
def H6(l:List (Int×Int))(v:Int):Int:=bif C5 l v then D7 0 l v else v
theorem FE(v x y:Int)(l:List (Int×Int)):Ew v x y l=some (H6 l v):=by
 unfold Ew H6
 cases C5 l v<;>rfl
theorem bE{x y a:Nat}(hx:x<1000000)(h:a<1000000)(l:List (Int×Int)):Hn (a:Int) (x:Int) (y:Int) l=some ((psJ x y a:Nat):Int):=by
 unfold Hn psJ
 have key:∀ z:Nat,((Option.bind (α:=Int) (bif decide (((y:Nat):Int)<(z:Int)) then some (Ay ((z:Int)-1)) else some (z:Int)) λx5=>some x5):Option Int)=some (((if y<z then z-1 else z:Nat)):Int)\/¬ z<4000000:=λz=>by
  by_cases hz:z<4000000
  ·left
   by_cases hy:y<z
   ·rw[Gw (by omega),Ai,if_pos hy,Ed (by omega) (by omega)]
    show some _=some _
    congr 1;omega
   ·rw[Gv (by omega),A8,if_neg hy];rfl
  ·exact .inr hz
 by_cases e:a=y
 ·subst e;rw[show((a:Int)==(a:Int))=true by simp,Ai,Ax,if_pos rfl];rcases key x with h|h
  ·exact h
  ·omega
 ·rw[show((a:Int)==(y:Int))=false by rw[zzL28];omega,A8,Ax,if_neg e];rcases key a with h|h
  ·exact h
  ·omega
theorem jN(l:List (Int×Int))(k v x:Int):H6 (Gq l k x) v=bif v==k then x else H6 l v:=by
 unfold H6;rw[TR,TQ]
 cases v==k<;>rfl
theorem d7{ps:List A4}{p:A4}(h:∀ q∈ps,q.Dst≠p.Dst)(v:Int):Uc (ps++[p]) v=bif v==p.Dst then p.Args.getD 0 0 else Uc ps v:=by
 unfold Uc;rw[List.find?_append]
 by_cases e:v=p.Dst
 ·subst e;rw[List.find?_eq_none.2 (λq hq=>by simpa using h q hq)]
  simp
 ·rw[show(v==p.Dst)=false by rw[zzL28];exact e,A8]
  have:(p.Dst==v)=false:=by rw[zzL28];exact λh=>e h.symm
  cases ps.find? (λp=>p.Dst==v) with
  | some q=>rfl
  | none=>simp[this]
section
variable {f:Ab} {x y:Nat} {l:Int} (J:Jn f x y) (R:AJ f l)
include J R
theorem bs{b:Nat}(hb:b<f.Blocks.length):((bA f b).Phis.map (·.Dst)).Nodup:=by
 have:=((nodup_split f).1 (Sh (Wf R).1)).1 b hb;unfold FV at this;exact(List.nodup_append.1 this).1
theorem ic{p:A4}(hp:p∈(bA f y).Phis):(bA f y).Phis.find? (λq=>q.Dst==p.Dst)=some p:=by
 have hy:=(DB J (A5 R)).1;have hn:=bs J R hy
 cases hq:(bA f y).Phis.find? (λq=>q.Dst==p.Dst) with
 | none=>have:=List.find?_eq_none.1 hq p hp;simp at this
 | some q=>
  have hm:=List.mem_of_find?_eq_some hq
  have he:q.Dst=p.Dst:=by simpa using List.find?_some hq
  obtain⟨i,hi,rfl⟩:=E1 hm;obtain⟨j,hj,rfl⟩:=E1 hp;have:=(List.getElem_inj (h₀:=show i<((bA f y).Phis.map (·.Dst)).length by simpa using hi) (h₁:=show j<((bA f y).Phis.map (·.Dst)).length by simpa using hj) hn).1 (by simpa using he);subst this;rfl
theorem kh{p:A4}(hp:p∈(bA f y).Phis):∀ q∈(bA f y).Phis,q.Dst≠p.Args.getD 0 0:=λq hq e=>by
 have hy:=DB J (A5 R);obtain⟨_,_,hd⟩:=NX J R hp;obtain⟨_,_,hdq⟩:=NX J R hq;obtain⟨d,hd',hv,_,_,hn⟩:=jM J R hd hy.1 (a:=0) (Int.le_refl _) (.inr (.inl ⟨rfl,by show(-1:Int)<0;omega⟩))
 have hv2:d.V=p.Args.getD 0 0:=by
  rw[hv];unfold vJ Uc;rw[ic J R hp]
 have:=iq R hd' hdq (by rw[hv2,<- e]);rw[this]at hn;exact hn ⟨rfl,rfl⟩
def Zd(ps:List A4):List (Int×Int):=ps.foldl (λl p=>Gq l p.Dst (p.Args.getD 0 0)) []
theorem TM(i:Nat)(hi:i<=(bA f y).Phis.length)(v:Int):H6 (Zd ((bA f y).Phis.take i)) v=Uc ((bA f y).Phis.take i) v:=by
 have hy:=(DB J (A5 R)).1;have hn:=bs J R hy
 induction i with
 | zero=>rfl
 | succ i ih=>
  have hi':i<(bA f y).Phis.length:=by omega
  have e:(bA f y).Phis.take (i+1)=(bA f y).Phis.take i++[(bA f y).Phis[i]]:=by rw[List.take_add_one,M4 hi'];rfl
  rw[e,d7]
  ·unfold Zd;rw[List.foldl_append]
   show H6 (Gq (Zd ((bA f y).Phis.take i)) _ _) v=_
   rw[jN,ih (by omega)]
  ·intro q hq he;obtain⟨k,hk,rfl⟩:=E1 hq;rw[R4]at hk;rw[List.getElem_take]at he;have:=(List.getElem_inj (h₀:=show k<((bA f y).Phis.map (·.Dst)).length by rw[B9];omega) (h₁:=show i<((bA f y).Phis.map (·.Dst)).length by simpa using hi') hn).1 (by simpa using he);omega
theorem fu(hs:(bA f y).Phis.length<4611686018427387904):Af (Et f (x:Int) (y:Int)) ((0:Int),([]:List (Int×Int)))=some (Zd (bA f y).Phis):=by
 have hy:=(DB J (A5 R)).1;refine Ko (Et f (x:Int) (y:Int)) (λi=>((i:Int),Zd ((bA f y).Phis.take i))) (Zd (bA f y).Phis) (bA f y).Phis.length (λi hi=>?_) ?_
 ·have hp:=Ag (d:=(default:A4)) hi;have ha:=(NX J R hp).1;have hi2:((f.Blocks.getD y default).Phis).getD i default=(bA f y).Phis[i]:=Aa _ _ _ hi
  have e:(bA f y).Phis.take (i+1)=(bA f y).Phis.take i++[(bA f y).Phis.getD i default]:=by rw[List.take_add_one,M4 hi,Aa _ _ _ hi];rfl
  have hv:H6 (Zd ((bA f y).Phis.take i)) (((bA f y).Phis.getD i default).Args.getD 0 0)=((bA f y).Phis.getD i default).Args.getD 0 0:=by
   rw[TM J R i (by omega)];unfold Uc;rw[List.find?_eq_none.2];intro q hq;have:=kh J R hp q (List.mem_of_mem_take hq)
   simpa using this
  have hA:Bl (0:Int) (((f.Blocks.getD y default).Phis).getD i default).Args.length:=by
   rw[show(((f.Blocks.getD y default).Phis).getD i default).Args.length=1 from ha];exact⟨by omega,by omega⟩
  unfold Et;simp only[Ao];rw[Dd hi,Ai,Ad (Ar hi),Ad hA,FE,Ax,w1 (show i<4611686018427387904 by omega)];rw[show H6 (Zd ((bA f y).Phis.take i)) ((((f.Blocks.getD y default).Phis).getD i default).Args.getD (0:Int).toNat 0)=_ from hv];rw[e];unfold Zd;rw[List.foldl_append];rfl
 ·unfold Et;simp only[Ao];rw[Fm,A8,Vo]
end
theorem n8{L:List Int}{x y:Int}{m:List (Int×Int)}(hl:L.length<=1000000):Qc L x y m=some (L.map (H6 m)):=by
 have hroom:(1000001:Nat)<=room:=by decide
 unfold Qc
 rw[Ad (by omega),PO L (0:Int) (H6 m) id (Mq L x y m) (λi s hi hs=>by
  unfold Mq;simp only[Dd hi,Ai,Ad (Ar hi),Ao,FE,Ax,w1 (show i<4611686018427387904 by omega)]
  rw[Ad (by rw[hs];exact Ar hi)]) (λs=>by unfold Mq;simp only[Fm,A8];rfl) _ (by simp)]
 rfl
theorem kx{L:List Int}{x y:Nat}{m:List (Int×Int)}(hx:x<1000000)(hl:L.length<=1000000)(h:∀ z∈L,0<=z/\z<1000000):Mr L (x:Int) (y:Int) m=some (L.map (YP x y)):=by
 have hroom:(1000001:Nat)<=room:=by decide
 unfold Mr
 rw[Ad (by omega),PO L (0:Int) (YP x y) id (I9 L (x:Int) (y:Int) m) (λi s hi hs=>by
  obtain⟨h0,h1⟩:=h _ (Ag (d:=(0:Int)) hi);obtain⟨a,ha⟩:∃ a:Nat,L.getD i 0=(a:Int):=⟨(L.getD i 0).toNat,by omega⟩;unfold I9;simp only[Dd hi,Ai,Ad (Ar hi),Ao,w1 (show i<4611686018427387904 by omega)]
  rw[ha,bE hx (by omega),Ax,Ad (by rw[hs];exact Ar hi),Jb]) (λs=>by unfold I9;simp only[Fm,A8];rfl) _ (by simp)]
 rfl
theorem MK{e:Int×Int}:∀{n:Nat} {l:List (Int×Int)},n<=l.length->(∀ k,k<n->(l.map (·.1)).getD k 0<e.1)->(∀ k,n<=k->k<l.length->e.1<=(l.map (·.1)).getD k 0)->EO l e=l.take n++e::l.drop n
 | 0,[],_,_,_=>rfl
 | 0,p::l,_,_,h2=>by
  rw[V8];have:=h2 0 (zzL5 _) (by simp);simp at this;rw[if_neg (by omega)];rfl
 | n+1,[],h,_,_=>by simp at h
 | n+1,p::l,h,h1,h2=>by
  rw[V8];have h0:=h1 0 (by omega);simp at h0;rw[if_pos h0,MK (n:=n) (by simpa using h) (λk hk=>by have:=h1 (k+1) (by omega);simpa using this) (λk hk hl=>by have:=h2 (k+1) (by omega) (by simpa using hl);simpa using this)]
  rfl
theorem qL{p:A4}{x y:Nat}{m:List (Int×Int)}(hx:x<1000000)(hl:p.From.length<=500)(h2:p.Args.length=p.From.length)(h:∀ z∈p.From,0<=z/\z<1000000)(hn:((Kj (H6 m) x y p).map (·.1)).Nodup) :
  K4 p (x:Int) (y:Int) m=some (EW (H6 m) x y p):=by
 have hroom:(1000001:Nat)<=room:=by decide
 have hzl:=cH (v:=H6 m) (x:=x) (y:=y) h2;have key:=Ko (Gn p (x:Int) (y:Int) m) (λi=>((i:Int),(Ub ((Kj (H6 m) x y p).take i)).map (·.1),(Ub ((Kj (H6 m) x y p).take i)).map (·.2))) ((Ub (Kj (H6 m) x y p)).map (·.1),(Ub (Kj (H6 m) x y p)).map (·.2)) p.From.length (λi hi=>?_) ?_
 ·unfold K4;have key':Af (Gn p (x:Int) (y:Int) m) ((0:Int),([]:List Int),([]:List Int))=_:=key;rw[key',Ax];rfl
 ·have hi':i<(Kj (H6 m) x y p).length:=by omega
  have hia:i<p.Args.length:=by omega
  obtain⟨h0,h1⟩:=h _ (Ag (d:=(0:Int)) hi);obtain⟨a,ha⟩:∃ a:Nat,p.From.getD i 0=(a:Int):=⟨(p.From.getD i 0).toNat,by omega⟩
  have ez:(Kj (H6 m) x y p)[i]=(((psJ x y a:Nat):Int),H6 m (p.Args.getD i 0)):=by
   have h':i<(List.zip (p.From.map (YP x y)) (p.Args.map (H6 m))).length:=hi'
   show(List.zip (p.From.map (YP x y)) (p.Args.map (H6 m)))[i]'h'=_
   rw[List.getElem_zip,List.getElem_map,List.getElem_map,<- Aa _ _ (0:Int) hi,<- Aa _ _ (0:Int) hia,ha,Jb]
  have et:(Kj (H6 m) x y p).take (i+1)=(Kj (H6 m) x y p).take i++[(Kj (H6 m) x y p)[i]]:=by rw[List.take_add_one,M4 hi'];rfl
  have es:Ub ((Kj (H6 m) x y p).take (i+1))=EO (Ub ((Kj (H6 m) x y p).take i)) (((psJ x y a:Nat):Int),H6 m (p.Args.getD i 0)):=by
   rw[et,ez];unfold Ub;rw[List.foldl_append];rfl
  have hnt:(((Kj (H6 m) x y p).take i).map (·.1)).Nodup:=by
   rw[List.map_take];exact hn.sublist (List.take_sublist ..)
  obtain⟨k1,k2⟩:=bz hnt
  generalize hA:Ub ((Kj (H6 m) x y p).take i)=A at *
  have hAl:A.length=i:=by rw[k1.length_eq,R4];omega
  have hsrt:(A.map (·.1)).Pairwise (·<·):=by rw[List.pairwise_map];exact k2
  obtain⟨n,b,s1,s2,s3,s4⟩:=dV hsrt (by rw[B9];omega) ((psJ x y a:Nat):Int);rw[B9]at s2;have hins:=MK (e:=(((psJ x y a:Nat):Int),H6 m (p.Args.getD i 0))) s2 s3 (λk hk hkl=>s4 k hk (by rw[B9];exact hkl))
  have hI:∀(M:List Int) (z:Int),M.length=A.length->Vf M (n:Int) [z]=some (M.take n++[z]++M.drop n,M.take n++[z]++M.drop n,[z]):=λM z hM=>by
   unfold Vf;rw[Ad ⟨by omega,by omega,by simp,by simp;omega⟩,Ao]
  unfold Gn;simp only[Dd hi,Ai,Ad (Ar hi),Ao,ha,bE hx (show a<1000000 by omega),Ax,s1];rw[hI _ _ (by rw[B9]),Ax]
  dsimp only
  rw[Ad (show 1=[((psJ x y a:Nat):Int)].length from rfl),Ad (Ar hia),FE,Ax,hI _ _ (by rw[B9]),Ax]
  dsimp only
  rw[Ad (show 1=[H6 m (p.Args.getD i 0)].length from rfl),w1 (show i<4611686018427387904 by omega),es,hins];simp[List.map_take,List.map_drop]
 ·unfold Gn;simp only[Fm,A8];rw[show(Kj (H6 m) x y p).take p.From.length=Kj (H6 m) x y p by rw[<- hzl,Vo]]
structure rC(v:Int->Int)(x y:Nat)(b:Ac):Prop where
 phis:b.Phis.length<=100000
 ops:b.Ops.length<=1000000
 to:b.End.To.length<=1000000/\∀ z∈b.End.To,0<=z/\z<1000000
 phi:∀ p∈b.Phis,p.From.length<=500/\p.Args.length=p.From.length/\(∀ z∈p.From,0<=z/\z<1000000)/\((Kj v x y p).map (·.1)).Nodup
 op:∀ o∈b.Ops,o.Args.length<=1000000
theorem ku{b:Ac}{x y:Nat}{m:List (Int×Int)}(hx:x<1000000)(h:rC (H6 m) x y b):Hk b (x:Int) (y:Int) m=some (Xv (H6 m) x y b):=by
 have hroom:(1000001:Nat)<=room:=by decide
 have hph:=h.phis;have hop:=h.ops;unfold Hk
 rw[Ad (by omega),PO b.Phis (default:A4) (EW (H6 m) x y) id (Hl b (x:Int) (y:Int) m) (λi s hi hs=>by
  obtain⟨p1,p2,p3,p4⟩:=h.phi _ (Ag (d:=default) hi);unfold Hl;simp only[Dd hi,Ai,Ad (Ar hi),Ao,qL hx p1 p2 p3 p4,Ax,w1 (show i<4611686018427387904 by omega)]
  rw[Ad (by rw[hs];exact Ar hi)]) (λs=>by unfold Hl;simp only[Fm,A8];rfl) _ (by simp),Ax]
 dsimp only[id]
 rw[Ad (by omega),PO b.Ops (default:Bz) (WJ (H6 m)) id (Hm b (x:Int) (y:Int) m) (λi s hi hs=>by
  unfold Hm;simp only[Dd hi,Ai,Ad (Ar hi),Ao,n8 (h.op _ (Ag (d:=default) hi)),Ax,w1 (show i<4611686018427387904 by omega)]
  rw[Ad (by rw[hs];exact Ar hi)];rfl) (λs=>by unfold Hm;simp only[Fm,A8];rfl) _ (by simp),Ax]
 dsimp only[id]
 rw[FE,Ax,kx hx h.to.1 h.to.2,Ax]
 rfl
theorem fy{a b:List Bz}(h:a.length+b.length<=1000000):Dz [a,b]=some (a++b):=by
 have hroom:(1000001:Nat)<=room:=by decide
 unfold Dz
 have h1:Af (B5 [a,b]) ((0:Int),(0:Int))=some (((a.length+b.length:Nat)):Int):=by
  rw[An (s':=((a.length:Int),(1:Int))) (by
   unfold B5
   show(Option.bind (α:=Unit) (Bh (Bl (0:Int) 2) (bif decide (Ay ((0:Int)+(a.length:Int))<0) then none else some ())) _)=_
   rw[Ed (by omega) (by omega),Gv (by omega),Ad ⟨by omega,by omega⟩,A8,Ax]
   show some (LR.next (Ay ((0:Int)+(a.length:Int)),Ay ((0:Int)+1)))=_
   rw[show Ay ((0:Int)+1)=1 from rfl,Ed (n:=(0:Int)+(a.length:Int)) (by omega) (by omega),Int.zero_add]),An (s':=(((a.length+b.length:Nat):Int),(2:Int))) (by
   unfold B5
   show(Option.bind (α:=Unit) (Bh (Bl (1:Int) 2) (bif decide (Ay ((a.length:Int)+(b.length:Int))<0) then none else some ())) _)=_
   rw[Ed (by omega) (by omega),Gv (by omega),Ad ⟨by omega,by omega⟩,A8,Ax]
   show some (LR.next (Ay ((a.length:Int)+(b.length:Int)),Ay ((1:Int)+1)))=_
   rw[show Ay ((1:Int)+1)=2 from rfl,Ed (n:=(a.length:Int)+(b.length:Int)) (by omega) (by omega)];rfl),Am (by
   unfold B5
   rfl)]
 rw[h1,Ax];unfold ZL;rw[Ad ⟨by omega,by omega⟩,Ax]
 have h2:Af (B6 [a,b]) (([]:List Bz),(0:Int))=some (a++b):=by
  rw[An (s':=(a,(1:Int))) (by
   unfold B6
   show Bh (Bl (0:Int) 2) (Bh (0+a.length<=room) (some (LR.next ([]++a,Ay (0+1)))))=_
   rw[Ad ⟨by omega,by omega⟩,Ad (by omega)];rfl),An (s':=(a++b,(2:Int))) (by
   unfold B6
   show Bh (Bl (1:Int) 2) (Bh (a.length+b.length<=room) (some (LR.next (a++b,Ay (1+1)))))=_
   rw[Ad ⟨by omega,by omega⟩,Ad (by omega)];rfl),Am (by
   unfold B6
   rfl)]
 rw[h2];rfl
theorem bQ{y:Nat}:∀ n,((List.range n).filter λb=>decide (b≠y))=if y<n then(List.range (n-1)).map (Yb y) else List.range n
 | 0=>by simp
 | n+1=>by
  rw[R5,Vl,bQ n]
  by_cases h:y<n
  ·obtain⟨m,rfl⟩:∃ m,n=m+1:=⟨n-1,by omega⟩
   have e:Yb y m=m+1:=by rcases up_eq y m with h|h<;>omega
   rw[if_pos h,if_pos (by omega),show m+1+1-1=m+1 by omega,show m+1-1=m by omega,R5,Om];simp[show ¬ m+1=y by omega,e]
  ·rw[if_neg h]
   by_cases e:n=y
   ·subst e;rw[if_pos (by omega),show n+1-1=n by omega]
    simp
    apply AA
    ·simp
    ·intro i h1 h2;simp at h1 h2 ⊢;rcases up_eq n i with h|h<;>omega
   ·rw[if_neg (by omega)];simp[e]
section
variable {f:Ab} {x y:Nat} {l:Int} (J:Jn f x y) (R:AJ f l) (hN:Nw f)
include J R hN
theorem tF{v:Int->Int}{b:Nat}(hb:b<f.Blocks.length)(hby:b≠y):rC v x y (F5 f x y b):=by
 have hs:=A5 R;have hy:=(DB J hs).1;have h64:=(shape_iff.1 hs).1.2
 have hsz:∀ c,c<f.Blocks.length->Dt (bA f c)<=512:=λc hc=>by
  have:=Rx (F:=λb=>Dt (bA f b)) hc;rw[<- H5]at this;have:=hN.size;omega
 have hto:∀ c,c<f.Blocks.length->(bA f c).End.To.length<=1000000/\∀ z∈(bA f c).End.To,0<=z/\z<1000000:=λc hc=>by
  have ht:(bA f c).End.To.length<=2:=hN.to _ (Ag (d:=default) hc);refine⟨by omega,λz hz=>?_⟩;obtain⟨w,rfl,hw,_⟩:=Ya hs hc hz;omega
 have hphi:∀ p∈(bA f b).Phis,p.From.length<=500/\p.Args.length=p.From.length/\(∀ z∈p.From,0<=z/\z<1000000)/\((Kj v x y p).map (·.1)).Nodup:=λp hp=>by
  obtain⟨q1,q2⟩:=Qj R hb hp;have:=hN.phi _ (Ag (d:=default) hb) p hp;refine⟨by omega,q2,λz hz=>?_,?_⟩
  ·rw[q1]at hz;obtain⟨w,rfl,hw,_⟩:=(K5 hs hb).1 hz;omega
  ·rw[FW q2,q1];exact nE J hs hb hby
 have hop:∀ c,c<f.Blocks.length->∀ o∈(bA f c).Ops,o.Args.length<=1000000:=λc hc o ho=>by
  have:=hN.op _ (Ag (d:=default) hc) o ho;omega
 have h1:=hsz b hb;have h2:=hsz x J.hx;have h3:=hsz y hy;unfold Dt at h1 h2 h3;unfold F5
 split
 ·rename_i e
  subst e
  exact⟨by show(bA f b).Phis.length<=_;omega,by show((bA f b).Ops++(bA f y).Ops).length<=_;rw[Fb];omega,hto y hy,hphi,λo ho=>by
   rcases zzL9.1 ho with h|h
   ·exact hop b hb o h
   ·exact hop y hy o h⟩
 ·exact⟨by omega,by omega,hto b hb,hphi,hop b hb⟩
theorem dA:Dx f (x:Int) (y:Int)=some (Bk f x y,(x:Int),(y:Int),Zd (bA f y).Phis):=by
 have hroom:(1000001:Nat)<=room:=by decide
 have hs:=A5 R;have hy:=(DB J hs).1;have h64:=(shape_iff.1 hs).1.2
 have hsz:∀ c,c<f.Blocks.length->Dt (bA f c)<=512:=λc hc=>by
  have:=Rx (F:=λb=>Dt (bA f b)) hc;rw[<- H5]at this;have:=hN.size;omega
 have h2:=hsz x J.hx;have h3:=hsz y hy;unfold Dt at h2 h3
 have hv:H6 (Zd (bA f y).Phis)=vJ f y:=by
  funext v
  have:=TM J R (bA f y).Phis.length (zzL5 _) v;rw[Vo]at this;exact this
 have hxl:=J.hx;unfold Dx;rw[Ad (Ar J.hx),Ad (Ar hy),fu J R (by omega),Ax];simp only[Ao]
 have hcc:(f.Blocks.getD x default).Ops.length+(f.Blocks.getD y default).Ops.length<=1000000:=by
  have e1:(f.Blocks.getD x default).Ops.length<=512:=by show(bA f x).Ops.length<=512;omega
  have e2:(f.Blocks.getD y default).Ops.length<=512:=by show(bA f y).Ops.length<=512;omega
  omega
 rw[fy hcc,Ax];have key:=Ko (Eu f (x:Int) (y:Int) (Zd (bA f y).Phis) ((f.Blocks.getD x default).Ops++(f.Blocks.getD y default).Ops))
  (λi=>((i:Int),((List.range i).filter λb=>decide (b≠y)).map λb=>Xv (vJ f y) x y (F5 f x y b))) (Bk f x y).Blocks f.Blocks.length (λi hi=>by
   have hb:=ku (b:=F5 f x y i) (x:=x) (y:=y) (m:=Zd (bA f y).Phis) (by omega);rw[hv]at hb
   have hlen:(((List.range i).filter λb=>decide (b≠y)).map λb=>Xv (vJ f y) x y (F5 f x y b)).length<=i:=by
    rw[B9];have:=List.length_filter_le (λb=>decide (b≠y)) (List.range i);rw[Lw]at this;exact this
   have hr:((List.range (i+1)).filter λb=>decide (b≠y)).map (λb=>Xv (vJ f y) x y (F5 f x y b))=(((List.range i).filter λb=>decide (b≠y)).map λb=>Xv (vJ f y) x y (F5 f x y b))++(if i=y then[] else[Xv (vJ f y) x y (F5 f x y i)]):=by
    rw[R5,Vl,Om]
    congr 1
    by_cases e:i=y<;>simp[e]
   rw[hr];unfold Eu;simp only[Dd hi,Ai,Ad (Ar hi),Ao,w1 (show i<4611686018427387904 by omega)]
   by_cases ex:i=x
   ·have hiy:¬ i=y:=λe=>J.ne (e▸ex);rw[show((i:Int)==(x:Int))=true by rw[zzL62];omega,Ai,if_neg hiy]
    have hB:F5 f x y i=⟨(f.Blocks.getD x default).Phis,(f.Blocks.getD x default).Ops++(f.Blocks.getD y default).Ops,⟨(f.Blocks.getD y default).End.Kind,(f.Blocks.getD y default).End.Arg,(f.Blocks.getD y default).End.To⟩⟩:=by
     unfold F5;rw[if_pos ex]
    have hok:rC (vJ f y) x y (F5 f x y i):=tF J R hN hi hiy;have hb':=hb hok;rw[hB]at hb';rw[hb',Ax,Ad (by show _+1<=room;omega),Ax,<- hB]
   ·rw[show((i:Int)==(x:Int))=false by rw[zzL28];omega,A8]
    by_cases ey:i=y
    ·rw[show((i:Int)==(y:Int))=true by rw[zzL62];omega,Ai,if_pos ey,List.append_nil];rfl
    ·rw[show((i:Int)==(y:Int))=false by rw[zzL28];omega,A8,if_neg ey]
     have hB:F5 f x y i=f.Blocks.getD i default:=by unfold F5;rw[if_neg ex]
     have hok:rC (vJ f y) x y (F5 f x y i):=tF J R hN hi ey;have hb':=hb hok;rw[hB]at hb'
     rw[hb',Ax,Ad (by show _+1<=room;omega),Ax,hB])
  (by
   unfold Eu;simp only[Fm,A8]
   rw[bQ,if_pos hy,List.map_map];rfl)
 have key':Af (Eu f (x:Int) (y:Int) (Zd (bA f y).Phis) ((f.Blocks.getD x default).Ops++(f.Blocks.getD y default).Ops)) ((0:Int),([]:List Ac))=_:=key;rw[key',Ax];rfl
end
def KR(f:Ab)(i:Nat):Option (Nat×Nat):=if(bA f i).End.Kind=1/\cD f i 0≠(i:Int)/\(prF f (cD f i 0).toNat).length=1 then some (i,(cD f i 0).toNat) else none
def Oa(f:Ab):Option (Nat×Nat):=(List.range f.Blocks.length).findSome? (KR f)
def T8:Nat->Ab->Ab
 | 0,f=>f
 | n+1,f=>match Oa f with|some p=>T8 n (Bk f p.1 p.2)|none=>f
theorem HC{f:Ab}(hs:Fn f=true){i:Nat}(hi:i<f.Blocks.length)(hk:(bA f i).End.Kind=1):∃ b:Nat,(bA f i).End.To=[(b:Int)]/\b<f.Blocks.length/\0<b:=by
 have h3:Jj (bA f i).End f.Blocks.length=true:=(shape_iff.1 hs).2 i hi;unfold Jj Y9 at h3;simp only[Az,El]at h3;have hw:=h3.1.2;rw[hk,show VN 1=1 from rfl]at hw
 have hl:(bA f i).End.To.length=1:=by omega
 generalize hT:(bA f i).End.To=T at hl
 match T,hl with
 | [z],_=>
  obtain⟨c,rfl,hc,h0,_⟩:=Ya hs hi (z:=z) (by rw[hT];exact zzL11.2 rfl);exact⟨c,rfl,hc,h0⟩
theorem oM{f:Ab}(hs:Fn f=true){i:Nat}(hi:i<f.Blocks.length){p:Nat×Nat}(h:KR f i=some p):p.1=i/\Jn f p.1 p.2:=by
 unfold KR at h
 split at h
 ·rename_i hc
  obtain rfl:=OI h;obtain⟨b,hb,hbl,_⟩:=HC hs hi hc.1
  have ht:cD f i 0=(b:Int):=by unfold cD;rw[hb];rfl
  have hp:=hc.2.2;have hne:=hc.2.1;refine⟨rfl,?_⟩
  show Jn f i (cD f i 0).toNat
  rw[ht,Ao]at hp ⊢;rw[ht]at hne;refine⟨hi,hc.1,hb,λe=>hne (by rw[e]),?_⟩;have hm:(i:Int)∈prF f b:=(K5 hs hbl).2 ⟨i,rfl,hi,by unfold EY;rw[hb];exact zzL11.2 rfl⟩
  generalize prF f b=L at hp hm
  match L,hp with
  | [z],_=>rw[zzL11.1 hm]
 ·cases h
theorem SV{f:Ab}(hs:Fn f=true){p:Nat×Nat}(h:Oa f=some p):Jn f p.1 p.2:=by
 unfold Oa at h;obtain⟨i,hi,he⟩:=List.exists_of_findSome?_eq_some h;exact(oM hs (zzL30.1 hi) he).2
theorem bC{f:Ab}(hs:Fn f=true):Hh f=some (match Oa f with|some p=>((true,(⟨(p.1:Int),(p.2:Int),[]⟩:CS)),true)|none=>((false,default),false)):=by
 have h64:=(shape_iff.1 hs).1.2;unfold Hh;rw[qa f (by rw[O6];omega),hs,Ai,Ax];have hP:(Y5 (Bb f),(0:Int)).1.Pred=Ec (Bb f):=rfl;have hlp:(Ec (Bb f)).length=f.Blocks.length:=om f;have key:=iI (X:=Unit ⊕ ((Bool×CS)×Bool)) (List.range f.Blocks.length) (0:Nat) (KR f) (λp=>.inr ((true,(⟨(p.1:Int),(p.2:Int),[]⟩:CS)),true)) (.inl ()) (In f (Y5 (Bb f),(0:Int))) (λi hi hq=>?_) (λi hi p hq=>?_) ?_
 ·rw[key,Ax];unfold Oa
  cases(List.range f.Blocks.length).findSome? (KR f)<;>rfl
 all_goals simp only[Lw]at *
 ·rw[Aa _ _ _ (by rw[Lw];exact hi),List.getElem_range]at hq;unfold In;simp only[Dd hi,Ai,Ad (Ar hi),Ao,hP,w1 (show i<4611686018427387904 by omega)]
  by_cases hk:(bA f i).End.Kind=1
  ·obtain⟨b,hb,hbl,hb0⟩:=HC hs hi hk
   have ht:cD f i 0=(b:Int):=by unfold cD;rw[hb];rfl
   rw[show((f.Blocks.getD i default).End.Kind !=1)=false by show((bA f i).End.Kind !=1)=false;rw[hk];rfl,A8];rw[show(f.Blocks.getD i default).End.To=[(b:Int)] from hb];rw[Ad (show Bl (0:Int) [(b:Int)].length from⟨by omega,by show(0:Int)<((1:Nat):Int);omega⟩)];have e0:[(b:Int)].getD ((0:Int)).toNat 0=(b:Int):=rfl;rw[e0,Ad (λ_=>by rw[hlp];exact Ar hbl),Ao];unfold KR at hq;rw[ht,Ao]at hq
   have hno:¬ ((b:Int)≠(i:Int)/\(prF f b).length=1):=λhh=>by rw[if_pos ⟨hk,hh⟩]at hq;cases hq
   have e1:(bif ((b:Int)!=(i:Int)) then((((Ec (Bb f)).getD b []).length:Int)==(1:Int)) else false)=false:=by
    by_cases hbi:(b:Int)=(i:Int)
    ·rw[show((b:Int)!=(i:Int))=false by simpa using hbi];rfl
    ·rw[show((b:Int)!=(i:Int))=true by simpa using hbi,Ai,zzL28];intro he;exact hno ⟨hbi,by have:(((prF f b).length:Nat):Int)=1:=he;omega⟩
   rw[e1];rfl
  ·rw[show((f.Blocks.getD i default).End.Kind !=1)=true by show((bA f i).End.Kind !=1)=true;simpa using hk];rfl
 ·rw[Aa _ _ _ (by rw[Lw];exact hi),List.getElem_range]at hq;unfold In;simp only[Dd hi,Ai,Ad (Ar hi),Ao,hP];unfold KR at hq
  split at hq
  ·rename_i hc
   obtain rfl:=OI hq;obtain⟨b,hb,hbl,hb0⟩:=HC hs hi hc.1
   have ht:cD f i 0=(b:Int):=by unfold cD;rw[hb];rfl
   have hc2:=hc.2.1;have hc3:=hc.2.2;rw[ht]at hc2 hc3;rw[Ao]at hc3;rw[show((f.Blocks.getD i default).End.Kind !=1)=false by show((bA f i).End.Kind !=1)=false;rw[hc.1];rfl,A8];rw[show(f.Blocks.getD i default).End.To=[(b:Int)] from hb];rw[Ad (show Bl (0:Int) [(b:Int)].length from⟨by omega,by show(0:Int)<((1:Nat):Int);omega⟩)];have e0:[(b:Int)].getD ((0:Int)).toNat 0=(b:Int):=rfl;rw[e0,Ad (λ_=>by rw[hlp];exact Ar hbl),Ao]
   have e1:(bif ((b:Int)!=(i:Int)) then((((Ec (Bb f)).getD b []).length:Int)==(1:Int)) else false)=true:=by
    rw[show((b:Int)!=(i:Int))=true by simpa using hc2,Ai,zzL62]
    have:(((prF f b).length:Nat):Int)=1:=by rw[hc3];rfl
    exact this
   rw[e1,Ai,ht,Ao];rfl
  ·cases hq
 ·unfold In;simp only[Fm,A8]
theorem bn{l:Int}:∀(n:Nat) (f:Ab),AJ f l->Nw f->f.Blocks.length<=n->AJ (T8 n f) l/\Nw (T8 n f)/\Oa (T8 n f)=none/\(T8 n f).Blocks.length<=f.Blocks.length/\sizeN (T8 n f)<=sizeN f
 | 0,f,R,hN,hn=>by
  have:=(shape_iff.1 (A5 R)).1.1;omega
 | n+1,f,R,hN,hn=>by
  unfold T8
  cases h:Oa f with
  | none=>exact⟨R,hN,h,zzL5 _,zzL5 _⟩
  | some p=>
   have J:=SV (A5 R) h;obtain⟨R',hN'⟩:=TB J R hN;have hl:=Kb J;have hsz:=XT J R;have h1:=J.hx;obtain⟨a,b,c,d,e⟩:=bn n (Bk f p.1 p.2) R' hN' (by rw[hl];omega);exact⟨a,b,c,by show(T8 n (Bk f p.1 p.2)).Blocks.length<=_;omega,by show sizeN (T8 n (Bk f p.1 p.2))<=_;omega⟩
theorem UI{l:Int}:∀(n:Nat) (f:Ab),AJ f l->Nw f->f.Blocks.length<=n->Af Kq (f.Params,f.Ret,f.Blocks)=some (T8 n f)
 | 0,f,R,hN,hn=>by
  have:=(shape_iff.1 (A5 R)).1.1;omega
 | n+1,f,R,hN,hn=>by
  have hs:=A5 R;unfold T8
  cases h:Oa f with
  | none=>
   refine Am ?_;unfold Kq
   show(Hh f).bind _=_
   rw[bC hs,h,Ax];rfl
  | some p=>
   have J:=SV hs h;obtain⟨R',hN'⟩:=TB J R hN;have h1:=J.hx
   rw[An (s':=((Bk f p.1 p.2).Params,(Bk f p.1 p.2).Ret,(Bk f p.1 p.2).Blocks)) (by
    unfold Kq
    show(Hh f).bind _=_
    rw[bC hs,h,Ax]
    dsimp only
    rw[Ai,Ai]
    show(Dx f (p.1:Int) (p.2:Int)).bind _=_
    rw[dA J R hN];rfl)]
   exact UI n _ R' hN' (by rw[Kb J];omega)
def QL(f:Ab):Ab:=if Fl f 2=0 then T8 f.Blocks.length f else f
theorem bF{f:Ab}(h:Sm f):H2 f=some (decide (Fl f 2=0)):=by
 unfold H2;rw[kv f 2 h,Ax]
 by_cases e:Fl f 2=0
 ·rw[e];rfl
 ·rw[Gv e,show(Fl f 2==0)=false by rw[zzL28];exact e]
theorem qI{f:Ab}(h:Sm f)(hN:Fl f 2=0->Nw f):Pe f=some (QL f):=by
 unfold Pe QL;rw[bF h,Ax]
 by_cases e:Fl f 2=0
 ·have R:AJ f 2:=(FT (by omega)).1 e;have key:=UI f.Blocks.length f R (hN e) (zzL5 _);have hF:((Hh f).bind λx5=>(bif x5.1.1 then(bif x5.2 then((Dx f x5.1.2.x x5.1.2.y).bind λx7=>(some (.next (x7.1.Params,x7.1.Ret,x7.1.Blocks)))) else(some (.done f))) else(bif x5.2 then((Gb f).bind λx8=>(some (.next (x8.Params,x8.Ret,x8.Blocks)))) else(some (.done f)))):Option (LR (List Int×Int×List Ac) Ab))=Kq (f.Params,f.Ret,f.Blocks):=rfl;rw[if_pos e,Gw e,Hz,A8,hF];rw[<- DV]at key;rw[key];rfl
 ·rw[if_neg e,Gv e];rfl
theorem Ge{α:Type}{p:α->Bool}{l:List α}{a:α}(h:a∈l.filter p):a∈l:=(zzL126.1 h).1
def AS{α:Type}(p:α->Bool)(L:List α)(i:Nat):Nat:=((L.take i).filter p).length
theorem Y3{α:Type}{p:α->Bool}{L:List α}{i:Nat}{d:α}(hi:i<L.length)(hp:p (L.getD i d)=true):AS p L i<(L.filter p).length/\(L.filter p).getD (AS p L i) d=L.getD i d:=by
 rw[Aa _ _ _ hi]at hp ⊢
 have e:L.filter p=(L.take i).filter p++L[i]::(L.drop (i+1)).filter p:=by
  have:=Bi (List.filter p) (List.take_append_drop i L);rw[Vl,JJ hi,List.filter_cons,if_pos hp]at this;exact this.symm
 unfold AS;rw[e];refine⟨by simp,?_⟩;rw[Aa _ _ _ (by simp),List.getElem_append_right (zzL5 _)]
 simp
theorem FL{α:Type}{p:α->Bool}{d:α}:∀{L:List α} {k:Nat},k<(L.filter p).length->∃ i,i<L.length/\p (L.getD i d)=true/\AS p L i=k
 | [],k,h=>by simp at h
 | a::L,k,h=>by
  by_cases ha:p a=true
  ·rw[List.filter_cons,if_pos ha]at h
   cases k with
   | zero=>exact⟨0,by simp,by simpa using ha,rfl⟩
   | succ k=>
    obtain⟨i,h1,h2,h3⟩:=FL (L:=L) (k:=k) (d:=d) (by simpa using h);refine⟨i+1,by simpa using h1,by simpa using h2,?_⟩;unfold AS at h3 ⊢;rw[List.take_succ_cons,List.filter_cons,if_pos ha,Xj,h3]
  ·rw[List.filter_cons,if_neg ha]at h;obtain⟨i,h1,h2,h3⟩:=FL (L:=L) (k:=k) (d:=d) h;refine⟨i+1,by simpa using h1,by simpa using h2,?_⟩;unfold AS at h3 ⊢;rw[List.take_succ_cons,List.filter_cons,if_neg ha,h3]
theorem oI{α:Type}{p:α->Bool}{L:List α}{i j:Nat}{d:α}(hj:j<L.length)(hij:i<j)(hp:p (L.getD i d)=true):AS p L i<AS p L j:=by
 have hi:i<(L.take j).length:=by rw[R4];omega
 have e:(L.take j).getD i d=L.getD i d:=by rw[Aa _ _ _ hi,List.getElem_take,Aa _ _ _ (by omega)]
 have:=(Y3 (L:=L.take j) (p:=p) (d:=d) hi (by rw[e];exact hp)).1;unfold AS at this ⊢;rw[List.take_take,Nat.min_eq_left (by omega)]at this;exact this
def Pz(b:Ac):List Int:=b.Phis.flatMap (·.Args)++b.Ops.flatMap (·.Args)++(if b.End.Kind=0\/b.End.Kind=2 then[b.End.Arg] else[])
def Kd(f:Ab)(v:Int):Bool:=f.Blocks.any λb=>(Pz b).contains v
def AU(kp:A4->Bool)(ko:Bz->Bool)(b:Ac):Ac:=⟨b.Phis.filter kp,b.Ops.filter ko,b.End⟩
def L3(kp:A4->Bool)(ko:Bz->Bool)(f:Ab):Ab:=⟨f.Params,f.Ret,f.Blocks.map (AU kp ko)⟩
structure Ct(f:Ab)(kp:A4->Bool)(ko:Bz->Bool):Prop where
 phi:∀ b∈f.Blocks,∀ p∈b.Phis,Kd f p.Dst=true->kp p=true
 op:∀ b∈f.Blocks,∀ o∈b.Ops,Kd f o.Dst=true->ko o=true
section
variable {f:Ab} {kp:A4->Bool} {ko:Bz->Bool} {l:Int}
theorem M6:(L3 kp ko f).Blocks.length=f.Blocks.length:=B9 ..
theorem Yx{i:Nat}(hi:i<f.Blocks.length):bA (L3 kp ko f) i=AU kp ko (bA f i):=by
 show(f.Blocks.map (AU kp ko)).getD i default=_
 exact Ze hi
theorem PD(i:Nat):(bA (L3 kp ko f) i).End=(bA f i).End:=by
 by_cases hi:i<f.Blocks.length
 ·rw[Yx hi];rfl
 ·have e1:bA (L3 kp ko f) i=default:=by
   show(f.Blocks.map (AU kp ko)).getD i default=_
   rw[R3,JL (by rw[B9];omega)];rfl
  have e2:bA f i=default:=by
   show f.Blocks.getD i default=_
   rw[R3,JL (by omega)];rfl
  rw[e1,e2]
theorem PE:Bb (L3 kp ko f)=Bb f:=by
 unfold Bb;rw[M6];refine Tq λi _=>?_
 show W9 (bA (L3 kp ko f) i).End.To=W9 (bA f i).End.To
 rw[PD]
theorem lF:B1 (L3 kp ko f)=B1 f:=by unfold B1;rw[PE]
theorem qQ(i:Nat):prF (L3 kp ko f) i=prF f i:=by unfold prF;rw[PE]
theorem ct_shapeB:Fn (L3 kp ko f)=Fn f:=by
 rw[Vh,shape_iff,shape_iff,M6];have e:∀ i,Md (L3 kp ko f) i=Md f i:=λi=>PD i;simp only[e]
theorem bK:sizeN (L3 kp ko f)<=sizeN f:=by
 rw[H5,H5,M6];refine b8 λi hi=>?_;rw[Yx hi];unfold AU Dt;have h1:=List.length_filter_le kp (bA f i).Phis;have h2:=List.length_filter_le ko (bA f i).Ops
 show(List.filter kp (bA f i).Phis).length+(List.filter ko (bA f i).Ops).length+1<=_
 omega
theorem XI{b:Ac}(hb:b∈(L3 kp ko f).Blocks):∃ c∈f.Blocks,b=AU kp ko c:=by
 obtain⟨c,hc,rfl⟩:=zzL14.1 hb;exact⟨c,hc,rfl⟩
theorem bL{i:Nat}(hi:i<f.Blocks.length):(FV (bA (L3 kp ko f) i)).Sublist (FV (bA f i)):=by
 rw[Yx hi];unfold FV;refine List.Sublist.append ?_ ?_
 ·exact(List.filter_sublist).map _
 ·unfold KO;exact((List.filter_sublist (l:=(bA f i).Ops) (p:=ko)).filter _).map _
section
variable (R:AJ f l)
include R
theorem jL{w:M1}(hw:w∈Du f):Kd f w.V=true:=by
 obtain⟨i,hi,h⟩:=(E7 (E6 R)).1 hw;unfold Kd;rw[List.any_eq_true];refine⟨bA f i,Ag hi,?_⟩;rw[Zy];unfold Pz;rcases h with⟨k,j,hk,hj,e⟩|⟨k,j,hk,hj,e⟩|⟨hK,e⟩|⟨hK,e⟩<;>rw[e]
 ·exact zzL9.2 (.inl (zzL9.2 (.inl (zzL42.2 ⟨_,Ag (d:=default) hk,Ag (d:=0) hj⟩))))
 ·exact zzL9.2 (.inl (zzL9.2 (.inr (zzL42.2 ⟨_,Ag (d:=default) hk,Ag (d:=0) hj⟩))))
 ·exact zzL9.2 (.inr (by rw[if_pos (.inl hK)];exact zzL11.2 rfl))
 ·exact zzL9.2 (.inr (by rw[if_pos (.inr hK)];exact zzL11.2 rfl))
theorem ga(hsz:sizeN f<=512):Rj (L3 kp ko f)=true:=by
 obtain⟨⟨m1,m2⟩,m3,m4,m5,m6,m7⟩:=mayF_iff.1 R.may;refine mayF_iff.2 ⟨by rw[M6];exact⟨m1,m2⟩,m3,m4,m5,?_,λb hb=>?_⟩
 ·have:=bK (f:=f) (kp:=kp) (ko:=ko);unfold sizeW;rw[Qo (by omega)];omega
 ·obtain⟨c,hc,rfl⟩:=XI hb;obtain⟨h1,h2,h3⟩:=blockB_iff.1 (m7 c hc);exact blockB_iff.2 ⟨λp hp=>h1 p (Ge hp),λo ho=>h2 o (Ge ho),h3⟩
theorem gb:Ll (L3 kp ko f) l=true:=by
 have h:=R.typed;simp only[Ll,F0,Az,zzL23]at h ⊢;obtain⟨⟨t1,t2⟩,t3⟩:=h;refine⟨⟨t1,λb hb=>?_⟩,t3⟩;obtain⟨c,hc,rfl⟩:=XI hb;exact⟨λp hp=>(t2 c hc).1 p (Ge hp),λo ho=>(t2 c hc).2 o (Ge ho)⟩
theorem dE:Ex (L3 kp ko f)=true:=by
 have hs:=A5 R;refine Vc (by rw[ct_shapeB];exact hs) λb hb=>?_;rw[M6]at hb;obtain⟨r1,r2⟩:=Rs R hb;refine⟨by rw[PE];exact r1,by rw[PD];exact r2,λp hp=>?_⟩;rw[Yx hb]at hp;obtain⟨q1,q2⟩:=Qj R hb (Ge hp);exact⟨by rw[qQ];exact q1,q2⟩
variable (C:Ct f kp ko)
include C
theorem oJ{d:G1}(hd:d∈A7 f)(hu:Kd f d.V=true):∃ e∈A7 (L3 kp ko f),e.V=d.V/\e.Shape=d.Shape/\e.Block=d.Block /\
  (d.Block<0\/(∃ i,i<f.Blocks.length/\d.Block=(i:Int)/\((d.At = -1/\e.At = -1)\/∃ k,k<(bA f i).Ops.length/\d.At=(k:Int)/\ko ((bA f i).Ops.getD k default)=true/\e.At=((AS ko (bA f i).Ops k:Nat):Int)))):=by
 rcases ri_def.1 hd with⟨j,hj,e⟩|⟨i,hi,⟨k,hk,e⟩|⟨k,hk,hg,e⟩⟩
 ·exact⟨d,ri_def.2 (.inl ⟨j,hj,e⟩),rfl,rfl,rfl,.inl (by rw[e];show(-1:Int)<0;omega)⟩
 ·have hp:=Ag (d:=(default:A4)) hk;have hkp:kp ((bA f i).Phis.getD k default)=true:=C.phi _ (Ag (d:=default) hi) _ hp (by rw[e]at hu;exact hu);obtain⟨h1,h2⟩:=Y3 hk hkp;have hat:=Yx (kp:=kp) (ko:=ko) hi
  have hP:(bA (L3 kp ko f) i).Phis=(bA f i).Phis.filter kp:=by rw[hat];rfl
  refine⟨_,ri_def.2 (.inr ⟨i,by rw[M6];exact hi,.inl ⟨AS kp (bA f i).Phis k,by rw[hP];exact h1,rfl⟩⟩),?_,?_,?_,.inr ⟨i,hi,by rw[e],.inl ⟨by rw[e],rfl⟩⟩⟩
  ·rw[hP,h2,e]
  ·rw[hP,h2,e]
  ·rw[e]
 ·have ho:=Ag (d:=(default:Bz)) hk;have hko:ko ((bA f i).Ops.getD k default)=true:=C.op _ (Ag (d:=default) hi) _ ho (by rw[e]at hu;exact hu);obtain⟨h1,h2⟩:=Y3 hk hko;have hat:=Yx (kp:=kp) (ko:=ko) hi
  have hO:(bA (L3 kp ko f) i).Ops=(bA f i).Ops.filter ko:=by rw[hat];rfl
  refine⟨_,ri_def.2 (.inr ⟨i,by rw[M6];exact hi,.inr ⟨AS ko (bA f i).Ops k,by rw[hO];exact h1,by rw[hO,h2];exact hg,rfl⟩⟩),?_,?_,?_,.inr ⟨i,hi,by rw[e],.inr ⟨k,hk,by rw[e],hko,rfl⟩⟩⟩
  ·rw[hO,h2,e]
  ·rw[hO,h2,e]
  ·rw[e]
theorem dF(hsz:sizeN f<=512)(hok:OkF (L3 kp ko f)):AJ (L3 kp ko f) l:=by
 have hgt:=gb (kp:=kp) (ko:=ko) R
 have hgm:∀ b∈(L3 kp ko f).Blocks,∀ o∈b.Ops,Fp o=true:=λb hb o ho=>by
  simp only[Ll,F0,Az,zzL23]at hgt;exact Wi ((hgt.1.2 b hb).2 o ho)
 obtain⟨N1,N2,N3⟩:=(nodup_split f).1 (Sh (Wf R).1)
 have hcap:∀{d:G1},d∈A7 (L3 kp ko f)->d.At<1000:=λ{d} hd=>by
  rcases defs_in hok d hd with h3|⟨_,_,h3⟩
  ·rcases ri_def.1 hd with⟨i,_,e⟩|⟨i,_,⟨k,_,e⟩|⟨k,_,_,e⟩⟩
   ·rw[e];show(0:Int)<1000;omega
   ·rw[e]at h3;have:(i:Int) = -1:=h3;omega
   ·rw[e]at h3;have:(i:Int) = -1:=h3;omega
  ·exact h3
 have key:∀{w:M1} {i:Nat} {a:Int},w∈Du f->i<f.Blocks.length->w.Block=(i:Int)->(w.At=1000/\a=1000\/∃ k,k<(bA f i).Ops.length/\w.At=(k:Int)/\a=((AS ko (bA f i).Ops k:Nat):Int))->
   ∃ d∈A7 (L3 kp ko f),d.V=w.V/\d.Shape=w.Shape/\WQ (L3 kp ko f) d (i:Int) a:=λ{w i a} hw hi hb ha=>by
  obtain⟨d,hd,hv,hsh,ht⟩:=CA R hw;obtain⟨e,he,e1,e2,e3,e4⟩:=oJ R C hd (by rw[hv];exact jL R hw);refine⟨e,he,by rw[e1,hv],by rw[e2,hsh],?_⟩;rw[hb]at ht;rcases ht with h|⟨h1,h2⟩|⟨h1,h2⟩
  ·exact .inl (by rw[e3];exact h)
  ·refine .inr (.inl ⟨by rw[e3];exact h1,?_⟩);rcases ha with⟨_,rfl⟩|⟨k,hk,hwk,rfl⟩
   ·exact hcap he
   ·rcases e4 with h4|⟨j,hj,hjb,⟨hq1,hq2⟩|⟨q,hq,hq1,hq2,hq3⟩⟩
    ·omega
    ·rw[hq2];omega
    ·have:j=i:=by omega
     subst this;rw[hq3];have:=oI (p:=ko) (d:=(default:Bz)) hk (show q<k by omega) hq2;omega
  ·refine .inr (.inr ⟨by rw[e3];exact h1,?_⟩);rw[e3,lF];exact h2
 refine⟨ga R hsz,dE R,hgt,X4 ((nodup_split _).2 ⟨λk hk=>?_,λk m hk hm hne v hv hw=>?_,λi hi k hk hv=>?_⟩) (λd hd=>?_) (λu hu=>?_)⟩
 ·rw[M6]at hk;exact(N1 k hk).sublist (bL hk)
 ·rw[M6]at hk hm;exact N2 k m hk hm hne v ((bL hk).subset hv) ((bL hm).subset hw)
 ·rw[M6]at hk;exact N3 i hi k hk ((bL hk).subset hv)
 ·rcases ri_def.1 hd with⟨i,hi,e⟩|⟨k,hk,⟨j,hj,e⟩|⟨j,hj,hg,e⟩⟩
  ·rw[e];exact S5 R (d:=⟨(i:Int)+1,-1,0,(f.Params.getD i 0,1)⟩) (ri_def.2 (.inl ⟨i,hi,rfl⟩))
  ·rw[M6]at hk;rw[e];have hm:=Ag (d:=(default:A4)) hj;rw[Yx hk]at hm;obtain⟨q,hq,eq⟩:=E1 (Ge hm);have:=S5 R (d:=⟨((bA f k).Phis.getD q default).Dst,k,-1,(((bA f k).Phis.getD q default).Bits,1)⟩) (ri_def.2 (.inr ⟨k,hk,.inl ⟨q,hq,rfl⟩⟩));rw[Aa _ _ _ hq,eq]at this;rw[Yx hk];exact this
  ·rw[e];exact AY (hgm _ (Ag (d:=default) hk) _ (Ag (d:=default) hj)) hg
 ·obtain⟨k,hk,hcase⟩:=(E7 hgm).1 hu;rw[M6]at hk;have hs:=A5 R;rw[PD,Yx hk]at hcase;rcases hcase with⟨q,j,hq,hj,e⟩|⟨q,j,hq,hj,e⟩|⟨hK,e⟩|⟨hK,e⟩
  ·obtain⟨i,hi,hp,hc⟩:=FL (d:=(default:A4)) hq;have h2:=(Y3 hi hp).2;rw[hc]at h2;have h2':(AU kp ko (bA f k)).Phis.getD q default=(bA f k).Phis.getD i default:=h2;rw[h2']at e hj;have hw:=(E7 (E6 R) (f:=f)).2 ⟨k,hk,.inl ⟨i,j,hi,hj,rfl⟩⟩;obtain⟨q1,q2⟩:=Qj R hk (Ag (d:=(default:A4)) hi);obtain⟨c,ec,hc,_⟩:=(K5 hs hk).1 (show((bA f k).Phis.getD i default).From.getD j 0∈prF f k by rw[<- q1];exact Ag (by omega));obtain⟨d,m1,m2,m3,m4⟩:=key hw hc ec (.inl ⟨rfl,rfl⟩);rw[e];exact⟨d,m1,m2,m3,by show WQ _ d (((bA f k).Phis.getD i default).From.getD j 0) 1000;rw[ec];exact m4⟩
  ·obtain⟨i,hi,hp,hc⟩:=FL (d:=(default:Bz)) hq;have h2:=(Y3 hi hp).2;rw[hc]at h2;have h2':(AU kp ko (bA f k)).Ops.getD q default=(bA f k).Ops.getD i default:=h2;rw[h2']at e hj;have hw:=(E7 (E6 R) (f:=f)).2 ⟨k,hk,.inr (.inl ⟨i,j,hi,hj,rfl⟩)⟩;obtain⟨d,m1,m2,m3,m4⟩:=key hw hk rfl (.inr ⟨i,hi,rfl,rfl⟩);rw[e];exact⟨d,m1,m2,m3,by rw[hc]at m4;exact m4⟩
  ·have hw:=(E7 (E6 R) (f:=f)).2 ⟨k,hk,.inr (.inr (.inl ⟨hK,rfl⟩))⟩;obtain⟨d,m1,m2,m3,m4⟩:=key hw hk rfl (.inl ⟨rfl,rfl⟩);rw[e];exact⟨d,m1,m2,m3,m4⟩
  ·have hw:=(E7 (E6 R) (f:=f)).2 ⟨k,hk,.inr (.inr (.inr ⟨hK,rfl⟩))⟩;obtain⟨d,m1,m2,m3,m4⟩:=key hw hk rfl (.inl ⟨rfl,rfl⟩);rw[e];exact⟨d,m1,m2,m3,m4⟩
end
theorem qP(hN:Nw f):Nw (L3 kp ko f):=by
 have hsz:=bK (f:=f) (kp:=kp) (ko:=ko);refine⟨⟨hN.inf.params,by rw[M6];exact hN.inf.blocks,λb hb=>?_,λb hb p hp=>?_,λb hb o ho=>?_⟩,hN.params,λb hb=>?_,λb hb p hp=>?_,λb hb o ho=>?_,by have:=hN.size;omega⟩<;>obtain⟨c,hc,rfl⟩:=XI hb
 ·obtain⟨h1,h2,h3⟩:=hN.inf.block c hc;exact⟨Mx (List.length_filter_le ..) h1,Mx (List.length_filter_le ..) h2,h3⟩
 ·exact hN.inf.phi c hc p (Ge hp)
 ·exact hN.inf.op c hc o (Ge ho)
 ·exact hN.to c hc
 ·exact hN.phi c hc p (Ge hp)
 ·exact hN.op c hc o (Ge ho)
theorem lG(R:AJ f l)(C:Ct f kp ko)(hN:Nw f):AJ (L3 kp ko f) l/\Nw (L3 kp ko f):=
 have hn:=qP (kp:=kp) (ko:=ko) hN
 ⟨dF R C hN.size (jA (bh hn) (ga R hN.size)),hn⟩
end
def Oj(u:Int->Bool)(p:A4):Bool:=u p.Dst
def M2(u:Int->Bool)(o:Bz):Bool:=!bt o.Kind || u o.Dst
def Ra(f:Ab):Ab:=L3 (Oj (Kd f)) (M2 (Kd f)) f
theorem lH(f:Ab):Ct f (Oj (Kd f)) (M2 (Kd f)):=⟨λ_ _ _ _ h=>h,λ_ _ _ _ h=>by unfold M2;rw[h,Bool.or_true]⟩
def LZ:Nat->Ab->Ab
 | 0,f=>f
 | n+1,f=>if sizeN (Ra f)<sizeN f then LZ n (Ra f) else f
theorem dm(n v:Nat):(List.replicate n false).getD v false=false:=by
 rw[R3]
 by_cases h:v<n
 ·rw[M4 (by rw[N7];exact h),List.getElem_replicate];rfl
 ·rw[JL (by rw[N7];omega)];rfl
def W4(L:List Int)(M:List Bool):List Bool:=L.foldl (λM a=>M.set a.toNat true) M
theorem Qe:∀(L:List Int) (M:List Bool),(W4 L M).length=M.length
 | [],M=>rfl
 | a::L,M=>by unfold W4;rw[AB];exact(Qe L _).trans (D8 ..)
theorem PU(L K:List Int)(M:List Bool):W4 (L++K) M=W4 K (W4 L M):=by unfold W4;rw[List.foldl_append]
theorem HP{α:Type}(F:α->List Int):∀(l:List α) (M:List Bool),W4 (l.flatMap F) M=l.foldl (λs x=>W4 (F x) s) M
 | [],M=>rfl
 | a::l,M=>by rw[Yc,PU,AB,HP F l]
theorem bf:∀(L:List Int) (M:List Bool) {v:Nat},v<M.length->(W4 L M).getD v false=(M.getD v false || L.any λa=>a.toNat==v)
 | [],M,v,h=>by simp[W4]
 | a::L,M,v,h=>by
  have e:W4 (a::L) M=W4 L (M.set a.toNat true):=rfl;rw[e,bf L _ (by rw[D8];exact h),List.any_cons]
  by_cases ha:a.toNat=v
  ·subst ha;rw[show(M.set a.toNat true).getD a.toNat false=true by rw[R3,List.getElem?_set_self h];rfl]
   simp
  ·rw[show(M.set a.toNat true).getD v false=M.getD v false by simp only[R3];rw[List.getElem?_set_ne ha]];rw[show(a.toNat==v)=false by simpa using ha,Bool.false_or]
theorem GH{L:List Int}{M:List Bool}(hl:L.length<4611686018427387904)(h:∀ a∈L,0<=a/\a<1024)(hM:M.length=1024):Gm L M=some (W4 L M):=by
 unfold Gm
 have key:=Wc L (0:Int) (λi (s:List Bool)=>((i:Int),s)) (λ_ s=>s.length=1024) (λs a=>s.set a.toNat true) id (Hj L) (λi s hi hP=>by
  obtain⟨h0,h1⟩:=h _ (Ag (d:=(0:Int)) hi);unfold Hj;simp only[Dd hi,Ai,Ad (Ar hi),Ao,w1 (show i<4611686018427387904 by omega)];rw[Ad (show Bl (L.getD i 0) s.length from⟨h0,by omega⟩)]
  exact⟨rfl,by rw[D8];exact hP⟩) (λs _=>by unfold Hj;simp only[Fm,A8];rfl) M hM
 have k1:Af (Hj L) ((0:Int),M)=_:=key.1;rw[k1];rfl
section
variable {f:Ab} {l:Int} (R:AJ f l)
include R
theorem kj{i:Nat}(hi:i<f.Blocks.length){a:Int}(ha:a∈Pz (bA f i)):∃ w∈Du f,w.V=a:=by
 unfold Pz at ha;rcases zzL9.1 ha with h|h
 ·rcases zzL9.1 h with h|h
  ·obtain⟨p,hp,h⟩:=zzL42.1 h;obtain⟨k,hk,rfl⟩:=E1 hp;obtain⟨j,hj,rfl⟩:=E1 h;refine⟨_,(E7 (E6 R)).2 ⟨i,hi,.inl ⟨k,j,hk,by rw[Aa _ _ _ hk];exact hj,rfl⟩⟩,?_⟩
   show((bA f i).Phis.getD k default).Args.getD j 0=_
   rw[Aa _ _ _ hk,Aa _ _ _ hj]
  ·obtain⟨p,hp,h⟩:=zzL42.1 h;obtain⟨k,hk,rfl⟩:=E1 hp;obtain⟨j,hj,rfl⟩:=E1 h;refine⟨_,(E7 (E6 R)).2 ⟨i,hi,.inr (.inl ⟨k,j,hk,by rw[Aa _ _ _ hk];exact hj,rfl⟩)⟩,?_⟩
   show((bA f i).Ops.getD k default).Args.getD j 0=_
   rw[Aa _ _ _ hk,Aa _ _ _ hj]
 ·split at h
  ·rename_i hK
   rw[zzL11.1 h];rcases hK with hK|hK
   ·exact⟨_,(E7 (E6 R)).2 ⟨i,hi,.inr (.inr (.inl ⟨hK,rfl⟩))⟩,rfl⟩
   ·exact⟨_,(E7 (E6 R)).2 ⟨i,hi,.inr (.inr (.inr ⟨hK,rfl⟩))⟩,rfl⟩
  ·cases h
theorem au{i:Nat}(hi:i<f.Blocks.length){a:Int}(ha:a∈Pz (bA f i)):1<=a/\a<=1023:=by
 obtain⟨w,hw,rfl⟩:=kj R hi ha;obtain⟨d,hd,e,_⟩:=CA R hw;have:=S5 R hd;rw[e]at this;unfold Iy at this
 simpa using this
def KW(f:Ab):List Bool:=f.Blocks.foldl (λs b=>W4 (Pz b) s) (List.replicate 1024 false)
theorem bD(hN:Nw f):Hi f=some (KW f)/\(KW f).length=1024:=by
 have hroom:(1000001:Nat)<=room:=by decide
 have h64:=(shape_iff.1 (A5 R)).1.2
 have hsz:∀ c,c<f.Blocks.length->Dt (bA f c)<=512:=λc hc=>by
  have:=Rx (F:=λb=>Dt (bA f b)) hc;rw[<- H5]at this;have:=hN.size;omega
 unfold Hi
 have key:=Wc f.Blocks (default:Ac) (λi (s:List Bool)=>((i:Int),s)) (λ_ s=>s.length=1024) (λs b=>W4 (Pz b) s) id (Iq f) (λi s hi hP=>by
  have hav:=λa ha=>au R hi (a:=a) ha;have hz:=hsz i hi;unfold Dt at hz
  have hph:∀ p∈(bA f i).Phis,(∀ a∈p.Args,0<=a/\a<1024)/\p.Args.length<4611686018427387904:=λp hp=>⟨λa ha=>by
   have:=hav a (zzL9.2 (.inl (zzL9.2 (.inl (zzL42.2 ⟨p,hp,ha⟩)))))
   omega,by have:=hN.phi _ (Ag (d:=default) hi) p hp;omega⟩
  have hop:∀ p∈(bA f i).Ops,(∀ a∈p.Args,0<=a/\a<1024)/\p.Args.length<4611686018427387904:=λp hp=>⟨λa ha=>by
   have:=hav a (zzL9.2 (.inl (zzL9.2 (.inr (zzL42.2 ⟨p,hp,ha⟩)))))
   omega,by have:=hN.op _ (Ag (d:=default) hi) p hp;omega⟩
  have k1:=Wc (bA f i).Phis (default:A4) (λi (s:List Bool)=>((i:Int),s)) (λ_ s=>s.length=1024) (λs p=>W4 p.Args s) id (Io f (i:Int)) (λk s hk hP=>by
   obtain⟨q1,q2⟩:=hph _ (Ag (d:=(default:A4)) hk);unfold Io;simp only[Ao];rw[Dd hk,Ai,Ad (Ar hk),GH q2 q1 hP,Ax,Ad (Qe _ _).symm,w1 (show k<4611686018427387904 by omega)]
   exact⟨rfl,by rw[Qe];exact hP⟩) (λs _=>by unfold Io;simp only[Ao];rw[Fm];rfl) s hP
  have k1':Af (Io f (i:Int)) ((0:Int),s)=some ((bA f i).Phis.foldl (λs p=>W4 p.Args s) s):=k1.1
  have k2:=Wc (bA f i).Ops (default:Bz) (λi (s:List Bool)=>((i:Int),s)) (λ_ s=>s.length=1024) (λs p=>W4 p.Args s) id (Ip f (i:Int)) (λk s hk hP=>by
   obtain⟨q1,q2⟩:=hop _ (Ag (d:=(default:Bz)) hk);unfold Ip;simp only[Ao];rw[Dd hk,Ai,Ad (Ar hk),GH q2 q1 hP,Ax,Ad (Qe _ _).symm,w1 (show k<4611686018427387904 by omega)]
   exact⟨rfl,by rw[Qe];exact hP⟩) (λs _=>by unfold Ip;simp only[Ao];rw[Fm];rfl) ((bA f i).Phis.foldl (λs p=>W4 p.Args s) s) k1.2
  have k2':Af (Ip f (i:Int)) ((0:Int),(bA f i).Phis.foldl (λs p=>W4 p.Args s) s)=some ((bA f i).Ops.foldl (λs p=>W4 p.Args s) ((bA f i).Phis.foldl (λs p=>W4 p.Args s) s)):=k2.1;have k3:=k2.2
  have hfin:W4 (Pz (bA f i)) s=W4 (if(bA f i).End.Kind=0\/(bA f i).End.Kind=2 then[(bA f i).End.Arg] else[]) ((bA f i).Ops.foldl (λs p=>W4 p.Args s) ((bA f i).Phis.foldl (λs p=>W4 p.Args s) s)):=by
   unfold Pz;rw[PU,PU,HP,HP]
  unfold Iq;simp only[Dd hi,Ai,Ad (Ar hi),Ao,w1 (show i<4611686018427387904 by omega)];rw[k1',Ax,k2',Ax]
  generalize hY:(bA f i).Ops.foldl (λs p=>W4 p.Args s) ((bA f i).Phis.foldl (λs p=>W4 p.Args s) s)=Y at *
  have hYl:Y.length=1024:=k3;have hg:W4 (Pz (f.Blocks.getD i default)) s=W4 (if(bA f i).End.Kind=0\/(bA f i).End.Kind=2 then[(bA f i).End.Arg] else[]) Y:=hfin;rw[hg]
  by_cases hK:(bA f i).End.Kind=0\/(bA f i).End.Kind=2
  ·have hb:(bif ((f.Blocks.getD i default).End.Kind==0) then true else((f.Blocks.getD i default).End.Kind==2))=true:=by
    rcases hK with h|h
    ·rw[show((f.Blocks.getD i default).End.Kind==0)=true from zzL62.2 h];rfl
    ·rw[show((f.Blocks.getD i default).End.Kind==2)=true from zzL62.2 h];cases((f.Blocks.getD i default).End.Kind==0)<;>rfl
   have ha:=hav (bA f i).End.Arg (zzL9.2 (.inr (by rw[if_pos hK];exact zzL11.2 rfl)));have hc1:=GH (L:=[(bA f i).End.Arg]) (M:=Y) (by show(1:Nat)<_;omega) (λa h=>by rw[zzL11.1 h];omega) hYl;have hc1':Gm [(f.Blocks.getD i default).End.Arg] Y=some (W4 [(bA f i).End.Arg] Y):=hc1;rw[hb,Ai,hc1',Ax,Ad (Qe _ _).symm,if_pos hK];exact⟨rfl,by rw[Qe];exact hYl⟩
  ·have hb:(bif ((f.Blocks.getD i default).End.Kind==0) then true else((f.Blocks.getD i default).End.Kind==2))=false:=by
    rw[show((f.Blocks.getD i default).End.Kind==0)=false from zzL28.2 (λh=>hK (.inl h)),A8];exact zzL28.2 (λh=>hK (.inr h))
   rw[hb,A8,if_neg hK]
   exact⟨rfl,hYl⟩) (λs _=>by unfold Iq;simp only[Fm,A8];rfl) (List.replicate 1024 false) (by simp)
 have k0:Af (Iq f) ((0:Int),List.replicate ((1024:Int)).toNat false)=_:=key.1;rw[Ad ⟨by omega,by omega,by omega⟩,k0,Ax];exact⟨rfl,key.2⟩
theorem TS{v:Int}(h0:0<=v)(h1:v<1024):(KW f).getD v.toNat false=Kd f v:=by
 have key:∀(L:List Ac) (M:List Bool),v.toNat<M.length->(∀ b∈L,∀ a∈Pz b,0<=a)->(L.foldl (λs b=>W4 (Pz b) s) M).getD v.toNat false=(M.getD v.toNat false || L.any λb=>(Pz b).contains v):=by
  intro L
  induction L with
  | nil=>intro M h _;simp
  | cons b L ih=>
   intro M h hb;rw[AB,ih _ (by rw[Qe];exact h) (λc hc=>hb c (by simp[hc])),bf _ _ h,List.any_cons,Bool.or_assoc]
   congr 2
   rw[Vh,List.any_eq_true,Zy]
   constructor
   ·rintro⟨a,ha,he⟩;have:=hb b (by simp) a ha
    have he:a.toNat=v.toNat:=by simpa using he
    rw[show v=a by omega];exact ha
   ·intro h;exact⟨v,h,by simp⟩
 unfold KW Kd
 rw[key f.Blocks _ (by rw[N7];omega) (λb hb a ha=>by
  obtain⟨i,hi,rfl⟩:=E1 hb;have:=au R hi (a:=a) (by rw[show bA f i=f.Blocks[i] from Aa _ _ _ hi];exact ha)
  omega)]
 rw[dm,Bool.false_or]
end
theorem idx_loop{α:Type}{s:List α}{d:α}{keep:α->Bool}{F:Int->Option (LR Int (Unit ⊕ Int))}(hn:∀ i,i<s.length->F (i:Int)=some (bif keep (s.getD i d) then .next (((i+1:Nat):Int)) else .done (.inr (i:Int))))
  (he:F (s.length:Int)=some (.done (.inl ()))):(∃ i,i<s.length/\Af F (0:Int)=some (.inr (i:Int))/\keep (s.getD i d)=false/\∀ j,j<i->keep (s.getD j d)=true)\/(Af F (0:Int)=some (.inl ())/\∀ j,j<s.length->keep (s.getD j d)=true):=by
 have key:∀ k i:Nat,i+k=s.length->(∀ j,j<i->keep (s.getD j d)=true)->(∃ m,m<s.length/\Af F (i:Int)=some (.inr (m:Int))/\keep (s.getD m d)=false/\∀ j,j<m->keep (s.getD j d)=true)\/(Af F (i:Int)=some (.inl ())/\∀ j,j<s.length->keep (s.getD j d)=true):=by
  intro k
  induction k with
  | zero=>
   intro i h hj
   obtain rfl:i=s.length:=by omega
   exact .inr ⟨Am he,hj⟩
  | succ k ih=>
   intro i h hj
   have hi:i<s.length:=by omega
   have h1:=hn i hi
   cases hk:keep (s.getD i d) with
   | true=>
    rw[hk,Ai]at h1;rw[An h1]
    exact ih (i+1) (by omega) λj hji=>by
     by_cases e:j=i
     ·rw[e];exact hk
     ·exact hj j (by omega)
   | false=>
    rw[hk,A8]at h1;exact .inl ⟨i,hi,Am h1,hk,hj⟩
 exact key s.length 0 (by omega) (λj h=>by omega)
theorem Yz{α:Type}{s:List α}{d:α}{keep:α->Bool}{F:Int×Int×List α->Option (LR (Int×Int×List α) (Int×List α))}
  (hn:∀(a i:Nat) (l:List α),i<l.length->a<=i->l.length=s.length->l.getD i d∈s->F ((a:Int),(i:Int),l)=some (.next (bif keep (l.getD i d) then((((a+1:Nat):Int)),(((i+1:Nat):Int)),l.set a (l.getD i d)) else((a:Int),(((i+1:Nat):Int)),l))))
  (he:∀(a:Nat) (l:List α),F ((a:Int),(l.length:Int),l)=some (.done ((a:Int),l))):∀(k a i:Nat) (l:List α),i+k=s.length->a<=i->l.length=s.length->l.drop i=s.drop i->l.take a=(s.take i).filter keep->
   ∃(a':Nat) (l':List α),Af F ((a:Int),(i:Int),l)=some ((a':Int),l')/\l'.length=s.length/\a'<=s.length/\l'.take a'=s.filter keep
 | 0,a,i,l,h,ha,hl,hd,ht=>by
  obtain rfl:i=l.length:=by omega
  refine⟨a,l,Am (he a l),hl,by omega,?_⟩;rw[ht,hl,Vo]
 | k+1,a,i,l,h,ha,hl,hd,ht=>by
  have hi:i<l.length:=by omega
  have his:i<s.length:=by omega
  have e1:l.getD i d=s.getD i d:=by
   have h1:(l.drop i)[0]?=(s.drop i)[0]?:=by rw[hd]
   rw[Zz,Zz,Jc]at h1;simp only[R3,h1]
  have hm:l.getD i d∈s:=by rw[e1];exact Ag his
  have h1:=hn a i l hi ha hl hm
  have hst:(s.take (i+1)).filter keep=(s.take i).filter keep++(if keep (l.getD i d)=true then[l.getD i d] else[]):=by
   rw[List.take_add_one,M4 his,Vl,e1,Aa _ _ _ his]
   congr 1
   by_cases hk:keep s[i]=true<;>simp[hk]
  have hdd:∀ m:List α,m.drop i=l.drop i->m.drop (i+1)=s.drop (i+1):=λm hm=>by
   have:=Bi (List.drop 1) (hm.trans hd);rwa[List.drop_drop,List.drop_drop]at this
  cases hk:keep (l.getD i d) with
  | true=>
   rw[hk,Ai]at h1;rw[An h1];refine Yz hn he k (a+1) (i+1) _ (by omega) (by omega) (by rw[D8];exact hl) ?_ ?_
   ·have:=hdd l rfl;rw[<- this]
    apply List.ext_getElem?
    intro n;rw[Zz,Zz,List.getElem?_set_ne (by omega)]
   ·rw[hst,hk,if_pos rfl,<- ht,List.take_add_one,List.take_set_of_le (zzL5 _),List.getElem?_set_self (by omega)]
    rfl
  | false=>
   rw[hk,A8]at h1;rw[An h1];refine Yz hn he k a (i+1) l (by omega) (by omega) hl (hdd l rfl) ?_;rw[hst,hk,if_neg (by simp),List.append_nil];exact ht
theorem SL{α:Type}(l:List α)(a k:Nat)(g:Nat->α):(FG l a k g).take a=l.take a:=by
 apply List.ext_getElem?
 intro n;rw[JN,JN]
 split
 ·rename_i h
  unfold FG;rw[List.getElem?_mapIdx]
  cases l[n]? with
  | none=>rfl
  | some x=>simp;omega
 ·rfl
theorem ky{p:A4}{M:List Bool}{u:Int->Bool}(hM:M.length=1024)(h:0<=p.Dst/\p.Dst<1024)(hu:M.getD p.Dst.toNat false=u p.Dst):Gj p M=some (!Oj u p):=by
 unfold Gj Oj;rw[Ad (show Bl p.Dst M.length from⟨h.1,by omega⟩),hu]
theorem kz{p:Bz}{M:List Bool}{u:Int->Bool}(hM:M.length=1024)(h:0<=p.Dst/\p.Dst<1024)(hu:M.getD p.Dst.toNat false=u p.Dst):Gk p M=some (!M2 u p):=by
 unfold Gk M2;rw[dM,Ax,Ad (λ_=>(show Bl p.Dst M.length from⟨h.1,by omega⟩)),hu]
 cases bt p.Kind<;>cases u p.Dst<;>rfl
theorem n6{s:List A4}{M:List Bool}{u:Int->Bool}(hs:s.length<=1000000)(hM:M.length=1024)(h:∀ p∈s,(0<=p.Dst/\p.Dst<1024)/\M.getD p.Dst.toNat false=u p.Dst) :
  ∃ k L,Cm s M=some (k,L)/\L.length=s.length/\k<=s.length/\L.take k=s.filter (Oj u):=by
 have hck:∀ p∈s,Gj p M=some (!Oj u p):=λp hp=>ky hM (h p hp).1 (h p hp).2;unfold Cm Eb
 rcases idx_loop (s:=s) (d:=(default:A4)) (keep:=Oj u) (F:=Cf s M) (λi hi=>by
   unfold Cf;simp only[Dd hi,Ai,Ad (Ar hi),Ao,hck _ (Ag hi),Ax,w1 (show i<4611686018427387904 by omega)]
   cases Oj u (s.getD i default)<;>rfl) (by unfold Cf;simp only[Fm,A8]) with⟨i,hi,hl,hno,hyes⟩|⟨hl,hall⟩
 ·rw[hl,Ax,Ax]
  have hne:((i:Int)==-1)=false:=by rw[zzL28];omega
  rw[hne,A8,w1 (show i<4611686018427387904 by omega)]
  have htk:∀ n,n<=i->(s.take n).filter (Oj u)=s.take n:=λn hn=>by
   rw[List.filter_eq_self];intro p hp;obtain⟨j,hj,rfl⟩:=E1 hp;rw[R4]at hj;have:=hyes j (by omega);rw[Aa _ _ _ (by omega)]at this;rw[List.getElem_take];exact this
  obtain⟨a',l',h1,h2,h3,h4⟩:=Yz (s:=s) (d:=(default:A4)) (keep:=Oj u) (F:=B7 M) (λa k l hk hak hll hm=>by
    unfold B7;simp only[Dd hk,Ai,Ad (Ar hk),Ao,hck _ hm,Ax,w1 (show k<4611686018427387904 by omega)]
    cases Oj u (l.getD k default) with
    | true=>
     simp only[Hz,Lx,Ai];rw[Ad (Ar (show a<l.length by omega)),Ax,w1 (show a<4611686018427387904 by omega)]
    | false=>
     simp only[Hz,Lx,A8]
     rw[Ax]) (λa l=>by unfold B7;simp only[Fm,A8]) (s.length-(i+1)) i (i+1) s (by omega) (by omega) rfl rfl (by
    rw[List.take_add_one,M4 hi,Vl,htk i (zzL5 _)]
    have:Oj u s[i]=false:=by rw[<- Aa _ _ default hi];exact hno
    simp[this])
  have e:((a':Int)).toNat=a':=Ao a';rw[h1,Ax]
  dsimp only
  rw[e,Ad ⟨by omega,by omega⟩,Ad ⟨by omega,by rw[<- Dc];omega⟩];refine⟨_,_,rfl,by rw[<- Dc];exact h2,by omega,?_⟩;rw[E2,SL];exact h4
 ·rw[hl,Ax,Ax];refine⟨_,_,rfl,rfl,zzL5 _,?_⟩;rw[Vo,Pq,List.filter_eq_self];intro p hp;obtain⟨j,hj,rfl⟩:=E1 hp;have:=hall j hj;rwa[Aa _ _ _ hj]at this
theorem n7{s:List Bz}{M:List Bool}{u:Int->Bool}(hs:s.length<=1000000)(hM:M.length=1024)(h:∀ p∈s,(0<=p.Dst/\p.Dst<1024)/\M.getD p.Dst.toNat false=u p.Dst) :
  ∃ k L,C2 s M=some (k,L)/\L.length=s.length/\k<=s.length/\L.take k=s.filter (M2 u):=by
 have hck:∀ p∈s,Gk p M=some (!M2 u p):=λp hp=>kz hM (h p hp).1 (h p hp).2;unfold C2 D5
 rcases idx_loop (s:=s) (d:=(default:Bz)) (keep:=M2 u) (F:=B8 s M) (λi hi=>by
   unfold B8;simp only[Dd hi,Ai,Ad (Ar hi),Ao,hck _ (Ag hi),Ax,w1 (show i<4611686018427387904 by omega)]
   cases M2 u (s.getD i default)<;>rfl) (by unfold B8;simp only[Fm,A8]) with⟨i,hi,hl,hno,hyes⟩|⟨hl,hall⟩
 ·rw[hl,Ax,Ax]
  have hne:((i:Int)==-1)=false:=by rw[zzL28];omega
  rw[hne,A8,w1 (show i<4611686018427387904 by omega)]
  have htk:∀ n,n<=i->(s.take n).filter (M2 u)=s.take n:=λn hn=>by
   rw[List.filter_eq_self];intro p hp;obtain⟨j,hj,rfl⟩:=E1 hp;rw[R4]at hj;have:=hyes j (by omega);rw[Aa _ _ _ (by omega)]at this;rw[List.getElem_take];exact this
  obtain⟨a',l',h1,h2,h3,h4⟩:=Yz (s:=s) (d:=(default:Bz)) (keep:=M2 u) (F:=Ch M) (λa k l hk hak hll hm=>by
    unfold Ch;simp only[Dd hk,Ai,Ad (Ar hk),Ao,hck _ hm,Ax,w1 (show k<4611686018427387904 by omega)]
    cases M2 u (l.getD k default) with
    | true=>
     simp only[Hz,Lx,Ai];rw[Ad (Ar (show a<l.length by omega)),Ax,w1 (show a<4611686018427387904 by omega)]
    | false=>
     simp only[Hz,Lx,A8]
     rw[Ax]) (λa l=>by unfold Ch;simp only[Fm,A8]) (s.length-(i+1)) i (i+1) s (by omega) (by omega) rfl rfl (by
    rw[List.take_add_one,M4 hi,Vl,htk i (zzL5 _)]
    have:M2 u s[i]=false:=by rw[<- Aa _ _ default hi];exact hno
    simp[this])
  have e:((a':Int)).toNat=a':=Ao a';rw[h1,Ax]
  dsimp only
  rw[e,Ad ⟨by omega,by omega⟩,Ad ⟨by omega,by rw[<- Dc];omega⟩];refine⟨_,_,rfl,by rw[<- Dc];exact h2,by omega,?_⟩;rw[E2,SL];exact h4
 ·rw[hl,Ax,Ax];refine⟨_,_,rfl,rfl,zzL5 _,?_⟩;rw[Vo,Pq,List.filter_eq_self];intro p hp;obtain⟨j,hj,rfl⟩:=E1 hp;have:=hall j hj;rwa[Aa _ _ _ hj]at this
section
variable {f:Ab} {l:Int} (R:AJ f l) (hN:Nw f)
include R hN
theorem dD : Gp f (KW f) = some (Ra f) := by
  have hroom : (1000001 : Nat) ≤ room := by decide
  have h64 := (shape_iff.1 (A5 R)).1.2; have hM := (bD R hN).2
  have hsz : ∀ c, c < f.Blocks.length → Dt (bA f c) ≤ 512 := fun c hc => by
    have := Rx (F := fun b => Dt (bA f b)) hc; rw [← H5] at this; have := hN.size; omega
  unfold Gp
  have key := Wc f.Blocks (default : Ac) (fun i (s : List Ac) => ((i : Int), s)) (fun i s => s.length = i) (fun s b => s ++ [AU (Oj (Kd f)) (M2 (Kd f)) b]) id (Ho f (KW f)) (fun i s hi hP => by
    have hz := hsz i hi; unfold Dt at hz
    have hd1 : ∀ p ∈ (f.Blocks.getD i default).Phis, (0 ≤ p.Dst ∧ p.Dst < 1024) ∧ (KW f).getD p.Dst.toNat false = Kd f p.Dst := fun p hp => by
      obtain ⟨k, hk, rfl⟩ := E1 hp; have := S5 R (d := ⟨((bA f i).Phis.getD k default).Dst, i, -1, (((bA f i).Phis.getD k default).Bits, 1)⟩) (ri_def.2 (.inr ⟨i, hi, .inl ⟨k, hk, rfl⟩⟩)); rw [Aa _ _ _ hk] at this; have := Zw this
      have h1 : Iy ((f.Blocks.getD i default).Phis[k]).Dst = true := by assumption
      unfold Iy at h1; simp only [Az, El] at h1; exact ⟨by omega, TS R (by omega) (by omega)⟩
    have hd2 : ∀ p ∈ (f.Blocks.getD i default).Ops, (0 ≤ p.Dst ∧ p.Dst < 1024) ∧ (KW f).getD p.Dst.toNat false = Kd f p.Dst := fun p hp => by
      have hm := E6 R _ (Ag (d := default) hi) p hp; have hd := (FN hm).2.2.2.2.2.2
      have : 0 ≤ p.Dst ∧ p.Dst < 1024 := by
        unfold dstS at hd
        cases hc : (p.Kind == 17 || p.Kind == 19) with
        | true => rw [hc] at hd; have : p.Dst = 0 := by simpa using hd
                  omega
        | false =>
          rw [hc] at hd; have h1 : Iy p.Dst = true := hd; unfold Iy at h1; simp only [Az, El] at h1; omega
      exact ⟨this, TS R this.1 this.2⟩
    have hz' : (f.Blocks.getD i default).Phis.length + (f.Blocks.getD i default).Ops.length + 1 ≤ 512 := hz; obtain ⟨k1, L1, a1, a2, a3, a4⟩ := n6 (s := (f.Blocks.getD i default).Phis) (by omega) hM hd1; obtain ⟨k2, L2, b1, b2, b3, b4⟩ := n7 (s := (f.Blocks.getD i default).Ops) (by omega) hM hd2
    have cl1 : B0 (f.Blocks.getD i default).Phis = some (f.Blocks.getD i default).Phis := by unfold B0; rw [Ad (by omega)]
    have cl2 : Cg (f.Blocks.getD i default).Ops = some (f.Blocks.getD i default).Ops := by unfold Cg; rw [Ad (by omega)]
    unfold Ho; simp only [Dd hi, Ai, Ad (Ar hi), Ao, w1 (show i < 4611686018427387904 by omega)]; rw [cl1, Ax, a1, Ax]
    dsimp only
    rw [Ad (by omega), Ad a2.symm, cl2, Ax, b1, Ax]
    dsimp only
    rw [Ad (by omega), Ad b2.symm, Aj (by show s.length + 1 ≤ room; omega), a4, b4]
    exact ⟨rfl, by rw [Fb, hP]; rfl⟩) (fun s _ => by unfold Ho; simp only [Fm, A8]; rfl) [] rfl
  have k0 : Af (Ho f (KW f)) ((0 : Int), ([] : List Ac)) = _ := key.1; rw [k0, Ax]
  have e : ∀ (L s : List Ac), L.foldl (fun s b => s ++ [AU (Oj (Kd f)) (M2 (Kd f)) b]) s = s ++ L.map (AU (Oj (Kd f)) (M2 (Kd f))) := fun L => by
    induction L with
    | nil => intro s; simp
    | cons b L ih => intro s; rw [AB, ih]; simp
  dsimp only [id]
  rw [e, Vp]; rfl
end
theorem f9{f:Ab}(hN:Nw f):Ez f=some ((sizeN f:Nat):Int):=by
 have:=hN.size;rw[nI f hN.inf];unfold sizeW;rw[Qo (by omega)]
theorem MA{l:Int}:∀(n:Nat) (f:Ab),AJ f l->Nw f->sizeN f<=n->Af Js (f.Params,f.Ret,f.Blocks)=some (LZ n f)
 | 0,f,R,hN,hn=>by
  have h0:=(shape_iff.1 (A5 R)).1.1;have:=Rx (F:=λb=>Dt (bA f b)) (i:=0) (n:=f.Blocks.length) (by omega);rw[<- H5]at this;unfold Dt at this;omega
 | n+1,f,R,hN,hn=>by
  have hs:=A5 R;have h64:=(shape_iff.1 hs).1.2;obtain⟨R',hN'⟩:=lG R (lH f) hN
  have hF:Js (f.Params,f.Ret,f.Blocks)=some (bif decide (((sizeN (Ra f):Nat):Int)<((sizeN f:Nat):Int)) then .next ((Ra f).Params,(Ra f).Ret,(Ra f).Blocks) else .done f):=by
   unfold Js
   show(Hi f).bind _=_
   rw[(bD R hN).1,Ax]
   show(Gp f (KW f)).bind _=_
   rw[dD R hN,Ax,f9 (show Nw (Ra f) from hN'),Ax]
   show(Ez f).bind _=_
   rw[f9 hN,Ax]
   cases decide (((sizeN (Ra f):Nat):Int)<((sizeN f:Nat):Int))<;>rfl
  unfold LZ
  split
  ·rename_i h
   rw[Gw (by omega),Ai]at hF;rw[An hF];exact MA n (Ra f) R' hN' (by omega)
  ·rename_i h
   rw[Gv (by omega),A8]at hF;exact Am hF
def bM(f:Ab):Ab:=if Fl f 2=0 then LZ (sizeN f) f else f
theorem fp{f:Ab}(h:Sm f)(hN:Fl f 2=0->Nw f):Nv f=some (bM f):=by
 unfold Nv bM;rw[bF h,Ax]
 by_cases e:Fl f 2=0
 ·have R:AJ f 2:=(FT (by omega)).1 e;have key:=MA (sizeN f) f R (hN e) (zzL5 _);have hF:((Hi f).bind λx5=>((Gp f x5).bind λx6=>((Ez x6).bind λx7=>((Ez f).bind λx8=>(bif (decide ((x7:Int)<x8)) then(some (.next (x6.Params,x6.Ret,x6.Blocks))) else(some (.done f)))))):Option (LR (List Int×Int×List Ac) Ab))=Js (f.Params,f.Ret,f.Blocks):=rfl;rw[if_pos e,Gw e,Hz,A8,hF];rw[<- DV]at key;rw[key];rfl
 ·rw[if_neg e,Gv e];rfl
def kg(f:Ab):Ab:=bM (QL f)
theorem qH{f:Ab}(h:Sm f)(hN:Fl f 2=0->Nw f):Nc f=some (kg f):=by
 unfold Nc kg;rw[qI h hN,Ax]
 by_cases e:Fl f 2=0
 ·have R:AJ f 2:=(FT (by omega)).1 e;obtain⟨a,b,_⟩:=bn f.Blocks.length f R (hN e) (zzL5 _)
  have e1:QL f=T8 f.Blocks.length f:=by unfold QL;rw[if_pos e]
  rw[e1,fp (bh b) (λ_=>b)];rfl
 ·have e1:QL f=f:=by unfold QL;rw[if_neg e]
  rw[e1,fp h hN];rfl
theorem dR:m_locksteplaw16_awake=some true:=by kernel_rfl
theorem lq{g:Ab}(h:Oa g=none)(n:Nat):T8 n g=g:=by
 cases n with
 | zero=>rfl
 | succ n=>unfold T8;rw[h]
theorem ge{g:Ab}(h:sizeN g<=sizeN (Ra g))(n:Nat):LZ n g=g:=by
 cases n with
 | zero=>rfl
 | succ n=>unfold LZ;rw[if_neg (by omega)]
def X2(t:Nat):Bz:=⟨1,8,1,(t:Int)+2,[(t:Int)+1,1],0⟩
def Ji(k m b e:Nat):F4:=if b+1=e then⟨0,((k*m:Nat):Int)+1,[]⟩ else⟨1,0,[((b+1:Nat):Int)]⟩
def Yt(k m s b:Nat):Ac:=⟨[],(if b=0 then(List.range ((s+1)*m)).map X2 else(List.range m).map λj=>X2 ((s+b)*m+j)),Ji k m b (k-s)⟩
def L0(k m s:Nat):Ab:=⟨[8],8,(List.range (k-s)).map (Yt k m s)⟩
theorem G3(k m s:Nat):(L0 k m s).Blocks.length=k-s:=by show(List.map _ _).length=_;rw[B9,Lw]
theorem Wu{k m s i:Nat}(hi:i<k-s):bA (L0 k m s) i=Yt k m s i:=Kx hi
theorem mP(v:Int):Uc [] v=v:=rfl
theorem oe(o:Bz):WJ (Uc []) o=o:=by
 unfold WJ;rw[show Uc []=id from funext mP,List.map_id]
theorem mt{b:Nat}(h:2<=b):psJ 0 1 b=b-1:=by
 rcases ps_eq (x:=0) (y:=1) (by omega) b with h1|h1|h1<;>omega
theorem lB{k m s:Nat}(h:s+1<k):Bk (L0 k m s) 0 1=L0 k m (s+1):=by
 have hv:vJ (L0 k m s) 1=Uc []:=by
  unfold vJ;rw[Wu (show 1<k-s by omega)];rfl
 unfold Bk;rw[hv,G3]
 show(⟨[8],8,_⟩:Ab)=⟨[8],8,(List.range (k-(s+1))).map (Yt k m (s+1))⟩
 rw[show k-s-1=k-(s+1) by omega]
 congr 1
 refine Tq λb hb=>?_;rw[zzL30]at hb
 have hmap:∀ l:List Bz,l.map (WJ (Uc []))=l:=λl=>by rw[show WJ (Uc [])=id from funext oe,List.map_id]
 unfold Xv;rw[hmap]
 by_cases hb0:b=0
 ·subst hb0
  have e:F5 (L0 k m s) 0 1 (Yb 1 0)=⟨[],(List.range ((s+1)*m)).map X2++(List.range m).map (λj=>X2 ((s+1)*m+j)),Ji k m 1 (k-s)⟩:=by
   unfold F5;rw[if_pos (by rfl),Wu (show 0<k-s by omega),Wu (show 1<k-s by omega)]
   rfl
  rw[e];unfold Yt;rw[if_pos rfl]
  have eo:(List.range ((s+1)*m)).map X2++(List.range m).map (λj=>X2 ((s+1)*m+j))=(List.range ((s+1+1)*m)).map X2:=by
   rw[C6 (s+1) 1 m,Nat.one_mul,List.range_add,Om,List.map_map];rfl
  rw[eo]
  congr 1
  unfold XJ Ji
  by_cases he:1+1=k-s
  ·rw[if_pos he,if_pos (by omega)];rfl
  ·rw[if_neg he,if_neg (by omega)]
   show(⟨1,Uc [] 0,[YP 0 1 ((1+1:Nat):Int)]⟩:F4)=_
   rw[Jb,mt (by omega)];rfl
 ·have eu:Yb 1 b=b+1:=by rcases up_eq 1 b with h|h<;>omega
  have e:F5 (L0 k m s) 0 1 (Yb 1 b)=Yt k m s (b+1):=by
   rw[eu];unfold F5;rw[if_neg (by omega),Wu (by omega)]
  rw[e];unfold Yt;rw[if_neg (by omega),if_neg hb0]
  have eo:(λj=>X2 ((s+(b+1))*m+j))=λj=>X2 ((s+1+b)*m+j):=by
   funext j;rw[show s+(b+1)=s+1+b by omega]
  rw[eo]
  congr 1
  unfold XJ Ji
  by_cases he:b+1+1=k-s
  ·rw[if_pos he,if_pos (by omega)];rfl
  ·rw[if_neg he,if_neg (by omega)]
   show(⟨1,Uc [] 0,[YP 0 1 ((b+1+1:Nat):Int)]⟩:F4)=_
   rw[Jb,mt (by omega)];rfl
section
variable {k m s:Nat} (hk:1<=k/\k<=60) (hm:m<=3) (hs:s<k)
include hk hm hs
theorem Yv:Fn (L0 k m s)=true:=by
 refine shape_iff.2 ⟨by rw[G3];omega,λi hi=>?_⟩;rw[G3]at hi ⊢
 have e:Md (L0 k m s) i=Ji k m i (k-s):=by
  show(bA (L0 k m s) i).End=_
  rw[Wu hi];rfl
 rw[e];unfold Ji
 split
 ·unfold Jj Y9;simp[nH,VN]
 ·unfold Jj;rw[Az];refine⟨by unfold Y9;simp[VN],toB_iff.2 λx hx=>?_⟩;rw[zzL11.1 hx];omega
theorem bI{i j:Nat}(hi:i<k-s):EY (L0 k m s) i j↔j=i+1/\j<k-s:=by
 unfold EY;rw[Wu hi];unfold Yt Ji
 show(j:Int)∈(if i+1=k-s then(⟨0,_,[]⟩:F4) else⟨1,0,[((i+1:Nat):Int)]⟩).To↔_
 split
 ·simp only[List.not_mem_nil,false_iff];omega
 ·rw[zzL11];omega
theorem qN(h1:s+1<k):Jn (L0 k m s) 0 1:=by
 have hsh:=Yv hk hm hs
 have e:(bA (L0 k m s) 0).End=⟨1,0,[((0+1:Nat):Int)]⟩:=by
  rw[Wu (by omega)];unfold Yt Ji;rw[if_neg (show ¬ 0+1=k-s by omega)]
 refine⟨by rw[G3];omega,by rw[e],by rw[e],by omega,?_⟩
 have hl:1<(L0 k m s).Blocks.length:=by rw[G3];omega
 refine X9 (BU _ hl) (List.pairwise_singleton ..) λz=>?_;rw[K5 hsh hl,zzL11]
 constructor
 ·rintro⟨p,rfl,hp,hn⟩;rw[G3]at hp;have:=(bI hk hm hs hp).1 hn;omega
 ·intro hz;exact⟨0,by rw[hz],by rw[G3];omega,(bI hk hm hs (by omega)).2 ⟨rfl,by omega⟩⟩
theorem gH(h1:s+1<k):Oa (L0 k m s)=some (0,1):=by
 have J:=qN hk hm hs h1;unfold Oa;rw[G3];obtain⟨n,hn⟩:∃ n,k-s=n+1:=⟨k-s-1,by omega⟩;rw[hn,List.range_succ_eq_map,List.findSome?_cons]
 have:KR (L0 k m s) 0=some (0,1):=by
  have ht:cD (L0 k m s) 0 0=((1:Nat):Int):=by unfold cD;rw[J.to];rfl
  unfold KR;rw[ht,Ao,J.pred,if_pos ⟨J.kind,by omega,rfl⟩]
 rw[this]
end
theorem gM{k m:Nat}(hk:1<=k/\k<=60)(hm:m<=3):∀(n s:Nat),s<k->k<=n+s+1->T8 n (L0 k m s)=L0 k m (k-1)
 | n,s,hs,hn=>by
  by_cases h1:s+1<k
  ·obtain⟨n',rfl⟩:∃ n',n=n'+1:=⟨n-1,by omega⟩;unfold T8;rw[gH hk hm hs h1]
   show T8 n' (Bk (L0 k m s) 0 1)=_
   rw[lB h1];exact gM hk hm n' (s+1) h1 (by omega)
  ·have:s=k-1:=by omega
   subst this;refine lq ?_ n;unfold Oa;rw[List.findSome?_eq_none_iff];intro i hi;rw[G3,zzL30]at hi
   have:i=0:=by omega
   subst this;unfold KR;rw[if_neg];rw[Wu (by omega)];unfold Yt Ji;rw[if_pos (show 0+1=k-(k-1) by omega)];intro h;exact absurd (show(0:Int)=1 from h.1) (by decide)
 termination_by n=>n
theorem QM{t:Nat}(h:t<=1000):Fp (X2 t)=true:=by
 have h1:Iy ((t:Int)+1)=true:=by unfold Iy;rw[Az,El,El];omega
 have h2:Iy ((t:Int)+2)=true:=by unfold Iy;rw[Az,El,El];omega
 have h3:Iy 1=true:=rfl;simp[Fp,X2,X0,dL,Xb,ifitS,Te,dstS,h1,h2,h3,Fo]
theorem BT{t:Nat}(h:t<=1000):G4 (X2 t)=(8,1):=by rw[Y6 (QM h)];rfl
theorem Um{k m i:Nat}(hi:i<k):bA (L0 k m 0) i=⟨[],(List.range m).map λj=>X2 (i*m+j),Ji k m i k⟩:=by
 rw[Wu (by omega)];unfold Yt
 split
 ·rename_i e
  subst e
  congr 1
  rw[show(0+1)*m=m by omega]
  refine Tq λj _=>by rw[show 0*m+j=j by omega]
 ·congr 1
  refine Tq λj _=>by rw[E2]
theorem ZF(n c:Nat):N4 n (λ_=>c)=n*c:=by
 induction n with
 | zero=>simp[N4]
 | succ n ih=>rw[Lt,ih,C6];omega
section
variable {k m:Nat} (hk:1<=k/\k<=60) (hm:m<=3)
include hk hm
theorem LV{i j:Nat}(hi:i<k)(hj:j<m):i*m+j<k*m/\k*m<=180:=by
 have h1:(i+1)*m<=k*m:=D0 _ (by omega);have h2:k*m<=60*3:=Nat.mul_le_mul hk.2 hm;rw[C6]at h1;omega
theorem gP{i j:Nat}(hi:i<k)(hj:j<m):(bA (L0 k m 0) i).Ops.getD j default=X2 (i*m+j):=by
 rw[Um hi]
 show((List.range m).map λj=>X2 (i*m+j)).getD j default=_
 exact Kx hj
theorem AR{i:Nat}(hi:i<k):(bA (L0 k m 0) i).Ops.length=m/\(bA (L0 k m 0) i).Phis=[]:=by
 rw[Um hi];exact⟨by show(List.map _ _).length=_;rw[B9,Lw],rfl⟩
theorem bJ:sizeN (L0 k m 0)<=240:=by
 rw[H5,G3]
 have:=b8 (n:=k-0) (F:=λb=>Dt (bA (L0 k m 0) b)) (G:=λ_=>4) λi hi=>by
  obtain⟨h1,h2⟩:=AR hk hm (show i<k by omega);unfold Dt;rw[h1,h2]
  show 0+m+1<=4
  omega
 rw[ZF]at this;omega
theorem PB{b:Ac}(hb:b∈(L0 k m 0).Blocks):∃ i,i<k/\b=⟨[],(List.range m).map λj=>X2 (i*m+j),Ji k m i k⟩:=by
 obtain⟨i,hi,e⟩:=E1 hb
 have e':bA (L0 k m 0) i=b:=by unfold bA;rw[Aa _ _ _ hi];exact e
 rw[G3]at hi;exact⟨i,by omega,by rw[<- e',Um (by omega)]⟩
theorem qO:Nw (L0 k m 0):=by
 have hmx:maxLen=9223372036854775807:=O6;have hsz:=bJ hk hm;have hl:=G3 k m 0
 have hto:∀ i,(Ji k m i k).To.length<=2:=λi=>by unfold Ji;split<;>simp
 refine⟨⟨by show 1<=_;omega,by rw[hl];omega,λb hb=>?_,λb hb p hp=>?_,λb hb o ho=>?_⟩,by show 1<=64;omega,λb hb=>?_,λb hb p hp=>?_,λb hb o ho=>?_,by omega⟩<;>obtain⟨i,hi,rfl⟩:=PB hk hm hb
 ·refine⟨by show 0<=_;omega,by show(List.map _ _).length<=_;rw[B9,Lw];omega,by have:=hto i;show(Ji k m i k).To.length<=_;omega⟩
 ·cases hp
 ·obtain⟨j,hj,rfl⟩:=zzL14.1 ho;exact⟨by show 2<=_;omega,by show(0:Int)<=0;omega,by show(0:Int)<_;omega⟩
 ·exact hto i
 ·cases hp
 ·obtain⟨j,hj,rfl⟩:=zzL14.1 ho
  show 2<=16;omega
theorem GK:∀ b,b<k->Rc (sN (Bb (L0 k m 0))) 0 b
 | 0,_=>.root
 | b+1,h=>.step (GK b (by omega)) ((Mw (Yv hk hm (by omega)) (by rw[G3];omega)).2 ((bI hk hm (by omega) (by omega)).2 ⟨rfl,by omega⟩))
theorem lC{i j:Nat}(hij:i<j)(hj:j<k):Hy (B1 (L0 k m 0)) (i:Int) (j:Int)=true:=by
 have hsh:=Yv (s:=0) hk hm (by omega);refine(Pk hsh (by rw[G3];omega) (by rw[G3];omega)).2 ⟨GK hk hm j hj,λh=>?_⟩
 have key:∀ b,Av (sN (Bb (L0 k m 0))) 0 i b->b<i/\b<k:=by
  intro b hb
  induction hb with
  | root h=>omega
  | @step a b ha hab hb ih=>
   have:=(bI hk hm (s:=0) (by omega) (by omega)).1 ((Mw hsh (by rw[G3];omega)).1 hab);omega
 have:=key j h;omega
theorem gQ{i:Nat}(hi:i<k):FV (bA (L0 k m 0) i)=(List.range m).map λj=>((i*m+j:Nat):Int)+2:=by
 rw[Um hi];unfold FV KO
 show[]++(((List.range m).map λj=>X2 (i*m+j)).filter λo=>decide (0<(G4 o).1)).map (·.Dst)=_
 rw[Vp,List.filter_eq_self.2 (λo ho=>by
  obtain⟨j,hj,rfl⟩:=zzL14.1 ho;have:=LV hk hm hi (zzL30.1 hj)
  rw[BT (by omega)];rfl),List.map_map]
 rfl
theorem gG{t:Nat}(ht:t<k*m):∃ d∈A7 (L0 k m 0),d.V=(t:Int)+2/\d.Shape=(8,1)/\d.Block=((t / m:Nat):Int)/\d.At=((t % m:Nat):Int)/\t / m<k:=by
 have hm0:0<m:=by
  rcases zzL52 m with h|h
  ·rw[h,Nat.mul_zero]at ht;omega
  ·exact h
 have h1:t / m<k:=by rw[DY hm0];exact ht
 have h2:t % m<m:=Nat.mod_lt _ hm0
 have h3:t / m*m+t % m=t:=by rw[Tu];exact Xk t m
 have ho:=gP hk hm h1 h2;rw[h3]at ho;have hop:=LV hk hm h1 h2;refine⟨_,ri_def.2 (.inr ⟨t / m,by rw[G3];omega,.inr ⟨t % m,by rw[(AR hk hm h1).1];exact h2,by rw[ho,BT (by omega)];decide,rfl⟩⟩),?_,?_,rfl,rfl,h1⟩
 ·rw[ho];rfl
 ·rw[ho,BT (by omega)]
theorem XG:(⟨1,-1,0,(8,1)⟩:G1)∈A7 (L0 k m 0):=ri_def.2 (.inl ⟨0,by show 0<1;omega,rfl⟩)
theorem SE:AJ (L0 k m 0) 2:=by
 have hsh:=Yv (s:=0) hk hm (by omega);have hsz:=bJ hk hm;have hl:=G3 k m 0;have hkm:k*m<=180:=Nat.mul_le_mul hk.2 hm
 have hgm:∀ b∈(L0 k m 0).Blocks,∀ o∈b.Ops,Fp o=true:=λb hb o ho=>by
  obtain⟨i,hi,rfl⟩:=PB hk hm hb;obtain⟨j,hj,rfl⟩:=zzL14.1 ho;have:=LV hk hm hi (zzL30.1 hj);exact QM (by omega)
 have hnum:∀ n:Nat,n<=10000->numB (n:Int)=true:=λn hn=>numBJ.2 ⟨by omega,by omega⟩;refine⟨mayF_iff.2 ⟨by rw[hl];omega,by show 1<=16;omega,by rfl,by rfl,?_,λb hb=>?_⟩,Vc hsh λi hi=>?_,?_,X4 ((nodup_split _).2 ⟨λy hy=>?_,λy z hy hz hne v hv hw=>?_,λi hi y hy hv=>?_⟩) (λd hd=>?_) (λu hu=>?_)⟩
 ·unfold sizeW;rw[Qo (by omega)];omega
 ·obtain⟨i,hi,rfl⟩:=PB hk hm hb;refine blockB_iff.2 ⟨λp hp=>(by cases hp),λo ho=>?_,?_⟩
  ·obtain⟨j,hj,rfl⟩:=zzL14.1 ho;have:=LV hk hm hi (zzL30.1 hj);unfold dh;simp only[Az];refine⟨⟨⟨⟨rfl,rfl⟩,rfl⟩,?_⟩,listBJ.2 ⟨λn hn=>?_,by show 2<=64;omega⟩⟩
   ·exact numBJ.2 ⟨by show 0<=((_:Nat):Int)+2;omega,by show((_:Nat):Int)+2<=_;omega⟩
   ·have hn':n=((i*m+j:Nat):Int)+1\/n=1:=by simpa [X2] using hn
    omega
  ·show PF (Ji k m i k)=true
   unfold Ji PF
   split
   ·simp only[Az];exact⟨⟨rfl,numBJ.2 ⟨by omega,by omega⟩⟩,rfl⟩
   ·simp only[Az];exact⟨⟨rfl,rfl⟩,listBJ.2 ⟨λn hn=>by rw[zzL11.1 hn];omega,by show 1<=64;omega⟩⟩
 ·rw[hl]at hi;refine⟨GK hk hm i (by omega),?_,λp hp=>?_⟩
  ·rw[Um (by omega)]
   show(Ji k m i k).Kind=1\/(Ji k m i k).Kind=3->(Ji k m i k).Arg=0
   unfold Ji
   split
   ·rintro(h|h)
    ·exact absurd (show(0:Int)=1 from h) (by decide)
    ·exact absurd (show(0:Int)=3 from h) (by decide)
   ·intro _;rfl
  ·rw[(AR hk hm (by omega)).2]at hp;cases hp
 ·simp only[Ll,F0,Az,zzL23];refine⟨⟨λw hw=>by rw[zzL11.1 hw];rfl,λb hb=>?_⟩,by rfl⟩;obtain⟨i,hi,rfl⟩:=PB hk hm hb;refine⟨λp hp=>(by cases hp),λo ho=>?_⟩;obtain⟨j,hj,rfl⟩:=zzL14.1 ho;have:=LV hk hm hi (zzL30.1 hj);unfold Ja;rw[QM (by omega)];rfl
 ·rw[hl]at hy;rw[gQ hk hm (by omega),List.nodup_iff_pairwise_ne,List.pairwise_map];exact List.Pairwise.imp (λ{a b} (h:a<b)=>by omega) List.pairwise_lt_range
 ·rw[hl]at hy hz;rw[gQ hk hm (by omega)]at hv hw;obtain⟨a,ha,rfl⟩:=zzL14.1 hv;obtain⟨b,hb,e⟩:=zzL14.1 hw;rw[zzL30]at ha hb
  have e':z*m+b=y*m+a:=by omega
  rcases Nat.lt_or_gt_of_ne hne with h|h
  ·have:(y+1)*m<=z*m:=D0 _ h;rw[C6]at this;omega
  ·have:(z+1)*m<=y*m:=D0 _ h;rw[C6]at this;omega
 ·rw[hl]at hy;rw[gQ hk hm (by omega)]at hv;obtain⟨a,ha,e⟩:=zzL14.1 hv;have:i<1:=hi;omega
 ·rcases ri_def.1 hd with⟨i,hi,e⟩|⟨i,hi,⟨q,hq,e⟩|⟨q,hq,hg,e⟩⟩
  ·have:i<1:=hi
   have:i=0:=by omega
   subst this;rw[e];rfl
  ·rw[hl]at hi;rw[(AR hk hm (show i<k by omega)).2]at hq;cases hq
  ·rw[e];exact AY (hgm _ (Ag (d:=default) hi) _ (Ag (d:=default) hq)) hg
 ·obtain⟨i,hi,hcase⟩:=(E7 hgm).1 hu;rw[hl]at hi
  have hi':i<k:=by omega
  rcases hcase with⟨q,j,hq,hj,e⟩|⟨q,j,hq,hj,e⟩|⟨hK,e⟩|⟨hK,e⟩
  ·rw[(AR hk hm hi').2]at hq;cases hq
  ·rw[(AR hk hm hi').1]at hq;rw[gP hk hm hi' hq]at e hj;have hj:j<2:=hj
   have hj':j=0\/j=1:=by omega
   rcases hj' with rfl|rfl
   ·rcases zzL52 (i*m+q) with h0|h0
    ·refine⟨_,XG hk hm,?_,?_,.inl (by show(-1:Int)<0;omega)⟩
     ·rw[e,h0];rfl
     ·rw[e];rfl
    ·have hop:=LV hk hm hi' hq;obtain⟨d,hd,d1,d2,d3,d4,d5⟩:=gG hk hm (t:=i*m+q-1) (by omega);refine⟨d,hd,?_,?_,?_⟩
     ·rw[d1,e];show _=((i*m+q:Nat):Int)+1;omega
     ·rw[d2,e];rfl
     ·rw[e]
      show WQ _ d (i:Int) (q:Int)
      by_cases hq0:q=0
      ·
       have hdiv:(i*m+q-1) / m<i:=by
        rw[DY (by omega)];omega
       refine .inr (.inr ⟨by rw[d3];omega,?_⟩);rw[d3];exact lC hk hm hdiv hi'
      ·have hdiv:(i*m+q-1) / m=i:=by
        refine Nat.div_eq_of_lt_le (by omega) ?_;rw[C6];omega
       have hmod:(i*m+q-1) % m=q-1:=by
        have:=Xk (i*m+q-1) m;rw[hdiv,Tu]at this;omega
       exact .inr (.inl ⟨by rw[d3,hdiv],by rw[d4,hmod];omega⟩)
   ·refine⟨_,XG hk hm,?_,?_,.inl (by show(-1:Int)<0;omega)⟩
    ·rw[e];rfl
    ·rw[e];rfl
  ·have he:(bA (L0 k m 0) i).End=Ji k m i k:=by rw[Um hi']
   rw[he]at hK e
   have hlast:i+1=k:=by
    apply JK
    intro hne;unfold Ji at hK;rw[if_neg hne]at hK;exact absurd (show(1:Int)=0 from hK) (by decide)
   have ha:(Ji k m i k).Arg=((k*m:Nat):Int)+1:=by unfold Ji;rw[if_pos hlast]
   rw[ha]at e;rcases zzL52 (k*m) with h0|h0
   ·refine⟨_,XG hk hm,?_,?_,.inl (by show(-1:Int)<0;omega)⟩
    ·rw[e,h0];rfl
    ·rw[e];rfl
   ·have hm0:0<m:=by
     rcases zzL52 m with h|h
     ·rw[h,Nat.mul_zero]at h0;omega
     ·exact h
    obtain⟨d,hd,d1,d2,d3,d4,d5⟩:=gG hk hm (t:=k*m-1) (by omega);refine⟨d,hd,?_,?_,?_⟩
    ·rw[d1,e];show _=((k*m:Nat):Int)+1;omega
    ·rw[d2,e];rfl
    ·rw[e]
     show WQ _ d (i:Int) 1000
     have hkk:k*m=i*m+m:=by rw[<- hlast,C6];omega
     have hdiv:(k*m-1) / m=i:=by
      refine Nat.div_eq_of_lt_le (by omega) ?_;rw[C6];omega
     have hmod:(k*m-1) % m<m:=Nat.mod_lt _ hm0;exact .inr (.inl ⟨by rw[d3,hdiv],by rw[d4];omega⟩)
  ·exfalso
   have he:(bA (L0 k m 0) i).End=Ji k m i k:=by rw[Um hi']
   rw[he]at hK;unfold Ji at hK
   split at hK<;>simp at hK
theorem oH:kg (L0 k m 0)=L0 k m (k-1):=by
 have R:=SE hk hm;have hc:Fl (L0 k m 0) 2=0:=(FT (by omega)).2 R
 have h1:QL (L0 k m 0)=L0 k m (k-1):=by
  unfold QL;rw[if_pos hc,G3];exact gM hk hm (k-0) 0 (by omega) (by omega)
 unfold kg;rw[h1]
 have hdead:Ra (L0 k m (k-1))=L0 k m (k-1):=by
  unfold Ra L3
  show(⟨[8],8,_⟩:Ab)=⟨[8],8,_⟩
  congr 1
  have hmap:∀ b∈(L0 k m (k-1)).Blocks,AU (Oj (Kd (L0 k m (k-1)))) (M2 (Kd (L0 k m (k-1)))) b=b:=λb hb=>by
   obtain⟨i,hi,rfl⟩:=zzL14.1 hb;rw[zzL30]at hi
   have:i=0:=by omega
   subst this
   have hb0:Yt k m (k-1) 0=⟨[],(List.range (k*m)).map X2,⟨0,((k*m:Nat):Int)+1,[]⟩⟩:=by
    unfold Yt Ji;rw[if_pos rfl,if_pos (show 0+1=k-(k-1) by omega),show k-1+1=k by omega]
   rw[hb0];unfold AU
   show(⟨[],List.filter _ _,_⟩:Ac)=_
   congr 1
   rw[List.filter_eq_self];intro o ho;obtain⟨t,ht,rfl⟩:=zzL14.1 ho;rw[zzL30]at ht;unfold M2;rw[Vi]
   right
   unfold Kd;rw[List.any_eq_true];refine⟨_,hb,?_⟩;rw[hb0,Zy];unfold Pz
   by_cases hlt:t+1<k*m
   ·refine zzL9.2 (.inl (zzL9.2 (.inr (zzL42.2 ⟨X2 (t+1),zzL14.2 ⟨t+1,zzL30.2 hlt,rfl⟩,?_⟩))))
    show((t:Int)+2)∈[(((t+1:Nat):Int))+1,1]
    rw[show(((t+1:Nat):Int))+1=(t:Int)+2 by omega];simp
   ·refine zzL9.2 (.inr ?_);rw[if_pos (.inl rfl)]
    show((t:Int)+2)∈[((k*m:Nat):Int)+1]
    rw[zzL11];omega
  have:=Tq hmap;rw[List.map_id']at this;exact this
 unfold bM
 split
 ·exact ge (by rw[hdead];exact zzL5 _) _
 ·rfl
end
theorem qM{m:Nat}{a:Int}(hm:m<=3)(ha:Int.tmod (Ay a) 4=(m:Int))(t:Nat)(ht:t<=1000):Af (Cz a) (((t:Int)+1),((t:Int)+1),(0:Int),([]:List Bz))=some (((t+m:Nat):Int)+1,((t+m:Nat):Int)+1,(List.range m).map λj=>X2 (t+j)):=by
 have hroom:(1000001:Nat)<=room:=by decide
 have key:=Ko (Cz a) (λj=>((((t+j:Nat):Int)+1),(((t+j:Nat):Int)+1),(j:Int),(List.range j).map λj=>X2 (t+j))) (((t+m:Nat):Int)+1,((t+m:Nat):Int)+1,(List.range m).map λj=>X2 (t+j)) m (λj hj=>by
  unfold Cz
  dsimp only
  rw[ha,Dd hj,Ai];rw[Ad (by rw[B9,Lw];show j+1<=room;omega)];rw[Ed (n:=((t+j:Nat):Int)+1+1) (by omega) (by omega),w1 (show j<4611686018427387904 by omega)];rw[R5,Om]
  have e:((t+j:Nat):Int)+1+1=((t+(j+1):Nat):Int)+1:=by omega
  have eo:X2 (t+j)=⟨1,8,1,((t+j:Nat):Int)+1+1,[((t+j:Nat):Int)+1,1],0⟩:=by
   unfold X2;rw[show((t+j:Nat):Int)+2=((t+j:Nat):Int)+1+1 by omega]
  rw[List.map_singleton,eo,e]) (by
  unfold Cz
  dsimp only
  rw[ha,Fm,A8])
 have e0:(((t+0:Nat):Int)+1)=(t:Int)+1:=by omega
 simp only[e0]at key;exact key
theorem chain16(n a:Int)(hn:0<=n/\n<256)(ha:0<=a/\a<256):G5 n a=some true:=by
 have hroom:(1000001:Nat)<=room:=by decide
 obtain⟨N,rfl⟩:∃ N:Nat,n=(N:Int):=⟨n.toNat,by omega⟩;obtain⟨A,rfl⟩:∃ A:Nat,a=(A:Int):=⟨a.toNat,by omega⟩
 have hN:Int.tmod (Ay (N:Int)) 60=((N % 60:Nat):Int):=by
  rw[Ed (by omega) (by omega),Int.tmod_eq_emod_of_nonneg (by omega)];omega
 have hA:Int.tmod (Ay (A:Int)) 4=((A % 4:Nat):Int):=by
  rw[Ed (by omega) (by omega),Int.tmod_eq_emod_of_nonneg (by omega)];omega
 obtain⟨k,hk⟩:∃ k,k=1+N % 60:=⟨_,rfl⟩;obtain⟨m,hmm⟩:∃ m,m=A % 4:=⟨_,rfl⟩;rw[<- hmm]at hA
 have hk':1<=k/\k<=60:=by omega
 have hm:m<=3:=by omega
 have hkN:Ay ((1:Int)+Int.tmod (Ay (N:Int)) 60)=(k:Int):=by rw[hN,Ed (by omega) (by omega)];omega
 have hkm:k*m<=180:=Nat.mul_le_mul hk'.2 hm
 have hmul:Ay ((k:Int)*(m:Int))=((k*m:Nat):Int):=by
  rw[show(k:Int)*(m:Int)=((k*m:Nat):Int) by simp,Ed (by omega) (by omega)]
 unfold G5;rw[dR,Ax,Hz,A8]
 have k2:=Ko (C0 (N:Int) (A:Int)) (λi=>((((i*m:Nat):Int)+1),(((i*m:Nat):Int)+1),(i:Int),(List.range i).map λi=>(⟨[],(List.range m).map λj=>X2 (i*m+j),Ji k m i k⟩:Ac))) (((k*m:Nat):Int)+1,(L0 k m 0).Blocks) k (λi hi=>by
  have him:i*m<=k*m:=D0 _ (by omega);unfold C0
  dsimp only
  rw[hkN,Dd hi,Ai,qM hm hA (i*m) (by omega),Ax]
  dsimp only
  have e1:i*m+m=(i+1)*m:=by rw[C6];omega
  rw[w1 (show i<4611686018427387904 by omega),e1]
  have hlen:((List.range i).map λi=>(⟨[],(List.range m).map λj=>X2 (i*m+j),Ji k m i k⟩:Ac)).length=i:=by rw[B9,Lw]
  by_cases he:i+1=k
  ·rw[show(((i+1:Nat):Int)==(k:Int))=true by rw[zzL62];omega,Ai,Ax]
   dsimp only
   rw[Ad (by rw[hlen];show i+1<=room;omega)]
   have:Ji k m i k=⟨0,(((i+1)*m:Nat):Int)+1,[]⟩:=by unfold Ji;rw[if_pos he,he]
   rw[R5,Om,List.map_singleton,this]
  ·rw[show(((i+1:Nat):Int)==(k:Int))=false by rw[zzL28];omega,A8,Ax]
   dsimp only
   rw[Ad (by rw[hlen];show i+1<=room;omega)]
   have:Ji k m i k=⟨1,0,[((i+1:Nat):Int)]⟩:=by unfold Ji;rw[if_neg he]
   rw[R5,Om,List.map_singleton,this]) (by
  unfold C0
  dsimp only
  rw[hkN,Fm,A8]
  have:(L0 k m 0).Blocks=(List.range k).map λi=>(⟨[],(List.range m).map λj=>X2 (i*m+j),Ji k m i k⟩:Ac):=by
   apply AA
   ·rw[G3,B9,Lw];omega
   ·intro i h1 h2
    have hi:i<k:=by rw[G3]at h1;omega
    have e:=Um (m:=m) hi;rw[show bA (L0 k m 0) i=(L0 k m 0).Blocks[i] from Aa _ _ _ h1]at e;rw[e,List.getElem_map,List.getElem_range]
  rw[this])
 have k2':Af (C0 (N:Int) (A:Int)) ((1:Int),(1:Int),(0:Int),([]:List Ac))=some (((k*m:Nat):Int)+1,(L0 k m 0).Blocks):=by
  have e0:(((0*m:Nat):Int)+1)=1:=by rw[Nat.zero_mul];rfl
  simp only[e0]at k2;exact k2
 rw[k2',Ax]
 dsimp only
 have hR:=SE hk' hm;have hNw:=qO hk' hm
 have hall:Nc (⟨[8],8,(L0 k m 0).Blocks⟩:Ab)=some (L0 k m (k-1)):=by
  have:=qH (bh hNw) (λ_=>hNw);rw[oH hk' hm]at this;exact this
 rw[hall,Ax]
 have hlen:(L0 k m (k-1)).Blocks.length=1:=by rw[G3];omega
 have hb0:(L0 k m (k-1)).Blocks.getD ((0:Int)).toNat default=⟨[],(List.range (k*m)).map X2,⟨0,((k*m:Nat):Int)+1,[]⟩⟩:=by
  have:=Wu (k:=k) (m:=m) (s:=k-1) (i:=0) (by omega)
  have hbl:Yt k m (k-1) 0=⟨[],(List.range (k*m)).map X2,⟨0,((k*m:Nat):Int)+1,[]⟩⟩:=by
   unfold Yt Ji;rw[if_pos rfl,if_pos (show 0+1=k-(k-1) by omega),show k-1+1=k by omega]
  rw[hbl]at this;exact this
 have hI:Bl (0:Int) (L0 k m (k-1)).Blocks.length:=by rw[hlen];exact⟨by omega,by omega⟩
 rw[Ad (λ_=>hI),Ad (λ_=>hI),Ad (λ_=>hI),hlen,hb0,hkN,hA,hmul]
 dsimp only
 rw[B9,Lw];rw[show((((1:Nat):Int))!=(1:Int))=false from rfl,A8,show(((k*m:Nat):Int)!=((k*m:Nat):Int))=false by simp,A8,show((0:Int)!=(0:Int))=false from rfl,A8,show((((k*m:Nat):Int)+1)!=(((k*m:Nat):Int)+1))=false by simp,A8]
 have k3:=Ko (C1 (L0 k m (k-1))) (λi=>((i:Nat):Int)) (.inl ()) (k*m) (λi hi=>by
  unfold C1;rw[Ad hI,hb0]
  dsimp only
  rw[B9,Lw,Dd hi,Ai,Ad hI,Ad (Ar hi),Ao,Kx hi];rw[show Ay ((i:Int)+2)=(i:Int)+2 from Ed (by omega) (by omega)]
  rw[show((X2 i).Dst !=(i:Int)+2)=false by show(((i:Int)+2)!=(i:Int)+2)=false;simp,A8,w1 (show i<4611686018427387904 by omega)]) (by
  unfold C1;rw[Ad hI,hb0]
  dsimp only
  rw[B9,Lw,Fm,A8])
 have k3':Af (C1 (L0 k m (k-1))) (0:Int)=_:=k3;rw[k3'];rfl
end
end Go.Proofs.YtfhggcbcamamdaaGreat
