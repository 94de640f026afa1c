/-
  The machine, the program's functions and the laws' arithmetic: part 6 of 6.
-/
import Derived.Test.YthelaonnkkpbfaaGreatPk5
set_option linter.unusedSectionVars false
set_option linter.unusedVariables false
set_option linter.unusedSimpArgs false
namespace Go.Proofs.YthelaonnkkpbfaaGreat
noncomputable section
open Go Go.RowKit
variable {X α:Type}{f:AI}{i k:Nat}{h v:AT}{a x:Int}{p:A8}{b:Ab}{o:A0}{ops:List A0}{l:List Int}
theorem loop_first(f:Int->Option (LR Int X))(p:Nat->Bool)(out:Nat->X)(no:X)(n:Nat)(hn:∀ i,i<n->p i=false->f (i:Int)=some (.next (((i+1:Nat):Int))))
  (hf:∀ i,i<n->p i=true->f (i:Int)=some (.done (out i))) (he:f (n:Int)=some (.done no)) :
  (∃ i,i<n/\p i=true/\Ae f (0:Int)=some (out i))\/((∀ i,i<n->p i=false)/\Ae f (0:Int)=some no):=by
 suffices h:∀ k i,i+k=n->(∀ j,j<i->p j=false)->(∃ i',i'<n/\p i'=true/\Ae f i=some (out i'))\/((∀ i,i<n->p i=false)/\Ae f i=some no) from
  h n 0 (by omega) (λj hj=>absurd hj (W4 _))
 intro k
 induction k with
 | zero=>
  intro i hi hj
  obtain rfl:i=n:=by omega
  exact .inr ⟨hj,An he⟩
 | succ k ih=>
  intro i hi hj
  cases hp:p i with
  | true=>exact .inl ⟨i,by omega,hp,An (hf i (by omega) hp)⟩
  | false=>
   rw[Ap (hn i (by omega) hp)];refine ih _ (by omega) λj hj2=>?_
   by_cases e:j=i
   ·subst e;exact hp
   ·exact hj j (by omega)
theorem kB(hh:FG f i=some h):h.At=i:=by
 unfold FG at hh
 revert hh
 cases(((bA f i).End.Kind==2)&&!(El f i 0==El f i 1))<;>cases oi f i _ _<;>cases bK f i _ _<;>cases bK f i _ _<;>intro hh<;>cases hh<;>rfl
theorem mem_all:h∈fU f↔∃ i,i<f.Blocks.length/\FG f i=some h:=by
 unfold fU
 constructor
 ·grind
 ·grind
theorem ww:(fU f).length<=f.Blocks.length:=by
 unfold fU;have:=J6 1 (λi=>(FG f i).toList) (List.range f.Blocks.length) (λi _=>cK _)
 simpa using this
def vQ(f:AI)(h:AT):Bool:=decide (As h.At f.Blocks.length)&&decide (FG f h.At.toNat=some h)
theorem is_mem:vQ f h=true↔h∈fU f:=by
 unfold vQ;rw[mem_all,Az,Hs,Hs]
 constructor
 ·rintro⟨h1,h2⟩;exact⟨_,by have:=h1.1;have:=h1.2;omega,h2⟩
 ·rintro⟨i,h1,h2⟩;have:=kB h2;exact⟨by rw[this];exact Ai h1,by grind⟩
def bT(f:AI)(a:Int):AT×Bool:=if As a f.Blocks.length then(match FG f a.toNat with|some h=>(h,true)|none=>(zH,false)) else(zH,false)
theorem pC(hh:vQ f h=true):bT f h.At=(h,true):=by
 unfold vQ at hh;rw[Az,Hs,Hs]at hh;unfold bT;rw[if_pos hh.1,hh.2]
theorem pB(hh:∀ h,vQ f h=true->h.At≠a):bT f a=(zH,false):=by
 unfold bT
 split
 ·rename_i hin
  cases ho:FG f _ with
  | none=>rfl
  | some h=>
   have e:=kB ho;have :=Mp hin.1;exact absurd (e.trans this) (hh h (is_mem.2 (mem_all.2 ⟨_,by  have:=hin.2;omega,ho⟩)))
 ·rfl
def Ue(f:AI):Bool:=E2 f 2==0
def allHR(f:AI):List AT:=bif Ue f then fU f else[]
def Mh(f:AI)(h:AT):Bool:=Ue f&&vQ f h
def AX(f:AI)(a:Int):AT×Bool:=bif Ue f then bT f a else(zH,false)
theorem isHR_mem:Mh f h=true↔h∈allHR f:=by
 unfold Mh allHR
 cases Ue f with
 | true =>  exact is_mem
 | false=>simp
theorem kN(h:Sm f):Mk f=some (allHR f):=Aek h
theorem oY:(allHR f).length<=f.Blocks.length:=by
 unfold allHR;cases Ue f
 ·simp
 ·exact ww
theorem nT(h:Sm f):(allHR f).length<4611686018427387904:=by
 by_cases hc:Ue f=true
 ·have:=(GD h (by simpa [Ue] using hc)).hi;have:=oY (f:=f);omega
 ·unfold allHR;rw[Bool.eq_false_iff.2 hc];simp
theorem sc(v x:AT):((v.At==x.At)&&((v.Then==x.Then)&&((v.Else==x.Else)&&((v.Join==x.Join)&&true))))=decide (v=x):=by
 cases v;cases x
 rw[GS];simp[AT.mk.injEq]
theorem Af3(h:Sm f)(v:AT):Vr f v=some (Mh f v):=by
 unfold Vr D2 Ew;rw[kN h,Am];have hn:=nT h
 rcases loop_first (m_slices_Index_api_Hammock_api_Hammock_L1 (allHR f) v) (λi=>decide (v=(allHR f).getD i default)) (λi=>.inr i) (.inl ()) (allHR f).length (λi hi hp=>by
   unfold m_slices_Index_api_Hammock_api_Hammock_L1
   simp only[B0 hi,Ah,Ao,Aa (Ai hi),sc,hp,Ar,w1 (show i<4611686018427387904 by omega)]) (λi hi hp=>by
   unfold m_slices_Index_api_Hammock_api_Hammock_L1
   simp only[B0 hi,Ah,Ao,Aa (Ai hi),sc,hp]) (by unfold m_slices_Index_api_Hammock_api_Hammock_L1;simp only[Cy,Ar]) with⟨i,hi,hp,hl⟩|⟨hp,hl⟩
 ·rw[hl];have hm:Mh f v=true:=isHR_mem.2 (by grind);rw[hm]
  simp
 ·rw[hl]
  have hm:Mh f v=false:=by
   rw[Bool.eq_false_iff];intro hm;obtain⟨i,hi,he⟩:=H8 (isHR_mem.1 hm);have:=hp i hi;rw[Ad _ _ _ hi,he]at this;simp at this
  rw[hm];rfl
def Ef(f:AI)(x:Int):List A0:=bif x !=-1 then(bA f x.toNat).Ops else[]
def Vu(f:AI)(h:AT):List A0:=Ef f h.Then++Ef f h.Else
theorem dJ(R:Rt f)(hi:i<f.Blocks.length)(hh:FG f i=some h) :
  (bA f i).End.Kind=2/\El f i 0≠El f i 1/\As h.Join f.Blocks.length/\h.Join≠i /\
  ((h.Then=El f i 0/\h.Else=El f i 1/\Oe f i h.Then=true/\Oe f i h.Else=true/\El f h.Then.toNat 0=h.Join/\El f h.Else.toNat 0=h.Join)\/(h.Then=El f i 0/\h.Else = -1/\h.Join=El f i 1/\Oe f i h.Then=true/\El f h.Then.toNat 0=h.Join)\/(h.Then = -1/\h.Else=El f i 1/\h.Join=El f i 0/\Oe f i h.Else=true/\El f h.Else.toNat 0=h.Join)):=by
 unfold FG at hh
 cases hk:(((bA f i).End.Kind==2)&&!(El f i 0==El f i 1)) with
 | false=>rw[hk]at hh;cases hh
 | true=>
  rw[hk]at hh;simp only[Az,zzL34,Qr,zzL30]at hk;obtain⟨hk1,hk2⟩:=hk;have t0:=Rv R hi hk1 0 (by omega);have t1:=Rv R hi hk1 1 (by omega)
  have hb:∀ x,As x f.Blocks.length->Oe f i x=true->As _ _:=λx hx hm=>by
   have hxn:x.toNat<f.Blocks.length:=by  have:=hx.2;omega
   unfold Oe at hm;simp only[Az,zzL34]at hm;have:=R.to _ hxn 0 (by rw[R.one _ hxn hm.1.1];omega);exact⟨by omega,this.2⟩
  refine⟨hk1,hk2,?_⟩
  cases h1:oi f i _ _ with
  | true=>
   rw[h1]at hh;cases hh;unfold oi at h1;simp only[Az,zzL34,Qr,zzL30]at h1;obtain⟨⟨⟨a1,a2⟩,a3⟩,a4⟩:=h1;exact⟨hb _ t0 a1,a4,.inl ⟨rfl,rfl,a1,a2,rfl,a3.symm⟩⟩
  | false=>
   rw[h1]at hh
   cases h2:bK f i _ _ with
   | true=>
    rw[h2]at hh;cases hh;unfold bK at h2;simp only[Az,zzL34,Qr,zzL30]at h2;obtain⟨⟨a1,a3⟩,a4⟩:=h2;exact⟨t1,a4,.inr (.inl ⟨rfl,rfl,rfl,a1,a3⟩)⟩
   | false=>
    rw[h2]at hh
    cases h3:bK f i _ _ with
    | true=>
     rw[h3]at hh;cases hh;unfold bK at h3;simp only[Az,zzL34,Qr,zzL30]at h3;obtain⟨⟨a1,a3⟩,a4⟩:=h3;exact⟨t0,a4,.inr (.inr ⟨rfl,rfl,rfl,a1,a3⟩)⟩
    | false=>rw[h3]at hh;cases hh
theorem Y9(R:Rt f)(hi:i<f.Blocks.length)(hh:FG f i=some h):(h.Then = -1\/As h.Then f.Blocks.length)/\(h.Else = -1\/As h.Else f.Blocks.length):=by
 obtain⟨hk,_,_,_,hc⟩:=dJ R hi hh;have t0:=Rv R hi hk 0 (by omega);have t1:=Rv R hi hk 1 (by omega);rcases hc with⟨a,b,_⟩|⟨a,b,_⟩|⟨a,b,_⟩
 ·grind
 ·grind
 ·grind
theorem Kl(R:Rt f)(hx:x = -1\/As x f.Blocks.length):(Ef f x).length<=512:=by
 unfold Ef
 by_cases e:x = -1
 ·grind
 ·rcases hx with hx|hx
  ·exact absurd hx e
  ·rw[show(x !=-1)=true by simpa using e];exact(R.ok.block _ (Ag (by have:=hx.1;have:=hx.2;omega))).ops
theorem fg(R:Rt f)(h:AT)(hk:k<2)(x:Int)(he:([h.Then,h.Else]:List Int).getD k 0=x)(hx:x = -1\/As x f.Blocks.length)(l:List A0)(hl:l.length<=512) :
  Lt f h (l,(k:Int))=some (.next (l++Ef f x,((k+1:Nat):Int))):=by
 have ab1:2000<=room:=by decide
 unfold Lt;have IT:=Kl R hx;simp only[Ao,he,B0 (show k<[h.Then,h.Else].length from hk),Ah,Aa (Ai (show k<[h.Then,h.Else].length from hk)),w1 (show k<4611686018427387904 by omega)];unfold Ef at IT ⊢
 by_cases e:x = -1
 ·grind
 ·have e':(x !=-1)=true:=by simpa using e
  rw[e']at IT ⊢;rcases hx with hx|hx
  ·exact absurd hx e
  ·rw[Ah]at IT;rw[Ah,Aa hx,Ah,Aa (show l.length+(bA f _).Ops.length<=room by omega),Am]
theorem zL(h:Sm f)(v:AT):Ls f v=some (bif Mh f v then(Vu f v,true) else([],false)):=by
 unfold Ls;rw[Af3 h]
 cases hi:Mh f v with
 | false=>rfl
 | true=>
  unfold Mh at hi;rw[Az]at hi;have R:=GD h (by simpa [Ue] using hi.1);obtain⟨i,hin,ho⟩:=mem_all.1 (is_mem.1 hi.2);obtain⟨h1,h2⟩:=Y9 R hin ho;have s0:=fg R v (k:=0) (by omega) v.Then rfl h1 [] (by simp);have s1:=fg R v (k:=1) (by omega) _ rfl h2 ([]++Ef f _) (by  exact Kl R h1)
  have hL:Ae (Lt f v) ([],0)=some (Vu f v):=by
   have e0:Ae _ ([],(0:Int))=_:=Ap s0;rw[e0];have e1 :=Ap s1;rw[e1];rw[Vi];rfl
  rw[hL];rfl
theorem Abn(h:Sm f)(v:AT):Pa f v=some (bif Mh f v then((Vu f v).length:Int) else 0):=by
 unfold Pa;rw[zL h]
 cases Mh f v<;>rfl
theorem xf(l:List A0)(hl:l.length<4611686018427387904):Dq l=some (l.any λo=>o.Lanes !=1):=by
 unfold Dq Ha
 rcases loop_first (m_slices_IndexFunc_api_Op_api_Op_L1 l) (λi=>(l.getD i default).Lanes !=1) (λi=>.inr i) (.inl ()) l.length (λi hi hp=>by
   unfold m_slices_IndexFunc_api_Op_api_Op_L1
   simp only[B0 hi,Ah,Ao,Aa (Ai hi),Nk,Am,hp,Ar,w1 (show i<4611686018427387904 by omega)]) (λi hi hp=>by
   unfold m_slices_IndexFunc_api_Op_api_Op_L1
   simp only[B0 hi,Ah,Ao,Aa (Ai hi),Nk,Am,hp]) (by unfold m_slices_IndexFunc_api_Op_api_Op_L1;simp only[Cy,Ar]) with⟨i,hi,hp,hl⟩|⟨hp,hl⟩
 ·rw[hl,List.any_eq_true.2 ⟨_,Ag hi,hp⟩]
  simp
 ·rw[hl]
  have:(l.any λo=>o.Lanes !=1)=false:=by
   rw[Bool.eq_false_iff];intro h;obtain⟨o,ho,hb⟩:=List.any_eq_true.1 h;obtain⟨i,hi,he⟩:=H8 ho;have:=hp i hi;rw[Ad _ _ _ hi,he,hb]at this
   cases this
  rw[this];rfl
def S8(f:AI)(v:AT):Bool:=Mh f v&&(Vu f v).all λo=>o.Lanes==1
theorem iE(h:Sm f)(hi:Mh f v=true):(Vu f v).length<=1024:=by
 unfold Mh at hi;rw[Az]at hi;have R:=GD h (by simpa [Ue] using hi.1);obtain⟨i,hin,ho⟩:=mem_all.1 (is_mem.1 hi.2);obtain⟨h1,h2⟩:=Y9 R hin ho;have:=Kl R h1;have:=Kl R h2;unfold Vu;rw[He];omega
theorem sr(h:Sm f)(v:AT):Pp f v=some (S8 f v):=by
 unfold Pp S8;rw[zL h]
 cases hi:Mh f v with
 | false=>rfl
 | true=>
  have hl:=iE h hi;simp only[Ah,show(true==true)=true from rfl,xf _ (show(Vu f v).length<4611686018427387904 by omega),Am];rw[List.not_any_eq_all_not];simp[bne]
theorem yF(l:List Int)(a:Int):(bif ((l.length:Int)==1) then(l.getD (0:Int).toNat 0==a) else false)=decide (l=[a]):=by
 rcases l with _|⟨x,_|⟨y,l⟩⟩
 ·rfl
 ·grind
 ·grind
theorem sy(R:Rt f)(a t x j:Int)(ht:As t f.Blocks.length) :
  It f (La (Bf f)) a t x j=some (bif x==-1 then t==j else(x==t)&&(Oe f a x&&(El f x.toNat 0==j))):=by
 unfold It
 cases hx:(x==-1) with
 | true=>rfl
 | false=>
  by_cases e:x=t
  ·subst e;have hp:(La _).Pred=Co (Bf f):=rfl
   have hpl:As x (Co (Bf f)).length:=by rw[tj];exact ht
   have hxn:x.toNat<f.Blocks.length:=by have:=ht.1;have:=ht.2;omega
   have eb:f.Blocks.getD _ _=bA f x.toNat:=rfl;have ep:(Co _).getD _ []=BV f x.toNat:=rfl;rw[show(x !=x)=false by simp, show(x==x)=true by simp, hp, ep,Aa ht,Aa hpl,Aa (λ_=>hpl),yF]
   have c0:∀ q:Bool,((((BV f x.toNat).length:Int)==1)==true)=true->As 0 (BV f x.toNat).length:=λ_ hq=>by
    have :=by simpa using hq
    exact⟨by omega,by omega⟩
   rw[Aa (c0 true)]
   have e2:((((bA f x.toNat).Phis.length:Int)==0))=decide ((bA f x.toNat).Phis.length=0):=by grind
   rw[e2]
   have e3:(bif (bif decide (BV f x.toNat=[a]) then decide ((bA f x.toNat).Phis.length=0) else false) then((bA f x.toNat).End.Kind==1) else false)=Oe f a x:=by
    unfold Oe
    cases decide (BV f _=[a])<;>cases decide ((bA f _).Phis.length=0)<;>cases((bA f _).End.Kind==1)<;>rfl
   rw[e3,Aa (λhq=>by
    have hm :=by simpa using hq
    unfold Oe at hm;simp only[Az,zzL34]at hm
    exact⟨by omega,by rw[R.one _ hxn hm.1.1];omega⟩)]
   cases Oe f a x<;>rfl
  ·grind
def iW(f:AI)(a t x j:Int):Bool:=bif x==-1 then t==j else(x==t)&&(Oe f a x&&(El f x.toNat 0==j))
def isD(f:AI)(h:AT):Bool:=
 decide (As h.At f.Blocks.length)&&decide (As h.Join f.Blocks.length)&&!(h.At==h.Join)&&!((h.Then==-1)&&(h.Else==-1)) &&
 (((bA f h.At.toNat).End.Kind==2)&&!(El f h.At.toNat 0==El f h.At.toNat 1))&&(iW f h.At (El f h.At.toNat 0) h.Then h.Join&&iW f h.At (El f h.At.toNat 1) h.Else h.Join)
theorem su(h:Sm f)(v:AT):Ic f v=some (Ue f&&isD f v):=by
 have Is:f.Blocks.length<=maxLen:=h.1.blocks;unfold Ic;rw[Xn h 2,Am]
 cases hc:Ue f with
 | false=>
  have:(E2 f 2 !=0)=true:=by unfold Ue at hc;simpa using hc
  rw[this,Ah,KO]
 | true=>
  have hc0:E2 f 2=0:=by simpa [Ue] using hc
  have R:=GD h hc0
  have hs:Nt f=true:=by
   have:=((Mg (f:=f) (l:=2) (by omega) (by omega)).1 hc0).2.1;unfold Eg at this;rw[Az]at this;exact this.1
  rw[hc0,show((0:Int)!=0)=false from rfl,Ar,Kd];unfold isD
  have e1:(bif (bif (bif (decide (v.At<0)) then true else(decide ((f.Blocks.length:Int)<=v.At))) then true else(decide (v.Join<0))) then true else(decide ((f.Blocks.length:Int)<=v.Join))) = !(decide (As v.At f.Blocks.length)&&decide (As v.Join f.Blocks.length)):=by
   simp only[bJ];rw[GS];simp only[W1,Hs,Qr,Bool.and_eq_false_iff,XI];unfold As;omega
  rw[e1]
  by_cases hA:As v.At f.Blocks.length
  ·by_cases hJ:As v.Join f.Blocks.length
   ·rw[Da hA,Da hJ]
    have hAn:v.At.toNat<f.Blocks.length:=by have:=hA.1;have:=hA.2;omega
    cases hAJ:(v.At==v.Join) with
    | true=>rfl
    | false=>
     have e2:(bif (v.Then==-1) then(v.Else==-1) else false)=((v.Then==-1)&&(v.Else==-1)):=by cases(v.Then==-1)<;>rfl
     rw[e2]
     cases hTE:((v.Then==-1)&&(v.Else==-1)) with
     | true=>rfl
     | false=>
      have eb:f.Blocks.getD v.At.toNat default=bA f v.At.toNat:=rfl;simp only[Kd,D3,Mq,Ar,Aa hA,eb]
      by_cases hk:(bA f v.At.toNat).End.Kind=2
      ·have h2:=R.two _ hAn hk;have i0:As (0:Int) (bA f v.At.toNat).End.To.length:=⟨by omega,by omega⟩;have i1:As (1:Int) (bA f v.At.toNat).End.To.length:=⟨by omega,by omega⟩;have g0:(bA f v.At.toNat).End.To.getD (0:Int).toNat 0=El f v.At.toNat 0:=rfl;have g1:(bA f v.At.toNat).End.To.getD (1:Int).toNat 0=El f v.At.toNat 1:=rfl;rw[Aa (λ_=>i0),Aa (λ_=>i1),g0,g1,show((bA f v.At.toNat).End.Kind !=2)=false by simpa using hk,show((bA f v.At.toNat).End.Kind==2)=true by simpa using hk,Ar,Kd]
       cases(El f v.At.toNat 0==El f v.At.toNat 1) with
       | true=>rfl
       | false=>
        rw[Ar,UV f Is,hs,Ah,Am,Aa i0];rw[sy R _ _ _ _ (Rv R hAn hk 0 (by omega)),Am,Aa (λ_=>i1),sy R _ _ _ _ (Rv R hAn hk 1 (by omega))];unfold iW
        cases(bif v.Then==-1 then El f v.At.toNat 0==v.Join else(v.Then==El f v.At.toNat 0)&&(Oe f v.At v.Then&&(El f v.Then.toNat 0==v.Join)))<;>rfl
      ·have e5:((bA f v.At.toNat).End.Kind !=2)=true:=by simpa using hk
       have e6:((bA f v.At.toNat).End.Kind==2)=false:=by simpa using hk
       rw[e5,e6,Ah,Aa (λh=>by cases h)]
       rfl
   ·grind
  ·rw[Ds hA];rfl
theorem s8(R:Rt f)(hx:As x f.Blocks.length)(hm:Oe f a x=true){p:Nat}(hp:p<f.Blocks.length)(hk:k<(bA f p).End.To.length)(ht:El f p k=x):(p:Int)=a:=by
 have hxn:x.toNat<f.Blocks.length:=by  have:=hx.2;omega
 unfold Oe at hm;simp only[Az,Hs]at hm;have :=(Wn R hxn).2 ⟨p,rfl,hp,by rw[Mp hx.1,<- ht];exact Ag hk⟩;rw[hm.2]at this
 simpa using this
theorem Qn(hm:Oe f a x=true):(bA f x.toNat).End.Kind=1:=by
 unfold Oe at hm;simp only[Az,zzL34]at hm;exact hm.1.1
theorem Abl(R:Rt f)(v:AT):isD f v=vQ f v:=by
 rw[GS]
 constructor
 ·intro h;unfold isD at h;simp only[Az,Hs,Qr,zzL30,zzL34]at h;obtain⟨⟨⟨⟨⟨hA,hJ⟩,hAJ⟩,hTE⟩,hk,hne⟩,h1,h2⟩:=h
  have hAn:v.At.toNat<f.Blocks.length:=by have:=hA.1;have:=hA.2;omega
  have hAc:((v.At.toNat:Nat):Int)=v.At:=Mp hA.1;have t0:=Rv R hAn hk 0 (by omega);have t1:=Rv R hAn hk 1 (by omega);unfold vQ;rw[Az,Hs,Hs];refine⟨hA,?_⟩;unfold FG;rw[show((bA f v.At.toNat).End.Kind==2)=true by simpa using hk,show(El f v.At.toNat 0==El f v.At.toNat 1)=false by simpa using hne,Kd,Mq,Ah,hAc]
  have hno:∀ x y:Int,As x f.Blocks.length->As y f.Blocks.length->Oe f v.At y=true->El f y.toNat 0=x->Oe f v.At x=true->False:=λx y hx hy my hyx mx=>by
   have hyn:y.toNat<f.Blocks.length:=by have:=hy.1;have:=hy.2;omega
   have:=s8 R hx mx hyn (k:=0) (by rw[R.one _ hyn (Qn my)];omega) hyx
   have e:v.At.toNat=y.toNat:=by omega
   have:=Qn my;rw[<- e,hk]at this;exact absurd this (by decide)
  unfold iW at h1 h2
  by_cases eT:v.Then = -1
  ·have eE:v.Else≠-1:=λe=>by rw[eT,e]at hTE;cases hTE
   rw[show(v.Then==-1)=true by simpa using eT,Ah,zzL34]at h1;rw[show(v.Else==-1)=false by simpa using eE,Ar,Az,Az,zzL34,zzL34]at h2;obtain⟨b1,b2,b3⟩:=h2;have b2':=b2;rw[b1]at b2 b3
   have hm0:Oe f v.At (El f v.At.toNat 0)=false:=by
    rw[Bool.eq_false_iff];exact λhm=>hno _ _ t0 t1 b2 (by rw[b3,h1]) hm
   have c1:oi f v.At (El f v.At.toNat 0) (El f v.At.toNat 1)=false:=by unfold oi;rw[hm0];rfl
   have c2:bK f v.At (El f v.At.toNat 0) (El f v.At.toNat 1)=false:=by unfold bK;rw[hm0];rfl
   have c3:bK f v.At (El f v.At.toNat 1) (El f v.At.toNat 0)=true:=by
    unfold bK;rw[b2,b3,h1]
    simp;exact λe=>hAJ e.symm
   rw[c1,c2,c3,Ar,Ar,Ah]
   cases v;simp_all
  ·rw[show(v.Then==-1)=false by simpa using eT,Ar,Az,Az,zzL34,zzL34]at h1;obtain⟨a1,a2,a3⟩:=h1;rw[a1]at a2 a3
   by_cases eE:v.Else = -1
   ·rw[show(v.Else==-1)=true by simpa using eE,Ah,zzL34]at h2
    have hm1:Oe f v.At (El f v.At.toNat 1)=false:=by
     rw[Bool.eq_false_iff];exact λhm=>hno _ _ t1 t0 a2 (by rw[a3,h2]) hm
    have c1:oi f v.At (El f v.At.toNat 0) (El f v.At.toNat 1)=false:=by unfold oi;rw[hm1,Bool.and_false];rfl
    have c2:bK f v.At (El f v.At.toNat 0) (El f v.At.toNat 1)=true:=by
     unfold bK;rw[a2,a3,h2]
     simp;exact λe=>hAJ e.symm
    rw[c1,c2,Ar,Ah]
    cases v;simp_all
   ·rw[show(v.Else==-1)=false by simpa using eE,Ar,Az,Az,zzL34,zzL34]at h2;obtain⟨b1,b2,b3⟩:=h2;rw[b1]at b2 b3
    have c1:oi f v.At (El f v.At.toNat 0) (El f v.At.toNat 1)=true:=by
     unfold oi;rw[a2,b2,a3,b3]
     simp;exact λe=>hAJ e.symm
    rw[c1,Ah]
    cases v;simp_all
 ·intro h;unfold vQ at h;rw[Az,Hs,Hs]at h;obtain⟨hA,ho⟩:=h
  have hAn:v.At.toNat<f.Blocks.length:=by have:=hA.1;have:=hA.2;omega
  have hAc:((v.At.toNat:Nat):Int)=v.At:=Mp hA.1;obtain⟨hk,hne,hJ,hAJ,hc⟩:=dJ R hAn ho;have t0:=Rv R hAn hk 0 (by omega);have t1:=Rv R hAn hk 1 (by omega);rw[hAc]at hAJ hc
  have n0:El f v.At.toNat 0≠-1:=by have:=t0.1;omega
  have n1:El f v.At.toNat 1≠-1:=by have:=t1.1;omega
  unfold isD;simp only[Az,Hs,Qr,zzL30,zzL34];refine⟨⟨⟨⟨⟨hA,hJ⟩,λe=>hAJ e.symm⟩,?_⟩,hk,hne⟩,?_⟩
  ·grind
  ·unfold iW;rcases hc with⟨a,b,c,d,e,g⟩|⟨a,b,c,d,e⟩|⟨a,b,c,d,e⟩
   ·grind
   ·grind
   ·grind
theorem mt(h:Sm f)(v:AT):Ic f v=some (Mh f v):=by
 rw[su h];unfold Mh
 cases hc:Ue f with
 | false=>rfl
 | true=>rw[Abl (GD h (by simpa [Ue] using hc))]
def zS(f:AI)(a:Int)(s:Nat):Int:=bif (s:Int)==2 then -1 else El f a.toNat 0
def zR(f:AI)(a:Int)(s:Nat):Int:=bif (s:Int)==1 then -1 else El f a.toNat 1
theorem xO(R:Rt f)(hA:As a f.Blocks.length)(hk:(bA f a.toNat).End.Kind=2)(hc:Ue f=true)(h:Sm f)(s:Nat)(hs:s<3) :
  (∃ j,j<f.Blocks.length/\Mh f ⟨a,zS f a s,zR f a s,(j:Int)⟩=true/\Ae (m_lockstepref14_Find_L1 f a (s:Int)) (0:Int)=some (.inr (⟨a,zS f a s,zR f a s,(j:Int)⟩,true))) \/
  ((∀ j,j<f.Blocks.length->Mh f ⟨a,zS f a s,zR f a s,(j:Int)⟩=false)/\Ae (m_lockstepref14_Find_L1 f a (s:Int)) (0:Int)=some (.inl ())):=by
 have hAn:a.toNat<f.Blocks.length:=by have:=hA.1;have:=hA.2;omega
 have h2:=R.two _ hAn hk;have i0:As (0:Int) (bA f a.toNat).End.To.length:=⟨by omega,by omega⟩;have i1:As (1:Int) (bA f a.toNat).End.To.length:=⟨by omega,by omega⟩;have hhi:=R.hi
 have key:∀ j:Nat,j<f.Blocks.length->m_lockstepref14_Find_L1 f a (s:Int) (j:Int)=bif Mh f _ then some _ else some _:=λj hj=>by
  unfold m_lockstepref14_Find_L1;have eb:f.Blocks.getD a.toNat default=bA f a.toNat:=rfl;have g0:(bA f a.toNat).End.To.getD (0:Int).toNat 0=El f a.toNat 0:=rfl;have g1:(bA f a.toNat).End.To.getD (1:Int).toNat 0=El f a.toNat 1:=rfl;simp only[eb,B0 hj,Ah,Aa i0,Aa i1,g0,g1]
  have eE:(bif ((s:Int)==1) then(some (-1:Int)) else(some (El f a.toNat 1)))=some (zR f a s):=by unfold zR;cases((s:Int)==1)<;>rfl
  have eT:(bif ((s:Int)==2) then(some (-1:Int)) else(some (El f a.toNat 0)))=some (zS f a s):=by unfold zS;cases((s:Int)==2)<;>rfl
  rw[eE,Am,eT,Am,mt h,Am,w1 (show j<4611686018427387904 by omega)]
 rcases loop_first (m_lockstepref14_Find_L1 f a (s:Int)) (λj=>Mh f _) _ (.inl ()) f.Blocks.length
  (λj hj hp=>by rw[key j hj,hp];rfl) (λj hj hp=>by rw[key j hj,hp];rfl) (by unfold m_lockstepref14_Find_L1;simp only[Cy,Ar]) with⟨j,hj,hp,hl⟩|⟨hp,hl⟩
 ·grind
 ·exact .inr ⟨hp,hl⟩
theorem gD(hv:Mh f v=true):AX f v.At=(v,true):=by
 unfold Mh at hv;rw[Az]at hv;unfold AX;rw[hv.1,Ah,pC hv.2]
theorem FB(hn:∀ v,Mh f v=true->v.At≠a):AX f a=(zH,false):=by
 unfold AX
 cases hc:Ue f with
 | false=>rfl
 | true=>
  exact pB λv hv=>hn v (by unfold Mh;rw[hc,hv];rfl)
theorem UH(R:Rt f)(hv:Mh f v=true):(bA f v.At.toNat).End.Kind=2/\As v.At f.Blocks.length/\As v.Join f.Blocks.length/\∃ s,s<3/\v.Then=zS f v.At s/\v.Else=zR f v.At s:=by
 unfold Mh vQ at hv;simp only[Az,Hs]at hv;obtain⟨hc,hA,ho⟩:=hv
 have hAn:v.At.toNat<f.Blocks.length:=by have:=hA.1;have:=hA.2;omega
 obtain⟨hk,hne,hJ,hAJ,hcs⟩:=dJ R hAn ho;refine⟨hk,hA,hJ,?_⟩;rcases hcs with⟨a,b,_⟩|⟨a,b,_⟩|⟨a,b,_⟩
 ·exact⟨0,by omega,a,b⟩
 ·exact⟨1,by omega,a,b⟩
 ·exact⟨2,by omega,a,b⟩
theorem pM(h:Sm f)(a:Int):L9 f a=some (AX f a):=by
 unfold L9;rw[Xn h 2,Am]
 cases hc:Ue f with
 | false=>
  have e:(E2 f 2 !=0)=true:=by unfold Ue at hc;simpa using hc
  rw[e];simp only[Ah];rw[Aa (λh=>by cases h)];unfold AX;rw[hc];rfl
 | true=>
  have hc0:E2 f 2=0:=by simpa [Ue] using hc
  have R:=GD h hc0
  have e0:(bif (bif (E2 f 2 !=0) then true else(decide (a<0))) then true else(decide ((f.Blocks.length:Int)<=a))) = !decide (As a f.Blocks.length):=by
   rw[hc0,show((0:Int)!=0)=false from rfl];simp only[bJ,XH];rw[GS];simp only[W1,Hs,Qr,XI];unfold As;omega
  rw[e0]
  by_cases hA:As a f.Blocks.length
  ·rw[Da hA,D3,Ar,Aa (λ_=>hA)];have eb:f.Blocks.getD a.toNat default=bA f a.toNat:=rfl;rw[eb]
   by_cases hk:(bA f a.toNat).End.Kind=2
   ·rw[show((bA f a.toNat).End.Kind !=2)=false by simpa using hk,Ar,Aa hA];have hin:=xO R hA hk hc h
    have step:∀ s:Nat,s<3->(∃ v,Mh f v=true/\v.At=a/\B8 f a (s:Int)=some (.done (.inr (v,true))))\/((∀ j:Nat,j<f.Blocks.length->Mh f ⟨a,zS f a s,zR f a s,(j:Int)⟩=false)/\B8 f a (s:Int)=some (.next (((s+1:Nat):Int)))):=λs hs=>by
     unfold B8;have hd:decide ((s:Int)<3)=true:=Da (by omega);rw[hd,Ah];rcases hin s hs with⟨j,hj,hp,hl⟩|⟨hp,hl⟩
     ·exact .inl ⟨_,hp,rfl,by rw[hl];rfl⟩
     ·refine .inr ⟨hp,?_⟩;rw[hl,Am,w1 (show s<4611686018427387904 by omega)]
    have fin:∀ v,Mh f v=true->v.At=a->Ae (B8 f a) (0:Int)=some (.inr (v,true))->(Ae (B8 f a) (0:Int)).bind (λx18=>(match x18 with|(.inl _)=>(some ((⟨(0:Int),(0:Int),(0:Int),(0:Int)⟩:AT),false))|(.inr r20)=>(some r20)))=some (AX f a):=λv hv e hl=>by
     rw[hl,<- e,gD hv];rfl
    rcases step 0 (by omega) with⟨v,h1,h2,h3⟩|⟨p0,n0⟩
    ·exact fin v h1 h2 (An h3)
    ·have n0':Ae (B8 f a) (0:Int)=Ae (B8 f a) ((1:Nat):Int):=Ap n0;rcases step 1 (by omega) with⟨v,h1,h2,h3⟩|⟨p1,n1⟩
     ·exact fin v h1 h2 (by rw[n0'];exact An h3)
     ·have n1':=Ap n1;rcases step 2 (by omega) with⟨v,h1,h2,h3⟩|⟨p2,n2⟩
      ·exact fin v h1 h2 (by rw[n0',n1'];exact An h3)
      ·have n2':=Ap n2
       have hend:Ae (B8 f a) (0:Int)=some (.inl ()):=by
        rw[n0',n1',n2'];refine An ?_;unfold B8;rfl
       rw[hend,FB]
       ·rfl
       ·intro v hv e;obtain⟨_,_,hJ,s,hs,eT,eE⟩:=UH R hv
        have hj:v.Join.toNat<f.Blocks.length:=by have:=hJ.1;have:=hJ.2;omega
        have ev:v=⟨a,zS f a s,zR f a s,((v.Join.toNat:Nat):Int)⟩:=by
         rw[Mp hJ.1,<- e,<- eT,<- eE]
        rw[ev]at hv
        have hcs:s=0\/s=1\/s=2:=by omega
        rcases hcs with rfl|rfl|rfl
        ·rw[p0 _ hj]at hv;cases hv
        ·rw[p1 _ hj]at hv;cases hv
        ·rw[p2 _ hj]at hv;cases hv
   ·rw[show((bA f a.toNat).End.Kind !=2)=true by simpa using hk,Ah,FB]
    ·rfl
    ·intro v hv e;obtain⟨hk2,_⟩:=UH R hv;rw[e]at hk2;exact hk hk2
  ·rw[Ds hA,Mq];simp only[Ah];rw[Aa (λh=>by cases h),FB]
   ·rfl
   ·intro v hv e;obtain⟨_,hA2,_⟩:=UH R hv;rw[e]at hA2;exact hA hA2
def lone(e:Ny)(b r:Int):AI:=⟨[b],r,[⟨[],[],e⟩]⟩
theorem Af6(l:List α):(l.map λ_=>1).sum=l.length:=by induction l with|nil=>rfl|cons a l ih=>simp[ih];omega
theorem WY(h:Rk f 2=true)(hb:b∈f.Blocks)(ho:o∈b.Ops):Dp o=true:=by
 simp only[Rk,G0,Az,zzL21]at h;have:=(h.1.2 b hb).2 o ho;rw[iC  rfl]at this;exact this.1
theorem xT(n d:Int):n<=grow n d/\d<=grow n d:=by
 unfold grow
 by_cases h:n<d
 ·grind
 ·grind
theorem NU{α:Type}(v:α->Int):∀(l:List α) (n:Int),n<=l.foldl (λn a=>grow n (v a)) n/\∀ a∈l,v a<=l.foldl (λn a=>grow n (v a)) n
 | [],n=>by simp
 | a::l,n=>by
  obtain⟨h1,h2⟩:=NU v l (grow n (v a));have h3:=xT n (v a);rw[AB];refine⟨by omega,λx hx=>?_⟩;rcases zzL31.1 hx with rfl|hx
  ·omega
  ·exact h2 x hx
theorem FK:∀(l:List Ab) (n:Int),n<=l.foldl (λn b=>b.Ops.foldl (λn o=>grow n o.Dst) (b.Phis.foldl (λn p=>grow n p.Dst) n)) n /\
  ∀ b∈l,(∀ p∈b.Phis,p.Dst<=l.foldl (λn b=>b.Ops.foldl (λn o=>grow n o.Dst) (b.Phis.foldl (λn p=>grow n p.Dst) n)) n)/\∀ o∈b.Ops,o.Dst<=l.foldl (λn b=>b.Ops.foldl (λn o=>grow n o.Dst) (b.Phis.foldl (λn p=>grow n p.Dst) n)) n
 | [],n=>by simp
 | b::l,n=>by
  obtain⟨p1,p2⟩:=NU (λp =>p.Dst) b.Phis n;obtain⟨q1,q2⟩:=NU (λo =>o.Dst) b.Ops (b.Phis.foldl (λn p=>grow n p.Dst) n);obtain⟨h1,h2⟩:=FK l (b.Ops.foldl (λn o=>grow n o.Dst) (b.Phis.foldl (λn p=>grow n p.Dst) n));rw[AB];refine⟨by omega,λx hx=>?_⟩;rcases zzL31.1 hx with rfl|hx
  ·grind
  ·exact h2 x hx
theorem NS{d:TDef}(hd:d∈Aw f):d.V<=Gx f:=by
 obtain⟨h1,h2⟩:=FK f.Blocks f.Params.length;unfold Gx;rw[Aw,zzL8]at hd;rcases hd with hd|hd
 ·simp only[Sj,zzL54,zzL41,zzL10]at hd;obtain⟨i,hi,rfl⟩:=hd
  show(i:Int)+1<=_
  omega
 ·simp only[zzL54,zzL41]at hd;obtain⟨i,hi,hd⟩:=hd;have ab3:=Ag (d:=default) hi;rw[Si,zzL8]at hd;rcases hd with hd|hd
  ·simp only[Sk,zzL54,zzL41,zzL10]at hd;obtain⟨k,hk,rfl⟩:=hd;exact(h2 _ ab3).1 _ (Ag hk)
  ·simp only[X9,zzL54,zzL41]at hd;obtain⟨k,hk,hd⟩:=hd
   cases hg:decide (0<(Bn _).1) with
   | false=>rw[hg]at hd;cases hd
   | true=>
    rw[hg]at hd;obtain rfl:=zzL10.1 hd;exact(h2 _ ab3).2 _ (Ag hk)
set_option maxRecDepth 100000
theorem iX(hf:ZJ f):Ae (Cj f) ((0:Int),(0:Int))=some (sizeW f):=by
 have hl:=HT _ default Wt id (Cj f) (λn i hi=>by
   have e1:decide ((i:Int)<f.Blocks.length)=true:=by simpa using hi
   unfold Cj;simp only[e1,Ah,Aa (Ai hi),Dn,Me hi hf.blocks]
   congr 3
   rw[X1,X1,Int.add_assoc _,X1];unfold Wt
   congr 1
   omega) (λn=>by
   unfold Cj
   simp) _ 0 0 (Ke _)
 rw[show w64 _=0 from rfl,show((0:Nat):Int)=0 from rfl]at hl;rw[hl];simp[Ts,sizeW]
theorem pQ(hf:ZJ f):∃ b,Fk f=some b/\(b=true->Sm f/\(R6 f=true->f.Blocks.length<=16)):=by
 obtain⟨b,h1,h2⟩:=pP hf;refine⟨b,h1,λhb=>⟨h2 hb,λhm=>?_⟩⟩;unfold Fk at h1;rw[iX hf,Am]at h1;obtain⟨y,hy,h1⟩:=bind_some h1;have h3:=OI h1;unfold R6 at hm;simp only[Az,Hs]at hm;rw[ Ds (show ¬ (64:Int)<f.Blocks.length by omega)]at h3
 by_cases hn:f.Blocks.length<=16
 ·omega
 ·grind
theorem gp(h:Sm f)(hi:Mh f v=true):Jt f v=some (Vu f v):=by
 have ab1:2000<=room:=by decide
 unfold Mh at hi;rw[Az]at hi;have R:=GD h (by simpa [Ue] using hi.1);obtain⟨i,hin,ho⟩:=mem_all.1 (is_mem.1 hi.2);obtain⟨h1,h2⟩:=Y9 R hin ho;have l1:=Kl R h1
 have one:∀ x ,(x = -1\/As x _)->∀ l ,l.length<=512->(bif (decide (0<=x)) then(Ay _ (Ay _ _)) else(some l))=some (l++Ef f x):=λx hx l hl=>by
  rcases hx with rfl|hx
  ·unfold Ef;rw[show(-1 !=-1)=false from rfl,Ar,List.append_nil];rfl
  ·have e1:x≠-1:=by have:=hx.1;omega
   have IT:=Kl R (.inr hx);unfold Ef at IT ⊢;rw[show(x !=-1)=true by simpa using e1,Ah]at IT ⊢;rw[Da hx.1,Ah,Aa hx,Aa (show l.length+(f.Blocks.getD x.toNat default).Ops.length<=room by grind)]
 unfold Jt;rw[one _ h1 [] (by simp),Am,Vi,one _ h2 _ l1]
 rfl
theorem ta(h:Sm f)(hc:Ue f=true)(hb:b∈f.Blocks)(ho:o∈b.Ops):Dp o=true:=
 WY ((Mg   (by omega) (by omega)).1 (by simpa [Ue] using hc)).2.2.1 hb ho
theorem tb(h:Sm f)(hi:Mh f v=true)(ho:o∈Vu f v):∃ b∈f.Blocks,o∈b.Ops:=by
 unfold Mh at hi;rw[Az]at hi;have R:=GD h (by simpa [Ue] using hi.1);obtain⟨i,hin,hm⟩:=mem_all.1 (is_mem.1 hi.2);obtain⟨h1,h2⟩:=Y9 R hin hm
 have one:∀ x ,(x = -1\/As x f.Blocks.length)->o∈Ef f x->∃ b∈f.Blocks,o∈b.Ops:=λx hx hox=>by
  unfold Ef at hox;rcases hx with rfl|hx
  ·cases hox
  ·rw[show(x !=-1)=true by grind]at hox;exact⟨_,Ag (by  have:=hx.2;omega),hox⟩
 rcases zzL8.1 ho with h3|h3
 ·exact one _ h1 h3
 ·exact one _ h2 h3
theorem pE(h:Dp o=true)(hl:o.Lanes=1):¬ 21<=o.Kind:=by
 simp only[Dp,Az]at h;have hk:=Abm h.1.2.1.1.1;have hs:=h.1.2.1.1.2;intro h21
 have hc:o.Kind=21\/o.Kind=22:=by omega
 rw[hl]at hs;rcases hc with e|e<;>rw[e]at hs<;>exact absurd hs (by simp[sfitS])
theorem gn(h:Sm f)(v:AT):J2 f v=some (S8 f v):=by
 unfold J2 S8;rw[mt h,Am]
 cases hi:Mh f v with
 | false=>rfl
 | true=>
  have hl:=iE h hi
  have hc :=by unfold Mh at hi;rw[Az]at hi;exact hi.1
  rw[D3, gp h hi,Am]
  have key:∀ i,i<(Vu f v).length->m_lockstepref14_Merges_L1 (Vu f v) i=bif ((Vu f v).getD i _).Lanes !=1 then some (.done _) else some _:=λi hil=>by
   unfold m_lockstepref14_Merges_L1;simp only[B0 hil,Ah,Ao,Aa (Ai hil),Aa (λ_=>Ai hil),w1 (show i<4611686018427387904 by omega)]
   by_cases e:((Vu f v).getD i default).Lanes=1
   ·obtain⟨b,hb,ho⟩:=tb h hi (Ag  hil);rw[show(((Vu f v).getD i _).Lanes !=1)=false by simpa using e,  Ds (pE (ta h hc hb ho) e),Ar]
   ·grind
  rcases loop_first (m_lockstepref14_Merges_L1 _) (λi=>((Vu f v).getD i _).Lanes !=1) _ (.inl ()) _ (λi hil hp=>by rw[key i hil,hp];rfl) (λi hil hp=>by rw[key i hil,hp];rfl)
   (by unfold m_lockstepref14_Merges_L1;simp only[Cy,Ar]) with⟨i,hil,hp,hL⟩|⟨hp,hL⟩
  ·grind
  ·rw[hL]
   have:((Vu f v).all λo=>o.Lanes==1)=true:=by
    rw[zzL21];intro o ho;obtain⟨i,hil,he⟩:=H8 ho;have:=hp i hil;rw[Ad _ _ _ hil,he]at this
    simpa using this
   rw[this];rfl
theorem gh{α σ S X:Type}(l:List α)(d:α)(mk:Nat->σ->S)(P:Nat->σ->Prop)(g:σ->α->σ)(out:σ->X)(f:S->Option (LR S X))
  (hn:∀ i s,i<l.length->P i s->f (mk i s)=some (.next (mk (i+1) (g s (l.getD i d))))/\P (i+1) (g s (l.getD i d)))
  (hd:∀ s,P l.length s->f (mk l.length s)=some (.done (out s))):∀(k i:Nat) (s:σ),i+k=l.length->P i s->Ae f (mk i s)=some (out ((l.drop i).foldl g s))/\P l.length ((l.drop i).foldl g s)
 | 0,i,s,h,hP=>by
  obtain rfl:i=l.length:=by omega
  rw[An (hd s hP)]
  simpa using hP
 | k+1,i,s,h,hP=>by
  have hi:i<l.length:=by omega
  obtain⟨h1,h2⟩:=hn i s hi hP;obtain⟨h3,h4⟩:=gh l d mk P g out f hn hd k _ _ (by omega) h2
  have hdr:l.drop i=l.getD i d::l.drop (i+1):=by simp_all
  rw[Ap h1,h3,hdr];exact⟨rfl,h4⟩
theorem Ld{σ S:Type}(l:List α)(d:α)(mk:Nat->σ->S)(P:Nat->σ->Prop)(g:σ->α->σ)(out:σ->X)(f:S->Option (LR S X))
  (hn:∀ i s,i<l.length->P i s->f (mk i s)=some (.next (mk (i+1) (g s (l.getD i d))))/\P (i+1) (g s (l.getD i d)))
  (hd:∀ s,P l.length s->f (mk l.length s)=some (.done (out s))) (s:σ) (hP:P 0 s):Ae f (mk 0 s)=some (out (l.foldl g s))/\P l.length (l.foldl g s):=
 gh l d mk P g out f hn hd l.length 0 s (by omega) hP
abbrev Pt:=List A0×Int
def Do(s:Pt)(k b m:Int)(az:List Int):Pt:=(s.1++[⟨k,b,1,w64 (s.2+1),az,m⟩],w64 (s.2+1))
def IK(o:A0)(g:Int)(s:Pt):A0×Pt:=
 bif o.Kind==16 then(⟨18,o.Bits,o.Lanes,o.Dst,[g,o.Args.getD 0 0,w64 (s.2+1)],o.Imm⟩,Do s 0 o.Bits 0 []) else
 bif o.Kind==17 then(⟨19,o.Bits,o.Lanes,o.Dst,[g,o.Args.getD 0 0,o.Args.getD 1 0],o.Imm⟩,s) else
 bif o.Kind==4 then(⟨20,o.Bits,o.Lanes,o.Dst,[g,o.Args.getD 0 0,o.Args.getD 1 0,w64 (s.2+1)],o.Imm⟩,Do s 0 o.Bits 0 []) else
 bif o.Kind==18 || (o.Kind==19 || o.Kind==20) then(⟨o.Kind,o.Bits,o.Lanes,o.Dst,w64 (s.2+1)::o.Args.drop 1,o.Imm⟩,Do s 5 1 0 [o.Args.getD 0 0,g]) else(o,s)
def Vw(g:Int)(s:Pt)(o:A0):Pt:=((IK o g s).2.1++[(IK o g s).1],(IK o g s).2.2)
def Nb(ops:List A0)(g:Int)(s:Pt):Pt:=ops.foldl (Vw g) s
theorem Y2(s:Pt)(k b m:Int)(az:List Int):(Do s k b m az).1.length=s.1.length+1:=by simp[Do]
theorem UD(o:A0)(g:Int)(s:Pt):(IK o g s).2.1.length<=s.1.length+1:=by
 unfold IK
 cases o.Kind==16<;>cases o.Kind==17<;>cases o.Kind==4<;>cases o.Kind==18 || (o.Kind==19 || o.Kind==20)<;>simp[Do]
theorem VW(g:Int)(s:Pt)(o:A0):(Vw g s o).1.length<=s.1.length+2:=by
 have:=UD o g s;simp[Vw];omega
theorem cI(ops:List A0)(g:Int):∀ s:Pt,(Nb ops g s).1.length<=s.1.length+2*ops.length:=by
 unfold Nb
 induction ops with
 | nil =>  simp
 | cons o l ih=>
  intro s;have h1:=ih (Vw g s o);have h2:=VW g s o;simp only[AB,Ry];omega
theorem grd_cases(o:A0)(g:Int)(s:Pt) :
  (o.Kind=16/\IK o g s=(⟨18,o.Bits,o.Lanes,o.Dst,[g,o.Args.getD 0 0,w64 (s.2+1)],o.Imm⟩,Do s 0 o.Bits 0 []))\/(o.Kind=17/\IK o g s=(⟨19,o.Bits,o.Lanes,o.Dst,[g,o.Args.getD 0 0,o.Args.getD 1 0],o.Imm⟩,s)) \/
  (o.Kind=4/\IK o g s=(⟨20,o.Bits,o.Lanes,o.Dst,[g,o.Args.getD 0 0,o.Args.getD 1 0,w64 (s.2+1)],o.Imm⟩,Do s 0 o.Bits 0 [])) \/
  ((o.Kind=18\/o.Kind=19\/o.Kind=20)/\IK o g s=(⟨o.Kind,o.Bits,o.Lanes,o.Dst,w64 (s.2+1)::o.Args.drop 1,o.Imm⟩,Do s 5 1 0 [o.Args.getD 0 0,g])) \/
  ((o.Kind≠16/\o.Kind≠17/\o.Kind≠4/\o.Kind≠18/\o.Kind≠19/\o.Kind≠20)/\IK o g s=(o,s)):=by
 unfold IK
 by_cases h1:o.Kind=16
 ·grind
 by_cases h2:o.Kind=17
 ·grind
 by_cases h3:o.Kind=4
 ·grind
 rw[ show(o.Kind==17)=false by simpa using h2]
 by_cases h4:o.Kind=18\/o.Kind=19\/o.Kind=20
 ·grind
 ·grind
def TJ(o:A0):Prop:=((o.Kind=16\/o.Kind=18\/o.Kind=19\/o.Kind=20)->1<=o.Args.length)/\((o.Kind=17\/o.Kind=4)->2<=o.Args.length)/\o.Args.length<=64
theorem wx(h:Dp o=true)(hl:o.Args.length<=64):TJ o:=by
 simp only[Dp,Az]at h;have hn:=h.1.2.2;refine⟨λhk=>?_,λhk=>?_,hl⟩
 ·rcases hk with e|e|e|e<;>rw[e]at hn<;>simp[K7]at hn<;>omega
 ·rcases hk with e|e<;>rw[e]at hn<;>simp[K7]at hn<;>omega
theorem HJ(d b m:Int)(az:List Int)(f:AI)(h:AT)(s:Pt)(hl:s.1.length<=1000000) :
  Cp d b m az f h s.1 s.2=some (w64 (s.2+1),f,h,(Do s d b m az).1,(Do s d b m az).2):=by
 have ab1:1000001<=room:=by decide
 unfold Cp Do;rw[Ac (by grind)]
theorem b6(d b m:Int)(az:List Int)(s:Pt)(hl:s.1.length<=1000000) :
  Cb d b m az s.1 s.2=some (w64 (s.2+1),(Do s d b m az).1,(Do s d b m az).2):=by
 have ab1:1000001<=room:=by decide
 unfold Cb Do;rw[Ac (by grind)]
theorem ov(ha:TJ o)(g:Int)(f:AI)(h:AT)(s:Pt)(hl:s.1.length<=1000000) :
  I8 o g f h s.1 s.2=some ((IK o g s).1,f,h,(IK o g s).2.1,(IK o g s).2.2):=by
 have ab1:(1000001:Nat)<=room:=by decide
 obtain⟨a1,a2,a3⟩:=ha;unfold I8 IK
 by_cases h16:o.Kind=16
 ·have hi:As (0:Int) o.Args.length:=⟨by omega,by grind⟩;rw[h16,show((16:Int)==16)=true from rfl,Ah,Ah,Aa hi,HJ _ _ _ _ _ _ _ hl]
  rfl
 ·rw[show(o.Kind==16)=false by simpa using h16,Ar,Ar]
  by_cases h17:o.Kind=17
  ·have hi:As (0:Int) o.Args.length:=⟨by omega,by omega⟩;have hj:As (1:Int) o.Args.length:=⟨by omega,by omega⟩;rw[h17,show((17:Int)==17)=true from rfl,Ah,Ah,Aa hi,Aa hj]
   rfl
  ·rw[show(o.Kind==17)=false by simpa using h17,Ar,Ar]
   by_cases h4:o.Kind=4
   ·have hi:As (0:Int) o.Args.length:=⟨by omega,by omega⟩;have hj:As (1:Int) o.Args.length:=⟨by omega,by omega⟩;rw[h4,show((4:Int)==4)=true from rfl,Ah,Ah,Aa hi,Aa hj,HJ _ _ _ _ _ _ _ hl]
    rfl
   ·rw[show(o.Kind==4)=false by simpa using h4,Ar]
    have e:(bif (o.Kind==18) then some (o.Kind==18) else bif (o.Kind==19) then some (o.Kind==19) else some (o.Kind==20))=some (o.Kind==18 || (o.Kind==19 || o.Kind==20)):=by
     grind
    rw[e,Am]
    cases hb:(o.Kind==18 || (o.Kind==19 || o.Kind==20)) with
    | false=>rfl
    | true=>
     simp only[W1,zzL34]at hb;have hi:As (0:Int) o.Args.length:=⟨by omega,by omega⟩;rw[Ah,Ah,Aa hi,HJ _ _ _ _ _ _ _ hl];simp only[Am];rw[Ac (by omega),Ac (by simp;omega)]
     rfl
theorem fj(ho:∀ o∈ops,TJ o)(hn:ops.length<=100000)(g:Int)(f:AI)(h:AT)(s:Pt)(hl:s.1.length<=100000) :
  E4 ops g f h s.1 s.2=some (f,h,(Nb ops g s).1,(Nb ops g s).2):=by
 have ab1:1000001<=room:=by decide
 have key:=Ld ops default (λi t=>((i:Int),f.Params,f.Ret,f.Blocks,h.At,h.Then,h.Else,h.Join,t.1,t.2)) (λi t=>t.1.length<=s.1.length+2*i) (Vw g) (λt=>(f.Params,f.Ret,f.Blocks,h.At,h.Then,h.Else,h.Join,t.1,t.2)) (Hv ops g)
  (λi t hi hP=>by
   have h2:=VW g t (ops.getD i default);refine⟨?_,by omega⟩;have h3:=UD (ops.getD i default) g t;unfold Hv;simp only[B0 hi, Aa (Ai hi),Ao,w1 (show i<4611686018427387904 by omega)];rw[  ov (ho _ (Ag hi)) g f h t (by omega),Am];rw[Ac (by grind)]
   rfl)
  (λt _=>by unfold Hv;simp only[Cy,Ar]) s (by omega)
 unfold E4;rw[show(0,f.Params,f.Ret,f.Blocks,h.At,h.Then,h.Else,h.Join,s.1,s.2)=(((0:Nat):Int),f.Params,f.Ret,f.Blocks,h.At,h.Then,h.Else,h.Join,s.1,s.2) from rfl,key.1]
 rfl
theorem tw(ho:∀ o∈ops,TJ o)(hn:ops.length<=100000)(g:Int)(s:Pt)(hl:s.1.length<=100000) :
  C8 ops g s.1 s.2=some (Nb ops g s):=by
 have ab1:(1000001:Nat)<=room:=by decide
 have key:=Ld ops (default:A0) (λi (t:Pt)=>((i:Int),t.1,t.2)) (λi t=>t.1.length<=s.1.length+2*i) (Vw g) (λt=>(t.1,t.2)) (Gv ops g)
  (λi t hi hP=>by
   have h2:=VW g t (ops.getD i default);refine⟨?_,by omega⟩;have h3:=UD (ops.getD i default) g t;obtain⟨a1,a2,a3⟩:=ho _ (Ag (d:=(default:A0)) hi);unfold Gv;simp only[B0 hi,Ah,Aa (Ai hi),Ao,w1 (show i<4611686018427387904 by omega)]
   revert h2 h3 a1 a2 a3
   generalize ops.getD i default=o
   intro h2 h3 a1 a2 a3;unfold Vw
   revert h3
   unfold IK
   by_cases h16:o.Kind=16
   ·have hi:As (0:Int) o.Args.length:=⟨by omega,by have:=a1 (.inl h16);omega⟩;rw[h16,show((16:Int)==16)=true from rfl];simp only[Ah];intro h3;rw[b6 _ _ _ _ _ (by omega)];simp only[Am];rw[Aa hi];simp only[Am];rw[Ac (by simp only[Ry,List.length_nil];omega)]
    rfl
   ·rw[show(o.Kind==16)=false by simpa using h16];simp only[Ar]
    by_cases h17:o.Kind=17
    ·have:=a2 (.inl h17);have hi:As (0:Int) o.Args.length:=⟨by omega,by omega⟩;have hj:As (1:Int) o.Args.length:=⟨by omega,by omega⟩;rw[h17,show((17:Int)==17)=true from rfl];simp only[Ah];intro h3;rw[Aa hi,Aa hj];simp only[Am];rw[Ac (by simp only[Ry,List.length_nil];omega)]
     rfl
    ·rw[show(o.Kind==17)=false by simpa using h17];simp only[Ar]
     by_cases h4:o.Kind=4
     ·have:=a2 (.inr h4);have hi:As (0:Int) o.Args.length:=⟨by omega,by omega⟩;have hj:As (1:Int) o.Args.length:=⟨by omega,by omega⟩;rw[h4,show((4:Int)==4)=true from rfl];simp only[Ah];intro h3;rw[b6 _ _ _ _ _ (by omega)];simp only[Am];rw[Aa hi,Aa hj];simp only[Am];rw[Ac (by simp only[Ry,List.length_nil];omega)]
      rfl
     ·rw[show(o.Kind==4)=false by simpa using h4];simp only[Ar]
      have e:(bif (o.Kind==18) then some (o.Kind==18) else bif (o.Kind==19) then some (o.Kind==19) else some (o.Kind==20))=some (o.Kind==18 || (o.Kind==19 || o.Kind==20)):=by
       cases o.Kind==18<;>cases o.Kind==19<;>rfl
      rw[e,Am]
      cases hb:(o.Kind==18 || (o.Kind==19 || o.Kind==20)) with
      | false=>
       simp only[Ar,Am];intro h3;rw[Ac (by simp only[Ry,List.length_nil];omega)]
      | true=>
       simp only[W1,zzL34]at hb;have:=a1 (by omega);have hi:As (0:Int) o.Args.length:=⟨by omega,by omega⟩;simp only[Ah];intro h3;rw[Aa hi,b6 _ _ _ _ _ (by omega)];simp only[Am];rw[Ac (by omega),Ac (by simp;omega)];simp only[Am];rw[Ac (by grind)]
       rfl)
  (λt _=>by unfold Gv;simp only[Cy,Ar]) s (by omega)
 unfold C8;rw[show((0:Int),s.1,s.2)=(((0:Nat):Int),s.1,s.2) from rfl,key.1]
 rfl
def Ci(h:AT)(x:Int):Int:=bif x==-1 then h.At else x
structure Hm(f:AI)(h:AT):Prop where
 R:Rt f
 at_:As h.At f.Blocks.length
 kind:(bA f h.At.toNat).End.Kind=2
 sides:(h.Then = -1\/As h.Then f.Blocks.length)/\(h.Else = -1\/As h.Else f.Blocks.length)
 join:As h.Join f.Blocks.length
 jne:h.Join≠h.At
 thenJ:Ci h h.Then∈BV f h.Join.toNat
 elseJ:Ci h h.Else∈BV f h.Join.toNat
 apart:Ci h h.Then≠Ci h h.Else
 atJ:h.At∈BV f h.Join.toNat->Ci h h.Then=h.At\/Ci h h.Else=h.At
 tne:h.Then≠h.At/\h.Else≠h.At/\h.Then≠h.Join/\h.Else≠h.Join
 mid:(h.Then≠-1->Oe f h.At h.Then=true/\El f h.Then.toNat 0=h.Join)/\(h.Else≠-1->Oe f h.At h.Else=true/\El f h.Else.toNat 0=h.Join)
 to:(h.Then≠-1->El f h.At.toNat 0=h.Then)/\(h.Then = -1->El f h.At.toNat 0=h.Join)/\(h.Else≠-1->El f h.At.toNat 1=h.Else)/\(h.Else = -1->El f h.At.toNat 1=h.Join)
 one:h.Then≠-1\/h.Else≠-1
theorem mi(hs:Sm f)(hi:Mh f h=true):Hm f h:=by
 have hi':=hi;unfold Mh at hi';rw[Az]at hi';have R:=GD hs (by simpa [Ue] using hi'.1);obtain⟨i,hin,ho⟩:=mem_all.1 (is_mem.1 hi'.2);have ea:=kB ho;obtain⟨hk,hne,hJ,hJA,hcs⟩:=dJ R hin ho;have hsd:=Y9 R hin ho;have e2:=R.two i hin hk
 have ei:h.At.toNat=i:=by rw[ea];simp
 have hJn:h.Join.toNat<f.Blocks.length:=by have:=hJ.1;have:=hJ.2;omega
 have hJc:((h.Join.toNat:Nat):Int)=h.Join:=Mp hJ.1
 have mpos:∀ x,Oe f i x=true->As x f.Blocks.length->x≠i/\x≠h.Join:=λx hm hx=>by
  have hk1:=Qn hm
  constructor
  ·rintro rfl;rw[show((i:Int)).toNat=i by simp,hk]at hk1;cases hk1
  ·rintro rfl
   have hp:BV f h.Join.toNat=[(i:Int)]:=by
    unfold Oe at hm;simp only[Az,Hs]at hm;exact hm.2
   rcases hcs with⟨a1,a2,a3,a4,a5,a6⟩|⟨a1,a2,a3,a4,a5⟩|⟨a1,a2,a3,a4,a5⟩
   all_goals
    have hx0:=hx.1
   ·have h1:As h.Then f.Blocks.length:=by
     rcases hsd.1 with h1|h1;· rw[h1]at a1;have:=Rv R hin hk 0 (by omega);rw[<- a1]at this;exact absurd this.1 (by omega)
     ·exact h1
    have aj4:h.Then∈BV f h.Join.toNat:=(Wn R hJn).2 ⟨h.Then.toNat,(Mp h1.1).symm,(by have:=h1.1;have:=h1.2;omega),by rw[hJc,<- a5];exact Ag (by rw[R.one _ (by have:=h1.1;have:=h1.2;omega) (Qn a3)];omega)⟩
    have h2:As h.Else f.Blocks.length:=by
     rcases hsd.2 with h2|h2;· rw[h2]at a2;have:=Rv R hin hk 1 (by omega);rw[<- a2]at this;exact absurd this.1 (by omega)
     ·exact h2
    have aj3:h.Else∈BV f h.Join.toNat:=(Wn R hJn).2 ⟨h.Else.toNat,(Mp h2.1).symm,(by have:=h2.1;have:=h2.2;omega),by rw[hJc,<- a6];exact Ag (by rw[R.one _ (by have:=h2.1;have:=h2.2;omega) (Qn a4)];omega)⟩;rw[hp]at aj4 aj3;simp only[zzL10]at aj4 aj3;exact hne (by rw[<- a1,<- a2,aj4,aj3])
   ·have h1:As h.Then f.Blocks.length:=by
     rcases hsd.1 with h1|h1;· rw[h1]at a1;have:=Rv R hin hk 0 (by omega);rw[<- a1]at this;exact absurd this.1 (by omega)
     ·exact h1
    have aj4:h.Then∈BV f h.Join.toNat:=(Wn R hJn).2 ⟨h.Then.toNat,(Mp h1.1).symm,(by have:=h1.1;have:=h1.2;omega),by rw[hJc,<- a5];exact Ag (by rw[R.one _ (by have:=h1.1;have:=h1.2;omega) (Qn a4)];omega)⟩;rw[hp]at aj4;simp only[zzL10]at aj4;have:=Qn a4;rw[aj4,show((i:Int)).toNat=i by simp,hk]at this
    cases this
   ·have h2:As h.Else f.Blocks.length:=by
     rcases hsd.2 with h2|h2;· rw[h2]at a2;have:=Rv R hin hk 1 (by omega);rw[<- a2]at this;exact absurd this.1 (by omega)
     ·exact h2
    have aj3:h.Else∈BV f h.Join.toNat:=(Wn R hJn).2 ⟨h.Else.toNat,(Mp h2.1).symm,(by have:=h2.1;have:=h2.2;omega),by rw[hJc,<- a5];exact Ag (by rw[R.one _ (by have:=h2.1;have:=h2.2;omega) (Qn a4)];omega)⟩;rw[hp]at aj3;simp only[zzL10]at aj3;have:=Qn a4;rw[aj3,show((i:Int)).toNat=i by simp,hk]at this
    cases this
 have t0:=Rv R hin hk 0 (by omega);have t1:=Rv R hin hk 1 (by omega);have here:∀ k,k<2->El f i k=h.Join->(i:Int)∈BV f h.Join.toNat:=λk hk2 e=>(Wn R hJn).2 ⟨i,rfl,hin,by rw[hJc,<- e];exact Ag (by rw[e2];exact hk2)⟩;have there:∀ x,As x f.Blocks.length->Oe f i x=true->El f x.toNat 0=h.Join->x∈BV f h.Join.toNat:=λx hx hm e=>(Wn R hJn).2 ⟨x.toNat,(Mp hx.1).symm,(by have:=hx.1;have:=hx.2;omega),by rw[hJc,<- e];exact Ag (by rw[R.one _ (by have:=hx.1;have:=hx.2;omega) (Qn hm)];omega)⟩
 have pos:∀ x,As x f.Blocks.length->x≠-1:=λx hx e=>by have:=hx.1;omega
 have ce:∀ x,As x f.Blocks.length->Ci h x=x:=λx hx=>by unfold Ci;rw[show(x==-1)=false by simpa using pos x hx];rfl
 have cm:Ci h (-1)=i:=by unfold Ci;rw[ea];rfl
 have at_to:h.At∈BV f h.Join.toNat->h.Join=El f i 0\/h.Join=El f i 1:=λhm=>by
  obtain⟨p,hp,hpn,hto⟩:=(Wn R hJn).1 hm
  obtain rfl:p=i:=by omega
  rw[hJc]at hto;obtain⟨k,hk3,hk4⟩:=H8 hto
  have hk5:El f p k=h.Join:=by unfold El;rw[Ad _ _ _ hk3];exact hk4
  rw[e2]at hk3
  have:k=0\/k=1:=by omega
  rcases this with rfl|rfl
  ·exact .inl hk5.symm
  ·exact .inr hk5.symm
 rw[<- ei]at hk
 have hA:As h.At f.Blocks.length:=by rw[ea];exact Ai hin
 rcases hcs with⟨a1,a2,a3,a4,a5,a6⟩|⟨a1,a2,a3,a4,a5⟩|⟨a1,a2,a3,a4,a5⟩
 ·have i1:As h.Then f.Blocks.length:=by rw[a1];exact t0
  have i2:As h.Else f.Blocks.length:=by rw[a2];exact t1
  obtain⟨m1,m2⟩:=mpos _ a3 i1;obtain⟨m3,m4⟩:=mpos _ a4 i2;refine⟨R,hA,hk,hsd,hJ,by rw[ea];exact hJA,by rw[ce _ i1];exact there _ i1 a3 a5,by rw[ce _ i2];exact there _ i2 a4 a6,by rw[ce _ i1,ce _ i2,a1,a2];exact hne,λhm=>?_,⟨by rw[ea];exact m1,by rw[ea];exact m3,m2,m4⟩,by rw[ea];exact⟨λ_=>⟨a3,a5⟩,λ_=>⟨a4,a6⟩⟩,?_,.inl (pos _ i1)⟩
  ·rcases at_to hm with e|e
   ·exact absurd (by rw[e,a1]) m2
   ·exact absurd (by rw[e,a2]) m4
  ·rw[ei];exact⟨λ_=>a1.symm,λe=>absurd e (pos _ i1),λ_=>a2.symm,λe=>absurd e (pos _ i2)⟩
 ·have i1:As h.Then f.Blocks.length:=by rw[a1];exact t0
  obtain⟨m1,m2⟩:=mpos _ a4 i1;refine⟨R,hA,hk,hsd,hJ,by rw[ea];exact hJA,by rw[ce _ i1];exact there _ i1 a4 a5,by rw[a2,cm];exact here 1 (by omega) a3.symm,by rw[ce _ i1,a2,cm];exact m1,λ_=>.inr (by rw[a2,cm,ea]),⟨by rw[ea];exact m1,by rw[a2,ea];omega,m2,by rw[a2];exact λe=>pos _ hJ e.symm⟩,by rw[ea];exact⟨λ_=>⟨a4,a5⟩,λe=>absurd a2 e⟩,?_,.inl (pos _ i1)⟩;rw[ei];exact⟨λ_=>a1.symm,λe=>absurd e (pos _ i1),λe=>absurd a2 e,λ_=>a3.symm⟩
 ·have i2:As h.Else f.Blocks.length:=by rw[a2];exact t1
  obtain⟨m3,m4⟩:=mpos _ a4 i2;refine⟨R,hA,hk,hsd,hJ,by rw[ea];exact hJA,by rw[a1,cm];exact here 0 (by omega) a3.symm,by rw[ce _ i2];exact there _ i2 a4 a5,by rw[ce _ i2,a1,cm];exact λe=>m3 e.symm,λ_=>.inl (by rw[a1,cm,ea]),⟨by rw[a1,ea];omega,by rw[ea];exact m3,by rw[a1];exact λe=>pos _ hJ e.symm,m4⟩,by rw[ea];exact⟨λe=>absurd a1 e,λ_=>⟨a4,a5⟩⟩,?_,.inr (pos _ i2)⟩;rw[ei];exact⟨λe=>absurd a1 e,λ_=>a3.symm,λ_=>a2.symm,λe=>absurd e (pos _ i2)⟩
theorem xU{a b:Nat}(h:a+b<4000000):w64 (Zu .u64 (Jp (w64 ((a:Int)+(b:Int)))) (1:Int))=(((a+b) / 2:Nat):Int):=by
 have e:(a+b)=((a+b:Nat):Int):=by omega
 rw[e,F1 (n:=(a+b:Nat)) (by omega) (by omega),MZ (by omega) (by omega)];unfold Zu;rw[show(1:Int).toNat=1 from rfl,show min 1 _=1 from rfl, Int.fdiv_eq_ediv_of_nonneg _ (by omega),F1 (by omega) (by omega)];omega
theorem sx(hs:l.Pairwise (·<·))(hl:l.length<=1000)(x:Int):∃(i:Nat) (b:Bool),Fg l x=some ((i:Int),b)/\i<=l.length/\(∀ k,k<i->l.getD k 0<x)/\∀ k,i<=k->k<l.length->x<=l.getD k 0:=by
 have No:∀ i j,i<j->j<l.length->l.getD i 0<l.getD j 0:=λi j hij hj=>by
  rw[Ad _ _ _ hj,Ad _ _ _ (by omega)];exact zzL78.1 hs i j (by omega) hj hij
 have key:∀ d (a b:Nat),b-a<=d->a<=b->b<=l.length->(∀ k,k<a->l.getD k 0<x)->(∀ k,b<=k->k<l.length->x<=l.getD k 0)->
   ∃ i:Nat,Ae (Cc l x) ((a:Int),(b:Int))=some (i:Int)/\i<=l.length/\(∀ k,k<i->l.getD k 0<x)/\∀ k,i<=k->k<l.length->x<=l.getD k 0:=by
  intro d
  induction d with
  | zero=>
   intro a b h1 h2 h3 h4 h5
   obtain rfl:a=b:=by omega
   refine⟨a,An ?_,h3,h4,h5⟩;unfold Cc;simp only[Cy,Ar]
  | succ d ih=>
   intro a b h1 h2 h3 h4 h5
   by_cases hab:a<b
   ·have hm:(a+b) / 2<l.length:=by omega
    have e:Cc l x ((a:Int),(b:Int))=some (.next (bif decide (l.getD ((a+b) / 2) 0<x) then((((a+b) / 2+1:Nat):Int),(b:Int)) else((a:Int),(((a+b) / 2:Nat):Int)))):=by
     unfold Cc Wa Q0;simp only[B0 hab,Ah,xU (show a+b<4000000 by omega),Aa (Ai hm),Ao,Am,bne_self_eq_false,w1 (show(a+b) / 2<4611686018427387904 by omega)]
     cases decide (l.getD ((a+b) / 2) 0<x)<;>rfl
    rw[Ap e]
    by_cases hx:l.getD ((a+b) / 2) 0<x
    ·rw[Da hx,Ah];refine ih _ _ (by omega) (by omega) h3 (λk hk=>?_) h5;rcases zzL119 k ((a+b) / 2) with h6|h6
     ·exact Int.lt_trans (No k _ h6 hm) hx
     ·obtain rfl:k=(a+b) / 2:=by omega
      exact hx
    ·rw[Ds hx,Ar];refine ih _ _ (by omega) (by omega) (by omega) h4 (λk hk hkl=>?_);rcases zzL119 ((a+b) / 2) k with h6|h6
     ·have:=No _ k h6 hkl;omega
     ·obtain rfl:k=(a+b) / 2:=by omega
      omega
   ·exact ih a b (by omega) h2 h3 h4 h5
 obtain⟨i,h1,h2,h3,h4⟩:=key l.length 0 l.length (by omega) (by omega) (zzL7 _) (λk hk=>by omega) (λk hk hk2=>by omega);have h1':Ae (Cc l x) ((0:Int),(l.length:Int))=some (i:Int):=h1;unfold Fg Nl;rw[h1',Am]
 have hin:(decide ((i:Int)<(l.length:Int)))=true->As (i:Int) l.length:=λh=>by have:=PD h;exact⟨by omega,this⟩
 rw[Aa (λh=>hin (by simpa using h)),Aa (λh=>hin (by simp at h;simpa using h.1))];simp only[bne_self_eq_false];refine⟨i,(bif decide ((i:Int)<(l.length:Int)) then(bif (l.getD (i:Int).toNat 0==x) then true else(bif false then false else false)) else false),?_,h2,h3,h4⟩
 have e:∀ b:Bool,(bif b then some false else some false)=some false:=λb=>by cases b<;>rfl
 rw[e,Am];simp only[Bool.and_false,show((false:Bool)==true)=false from rfl,Ar,Am]
def U1(p:A8)(x:Int):Int:=match p.From.findIdx? (λy=>y==x) with|some i=>p.Args.getD i 0|none=>0
theorem TM(hs:p.From.Pairwise (·<·))(hi:i<p.From.length):U1 p (p.From.getD i 0)=p.Args.getD i 0:=by
 have hfi:p.From.findIdx? (λy=>y==p.From.getD i 0)=some i:=by
  rw[List.findIdx?_eq_some_iff_getElem];rw[Ad _ _ _ hi];refine⟨hi,by simp,λj hj=>?_⟩;have:=zzL78.1 hs j i (by omega) hi hj
  simp;omega
 unfold U1;rw[hfi]
theorem Ael(hs:p.From.Pairwise (·<·))(hl:p.From.length<=1000)(ha:p.Args.length=p.From.length)(hx:x∈p.From):Up p x=some (U1 p x):=by
 unfold Up
 rcases m_index _ x hl with⟨r,h1,h2,_,h3⟩|⟨h1,_⟩
 ·rw[h3,Am,Aa (by rw[ha];exact Ai h1),Ao,<- h2,TM hs h1]
 ·obtain⟨i,hi,he⟩:=H8 hx;exact absurd (by grind) (h1 i hi)
theorem tv(hs:p.From.Pairwise (·<·))(hl:p.From.length<=1000)(ha:p.Args.length=p.From.length)(x:Int):Gt p x=some (U1 p x):=by
 unfold Gt
 rcases loop_first (m_lockstepref15_from_L1 p x) (λi=>p.From.getD i 0==x) (λi=>.inr (p.Args.getD i 0)) (.inl ()) p.From.length (λi hi hp=>by
   unfold m_lockstepref15_from_L1
   simp only[B0 hi,Ah,Ao,Aa (Ai hi),hp,Ar,w1 (show i<4611686018427387904 by omega)]) (λi hi hp=>by
   unfold m_lockstepref15_from_L1
   have hi2:i<p.Args.length:=by omega
   simp only[B0 hi,Ah,Ao,Aa (Ai hi),Aa (Ai hi2),hp]) (by unfold m_lockstepref15_from_L1;simp only[Cy,Ar]) with⟨i,hi,hp,hL⟩|⟨hp,hL⟩
 ·rw[hL];rw[<- TM hs hi,eq_of_beq hp]
  rfl
 ·rw[hL]
  have:p.From.findIdx? (λy=>y==x)=none:=by
   rw[List.findIdx?_eq_none_iff];intro y hy;obtain⟨i,hi,he⟩:=H8 hy;have:=hp i hi;rw[Ad _ _ _ hi,he]at this;exact this
  unfold U1;rw[this]
  rfl
def Ho(h:AT)(x:Int):Int:=(λy:Int=>bif (h.Else !=-1)&&decide (h.Else<x) then y-1 else y) (bif (h.Then !=-1)&&decide (h.Then<x) then x-1 else x)
def We(h:AT)(p:A8):A8:=⟨p.Bits,p.Dst,p.From.map (Ho h),p.Args⟩
def KB(h:AT)(b:Ab):Ab:=⟨b.Phis.map (We h),b.Ops,⟨b.End.Kind,b.End.Arg,b.End.To.map (Ho h)⟩⟩
theorem HI(a b:Bool):(bif a then b else false)=(a&&b):=by cases a<;>rfl
theorem rl(b:Bool)(x y:α):(bif b then some x else some y)=some (bif b then x else y):=by cases b<;>rfl
theorem mV(hx:0<=x/\x<1000000):Ly x h=some (Ho h x):=by
 unfold Ly Ho;rw[HI,HI,rl,Am,F1 (n:=x-1) (by omega) (by omega)]
 generalize hz:(bif ((h.Then !=-1)&&decide (h.Then<x)) then x-1 else x)=z
 have hz2:-1<=z/\z<1000000:=by grind
 rw[F1  (by omega) (by omega),rl]
 rfl
theorem dt(h0:(h.Then = -1\/0<=h.Then)/\(h.Else = -1\/0<=h.Else))(hx:0<=x/\x<1000000):Ec x h=some (Ho h x):=by
 rw[<- mV hx];unfold Ec Ly
 have e:∀ y ,(y = -1\/0<=y)->decide (0<=y)=(y !=-1):=λy hy=>by
  grind
 rw[e _ h0.1,e _ h0.2]
theorem gG{α β:Type}(F:α->β):∀(l:List α) (k:Nat) (s:List β),s.length=k+l.length->(l.foldl (λ(t:Nat×List β) b=>(t.1+1,t.2.set t.1 (F b))) (k,s)).2=s.take k++l.map F
 | [],k,s,h=>by simp at h;simp[<- h]
 | b::l,k,s,h=>by
  simp only[Ry]at h;rw[AB,gG F l _ _ (by simp;omega)]
  have e:(s.set k (F b)).take (k+1)=s.take k++[F b]:=by
   rw[List.take_add_one,List.take_set_of_le (by omega)];simp[ show k<s.length by omega]
  rw[e,Z0];rfl
theorem gi{β:Type}(l:List α)(d:α)(F:α->β)(out:List β->X)(f:Int×List β->Option (LR (Int×List β) X))(hn:∀(i:Nat) (s:List β),i<l.length->s.length=l.length->f ((i:Int),s)=some (.next (((i+1:Nat):Int),s.set i (F (l.getD i d)))))
  (hd:∀ s,f ((l.length:Int),s)=some (.done (out s))) (s:List β) (hs:s.length=l.length):Ae f ((0:Int),s)=some (out (l.map F)):=by
 have key:=Ld l d (λi t=>((i:Int),t.2)) (λi t=>t.1=i/\t.2.length=l.length) (λt b=>(t.1+1,t.2.set t.1 (F b))) _ f
  (λi t hi hP=>by grind) (λt _=>hd t.2) (0,s) ⟨rfl,hs⟩
 have:=key.1;rw[gG F l 0 s (by omega)]at this
 simpa using this
theorem TN(hl:l.length<=100000)(hx:∀ x∈l,0<=x/\x<1000000):Lx l h=some (l.map (Ho h)):=by
 have ab1:1000001<=room:=by decide
 unfold Lx
 rw[Aa (by omega),gi l 0 _ id _ (λi s hi hs=>by
  unfold Pb;simp only[B0 hi,Ah,Aa (Ai hi),Ao,mV (hx _ (Ag hi)),Am,w1 (show i<4611686018427387904 by omega)]
  rw[Aa (by rw[hs];exact Ai hi)]) (λs=>by unfold Pb;simp only[Cy];rfl) _ (by simp)]
 rfl
theorem VX(h0:(h.Then = -1\/0<=h.Then)/\(h.Else = -1\/0<=h.Else))(hl:l.length<=100000)(hx:∀ x∈l,0<=x/\x<1000000):Fy l h=some (l.map (Ho h)):=by
 have ab1:1000001<=room:=by decide
 have key:=Ld l 0 (λi t=>(t,(i:Int))) (λi t=>t.length=i) (λt b=>t++[Ho h b]) id (Gw l h) (λi t hi hP=>by
  unfold Gw;simp only[B0 hi, Aa (Ai hi),Ao,dt h0 (hx _ (Ag hi)),Am,w1 (show i<4611686018427387904 by omega)];rw[Ac (by simp;omega)]
  exact⟨rfl,by simp;omega⟩) (λt _=>by unfold Gw;simp only[Cy];rfl) [] rfl
 have e:∀(l s:List Int),l.foldl (λt b=>t++[Ho h b]) s=s++l.map (Ho h):=λl=>by
  induction l with
  | nil =>  simp
  | cons b l ih=>grind
 rw[e]at key;unfold Fy;have k1:=key.1;rw[show([],0)=([],((0:Nat):Int)) from rfl,k1]
 rfl
def yq(b:Ab):Prop:=b.Phis.length<=100000/\(∀ p∈b.Phis,p.From.length<=100000/\∀ x∈p.From,0<=x/\x<1000000)/\b.End.To.length<=100000/\∀ x∈b.End.To,0<=x/\x<1000000
theorem xC(hb:yq b)(h:AT):Su b h=some (KB h b):=by
 have ab1:1000001<=room:=by decide
 obtain⟨b1,b2,b3,b4⟩:=hb;unfold Su
 rw[Aa (by omega),gi _ _ (We h) id _ (λi s hi hs=>by
  unfold Sv;have hm:=b2 _ (Ag (d:=default) hi);simp only[B0 hi, Aa (Ai hi),Ao,TN hm.1 hm.2,Am,w1 (show i<4611686018427387904 by omega)];rw[Aa (by rw[hs];exact Ai hi)]
  rfl) (λs=>by unfold Sv;simp only[Cy];rfl) _ (by simp), TN b3 b4]
 rfl
def Zb(h:AT)(p:A8)(k:Nat):Bool:=((k:Int)==h.At) || (((k:Int)!=Ci h h.Then)&&(((k:Int)!=Ci h h.Else)&&p.From.contains (k:Int)))
def Qk(n:Nat)(h:AT)(p:A8):List Int:=((List.range n).filter (Zb h p)).map Int.ofNat
def Za(n:Nat)(h:AT)(p:A8)(v:Int):A8:=⟨p.Bits,p.Dst,Qk n h p,(Qk n h p).map λx=>bif x==h.At then v else U1 p x⟩
theorem bV{α β:Type}(c:α->Bool)(F:α->β):∀(l:List α) (s:List α×List β),l.foldl (λs b=>bif c b then(s.1++[b],s.2++[F b]) else s) s=(s.1++l.filter c,s.2++(l.filter c).map F)
 | [],s=>by simp
 | b::l,s=>by
  rw[AB,bV c F l];cases h:c b<;>simp[h]
theorem ow{n:Nat}(hs:p.From.Pairwise (·<·))(hl:p.From.length<=1000)(ha:p.Args.length=p.From.length)(hin:∀ x∈p.From,As x n)(hA:As h.At n)(hat:h.At∈p.From->Ci h h.Then=h.At\/Ci h h.Else=h.At)(v:Int) :
  Pr p (Ci h h.Then) (Ci h h.Else) h.At v=some (Za n h p v):=by
 have ab1:(1000001:Nat)<=room:=by decide
 have key:=Ld p.From (0:Int) (λi (t:List Int×List Int)=>((i:Int),t.1,t.2)) (λi t=>t.1.length<=i/\t.2.length<=i) (λs b=>bif (b !=Ci h h.Then)&&(b !=Ci h h.Else) then(s.1++[b],s.2++[U1 p b]) else s) (λt=>(t.1,t.2)) (Mv p (Ci h h.Then) (Ci h h.Else))
  (λi t hi hP=>by
   unfold Mv;simp only[B0 hi,Ah,Aa (Ai hi),Ao,w1 (show i<4611686018427387904 by omega),HI];rw[TM hs hi]
   cases((p.From.getD i 0 !=Ci h h.Then)&&(p.From.getD i 0 !=Ci h h.Else)) with
   | false=>exact⟨rfl,by simp only[Ar];omega⟩
   | true=>
    simp only[Ah];rw[Ac (by simp;omega),Aa (by rw[ha];exact Ai hi),Ac (by simp;omega)]
    exact⟨rfl,by simp;omega⟩)
  (λt _=>by unfold Mv;simp only[Cy,Ar]) ([],[]) (by simp)
 rw[bV]at key;simp only[Vi]at key;obtain⟨L,hL⟩:∃ L,L=p.From.filter λb=>(b !=Ci h h.Then)&&(b !=Ci h h.Else):=⟨_,rfl⟩;rw[<- hL]at key
 have hLs:L.Pairwise (·<·):=by rw[hL];exact hs.filter _
 have hLl:L.length<=1000:=by rw[hL];exact R0 (List.length_filter_le ..) hl
 have hLm:∀ x,x∈L↔x∈p.From/\x≠Ci h h.Then/\x≠Ci h h.Else:=λx=>by rw[hL,zzL73];simp
 have hLa:h.At∉L:=λhm=>by
  obtain⟨h1,h2,h3⟩:=(hLm _).1 hm;rcases hat h1 with e|e
  ·exact h2 e.symm
  ·exact h3 e.symm
 unfold Pr;rw[show((0:Int),([]:List Int),([]:List Int))=(((0:Nat):Int),[],[]) from rfl,key.1];obtain⟨i,b,hb,hi,hlt,hge⟩:=sx hLs hLl h.At
 have hI:∀ M:List Int,M.length=L.length->∀ z,GL M (i:Int) [z]=some (M.take i++[z]++M.drop i,M.take i++[z]++M.drop i,[z]):=λM hM z=>by
  unfold GL;rw[Ac ⟨by omega,by omega,by simp,by simp;omega⟩,Ao]
 simp only[Am,hb,hI L rfl,hI (L.map (U1 p)) (by simp)];rw[Ac (show 1=[h.At].length from rfl),Ac (show 1=[v].length from rfl)]
 have hF:L.take i++[h.At]++L.drop i=Qk n h p:=by
  have hgt:∀ y∈L.drop i,h.At<y:=λy hy=>by
   obtain⟨k,hk,rfl⟩:=H8 hy;rw[List.getElem_drop];rw[GR]at hk;have h1:=hge (i+k) (by omega) (by omega);rw[Ad _ _ _ (show i+k<L.length by omega)]at h1;have h2:L[i+k]≠h.At:=λe=>hLa (e▸PE _);omega
  have ag7:∀ y∈L.take i,y<h.At:=λy hy=>by
   obtain⟨k,hk,rfl⟩:=H8 hy;rw[List.getElem_take];rw[ND]at hk;have h1:=hlt k (by omega);rwa[Ad _ _ _ (show k<L.length by omega)]at h1
  refine CC ?_ (Um _ _) λx=>?_
  ·grind
  ·unfold Qk;rw[UZ]
   have hx:x∈L.take i++[h.At]++L.drop i↔x=h.At\/x∈L:=by
    conv=>rhs;rw[<- List.take_append_drop i L]
    simp only[zzL8,zzL10]
    constructor
    ·rintro((h1|h1)|h1)
     ·exact .inr (.inl h1)
     ·exact .inl h1
     ·exact .inr (.inr h1)
    ·rintro(h1|h1|h1)
     ·exact .inl (.inr h1)
     ·exact .inl (.inl h1)
     ·exact .inr h1
   rw[hx]
   constructor
   ·intro h1
    have hxn:As x n:=by
     rcases h1 with rfl|h1
     ·exact hA
     ·exact hin x ((hLm x).1 h1).1
    refine⟨x.toNat,(Mp hxn.1).symm,(by have:=hxn.1;have:=hxn.2;omega),?_⟩;unfold Zb;rw[Mp hxn.1];rcases h1 with rfl|h1
    ·simp
    ·obtain⟨h2,h3,h4⟩:=(hLm x).1 h1;simp[h2,h3,h4]
   ·rintro⟨k,rfl,hk,h1⟩;unfold Zb at h1;simp only[W1,zzL34,Az,zzL65,zzL60,ne_eq]at h1;rcases h1 with h1|⟨h1,h2,h3⟩
    ·exact .inl h1
    ·exact .inr ((hLm _).2 ⟨h3,h1,h2⟩)
 have hG:(L.map (U1 p)).take i++[v]++(L.map (U1 p)).drop i=(Qk n h p).map λx=>bif x==h.At then v else U1 p x:=by
  rw[<- hF,AA,AA,<- List.map_take,<- List.map_drop]
  have e:∀ M:List Int,(∀ x∈M,x∈L)->M.map (U1 p)=M.map λx=>bif x==h.At then v else U1 p x:=λM hM=>PC λx hx=>by
   have:(x==h.At)=false:=by simp;exact λe=>hLa (e▸hM x hx)
   rw[this];rfl
  rw[e _ (λx hx=>List.mem_of_mem_take hx),e _ (λx hx=>List.mem_of_mem_drop hx)]
  simp
 rw[hF,hG]
 rfl
set_option linter.unusedSectionVars false
theorem Aa4(k:Int):Xs k=some (Wo k):=by
 unfold Xs Wo
 have e:(bif (k==4) then some (k==4) else bif (k==16) then some (k==16) else bif (k==17) then some (k==17) else bif (k==18) then some (k==18) else bif (k==19) then some (k==19) else some (k==20))=some (k==4 || k==16 || k==17 || k==18 || k==19 || k==20):=by
  grind
 rw[e, QM]
 cases(k==4 || k==16 || k==17 || k==18 || k==19 || k==20)<;>simp
theorem Ab7(k:Int):L1 k=some (Wo k):=by
 unfold L1 Wo SQ
 congr 1
 rw[GS];simp only[HI,Az, zzL65,Qr,eG,zzL30];rw[show(bif decide _ then true else decide _)=(decide (k<16) || decide (20<k)) by grind];simp only[W1,Hs];omega
def LJ(l:List A0):Bool:=l.any λo=>!Wo o.Kind
theorem Aa5(l:List A0)(hl:l.length<4611686018427387904):C1 l=some (LJ l):=by
 unfold C1 Fz LJ
 have hk:∀ i,i<l.length->m_slices_IndexFunc_api_Op_api_Op_v2_L1 l i=bif !Wo (l.getD i default).Kind then some (.done (.inr i)) else some (.next ((i+1:Nat))):=λi hi=>by
  unfold m_slices_IndexFunc_api_Op_api_Op_v2_L1 Qa;simp only[B0 hi,Ah,Ao,Aa (Ai hi),Aa4,Am,w1 (show i<4611686018427387904 by omega)]
 rcases loop_first (m_slices_IndexFunc_api_Op_api_Op_v2_L1 l) (λi=>!Wo _) _ (.inl ()) _ (λi hi hp=>by rw[hk i hi,hp];rfl) (λi hi hp=>by rw[hk i hi,hp];rfl)
  (by unfold m_slices_IndexFunc_api_Op_api_Op_v2_L1;simp only[Cy,Ar]) with⟨i,hi,hp,hl⟩|⟨hp,hl⟩
 ·rw[hl,List.any_eq_true.2 ⟨_,Ag hi,hp⟩]
  simp
 ·rw[hl]
  have:(l.any λo=>!Wo o.Kind)=false:=by
   rw[Bool.eq_false_iff];intro h;obtain⟨o,ho,hb⟩:=List.any_eq_true.1 h;obtain⟨i,hi,he⟩:=H8 ho;have:=hp i hi;rw[Ad _ _ _ hi,he,hb]at this
   cases this
  rw[this];rfl
def Vz(f:AI)(h:AT):Pt:=Nb (Ef f h.Then) (bA f h.At.toNat).End.Arg ((bA f h.At.toNat).Ops,Gx f)
def HZ(f:AI)(h:AT):Pt:=bif LJ (Ef f h.Else) then Do (Do (Vz f h) 0 1 1 []) 7 1 0 [(bA f h.At.toNat).End.Arg,(Do (Vz f h) 0 1 1 []).2] else Vz f h
def OG(f:AI)(h:AT):Int:=bif LJ (Ef f h.Else) then(HZ f h).2 else 0
def Zt(f:AI)(h:AT):Pt:=Nb (Ef f h.Else) (OG f h) (HZ f h)
section
variable {f:AI} {h:AT} (H:Hm f h)
include H
theorem dn(hc:Ue f=true)(hx:x = -1\/As x f.Blocks.length):∀ o∈Ef f x,TJ o:=by
 intro o ho;unfold Ef at ho;rcases hx with rfl|hx
 ·cases ho
 ·rw[show(x !=-1)=true by grind]at ho;have hm:bA f x.toNat∈f.Blocks:=Ag (by have:=hx.1;have:=hx.2;omega);exact wx (WY ((Mg   (by omega) (by omega)).1 (by simpa [Ue] using hc)).2.2.1 hm ho) (bt H.R.ok hm ho)
theorem cz:(bA f h.At.toNat).Ops.length<=512:=by
 have:=(H.R.ok.block _ (Ag  (i:=h.At.toNat) (d:=default) (by have:=H.at_.1;have:=H.at_.2;omega))).ops;exact this
theorem d5:(Vz f h).1.length<=2000:=by
 have h1:=cI (Ef f h.Then) (bA f h.At.toNat).End.Arg ((bA f h.At.toNat).Ops,Gx f);have h2:=Kl H.R H.sides.1;have h3:=cz H;unfold Vz;simp only at h1;omega
theorem d6:(HZ f h).1.length<=2002:=by
 have:=d5 H;unfold HZ
 cases LJ _ with
 | false=>rw[Ar];omega
 | true=>rw[Ah,Y2,Y2];omega
theorem d7:(Zt f h).1.length<=4000:=by
 have h1:=cI (Ef f h.Else) (OG f h) (HZ f h);have h2:=Kl H.R H.sides.2;have h3:=d6 H;unfold Zt;omega
theorem bL(hx:x = -1\/As x f.Blocks.length)(s:List A0)(l:Int):Gf x f h s l=some (Ef f x):=by
 unfold Gf Ef;rcases hx with rfl|hx
 ·rfl
 ·have e:(x==-1)=false:=by have:=hx.1;simp;omega
  rw[e, Aa hx,show(x !=-1)=true by simpa using e]
  rfl
theorem jt(hc:Ue f=true):Im (bA f h.At.toNat).End.Arg f h (bA f h.At.toNat).Ops (Gx f)=some (f,h,(Zt f h).1,(Zt f h).2):=by
 have l1:=Kl H.R H.sides.1;have l2:=Kl H.R H.sides.2;have k1:=d5 H;have k2:=d6 H;unfold Im;rw[bL H H.sides.1,Am,fj (dn H hc H.sides.1) (by omega) _ _ _ ((bA f h.At.toNat).Ops,Gx f) (by have:=cz H;simp only;omega),Am];simp only;rw[show Nb (Ef f h.Then) (bA f h.At.toNat).End.Arg ((bA f h.At.toNat).Ops,Gx f)=Vz f h from rfl,bL H H.sides.2,Am,Aa5 _ (by omega),Am];have e:∀ z ,z=(OG f h,f.Params,f.Ret,f.Blocks,h.At,h.Then,h.Else,h.Join,(HZ f h).1,(HZ f h).2)->
   (Option.bind (some z) λx17=>(match x17 with|(i4,l5,i6,l7,i8,i9,i10,i11,l12,i13)=>((E4 (Ef f h.Else) i4 (⟨l5,i6,l7⟩:AI) _ l12 i13).bind _)))=some (f,h,(Zt f h).1,(Zt f h).2):=λz hz=>by
  subst hz;simp only[Am];rw[  fj (dn H hc H.sides.2) (by omega) _ _ _ (HZ f h) (by omega),Am]
  rfl
 cases hg:LJ (Ef f h.Else) with
 | false=>
  rw[Ar];refine e _ ?_;unfold OG HZ;rw[hg];rfl
 | true=>
  rw[Ah,HJ _ _ _ _ _ _ _ (by omega),Am];simp only;rw[HJ _ _ _ _ _ _ _ (by rw[Y2];omega),Am];refine e _ ?_;unfold OG HZ;rw[hg];rfl
end
def Xe(f:AI)(h:AT)(s:List A8×Pt)(p:A8):List A8×Pt:=
 bif U1 p (Ci h h.Then)==U1 p (Ci h h.Else) then(s.1++[Za f.Blocks.length h p (U1 p (Ci h h.Then))],s.2) else
  (s.1++[Za f.Blocks.length h p (w64 (s.2.2+1))],Do s.2 13 p.Bits 0 [(bA f h.At.toNat).End.Arg,U1 p (Ci h h.Then),U1 p (Ci h h.Else)])
def Uz(f:AI)(h:AT):List A8×Pt:=(bA f h.Join.toNat).Phis.foldl (Xe f h) ([],Zt f h)
theorem dp(f:AI)(h:AT)(s:List A8×Pt)(p:A8):(Xe f h s p).1.length=s.1.length+1/\(Xe f h s p).2.1.length<=s.2.1.length+1:=by
 unfold Xe
 cases U1 p _==U1 p _<;>simp[Do]
section
variable {f:AI} {h:AT} (H:Hm f h)
include H
theorem Ru(hc:Ue f=true)(hi:i<f.Blocks.length)(hp:p∈(bA f i).Phis):p.From=BV f i/\p.From.Pairwise (·<·)/\p.From.length<=64/\p.Args.length=p.From.length/\∀ x∈p.From,As x f.Blocks.length:=by
 have hsh:=((Mg  (l:=2) (by omega) (by omega)).1 (by simpa [Ue] using hc)).2.1;unfold Eg at hsh;rw[Az]at hsh;have hb:=zzL21.1 hsh.2 i (by simpa using hi);unfold Mf at hb;rw[Az]at hb;have hp2:=zzL21.1 hb.2 p hp;simp only[Ju,Az,Hs]at hp2;have e:p.From=BV f i:=hp2.1;refine⟨e,?_,by rw[e];exact tk H.R i,by grind,λx hx=>?_⟩
 ·rw[e];unfold BV;rw[Zm (by rw[Hc];exact hi)];exact Um _ _
 ·rw[e]at hx;obtain⟨q,rfl,hq,_⟩:=(Wn H.R hi).1 hx;exact Ai hq
theorem BA:h.Join.toNat<f.Blocks.length:=by have:=H.join.1;have:=H.join.2;omega
theorem Qq(hi:i<f.Blocks.length):(bA f i).Phis.length<=512:=(H.R.ok.block _ (Ag   hi)).phis
theorem mU(s:List A0)(l x:Int):Hz x f h s l=some (Ci h x):=by
 unfold Hz Ci
 cases x==-1<;>rfl
theorem rx(b c v w:Int)(s:Pt)(hs:s.1.length<=1000000):Jy b c v w f h s.1 s.2=some (bif v==w then(v,f,h,s.1,s.2) else(w64 (s.2+1),f,h,(Do s 13 b 0 [c,v,w]).1,(Do s 13 b 0 [c,v,w]).2)):=by
 unfold Jy
 cases v==w with
 | true=>rfl
 | false=>rw[ HJ _ _ _ _ _ _ _ hs];rfl
theorem Ad9(hc:Ue f=true):Mw (bA f h.At.toNat).End.Arg f h (Zt f h).1 (Zt f h).2=some ((Uz f h).1,f,h,(Uz f h).2.1,(Uz f h).2.2):=by
 have ab1:(1000001:Nat)<=room:=by decide
 have hJ:=BA H;have hpl:=Qq H hJ;have hsl:=d7 H;unfold Mw;rw[mU H,Am,mU H,Am,Aa H.join];have key:=Ld (bA f h.Join.toNat).Phis (default:A8) (λi t=>(t.1,(i:Int),f.Params,f.Ret,f.Blocks,h.At,h.Then,h.Else,h.Join,t.2.1,t.2.2)) (λi t=>t.1.length=i/\t.2.1.length<=4000+i) (Xe f h)
  (λt=>(t.1,f.Params,f.Ret,f.Blocks,h.At,h.Then,h.Else,h.Join,t.2.1,t.2.2)) (J0 _ f h (Ci h h.Then) (Ci h h.Else)) (λi t hi hP=>by
   obtain⟨g1,g2⟩:=dp f h t ((bA f h.Join.toNat).Phis.getD i default);refine⟨?_,by omega,by omega⟩;obtain⟨p1,p2,p3,p4,p5⟩:=Ru H hc hJ (Ag (d:=(default:A8)) hi);unfold J0;have eb:f.Blocks.getD h.Join.toNat default=bA f _:=rfl;simp only[eb,B0 hi,Ah,Aa (Ai hi),Ao,w1 (show i<4611686018427387904 by omega)]
   revert p1 p2 p3 p4 p5 g1
   generalize (bA f _).Phis.getD i default=p
   intro g1 p1 p2 p3 p4 p5;rw[Ael p2 (by omega) p4 (by rw[p1];exact H.thenJ),Am,Ael p2 (by omega) p4 (by rw[p1];exact H.elseJ),Am,rx H _ _ _ _ t.2 (by omega),Am];unfold Xe;have hI:=λv=>ow  (h:=h) p2 (by omega) p4 p5 H.at_ (λhm=>H.atJ (p1▸hm)) v
   cases(U1 p _==U1 p _) with
   | true=>
    simp only[Ah];rw[hI,Am,Ac (by simp;omega)]
   | false=>
    simp only[Ar]
    rw[hI,Am,Ac (by simp;omega)]) (λt _=>by
   unfold J0;have eb:f.Blocks.getD _ default=bA f h.Join.toNat:=rfl
   simp only[eb,Cy,Ar]) ([],Zt f h) (by simp;omega)
 have k1:=key.1;rw[show([],(0:Int),f.Params,f.Ret,f.Blocks,h.At,h.Then,h.Else,h.Join,(Zt f h).1,(Zt f h).2)=([],((0:Nat):Int),f.Params,f.Ret,f.Blocks,h.At,h.Then,h.Else,h.Join,(Zt f h).1,(Zt f h).2) from rfl,k1]
 rfl
theorem SU(hc:Ue f=true):(Uz f h).1.length=(bA f h.Join.toNat).Phis.length/\(Uz f h).2.1.length<=4000+(bA f h.Join.toNat).Phis.length:=by
 have key:∀(l:List _) (s:List _×Pt),(l.foldl (Xe f h) s).1.length=s.1.length+l.length/\(l.foldl (Xe f h) s).2.1.length<=s.2.1.length+l.length:=λl=>by
  induction l with
  | nil =>  simp
  | cons p l ih=>
   intro s;obtain⟨g1,g2⟩:=dp f h s p;obtain⟨k1,k2⟩:=ih (Xe f h s p);simp only[AB,Ry];omega
 have hsl:=d7 H;obtain⟨k1,k2⟩:=key (bA f h.Join.toNat).Phis ([],Zt f h);unfold Uz;simp only[List.length_nil]at k1 k2;omega
end
variable {x y a:Nat}{s:Pt}{k m ab9:Int}{g:AI}{d:TDef}{u:Dz}
theorem mh(n d:Int):(if n<d then d else n)=grow n d:=by
 unfold grow
 by_cases h:n<d<;>simp[h]
theorem Aa7(f:AI)(h:Sm f):Vo f=some (Gx f):=by
 have hf:=h.1
 have h1:∀(i:Nat),i<f.Blocks.length->∀ n ,Ae (Qv f i) _=some ((f.Blocks.getD i _).Phis.foldl (λn p=>grow n p.Dst) n):=λi hi n=>by
  have hB:=hf.block _ (Ag (d:=default) hi);refine Tx _ default _ _ (λs j hj=>?_) (λs=>?_) n
  ·unfold Qv
   have hd:decide ((j:Int)<(f.Blocks.getD i default).Phis.length)=true:=by simpa using hj
   simp only[Dn,hd,Ah,Aa (Ai hj),OZ hj hB.1,mh]
  ·unfold Qv
   simp
 have h2:∀(i:Nat),i<f.Blocks.length->∀ n ,Ae (Qw f i) _=some ((f.Blocks.getD i _).Ops.foldl (λn p=>grow n p.Dst) n):=λi hi n=>by
  have hB:=hf.block _ (Ag (d:=default) hi);refine Tx _ default _ _ (λs j hj=>?_) (λs=>?_) n
  ·unfold Qw
   have hd:decide (j<((f.Blocks.getD i default).Ops.length:Int))=true:=by simpa using hj
   simp only[Dn,hd,Ah,Aa (Ai hj),OZ hj hB.2.1,mh]
  ·unfold Qw
   simp
 unfold Vo Gx
 rw[Tx f.Blocks default (λn b=>b.Ops.foldl (λn o=>grow n o.Dst) (b.Phis.foldl (λn p=>grow n p.Dst) n)) _ (λs i hi=>by
  unfold U2
  have hd:decide (i<(f.Blocks.length:Int))=true:=by simpa using hi
  simp only[hd,Ah,Aa (Ai hi),h1 i hi,h2 i hi,Am,OZ hi hf.blocks]) (λs=>by unfold U2;simp)]
 rfl
theorem TV(h:(List.range (Aw f).length).all (Tm (Aw f))=true):((Aw f).map (·.V)).Nodup:=by
 rw[List.nodup_iff_pairwise_ne,List.pairwise_map,zzL78];intro i j hi hj hij he;have:=((Zf hj).1 (oZ h j hj)).2 i hij;rw[Ad _ _ _ hi,Ad _ _ _ hj]at this;exact this he
def Bk(h:AT)(x:Nat):Bool:=((x:Int)!=h.Then)&&((x:Int)!=h.Else)
def Vm(f:AI)(h:AT)(x:Nat):Ab:=
 bif (x:Int)==h.At then⟨(bA f h.At.toNat).Phis,(Uz f h).2.1,⟨1,0,[h.Join]⟩⟩ else bif (x:Int)==h.Join then⟨(Uz f h).1,(bA f h.Join.toNat).Ops,(bA f h.Join.toNat).End⟩ else bA f x
def Cs(f:AI)(h:AT):AI:=⟨f.Params,f.Ret,((List.range f.Blocks.length).filter (Bk h)).map λx=>KB h (Vm f h x)⟩
theorem NV{α β:Type}(c:α->Bool)(F:α->β):∀(l:List α) (s:List β),l.foldl (λs b=>bif c b then s++[F b] else s) s=s++(l.filter c).map F
 | [],s=>by simp
 | b::l,s=>by
  rw[AB,NV c F l];cases h:c b<;>simp[h]
section
variable {f:AI} {h:AT} (H:Hm f h) (hc:Ue f=true)
include H hc
theorem MV(hi:i<f.Blocks.length):(bA f i).End.To.length<=2/\∀ x∈(bA f i).End.To,0<=x/\x<1000000:=by
 have hsh:=((Mg  (l:=2) (by omega) (by omega)).1 (by simpa [Ue] using hc)).2.1;unfold Eg at hsh;rw[Az]at hsh;have h3:=(shape_iff.1 hsh.1).2 i hi
 constructor
 ·unfold Nz CS at h3;simp only[Az,Hs]at h3;have h4:((bA f i).End.To.length:Nat)=Wx (bA f i).End.Kind:=h3.1.2
  have h5:∀ k ,([0,1,2,0]:List Int).getD k 0<=2:=λk=>by
   match k with
   | 0=>decide
   | 1=>decide
   | 2=>decide
   | 3=>decide
   | k+4=>simp
  have h5:Wx (bA f i).End.Kind<=2:=h5 _;omega
 ·intro x hx;obtain⟨k,hk,rfl⟩:=H8 hx;have h4:=H.R.to i hi k hk;unfold El at h4;rw[Ad _ _ _ hk]at h4;have:=H.R.hi;omega
theorem kE(v:Int):(Za f.Blocks.length h p v).From.length<=64/\∀ x∈(Za f.Blocks.length h p v).From,0<=x/\x<1000000:=by
 have hn:=H.R.hi
 show(Qk _ h p).length<=64/\∀ x∈Qk _ h p,_
 unfold Qk
 constructor
 ·grind
 ·grind
theorem Ab6:∀ p∈(Uz f h).1,p.From.length<=64/\∀ x∈p.From,0<=x/\x<1000000:=by
 have key:∀(l:List _) (s:List _×Pt),(∀ p∈s.1,p.From.length<=64/\∀ x∈p.From,0<=x/\x<1000000)->∀ p∈(l.foldl (Xe f h) s).1,p.From.length<=64/\∀ x∈p.From,0<=x/\x<1000000:=λl=>by
  induction l with
  | nil=>intro s hs;exact hs
  | cons q l ih=>
   intro s hs;refine ih _ λp hp=>?_;unfold Xe at hp
   cases hb:U1 q _==U1 q _ with
   | true=>
    rw[hb]at hp;rcases zzL8.1 hp with h1|h1
    ·exact hs p h1
    ·rw[zzL10.1 h1];exact kE H hc _
   | false=>
    rw[hb]at hp;rcases zzL8.1 hp with h1|h1
    ·exact hs p h1
    ·rw[zzL10.1 h1];exact kE H hc _
 exact key _ _ (λp hp=>by cases hp)
theorem jq(hx:x<f.Blocks.length):yq (Vm f h x):=by
 have hJ:=BA H
 have hA:h.At.toNat<f.Blocks.length:=by  have:=H.at_.2;omega
 have hn:=H.R.hi
 have ph:∀ i,i<f.Blocks.length->(bA f i).Phis.length<=100000/\∀ p∈(bA f i).Phis,p.From.length<=100000/\∀ x∈p.From,0<=x/\x<1000000:=λi hi=>⟨by have:=Qq H hi;omega,λp hp=>by
  obtain⟨_,_,p3,_,p5⟩:=Ru H hc hi hp
  exact⟨by omega,λx hx=>by have:=p5 x hx;exact⟨this.1,by have:=this.2;omega⟩⟩⟩
 unfold Vm
 cases x==h.At with
 | true=>
  rw[Ah]
  exact⟨(ph _ hA).1,(ph _ hA).2,by simp,λy hy=>by
   simp only[zzL10]at hy
   have:=H.join.1; omega⟩
 | false=>
  rw[Ar]
  cases x==h.Join with
  | true=>
   obtain⟨t1,t2⟩:=MV H hc hJ;exact⟨by have:=(SU H hc).1;have:=Qq H hJ;show(Uz f h).1.length<=_;omega,λp hp=>by obtain⟨g1,g2⟩:=Ab6 H hc p hp;exact⟨by omega,g2⟩,by grind,t2⟩
  | false=>
   rw[Ar];obtain⟨t1,t2⟩:=MV H hc hx;exact⟨(ph _ hx).1,(ph _ hx).2,by omega,t2⟩
theorem yU:((f.Blocks.set h.Join.toNat ⟨(Uz f h).1,(f.Blocks.getD h.Join.toNat default).Ops,⟨(f.Blocks.getD h.Join.toNat default).End.Kind,(f.Blocks.getD h.Join.toNat default).End.Arg,(f.Blocks.getD h.Join.toNat default).End.To⟩⟩).set h.At.toNat ⟨(f.Blocks.getD h.At.toNat default).Phis,(Uz f h).2.1,⟨1,0,[h.Join]⟩⟩).getD x default=Vm f h x:=by
 have hJ:=BA H
 have hA:h.At.toNat<f.Blocks.length:=by  have:=H.at_.2;omega
 rw[FE (by simpa using hA),FE hJ];unfold Vm;have a0:=H.at_.1;have j0:=H.join.1
 by_cases h1:x=h.At.toNat
 ·grind
 ·have e:(x==h.At)=false:=by simp;omega
  rw[if_neg h1,e]
  by_cases h2:x=h.Join.toNat
  ·have e:(x==h.Join)=true:=by simp;omega
   rw[if_pos h2,e];rfl
  ·grind
omit H hc in
theorem rgd{n:Nat}(hi:i<n):(List.range n).getD i 0=i:=by simp[hi]
theorem r9:Jz ⟨f,h,[],Gx f⟩=some (Cs f h,⟨f,h,(Uz f h).2.1,(Uz f h).2.2⟩):=by
 have ab1:1000001<=room:=by decide
 have hn:=H.R.hi;have hA :=H.at_;have hal:=cz H;unfold Jz F3 C9;have eA:f.Blocks.getD h.At.toNat default=bA f _:=rfl;rw[Aa hA,eA,Ac (show[].length+(bA f _).Ops.length<=room by grind),Am,Vi];rw[  jt H hc,Am];rw[Ad9 H hc,Am];rw[Ac (show f.Blocks.length<=room by omega),Am,Aa H.join,Aa (by simpa using hA)];unfold U4;have key:=Ld (List.range f.Blocks.length) _ (λi t=>((i:Int),t)) (λi t=>t.length<=i) (λt x=>bif Bk h x then t++[KB h _] else t) id
  (Hu ⟨f,h,[],Gx f⟩ ((Uz f h).1,f,h,(Uz f h).2.1,(Uz f h).2.2) f.Blocks) (λi t hi hP=>by
   rw[Tf]at hi;rw[rgd hi];unfold Hu;simp only[Ek,B0 hi, Aa (Ai hi),Ao,yU H hc,xC (jq H hc hi),Am,w1 (show i<4611686018427387904 by omega),HI];unfold Bk
   cases((i !=h.Then)&&(i !=h.Else)) with
   | false=>grind
   | true=>
    rw[Ac (by simp;omega)]
    exact⟨rfl,by simp;omega⟩) (λt _=>by
   unfold Hu;simp only[Ek,Tf,Cy]
   rfl) [] (by simp)
 have k1:=key.1;rw[NV]at k1;rw[show(0,[])=(((0:Nat):Int),[]) from rfl,k1]
 rfl
end
def FL(f:AI)(h:AT):AI×Int:=
 bif S8 f h then(bif decide (1023<(Uz f h).2.2) || !R6 (Cs f h) then(⟨[],0,[]⟩,4) else(Cs f h,0)) else(⟨[],0,[]⟩,10)
def ER(o:A0):Prop:=o.Args.length<=1000000/\0<=o.Imm/\o.Imm<18446744073709551616
theorem HG(hs:∀ o∈s.1,ER o){b:Int}{az:List Int}(hm:0<=m/\m<18446744073709551616)(ha:az.length<=1000000):∀ o∈(Do s k b m az).1,ER o:=λo ho=>by
 rcases zzL8.1 ho with h1|h1
 ·exact hs o h1
 ·rw[zzL10.1 h1];exact⟨ha,hm⟩
theorem yM(hs:∀ o∈s.1,ER o)(ho:ER o)(g:Int):∀ x∈(Vw g s o).1,ER x:=λx hx=>by
 have h0:(0:Int)<=0/\(0:Int)<18446744073709551616:=by omega
 have hd:(o.Args.drop 1).length<=999999:=by have:=ho.1;simp;omega
 rcases zzL8.1 hx with h1|h1
 ·rcases grd_cases o g s with⟨_,e⟩|⟨_,e⟩|⟨_,e⟩|⟨_,e⟩|⟨_,e⟩<;>rw[e]at h1
  ·exact HG hs h0 (by simp) x h1
  ·exact hs x h1
  ·exact HG hs h0 (by simp) x h1
  ·exact HG hs h0 (by simp) x h1
  ·exact hs x h1
 ·rw[zzL10.1 h1];rcases grd_cases o g s with⟨_,e⟩|⟨_,e⟩|⟨_,e⟩|⟨_,e⟩|⟨_,e⟩<;>rw[e]
  ·exact⟨by simp,ho.2⟩
  ·exact⟨by simp,ho.2⟩
  ·exact⟨by simp,ho.2⟩
  ·exact⟨by grind,ho.2⟩
  ·exact ho
theorem WP(g:Int):∀(ops:List A0) (s:Pt),(∀ o∈s.1,ER o)->(∀ o∈ops,ER o)->∀ x∈(Nb ops g s).1,ER x
 | [],s,hs,_=>hs
 | o::l,s,hs,ho=>WP g l _ (yM hs (ho o (zzL44 ..)) g) λx hx=>ho x (Mo _ hx)
section
variable {f:AI} {h:AT} (H:Hm f h) (hc:Ue f=true) (hf:ZJ f)
include H hc hf
theorem dm(hi:i<f.Blocks.length):∀ o∈(bA f i).Ops,ER o:=λo ho=>by
 have hm:bA f i∈f.Blocks:=Ag hi;have h1:=hf.op _ hm o ho;have h2:=bt H.R.ok hm ho;exact⟨by omega,h1.2⟩
theorem nE{x:Int}(hx:x = -1\/As x f.Blocks.length):∀ o∈Ef f x,ER o:=λo ho=>by
 unfold Ef at ho;rcases hx with rfl|hx
 ·cases ho
 ·rw[show(x !=-1)=true by grind]at ho;exact dm H hc hf (by have:=hx.1;have:=hx.2;omega) o ho
theorem Ab4:∀ o∈(Uz f h).2.1,ER o:=by
 have hA:h.At.toNat<f.Blocks.length:=by have:=H.at_.1;have:=H.at_.2;omega
 have h1:∀ o∈(Vz f h).1,ER o:=WP _ _ _ (dm H hc hf hA) (nE H hc hf H.sides.1)
 have h2:∀ o∈(HZ f h).1,ER o:=by
  unfold HZ
  cases LJ _ with
  | false=>exact h1
  | true=>exact HG (HG h1 (by omega) (by simp)) (by omega) (by simp)
 have h3:∀ o∈(Zt f h).1,ER o:=WP _ _ _ h2 (nE H hc hf H.sides.2)
 have key:∀(l:List _) (s:List _×Pt),(∀ o∈s.2.1,ER o)->∀ o∈(l.foldl (Xe f h) s).2.1,ER o:=λl=>by
  induction l with
  | nil=>intro s hs;exact hs
  | cons q l ih=>
   intro s hs;refine ih _ ?_;unfold Xe
   cases U1 q _==U1 q _ with
   | true=>exact hs
   | false=>exact HG hs (by omega) (by simp)
 exact key _ _ h3
theorem th:∀ p∈(Uz f h).1,p.Args.length<=64:=by
 have key:∀(l:List _) (s:List _×Pt),(∀ p∈s.1,p.Args.length<=64)->∀ p∈(l.foldl (Xe f h) s).1,p.Args.length<=64:=λl=>by
  have hl:∀ q v,(Za _ h q v).Args.length<=64:=λq v=>by
   have:=(kE H hc (p:=q) v).1
   show((Qk _ h q).map _).length<=64
   rw[F2];exact this
  induction l with
  | nil=>intro s hs;exact hs
  | cons q l ih=>
   intro s hs;refine ih _ λp hp=>?_;unfold Xe at hp;cases hb:U1 q _==U1 q _<;>rw[hb]at hp<;>simp only[Ah,Ar]at hp
   all_goals
    grind
 exact key _ _ (λp hp=>by cases hp)
theorem kX:ZJ (Cs f h):=by
 have hmx:(1000001:Nat)<=maxLen:=by decide
 have hn:=H.R.hi;have hJ:=BA H
 have hA:h.At.toNat<f.Blocks.length:=by have:=H.at_.1;have:=H.at_.2;omega
 have hb:∀ b∈(Cs f h).Blocks,∃ x,x<f.Blocks.length/\b=KB h (Vm f h x):=λb hb=>by
  obtain⟨x,hx,rfl⟩:=zzL16.1 hb;exact⟨x,by grind,rfl⟩
 refine⟨hf.params,?_,λb hb'=>?_,λb hb' p hp=>?_,λb hb' o ho=>?_⟩
 ·show(List.map _ _).length<=_
  rw[F2];have:=List.length_filter_le (Bk h) (List.range f.Blocks.length);rw[Tf]at this;omega
 ·obtain⟨x,hx,rfl⟩:=hb b hb';obtain⟨b1,_,b3,_⟩:=jq H hc hx;refine⟨?_,?_,?_⟩
  ·show((Vm f h x).Phis.map _).length<=_
   rw[F2];omega
  ·unfold Vm
   cases(x:Int)==h.At with
   | true=>
    have:=(SU H hc).2;have:=Qq H hJ
    show(Uz f h).2.1.length<=_
    omega
   | false=>
    rw[Ar]
    cases(x:Int)==h.Join with
    | true =>  exact(hf.block _ (Ag hJ)).2.1
    | false=>exact(hf.block _ (Ag hx)).2.1
  ·show((Vm f h x).End.To.map _).length<=_
   rw[F2];omega
 ·obtain⟨x,hx,rfl⟩:=hb b hb';obtain⟨q,hq,rfl⟩:=zzL16.1 (hp);obtain⟨_,b2,_,_⟩:=jq H hc hx;have h1:=(b2 q hq).1;refine⟨by show(q.From.map _).length<=_;rw[F2];omega,?_⟩
  show q.Args.length<=_
  have ph:∀ i,i<f.Blocks.length->∀ q∈(bA f i).Phis,q.Args.length<=maxLen:=λi hi q hq=>(hf.phi _ (Ag hi) q hq).2
  revert hq
  unfold Vm
  cases(x:Int)==h.At with
  | true=>exact λhq=>ph _ hA q hq
  | false=>
   rw[Ar]
   cases(x:Int)==h.Join with
   | true=>exact λhq=>by have:=th H hc hf q hq;omega
   | false=>exact λhq=>ph _ hx q hq
 ·obtain⟨x,hx,rfl⟩:=hb b hb';have ho':o∈(Vm f h x).Ops:=ho;have fin:ER o->o.Args.length<=maxLen/\0<=o.Imm/\o.Imm<18446744073709551616:=λh1=>⟨by have:=h1.1;omega,h1.2⟩;refine fin ?_
  revert ho'
  unfold Vm
  cases(x:Int)==h.At with
  | true=>exact λho'=>Ab4 H hc hf o ho'
  | false=>
   rw[Ar]
   cases(x:Int)==h.Join with
   | true=>exact λho'=>dm H hc hf hJ o ho'
   | false=>exact λho'=>dm H hc hf hx o ho'
end
theorem xe(hs:Sm f)(h:AT):Kk f h=some (FL f h):=by
 unfold Kk FL;rw[sr hs,Am]
 cases hm:S8 f h with
 | false=>rfl
 | true=>
  have hi :=by unfold S8 at hm;rw[Az]at hm;exact hm.1
  have hc :=by unfold Mh at hi;rw[Az]at hi;exact hi.1
  have H:=mi hs hi;rw[D3, Aa7 f hs,Am,r9 H hc,Am, Ae9 _ (kX H hc hs.1)]
  cases decide (1023<(Uz f h).2.2) with
  | true=>rfl
  | false=>
   grind
theorem Abr(hf:ZJ f):L7 f=some (Gx f):=by
 have h1:∀(i:Nat),i<f.Blocks.length->∀ n:Int,Ae (Jg f (i:Int)) (n,(0:Int))=some ((f.Blocks.getD i default).Phis.foldl (λn p=>grow n p.Dst) n):=λi hi n=>by
  have hB:=hf.block _ (Ag (d:=(default:Ab)) hi);refine Tx (f.Blocks.getD i default).Phis (default:A8) _ _ (λs j hj=>?_) (λs=>?_) n
  ·unfold Jg grow
   have hd:decide ((j:Int)<((f.Blocks.getD i default).Phis.length:Int))=true:=by simpa using hj
   simp only[Aa (Ai hi),Dn,hd,Ah,Aa (Ai hj),OZ hj hB.1]
   cases decide (s<((f.Blocks.getD i default).Phis.getD j default).Dst)<;>rfl
  ·unfold Jg;simp[Aa (Ai hi)]
 have h2:∀(i:Nat),i<f.Blocks.length->∀ n:Int,Ae (Jh f (i:Int)) (n,(0:Int))=some ((f.Blocks.getD i default).Ops.foldl (λn p=>grow n p.Dst) n):=λi hi n=>by
  have hB:=hf.block _ (Ag (d:=(default:Ab)) hi);refine Tx (f.Blocks.getD i default).Ops (default:A0) _ _ (λs j hj=>?_) (λs=>?_) n
  ·unfold Jh grow
   have hd:decide ((j:Int)<((f.Blocks.getD i default).Ops.length:Int))=true:=by simpa using hj
   simp only[Aa (Ai hi),Dn,hd,Ah,Aa (Ai hj),OZ hj hB.2.1]
   cases decide (s<((f.Blocks.getD i default).Ops.getD j default).Dst)<;>rfl
  ·unfold Jh;simp[Aa (Ai hi)]
 unfold L7 Gx
 rw[Tx f.Blocks (default:Ab) (λn b=>b.Ops.foldl (λn o=>grow n o.Dst) (b.Phis.foldl (λn p=>grow n p.Dst) n)) (Ji f) (λs i hi=>by
  unfold Ji
  have hd:decide ((i:Int)<(f.Blocks.length:Int))=true:=by simpa using hi
  simp only[hd,Ah,h1 i hi,h2 i hi,Am,OZ hi hf.blocks]) (λs=>by unfold Ji;simp)]
 rfl
theorem dH{α:Type}(v:α->Int)(B:Int):∀(l:List α) (n:Int),n<=B->(∀ a∈l,v a<=B)->l.foldl (λn a=>grow n (v a)) n<=B
 | [],n,h,_=>h
 | a::l,n,h,hl=>dH v B l _ (by
   have:=hl a (zzL44 ..)
   show(bif decide _ then v a else n)<=B
   by_cases hd:n<v a
   ·grind
   ·grind) λx hx=>hl x (Mo _ hx)
theorem xZ{B:Int}(h0:(f.Params.length:Int)<=B)(hb:∀ b∈f.Blocks,(∀ p∈b.Phis,p.Dst<=B)/\∀ o∈b.Ops,o.Dst<=B):Gx f<=B:=by
 have key:∀(l:List Ab) (n:Int),n<=B->(∀ b∈l,(∀ p∈b.Phis,p.Dst<=B)/\∀ o∈b.Ops,o.Dst<=B)->l.foldl _ n<=B:=λl=>by
  induction l with
  | nil=>intro n h _;exact h
  | cons b l ih=>
   intro n h hl;obtain⟨h1,h2⟩:=hl b (zzL44 ..);exact ih _ (dH _ _ _ _ (dH _ _ _ _ h h1) h2) λx hx=>hl x (Mo _ hx)
 exact key _ _ h0 hb
theorem UO(hf:OkF f):0<=Gx f/\Gx f<=2147483647:=by
 constructor
 ·have:=(FK f.Blocks f.Params.length).1;unfold Gx;omega
 ·refine xZ (by have:=hf.few;omega) λb hb=>?_;obtain⟨h1,h2,_⟩:=blockB_iff.1 (hf.block b hb).may
  constructor
  ·intro p hp;have:=h1 p hp;simp only[KF,numB,Az,Hs]at this;omega
  ·intro o ho;have:=h2 o ho;simp only[jC,numB,Az,Hs]at this;omega
theorem NN(h:0<=s.2/\s.2<=4000000000)(k b m:Int)(az:List Int):(Do s k b m az).2=s.2+1:=F1 (by omega) (by omega)
theorem pe(h:0<=s.2/\s.2<=4000000000)(g:Int)(o:A0):s.2<=(Vw g s o).2/\(Vw g s o).2<=s.2+1:=by
 unfold Vw;rcases grd_cases o g s with⟨_,e⟩|⟨_,e⟩|⟨_,e⟩|⟨_,e⟩|⟨_,e⟩<;>rw[e]<;>simp only[NN h]<;>omega
theorem WQ(g:Int):∀(ops:List A0) {s:Pt},0<=s.2/\s.2+ops.length<=4000000000->s.2<=(Nb ops g s).2/\(Nb ops g s).2<=s.2+ops.length
 | [],s,h=>by simp[Nb]
 | o::l,s,h=>by
  simp only[Ry]at h ⊢;have h1:=pe (s:=s) (by omega) g o;have h2:=WQ g l (s:=Vw g s o) (by omega)
  show _<=(Nb l g _).2/\(Nb l g _).2<=_
  omega
section
variable {f:AI} {h:AT} (H:Hm f h)
include H
theorem uJ:Gx f<=(Vz f h).2/\0<=(Vz f h).2/\(Vz f h).2<=2147485000:=by
 have h1:=Kl H.R H.sides.1;have h2:=UO H.R.ok;have:=WQ (bA f h.At.toNat).End.Arg (Ef f h.Then) (s:=((bA f h.At.toNat).Ops,Gx f)) (by  omega);unfold Vz;omega
theorem sS(c:Int):∀(l:List A0) (s:Pt),0<=s.2->s.2<=4000000000-2->
  l.foldl (λ(t:Int×Pt) o=>bif (t.1==0)&&!Wo o.Kind then((Do (Do t.2 0 1 1 []) 7 1 0 [c,(Do t.2 0 1 1 []).2]).2,Do (Do t.2 0 1 1 []) 7 1 0 [c,(Do t.2 0 1 1 []).2]) else t) (0,s) =
   bif LJ l then((Do (Do s 0 1 1 []) 7 1 0 [c,(Do s 0 1 1 []).2]).2,Do (Do s 0 1 1 []) 7 1 0 [c,(Do s 0 1 1 []).2]) else(0,s):=by
 intro l
 have stay:∀(l:List A0) (t:Int×Pt),t.1≠0->l.foldl (λ(t:Int×Pt) o=>bif (t.1==0)&&!Wo o.Kind then((Do (Do t.2 0 1 1 []) 7 1 0 [c,(Do t.2 0 1 1 []).2]).2,Do (Do t.2 0 1 1 []) 7 1 0 [c,(Do t.2 0 1 1 []).2]) else t) t=t:=λl=>by
  induction l with
  | nil=>intro t _;rfl
  | cons o l ih=>
   intro t ht;rw[AB,show(t.1==0)=false by simpa using ht,KO,Ar];exact ih t ht
 induction l with
 | nil=>intro s _ _;rfl
 | cons o l ih=>
  intro s h1 h2;rw[AB];unfold LJ;rw[List.any_cons]
  cases hp:Wo o.Kind with
  | true=>
   simp only[D3,Bool.and_false,Ar,XH];exact ih s h1 h2
  | false=>
   simp only[Mq,PH,show((0:Int)==0)=true from rfl,Ah,Bool.true_or];refine stay l _ ?_;have e:=NN (s:=s) (by omega) 0 1 1 [];simp only;rw[NN (by omega),e];omega
theorem Aez(hE:As h.Else f.Blocks.length):Ae (D9 f h) ((0:Int),(0:Int),(Vz f h).1,(Vz f h).2)=some (OG f h,(HZ f h).1,(HZ f h).2):=by
 have hEn:h.Else.toNat<f.Blocks.length:=by have:=hE.1;have:=hE.2;omega
 have eX:Ef f h.Else=(bA f h.Else.toNat).Ops:=by unfold Ef;rw[show(h.Else !=-1)=true by have:=hE.1;simp;omega];rfl
 have hl:(bA f h.Else.toNat).Ops.length<=512:=(H.R.ok.block _ (Ag (l:=f.Blocks) (d:=default) hEn)).ops;obtain⟨_,l1,l2⟩:=uJ H;have ll:=d5 H;have key:=Ld (bA f h.Else.toNat).Ops (default:A0) (λi (t:Int×Pt)=>(t.1,(i:Int),t.2.1,t.2.2)) (λi t=>t.2.1.length<=2000+2*i)
  (λ(t:Int×Pt) o=>bif (t.1==0)&&!Wo o.Kind then((Do (Do t.2 0 1 1 []) 7 1 0 [(bA f h.At.toNat).End.Arg,(Do t.2 0 1 1 []).2]).2,Do (Do t.2 0 1 1 []) 7 1 0 [(bA f h.At.toNat).End.Arg,(Do t.2 0 1 1 []).2]) else t) (λt=>(t.1,t.2.1,t.2.2)) (D9 f h)
  (λi t hi hP=>by
   unfold D9;have e1:f.Blocks.getD h.Else.toNat default=bA f h.Else.toNat:=rfl;have e2:f.Blocks.getD h.At.toNat default=bA f h.At.toNat:=rfl;simp only[Aa hE,e1,e2,B0 hi,Ah,Ao,w1 (show i<4611686018427387904 by omega),Ab7];rw[Aa (λ_=>hE),Aa (λ_=>Ai hi)]
   cases ht:t.1==0 with
   | false=>
    grind
   | true=>
    simp only[ Ah,Am,Kd]
    cases hp:Wo _ with
    | true=>
     grind
    | false=>
     simp only[Mq,Ah];rw[b6 _ _ _ _ t.2 (by omega),Am];simp only;rw[b6 _ _ _ _ (Do t.2 0 1 1 []) (by rw[Y2];omega)]
     exact⟨rfl,by rw[Y2,Y2];omega⟩)
  (λt _=>by
   unfold D9;have e1:f.Blocks.getD h.Else.toNat default=bA f h.Else.toNat:=rfl
   simp only[Aa hE,e1,Cy,Ar]) (0,Vz f h) (by simp only;omega)
 have k1:=key.1;rw[sS H _ _ _ l1 (by omega)]at k1;rw[show((0:Int),(0:Int),(Vz f h).1,(Vz f h).2)=((0:Int),((0:Nat):Int),(Vz f h).1,(Vz f h).2) from rfl,k1];unfold OG HZ;rw[eX]
 cases LJ _<;>rfl
theorem GI:(h.Then = -1\/0<=h.Then)/\(h.Else = -1\/0<=h.Else):=⟨H.sides.1.imp id (·.1),H.sides.2.imp id (·.1)⟩
theorem Ae0(hc:Ue f=true)(hp:p∈(bA f h.Join.toNat).Phis)(hi:i<(bA f h.Join.toNat).Phis.length)(he:(bA f h.Join.toNat).Phis.getD i default=p)(v:Int) :
  Ae (Ft f h (Ci h h.Then) (Ci h h.Else) (i:Int) v) ((0:Int),([]:List Int),([]:List Int))=some ((We h (Za f.Blocks.length h p v)).From,(We h (Za f.Blocks.length h p v)).Args):=by
 have ab1:(1000001:Nat)<=room:=by decide
 have hn:=H.R.hi;obtain⟨p1,p2,p3,p4,p5⟩:=Ru H hc (BA H) hp;have key:=Ld (List.range f.Blocks.length) (0:Nat) (λk (t:List Int×List Int)=>((k:Int),t.1,t.2)) (λk t=>t.1.length<=k/\t.2.length<=k)
  (λt (x:Nat)=>bif Zb h p x then(t.1++[Ho h (x:Int)],t.2++[bif (x:Int)==h.At then v else U1 p (x:Int)]) else t) (λt=>(t.1,t.2)) (Ft f h (Ci h h.Then) (Ci h h.Else) (i:Int) v)
  (λk t hk hP=>by
   rw[Tf]at hk;rw[rgd hk];unfold Ft;have eJ:f.Blocks.getD h.Join.toNat default=bA f h.Join.toNat:=rfl;simp only[B0 hk,Ah,Ao,eJ,he,w1 (show k<4611686018427387904 by omega),dt (GI H) (show(0:Int)<=(k:Int)/\(k:Int)<1000000 by omega),mr _ _ (show p.From.length<4611686018427387904 by omega),tv p2 (by omega) p4,Am,HI];unfold Zb
   cases hA:(k:Int)==h.At with
   | true=>
    simp only[Ah,Bool.true_or];rw[Ac (by simp;omega),Ac (by simp;omega)];exact⟨rfl,by simp;omega⟩
   | false=>
    simp only[Ar,XH]
    cases h1:(k:Int)!=Ci h h.Then with
    | false=>
     grind
    | true=>
     cases h2:(k:Int)!=Ci h h.Else with
     | false=>
      grind
     | true=>
      simp only[Kd,show((true:Bool)==true)=true from rfl,Ah,Am]
      cases h3:p.From.contains (k:Int) with
      | false=>
       grind
      | true=>
       simp only[Ah];rw[Ac (by simp;omega),Ac (by simp;omega)]
       exact⟨rfl,by simp;omega⟩)
  (λt _=>by unfold Ft;simp only[Tf,Cy,Ar]) ([],[]) (by simp)
 have k1:=key.1;have e:∀(l:List Nat) (s:List Int×List Int),l.foldl (λt (x:Nat)=>bif Zb h p x then(t.1++[Ho h (x:Int)],t.2++[bif (x:Int)==h.At then v else U1 p (x:Int)]) else t) s =
   (s.1++((l.filter (Zb h p)).map Int.ofNat).map (Ho h),s.2++((l.filter (Zb h p)).map Int.ofNat).map λx=>bif x==h.At then v else U1 p x):=λl=>by
  induction l with
  | nil=>intro s;simp
  | cons x l ih=>
   intro s;rw[AB,ih]
   cases hk:Zb h p x with
   | false=>simp[hk]
   | true=>simp[hk]
 rw[e]at k1;rw[show((0:Int),([]:List Int),([]:List Int))=(((0:Nat):Int),[],[]) from rfl,k1];simp only[Vi]
 rfl
theorem Ab8(hc:Ue f=true):Ae (Fu f h (Ci h h.Then) (Ci h h.Else)) (([]:List A8),(0:Int),(Zt f h).1,(Zt f h).2)=some ((Uz f h).1.map (We h),(Uz f h).2.1,(Uz f h).2.2):=by
 have ab1:(1000001:Nat)<=room:=by decide
 have hJ:=BA H;have hpl:=Qq H hJ;have hsl:=d7 H;have key:=Ld (bA f h.Join.toNat).Phis (default:A8) (λi t=>(t.1.map (We h),(i:Int),t.2.1,t.2.2)) (λi t=>t.1.length=i/\t.2.1.length<=4000+i) (Xe f h)
  (λt=>(t.1.map (We h),t.2.1,t.2.2)) (Fu f h _ _) (λi t hi hP=>by
   obtain⟨g1,g2⟩:=dp f h t ((bA f h.Join.toNat).Phis.getD i default);refine⟨?_,by omega,by omega⟩;obtain⟨p1,p2,p3,p4,p5⟩:=Ru H hc hJ (Ag (d:=(default:A8)) hi);have hI:=λv=>Ae0 H hc (Ag  hi) hi rfl v;unfold Fu;have eJ:f.Blocks.getD h.Join.toNat default=bA f h.Join.toNat:=rfl;have eA:f.Blocks.getD h.At.toNat default=bA f h.At.toNat:=rfl;simp only[eJ,eA,Aa H.join,B0 hi,Ah,Aa (Ai hi),Ao,w1 (show i<4611686018427387904 by omega),tv p2 (by omega) p4,Am];unfold Xe
   revert hI
   generalize (bA f h.Join.toNat).Phis.getD i default=p
   intro hI;unfold bne
   cases(U1 p _==U1 p _) with
   | true=>
    simp only[D3,Ar,Am,hI,Ah];rw[Ac (by simp;omega)];simp[We,Za]
   | false=>
    simp only[Mq,Ah];rw[b6 _ _ _ _ t.2 (by omega)];simp only[Am,hI];rw[Ac (by simp;omega)]
    simp[We,Za]) (λt _=>by
   unfold Fu;have eJ:f.Blocks.getD h.Join.toNat default=bA f h.Join.toNat:=rfl
   simp only[eJ,Aa H.join,Cy,Ar]) ([],Zt f h) (by simp;omega)
 have k1:=key.1;simp only[K8]at k1;rw[show([],(0:Int),(Zt f h).1,(Zt f h).2)=([],((0:Nat):Int),(Zt f h).1,(Zt f h).2) from rfl,k1]
 rfl
theorem pg(hc:Ue f=true)(hx:x<f.Blocks.length):Ae (Fv f h (x:Int)) ((0:Int),([]:List A8))=some ((bA f x).Phis.map (We h)):=by
 have ab1:1000001<=room:=by decide
 have hpl:=Qq H hx
 have key:=Ld _ _ (λi t=>((i:Int),t)) (λi t=>t.length=i) (λt p=>t++[We h p]) id (Fv f h x) (λi t hi hP=>by
   obtain⟨p1,p2,p3,p4,p5⟩:=Ru H hc hx (Ag (d:=default) hi);have hm:=VX (l:=((bA f x).Phis.getD i default).From)  (GI H) (by omega) (λy hy=>by have:=p5 y hy;have hn:=H.R.hi;exact⟨this.1,by have:=this.2;omega⟩);unfold Fv;have eX:f.Blocks.getD x _=bA f x:=rfl;simp only[Ao, B0 hi, Aa (Ai hi),w1 (show i<4611686018427387904 by omega),hm,Am];rw[Ac (by simp;omega)]
   exact⟨rfl,by simp;omega⟩) (λt _=>by
   unfold Fv;have eX:f.Blocks.getD x _=bA f x:=rfl;simp only[Ao, Cy]
   rfl) [] rfl
 have k1:=key.1
 have e:∀(l s:List _),l.foldl (λt p=>t++[We h p]) s=s++l.map (We h):=λl=>by
  induction l with
  | nil =>  simp
  | cons b l ih=>grind
 rw[e]at k1;rw[show(0,[])=(((0:Nat):Int),[]) from rfl,k1]
 rfl
theorem tu(hc:Ue f=true):Ae (Fx f h ((Uz f h).1.map (We h)) (Uz f h).2.1) ((0:Int),([]:List Ab))=some (Cs f h).Blocks:=by
 have ab1:(1000001:Nat)<=room:=by decide
 have hn:=H.R.hi;have key:=Ld (List.range f.Blocks.length) (0:Nat) (λi (t:List Ab)=>((i:Int),t)) (λi t=>t.length<=i) (λt x=>bif Bk h x then t++[KB h (Vm f h x)] else t) id
  (Fx f h ((Uz f h).1.map (We h)) (Uz f h).2.1) (λx t hx hP=>by
   rw[Tf]at hx;rw[rgd hx];obtain⟨t1,t2⟩:=MV H hc hx;have hmt:=VX (l:=(bA f x).End.To) (h:=h) (GI H) (by omega) t2;have hmj :=dt (GI H) ⟨H.join.1,by have:=H.join.2;omega⟩;have eX:f.Blocks.getD x default=bA f x:=rfl;unfold Fx;simp only[B0 hx,Ah,Ao,eX,Aa (Ai hx),w1 (show x<4611686018427387904 by omega),hmt,pg H hc hx,hmj,Am];unfold Bk bne;have tn:=H.tne
   cases hT:(x:Int)==h.Then with
   | true=>grind
   | false=>
    cases hE:(x:Int)==h.Else with
    | true=>grind
    | false=>
     unfold Vm
     cases hA:(x:Int)==h.At with
     | true=>
      have exA:x=h.At.toNat:=by have:=eq_of_beq hA;omega
      have eJ:((x:Int)==h.Join)=false:=by have:=eq_of_beq hA;rw[this];simpa using λe=>H.jne e.symm
      simp only[eJ,Ar,Ah,Am];rw[Ac (by simp;omega),exA];exact⟨rfl,by simp;omega⟩
     | false=>
      cases hJ:(x:Int)==h.Join with
      | true=>
       have exJ:x=h.Join.toNat:=by have:=eq_of_beq hJ;omega
       simp only[Ar,Ah,Am];rw[Ac (by simp;omega),exJ];exact⟨rfl,by simp;omega⟩
      | false=>
       simp only[Ar,Am];rw[Ac (by simp;omega)]
       exact⟨rfl,by simp;omega⟩) (λt _=>by
   unfold Fx;simp only[Tf,Cy,Ar]
   rfl) [] (by simp)
 have k1:=key.1;rw[NV]at k1;rw[show((0:Int),([]:List Ab))=(((0:Nat):Int),[]) from rfl,k1]
 rfl
end
theorem kR(hs:Sm f)(h:AT):K0 f h=some (FL f h):=by
 unfold K0 FL;rw[gn hs,Am]
 cases hm:S8 f h with
 | false=>rfl
 | true=>
  have ab1:(1000001:Nat)<=room:=by decide
  have hi:Mh f h=true:=by unfold S8 at hm;rw[Az]at hm;exact hm.1
  have hc:Ue f=true:=by unfold Mh at hi;rw[Az]at hi;exact hi.1
  have H:=mi hs hi;have hal:=cz H;have eA:f.Blocks.getD h.At.toNat default=bA f h.At.toNat:=rfl;rw[D3,Ar,Aa H.at_,eA,Ac (show([]:List A0).length+(bA f h.At.toNat).Ops.length<=room by grind),Abr hs.1,Am,Ah,Vi]
  have hT:(bif decide (0<=h.Then) then(Ay (As h.Then f.Blocks.length) ((C8 ((f.Blocks.getD h.Then.toNat default).Ops) (bA f h.At.toNat).End.Arg (bA f h.At.toNat).Ops (Gx f)).bind λx9=>(some ((h.Then,x9.1,x9.2))))) else(some ((h.At,(bA f h.At.toNat).Ops,Gx f))))=some (Ci h h.Then,(Vz f h).1,(Vz f h).2):=by
   have ok:=dn H hc H.sides.1;have ll:=Kl H.R H.sides.1;unfold Vz Ci;rcases H.sides.1 with e|e
   ·rw[e];rfl
   ·have e1:(h.Then==-1)=false:=by have:=e.1;simp;omega
    have eX:Ef f h.Then=(f.Blocks.getD h.Then.toNat default).Ops:=by unfold Ef bne;rw[e1];rfl
    rw[eX]at ok ll ⊢;rw[Da e.1,Ah,Aa e,tw ok (by omega) _ ((bA f h.At.toNat).Ops,Gx f) (by simp only;omega),e1]
    rfl
  rw[hT,Am];simp only;have k2:=d6 H
  have hE:(bif decide (0<=h.Else) then((Ae   (D9 f h) ((0:Int),(0:Int),(Vz f h).1,(Vz f h).2)).bind (λx33=>(match x33 with|(i19,l20,i21)=>(Ay (As h.Else f.Blocks.length) ((C8 ((f.Blocks.getD h.Else.toNat default).Ops) i19 l20 i21).bind λx36=>(some ((h.Else,x36.1,x36.2)))))))) else(some ((h.At,(Vz f h).1,(Vz f h).2))))=some (Ci h h.Else,(Zt f h).1,(Zt f h).2):=by
   have ok:=dn H hc H.sides.2;have ll:=Kl H.R H.sides.2;unfold Ci;rcases H.sides.2 with e|e
   ·have eX:Ef f h.Else=[]:=by unfold Ef;rw[e];rfl
    unfold Zt HZ OG;rw[eX,e];rfl
   ·have e1:(h.Else==-1)=false:=by have:=e.1;simp;omega
    have eX:Ef f h.Else=(f.Blocks.getD h.Else.toNat default).Ops:=by unfold Ef bne;rw[e1];rfl
    rw[Da e.1,Ah,Aez H e,Am];simp only;unfold Zt;rw[eX]at ok ll ⊢;rw[Aa e,tw ok (by omega) _ (HZ f h) (by omega),e1]
    rfl
  rw[hE,Am];simp only;rw[Ab8 H hc,Am];simp only;rw[tu H hc,Am];rw[show(⟨f.Params,f.Ret,(Cs f h).Blocks⟩:AI)=Cs f h from rfl,nQ _ (kX H hc hs.1)]
  cases decide (1023<(Uz f h).2.2) with
  | true=>rfl
  | false=>
   grind
structure vX(f:AI):Prop where
 inf:ZJ f
 blocks:f.Blocks.length<=16
 params:f.Params.length<=64
 to:∀ b∈f.Blocks,b.End.To.length<=2
 phi:∀ b∈f.Blocks,∀ p∈b.Phis,p.From.length<=16/\p.Args.length<=16
 op:∀ b∈f.Blocks,∀ o∈b.Ops,o.Args.length<=16
 size:Ts f<=512
theorem KC(h:vX f):Sm f:=by
 refine Ae6 h.inf h.params (λb hb=>⟨by have:=h.to b hb;omega,λp hp=>by have:=h.phi b hb p hp;omega,λo ho=>by have:=h.op b hb o ho;omega⟩) ?_
 have hB:∀ b∈f.Blocks,ZW b<=33*Wt b:=λb hb=>by
  have h1:(b.Phis.map fy).sum<=b.Phis.length*33:=d8 _ _ _ λp hp=>by have:=h.phi b hb p hp;unfold fy;omega
  have h2:(b.Ops.map fx).sum<=b.Ops.length*33:=d8 _ _ _ λo ho=>by have:=h.op b hb o ho;unfold fx;omega
  have h3:=h.to b hb;unfold ZW Wt;omega
 have hS:∀ l:List _,(∀ b∈l,ZW b<=33*Wt b)->(l.map ZW).sum<=33*(l.map Wt).sum:=λl=>by
  induction l with
  | nil =>  simp
  | cons b l ih=>
   grind
 have h1:=hS _ hB;have h2:=h.size;have h3:=h.params;unfold Ts at h2;unfold j7;omega
theorem s9{n:Int}(hn:n<=16):K7 k n<=16:=by
 unfold K7
 cases k==0<;>cases(k==13 || k==18 || k==19)<;>cases(k==14 || k==15 || k==16 || k==22)<;>cases k==20<;>cases k==21<;>simp only[Ah,Ar]<;>omega
theorem s5(h:Dp o=true):o.Args.length<=16:=by
 simp only[Dp,Az,zzL34]at h;have h2:=s9 (k:=o.Kind) (n:=o.Lanes) (by rcases shape_lanes h.1.1 with e|e|e|e|e<;>omega);omega
theorem tA(hs:Sm f)(h16:R6 f=true->f.Blocks.length<=16)(hc:Ue f=true):vX f:=by
 have hz:=(Mg (f:=f) (l:=2) (by omega) (by omega)).1 (by simpa [Ue] using hc);have R:=GD hs (by simpa [Ue] using hc);have hn:=h16 hz.1;obtain⟨sm,hsm,hp⟩:=RA f hs.1;rw[hs.2]at hsm;obtain⟨_,hsz,_⟩:=hp (OI hsm).symm hz.1
 have hi:∀ b∈f.Blocks,∃ i,i<f.Blocks.length/\bA f i=b:=λb hb=>by
  obtain⟨i,hi,he⟩:=H8 hb;exact⟨i,hi,by grind⟩
 have hsh:=hz.2.1;unfold Eg at hsh;rw[Az]at hsh;refine⟨hs.1,hn,by have:=R.ok.few;omega,λb hb=>?_,λb hb p hp=>?_,λb hb o ho=>s5 (WY hz.2.2.1 hb ho),hsz⟩
 ·obtain⟨i,hi',rfl⟩:=hi b hb;have h3:=(shape_iff.1 hsh.1).2 i hi';unfold Nz CS at h3;simp only[Az,Hs]at h3;have h4:(((bA f i).End.To.length:Nat):Int)=Wx (bA f i).End.Kind:=h3.1.2
  have h5:∀ k:Nat,([0,1,2,0]:List Int).getD k 0<=2:=λk=>by
   grind
  have h5:Wx (bA f i).End.Kind<=2:=h5 _;omega
 ·obtain⟨i,hi',rfl⟩:=hi b hb;have hb2:=zzL21.1 hsh.2 i (by simpa using hi');unfold Mf at hb2;rw[Az]at hb2;have hp2:=zzL21.1 hb2.2 p hp;simp only[Ju,Az,Hs,zzL34]at hp2;have e :=hp2.1
  have hl:(BV f i).length<=f.Blocks.length:=by
   unfold BV;rw[Zm (by rw[Hc];exact hi')];unfold Lc;rw[F2];have:=List.length_filter_le (λk=>CR (Bf f) k i) (List.range (Bf f).length);rw[Tf]at this;rw[Hc]at this ⊢;exact this
  have h2:(p.Args.length:Int)=((BV f i).length:Int):=hp2.2;rw[e];omega
section
variable {f:AI} {h:AT} (H:Hm f h) (hc:Ue f=true) (hN:vX f)
include H hc hN
theorem OT(g:Int):∀(ops:List A0) (s:Pt),(∀ o∈s.1,o.Args.length<=16)->(∀ o∈ops,o.Args.length<=16)->∀ x∈(Nb ops g s).1,x.Args.length<=16
 | [],s,hs,_=>hs
 | o::l,s,hs,ho=>OT g l _ (λx hx=>by
   have h0:=ho o (zzL44 ..)
   have ha:∀ k b m az,az.length<=16->∀ y∈(Do s k b m az).1,y.Args.length<=16:=λk b m az hz y hy=>by
    rcases zzL8.1 hy with h1|h1
    ·exact hs y h1
    ·grind
   rcases zzL8.1 hx with h1|h1
   ·rcases grd_cases o g s with⟨_,e⟩|⟨_,e⟩|⟨_,e⟩|⟨_,e⟩|⟨_,e⟩<;>rw[e]at h1
    ·grind
    ·exact hs x h1
    ·grind
    ·grind
    ·exact hs x h1
   ·rw[zzL10.1 h1];rcases grd_cases o g s with⟨_,e⟩|⟨_,e⟩|⟨_,e⟩|⟨_,e⟩|⟨_,e⟩<;>rw[e]
    ·simp
    ·simp
    ·simp
    ·grind
    ·exact h0) λx hx=>ho x (Mo _ hx)
theorem tf:∀ o∈(Uz f h).2.1,o.Args.length<=16:=by
 have hA:h.At.toNat<f.Blocks.length:=by have:=H.at_.1;have:=H.at_.2;omega
 have hb:∀ i,i<f.Blocks.length->∀ o∈(bA f i).Ops,o.Args.length<=16:=λi hi o ho=>hN.op _ (Ag hi) o ho
 have hX:∀ x:Int,(x = -1\/As x f.Blocks.length)->∀ o∈Ef f x,o.Args.length<=16:=λx hx o ho=>by
  unfold Ef at ho;rcases hx with rfl|hx
  ·cases ho
  ·rw[show(x !=-1)=true by grind]at ho;exact hb _ (by  have:=hx.2;omega) o ho
 have ha:∀(s:Pt),(∀ o∈s.1,o.Args.length<=16)->∀ k b m az,az.length<=16->∀ y∈(Do s k b m az).1,y.Args.length<=16:=λs hs k b m az hz y hy=>by
  rcases zzL8.1 hy with h1|h1
  ·exact hs y h1
  ·grind
 have h1:∀ o∈(Vz f h).1,o.Args.length<=16:=OT H hc hN _ _ _ (hb _ hA) (hX _ H.sides.1)
 have h2:∀ o∈(HZ f h).1,o.Args.length<=16:=by
  unfold HZ
  cases LJ (Ef f h.Else) with
  | false=>exact h1
  | true=>grind
 have h3:∀ o∈(Zt f h).1,o.Args.length<=16:=OT H hc hN _ _ _ h2 (hX _ H.sides.2)
 have key:∀(l:List A8) (s:List A8×Pt),(∀ o∈s.2.1,o.Args.length<=16)->∀ o∈(l.foldl (Xe f h) s).2.1,o.Args.length<=16:=λl=>by
  induction l with
  | nil=>intro s hs;exact hs
  | cons q l ih=>
   intro s hs;refine ih _ ?_;unfold Xe
   cases U1 q (Ci h h.Then)==U1 q (Ci h h.Else) with
   | true=>exact hs
   | false=>grind
 exact key _ _ h3
theorem Abk(v:Int):(Za f.Blocks.length h p v).From.length<=16/\(Za f.Blocks.length h p v).Args.length<=16:=by
 have hn:=hN.blocks
 have:(Qk f.Blocks.length h p).length<=16:=by
  unfold Qk;rw[F2];have:=List.length_filter_le (Zb h p) (List.range f.Blocks.length);rw[Tf]at this;omega
 exact⟨this,by show(List.map _ _).length<=16;rw[F2];exact this⟩
theorem Ab5:∀ p∈(Uz f h).1,p.From.length<=16/\p.Args.length<=16:=by
 have key:∀(l:List _) (s:List _×Pt),(∀ p∈s.1,p.From.length<=16/\p.Args.length<=16)->∀ p∈(l.foldl (Xe f h) s).1,p.From.length<=16/\p.Args.length<=16:=λl=>by
  induction l with
  | nil=>intro s hs;exact hs
  | cons q l ih=>
   intro s hs;refine ih _ λp hp=>?_;unfold Xe at hp;cases hb:U1 q _==U1 q _<;>rw[hb]at hp<;>simp only[Ah,Ar]at hp
   all_goals
    rcases zzL8.1 hp with h1|h1
    ·exact hs p h1
    ·rw[zzL10.1 h1];exact Abk H hc hN _
 exact key _ _ (λp hp=>by cases hp)
theorem xr(hb:b∈(Cs f h).Blocks):∃ x,x<f.Blocks.length/\Bk h x=true/\b=KB h (Vm f h x):=by
 obtain⟨x,hx,rfl⟩:=zzL16.1 hb;exact⟨x,by grind,(zzL73.1 hx).2,rfl⟩
theorem mw:(Cs f h).Blocks.length<f.Blocks.length:=by
 show(List.map _ _).length<_
 rw[F2]
 obtain⟨x,hx,hk⟩:∃ x,x<f.Blocks.length/\Bk h x=false:=by
  rcases H.one with e|e
  ·have q:=H.sides.1.resolve_left e;refine⟨h.Then.toNat,by have:=q.1;have:=q.2;omega,?_⟩;unfold Bk;rw[Mp q.1];simp
  ·have q:=H.sides.2.resolve_left e;refine⟨h.Else.toNat,by have:=q.1;have:=q.2;omega,?_⟩;unfold Bk;rw[Mp q.1];simp
 have h1:(List.filter (Bk h) _).length≠(List.range _).length:=λe=>by
  have:=List.length_filter_eq_length_iff.1 e x (by simpa using hx);rw[hk]at this;cases this
 have h2:=List.length_filter_le (Bk h) (List.range f.Blocks.length);rw[Tf]at h1 h2;omega
theorem xu(hm:R6 (Cs f h)=true):vX (Cs f h):=by
 have hJ:=BA H
 have hA:h.At.toNat<f.Blocks.length:=by have:=H.at_.1;have:=H.at_.2;omega
 have hin:=kX H hc hN.inf;have IT:=mw H hc hN;have hbl:=hN.blocks
 have ad4:∀ b∈(Cs f h).Blocks,b.End.To.length<=2/\(∀ p∈b.Phis,p.From.length<=16/\p.Args.length<=16)/\(∀ o∈b.Ops,o.Args.length<=16)/\b.Phis.length<=512/\b.Ops.length<=5000:=λb hb=>by
  obtain⟨x,hx,_,rfl⟩:=xr H hc hN hb
  have ph:∀ i,i<f.Blocks.length->∀ p∈((bA f i).Phis.map (We h)),p.From.length<=16/\p.Args.length<=16:=λi hi p hp=>by
   obtain⟨q,hq,rfl⟩:=zzL16.1 hp;have:=hN.phi _ (Ag hi) q hq;exact⟨by show(q.From.map _).length<=16;rw[F2];exact this.1,this.2⟩
  have pl:∀ i,i<f.Blocks.length->((bA f i).Phis.map (We h)).length<=512:=λi hi=>by rw[F2];exact Qq H hi
  have ol:∀ i,i<f.Blocks.length->(bA f i).Ops.length<=5000:=λi hi=>by have:=(H.R.ok.block _ (Ag (l:=f.Blocks) (d:=default) hi)).ops;exact R0 this (by omega)
  have tl:∀ i,i<f.Blocks.length->((bA f i).End.To.map (Ho h)).length<=2:=λi hi=>by rw[F2];exact(MV H hc hi).1
  unfold KB Vm
  cases(x:Int)==h.At with
  | true=>
   refine⟨by simp,ph _ hA,tf H hc hN,pl _ hA,?_⟩;have:=(SU H hc).2;have:=Qq H hJ
   show(Uz f h).2.1.length<=_
   omega
  | false=>
   rw[Ar]
   cases(x:Int)==h.Join with
   | true=>
    refine⟨tl _ hJ,λp hp=>?_,λo ho=>hN.op _ (Ag hJ) o ho,?_,ol _ hJ⟩
    ·obtain⟨q,hq,rfl⟩:=zzL16.1 hp;have:=Ab5 H hc hN q hq;exact⟨by show(q.From.map _).length<=16;rw[F2];exact this.1,this.2⟩
    ·show((Uz f h).1.map (We h)).length<=512
     rw[F2,(SU H hc).1];exact Qq H hJ
   | false=>exact⟨tl _ hx,ph _ hx,λo ho=>hN.op _ (Ag hx) o ho,pl _ hx,ol _ hx⟩
 refine⟨hin,by omega,hN.params,λb hb=>(ad4 b hb).1,λb hb=>(ad4 b hb).2.1,λb hb=>(ad4 b hb).2.2.1,?_⟩
 have hs:Ts (Cs f h)<=(Cs f h).Blocks.length*6000:=d8 _ _ _ λb hb=>by
  obtain⟨_,_,_,h1,h2⟩:=ad4 b hb;unfold Wt;omega
 unfold R6 at hm;simp only[Az,Hs]at hm;have h5:=hm.1.2;unfold sizeW at h5;rw[MY (by omega)]at h5;omega
end
def iA(f:AI)(ab9:Int)(h:AT):Option AI:=bif decide (ab9<((Vu f h).length:Int)) then none else bif (FL f h).2==0 then some (FL f h).1 else none
def Vf(f:AI)(ab9:Int):Option AI:=(allHR f).findSome? (iA f ab9)
def allM:Nat->AI->Int->AI
 | 0,f,_=>f
 | n+1,f,ab9=>match Vf f ab9 with|some g=>allM n g ab9|none=>f
theorem nD(hh:iA f ab9 h=some g):g=Cs f h/\S8 f h=true/\R6 g=true/\(Uz f h).2.2<=1023/\((Vu f h).length:Int)<=ab9:=by
 unfold iA FL at hh
 cases hd:decide (ab9<(Vu f h).length) with
 | true=>rw[hd]at hh;cases hh
 | false=>
  grind
theorem nU(hh:Vf f ab9=some g):∃ h,h∈allHR f/\iA f ab9 h=some g:=by
 obtain⟨h,h1,h2⟩:=List.exists_of_findSome?_eq_some hh;exact⟨h,h1,h2⟩
theorem MU(hN:vX f)(hh:Vf f ab9=some g):∃ h,Hm f h/\Ue f=true/\Mh f h=true/\g=Cs f h/\vX g/\g.Blocks.length<f.Blocks.length:=by
 obtain⟨h,h1,h2⟩:=nU hh;have hi:=isHR_mem.2 h1
 have hc :=by unfold Mh at hi;rw[Az]at hi;exact hi.1
 have H:=mi (KC hN) hi;obtain⟨e,_,hm,_⟩:=nD h2;subst e;exact⟨h,H,hc,hi,rfl,xu H hc hN hm,mw H hc hN⟩
theorem UT{β:Type}(l:List α)(d:α)(q:α->Option β)(out:β->X)(no:X)(f:Int->Option (LR Int X))(hn:∀ i,i<l.length->q (l.getD i d)=none->f (i:Int)=some (.next (((i+1:Nat):Int))))
  (hf:∀ i,i<l.length->∀ b,q (l.getD i d)=some b->f (i:Int)=some (.done (out b))) (he:f (l.length:Int)=some (.done no)):Ae f (0:Int)=some (match l.findSome? q with|some b=>out b|none=>no):=by
 have key:∀ k i ,i+k=l.length->Ae f i=some (match(l.drop i).findSome? q with|some b=>out b|none=>no):=by
  intro k
  induction k with
  | zero=>
   intro i h
   obtain rfl:i=l.length:=by omega
   rw[An he];simp
  | succ k ih=>
   intro i h
   have hi:i<l.length:=by omega
   have hdr:l.drop i=l.getD i d::l.drop (i+1):=by simp_all
   rw[hdr,List.findSome?_cons]
   cases hq:q _ with
   | some b=>rw[An (hf i hi b hq)]
   | none=>rw[Ap (hn i hi hq),ih _ (by omega)]
 have:=key l.length 0 (by omega)
 simpa using this
theorem sD(hs:Sm f)(ab9:Int):Ae (Jn f ab9 (allHR f)) (0:Int)=some (match Vf f ab9 with|some g=>.inr (g.Params,g.Ret,g.Blocks)|none=>.inl ()):=by
 have hl :=nT hs
 have hk:∀ i,i<(allHR f).length->Jn f _ (allHR f) i=(match iA f _ _ with|some g=>some (.done (.inr (g.Params,g.Ret,g.Blocks)))|none=>some _):=λi hi=>by
  have hiv:=isHR_mem.2 (Ag (d:=default) hi);unfold Jn iA;simp only[B0 hi,Ah,Aa (Ai hi),Ao,Abn hs,hiv, Am,xe hs,w1 (show i<4611686018427387904 by omega)]
  cases decide (ab9<((Vu f _).length:Int)) with
  | true=>rfl
  | false=>
   grind
 have:=UT  _ _ (iA f _) _ (.inl ()) (Jn f _ _) (λi hi hq=>by rw[hk i hi,hq]) (λi hi b hq=>by rw[hk i hi,hq]) (by unfold Jn;simp only[Cy,Ar]);rw[this];unfold Vf
 cases List.findSome? _ _<;>rfl
theorem uN(hc:Ue f=false)(ab9:Int):Vf f ab9=none:=by
 unfold Vf allHR;rw[hc];rfl
theorem Ad8(hs:Sm f)(h16:R6 f=true->f.Blocks.length<=16)(ab9:Int):Pq f ab9=some (allM f.Blocks.length f ab9):=by
 have hL2:∀ g ,CT _ _ _ _ (allHR g)=Jn g ab9 _:=λg=>rfl
 have hF:∀ g ,Sm g->Rd _ (g.Params,g.Ret,g.Blocks)=(match Vf g _ with|some g'=>some _|none=>some _):=λg hg=>by
  unfold Rd
  dsimp only
  rw[kN hg,Am,hL2,sD hg]
  cases Vf g _<;>rfl
 have key:∀(n:Nat) (g:AI),vX g->g.Blocks.length<=n->Ae (Rd ab9) (g.Params,g.Ret,g.Blocks)=some (allM n g ab9):=by
  intro n
  induction n with
  | zero=>
   intro g hg hn
   have:Vf g ab9=none:=by
    cases h:Vf g _ with
    | none=>rfl
    | some g'=>obtain⟨_,_,_,_,_,_,h2⟩:=MU hg h;omega
   rw[An  (by rw[hF g (KC hg),this])]
   rfl
  | succ n ih=>
   intro g hg hn;unfold allM
   cases h:Vf g _ with
   | none=>rw[An  (by rw[hF g (KC hg),h])]
   | some g'=>
    obtain⟨_,_,_,_,_,h1,h2⟩:=MU hg h;rw[Ap  (by rw[hF g (KC hg),h]),ih g' h1 (by omega)]
 unfold Pq;rw[kN hs,Am,sD hs]
 cases h:Vf f _ with
 | none=>
  have:allM f.Blocks.length f ab9=f:=by
   cases f.Blocks.length with
   | zero=>rfl
   | succ n=>unfold allM;rw[h]
  rw[this];rfl
 | some g=>
  have hc:Ue f=true:=by
   cases hc:Ue f with
   | true=>rfl
   | false=>rw[uN hc]at h;cases h
  have hN:=tA hs h16 hc;obtain⟨_,_,_,_,_,h1,h2⟩:=MU hN h
  show(Ae _ _).bind _=_
  have e:allM f.Blocks.length f ab9=allM (f.Blocks.length-1) g ab9:=by
   obtain⟨n,hn⟩:∃ n,f.Blocks.length=n+1:=⟨f.Blocks.length-1,by omega⟩;rw[hn]
   show(match Vf f _ with|some g=>allM n g _|none=>f)=_
   rw[h];rfl
  rw[key (f.Blocks.length-1) g h1 (by omega),e]
  rfl
theorem pJ:m_locksteplaw15_awake=some true:=by kernel_rfl
section
variable {f:AI} {h:AT} (H:Hm f h)
include H
theorem ID:h.Then≠-1->h.Else≠-1->h.Then≠h.Else:=λh1 h2 e=>H.apart (by
 grind)
theorem UJ:∀ m:Nat,(((((List.range m).filter (Bk h)).length:Nat):Int))=Ho h (m:Int)
 | 0=>by
  have h1:=(GI H).1;have h2:=(GI H).2;unfold Ho
  have ez:∀ y:Int,(y = -1\/0<=y)->((y !=-1)&&decide (y<((0:Nat):Int)))=false:=λy hy=>by
   grind
  simp only[ez _ h1,ez _ h2]
  rfl
 | m+1=>by
  have ih:=UJ m;have h1:=(GI H).1;have h2:=(GI H).2;have h3:=ID H;rw[JJ,JH,He]
  have ec:∀ y:Int,(y = -1\/0<=y)->((y !=-1)&&decide (y<((m+1:Nat):Int)))=(((y !=-1)&&decide (y<(m:Int))) || ((m:Int)==y)):=λy hy=>by
   grind
  unfold Ho at ih ⊢;simp only[ec _ h1,ec _ h2]at ih ⊢
  generalize hTT:((h.Then !=-1)&&decide (h.Then<(m:Int)))=T at ih ⊢
  generalize hEE:((h.Else !=-1)&&decide (h.Else<(m:Int)))=E at ih ⊢
  cases hT:(m:Int)==h.Then with
  | true=>
   have eT:=eq_of_beq hT
   have k1:Bk h m=false:=by unfold Bk bne;rw[hT];rfl
   have e1:T=false:=by grind
   have e2:((m:Int)==h.Else)=false:=by
    grind
   subst e1;rw[e2];simp only[List.filter_cons,k1,NC,Iu,List.filter_nil,List.length_nil,Bool.or_true,Bool.or_false,Ah,Ar]at ih ⊢
   cases E<;>simp only[Ah,Ar]at ih ⊢<;>omega
  | false=>
   cases hE:(m:Int)==h.Else with
   | true=>
    have eE:=eq_of_beq hE
    have k1:Bk h m=false:=by unfold Bk bne;rw[hE];simp
    have e1:E=false:=by grind
    subst e1;simp only[List.filter_cons,k1,NC,Iu,List.filter_nil,List.length_nil,Bool.or_true,Bool.or_false,Ah,Ar]at ih ⊢
    cases T<;>simp only[Ah,Ar]at ih ⊢<;>omega
   | false=>
    have k1:Bk h m=true:=by unfold Bk bne;rw[hT,hE];rfl
    simp only[List.filter_cons,k1,Nd,List.filter_nil,JG,Bool.or_false]at ih ⊢
    cases T<;>cases E<;>simp only[Ah,Ar]at ih ⊢<;>omega
theorem Abx(hx:x<f.Blocks.length)(hk:Bk h x=true):As (Ho h (x:Int)) (Cs f h).Blocks.length/\(Cs f h).Blocks.getD (Ho h (x:Int)).toNat default=KB h (Vm f h x):=by
 have e:List.range f.Blocks.length=List.range x++(x::List.range' (x+1) (f.Blocks.length-x-1)):=by
  rw[Rx,Rx,(GQ ..).symm,show f.Blocks.length-x-1+1=f.Blocks.length-x by omega];have:=List.range'_append (s:=0) (m:=x) (n:=f.Blocks.length-x) (step:=1);simp only[Nat.one_mul,Ke]at this;rw[this];congr 1;omega
 have hc:=UJ H x;rw[<- hc]
 have eB:(Cs f h).Blocks=((List.range x).filter (Bk h)).map (λx=>KB h (Vm f h x))++(KB h (Vm f h x)::((List.range' (x+1) (f.Blocks.length-x-1)).filter (Bk h)).map λx=>KB h (Vm f h x)):=by
  show List.map _ _=_
  rw[e,JH,List.filter_cons,hk,if_pos rfl,AA,Db]
 rw[eB]
 constructor
 ·refine Ai ?_;rw[He,F2,Ry];omega
 ·simp[List.getD]
theorem Qt:Bk h h.At.toNat=true:=by
 unfold Bk;rw[Mp H.at_.1];simp only[Az,zzL65];exact⟨λe=>H.tne.1 e.symm,λe=>H.tne.2.1 e.symm⟩
omit H in
omit H in
omit H in
end
def mI(f:AI)(d:TDef)(b a:Int):Prop:=d.Block<0\/(d.Block=b/\d.At<a)\/(d.Block≠b/\P5 (Cu f) d.Block b=true)
theorem TU{l:List TDef}(hn:(l.map (·.V)).Nodup)(hd:d∈l):0<=Mz l d.V/\defOf l d.V=d:=by
 obtain⟨i,hi,rfl⟩:=H8 hd
 have hx:∃ k,l.findIdx? (λe=>e.V==l[i].V)=some k:=by
  cases h:l.findIdx? _ with
  | some k=>exact⟨k,rfl⟩
  | none=>
   grind
 obtain⟨k,hk⟩:=hx;obtain⟨hk1,hk2,_⟩:=List.findIdx?_eq_some_iff_getElem.1 hk
 have e :=by
  have h1:(l.map (·.V))[k]'(by simpa using hk1)=(l.map (·.V))[i]'(by simpa using hi):=by simpa using hk2
  exact(List.getElem_inj hn).1 h1
 subst e;unfold defOf Mz;rw[hk];refine⟨by simp,?_⟩;rw[Ao,Ad _ _ _ hi]
theorem kv(hn:((Aw f).map (·.V)).Nodup)(hv:∀ d∈Aw f,valS d.V=true)(hu:∀ u∈Bl f,∃ d∈Aw f,d.V=u.V/\d.Shape=u.Shape/\mI f d u.Block u.At):WF f=0:=by
 have h1:(List.range (Aw f).length).all (Tm (Aw f))=true:=by
  rw[zzL21];intro i hi;rw[zzL41]at hi;refine(Zf hi).2 ⟨hv _ (Ag hi),λj hj he=>?_⟩;rw[Ad _ _ _ hi,Ad _ _ _ (by omega)]at he;have:=(List.getElem_inj (h₀:=show j<((Aw f).map _).length by simp;omega) (h₁:=by simpa using hi) hn).1 (by simpa using he);omega
 have h2:(Bl f).all (Ma (Aw f))=true:=by
  rw[zzL21];intro u h;obtain⟨d,hd,e,_⟩:=hu u h;unfold Ma;have:=(TU hn hd).1;rw[e]at this
  simp;omega
 have h3:(Bl f).all (Xw (Aw f))=true:=by
  rw[zzL21];intro u h;obtain⟨d,hd,e,es,_⟩:=hu u h;unfold Xw;rw[<- e,(TU hn hd).2,es];simp
 have h4:(Bl f).all (Xv (Aw f) (Cu f))=true:=by
  rw[zzL21];intro u h;obtain⟨d,hd,e,_,ht⟩:=hu u h;unfold Xv;rw[<- e,(TU hn hd).2];rcases ht with h|⟨h,h'⟩|⟨h,h'⟩
  ·grind
  ·grind
  ·unfold P5 at h';rw[Az,zzL34]at h';rw[h'.1,zzL30.2 h];simp
 unfold WF;rw[h1,h2,h3,h4];rfl
structure qy(f:AI)(l:Int):Prop where
 may:R6 f=true
 shape:Eg f=true
 typed:Rk f l=true
 rest:WF f=0
theorem SX{l:Int}(hl:0<=l/\l<=2):E2 f l=0↔qy f l:=
 ⟨λh=>by obtain⟨a,b,c,d⟩:=(Mg hl.1 hl.2).1 h;exact⟨a,b,c,d⟩,λh=>(Mg hl.1 hl.2).2 ⟨h.1,h.2,h.3,h.4⟩⟩
section
variable {f:AI} {l:Int} (R:qy f l)
include R
theorem MR(hb:b∈f.Blocks)(ho:o∈b.Ops):Cn l o=true:=by
 have h:=R.typed;simp only[Rk,G0,Az,zzL21]at h;exact(h.1.2 b hb).2 o ho
theorem Ae3(hb:b∈f.Blocks)(ho:o∈b.Ops):Dp o=true:=by
 have:=MR R hb ho;unfold Cn at this;simp only[Az]at this;exact this.1.1
theorem SY:(List.range (Aw f).length).all (Tm (Aw f))=true/\(∀ u∈Bl f,Ma (Aw f) u=true)/\(∀ u∈Bl f,Xw (Aw f) u=true)/\∀ u∈Bl f,Xv (Aw f) (Cu f) u=true:=by
 have h:=R.rest;unfold WF at h
 cases h1:(List.range _).all _ with
 | false=>rw[h1]at h;cases h
 | true=>grind
theorem uD{e:TDef}(hd:d∈Aw f)(he:e∈Aw f)(hv:d.V=e.V):d=e:=by
 have hn:=TV (SY R).1;have h1:=(TU hn hd).2;rw[hv,(TU hn he).2]at h1;exact h1.symm
theorem kx(hd:d∈Aw f):valS d.V=true:=by
 obtain⟨i,hi,rfl⟩:=H8 hd;have:=((Zf hi).1 (oZ (SY R).1 i hi)).1;rw[Ad _ _ _ hi]at this;exact this
theorem uE(hu:u∈Bl f):∃ d∈Aw f,d.V=u.V/\d.Shape=u.Shape/\mI f d u.Block u.At:=by
 obtain⟨_,h2,h3,h4⟩:=SY R;have hf:=h2 u hu;have ac6:=h3 u hu;have hdom:=h4 u hu;unfold Ma at hf
 have hneg:¬ Mz (Aw f) u.V<0:=by simpa using hf
 have hin:=UB hneg;have ab3:defOf _ u.V∈Aw f:=Ag (by  have:=hin.2;omega)
 have hV:(defOf (Aw f) u.V).V=u.V:=by
  unfold defOf;unfold Mz at hneg ⊢
  cases hx:(Aw f).findIdx? _ with
  | none=>grind
  | some i=>
   obtain⟨hi,hp,_⟩:=List.findIdx?_eq_some_iff_getElem.1 hx;rw[Ao,Ad _ _ _ hi]
   simpa using hp
 refine⟨_,ab3,hV,?_,?_⟩
 ·unfold Xw at ac6;simp only[Az,zzL34]at ac6;exact Prod.ext ac6.1 ac6.2.1
 ·unfold Xv at hdom;simp only[W1,Az,Hs,zzL34,Qr,zzL30]at hdom;rcases hdom with(h|h)|⟨h,h'⟩
  ·exact .inl h
  ·exact .inr (.inl h)
  ·by_cases hb:(defOf (Aw f) u.V).Block<0
   ·exact .inl hb
   ·refine .inr (.inr ⟨h,?_⟩);rw[bne_eq_false_iff_eq]at h';unfold P5;rw[h',Az];exact⟨by simp,by rw[zzL65];omega⟩
end
theorem ri_def:d∈Aw f↔(∃ i,i<f.Params.length/\d=⟨(i:Int)+1,-1,0,(f.Params.getD i 0,1)⟩) \/
  ∃ i,i<f.Blocks.length/\((∃ k,k<(bA f i).Phis.length/\d=⟨((bA f i).Phis.getD k default).Dst,i,-1,(((bA f i).Phis.getD k default).Bits,1)⟩) \/
   ∃ k,k<(bA f i).Ops.length/\0<(Bn ((bA f i).Ops.getD k default)).1/\d=⟨((bA f i).Ops.getD k default).Dst,i,k,Bn ((bA f i).Ops.getD k default)⟩):=by
 unfold Aw Sj Si Sk X9;simp only[zzL8,zzL54,zzL41,zzL10]
 constructor
 ·grind
 ·rintro(h|⟨i,hi,⟨k,hk,h⟩|⟨k,hk,hg,h⟩⟩)
  ·exact .inl h
  ·exact .inr ⟨i,hi,.inl ⟨k,hk,h⟩⟩
  ·exact .inr ⟨i,hi,.inr ⟨k,hk,by simp_all⟩⟩
theorem cJ(hm:Dp o=true):(Hr o).length=o.Args.length/\∀ j,j<o.Args.length->(Hr o).getD j (0,0)=Ig o j:=by
 obtain⟨_,_,_,_,hn,_,_⟩:=Xt hm
 have ht:Hr o=T8 o:=by unfold Hr;rw[hm];rfl
 have htl:(T8 o).length=o.Args.length:=by unfold T8;rw[F2,Tf];omega
 refine⟨by rw[ht,htl],λj hj=>?_⟩;rw[ht];unfold T8;rw[So (by omega)]
theorem CA(hk:∀ b∈f.Blocks,∀ o∈b.Ops,Dp o=true):u∈Bl f↔∃ i,i<f.Blocks.length /\
  ((∃ k j,k<(bA f i).Phis.length/\j<((bA f i).Phis.getD k default).Args.length/\u=⟨((bA f i).Phis.getD k default).Args.getD j 0,((bA f i).Phis.getD k default).From.getD j 0,1000,(((bA f i).Phis.getD k default).Bits,1)⟩)\/(∃ k j,k<(bA f i).Ops.length/\j<((bA f i).Ops.getD k default).Args.length/\u=⟨((bA f i).Ops.getD k default).Args.getD j 0,i,k,Ig ((bA f i).Ops.getD k default) j⟩)\/((bA f i).End.Kind=0/\u=⟨(bA f i).End.Arg,i,1000,(f.Ret,1)⟩)\/((bA f i).End.Kind=2/\u=⟨(bA f i).End.Arg,i,1000,(1,1)⟩)):=by
 unfold Bl MW Oq Pk U9 Te CF;simp only[zzL8,zzL54,zzL41,zzL10]
 have hE:∀(k c:Int) (x:Dz),u∈(bif k==c then[x] else[])↔(k=c/\u=x):=λk c x=>by
  grind
 simp only[hE]
 constructor
 ·rintro⟨i,hi,(⟨k,hk',j,hj,h⟩|⟨k,hk',j,hj,h⟩)|h⟩
  ·exact⟨i,hi,.inl ⟨k,j,hk',hj,h⟩⟩
  ·obtain⟨e1,e2⟩:=cJ (hk _ (Ag  hi) _ (Ag  hk'));rw[e1]at hj;rw[e2 j hj]at h;exact⟨i,hi,.inr (.inl ⟨k,j,hk',hj,h⟩)⟩
  ·exact⟨i,hi,.inr (.inr h)⟩
 ·rintro⟨i,hi,⟨k,j,hk',hj,h⟩|⟨k,j,hk',hj,h⟩|h⟩
  ·grind
  ·obtain⟨e1,e2⟩:=cJ (hk _ (Ag  hi) _ (Ag  hk'));exact⟨i,hi,.inl (.inr ⟨k,hk',j,by rw[e1];exact hj,by rw[e2 j hj];exact h⟩)⟩
  ·grind
theorem nP(hm:N4 (Bf f)=true)(hx:x<f.Blocks.length):y∈sN (Bf f) x↔(y:Int)∈(bA f x).End.To:=by
 rw[kV hm (by rw[Hc];exact hx),dy hx,(Zr _).2]
theorem MQ(hm:N4 (Bf f)=true)(h0:0<f.Blocks.length){b:Nat}(ha:a<f.Blocks.length)(hb:b<f.Blocks.length):P5 (Cu f) (a:Int) (b:Int)=true↔Rc (sN (Bf f)) 0 b/\¬ Av (sN (Bf f)) 0 a b:=by
 have hl:=Hc f;obtain⟨P,_,o,t⟩:=cL hm (r:=0) (by omega)
 have e:Cu f=DB (Bf f) 0:=by
  unfold Cu RC;rw[if_pos ⟨UY hm,Int.le_refl _,by show 0<((Bf f).length:Int);omega⟩];rfl
 rw[e];exact t.over_dom o (by omega) (by omega)
theorem iT(hm:N4 (Bf f)=true)(h0:0<f.Blocks.length)(z:Nat):(Tb (Bf f)).getD z false=true↔Rc (sN (Bf f)) 0 z:=by
 rw[rc_iff];exact GC (Ws hm) (by rw[Hc];exact h0) z
theorem bz(f:AI)(hi:i<f.Blocks.length):(BV f i).Pairwise (·<·):=by
 unfold BV;rw[Zm (by rw[Hc];exact hi)];exact Um _ _
def posH(h:AT)(x:Nat):Nat:=(Ho h (x:Int)).toNat
theorem O4:Bk h x=true↔(x:Int)≠h.Then/\(x:Int)≠h.Else:=by
 unfold Bk;rw[Az,zzL65,zzL65]
theorem kept_not(hk:¬ Bk h x=true):(x:Int)=h.Then\/(x:Int)=h.Else:=by
 rw[O4]at hk;omega
theorem dX(h:AT)(x:Int):Ho h x=x-(if h.Then≠-1/\h.Then<x then 1 else 0)-(if h.Else≠-1/\h.Else<x then 1 else 0):=by
 have key:∀(t y:Int),((t !=-1)&&decide (t<y))=decide (t≠-1/\t<y):=λt y=>by
  grind
 unfold Ho;simp only[key]
 have k2:∀(p q:Prop) [Decidable p] [Decidable q],(bif decide q then(bif decide p then x-1 else x)-1 else bif decide p then x-1 else x)=x-(if p then 1 else 0)-(if q then 1 else 0):=λp q _ _=>by
  grind
 exact k2 _ _
def Nx(f:AI)(x y:Nat):Prop:=(y:Int)∈(bA f x).End.To
section
variable {f:AI} {h:AT} (H:Hm f h)
include H
theorem at_ltN:h.At.toNat<f.Blocks.length/\((h.At.toNat:Nat):Int)=h.At:=by have:=H.at_.1;have:=H.at_.2;omega
theorem Lm:h.Join.toNat<f.Blocks.length/\((h.Join.toNat:Nat):Int)=h.Join:=by have:=H.join.1;have:=H.join.2;omega
theorem at_to:(bA f h.At.toNat).End.To=[El f h.At.toNat 0,El f h.At.toNat 1]:=by
 have hl:=H.R.two _ (at_ltN H).1 H.kind;unfold El
 generalize (bA f _).End.To=l at hl ⊢
 match l,hl with
 | [a,b],_=>rfl
theorem Zv:(h.Then≠-1->0<h.Then)/\(h.Else≠-1->0<h.Else):=by
 have hl:=H.R.two _ (at_ltN H).1 H.kind;have h0:=(H.R.to _ (at_ltN H).1 0 (by omega)).1;have h1:=(H.R.to _ (at_ltN H).1 1 (by omega)).1;exact⟨λe=>by rw[H.to.1 e]at h0;exact h0,λe=>by rw[H.to.2.2.1 e]at h1;exact h1⟩
theorem FJ:Bk h 0=true:=by
 rw[O4];have:=Zv H; constructor<;>intro e
 ·grind
 ·grind
theorem HR:Bk h h.Join.toNat=true:=by
 rw[O4,(Lm H).2];exact⟨λe=>H.tne.2.2.1 e.symm,λe=>H.tne.2.2.2 e.symm⟩
theorem Li(hx:¬ Bk h x=true):x<f.Blocks.length/\(bA f x).Phis=[]/\(∀ a,a<f.Blocks.length->Nx f a x->a=h.At.toNat)/\(bA f x).End.Kind=1/\(bA f x).End.To=[h.Join]/\Nx f h.At.toNat x:=by
 have key:∀ m:Int,x=m->As m f.Blocks.length->Oe f h.At m=true->El f m.toNat 0=h.Join->x<f.Blocks.length/\(bA f x).Phis=[]/\(∀ a,a<f.Blocks.length->Nx f a x->a=h.At.toNat)/\(bA f x).End.Kind=1/\(bA f x).End.To=[h.Join]/\Nx f h.At.toNat x:=λm e hm hb ht=>by
  subst e
  have hx:x<f.Blocks.length:=by have:=hm.2;omega
  unfold Oe at hb;simp only[Az,zzL34,Hs,Dn]at hb ht;obtain⟨⟨k1,k2⟩,k3⟩:=hb;have hl:=H.R.one x hx k1
  have hA:∀ a ,a<f.Blocks.length->Nx f a x->a=h.At.toNat:=λa ha hn=>by
   have :=(Wn H.R hx).2 ⟨a,rfl,ha,hn⟩;rw[k3,zzL10]at this;omega
  refine⟨hx,List.eq_nil_of_length_eq_zero k2,hA,k1,?_,?_⟩
  ·unfold El at ht
   generalize (bA f x).End.To=l at hl ht ⊢
   match l,hl with
   | [a],_=>grind
  ·obtain⟨p,hp1,hp2,hp3⟩:=(Wn H.R hx (x:=h.At)).1 (by grind);rw[hp1];exact hp3
 rcases kept_not hx with e|e
 ·rcases H.sides.1 with s|s
  ·omega
  ·exact key _ e s (H.mid.1 (by  omega)).1 (H.mid.1 (by  omega)).2
 ·rcases H.sides.2 with s|s
  ·omega
  ·exact key _ e s (H.mid.2 (by  omega)).1 (H.mid.2 (by  omega)).2
theorem at_next(hn:Nx f h.At.toNat y):y=h.Join.toNat\/¬ Bk h y=true:=by
 unfold Nx at hn;rw[at_to H]at hn;simp only[zzL31,List.not_mem_nil,or_false]at hn;rw[O4];rcases hn with e|e
 ·by_cases ht:h.Then = -1
  ·rw[H.to.2.1 ht]at e;omega
  ·rw[H.to.1 ht]at e;omega
 ·by_cases ht:h.Else = -1
  ·rw[H.to.2.2.2 ht]at e;omega
  ·rw[H.to.2.2.1 ht]at e;omega
theorem at_join:(h.Then = -1/\Nx f h.At.toNat h.Join.toNat)\/(¬ Bk h h.Then.toNat=true/\((h.Then.toNat:Nat):Int)=h.Then):=by
 by_cases ht:h.Then = -1
 ·left
  refine⟨ht,?_⟩;unfold Nx;rw[at_to H,(Lm H).2,H.to.2.1 ht];simp
 ·have:=(Zv H).1 ht;rw[O4];omega
theorem at_joinE:(h.Else = -1/\Nx f h.At.toNat h.Join.toNat)\/(¬ Bk h h.Else.toNat=true/\((h.Else.toNat:Nat):Int)=h.Else):=by
 by_cases ht:h.Else = -1
 ·left
  refine⟨ht,?_⟩;unfold Nx;rw[at_to H,(Lm H).2,H.to.2.2.2 ht];simp
 ·have:=(Zv H).2 ht;rw[O4];omega
theorem nX(hx:x<f.Blocks.length)(hk:Bk h x=true)(hA:x≠h.At.toNat){z:Int}(hz:z∈(bA f x).End.To):∃ y:Nat,z=(y:Int)/\y<f.Blocks.length/\0<y/\Bk h y=true/\Nx f x y:=by
 obtain⟨k,hk',rfl⟩:=H8 hz;have ht:=H.R.to x hx k hk';unfold El at ht;rw[Ad _ _ _ hk']at ht;refine⟨((bA f x).End.To[k]).toNat,by omega,by omega,by omega,?_,?_⟩
 ·apply GP
  intro hc;have:=(Li H hc).2.2.1 x hx (by unfold Nx;rw[show((((bA f x).End.To[k]).toNat:Nat))=(bA f x).End.To[k] by omega];exact hz);exact hA this
 ·unfold Nx;rw[show((((bA f x).End.To[k]).toNat:Nat))=(bA f x).End.To[k] by omega];exact hz
theorem Hb(hx:x<f.Blocks.length)(hk:Bk h x=true):((posH h x:Nat):Int)=Ho h x/\posH h x<(Cs f h).Blocks.length/\bA (Cs f h) (posH h x)=KB h (Vm f h x):=by
 obtain⟨h1,h2⟩:=Abx H hx hk;have:=h1.1;have:=h1.2;unfold posH;exact⟨by omega,by omega,h2⟩
theorem MC(hx:Bk h x=true)(hy:Bk h y=true)(hxy:x<y):Ho h x<Ho h y:=by
 rw[O4]at hx hy;have ha:=ID H;rw[dX,dX]
 split<;>split<;>split<;>split<;>omega
theorem FM(hx:Bk h x=true)(hy:Bk h y=true)(he:Ho h x=Ho h y):x=y:=by
 rcases Nat.lt_trichotomy x y with e|e|e
 ·have:=MC H hx hy e;omega
 ·exact e
 ·have:=MC H hy hx e;omega
theorem iJ:posH h 0=0:=by
 unfold posH;rw[dX];have:=Zv H;rw[if_neg (by omega),if_neg (by omega)];rfl
theorem U7(hy:y<(Cs f h).Blocks.length):∃ x,x<f.Blocks.length/\Bk h x=true/\posH h x=y:=by
 have hl:(Cs f h).Blocks.length=((List.range f.Blocks.length).filter (Bk h)).length:=by
  show(List.map _ _).length=_;rw[F2]
 rw[hl]at hy
 have ab3:∀ x∈(List.range f.Blocks.length).filter (Bk h),x<f.Blocks.length/\Bk h x=true:=λx hx=>by
  grind
 have ah3:∀ l:List Nat,(∀ x∈l,x<f.Blocks.length/\Bk h x=true)->l.Nodup->(l.map (posH h)).Nodup:=λl hl hn=>by
  rw[List.nodup_iff_pairwise_ne,List.pairwise_map];refine List.Pairwise.imp_of_mem (λ{a b} ha hb hab he=>hab ?_) hn;have e1:=(Hb H (hl a ha).1 (hl a ha).2).1;have e2:=(Hb H (hl b hb).1 (hl b hb).2).1;exact FM H (hl a ha).2 (hl b hb).2 (by rw[<- e1,<- e2,he])
 have hnd:((List.range f.Blocks.length).filter (Bk h)).Nodup:=(List.filter_sublist).nodup List.nodup_range;have ac3:=ah3 _ ab3 hnd
 apply GP
 intro hc
 have hnd2 :=zzL108.2 ⟨λhm=>by
  obtain⟨x,hx,e⟩:=zzL16.1 hm
  exact hc ⟨x,(ab3 x hx).1,(ab3 x hx).2,e⟩,ac3⟩
 have:=T4 _ _ hnd2 (λz hz=>by
  rcases zzL31.1 hz with e|hz
  ·rw[e];exact hy
  ·obtain⟨x,hx,rfl⟩:=zzL16.1 hz;have:=(Hb H (ab3 x hx).1 (ab3 x hx).2).2.1
   rw[hl]at this;exact this)
 simp at this;omega
theorem uQ(hx:x<f.Blocks.length)(hk:Bk h x=true):(bA (Cs f h) (posH h x)).End.Kind=(if x=h.At.toNat then 1 else(bA f x).End.Kind)/\(bA (Cs f h) (posH h x)).End.Arg=(if x=h.At.toNat then 0 else(bA f x).End.Arg)/\(bA (Cs f h) (posH h x)).End.To=if x=h.At.toNat then[Ho h h.Join] else(bA f x).End.To.map (Ho h):=by
 rw[(Hb H hx hk).2.2];have ha:=(at_ltN H).2;unfold KB Vm
 by_cases e:x=h.At.toNat
 ·grind
 ·grind
theorem xz(hx:x<f.Blocks.length)(hkx:Bk h x=true)(hy:y<f.Blocks.length)(hky:Bk h y=true):Nx (Cs f h) (posH h x) (posH h y)↔if x=h.At.toNat then y=h.Join.toNat else Nx f x y:=by
 unfold Nx;rw[(uQ H hx hkx).2.2,(Hb H hy hky).1]
 by_cases e:x=h.At.toNat
 ·rw[if_pos e,if_pos e,zzL10]
  constructor
  ·intro he;rw[<- (Lm H).2]at he;exact FM H hky (HR H) he
  ·intro he;rw[he,(Lm H).2]
 ·rw[if_neg e,if_neg e]
  constructor
  ·intro hm;obtain⟨z,hz,he⟩:=zzL16.1 hm;obtain⟨w,rfl,_,_,hkw,_⟩:=nX H hx hkx e hz;rw[<- FM H hkw hky he];exact hz
  ·grind
theorem FD(hs:Nt f=true):Nt (Cs f h)=true:=by
 obtain⟨⟨_,h64⟩,h3⟩:=shape_iff.1 hs;have hA:=at_ltN H;have hJ:=Lm H
 have hjm:0<Ho h h.Join/\Ho h h.Join<(Cs f h).Blocks.length:=by
  have h1:=Hb H hJ.1 (HR H);rw[hJ.2]at h1
  have hp:0<h.Join.toNat:=by
   rcases at_join H with⟨_,hn⟩|⟨hk,_⟩
   ·obtain⟨k,hk',e⟩:=H8 hn;have:=H.R.to _ hA.1 k hk';unfold El at this;rw[Ad _ _ _ hk']at this;omega
   ·obtain⟨m1,_,_,m4,m5,_⟩:=Li H hk;have:=H.R.to _ m1 0 (by rw[m5];simp);unfold El at this;rw[m5]at this;have:0<h.Join:=this.1;omega
  have:=MC H (FJ H) (HR H) hp;rw[<- (Hb H (show 0<f.Blocks.length by omega) (FJ H)).1,iJ H,hJ.2]at this;exact⟨this,by  omega⟩
 have hle:(Cs f h).Blocks.length<=f.Blocks.length:=by
  show(List.map _ _).length<=_
  rw[F2];have:=List.length_filter_le (Bk h) (List.range f.Blocks.length);rw[Tf]at this;exact this
 refine shape_iff.2 ⟨⟨by grind,by omega⟩,λi hi=>?_⟩;obtain⟨x,hx,hk,rfl⟩:=U7 H hi;obtain⟨e1,e2,e3⟩:=uQ H hx hk;have hf:=h3 x hx;unfold Bu Nz CS at hf ⊢;have e1' :=e1;have e3' :=e3;rw[e1',e3']
 by_cases e:x=h.At.toNat
 ·rw[if_pos e,if_pos e];rw[toB_iff.2 λz hz=>by rw[zzL10.1 hz];exact hjm];rfl
 ·rw[if_neg e,if_neg e,F2];rw[Az]at hf ⊢;refine⟨hf.1,toB_iff.2 λz hz=>?_⟩;obtain⟨w,hw,rfl⟩:=zzL16.1 hz;obtain⟨y,rfl,hy,hy0,hky,_⟩:=nX H hx hk e hw;have h1:=Hb H hy hky;have:=MC H (FJ H) hky hy0;rw[<- (Hb H (show 0<f.Blocks.length by omega) (FJ H)).1,iJ H]at this;exact⟨this,by  omega⟩
end
section
variable {f:AI} {h:AT} (H:Hm f h) (hs:Nt f=true)
include H hs
theorem nS(hx:x<f.Blocks.length):y∈sN (Bf f) x↔Nx f x y:=nP (Ey hs) hx
theorem gSx(hx:x<(Cs f h).Blocks.length):y∈sN (Bf (Cs f h)) x↔Nx (Cs f h) x y:=nP (Ey (FD H hs)) hx
theorem zN(hx:x<f.Blocks.length)(hn:Nx f x y):y<f.Blocks.length:=by
 have:=Ws (Ey hs) x (by rw[Hc];exact hx) y ((nS H hs hx).2 hn);rw[Hc]at this;exact this
theorem Aef(hx:x<(Cs f h).Blocks.length)(hn:Nx (Cs f h) x y):y<(Cs f h).Blocks.length:=by
 have:=Ws (Ey (FD H hs)) x (by rw[Hc];exact hx) y ((gSx H hs hx).2 hn);rw[Hc]at this;exact this
theorem sX(hx:x<f.Blocks.length)(hkx:Bk h x=true)(hy:y<f.Blocks.length)(hky:Bk h y=true)(hn:if x=h.At.toNat then y=h.Join.toNat else Nx f x y):posH h y∈sN (Bf (Cs f h)) (posH h x):=
 (gSx H hs (Hb H hx hkx).2.1).2 ((xz H hx hkx hy hky).2 hn)
theorem dI(hr:Rc (sN (Bf f)) 0 x):x<f.Blocks.length/\(Bk h x=true->Rc (sN (Bf (Cs f h))) 0 (posH h x))/\(¬ Bk h x=true->Rc (sN (Bf (Cs f h))) 0 (posH h h.At.toNat)):=by
 have hA:=at_ltN H
 induction hr with
 | root=>
  refine⟨by omega,λ_=>by rw[iJ H];exact .root,λhk=>absurd (FJ H) hk⟩
 | @step x y hx hy ih=>
  obtain⟨hxn,i1,i2⟩:=ih;have hn:=(nS H hs hxn).1 hy;have hyn:=zN H hs hxn hn;refine⟨hyn,λhk=>?_,λhk=>?_⟩
  ·by_cases hkx:Bk h x=true
   ·refine .step (i1 hkx) (sX H hs hxn hkx hyn hk ?_)
    by_cases e:x=h.At.toNat
    ·rw[if_pos e];rw[e]at hn;rcases at_next H hn with e2|e2
     ·exact e2
     ·exact absurd hk e2
    ·rw[if_neg e];exact hn
   ·have ht:=(Li H hkx).2.2.2.2.1;unfold Nx at hn;rw[ht,zzL10]at hn;refine .step (i2 hkx) (sX H hs hA.1 (Qt H) hyn hk ?_);rw[if_pos rfl];omega
  ·have hax:=(Li H hk).2.2.1 x hxn hn;rw[<- hax];exact i1 (by rw[hax];exact Qt H)
theorem Af1(ha:a<f.Blocks.length)(hka:Bk h a=true){w:Nat}(hw:Av (sN (Bf (Cs f h))) 0 (posH h a) w):∃ b,b<f.Blocks.length/\Bk h b=true/\posH h b=w/\Av (sN (Bf f)) 0 a b:=by
 have hJ:=Lm H
 induction hw with
 | root hne=>exact⟨0,by omega,FJ H,iJ H,.root (λe=>hne (by rw[<- e,iJ H]))⟩
 | @step x y hx hy hz ih=>
  obtain⟨b,hb,hkb,rfl,hav⟩:=ih;have hn:=(gSx H hs (Hb H hb hkb).2.1).1 hy;obtain⟨c,hc,hkc,rfl⟩:=U7 H (Aef H hs (Hb H hb hkb).2.1 hn);have hca:c≠a:=λe=>hz (by rw[e]);rw[xz H hb hkb hc hkc]at hn;refine⟨c,hc,hkc,rfl,?_⟩
  by_cases e:b=h.At.toNat
  ·rw[if_pos e]at hn;subst hn;rcases at_join H with⟨_,hnj⟩|⟨hk,_⟩
   ·exact .step hav ((nS H hs hb).2 (by rw[e];exact hnj)) hca
   ·obtain⟨m1,_,_,_,m5,m6⟩:=Li H hk;have h1:Av _ 0 a _:=.step hav ((nS H hs hb).2 (by rw[e];exact m6)) (λe2=>hk (by rw[e2];exact hka));refine .step h1 ((nS H hs m1).2 ?_) hca;unfold Nx;rw[m5,hJ.2];exact zzL10.2 rfl
  ·rw[if_neg e]at hn;exact .step hav ((nS H hs hb).2 hn) hca
theorem Abh{b:Nat}(ha:a<f.Blocks.length)(hka:Bk h a=true)(hb:b<f.Blocks.length)(hkb:Bk h b=true)(ho:P5 (Cu f) (a:Int) (b:Int)=true):P5 (Cu (Cs f h)) (posH h a:Int) (posH h b:Int)=true:=by
 obtain⟨h1,h2⟩:=(MQ (Ey hs) (by omega) ha hb).1 ho;have hpa:=(Hb H ha hka).2.1;have hpb:=(Hb H hb hkb).2.1;refine(MQ (Ey (FD H hs)) (by omega) hpa hpb).2 ⟨(dI H hs h1).2.1 hkb,λhav=>h2 ?_⟩;obtain⟨c,hc,hkc,e,hv⟩:=Af1 H hs ha hka hav;have :=FM H hkc hkb (by rw[<- (Hb H hc hkc).1,<- (Hb H hb hkb).1,e]);rw[<- this];exact hv
theorem VC{m b:Nat}(hm:¬ Bk h m=true)(hb:b<f.Blocks.length)(hne:b≠m):¬ P5 (Cu f) (m:Int) (b:Int)=true:=by
 intro ho;have hA:=at_ltN H;have hJ:=Lm H;obtain⟨m1,m2,m3,m4,m5,m6⟩:=Li H hm;obtain⟨h1,h2⟩:=(MQ (Ey hs) (by omega) m1 hb).1 ho
 have key:∀ x,Rc (sN (Bf f)) 0 x->x<f.Blocks.length/\(x≠m->Av (sN (Bf f)) 0 m x)/\(x=m->Av (sN (Bf f)) 0 m h.At.toNat):=by
  intro x hx
  induction hx with
  | root=>
   have h0:(0:Nat)≠m:=λe=>hm (by rw[<- e];exact FJ H);exact⟨by omega,λe=>.root e,λe=>absurd e h0⟩
  | @step x y hx hy ih=>
   obtain⟨hxn,i1,i2⟩:=ih;have hn:=(nS H hs hxn).1 hy;have hyn:=zN H hs hxn hn;refine⟨hyn,λhym=>?_,λhym=>?_⟩
   ·by_cases hxm:x=m
    ·have hav:=i2 hxm;rw[hxm]at hn;unfold Nx at hn;rw[m5,zzL10]at hn
     have hyJ:y=h.Join.toNat:=by omega
     subst hyJ
     have other:∀ z,(¬ Bk h z=true)->z≠m->Av (sN (Bf f)) 0 m h.Join.toNat:=λz hz hzm=>by
      obtain⟨z1,_,_,_,z5,z6⟩:=Li H hz;have a1:Av (sN (Bf f)) 0 m z:=.step hav ((nS H hs hA.1).2 z6) hzm;refine .step a1 ((nS H hs z1).2 ?_) hym;unfold Nx;rw[z5,hJ.2];exact zzL10.2 rfl
     have ha:=ID H;rcases kept_not hm with e|e
     ·rcases at_joinE H with⟨_,hnj⟩|⟨hk,hz⟩
      ·exact .step hav ((nS H hs hA.1).2 hnj) hym
      ·grind
     ·rcases at_join H with⟨_,hnj⟩|⟨hk,hz⟩
      ·exact .step hav ((nS H hs hA.1).2 hnj) hym
      ·grind
    ·exact .step (i1 hxm) hy hym
   ·grind
 exact h2 ((key b h1).2.1 hne)
theorem td{m d:Nat}(hm:¬ Bk h m=true)(hd:d<f.Blocks.length)(hdm:d≠m)(hda:d≠h.At.toNat)(ho:P5 (Cu f) (d:Int) (m:Int)=true):Bk h d=true/\P5 (Cu f) (d:Int) (h.At.toNat:Int)=true:=by
 have hA:=at_ltN H;obtain⟨m1,m2,m3,m4,m5,m6⟩:=Li H hm;have hk :=GP λhc=>VC H hs hc m1 (λe=>hdm e.symm) ho;obtain⟨h1,h2⟩:=(MQ (Ey hs) (by omega) hd m1).1 ho
 have hr:Rc (sN (Bf f)) 0 h.At.toNat:=by
  cases h1 with
  | root=>exact absurd (FJ H) hm
  | @step x _ hx hy=>
   have hxn:=(dI H hs hx).1;rw[<- m3 x hxn ((nS H hs hxn).1 hy)];exact hx
 refine⟨hk,(MQ (Ey hs) (by omega) hd hA.1).2 ⟨hr,λhav=>h2 ?_⟩⟩;exact .step hav ((nS H hs hA.1).2 m6) (λe=>hdm e.symm)
theorem SW(hg:Nt g=true)(hy:y<g.Blocks.length){x:Int}:x∈BV g y↔∃ p:Nat,x=(p:Int)/\p<g.Blocks.length/\Nx g p y:=by
 unfold BV;have hl:=Hc g;rw[Zn (Ey hg) (by omega)]
 constructor
 ·rintro⟨p,h1,h2,h3⟩;exact⟨p,h1,by omega,(nP (Ey hg) (by omega)).1 h3⟩
 ·rintro⟨p,h1,h2,h3⟩;exact⟨p,h1,by omega,(nP (Ey hg) h2).2 h3⟩
theorem kT(hl:l.Pairwise (·<·))(hk:∀ x∈l,∃ k:Nat,x=(k:Int)/\Bk h k=true):(l.map (Ho h)).Pairwise (·<·):=by
 rw[List.pairwise_map];refine List.Pairwise.imp_of_mem (λ{a b} ha hb hab=>?_) hl;obtain⟨k,rfl,h1⟩:=hk a ha;obtain⟨j,rfl,h2⟩:=hk b hb;exact MC H h1 h2 (by omega)
theorem sW(hy:y<f.Blocks.length)(hk:Bk h y=true)(hl:l.Pairwise (·<·))(hm:∀ z:Int,z∈l↔∃ x:Nat,z=(x:Int)/\x<f.Blocks.length/\Bk h x=true/\if x=h.At.toNat then y=h.Join.toNat else Nx f x y):BV (Cs f h) (posH h y)=l.map (Ho h):=by
 have hp:=(Hb H hy hk).2.1;refine CC (bz _ hp) (kT H hs hl λx hx=>?_) λz=>?_
 ·grind
 ·rw[SW H hs (FD H hs) hp]
  constructor
  ·rintro⟨p,rfl,h1,h2⟩;obtain⟨x,hx,hkx,rfl⟩:=U7 H h1;rw[xz H hx hkx hy hk]at h2;exact zzL16.2 ⟨x,(hm x).2 ⟨x,rfl,hx,hkx,h2⟩,(Hb H hx hkx).1.symm⟩
  ·intro hz;obtain⟨w,hw,rfl⟩:=zzL16.1 hz;obtain⟨x,rfl,hx,hkx,h2⟩:=(hm w).1 hw;exact⟨posH h x,(Hb H hx hkx).1.symm,(Hb H hx hkx).2.1,(xz H hx hkx hy hk).2 h2⟩
theorem xR(hy:y<f.Blocks.length)(hk:Bk h y=true)(hj:y≠h.Join.toNat):BV (Cs f h) (posH h y)=(BV f y).map (Ho h):=by
 refine sW H hs hy hk (bz f hy) λz=>?_;rw[SW H hs hs hy]
 constructor
 ·rintro⟨p,rfl,h1,h2⟩;refine⟨p,rfl,h1,?_,?_⟩
  ·apply GP
   intro hc;unfold Nx at h2;rw[(Li H hc).2.2.2.2.1,zzL10]at h2;omega
  ·by_cases e:p=h.At.toNat
   ·rw[e]at h2;rcases at_next H h2 with e2|e2
    ·exact absurd e2 hj
    ·exact absurd hk e2
   ·rw[if_neg e];exact h2
 ·grind
theorem bN(hm:m=h.Then\/m=h.Else)(hx:Bk h x=true)(hA:x≠h.At.toNat):(x:Int)≠Ci h m:=by
 rw[O4]at hx;unfold Ci
 by_cases e:m = -1
 ·grind
 ·grind
theorem EY(hm:m=h.Then\/m=h.Else)(hx:(x:Int)=m):(x:Int)=Ci h m:=by
 unfold Ci;rw[zzL30.2 (show m≠-1 by omega)];exact hx
theorem xS(hp:p.From=BV f h.Join.toNat):BV (Cs f h) (posH h h.Join.toNat)=(Qk f.Blocks.length h p).map (Ho h):=by
 have hA:=at_ltN H;have hJ:=Lm H;refine sW H hs hJ.1 (HR H) (Um _ _) λz=>?_
 have hc:∀ x:Nat,p.From.contains x=true↔x<f.Blocks.length/\Nx f x h.Join.toNat:=λx=>by
  rw[zzL60,hp,SW H hs hs hJ.1]
  constructor
  ·grind
  ·grind
 constructor
 ·intro hz;obtain⟨x,hx,rfl⟩:=zzL16.1 hz;obtain⟨hxr,hkp⟩:=zzL73.1 hx;rw[zzL41]at hxr;unfold Zb at hkp;simp only[W1,Az,zzL34,zzL65]at hkp;rcases hkp with e|⟨e1,e2,e3⟩
  ·exact⟨x,rfl,hxr,by rw[show x=h.At.toNat by omega];exact Qt H,by rw[if_pos (by omega)]⟩
  ·have hkx:Bk h x=true:=by
    rw[O4];exact⟨λe=>e1 (EY H hs (.inl rfl) e),λe=>e2 (EY H hs (.inr rfl) e)⟩
   refine⟨x,rfl,hxr,hkx,?_⟩
   by_cases e:x=h.At.toNat
   ·rw[if_pos e]
   ·grind
 ·rintro⟨x,rfl,h1,h2,h3⟩;refine zzL16.2 ⟨x,zzL73.2 ⟨zzL41.2 h1,?_⟩,rfl⟩;unfold Zb;simp only[W1,Az,zzL34,zzL65]
  by_cases e:x=h.At.toNat
  · omega
  ·rw[if_neg e]at h3;exact .inr ⟨bN H hs (.inl rfl) h2 e,bN H hs (.inr rfl) h2 e,(hc x).2 ⟨h1,h3⟩⟩
end
variable {l b x y z v a:Int}{k j:Nat}{Out:Int->Int×Int->Prop}{s:List A0}{sh:Int×Int}{ol:List Int}
theorem WX{d:Int}(hl:l=1\/l=2)(hb:widthB b=true)(hm:m % 2 ^ b.toNat=m)(hd:valS d=true):Cn l ⟨0,b,1,d,[],m⟩=true:=by
 rcases hl with rfl|rfl<;>simp[Cn,Dp,V8,SQ,sfitS,ifitS,K7,dstS,Xk,hb,hd,hm]
theorem uV{k d:Int}(hl:l=1\/l=2)(hk:k=5\/k=7)(hx:valS x=true)(hy:valS y=true)(hd:valS d=true):Cn l ⟨k,1,1,d,[x,y],0⟩=true:=by
 rcases hl with rfl|rfl<;>rcases hk with rfl|rfl<;>simp[Cn,Dp,V8,SQ,sfitS,ifitS,K7,dstS,Xk,hx,hy,hd,widthB]
theorem Aca{d:Int}(hl:l=1\/l=2)(hb:widthB b=true)(hx:valS x=true)(hy:valS y=true)(hz:valS z=true)(hd:valS d=true):Cn l ⟨13,b,1,d,[x,y,z],0⟩=true:=by
 rcases hl with rfl|rfl<;>simp[Cn,Dp,V8,SQ,sfitS,ifitS,K7,dstS,Xk,hx,hy,hz,hd,hb]
theorem T9(h:Cn l o=true):Dp o=true:=by
 unfold Cn at h;simp only[Az]at h;exact h.1.1
theorem Y8(h:Dp o=true):Bn o=Tv o.Kind o.Bits o.Lanes:=by unfold Bn;rw[h];rfl
theorem bZ(h:Dp o=true)(hg:0<(Bn o).1):valS o.Dst=true:=by
 have hd:=(Xt h).2.2.2.2.2.2;rw[Y8 h]at hg;unfold dstS at hd
 cases hk:(o.Kind==17 || o.Kind==19) with
 | true=>unfold Tv at hg;rw[hk,Ah]at hg;exact absurd hg (by decide)
 | false=>rw[hk]at hd;exact hd
theorem k9(hl:l=1\/l=2)(ho:Cn l o=true)(h1:o.Lanes=1)(hx:valS x=true)(hy:valS y=true)(hz:valS z=true) :
  (o.Kind=16->Cn l ⟨18,o.Bits,o.Lanes,o.Dst,[x,y,z],o.Imm⟩=true/\Bn ⟨18,o.Bits,o.Lanes,o.Dst,[x,y,z],o.Imm⟩=Bn o/\widthB o.Bits=true) /\
  (o.Kind=17->Cn l ⟨19,o.Bits,o.Lanes,o.Dst,[x,y,z],o.Imm⟩=true/\Bn ⟨19,o.Bits,o.Lanes,o.Dst,[x,y,z],o.Imm⟩=Bn o) /\
  (∀ w,valS w=true->o.Kind=4->Cn l ⟨20,o.Bits,o.Lanes,o.Dst,[x,y,z,w],o.Imm⟩=true/\Bn ⟨20,o.Bits,o.Lanes,o.Dst,[x,y,z,w],o.Imm⟩=Bn o/\widthB o.Bits=true):=by
 have hm:=T9 ho;obtain⟨a1,a2,a3,a4,a5,a6,a7⟩:=Xt hm;have hw:=Xz a1
 have a1':V8 o.Bits 1=true:=by rw[<- h1];exact a1
 have mk:∀(k:Int) (az:List Int),Dp _=true->(k<=20)->Cn l ⟨k,o.Bits,o.Lanes,o.Dst,az,o.Imm⟩=true:=λk az hk h20=>by
  unfold Cn;rw[hk];rcases hl with rfl|rfl
  ·show(true&&!decide ((20:Int)<k)&&!(decide ((1:Int)<2)&&decide (1<o.Lanes)))=true
   rw[Ds (show ¬ (20:Int)<k by omega),Ds (show ¬ (1:Int)<o.Lanes by omega)];rfl
  ·show(true&&!decide ((22:Int)<k)&&!(decide ((2:Int)<2)&&decide (1<o.Lanes)))=true
   rw[Ds (show ¬ (22:Int)<k by omega)];rfl
 have gv:∀(k:Int) (az:List Int),Dp _=true->Tv k o.Bits o.Lanes=Tv o.Kind o.Bits o.Lanes->Bn ⟨k,o.Bits,o.Lanes,o.Dst,az,o.Imm⟩=Bn o:=λk az hk he=>by
  rw[Y8 hk,Y8 hm];exact he
 refine⟨λhk=>?_,λhk=>?_,λw hwv hk=>?_⟩
 ·have key:Dp ⟨18,o.Bits,o.Lanes,o.Dst,[x,y,z],o.Imm⟩=true:=by
   rw[hk]at a3 a4 a7;simp[sfitS]at a3;simp[ifitS]at a4;simp[dstS]at a7;simp[Dp,a1',SQ,sfitS,ifitS,K7,dstS,hx,hy,hz,a3,a4,a7,h1]
  exact⟨mk _ _ key (by omega),gv _ _ key (by rw[hk];rfl),hw⟩
 ·have key:Dp ⟨19,o.Bits,o.Lanes,o.Dst,[x,y,z],o.Imm⟩=true:=by
   rw[hk]at a3 a4 a7;simp[sfitS]at a3;simp[ifitS]at a4;simp[dstS]at a7;simp[Dp,a1',SQ,sfitS,ifitS,K7,dstS,hx,hy,hz,a3,a4,a7,h1]
  exact⟨mk _ _ key (by omega),gv _ _ key (by rw[hk];rfl)⟩
 ·have key:Dp ⟨20,o.Bits,o.Lanes,o.Dst,[x,y,z,w],o.Imm⟩=true:=by
   rw[hk]at a3 a4 a7;simp[ifitS]at a4;simp[dstS]at a7;simp[Dp,a1',SQ,sfitS,ifitS,K7,dstS,hx,hy,hz,hwv,a3,a4,a7,h1]
  exact⟨mk _ _ key (by omega),gv _ _ key (by rw[hk];rfl),hw⟩
theorem uU(ho:Cn l o=true)(hk:o.Kind=18\/o.Kind=19\/o.Kind=20)(hx:valS x=true) :
  Cn l ⟨o.Kind,o.Bits,o.Lanes,o.Dst,x::o.Args.drop 1,o.Imm⟩=true/\Bn ⟨o.Kind,o.Bits,o.Lanes,o.Dst,x::o.Args.drop 1,o.Imm⟩=Bn o/\1<=o.Args.length:=by
 have hm:=T9 ho;obtain⟨a1,a2,a3,a4,a5,a6,a7⟩:=Xt hm
 have hn:3<=o.Args.length:=by
  rcases hk with h|h|h<;>rw[h]at a5<;>simp[K7]at a5<;>omega
 have key:Dp ⟨o.Kind,o.Bits,o.Lanes,o.Dst,x::o.Args.drop 1,o.Imm⟩=true:=by
  unfold Dp;rw[a1,a2,a3,a4,a7,show((x::o.Args.drop 1).length:Int)=K7 o.Kind o.Lanes by  simp;omega,GT,hx];have:(o.Args.drop 1).all _=true:=zzL21.2 λy hy=>zzL21.1 a6 y (List.mem_of_mem_drop hy);rw[this];simp
 refine⟨?_,?_,by omega⟩
 ·unfold Cn at ho ⊢;rw[key];rw[hm]at ho;exact ho
 ·rw[Y8 key,Y8 hm]
def Got(Out:Int->Int×Int->Prop)(s:List A0)(v:Int)(sh:Int×Int):Prop:=Out v sh\/∃ o∈s,o.Dst=v/\Bn o=sh/\0<sh.1
theorem Got.more{t:List A0}(h:Got Out s v sh)(hs:s <+: t):Got Out t v sh:=by
 rcases h with h|⟨o,ho,h⟩
 ·exact .inl h
 ·exact .inr ⟨o,hs.subset ho,h⟩
inductive Fine (l:Int) (Out:Int->Int×Int->Prop):List A0->Prop
 | nil:Fine l Out []
 | snoc {s:List A0} {o:A0} (h:Fine l Out s) (ht:Cn l o=true) (ha:∀ j,j<o.Args.length->Got Out s (o.Args.getD j 0) (Ig o j)):Fine l Out (s++[o])
def Hl(s:List A0):List Int:=(s.filter λo=>decide (0<(Bn o).1)).map (·.Dst)
theorem LO(s:List A0)(o:A0):Hl (s++[o])=Hl s++Hl [o]:=by unfold Hl;rw[JH,AA]
theorem Y6(o:A0):Hl [o]=if 0<(Bn o).1 then[o.Dst] else[]:=by
 unfold Hl
 by_cases h:0<(Bn o).1<;>simp[h]
theorem mem_dsts:v∈Hl s↔∃ o∈s,o.Dst=v/\0<(Bn o).1:=by
 unfold Hl;simp only[zzL16,zzL73]
 constructor
 ·grind
 ·grind
theorem Fine.typed(h:Fine l Out s):∀ o∈s,Cn l o=true:=by
 induction h with
 | nil=>simp
 | snoc _ ht _ ih=>
  grind
theorem Fine.args(h:Fine l Out s):∀ k,k<s.length->∀ j,j<(s.getD k default).Args.length->Got Out (s.take k) ((s.getD k default).Args.getD j 0) (Ig (s.getD k default) j):=by
 induction h with
 | nil=>intro k hk;cases hk
 | @snoc s o _ ht ha ih=>
  intro k hk j hj
  by_cases e:k<s.length
  ·have e1:(s++[o]).getD k default=s.getD k default:=by grind
   rw[e1]at hj ⊢;rw[List.take_append_of_le_length (by omega)];exact ih k e j hj
  ·grind
structure iy(l L:Int)(Out:Int->Int×Int->Prop)(s:Pt)(ol:List Int):Prop where
 fine:Fine l Out s.1
 lo:L<=s.2
 nd:(Hl s.1).Nodup
 old:∀ v∈Hl s.1,(L<v/\v<=s.2)\/v∈ol
section
variable {l L:Int} {Out:Int->Int×Int->Prop} (hl:l=1\/l=2) (hL:0<=L) (hO:∀ v sh,Out v sh->valS v=true)
include hl hL hO
theorem SP(hf:Fine l Out s)(h:Got Out s v sh):valS v=true:=by
 rcases h with h|⟨o,ho,rfl,rfl,hp⟩
 ·exact hO _ _ h
 ·exact bZ (T9 (hf.typed o ho)) hp
theorem Y4{s:Pt}(I:iy l L Out s ol)(hol:∀ v∈ol,v<=L)(hb:s.2+1<=1023){k:Int}{az:List Int}(ht:Cn l ⟨k,b,1,s.2+1,az,m⟩=true)(ha:∀ j,j<az.length->Got Out s.1 (az.getD j 0) (Ig ⟨k,b,1,s.2+1,az,m⟩ j)) :
  iy l L Out (Do s k b m az) ol/\(Do s k b m az).2=s.2+1/\s.1 <+: (Do s k b m az).1/\(0<(Tv k b 1).1->Got Out (Do s k b m az).1 (s.2+1) (Tv k b 1)):=by
 have hlo:=I.lo;have hw:w64 _=s.2+1:=F1 (by omega) (by omega)
 have e:Do s k b m az=(s.1++[⟨k,b,1,s.2+1,az,m⟩],s.2+1):=by unfold Do;rw[hw]
 rw[e];refine⟨⟨.snoc I.fine ht ha,by grind,?_,?_⟩,rfl,List.prefix_append _ _,λhg=>.inr ⟨_,by simp,rfl,Y8 (T9 ht),hg⟩⟩
 ·rw[LO,Y6]
  split
  ·rw[List.nodup_append];refine⟨I.nd,by simp,λx hx y hy=>?_⟩;rw[zzL10.1 hy]
   show x≠s.2+1
   rcases I.old x hx with h|h
   ·omega
   ·have:=hol x h;omega
  ·simpa using I.nd
 ·intro v hv
  have hv':v∈Hl s.1++Hl [⟨k,b,1,s.2+1,az,m⟩]:=by rw[<- LO];exact hv
  rcases zzL8.1 hv' with h|h
  ·rcases I.old v h with h|h
   · omega
   ·exact .inr h
  ·rw[Y6]at h
   split at h
   ·grind
   ·cases h
theorem Zw{s:Pt}(I:iy l L Out s ol){o':A0}(ht:Cn l o'=true)(hd:o'.Dst=o.Dst)(hg:Bn o'=Bn o)(hn:0<(Bn o).1->o.Dst∉ol/\o.Dst<=L)(ha:∀ j,j<o'.Args.length->Got Out s.1 (o'.Args.getD j 0) (Ig o' j)) :
  iy l L Out (s.1++[o'],s.2) (ol++Hl [o])/\(0<(Bn o).1->Got Out (s.1++[o']) o.Dst (Bn o)):=by
 have e:Hl [o']=Hl [o]:=by rw[Y6,Y6,hg,hd]
 refine⟨⟨.snoc I.fine ht ha,I.lo,?_,?_⟩,λh=>.inr ⟨o',by simp,hd,hg,h⟩⟩
 ·rw[LO,e,Y6]
  split
  ·rename_i h
   obtain⟨n1,n2⟩:=hn h;rw[List.nodup_append];refine⟨I.nd,by simp,λx hx y hy=>?_⟩;rw[zzL10.1 hy];intro e2;rcases I.old x hx with h|h
   ·omega
   ·exact n1 (e2▸h)
  ·simpa using I.nd
 ·intro v hv
  have hv':v∈Hl s.1++Hl [o]:=by rw[<- e,<- LO];exact hv
  rcases zzL8.1 hv' with h|h
  ·rcases I.old v h with h|h
   ·exact .inl h
   ·grind
  ·grind
theorem tq{s:Pt}(I:iy l L Out s ol)(hol:∀ v∈ol,v<=L)(hs:s.2<=1023){g:Int}(hb:(Vw g s o).2<=1023)(ht:Cn l o=true)(h1:o.Lanes=1)
  (ha:∀ j,j<o.Args.length->Got Out s.1 (o.Args.getD j 0) (Ig o j)) (hg:Wo o.Kind=false->Got Out s.1 g (1,1)) (hn:0<(Bn o).1->o.Dst∉ol/\o.Dst<=L) :
  iy l L Out (Vw g s o) (ol++Hl [o])/\s.1 <+: (Vw g s o).1/\(0<(Bn o).1->Got Out (Vw g s o).1 o.Dst (Bn o)):=by
 have hlo:=I.lo;have hm:=T9 ht;have a5:=(Xt hm).2.2.2.2.1;have hw:w64 (s.2+1)=s.2+1:=F1 (by omega) (by omega);have hv:∀{t:List A0} {v:Int} {sh:Int×Int},Fine l Out t->Got Out t v sh->valS v=true:=λhf hgot=>SP hl hL hO hf hgot
 have v1:∀{x:Int},0<=x->x+1<=1023->valS (x+1)=true:=λh0 h1=>by unfold valS;rw[Az,Hs,Hs];omega
 unfold Vw at hb ⊢;rcases grd_cases o g s with⟨hk,e⟩|⟨hk,e⟩|⟨hk,e⟩|⟨hk,e⟩|⟨hk,e⟩<;>rw[e]at hb ⊢
 ·
  have hb':s.2+1<=1023:=by have:(Do s 0 o.Bits 0 []).2<=1023:=hb;unfold Do at this;rw[hw]at this;exact this
  have IT:o.Args.length=1:=by rw[hk]at a5;simp[K7]at a5;omega
  have hG:=hg (by rw[hk];rfl);have hA:=ha 0 (by omega)
  have eA:Ig o 0=(64,1):=by unfold Ig;rw[hk];rfl
  rw[eA]at hA;have hvs:=v1 (by omega:0<=s.2) hb';obtain⟨t1,t2,t3⟩:=(k9 hl ht h1 (hv I.fine hG) (hv I.fine hA) hvs).1 hk;obtain⟨A1,A2,A3,A4⟩:=Y4 hl hL hO I hol hb' (k:=0) (b:=o.Bits) (m:=0) (az:=[]) (WX hl t3 (by simp) hvs) (λj hj=>by cases hj)
  have hw1:0<o.Bits:=by rcases width_cases t3 with h|h|h|h|h<;>omega
  obtain⟨B1,B2⟩:=Zw hl hL hO A1 (o:=o) (o':=⟨18,o.Bits,o.Lanes,o.Dst,[g,o.Args.getD 0 0,s.2+1],o.Imm⟩) t1 rfl t2 hn (λj hj=>by
   have:j=0\/j=1\/j=2:=by simp at hj;omega
   rcases this with rfl|rfl|rfl
   ·exact hG.more A3
   ·exact hA.more A3
   ·have:=A4 hw1
    rw[show Ig ⟨18,o.Bits,o.Lanes,o.Dst,[g,o.Args.getD 0 0,s.2+1],o.Imm⟩ 2=(o.Bits,o.Lanes) from rfl,h1];exact this)
  rw[hw];exact⟨B1,A3.trans (List.prefix_append _ _),B2⟩
 ·
  have IT:o.Args.length=2:=by rw[hk]at a5;simp[K7]at a5;omega
  have hG:=hg (by rw[hk];rfl);have hA:=ha 0 (by omega);have hB:=ha 1 (by omega);rw[show Ig o 0=(64,1) by unfold Ig;rw[hk];rfl]at hA;rw[show Ig o 1=(o.Bits,o.Lanes) by unfold Ig;rw[hk];rfl]at hB;obtain⟨t1,t2⟩:=(k9 hl ht h1 (hv I.fine hG) (hv I.fine hA) (hv I.fine hB)).2.1 hk
  obtain⟨B1,B2⟩:=Zw hl hL hO I (o:=o) (o':=⟨19,o.Bits,o.Lanes,o.Dst,[g,o.Args.getD 0 0,o.Args.getD 1 0],o.Imm⟩) t1 rfl t2 hn (λj hj=>by
   have:j=0\/j=1\/j=2:=by simp at hj;omega
   rcases this with rfl|rfl|rfl
   ·exact hG
   ·exact hA
   ·exact hB)
  exact⟨B1,List.prefix_append _ _,B2⟩
 ·
  have hb':s.2+1<=1023:=by have:(Do s 0 o.Bits 0 []).2<=1023:=hb;unfold Do at this;rw[hw]at this;exact this
  have IT:o.Args.length=2:=by rw[hk]at a5;simp[K7]at a5;omega
  have hG:=hg (by rw[hk];rfl);have hA:=ha 0 (by omega);have hB:=ha 1 (by omega);rw[show Ig o 0=(o.Bits,o.Lanes) by unfold Ig;rw[hk];rfl]at hA;rw[show Ig o 1=(o.Bits,o.Lanes) by unfold Ig;rw[hk];rfl]at hB;have hvs:=v1 (by omega:0<=s.2) hb';obtain⟨t1,t2,t3⟩:=(k9 hl ht h1 (hv I.fine hG) (hv I.fine hA) (hv I.fine hB)).2.2 _ hvs hk;obtain⟨A1,A2,A3,A4⟩:=Y4 hl hL hO I hol hb' (k:=0) (b:=o.Bits) (m:=0) (az:=[]) (WX hl t3 (by simp) hvs) (λj hj=>by cases hj)
  have hw1:0<o.Bits:=by rcases width_cases t3 with h|h|h|h|h<;>omega
  obtain⟨B1,B2⟩:=Zw hl hL hO A1 (o:=o) (o':=⟨20,o.Bits,o.Lanes,o.Dst,[g,o.Args.getD 0 0,o.Args.getD 1 0,s.2+1],o.Imm⟩) t1 rfl t2 hn (λj hj=>by
   have:j=0\/j=1\/j=2\/j=3:=by simp at hj;omega
   rcases this with rfl|rfl|rfl|rfl
   ·exact hG.more A3
   ·exact hA.more A3
   ·exact hB.more A3
   ·have:=A4 hw1
    rw[show Ig ⟨20,o.Bits,o.Lanes,o.Dst,[g,o.Args.getD 0 0,o.Args.getD 1 0,s.2+1],o.Imm⟩ 3=(o.Bits,o.Lanes) from rfl,h1];exact this)
  rw[hw];exact⟨B1,A3.trans (List.prefix_append _ _),B2⟩
 ·
  have hb':s.2+1<=1023:=by have:(Do s 5 1 0 [o.Args.getD 0 0,g]).2<=1023:=hb;unfold Do at this;rw[hw]at this;exact this
  have hG:=hg (by rcases hk with h|h|h<;>rw[h]<;>rfl);have hvs:=v1 (by omega:0<=s.2) hb';obtain⟨t1,t2,t3⟩:=uU ht hk hvs;have hA:=ha 0 (by omega);rw[show Ig o 0=(1,1) by unfold Ig;rcases hk with h|h|h<;>rw[h]<;>rfl]at hA
  obtain⟨A1,A2,A3,A4⟩:=Y4 hl hL hO I hol hb' (k:=5) (b:=1) (m:=0) (az:=[o.Args.getD 0 0,g]) (uV hl (.inl rfl) (hv I.fine hA) (hv I.fine hG) hvs) (λj hj=>by
   have:j=0\/j=1:=by simp at hj;omega
   rcases this with rfl|rfl
   ·exact hA
   ·exact hG)
  obtain⟨B1,B2⟩:=Zw hl hL hO A1 (o:=o) (o':=⟨o.Kind,o.Bits,o.Lanes,o.Dst,(s.2+1)::o.Args.drop 1,o.Imm⟩) t1 rfl t2 hn (λj hj=>by
   have hj':j<o.Args.length:=by simp at hj;omega
   have eE:Ig ⟨o.Kind,o.Bits,o.Lanes,o.Dst,(s.2+1)::o.Args.drop 1,o.Imm⟩ j=Ig o j:=rfl;rw[eE]
   cases j with
   | zero=>
    rw[show Ig o 0=(1,1) by unfold Ig;rcases hk with h|h|h<;>rw[h]<;>rfl];exact A4 (by decide)
   | succ j=>
    have:((s.2+1)::o.Args.drop 1).getD (j+1) 0=o.Args.getD (j+1) 0:=by simp[List.getD,Nat.add_comm]
    show Got Out _ (((s.2+1)::o.Args.drop 1).getD (j+1) 0) _
    rw[this]
    exact(ha (j+1) hj').more A3)
  rw[hw];exact⟨B1,A3.trans (List.prefix_append _ _),B2⟩
 ·obtain⟨B1,B2⟩:=Zw hl hL hO I (o:=o) (o':=o) ht rfl rfl hn ha;exact⟨B1,List.prefix_append _ _,B2⟩
theorem iM{s:Pt}(h0:0<=s.2)(hs:s.2<=4000000000)(g:Int)(o:A0):s.2<=(Vw g s o).2/\(Vw g s o).2<=s.2+1:=by
 have hw:w64 _=s.2+1:=F1 (by omega) (by omega);unfold Vw;rcases grd_cases o g s with⟨_,e⟩|⟨_,e⟩|⟨_,e⟩|⟨_,e⟩|⟨_,e⟩<;>rw[e]<;>simp only[Do]<;>omega
theorem IB(g:Int):∀(ops:List A0) {s:Pt},0<=s.2->s.2+ops.length<=4000000000->s.2<=(Nb ops g s).2/\(Nb ops g s).2<=s.2+ops.length
 | [],s,_,_=>⟨Int.le_refl _,by simp[Nb]⟩
 | o::ops,s,h0,hs=>by
  have h1:=iM hl hL hO h0 (by  omega) g o;have h2:=IB g ops (s:=Vw g s o) (by omega) (by simp at hs;omega)
  show s.2<=(Nb ops g _).2/\(Nb ops g _).2<=s.2+(o::ops).length
  simp only[Ry];omega
theorem OU(g:Int)(ac7:List A0):∀(ops done:List A0) {s:Pt} {ol:List Int},iy l L Out s ol->(∀ v∈ol,v<=L)->ac7 <+: s.1->(∀ o∈done,0<(Bn o).1->Got Out s.1 o.Dst (Bn o))->s.2+ops.length<=4000000000->(Nb ops g s).2<=1023->
  (∀ o∈ops,Cn l o=true/\o.Lanes=1/\(Wo o.Kind=false->Got Out ac7 g (1,1)))->(ol++Hl ops).Nodup->(∀ v∈Hl ops,v<=L)->
  (∀ k,k<ops.length->∀ j,j<(ops.getD k default).Args.length->Got Out ac7 ((ops.getD k default).Args.getD j 0) (Ig (ops.getD k default) j)\/∃ o∈done++ops.take k,o.Dst=(ops.getD k default).Args.getD j 0/\Bn o=Ig (ops.getD k default) j/\0<(Bn o).1)->
  iy l L Out (Nb ops g s) (ol++Hl ops)/\s.1 <+: (Nb ops g s).1/\∀ o∈done++ops,0<(Bn o).1->Got Out (Nb ops g s).1 o.Dst (Bn o)
 | [],done,s,ol,I,hol,hp,hd,_,_,_,_,_,_=>by
  refine⟨by simpa [Hl,Nb] using I,List.prefix_refl _,λo ho hg=>?_⟩;rw[List.append_nil]at ho;exact hd o ho hg
 | o::ops,done,s,ol,I,hol,hp,hd,IT,hb,ho,hnd,hle,ha=>by
  have h0:0<=s.2:=by have:=I.lo;omega
  have hm1:=iM hl hL hO h0 (by simp at IT;omega) g o;have hm2:=IB hl hL hO g ops (s:=Vw g s o) (by omega) (by simp at IT;omega);have hb':(Nb ops g (Vw g s o)).2<=1023:=hb;obtain⟨o1,o2,o3⟩:=ho o (zzL44 ..)
  have edec:Hl (o::ops)=Hl [o]++Hl ops:=by
   unfold Hl;rw[<- AA,<- JH];rfl
  rw[edec]at hnd hle
  obtain⟨P1,P2,P3⟩:=tq hl hL hO I hol (by omega) (o:=o) (g:=g) (by omega) o1 o2 (λj hj=>by
   rcases ha 0 (by simp) j hj with h|⟨q,hq,e1,e2,e3⟩
   ·exact h.more hp
   ·grind) (λhk=>(o3 hk).more hp) (λhg=>by
   have ab3:o.Dst∈Hl [o]:=by rw[Y6,if_pos hg];simp
   refine⟨λhin=>?_,hle _ (zzL8.2 (.inl ab3))⟩;rw[List.nodup_append]at hnd
   exact hnd.2.2 _ hin _ (zzL8.2 (.inl ab3)) rfl)
  have:=OU g ac7 ops (done++[o]) (s:=Vw g s o) (ol:=ol++Hl [o]) P1 (λv hv=>by
   grind) (hp.trans P2) (λq hq hg=>by
   rcases zzL8.1 hq with h|h
   ·exact(hd q h hg).more P2
   ·rw[zzL10.1 h]at hg ⊢;exact P3 hg) (by simp at IT;omega) hb' (λq hq=>ho q (Mo _ hq)) (by rw[Z0];exact hnd) (λv hv=>hle v (zzL8.2 (.inr hv))) (λk hk j hj=>by
   have:=ha (k+1) (by simp;omega) j (by simpa using hj)
   simpa [Z0] using this)
  rw[edec,<- Z0];refine⟨this.1,P2.trans this.2.1,λq hq hg=>this.2.2 q (by simpa [Z0] using hq) hg⟩
end
def Yz(f:AI)(h:AT)(v:Int)(sh:Int×Int):Prop:=∃ d∈Aw f,d.V=v/\d.Shape=sh/\(d.Block<0\/(d.Block=h.At/\d.At<0)\/∃ b:Nat,d.Block=(b:Int)/\b<f.Blocks.length/\b≠h.At.toNat/\Bk h b=true/\P5 (Cu f) (b:Int) (h.At.toNat:Int)=true)
section
variable {f:AI} {h:AT} {l:Int} (hl:l=1\/l=2) (H:Hm f h) (R:qy f l)
include hl H R
theorem sB:Nt f=true:=by
 have:=R.shape;unfold Eg at this;rw[Az]at this;exact this.1
theorem b8:∀ b∈f.Blocks,∀ o∈b.Ops,Dp o=true:=λb hb o ho=>Ae3 R hb ho
theorem nG:∀ v sh,Yz f h v sh->valS v=true:=by
 rintro v sh ⟨d,hd,rfl,_⟩;exact kx R hd
theorem use_here(hu:u∈Bl f){b:Nat}(hb:b<f.Blocks.length)(hub:u.Block=(b:Int))(hc:b=h.At.toNat\/¬ Bk h b=true) :
  Yz f h u.V u.Shape\/(∃ i,i<(bA f h.At.toNat).Ops.length/\(b=h.At.toNat->(i:Int)<u.At)/\((bA f h.At.toNat).Ops.getD i default).Dst=u.V/\Bn ((bA f h.At.toNat).Ops.getD i default)=u.Shape/\0<u.Shape.1) \/
   (b≠h.At.toNat/\∃ i,i<(bA f b).Ops.length/\(i:Int)<u.At/\((bA f b).Ops.getD i default).Dst=u.V/\Bn ((bA f b).Ops.getD i default)=u.Shape/\0<u.Shape.1):=by
 have hs:=sB hl H R;have hA:=at_ltN H;obtain⟨d,hd,hv,hsh,ht⟩:=uE R hu;rw[hub]at ht;have out1:d.Block<0\/(d.Block=h.At/\d.At<0)\/(∃ b:Nat,d.Block=(b:Int)/\b<f.Blocks.length/\b≠h.At.toNat/\Bk h b=true/\P5 (Cu f) (b:Int) (h.At.toNat:Int)=true)->Yz f h u.V u.Shape:=λe=>⟨d,hd,hv,hsh,e⟩;rcases ri_def.1 hd with⟨i,hi,e⟩|⟨i,hi,hk⟩
 ·left;exact out1 (.inl (by rw[e];exact(by decide:(-1:Int)<0)))
 ·have hB:d.Block=(i:Int):=by rcases hk with⟨k,_,e⟩|⟨k,_,_,e⟩<;>rw[e]
  have hover:i≠b->i≠h.At.toNat->P5 (Cu f) (i:Int) (b:Int)=true->Yz f h u.V u.Shape:=λhib hia ho=>by
   rcases hc with e|e
   ·subst e;have hki:Bk h i=true:=GP λhc=>VC H hs hc hA.1 (λe=>hib e.symm) ho;exact out1 (.inr (.inr ⟨i,hB,hi,hia,hki,ho⟩))
   ·obtain⟨k1,k2⟩:=td H hs e hi hib hia ho;exact out1 (.inr (.inr ⟨i,hB,hi,hia,k1,k2⟩))
  have ht':(i=b/\d.At<u.At)\/(i≠b/\P5 (Cu f) (i:Int) (b:Int)=true):=by
   unfold mI at ht;rw[hB]at ht;rcases ht with h1|⟨h1,h2⟩|⟨h1,h2⟩
   ·omega
   ·exact .inl ⟨by omega,h2⟩
   ·exact .inr ⟨by omega,h2⟩
  rcases hk with⟨k,hk,e⟩|⟨k,hk,hg,e⟩
  ·have hAt:d.At = -1:=by rw[e]
   by_cases hia:i=h.At.toNat
   ·left;exact out1 (.inr (.inl ⟨by omega,by omega⟩))
   ·rcases ht' with⟨h1,_⟩|⟨h1,h2⟩
    ·rcases hc with e2|e2
     ·omega
     ·rw[h1,(Li H e2).2.1]at hk;cases hk
    ·left;exact hover h1 hia h2
  ·grind
theorem dl(hi:i<f.Blocks.length)(hk:k<(bA f i).Ops.length)(hj:j<((bA f i).Ops.getD k default).Args.length):(⟨((bA f i).Ops.getD k default).Args.getD j 0,(i:Int),(k:Int),Ig ((bA f i).Ops.getD k default) j⟩:Dz)∈Bl f:=
 (CA (b8 hl H R)).2 ⟨i,hi,.inr (.inl ⟨k,j,hk,hj,rfl⟩)⟩
theorem dk(hi:i<f.Blocks.length)(hk:k<(bA f i).Ops.length)(hg:0<(Bn ((bA f i).Ops.getD k default)).1):(⟨((bA f i).Ops.getD k default).Dst,(i:Int),(k:Int),Bn ((bA f i).Ops.getD k default)⟩:TDef)∈Aw f:=
 ri_def.2 (.inr ⟨i,hi,.inr ⟨k,hk,hg,rfl⟩⟩)
theorem TX(hi:i<f.Blocks.length)(hv:v∈Hl (bA f i).Ops):∃ k,k<(bA f i).Ops.length/\(⟨v,(i:Int),(k:Int),Bn ((bA f i).Ops.getD k default)⟩:TDef)∈Aw f:=by
 obtain⟨o,ho,rfl,hg⟩:=mem_dsts.1 hv;obtain⟨k,hk,rfl⟩:=H8 ho;refine⟨k,hk,?_⟩;have:=dk hl H R hi hk (by grind);rw[Ad _ _ _ hk]at this ⊢;exact this
theorem dE(hi:i<f.Blocks.length):(Hl (bA f i).Ops).Nodup:=by
 unfold Hl;rw[List.nodup_iff_pairwise_ne,List.pairwise_map,List.pairwise_filter,zzL78];intro a b ha hb hab ga gb he;have d1:=dk hl H R hi ha (by grind);have d2:=dk hl H R hi hb (by grind);have:=uD R d1 d2 (by grind);have:=Bw TDef.At this;simp only at this;omega
theorem JW(hi:i<f.Blocks.length)(hj:j<f.Blocks.length)(hij:i≠j)(h1:v∈Hl (bA f i).Ops)(h2:v∈Hl (bA f j).Ops):False:=by
 obtain⟨k,_,d1⟩:=TX hl H R hi h1;obtain⟨q,_,d2⟩:=TX hl H R hj h2;have:=Bw TDef.Block (uD R d1 d2 rfl);simp only at this;omega
theorem mZ(hi:i<f.Blocks.length):∀ v∈Hl (bA f i).Ops,v<=Gx f:=λv hv=>by
 obtain⟨k,_,d1⟩:=TX hl H R hi hv;exact NS d1
theorem side_is(hx:x=h.Then\/x=h.Else):(x = -1/\Ef f x=[])\/(¬ Bk h x.toNat=true/\x.toNat<f.Blocks.length/\((x.toNat:Nat):Int)=x/\Ef f x=(bA f x.toNat).Ops/\x.toNat≠h.At.toNat):=by
 by_cases e:x = -1
 ·left;refine⟨e,?_⟩; rw[e];rfl
 ·right
  have h0:0<x:=by
   rcases hx with rfl|rfl
   ·exact(Zv H).1 e
   ·exact(Zv H).2 e
  have hk:¬ Bk h x.toNat=true:=by rw[O4];omega
  refine⟨hk,(Li H hk).1,by omega,?_,λe2=>hk (by rw[e2];exact Qt H)⟩;unfold Ef;rw[show(x !=-1)=true by rw[zzL65];exact e];rfl
theorem ft:(⟨(bA f h.At.toNat).End.Arg,(h.At.toNat:Int),1000,(1,1)⟩:Dz)∈Bl f:=
 (CA (b8 hl H R)).2 ⟨_,(at_ltN H).1,.inr (.inr (.inr ⟨H.kind,rfl⟩))⟩
theorem jm(hu:u∈Bl f)(hb:u.Block=(h.At.toNat:Int)):Got (Yz f h) (bA f h.At.toNat).Ops u.V u.Shape:=by
 rcases use_here hl H R hu (at_ltN H).1 hb (.inl rfl) with h1|⟨i,hi,_,e1,e2,e3⟩|⟨h1,_⟩
 ·exact .inl h1
 ·exact .inr ⟨_,Ag  hi,e1,e2,e3⟩
 ·exact absurd rfl h1
theorem Aa1(h0:0<=Gx f):iy l (Gx f) (Yz f h) ((bA f h.At.toNat).Ops,Gx f) (Hl (bA f h.At.toNat).Ops):=by
 have hA:=at_ltN H;refine⟨?_,Int.le_refl _,dE hl H R hA.1,λv hv=>.inr hv⟩
 have key:∀ k,k<=(bA f h.At.toNat).Ops.length->Fine l (Yz f h) ((bA f h.At.toNat).Ops.take k):=by
  intro k
  induction k with
  | zero=>intro _; exact .nil
  | succ k ih=>
   intro hk;rw[il (by omega)];have eg:(bA f h.At.toNat).Ops[k]=(bA f h.At.toNat).Ops.getD k default:=(Ad _ _ _ (by omega)).symm;rw[eg];refine .snoc (ih (by omega)) (MR R (Ag (d:=default) hA.1) (Ag (Nat.lt_of_succ_le hk))) λj hj=>?_;have hu:=dl hl H R hA.1 (k:=k) (by omega) hj;rcases use_here hl H R hu hA.1 rfl (.inl rfl) with h1|⟨i,hi,hlt,e1,e2,e3⟩|⟨h1,_⟩
   ·exact .inl h1
   ·have hik:i<k:=by grind
    refine .inr ⟨_,?_,e1,e2,e3⟩;rw[Ad _ _ _ hi];exact List.mem_take_iff_getElem.2 ⟨i,by omega,rfl⟩
   ·exact absurd rfl h1
 have:=key _ (zzL7 _);rwa[RH]at this
theorem WR(hx:x=h.Then\/x=h.Else){ac7:List A0}(hp:(bA f h.At.toNat).Ops <+: ac7):∀ k,k<(Ef f x).length->∀ j,j<((Ef f x).getD k default).Args.length->Got (Yz f h) ac7 (((Ef f x).getD k default).Args.getD j 0) (Ig ((Ef f x).getD k default) j)\/∃ o∈[]++(Ef f x).take k,o.Dst=((Ef f x).getD k default).Args.getD j 0/\Bn o=Ig ((Ef f x).getD k default) j/\0<(Bn o).1:=by
 rcases side_is hl H R hx with⟨_,e⟩|⟨hk,hlt,hxx,e,hne⟩
 ·grind
 ·rw[e];intro k hk' j hj;have hu:=dl hl H R hlt hk' hj;rcases use_here hl H R hu hlt rfl (.inr hk) with h1|⟨i,hi,_,e1,e2,e3⟩|⟨_,i,hi,hik,e1,e2,e3⟩
  ·exact .inl (.inl h1)
  ·exact .inl (Got.more (.inr ⟨_,Ag  hi,e1,e2,e3⟩) hp)
  ·right
   have hik':i<k:=by grind
   refine⟨(bA f _).Ops.getD i _,?_,e1,e2,by rw[e2];exact e3⟩;rw[ Ad _ _ _ hi];exact List.mem_take_iff_getElem.2 ⟨i,by omega,rfl⟩
theorem WS(hx:x=h.Then\/x=h.Else)(hm:(Ef f x).all (λo=>o.Lanes==1)=true):∀ o∈Ef f x,Cn l o=true/\o.Lanes=1:=λo ho=>by
 refine⟨?_,eq_of_beq (zzL21.1 hm o ho)⟩;rcases side_is hl H R hx with⟨_,e⟩|⟨hk,hlt,hxx,e,hne⟩
 ·rw[e]at ho;cases ho
 ·rw[e]at ho;exact MR R (Ag  hlt) ho
def yE(f:AI)(h:AT):List Int:=(Hl (bA f h.At.toNat).Ops++Hl (Ef f h.Then))++Hl (Ef f h.Else)
theorem VM:(yE f h).Nodup/\(∀ v∈yE f h,v<=Gx f)/\(Hl (bA f h.At.toNat).Ops++Hl (Ef f h.Then)).Nodup/\∀ v∈yE f h,∃ b,b<f.Blocks.length/\(b=h.At.toNat\/¬ Bk h b=true)/\v∈Hl (bA f b).Ops:=by
 have hA:=at_ltN H
 have hin:∀ x:Int,(x=h.Then\/x=h.Else)->∀ v∈Hl (Ef f x),∃ b:Nat,(b:Int)=x/\b<f.Blocks.length/\¬ Bk h b=true/\v∈Hl (bA f b).Ops:=λx hx v hv=>by
  rcases side_is hl H R hx with⟨_,e⟩|⟨hk,hlt,hxx,e,hne⟩
  ·rw[e]at hv;cases hv
  ·grind
 have hnd:∀ x:Int,(x=h.Then\/x=h.Else)->(Hl (Ef f x)).Nodup:=λx hx=>by
  rcases side_is hl H R hx with⟨_,e⟩|⟨hk,hlt,hxx,e,hne⟩
  ·rw[e];simp[Hl]
  ·rw[e];exact dE hl H R hlt
 have h3:(Hl (bA f h.At.toNat).Ops++Hl (Ef f h.Then)).Nodup:=by
  rw[List.nodup_append];refine⟨dE hl H R hA.1,hnd _ (.inl rfl),λa ha b hb hab=>?_⟩;obtain⟨m,_,hm,hkm,hv⟩:=hin _ (.inl rfl) b hb;exact JW hl H R hA.1 hm (λe=>hkm (by rw[<- e];exact Qt H)) ha (hab▸hv)
 have h4:∀ v∈yE f h,∃ b,b<f.Blocks.length/\(b=h.At.toNat\/¬ Bk h b=true)/\v∈Hl (bA f b).Ops:=λv hv=>by
  unfold yE at hv;rcases zzL8.1 hv with hv|hv
  ·grind
  ·grind
 refine⟨?_,λv hv=>?_,h3,h4⟩
 ·unfold yE;rw[List.nodup_append];refine⟨h3,hnd _ (.inr rfl),λa ha b hb hab=>?_⟩;obtain⟨m,em,hm,hkm,hv⟩:=hin _ (.inr rfl) b hb;rcases zzL8.1 ha with ha|ha
  ·exact JW hl H R hA.1 hm (λe=>hkm (by rw[<- e];exact Qt H)) ha (hab▸hv)
  ·obtain⟨q,eq,hq,hkq,hv2⟩:=hin _ (.inl rfl) a ha;have:=ID H;exact JW hl H R hq hm (λe=>by subst e;omega) hv2 (hab▸hv)
 ·obtain⟨b,hb,_,hv⟩:=h4 v hv;exact mZ hl H R hb v hv
end
theorem d9(h0:1<=x)(h1:x<=1023):valS x=true:=by unfold valS;rw[Az,Hs,Hs];omega
theorem Y3 {s : Pt} (h0 : 0 ≤ s.2) (hs : s.2 ≤ 4000000000) (k b m : Int) (az : List Int) : (Do s k b m az).2 = s.2 + 1 := by
   exact F1 (by omega) (by omega)
theorem VR(f:AI)(h:AT):∀(ps:List A8) (s:List A8×Pt),0<=s.2.2->s.2.2+ps.length<=4000000000->s.2.2<=(ps.foldl (Xe f h) s).2.2
 | [],s,_,_=>Int.le_refl _
 | p::ps,s,h0,hs=>by
  simp only[Ry]at hs
  have h1:s.2.2<=(Xe f h s p).2.2/\(Xe f h s p).2.2<=s.2.2+1:=by
   unfold Xe
   cases U1 p _==U1 p _
   ·show s.2.2<=(Do s.2 _ _ _ _).2/\(Do s.2 _ _ _ _).2<=s.2.2+1
    rw[Y3 h0 (by omega)];omega
   ·grind
  have:=VR f h ps (Xe f h s p) (by omega) (by omega)
  show s.2.2<=(ps.foldl (Xe f h) _).2.2
  omega
theorem nK{f:AI}{h:AT}{l L:Int}{Out:Int->Int×Int->Prop}(hl:l=1\/l=2)(hL:0<=L)(hO:∀ v sh,Out v sh->valS v=true){ol:List Int}(hol:∀ v∈ol,v<=L){ac7:List A0}(ae8:Got Out ac7 (bA f h.At.toNat).End.Arg (1,1)) :
  ∀(ps:List A8) {s:List A8×Pt},iy l L Out s.2 ol->ac7 <+: s.2.1->s.2.2+ps.length<=4000000000->(ps.foldl (Xe f h) s).2.2<=1023->(∀ p∈ps,widthB p.Bits=true/\Got Out ac7 (U1 p (Ci h h.Then)) (p.Bits,1)/\Got Out ac7 (U1 p (Ci h h.Else)) (p.Bits,1))->
   iy l L Out (ps.foldl (Xe f h) s).2 ol/\s.2.1 <+: (ps.foldl (Xe f h) s).2.1/\∃ vs:List Int,vs.length=ps.length/\(ps.foldl (Xe f h) s).1=s.1++List.zipWith (Za f.Blocks.length h) ps vs/\∀ k,k<ps.length->Got Out (ps.foldl (Xe f h) s).2.1 (vs.getD k 0) ((ps.getD k default).Bits,1)
 | [],s,I,hp,_,_,_=>⟨I,List.prefix_refl _,[],rfl,by simp,λk hk=>by cases hk⟩
 | p::ps,s,I,hp,hs,hb,hps=>by
  simp only[Ry]at hs
  have h0:0<=s.2.2:=by have:=I.lo;omega
  have hb':(ps.foldl (Xe f h) (Xe f h s p)).2.2<=1023:=hb;obtain⟨w1,w2,w3⟩:=hps p (zzL44 ..)
  have hw1:0<p.Bits:=by rcases width_cases w1 with h|h|h|h|h<;>omega
  obtain⟨v,hv,J,hq,hg,h1⟩:∃ v,(Xe f h s p).1=s.1++[Za f.Blocks.length h p v]/\iy l L Out (Xe f h s p).2 ol/\s.2.1 <+: (Xe f h s p).2.1/\Got Out (Xe f h s p).2.1 v (p.Bits,1)/\(Xe f h s p).2.2<=s.2.2+1:=by
   have hm:=VR f h ps (Xe f h s p)
   by_cases e:U1 p (Ci h h.Then)=U1 p (Ci h h.Else)
   ·have e1:Xe f h s p=(s.1++[Za f.Blocks.length h p (U1 p (Ci h h.Then))],s.2):=by unfold Xe;rw[zzL34.2 e];rfl
    rw[e1];exact⟨_,rfl,I,List.prefix_refl _,w2.more hp,by show s.2.2<=s.2.2+1;omega⟩
   ·have e1:Xe f h s p=(s.1++[Za f.Blocks.length h p (w64 (s.2.2+1))],Do s.2 13 p.Bits 0 [(bA f h.At.toNat).End.Arg,U1 p (Ci h h.Then),U1 p (Ci h h.Else)]):=by unfold Xe;rw[zzL30.2 e];rfl
    have e2:(Xe f h s p).2.2=s.2.2+1:=by rw[e1];exact Y3 h0 (by omega) _ _ _ _
    have hle:=hm (by omega) (by omega);have hvs:valS (s.2.2+1)=true:=d9 (by omega) (by omega);have gv:∀{v:Int} {sh:Int×Int},Got Out ac7 v sh->valS v=true:=λhgot=>SP hl hL hO I.fine (hgot.more hp)
    obtain⟨A1,A2,A3,A4⟩:=Y4 hl hL hO I hol (by omega) (k:=13) (b:=p.Bits) (m:=0)  (Aca hl w1 (gv ae8) (gv w2) (gv w3) hvs) (λj hj=>by
     have:j=0\/j=1\/j=2:=by simp at hj;omega
     rcases this with rfl|rfl|rfl
     ·exact ae8.more hp
     ·exact w2.more hp
     ·exact w3.more hp)
    rw[e1];refine⟨_,rfl,A1,A3,?_,by show(Do s.2 _ _ _ _).2<=_;omega⟩;rw[F1 (by omega) (by omega)];exact A4 hw1
  obtain⟨K1,K2,vs,K3,K4,K5⟩:=nK hl hL hO hol ae8 ps J (hp.trans hq) (by omega) hb' (λq hq=>hps q (Mo _ hq));refine⟨K1,hq.trans K2,v::vs,by simp[K3],?_,λk hk=>?_⟩
  ·simp_all
  ·cases k with
   | zero=>exact hg.more K2
   | succ k=>exact K5 k (by simpa using hk)
section
variable {f:AI} {h:AT} {l:Int} (hl:l=1\/l=2) (H:Hm f h) (R:qy f l) (hc:Ue f=true) (h2:(Uz f h).2.2<=1023) (hm:(Vu f h).all (λo=>o.Lanes==1)=true)
include hl H R hc h2 hm
theorem uK:iy l (Gx f) (Yz f h) (Zt f h) (yE f h)/\(bA f h.At.toNat).Ops <+: (Zt f h).1/\(∀ o∈Ef f h.Then++Ef f h.Else,0<(Bn o).1->Got (Yz f h) (Zt f h).1 o.Dst (Bn o))/\(Zt f h).2+(bA f h.Join.toNat).Phis.length<=4000000000:=by
 have hA:=at_ltN H;have hO:=nG hl H R;obtain⟨hL,hL2⟩:=UO H.R.ok;have n1:=Kl H.R H.sides.1;have n2:=Kl H.R H.sides.2;have n3:=Qq H (Lm H).1;obtain⟨o1,o2,o3,_⟩:=VM hl H R
 have hm':(Ef f h.Then).all (λo=>o.Lanes==1)=true/\(Ef f h.Else).all (λo=>o.Lanes==1)=true:=by
  unfold Vu at hm;rw[List.all_append,Az]at hm;exact hm
 have m1:Gx f<=(Vz f h).2/\(Vz f h).2<=Gx f+((Ef f h.Then).length:Nat):=IB hl hL hO (bA f h.At.toNat).End.Arg (Ef f h.Then) (s:=((bA f h.At.toNat).Ops,Gx f)) hL (by show Gx f+_<=_;omega)
 have m2:(Vz f h).2<=(HZ f h).2/\(HZ f h).2<=(Vz f h).2+2:=by
  unfold HZ
  cases LJ (Ef f h.Else)
  ·exact⟨Int.le_refl _,by show(Vz f h).2<=_;omega⟩
  ·have e1:=Y3 (s:=Vz f h) (by omega) (by omega) 0 1 1 [];have e2:=Y3 (s:=Do (Vz f h) 0 1 1 []) (by omega) (by omega) 7 1 0 [(bA f h.At.toNat).End.Arg,(Do (Vz f h) 0 1 1 []).2]
   show(Vz f h).2<=(Do (Do (Vz f h) 0 1 1 []) 7 1 0 _).2/\(Do (Do (Vz f h) 0 1 1 []) 7 1 0 _).2<=_
   rw[e2];omega
 have m3:(HZ f h).2<=(Zt f h).2/\(Zt f h).2<=(HZ f h).2+((Ef f h.Else).length:Nat):=IB hl hL hO (OG f h) (Ef f h.Else) (s:=HZ f h) (by omega) (by omega);have m4:(Zt f h).2<=(Uz f h).2.2:=VR f h (bA f h.Join.toNat).Phis ([],Zt f h) (by show 0<=(Zt f h).2;omega) (by show(Zt f h).2+_<=_;omega);have ae8:Got (Yz f h) (bA f h.At.toNat).Ops (bA f h.At.toNat).End.Arg (1,1):=jm hl H R (ft hl H R) rfl;have tT:=WS hl H R (.inl rfl) hm'.1;have tE:=WS hl H R (.inr rfl) hm'.2;obtain⟨P1,P2,P3⟩:=OU hl hL hO (bA f h.At.toNat).End.Arg (bA f h.At.toNat).Ops (Ef f h.Then) [] (Aa1 hl H R hL) (λv hv=>mZ hl H R hA.1 v hv) (List.prefix_refl _) (λo ho=>by cases ho) (by show Gx f+_<=_;omega) (by show(Vz f h).2<=1023;omega)
  (λo ho=>⟨(tT o ho).1,(tT o ho).2,λ_=>ae8⟩) o3 (λv hv=>o2 v (by unfold yE;exact zzL8.2 (.inl (zzL8.2 (.inr hv))))) (WR hl H R (.inl rfl) (List.prefix_refl _))
 have P1':iy l (Gx f) (Yz f h) (Vz f h) (Hl (bA f h.At.toNat).Ops++Hl (Ef f h.Then)):=P1;have P2':(bA f h.At.toNat).Ops <+: (Vz f h).1:=P2;have ho12:∀ v∈Hl (bA f h.At.toNat).Ops++Hl (Ef f h.Then),v<=Gx f:=λv hv=>o2 v (zzL8.2 (.inl hv))
 obtain⟨Q1,Q2,Q3⟩:iy l (Gx f) (Yz f h) (HZ f h) (Hl (bA f h.At.toNat).Ops++Hl (Ef f h.Then))/\(Vz f h).1 <+: (HZ f h).1/\(LJ (Ef f h.Else)=true->Got (Yz f h) (HZ f h).1 (OG f h) (1,1)):=by
  cases ha:LJ (Ef f h.Else) with
  | false=>
   have e:HZ f h=Vz f h:=by unfold HZ;rw[ha];rfl
   rw[e];exact⟨P1',List.prefix_refl _,λh=>by cases h⟩
  | true=>
   have e:HZ f h=Do (Do (Vz f h) 0 1 1 []) 7 1 0 [(bA f h.At.toNat).End.Arg,(Do (Vz f h) 0 1 1 []).2]:=by unfold HZ;rw[ha];rfl
   have e1:=Y3 (s:=Vz f h) (by omega) (by omega) 0 1 1 [];have e2:=Y3 (s:=Do (Vz f h) 0 1 1 []) (by omega) (by omega) 7 1 0 [(bA f h.At.toNat).End.Arg,(Do (Vz f h) 0 1 1 []).2];rw[<- e]at e2;obtain⟨A1,A2,A3,A4⟩:=Y4 hl hL hO P1' ho12 (by omega) (k:=0) (b:=1) (m:=1) (az:=[]) (WX hl rfl rfl (d9 (by omega) (by omega))) (λj hj=>by cases hj);have gA:=A4 (by decide);rw[<- e1]at gA;have gC:=(ae8.more P2').more A3
   obtain⟨B1,B2,B3,B4⟩:=Y4 hl hL hO A1 ho12 (by omega) (k:=7) (b:=1) (m:=0) (az:=[(bA f h.At.toNat).End.Arg,(Do (Vz f h) 0 1 1 []).2]) (uV hl (.inr rfl) (SP hl hL hO A1.fine gC) (SP hl hL hO A1.fine gA) (d9 (by omega) (by omega))) (λj hj=>by
    have:j=0\/j=1:=by simp at hj;omega
    rcases this with rfl|rfl
    ·exact gC
    ·exact gA)
   rw[e];refine⟨B1,A3.trans B3,λ_=>?_⟩
   have en:OG f h=(Do (Vz f h) 0 1 1 []).2+1:=by unfold OG;rw[ha,Ah,e2]
   rw[en];exact B4 (by decide)
 have hp2:(bA f h.At.toNat).Ops <+: (HZ f h).1:=P2'.trans Q2;obtain⟨S1,S2,S3⟩:=OU hl hL hO (OG f h) (HZ f h).1 (Ef f h.Else) [] Q1 ho12 (List.prefix_refl _) (λo ho=>by cases ho) (by omega) (by show(Zt f h).2<=1023;omega)
  (λo ho=>⟨(tE o ho).1,(tE o ho).2,λhk=>Q3 (List.any_eq_true.2 ⟨o,ho,by rw[hk];rfl⟩)⟩) o1 (λv hv=>o2 v (zzL8.2 (.inr hv))) (WR hl H R (.inr rfl) hp2)
 refine⟨S1,hp2.trans S2,λo ho hg=>?_,by omega⟩;rcases zzL8.1 ho with h|h
 ·exact((P3 o (by simpa using h) hg).more Q2).more S2
 ·exact S3 o (by simpa using h) hg
theorem MK:iy l (Gx f) (Yz f h) (Uz f h).2 (yE f h)/\(bA f h.At.toNat).Ops <+: (Uz f h).2.1/\∃ vs:List Int,vs.length=(bA f h.Join.toNat).Phis.length/\(Uz f h).1=List.zipWith (Za f.Blocks.length h) (bA f h.Join.toNat).Phis vs/\∀ k,k<(bA f h.Join.toNat).Phis.length->Got (Yz f h) (Uz f h).2.1 (vs.getD k 0) (((bA f h.Join.toNat).Phis.getD k default).Bits,1):=by
 have hJ:=Lm H;have hA:=at_ltN H;have hO:=nG hl H R;obtain⟨hL,hL2⟩:=UO H.R.ok;obtain⟨S1,S2,S3,S4⟩:=uK hl H R hc h2 hm;have ae8 :=(jm hl H R (ft hl H R) rfl).more S2
 have am4:∀ p∈(bA f h.Join.toNat).Phis,∀ x:Int,(x=h.Then\/x=h.Else)->Ci h x∈BV f h.Join.toNat->Got (Yz f h) (Zt f h).1 (U1 p (Ci h x)) (p.Bits,1):=λp hp x hx hin=>by
  obtain⟨p1,p2,p3,p4,p5⟩:=Ru H hc hJ.1 hp;rw[<- p1]at hin;obtain⟨j,hj,e⟩:=H8 hin
  have ej:p.From.getD j 0=Ci h x:=by rw[Ad _ _ _ hj];exact e
  rw[<- ej,TM p2 hj];obtain⟨k,hk,rfl⟩:=H8 hp;have ek:(bA f h.Join.toNat).Phis.getD k default=(bA f h.Join.toNat).Phis[k]:=Ad _ _ _ hk
  have hu :=
   (CA (b8 hl H R)).2 ⟨_,hJ.1,.inl ⟨k,j,hk,by rw[ek];omega,by rw[ek]⟩⟩
  rcases side_is hl H R hx with⟨e1,_⟩|⟨hkx,hlt,hxx,e1,hne⟩
  ·refine(jm hl H R hu ?_).more S2;rw[ej,e1,hA.2];rfl
  ·have hb:(bA f h.Join.toNat).Phis[k].From.getD j 0=((x.toNat:Nat):Int):=by
    rw[ej,hxx];exact((EY H (sB hl H R) hx hxx).symm).trans hxx
   rcases use_here hl H R hu hlt hb (.inr hkx) with h1|⟨i,hi,_,e2,e3,e4⟩|⟨_,i,hi,_,e2,e3,e4⟩
   ·exact .inl h1
   ·exact Got.more (.inr ⟨_,Ag (d:=default) hi,e2,e3,e4⟩) S2
   ·grind
 obtain⟨o1,o2,o3,_⟩:=VM hl H R
 obtain⟨K1,K2,vs,K3,K4,K5⟩:=nK hl hL hO o2 ae8 (bA f h.Join.toNat).Phis (s:=([],Zt f h)) S1 (List.prefix_refl _) S4 h2 (λp hp=>by
  have hty:=R.typed;simp only[Rk,G0,Az,zzL21]at hty
  exact⟨(hty.1.2 _ (Ag (d:=default) hJ.1)).1 p hp,am4 p hp _ (.inl rfl) H.thenJ,am4 p hp _ (.inr rfl) H.elseJ⟩)
 exact⟨K1,S2.trans K2,vs,K3,by rw[Vi]at K4;exact K4,K5⟩
end
def jD(b:Ab):List Int:=b.Phis.map (·.Dst)++Hl b.Ops
theorem cA{β:Type}(l:List α)(d:α)(F:α->β):(List.range l.length).map (λk=>F (l.getD k d))=l.map F:=by
 apply JI
 ·simp
 ·grind
theorem o7(l:List A0):l.flatMap (λo=>bif decide (0<(Bn o).1) then[o.Dst] else[])=Hl l:=by
 induction l with
 | nil=>rfl
 | cons o l ih=>
  rw[KL,ih];unfold Hl
  by_cases h:0<(Bn o).1<;>simp[h]
theorem xL(b:Ab)(i:Nat):(Si b i).map (·.V)=jD b:=by
 unfold Si jD Sk X9;rw[AA,List.map_flatMap,List.map_flatMap]
 congr 1
 ·show(List.range _).flatMap (λk=>[(b.Phis.getD k _).Dst])=_
  rw[<- List.map_eq_flatMap];exact cA _ _ _
 ·rw[<- o7,List.flatMap_def]
  congr 1
  rw[<- cA b.Ops _];refine PC λk hk=>?_
  cases decide (0<(Bn _).1)<;>rfl
theorem fw(g:AI):(Aw g).map (·.V)=(List.range g.Params.length).map (λi:Nat=>(i:Int)+1)++(List.range g.Blocks.length).flatMap (λy=>jD (bA g y)):=by
 unfold Aw Sj;rw[AA,List.map_flatMap,List.map_flatMap]
 congr 1
 ·rw[List.map_eq_flatMap];rfl
 ·rw[List.flatMap_def]
  congr 1
  exact PC λy _=>xL _ y
theorem nodup_split(g:AI):((Aw g).map (·.V)).Nodup↔(∀ y,y<g.Blocks.length->(jD (bA g y)).Nodup)/\(∀ y z,y<g.Blocks.length->z<g.Blocks.length->y≠z->∀ v∈jD (bA g y),v∉jD (bA g z))/\(∀ i:Nat,i<g.Params.length->∀ y,y<g.Blocks.length->((i:Int)+1)∉jD (bA g y)):=by
 rw[fw,List.nodup_append,List.nodup_iff_pairwise_ne (l:=List.flatMap _ _),List.pairwise_flatMap]
 have hP:((List.range g.Params.length).map (λi:Nat=>(i:Int)+1)).Nodup:=by
  rw[List.nodup_iff_pairwise_ne,List.pairwise_map];exact List.Pairwise.imp (λ{a b} h=>by omega) List.pairwise_lt_range
 constructor
 ·rintro⟨_,⟨h1,h2⟩,h3⟩;refine⟨λy hy=>List.nodup_iff_pairwise_ne.2 (h1 y (zzL41.2 hy)),?_,λi hi y hy hv=>h3 _ (zzL16.2 ⟨i,zzL41.2 hi,rfl⟩) _ (zzL54.2 ⟨y,zzL41.2 hy,hv⟩) rfl⟩
  have key:∀ y z,y<z->z<g.Blocks.length->∀ v∈jD _,v∉jD _:=λy z hyz hz v h4 h5=>by
   have:=(zzL78.1 h2) y z (by simp;omega) (by simpa using hz) hyz;simp only[List.getElem_range]at this;exact this v h4 v h5 rfl
  intro y z hy hz hne v h4 h5;rcases Nat.lt_or_gt_of_ne hne with e|e
  ·grind
  ·grind
 ·rintro⟨h1,h2,h3⟩;refine⟨hP,⟨λy hy=>List.nodup_iff_pairwise_ne.1 (h1 y (zzL41.1 hy)),?_⟩,λa ha b hb hab=>?_⟩
  ·refine List.Pairwise.imp_of_mem (λ{a b} ha hb hab v hv w hw e=>?_) (List.pairwise_lt_range );exact h2 a b (zzL41.1 ha) (zzL41.1 hb) (by omega) v hv (e▸hw)
  ·grind
theorem Acc{y:Nat}(hy:y<g.Blocks.length)(hv:v∈jD (bA g y)):∃ d∈Aw g,d.V=v:=by
 have:v∈(Aw g).map (·.V):=by rw[fw,zzL8];exact .inr (zzL54.2 ⟨y,zzL41.2 hy,hv⟩)
 exact zzL16.1 this
section
variable {f:AI} {h:AT} {l:Int} (hl:l=1\/l=2) (H:Hm f h) (R:qy f l) (hc:Ue f=true) (h2:(Uz f h).2.2<=1023) (hm:(Vu f h).all (λo=>o.Lanes==1)=true)
include hl H R hc h2 hm
theorem gH{x:Nat}(hx:x<f.Blocks.length)(hk:Bk h x=true):(bA (Cs f h) (posH h x)).Ops=if x=h.At.toNat then(Uz f h).2.1 else(bA f x).Ops:=by
 rw[(Hb H hx hk).2.2];have ha:=(at_ltN H).2;unfold KB Vm
 by_cases e:x=h.At.toNat
 ·grind
 ·grind
theorem Abi{x:Nat}(hx:x<f.Blocks.length)(hk:Bk h x=true):(bA (Cs f h) (posH h x)).Phis=(if x=h.Join.toNat then(Uz f h).1 else(bA f x).Phis).map (We h):=by
 rw[(Hb H hx hk).2.2];have hj:=(Lm H).2;have hja:=H.jne;unfold KB Vm
 by_cases e:x=h.At.toNat
 ·grind
 ·grind
theorem iI{x:Nat}(hx:x<f.Blocks.length)(hk:k<(bA f x).Phis.length)(hj:j<((bA f x).Phis.getD k default).Args.length):(⟨((bA f x).Phis.getD k default).Args.getD j 0,((bA f x).Phis.getD k default).From.getD j 0,1000,(((bA f x).Phis.getD k default).Bits,1)⟩:Dz)∈Bl f:=
 (CA (b8 hl H R)).2 ⟨x,hx,.inl ⟨k,j,hk,hj,rfl⟩⟩
theorem bX{x:Nat}(hx:x<f.Blocks.length)(hk:Bk h x=true):(bA (Cs f h) (posH h x)).Phis.length=(bA f x).Phis.length/\∀ k,k<(bA f x).Phis.length->∃ q,(bA (Cs f h) (posH h x)).Phis.getD k default=q/\q.Dst=((bA f x).Phis.getD k default).Dst/\q.Bits=((bA f x).Phis.getD k default).Bits/\q.From=BV (Cs f h) (posH h x)/\q.Args.length=q.From.length /\
  ∀ j,j<q.Args.length->∃ b:Nat,b<f.Blocks.length/\Bk h b=true/\q.From.getD j 0=(posH h b:Int)/\((b=h.At.toNat/\Got (Yz f h) (Uz f h).2.1 (q.Args.getD j 0) (q.Bits,1))\/(b≠h.At.toNat/\(⟨q.Args.getD j 0,(b:Int),1000,(q.Bits,1)⟩:Dz)∈Bl f)):=by
 have hs:=sB hl H R;have hA:=at_ltN H;have hJ:=Lm H;have hg:=Abi hl H R hc h2 hm hx hk
 by_cases e:x=h.Join.toNat
 ·subst e;obtain⟨_,_,vs,K3,K4,K5⟩:=MK hl H R hc h2 hm;rw[if_pos rfl,K4]at hg
  have IT:(bA (Cs f h) (posH h h.Join.toNat)).Phis.length=(bA f h.Join.toNat).Phis.length:=by rw[hg,F2,List.length_zipWith,K3];simp
  refine⟨IT,λk hk'=>?_⟩;have hp:=Ag (d:=(default:A8)) hk';obtain⟨p1,p2,p3,p4,p5⟩:=Ru H hc hx hp
  have eq:(bA (Cs f h) (posH h h.Join.toNat)).Phis.getD k default=We h (Za f.Blocks.length h ((bA f h.Join.toNat).Phis.getD k default) (vs.getD k 0)):=by
   rw[hg,Ad _ _ _ (by rw[F2,List.length_zipWith,K3];simpa using hk'),List.getElem_map,List.getElem_zipWith,Ad _ _ _ hk',Ad _ _ _ (by omega)]
  generalize hpp:(bA f h.Join.toNat).Phis.getD k default=p at *
  refine⟨_,eq,rfl,rfl,(xS H hs p1).symm,by show(List.map _ (Qk _ h p)).length=(List.map _ (Qk _ h p)).length;rw[F2,F2],λj hj=>?_⟩
  have hj':j<(Qk f.Blocks.length h p).length:=by
   have:j<(List.map (λx=>bif x==h.At then vs.getD k 0 else U1 p x) (Qk f.Blocks.length h p)).length:=hj;rwa[F2]at this
  have hz:=Ag (d:=(0:Int)) hj'
  have eF:(We h (Za f.Blocks.length h p (vs.getD k 0))).From.getD j 0=Ho h ((Qk f.Blocks.length h p).getD j 0):=by
   show(List.map (Ho h) (Qk f.Blocks.length h p)).getD j 0=_
   rw[Ad _ _ _ (by rw[F2];exact hj'),List.getElem_map,Ad _ _ _ hj']
  have eA:(We h (Za f.Blocks.length h p (vs.getD k 0))).Args.getD j 0=(bif (Qk f.Blocks.length h p).getD j 0==h.At then vs.getD k 0 else U1 p ((Qk f.Blocks.length h p).getD j 0)):=by
   show(List.map (λx=>bif x==h.At then vs.getD k 0 else U1 p x) (Qk f.Blocks.length h p)).getD j 0=_
   rw[Ad _ _ _ (by rw[F2];exact hj'),List.getElem_map,Ad _ _ _ hj']
  rw[eF,eA];obtain⟨b,hb,eb⟩:=zzL16.1 hz;obtain⟨hbr,hkp⟩:=zzL73.1 hb;rw[zzL41]at hbr;rw[<- eb];unfold Zb at hkp;simp only[W1,Az,zzL34,zzL65,ne_eq]at hkp
  by_cases e:b=h.At.toNat
  ·refine⟨b,hbr,by rw[e];exact Qt H,(Hb H hbr (by rw[e];exact Qt H)).1.symm,.inl ⟨e,?_⟩⟩;rw[show(Int.ofNat b==h.At)=true by rw[zzL34];show(b:Int)=h.At;omega,Ah];have:=K5 k hk';rw[hpp]at this;exact this
  ·have hA':¬ ((b:Int)=h.At):=by omega
   obtain⟨e1,e2,e3⟩:(¬ (b:Int)=Ci h h.Then)/\(¬ (b:Int)=Ci h h.Else)/\p.From.contains (b:Int)=true:=by
    rcases hkp with h|⟨h1,h2,h3⟩
    ·exact absurd h hA'
    ·exact⟨h1,h2,h3⟩
   have hkb:Bk h b=true:=by
    rw[O4];exact⟨λe=>e1 (EY H hs (.inl rfl) e),λe=>e2 (EY H hs (.inr rfl) e)⟩
   refine⟨b,hbr,hkb,(Hb H hbr hkb).1.symm,.inr ⟨e,?_⟩⟩;rw[show(Int.ofNat b==h.At)=false by rw[zzL30];exact hA',Ar];have hbm:(b:Int)∈p.From:=zzL60.1 e3;obtain⟨i,hi,ei⟩:=H8 hbm
   have ei':p.From.getD i 0=(b:Int):=by rw[Ad _ _ _ hi];exact ei
   show(⟨U1 p (b:Int),(b:Int),1000,(p.Bits,1)⟩:Dz)∈Bl f
   rw[<- ei',TM p2 hi];have:=iI hl H R hc h2 hm hx hk' (j:=i) (by rw[hpp];omega);rw[hpp]at this;exact this
 ·rw[if_neg e]at hg;refine⟨by rw[hg,F2],λk hk'=>?_⟩;have hp:=Ag (d:=(default:A8)) hk';obtain⟨p1,p2,p3,p4,p5⟩:=Ru H hc hx hp
  have eq:(bA (Cs f h) (posH h x)).Phis.getD k default=We h ((bA f x).Phis.getD k default):=by
   rw[hg,Ad _ _ _ (by rw[F2];exact hk'),List.getElem_map,Ad _ _ _ hk']
  have hu:=λj (hj:j<((bA f x).Phis.getD k default).Args.length)=>iI hl H R hc h2 hm hx hk' hj
  generalize (bA f x).Phis.getD k default=p at *
  refine⟨_,eq,rfl,rfl,by rw[xR H hs hx hk e,<- p1];rfl,by show p.Args.length=(List.map _ p.From).length;rw[F2];exact p4,λj hj=>?_⟩;have hj':j<p.Args.length:=hj;have hz:=Ag (d:=(0:Int)) (show j<p.From.length by omega);have hz':=hz;rw[p1]at hz';obtain⟨b,eb,hb,hn⟩:=(SW H hs hs hx).1 hz';rw[<- p1]at eb
  have hkb:Bk h b=true:=by
   apply GP
   intro hcc;have hn':=hn;unfold Nx at hn';rw[(Li H hcc).2.2.2.2.1,zzL10]at hn';omega
  have hbA:b≠h.At.toNat:=λe2=>by
   rw[e2]at hn;rcases at_next H hn with e3|e3
   ·exact e e3
   ·exact absurd hk e3
  refine⟨b,hb,hkb,?_,.inr ⟨hbA,?_⟩⟩
  ·show(List.map (Ho h) p.From).getD j 0=_
   rw[Ad _ _ _ (by rw[F2];omega),List.getElem_map,(Hb H hb hkb).1,<- eb,Ad _ _ _ (by omega)]
  ·have:=hu j hj';rw[eb]at this;exact this
theorem mv(hd:d∈Aw f)(hi:d.Block=(i:Int))(hk:Bk h i=true):∃ d'∈Aw (Cs f h),d'.V=d.V/\d'.Shape=d.Shape/\d'.Block=(posH h i:Int)/\d'.At=d.At:=by
 rcases ri_def.1 hd with⟨j,_,e⟩|⟨j,hj,h'⟩
 ·grind
 ·have hij:i=j:=by grind
  subst hij;have hpl:=(Hb H hj hk).2.1;rcases h' with⟨k,hk',e⟩|⟨k,hk',hg,e⟩
  ·obtain⟨g1,g2⟩:=bX hl H R hc h2 hm hj hk;obtain⟨q,e1,e2,e3,_⟩:=g2 k hk';refine⟨_,ri_def.2 (.inr ⟨_,hpl,.inl ⟨k,by rw[g1];exact hk',rfl⟩⟩),?_,?_,rfl,by rw[e]⟩
   ·rw[e1,e2,e]
   ·rw[e1,e3,e]
  ·have ho:=gH hl H R hc h2 hm hj hk
   have key:k<(bA (Cs f h) (posH h i)).Ops.length/\(bA (Cs f h) (posH h i)).Ops.getD k default=(bA f i).Ops.getD k default:=by
    by_cases ea:i=h.At.toNat
    ·rw[if_pos ea]at ho;obtain⟨_,⟨t,ht⟩,_⟩:=MK hl H R hc h2 hm;rw[ho,<- ht,ea];rw[ea]at hk';refine⟨by grind,?_⟩;rw[cR,W0 hk',<- cR]
    ·grind
   refine⟨_,ri_def.2 (.inr ⟨_,hpl,.inr ⟨k,key.1,by rw[key.2];exact hg,rfl⟩⟩),?_,?_,rfl,by rw[e]⟩
   ·rw[key.2,e]
   ·rw[key.2,e]
theorem te(hd:d∈Aw f)(hb:d.Block<0):d∈Aw (Cs f h):=by
 rcases ri_def.1 hd with⟨j,hj,e⟩|⟨j,hj,h'⟩
 ·exact ri_def.2 (.inl ⟨j,hj,e⟩)
 ·grind
theorem nI(hd:d∈Aw f){b:Nat}(hi:d.Block=(i:Int))(hin:i<f.Blocks.length)(hki:Bk h i=true)(hb:b<f.Blocks.length)(hkb:Bk h b=true)(hne:i≠b)(ho:P5 (Cu f) (i:Int) (b:Int)=true)(a:Int):∃ d'∈Aw (Cs f h),d'.V=d.V/\d'.Shape=d.Shape/\mI (Cs f h) d' (posH h b) a:=by
 obtain⟨d',m1,m2,m3,m4,m5⟩:=mv hl H R hc h2 hm hd hi hki;refine⟨d',m1,m2,m3,.inr (.inr ⟨?_,?_⟩)⟩
 ·rw[m4];intro e;have e1:=(Hb H hin hki).1;have e2:=(Hb H hb hkb).1;exact hne (FM H hki hkb (by rw[<- e1,<- e2,e]))
 ·rw[m4];exact Abh H (sB hl H R) hin hki hb hkb ho
theorem tr(hd:d∈Aw f){b:Nat}(hb:b<f.Blocks.length)(hkb:Bk h b=true)(ht:mI f d (b:Int) a):∃ d'∈Aw (Cs f h),d'.V=d.V/\d'.Shape=d.Shape/\mI (Cs f h) d' (posH h b) a:=by
 by_cases h0:d.Block<0
 ·exact⟨d,te hl H R hc h2 hm hd h0,rfl,rfl,.inl h0⟩
 ·obtain⟨i,hi,hin⟩:∃ i:Nat,d.Block=i/\i<f.Blocks.length:=by
   rcases ri_def.1 hd with⟨j,_,e⟩|⟨j,hj,h'⟩
   ·grind
   ·grind
  unfold mI at ht;rw[hi]at ht;rcases ht with h1|⟨h1,h2'⟩|⟨h1,h2'⟩
  ·omega
  ·have e:i=b:=by omega
   subst e;obtain⟨d',m1,m2,m3,m4,m5⟩:=mv hl H R hc h2 hm hd hi hkb;exact⟨d',m1,m2,m3,.inr (.inl ⟨m4,by rw[m5];exact h2'⟩)⟩
  ·have hne:i≠b:=by omega
   have hki :=GP λhcc=>VC H (sB hl H R) hcc hb (λe=>hne e.symm) h2';exact nI hl H R hc h2 hm hd hi hin hki hb hkb hne h2' a
theorem Ab3(ho:Yz f h v sh)(ha:0<=a):∃ d'∈Aw (Cs f h),d'.V=v/\d'.Shape=sh/\mI (Cs f h) d' (posH h h.At.toNat) a:=by
 have hA:=at_ltN H;obtain⟨d,hd,rfl,rfl,h1|⟨h1,h2'⟩|⟨b,h1,h2',h3,h4,h5⟩⟩:=ho
 ·exact⟨d,te hl H R hc h2 hm hd h1,rfl,rfl,.inl h1⟩
 ·obtain⟨d',m1,m2,m3,m4,m5⟩:=mv hl H R hc h2 hm hd  (by omega) (Qt H);exact⟨d',m1,m2,m3,.inr (.inl ⟨m4,by  omega⟩)⟩
 ·exact nI hl H R hc h2 hm hd h1 h2' h4 hA.1 (Qt H) h3 h5 a
theorem sb(hg:Got (Yz f h) ((Uz f h).2.1.take k) v sh):∃ d'∈Aw (Cs f h),d'.V=v/\d'.Shape=sh/\mI (Cs f h) d' (posH h h.At.toNat) (k:Int):=by
 have hA:=at_ltN H;rcases hg with h1|⟨o,ho,rfl,rfl,hp⟩
 ·exact Ab3 hl H R hc h2 hm h1 (by omega)
 ·obtain⟨i,hi,e⟩:=List.mem_take_iff_getElem.1 ho;have hop:=gH hl H R hc h2 hm hA.1 (Qt H);rw[if_pos rfl]at hop
  have hil:i<(Uz f h).2.1.length:=by omega
  have eo:(bA (Cs f h) (posH h h.At.toNat)).Ops.getD i default=o:=by grind
  exact⟨_,ri_def.2 (.inr ⟨_,(Hb H hA.1 (Qt H)).2.1,.inr ⟨i,by rw[hop];exact hil,by rw[eo];exact hp,rfl⟩⟩),by rw[eo],by rw[eo],.inr (.inl ⟨rfl,by grind⟩)⟩
theorem j9:∀ b∈(Cs f h).Blocks,∀ o∈b.Ops,Cn l o=true:=λb hb o ho=>by
 obtain⟨y,hy,rfl⟩:=H8 hb;obtain⟨x,hx,hk,rfl⟩:=U7 H hy;have e:(Cs f h).Blocks[posH h x]=bA _ _:=(Ad _ _ _ hy).symm;rw[e,gH hl H R hc h2 hm hx hk]at ho
 split at ho
 ·exact(MK hl H R hc h2 hm).1.fine.typed o ho
 ·exact MR R (Ag  hx) ho
theorem mf(hmay:R6 (Cs f h)=true)(hok:OkF (Cs f h)):qy (Cs f h) l:=by
 have hs:=sB hl H R;have hA:=at_ltN H;have hJ:=Lm H;have hgs:=FD H hs;obtain⟨PF,PP,_⟩:=MK hl H R hc h2 hm;have hty:=j9 hl H R hc h2 hm
 have hvs:∀ x,x<f.Blocks.length->Bk h x=true->jD (bA (Cs f h) (posH h x))=(bA f x).Phis.map (·.Dst)++Hl (if x=h.At.toNat then(Uz f h).2.1 else(bA f x).Ops):=λx hx hk=>by
  unfold jD;rw[gH hl H R hc h2 hm hx hk]
  congr 1
  obtain⟨g1,g2⟩:=bX hl H R hc h2 hm hx hk
  apply JI
  ·rw[F2,F2,g1]
  ·intro i h1 h2';rw[F2]at h1 h2';obtain⟨q,e1,e2,_⟩:=g2 i h2';rw[List.getElem_map,List.getElem_map,<- Ad _ _ _ h1,<- Ad _ _ _ h2',e1,e2]
 obtain⟨N1,N2,N3⟩:=(nodup_split f).1 (TV (SY R).1);obtain⟨o1,o2,o3,o4⟩:=VM hl H R
 have hle:∀ x,x<f.Blocks.length->∀ v∈jD (bA f x),v<=Gx f:=λx hx v hv=>by
  obtain⟨d,hd,rfl⟩:=Acc hx hv;exact NS hd
 have ak5:∀ x,x<f.Blocks.length->Bk h x=true->∀ v∈jD (bA (Cs f h) (posH h x)),Gx f<v/\x=h.At.toNat\/∃ b,b<f.Blocks.length/\(b=x\/(x=h.At.toNat/\¬ Bk h b=true))/\v∈jD (bA f b):=λx hx hk v hv=>by
  rw[hvs x hx hk]at hv;rcases zzL8.1 hv with h1|h1
  ·exact .inr ⟨x,hx,.inl rfl,zzL8.2 (.inl h1)⟩
  ·split at h1
   ·rename_i ea
    rcases PF.old v h1 with⟨h3,_⟩|h3
    ·exact .inl ⟨h3,ea⟩
    ·obtain⟨b,hb,hcb,hv⟩:=o4 v h3;refine .inr ⟨b,hb,?_,zzL8.2 (.inr hv)⟩;rcases hcb with e|e
     ·exact .inl (by omega)
     ·exact .inr ⟨ea,e⟩
   ·exact .inr ⟨x,hx,.inl rfl,zzL8.2 (.inr h1)⟩
 have hparam:∀ i:Nat,i<f.Params.length->(i:Int)+1<=Gx f:=λi hi=>NS (d:=⟨(i:Int)+1,-1,0,(f.Params.getD i 0,1)⟩) (ri_def.2 (.inl ⟨i,hi,rfl⟩))
 have hrest:WF (Cs f h)=0:=by
  refine kv ((nodup_split _).2 ⟨λy hy=>?_,λy z hy hz hne v hv hw=>?_,λi hi y hy hv=>?_⟩) (λd hd=>?_) (λu hu=>?_)
  ·obtain⟨x,hx,hk,rfl⟩:=U7 H hy;rw[hvs x hx hk]
   by_cases ea:x=h.At.toNat
   ·rw[if_pos ea,List.nodup_append];have hn1:=N1 x hx;unfold jD at hn1;rw[List.nodup_append]at hn1;refine⟨hn1.1,PF.nd,λa ha b hb hab=>?_⟩;rcases PF.old b hb with⟨h3,_⟩|h3
    ·have:=hle x hx a (zzL8.2 (.inl ha));omega
    ·obtain⟨c,hcn,hcb,hv⟩:=o4 b h3
     by_cases ec:c=x
     ·subst ec;exact hn1.2.2 a ha b hv hab
     ·exact N2 x c hx hcn (λe=>ec e.symm) a (zzL8.2 (.inl ha)) (hab▸zzL8.2 (.inr hv))
   ·rw[if_neg ea];exact N1 x hx
  ·obtain⟨x,hx,hkx,rfl⟩:=U7 H hy;obtain⟨w,hw',hkw,rfl⟩:=U7 H hz;have hxw:x≠w:=λe=>hne (by rw[e]);rcases ak5 x hx hkx v hv with⟨h3,ex⟩|⟨b,hb,hcb,hvb⟩
   ·rcases ak5 w hw' hkw v hw with⟨_,ew⟩|⟨c,hc',hcc,hvc⟩
    ·omega
    ·have:=hle c hc' v hvc;omega
   ·rcases ak5 w hw' hkw v hw with⟨h3,ew⟩|⟨c,hc',hcc,hvc⟩
    ·have:=hle b hb v hvb;omega
    ·refine N2 b c hb hc' ?_ v hvb hvc;intro e;rcases hcb with e1|⟨e1,e2⟩<;>rcases hcc with e3|⟨e3,e4⟩
     ·omega
     ·rw[<- e,e1]at e4;exact e4 hkx
     ·rw[e,e3]at e2;exact e2 hkw
     ·omega
  ·obtain⟨x,hx,hk,rfl⟩:=U7 H hy;have hi':i<f.Params.length:=hi;rcases ak5 x hx hk _ hv with⟨h3,_⟩|⟨b,hb,_,hvb⟩
   ·have:=hparam i hi';omega
   ·exact N3 i hi' b hb hvb
  ·rcases ri_def.1 hd with⟨i,hi,e⟩|⟨y,hy,h'⟩
   ·rw[e];exact kx R (d:=⟨(i:Int)+1,-1,0,(f.Params.getD i 0,1)⟩) (ri_def.2 (.inl ⟨i,hi,rfl⟩))
   ·obtain⟨x,hx,hk,rfl⟩:=U7 H hy;rcases h' with⟨k,hk',e⟩|⟨k,hk',hg,e⟩
    ·obtain⟨g1,g2⟩:=bX hl H R hc h2 hm hx hk;rw[g1]at hk';obtain⟨q,e1,e2,_⟩:=g2 k hk';rw[e]
     show valS ((bA (Cs f h) (posH h x)).Phis.getD k default).Dst=true
     rw[e1,e2];exact kx R (ri_def.2 (.inr ⟨x,hx,.inl ⟨k,hk',rfl⟩⟩))
    ·rw[e];exact bZ (T9 (hty _ (Ag (d:=default) hy) _ (Ag (d:=default) hk'))) hg
  ·obtain⟨y,hy,ad7⟩:=(CA λb hb o ho=>T9 (hty b hb o ho)).1 hu;obtain⟨x,hx,hk,rfl⟩:=U7 H hy
   have viaF:∀{w:Dz} {b:Nat} {a:Int},w∈Bl f->b<f.Blocks.length->Bk h b=true->w.Block=(b:Int)->w.At=a->∃ d∈Aw (Cs f h),d.V=w.V/\d.Shape=w.Shape/\mI (Cs f h) d (posH h b) a:=λ{w b a} hw hb hkb e1 e2=>by
    obtain⟨d,hd,hv,hsh,ht⟩:=uE R hw;rw[e1,e2]at ht;obtain⟨d',m1,m2,m3,m4⟩:=tr hl H R hc h2 hm hd hb hkb ht;exact⟨d',m1,m2.trans hv,m3.trans hsh,m4⟩
   rcases ad7 with⟨k,j,hk',hj,e⟩|⟨k,j,hk',hj,e⟩|⟨hK,e⟩|⟨hK,e⟩
   ·obtain⟨g1,g2⟩:=bX hl H R hc h2 hm hx hk;rw[g1]at hk';obtain⟨q,e1,e2,e3,e4,e5,e6⟩:=g2 k hk';rw[e1]at e hj;obtain⟨b,hb,hkb,eF,ad7⟩:=e6 j hj;rw[e]
    show ∃ d∈Aw (Cs f h),d.V=q.Args.getD j 0/\d.Shape=(q.Bits,1)/\mI (Cs f h) d (q.From.getD j 0) 1000
    rw[eF];rcases ad7 with⟨eb,hgot⟩|⟨eb,hu'⟩
    ·rw[eb];have IT:(Uz f h).2.1.take (Uz f h).2.1.length=(Uz f h).2.1:=RH;have:=sb hl H R hc h2 hm (k:=(Uz f h).2.1.length) (by rw[IT];exact hgot);obtain⟨d',m1,m2,m3,m4⟩:=this;refine⟨d',m1,m2,m3,?_⟩;rcases m4 with h1|⟨h1,h2'⟩|h1
     ·exact .inl h1
     ·refine .inr (.inl ⟨h1,?_⟩);rcases defs_in hok d' m1 with h3|⟨_,_,h3⟩
      ·rw[h3]at h1;exact absurd h1 (by omega)
      ·exact h3
     ·exact .inr (.inr h1)
    ·exact viaF hu' hb hkb rfl rfl
   ·rw[e]
    show ∃ d∈Aw (Cs f h),d.V=((bA (Cs f h) (posH h x)).Ops.getD k default).Args.getD j 0/\d.Shape=Ig ((bA (Cs f h) (posH h x)).Ops.getD k default) j/\mI (Cs f h) d (posH h x) (k:Int)
    rw[gH hl H R hc h2 hm hx hk]at hk' hj ⊢
    by_cases ea:x=h.At.toNat
    ·rw[if_pos ea]at hk' hj ⊢;rw[ea];exact sb hl H R hc h2 hm (PF.fine.args k hk' j hj)
    ·rw[if_neg ea]at hk' hj ⊢;exact viaF (dl hl H R hx hk' hj) hx hk rfl rfl
   ·rw[e];obtain⟨t1,t2,t3⟩:=uQ H hx hk;rw[t1]at hK
    show ∃ d∈Aw (Cs f h),d.V=(bA (Cs f h) (posH h x)).End.Arg/\d.Shape=(f.Ret,1)/\mI (Cs f h) d (posH h x) 1000
    rw[t2]
    by_cases ea:x=h.At.toNat
    ·rw[if_pos ea]at hK;exact absurd hK (by decide)
    ·rw[if_neg ea]at hK ⊢;exact viaF ((CA (b8 hl H R)).2 ⟨x,hx,.inr (.inr (.inl ⟨hK,rfl⟩))⟩) hx hk rfl rfl
   ·rw[e];obtain⟨t1,t2,t3⟩:=uQ H hx hk;rw[t1]at hK
    show ∃ d∈Aw (Cs f h),d.V=(bA (Cs f h) (posH h x)).End.Arg/\d.Shape=(1,1)/\mI (Cs f h) d (posH h x) 1000
    rw[t2]
    by_cases ea:x=h.At.toNat
    ·rw[if_pos ea]at hK;exact absurd hK (by decide)
    ·rw[if_neg ea]at hK ⊢;exact viaF ((CA (b8 hl H R)).2 ⟨x,hx,.inr (.inr (.inr ⟨hK,rfl⟩))⟩) hx hk rfl rfl
 refine⟨hmay,?_,?_,hrest⟩
 ·unfold Eg;rw[hgs,Kd,zzL21];intro y hy;rw[zzL41]at hy;obtain⟨x,hx,hk,rfl⟩:=U7 H hy;have hf:=R.shape;unfold Eg at hf;rw[Az]at hf;have hfx:=oZ hf.2 x hx;unfold Mf at hfx ⊢;simp only[Az]at hfx ⊢;obtain⟨⟨f1,f2⟩,f3⟩:=hfx;obtain⟨t1,t2,t3⟩:=uQ H hx hk;refine⟨⟨?_,?_⟩,?_⟩
  ·exact(iT (Ey hgs) (by omega) _).2 ((dI H hs ((iT (Ey hs) (by omega) _).1 f1)).2.1 hk)
  ·have t1':((Cs f h).Blocks.getD (posH h x) default).End.Kind=_:=t1;have t2':((Cs f h).Blocks.getD (posH h x) default).End.Arg=_:=t2;rw[t1',t2']
   by_cases ea:x=h.At.toNat
   ·rw[if_pos ea,if_pos ea];rfl
   ·rw[if_neg ea,if_neg ea];exact f2
  ·rw[zzL21];intro q hq;obtain⟨k,hk',rfl⟩:=H8 hq;obtain⟨g1,g2⟩:=bX hl H R hc h2 hm hx hk
   have hk'':k<(bA f x).Phis.length:=by rw[<- g1];exact hk'
   obtain⟨q,e1,e2,e3,e4,e5,e6⟩:=g2 k hk''
   have eq:((Cs f h).Blocks.getD (posH h x) default).Phis[k]=q:=by rw[<- e1];exact(Ad _ _ _ hk').symm
   rw[eq];unfold Ju;rw[Az,Hs,zzL34];exact⟨e4,by rw[e5,e4];rfl⟩
 ·have ht:=R.typed;simp only[Rk,G0,Az,zzL21]at ht ⊢;refine⟨⟨ht.1.1,λb hb=>⟨λp hp=>?_,hty b hb⟩⟩,ht.2⟩;obtain⟨y,hy,rfl⟩:=H8 hb;obtain⟨x,hx,hk,rfl⟩:=U7 H hy;have e:(Cs f h).Blocks[posH h x]=bA (Cs f h) (posH h x):=(Ad _ _ _ hy).symm;rw[e]at hp;obtain⟨k,hk',rfl⟩:=H8 hp;obtain⟨g1,g2⟩:=bX hl H R hc h2 hm hx hk
  have hk'':k<(bA f x).Phis.length:=by rw[<- g1];exact hk'
  obtain⟨q,e1,e2,e3,_⟩:=g2 k hk'';rw[<- Ad _ _ default hk',e1,e3];exact(ht.1.2 _ (Ag (d:=default) hx)).1 _ (Ag hk'')
end
theorem bD{l:Int}(hl:l=1\/l=2)(ab9:Int):∀(n:Nat) (f:AI),vX f->qy f 2->qy f l->f.Blocks.length<=n->
  vX (allM n f ab9)/\qy (allM n f ab9) 2/\qy (allM n f ab9) l/\Vf (allM n f ab9) ab9=none/\(allM n f ab9).Blocks.length<=f.Blocks.length
 | 0,f,hN,h2,_,hn=>by
  have:=h2.shape;unfold Eg at this;rw[Az]at this;have:=(shape_iff.1 this.1).1.1;omega
 | n+1,f,hN,h2,hr,hn=>by
  unfold allM
  cases h:Vf f _ with
  | none=>grind
  | some g=>
   obtain⟨v,hv,ho⟩:=nU h;have hi:=isHR_mem.2 hv
   have hc :=by unfold Mh at hi;rw[Az]at hi;exact hi.1
   have H:=mi (KC hN) hi;obtain⟨e,hmr,hm,hph,_⟩:=nD ho;obtain⟨_,_,_,_,_,hN',hlt⟩:=MU hN h;unfold S8 at hmr;rw[Az]at hmr;have hok:=nR (KC hN') hm;subst e;have k2:=mf (.inr rfl) H h2 hc hph hmr.2 hm hok;have kl:=mf hl H hr hc hph hmr.2 hm hok;obtain⟨a,b,c,d,e⟩:=bD hl _ n _ hN' k2 kl (by omega);exact⟨a,b,c,d,by grind⟩
theorem right15(f:AI)(ab9:Int)(hf:ZJ f):J1 f ab9=some true:=by
 have haw :=pJ;unfold J1;rw[haw,Am,D3,Ar];obtain⟨b,hb,hsm⟩:=pQ hf;rw[hb,Am]
 cases b with
 | false=>rfl
 | true=>
  obtain⟨hs,h16⟩:=hsm rfl;rw[D3,show((false:Bool)==false)=true from rfl,Ah,Xn hs,Am,Ar]
  cases hck:(E2 f 2 !=0) with
  | true=>rfl
  | false=>
   have h0:E2 f 2=0:=by grind
   have hc:Ue f=true:=by unfold Ue;rw[h0];rfl
   have hN:=tA hs h16 hc;have R2:=(SX (l:=2) (by omega)).1 h0;rw[Ar,Ad8 hs h16,Am,Xn hs,Am]
   obtain⟨l,hl,el,hr⟩:∃ l:Int,(l=1\/l=2)/\(bif E2 f 1==0 then some (1:Int) else some 2)=some l/\qy f l:=by
    cases h1:(E2 f 1==0) with
    | true=>exact⟨1,.inl rfl,rfl,(SX (l:=1) (by omega)).1 (eq_of_beq h1)⟩
    | false=>grind
   rw[el,Am];obtain⟨aN,a2,al,an,ale⟩:=bD hl ab9 f.Blocks.length f hN R2 hr (zzL7 _)
   generalize allM f.Blocks.length f ab9=g at *
   have gs:=KC aN;have gl:E2 g l=0:=(SX (by omega)).2 al
   have gc:Ue g=true:=by unfold Ue;rw[(SX (l:=2) (by omega)).2 a2];rfl
   rw[mT g l gs,Am,gl,show((0:Int)!=0)=false from rfl,Ar]
   have af5:∀ i,i<g.Blocks.length->Dh ab9 g (i:Int)=some _:=λi hi=>by
    have hhi:=aN.blocks;unfold Dh
    have hd:decide ((i:Int)<(g.Blocks.length:Int))=true:=by simpa using hi
    rw[hd,Ah,pM gs,Am,show w64 ((i:Int)+1)=((i+1:Nat):Int) by rw[F1 (by omega) (by omega)];omega]
    have e:AX g (i:Int)=(match FG g i with|some v=>(v,true)|none=>(zH,false)):=by
     unfold AX bT;rw[gc,Ah,if_pos (Ai hi),Ao]
     try cases FG g i<;>rfl
    rw[e]
    cases ho:FG g i with
    | none=>rfl
    | some v=>
     have hm:v∈allHR g:=by unfold allHR;rw[gc];exact mem_all.2 ⟨i,hi,ho⟩
     have hiv:=isHR_mem.2 hm;rw[D3,show((false:Bool)==false)=true from rfl,Ah,gp gs hiv,Am,Ar]
     cases hlt:decide (ab9<((Vu g v).length:Int)) with
     | true=>rfl
     | false=>
      rw[Ar,kR gs,Am]
      have hno :=by
       exact List.findSome?_eq_none_iff.1 an v hm
      unfold iA at hno;rw[hlt,Ar]at hno
      cases hz:((FL g v).2==0) with
      | true=>grind
      | false=>rfl
   have hend:Dh ab9 g (g.Blocks.length:Int)=some (.done (.inl ())):=by
    unfold Dh;rw[show decide _=false by simp];rfl
   rw[UT  g.Blocks default (λ_=>(none:Option Unit)) (λ_=>.inl ()) (.inl ()) _ (λi hi _=>af5 i hi) (λi hi b hq=>by cases hq) hend];rw[List.findSome?_eq_none_iff.2 λ_ _=>rfl,Am];rw[Da (by omega)]
end
end Go.Proofs.YthelaonnkkpbfaaGreat
