/-
  The machine, the program's functions and the laws' arithmetic: part 6 of 6.
-/
import Derived.Test.YtiendmljhgbjoaaGreatPk5
set_option linter.unusedSectionVars false
set_option linter.unusedVariables false
set_option linter.unusedSimpArgs false
namespace Go.Proofs.YtiendmljhgbjoaaGreat
noncomputable section
open Go Go.RowKit
theorem tj{α:Type}(l:List α)(d:α)(p:α->Bool){X:Type}(f:Int->Option (LR Int X))(yes no:X)(hl:l.length<9223372036854775808)(hk:∀ i:Nat,i<l.length->f i=some (bif p (l.getD i d) then .next (w64 ((i:Int)+1)) else .done no))
  (he:f l.length=some (.done yes)):Ad f (0:Int)=some (bif l.all p then yes else no):=by
 have:=Hh l d p f yes no (λi hi hp=>by rw[hk i hi,hp,Ac,A4 hi hl]) (λi hi hp=>by rw[hk i hi,hp,Ao]) he l.length 0 (by omega);rwa[Hw]at this
theorem uB(f:TFunc)(hf:dZ f)(l:Int)(t:List Int)(u:List Bm):Kk f l t u=some (bif Vf f then 0 else 4,f,l,t,u):=by
 unfold Kk M6;rw[yY f hf,Ai]
 cases Vf f<;>rfl
theorem jf(phis:List Ig)(l:List Int)(h1:phis.length<9223372036854775808)(h2:l.length<4611686018427387904):Ou phis l=some (phis.all (Hq l)):=by
 unfold Ou
 rw[tj phis (default:Ig) (Hq l) (L0 phis l) (.inl ()) (.inr false) h1 (λi hi=>by
  unfold L0
  have hd:decide ((i:Int)<(phis.length:Int))=true:=by simpa using hi
  simp only[hd,Ac,Ae (Aq hi),Ej,YD _ _ h2,Ai,Hq]
  cases decide ((phis.getD i default).From=l) with
  | false=>rfl
  | true=>
   simp only[Ds,Ao,Hx,bne]
   cases(((phis.getD i default).Args.length:Int)==(l.length:Int))<;>rfl) (by unfold L0;simp),Ai]
 cases phis.all (Hq l)<;>rfl
def XI(e:N6):Bool:=!((e.Kind==1 || e.Kind==3)&&(e.Arg !=0))
theorem jZ{n:Nat}(e:N6)(hk:Oe e n=true):L9 e=some (XI e):=by
 have h4:0<=e.Kind/\e.Kind<=3:=by
  have:=(Bc _ _▸hk:GD e=true/\oF n e.To=true).1;unfold GD at this;simp only[Bc,Ff]at this;omega
 unfold L9 XI
 have:e.Kind=0\/e.Kind=1\/e.Kind=2\/e.Kind=3:=by omega
 rcases this with h|h|h|h<;>rw[h]<;>cases hb:(e.Arg==0)<;>simp[hb,bne]
theorem e7{L:List (List Int)}(hm:Nq L=true){P:List Nat}(h0:0<L.length)(o:Ord (sN L) 0 P):decide (P.length<L.length) = !(List.range L.length).all λi=>(Nu L).getD i false:=by
 have hin:∀ x∈P,x<L.length:=λx hx=>(by obtain⟨Q,rfl,oo⟩:=o.ordered h0 (Yj hm);exact oo.lt hx)
 have hr:∀ z,(Nu L).getD z false=true↔z∈P:=λz=>by
  rw[o.mem z];exact GZ (Yj hm) h0 z
 have hle:=Q0 L.length P o.nodup hin
 cases ha:(List.range L.length).all λi=>(Nu L).getD i false with
 | true=>
  have:=((List.perm_ext_iff_of_nodup o.nodup List.nodup_range).2 λi=>⟨λh=>zzL44.2 (hin i h),λh=>(hr i).1 (zzL32.1 ha i h)⟩:P.Perm (List.range L.length)).length_eq;rw[DT]at this
  simp;omega
 | false=>
  obtain⟨i,hi,hni⟩:∃ i,i<L.length/\i∉P:=QY λhc=>by
   have:(List.range L.length).all (λi=>(Nu L).getD i false)=true:=zzL32.2 λi hi=>(hr i).2 (QY λhn=>hc ⟨i,by simpa using hi,hn⟩);rw[this]at ha;cases ha
  have:(i::P).length<=L.length:=Q0 L.length (i::P) (zzL82.2 ⟨hni,o.nodup⟩) (λx hx=>by rcases zzL26.1 hx with rfl|hx;exact hi;exact hin x hx);simp at this ⊢;omega
theorem mY {f : TFunc} (hf : OkF f) (l : Int) (t : List Int) (u : List Bm) : ∃ t', Jc f l t u = some (bif Ia f then 0 else 5, f, l, t', u) ∧ (Ia f = true → t' = Ch f) := by
  have hmax : f.Blocks.length ≤ maxLen := by have := hf.blocks; have : (64 : Nat) ≤ maxLen := by decide
                                             omega
  unfold Jc; rw [yU f hmax, Ai]
  cases hs : N8 f with
  | false => exact ⟨t, by unfold Ia; rw [hs]; rfl, fun h => by unfold Ia at h; rw [hs] at h; cases h⟩
  | true =>
    have hm := Ry hs; have hlen := AP f
    have hpos : 0 < (Ct f).length := by have := (shape_iff.1 hs).1.1; omega
    obtain ⟨h1, h2⟩ := GA hm; obtain ⟨P, hP⟩ := Ord.exist (Yj hm) hpos; have ho := (YE (Jw (Ct f)) h1 trivial 0).1 (bz hm) (by omega) (by show (0 : Int) < ((Ct f).length : Int); omega) P hP; have hfull := e7 hm hpos hP; simp only [Ac, show (((0 : Int) != 0) == false) = true from rfl, show ((0 : Int) != 0) = false from rfl, Ao, ho, Ai, show (false == false) = true from rfl]
    have e1 : decide (((Vi P).length : Int) < (f.Blocks.length : Int)) = decide (P.length < (Ct f).length) := by
      rw [hlen]; apply zzL60.2; simp [Vi]
    rw [e1, hfull]
    have hsd : Ia f = (((List.range f.Blocks.length).all fun i => (Nu (Ct f)).getD i false) && (List.range f.Blocks.length).all fun i => XI (f.Blocks.getD i default).End && (f.Blocks.getD i default).Phis.all (Hq ((Em (Ct f)).getD i []))) := by
      unfold Ia; rw [hs, Hx]
      have : ∀ (n : Nat) (p q : Nat → Bool), ((List.range n).all fun i => p i && q i) = ((List.range n).all p && (List.range n).all q) := fun n p q => by
        rw [Qm, Bc, zzL32, zzL32, zzL32]
        constructor
        · intro h; exact ⟨fun x hx => ((Bc _ _).mp (h x hx)).1, fun x hx => ((Bc _ _).mp (h x hx)).2⟩
        · intro h x hx; rw [Bc]; exact ⟨h.1 x hx, h.2 x hx⟩
      rw [← this]
      congr 1
      funext i
      show (_ && _ && _) = _
      rw [Bool.and_assoc]
      rfl
    rw [hlen]; rw [hsd]
    cases hr : (List.range f.Blocks.length).all fun i => (Nu (Ct f)).getD i false with
    | false => exact ⟨t, rfl, fun h => by cases h⟩
    | true =>
      refine ⟨Ch f, ?_, fun _ => rfl⟩; rw [Ds, Ao, uK _ 0 h1 h2, Ai, Hx]; have hp := Xu hm
      have hpl : (Jw (Ct f)).Pred.length = f.Blocks.length := by rw [← hlen]; exact Rb _
      have key : Ad (D1 f l u (Jw (Ct f), 0) (Ch f)) (0 : Int) = some (bif (List.range f.Blocks.length).all (fun i => XI (f.Blocks.getD i default).End && (f.Blocks.getD i default).Phis.all (Hq ((Em (Ct f)).getD i []))) then .inl () else .inr ((5 : Int), f, l, Ch f, u)) := by
        have hk : ∀ i : Nat, i < f.Blocks.length → D1 f l u (Jw (Ct f), 0) (Ch f) (i : Int) = some (bif (XI (f.Blocks.getD i default).End && (f.Blocks.getD i default).Phis.all (Hq ((Em (Ct f)).getD i []))) then .next ((i : Int) + 1) else .done (.inr ((5 : Int), f, l, Ch f, u))) := fun i hi => by
          have hB := hf.block _ (getD_mem (d := (default : An)) hi); have hpi : Bd (i : Int) (Jw (Ct f)).Pred.length := Aq (by omega); have hpg : ((Jw (Ct f)).Pred.getD i []).length ≤ 64 := hp.2 _ (getD_mem (by rw [Rb]; omega)); unfold D1
          have hd : decide ((i : Int) < (f.Blocks.length : Int)) = true := by simpa using hi
          simp only [hd, Ac, Ae (Aq hi), Ae hpi, Ej, jf (f.Blocks.getD i default).Phis ((Jw (Ct f)).Pred.getD i []) (by have := hB.phis; omega) (by omega), Ai]; have ha : L9 (⟨(f.Blocks.getD i default).End.Kind, (f.Blocks.getD i default).End.Arg, (f.Blocks.getD i default).End.To⟩ : N6) = some (XI (f.Blocks.getD i default).End) := jZ (n := f.Blocks.length) (f.Blocks.getD i default).End ((shape_iff.1 hs).2 i hi); rw [ha, A4 hi (by have := hf.blocks; omega)]
          show _ = some (bif (XI (f.Blocks.getD i default).End && (f.Blocks.getD i default).Phis.all (Hq ((Jw (Ct f)).Pred.getD i []))) then _ else _)
          cases (f.Blocks.getD i default).Phis.all (Hq ((Jw (Ct f)).Pred.getD i [])) <;> cases XI (f.Blocks.getD i default).End <;> rfl
        exact IL _ _ _ _ _ (fun i hi hp => by rw [hk i hi, hp]; rfl) (fun i hi hp => by rw [hk i hi, hp]; rfl) (by unfold D1; simp)
      show ((Ad (D1 f l u (Jw (Ct f), 0) (Ch f)) (0 : Int)).bind _) = _
      rw [key, Ai]
      cases (List.range f.Blocks.length).all (fun i => XI (f.Blocks.getD i default).End && (f.Blocks.getD i default).Phis.all (Hq ((Em (Ct f)).getD i []))) <;> rfl
theorem tu(o:Cn)(l:Int)(h0:0<=l)(h2:l<=2)(hk:K7 o=true):Sw o l=some (!decide (MU l<o.Kind)&&!(decide (l<2)&&decide (1<o.Lanes))):=by
 have hl:=m9 hk
 have hK:o.Kind<=22:=by
  simp only[K7,Bc]at hk;have:=hk.1.2.1.1.1;unfold hY at this;simp only[Bc,Ff]at this;omega
 unfold Sw MU
 have:l=0\/l=1\/l=2:=by omega
 rcases this with rfl|rfl|rfl
 ·have ha:decide (o.Kind<=17) = !decide (17<o.Kind):=by rw[Qm];simp
  have hb:(o.Lanes==1) = !decide (1<o.Lanes):=by rw[Qm];simp;omega
  show some (bif decide (o.Kind<=17) then(o.Lanes==1) else false)=some (!decide (17<o.Kind)&&!(true&&decide (1<o.Lanes)))
  rw[ha,hb]
  cases decide (17<o.Kind)<;>cases decide (1<o.Lanes)<;>rfl
 ·have ha:decide (o.Kind<=20) = !decide (20<o.Kind):=by rw[Qm];simp
  have hb:(o.Lanes==1) = !decide (1<o.Lanes):=by rw[Qm];simp;omega
  show some (bif decide (o.Kind<=20) then(o.Lanes==1) else false)=some (!decide (20<o.Kind)&&!(true&&decide (1<o.Lanes)))
  rw[ha,hb]
  cases decide (20<o.Kind)<;>cases decide (1<o.Lanes)<;>rfl
 ·show some true=some (!decide (22<o.Kind)&&!(false&&decide (1<o.Lanes)))
  rw[Cm (by omega)]
  rfl
theorem je(o:Cn)(ho:ZY o)(f:TFunc)(l:Int)(h0:0<=l)(h2:l<=2)(t:List Int)(u:List Bm):In o f l t u=some (Nt l o,f,l,t,u):=by
 unfold In Nt;rw[OO o ho,Ai]
 cases hk:K7 o with
 | false=>rfl
 | true=>
  rw[show(true==true)=true from rfl,Ac,tu o l h0 h2 hk,Ai,Ac,Hx]
theorem qO(b:An){f:TFunc}(hf:OkF f)(hb:b∈f.Blocks)(l:Int)(h0:0<=l)(h2:l<=2)(t:List Int)(u:List Bm):Ly b.Ops f l t u=some (b.Ops.all (Nt l),f,l,t,u):=by
 have hB:=hf.block b hb
 have key:∀ k i:Nat,i+k=b.Ops.length->Ad (Hi b.Ops) ((i:Int),f.Params,f.Ret,f.Blocks,l,t,u)=some (bif (b.Ops.drop i).all (Nt l) then .inl (f.Params,f.Ret,f.Blocks,l,t,u) else .inr (false,f,l,t,u)):=by
  intro k
  induction k with
  | zero=>
   intro i h
   obtain rfl:i=b.Ops.length:=by omega
   rw[Ah (x:=.inl (f.Params,f.Ret,f.Blocks,l,t,u)) (by unfold Hi;simp)]
   simp
  | succ k ih=>
   intro i h
   have hi:i<b.Ops.length:=by omega
   have hd:decide ((i:Int)<(b.Ops.length:Int))=true:=by simpa using hi
   have hdr:b.Ops.drop i=b.Ops.getD i default::b.Ops.drop (i+1):=by rw[P7 hi,Ab _ _ _ hi]
   have hx:=je (b.Ops.getD i default) (kD hf hb (getD_mem hi)) f l h0 h2 t u;rw[hdr,Yl]
   cases ho:Nt l (b.Ops.getD i default) with
   | true=>
    rw[ho]at hx
    rw[Ar (s':=(((i+1:Nat):Int),f.Params,f.Ret,f.Blocks,l,t,u)) (by
     unfold Hi;simp only[hd,Ac,Ae (Aq hi),Ej,hx,Ai,Ds,Ao,A4 hi (by have:=hB.ops;omega)]
     rfl),ih (i+1) (by omega),Hx]
   | false=>
    rw[ho]at hx
    rw[Ah (x:=.inr (false,f,l,t,u)) (by
     unfold Hi
     simp only[hd,Ac,Ae (Aq hi),Ej,hx,Ai,Mt])]
    rfl
 unfold Ly;rw[show(0:Int)=((0:Nat):Int) from rfl,key b.Ops.length 0 (by omega),Hw,Ai]
 cases b.Ops.all (Nt l)<;>rfl
theorem mT(b:An)(h:b.Phis.length<9223372036854775808):Lc b.Phis=some (b.Phis.all λp=>widthB p.Bits):=by
 unfold Lc
 rw[tj b.Phis (default:Ig) (λp=>widthB p.Bits) (Jb b.Phis) (.inl ()) (.inr false) h (λi hi=>by
  unfold Jb Qx
  have hd:decide ((i:Int)<(b.Phis.length:Int))=true:=by simpa using hi
  simp only[hd,Ac,Ae (Aq hi),Ej,We,Ai]
  cases widthB (b.Phis.getD i default).Bits<;>rfl) (by unfold Jb;simp),Ai]
 cases b.Phis.all λp=>widthB p.Bits<;>rfl
theorem mS(p:List Int)(h:p.length<9223372036854775808):Ot p=some (p.all widthB):=by
 unfold Ot
 rw[tj p (0:Int) widthB (Lz p) (.inl ()) (.inr false) h (λi hi=>by
  unfold Lz
  have hd:decide ((i:Int)<(p.length:Int))=true:=by simpa using hi
  simp only[hd,Ac,Ae (Aq hi),Ej,We,Ai]
  cases widthB (p.getD i 0)<;>rfl) (by unfold Lz;simp),Ai]
 cases p.all widthB<;>rfl
theorem XO(b:An){f:TFunc}(hf:OkF f)(hb:b∈f.Blocks)(l:Int)(h0:0<=l)(h2:l<=2)(t:List Int)(u:List Bm):Gl b f l t u=some (Hs l b,f,l,t,u):=by
 unfold Gl Hs;rw[mT b (by have:=(hf.block b hb).phis;omega),Ai,qO b hf hb l h0 h2 t u]
 cases(b.Phis.all λp=>widthB p.Bits)<;>rfl
theorem qS{f:TFunc}(hf:OkF f)(l:Int)(h0:0<=l)(h2:l<=2)(t:List Int)(u:List Bm):Jy f l t u=some (bif T3 f l then 0 else 6,f,l,t,u):=by
 have key:∀ k i:Nat,i+k=f.Blocks.length->Ad (Fp f.Blocks) ((i:Int),f.Params,f.Ret,f.Blocks,l,t,u)=some (bif (f.Blocks.drop i).all (Hs l) then .inl (f.Params,f.Ret,f.Blocks,l,t,u) else .inr (false,f,l,t,u)):=by
  intro k
  induction k with
  | zero=>
   intro i h
   obtain rfl:i=f.Blocks.length:=by omega
   rw[Ah (x:=.inl (f.Params,f.Ret,f.Blocks,l,t,u)) (by unfold Fp;simp)]
   simp
  | succ k ih=>
   intro i h
   have hi:i<f.Blocks.length:=by omega
   have hd:decide ((i:Int)<(f.Blocks.length:Int))=true:=by simpa using hi
   have hdr:f.Blocks.drop i=f.Blocks.getD i default::f.Blocks.drop (i+1):=by rw[P7 hi,Ab _ _ _ hi]
   have hx:=XO (f.Blocks.getD i default) hf (getD_mem hi) l h0 h2 t u;rw[hdr,Yl]
   cases ho:Hs l (f.Blocks.getD i default) with
   | true=>
    rw[ho]at hx
    rw[Ar (s':=(((i+1:Nat):Int),f.Params,f.Ret,f.Blocks,l,t,u)) (by
     unfold Fp;simp only[hd,Ac,Ae (Aq hi),Ej,hx,Ai,Ds,Ao,A4 hi (by have:=hf.blocks;omega)]
     rfl),ih (i+1) (by omega),Hx]
   | false=>
    rw[ho]at hx
    rw[Ah (x:=.inr (false,f,l,t,u)) (by
     unfold Fp
     simp only[hd,Ac,Ae (Aq hi),Ej,hx,Ai,Mt])]
    rfl
 have hall:Jx f.Blocks f l t u=some (f.Blocks.all (Hs l),f,l,t,u):=by
  unfold Jx;rw[show(0:Int)=((0:Nat):Int) from rfl,key f.Blocks.length 0 (by omega),Hw,Ai]
  cases f.Blocks.all (Hs l)<;>rfl
 unfold Jy T3 M6;rw[mS _ (by have:=hf.few;omega),Ai,hall,We]
 cases f.Params.all widthB<;>cases widthB f.Ret<;>cases f.Blocks.all (Hs l)<;>rfl
def qH(d:TDef):Li:=bif decide (d.Block<0) then⟨0,-1⟩ else⟨d.Block,d.At⟩
def MJ(d:TDef):As:=⟨d.Shape,qH d⟩
def dv(l:List TDef):List (Int×As):=l.map λd=>(d.V,MJ d)
def ST(acc:List (Int×As))(v:Int):Bool:=(C7 acc v || decide (v<1)) || decide (1023<v)
def J6:List (Int×As)->List TDef->Bool×List (Int×As)
 | acc,[]=>(true,acc)
 | acc,d::ds=>bif ST acc d.V then(false,acc) else J6 (Hn acc d.V (MJ d)) ds
theorem ID:∀(a b:List TDef) (acc:List (Int×As)),J6 acc (a++b)=bif (J6 acc a).1 then J6 (J6 acc a).2 b else J6 acc a
 | [],b,acc=>rfl
 | d::a,b,acc=>by
  rw[BG];simp only[J6]
  cases ST acc d.V with
  | true=>rfl
  | false=>simp only[Ao];exact ID a b _
theorem Zx{V:Type}(k:Int):∀ l:List (Int×V),C7 l k=l.any λq=>k==q.1
 | []=>rfl
 | (a,b)::l=>by rw[List.any_cons,<- Zx k l];rfl
theorem CC{V:Type}(k:Int)(v:V):∀{l:List (Int×V)},C7 l k=false->Hn l k v=l++[(k,v)]
 | [],_=>rfl
 | (a,b)::l,h=>by
  simp only[C7,RC]at h;simp only[Hn,h.1,Ao,CC k v h.2,BG]
theorem bK(v:Int)(s:Int×Int)(p:Li)(f:TFunc)(l:Int)(t:List Int)(vs:List (Int×As))(u:List Bm) :
  Gm v s p f l t vs u=some (bif ST vs v then(false,f,l,t,u,vs) else(true,f,l,t,u,Hn vs v ⟨s,p⟩)):=by
 unfold Gm ST
 cases C7 vs v<;>cases decide (v<1)<;>cases decide (1023<v)<;>rfl
def rZ(f:TFunc)(l:Int)(t:List Int)(u:List Bm)(r:Bool×List (Int×As)):(List Int×Int×List An×Int×List Int×List Bm×List (Int×As)) ⊕ (Bool×TFunc×Int×List Int×List Bm×List (Int×As)):=
 bif r.1 then .inl (f.Params,f.Ret,f.Blocks,l,t,u,r.2) else .inr (false,f,l,t,u,r.2)
theorem t6(b:An)(h:b.Phis.length<9223372036854775808)(i:Nat)(f:TFunc)(l:Int)(t:List Int)(u:List Bm):∀(k j:Nat) (vs:List (Int×As)),j+k=b.Phis.length->
  Ad (D9 (i:Int) b) ((j:Int),f.Params,f.Ret,f.Blocks,l,t,u,vs)=some (rZ f l t u (J6 vs ((List.range' j k).flatMap λ(k:Nat)=>[(⟨(b.Phis.getD k default).Dst,i,-1,((b.Phis.getD k default).Bits,1)⟩:TDef)]))):=by
 intro k
 induction k with
 | zero=>
  intro j vs hj
  obtain rfl:j=b.Phis.length:=by omega
  rw[Ah (x:=.inl (f.Params,f.Ret,f.Blocks,l,t,u,vs)) (by unfold D9;simp)]
  rfl
 | succ k ih=>
  intro j vs hj
  have hi:j<b.Phis.length:=by omega
  have hd:decide ((j:Int)<(b.Phis.length:Int))=true:=by simpa using hi
  have hx:=bK (b.Phis.getD j default).Dst ((b.Phis.getD j default).Bits,1) (⟨(i:Int),-1⟩:Li) f l t vs u
  have hat:qH (⟨(b.Phis.getD j default).Dst,i,-1,((b.Phis.getD j default).Bits,1)⟩:TDef)=⟨(i:Int),-1⟩:=by unfold qH;rw[Cm (by show ¬ (i:Int)<0;omega)];rfl
  rw[DU,R7,List.singleton_append];simp only[J6]
  cases hb:ST vs (b.Phis.getD j default).Dst with
  | true=>
   rw[hb]at hx
   rw[Ah (x:=.inr (false,f,l,t,u,vs)) (by
    unfold D9 E6;simp only[hd,Ac,Ae (Aq hi),Ej,Ai];rw[show(⟨f.Params,f.Ret,f.Blocks⟩:TFunc)=f from rfl,hx]
    rfl)]
   rfl
  | false=>
   rw[hb]at hx
   rw[Ar (s':=(((j+1:Nat):Int),f.Params,f.Ret,f.Blocks,l,t,u,Hn vs (b.Phis.getD j default).Dst ⟨((b.Phis.getD j default).Bits,1),⟨(i:Int),-1⟩⟩)) (by
    unfold D9 E6;simp only[hd,Ac,Ae (Aq hi),Ej,Ai];rw[show(⟨f.Params,f.Ret,f.Blocks⟩:TFunc)=f from rfl,hx,A4 hi h]
    rfl),ih (j+1) _ (by omega)]
   unfold MJ;rw[hat]
   rfl
theorem wJ{f0:TFunc}(hf:OkF f0){b:An}(hb:b∈f0.Blocks)(i:Nat)(f:TFunc)(l:Int)(t:List Int)(u:List Bm):∀(k j:Nat) (vs:List (Int×As)),j+k=b.Ops.length->
  Ad (C6 (i:Int) b) ((j:Int),f.Params,f.Ret,f.Blocks,l,t,u,vs)=some (rZ f l t u (J6 vs ((List.range' j k).flatMap λ(k:Nat)=>bif decide (0<(H4 (b.Ops.getD k default)).1) then[(⟨(b.Ops.getD k default).Dst,i,k,H4 (b.Ops.getD k default)⟩:TDef)] else[]))):=by
 have hB:=hf.block b hb;intro k
 induction k with
 | zero=>
  intro j vs hj
  obtain rfl:j=b.Ops.length:=by omega
  rw[Ah (x:=.inl (f.Params,f.Ret,f.Blocks,l,t,u,vs)) (by unfold C6;simp)]
  rfl
 | succ k ih=>
  intro j vs hj
  have hi:j<b.Ops.length:=by omega
  have hd:decide ((j:Int)<(b.Ops.length:Int))=true:=by simpa using hi
  have hg:Pu (b.Ops.getD j default)=some (H4 (b.Ops.getD j default)):=eT _ (kD hf hb (getD_mem hi));have hx:=bK (b.Ops.getD j default).Dst (H4 (b.Ops.getD j default)) (⟨(i:Int),(j:Int)⟩:Li) f l t vs u
  have hat:qH (⟨(b.Ops.getD j default).Dst,i,j,H4 (b.Ops.getD j default)⟩:TDef)=⟨(i:Int),(j:Int)⟩:=by unfold qH;rw[Cm (by show ¬ (i:Int)<0;omega)];rfl
  rw[DU,R7]
  cases hp:decide (0<(H4 (b.Ops.getD j default)).1) with
  | false=>
   rw[Ao,U5,<- ih (j+1) vs (by omega),Ar (s':=(((j+1:Nat):Int),f.Params,f.Ret,f.Blocks,l,t,u,vs)) (by
    unfold C6;simp only[hd,Ac,Ae (Aq hi),Ej,hg,Ai,hp];rw[A4 hi (by have:=hB.ops;omega)]
    rfl)]
  | true=>
   rw[Ac,List.singleton_append];simp only[J6]
   cases hb:ST vs (b.Ops.getD j default).Dst with
   | true=>
    rw[hb]at hx
    rw[Ah (x:=.inr (false,f,l,t,u,vs)) (by
     unfold C6;simp only[hd,Ac,Ae (Aq hi),Ej,hg,Ai,hp];rw[show(true==true)=true from rfl,Ac,show(⟨f.Params,f.Ret,f.Blocks⟩:TFunc)=f from rfl,hx]
     rfl)]
    rfl
   | false=>
    rw[hb]at hx
    rw[Ar (s':=(((j+1:Nat):Int),f.Params,f.Ret,f.Blocks,l,t,u,Hn vs (b.Ops.getD j default).Dst ⟨H4 (b.Ops.getD j default),⟨(i:Int),(j:Int)⟩⟩)) (by
     unfold C6;simp only[hd,Ac,Ae (Aq hi),Ej,hg,Ai,hp];rw[show(true==true)=true from rfl,Ac,show(⟨f.Params,f.Ret,f.Blocks⟩:TFunc)=f from rfl,hx,A4 hi (by have:=hB.ops;omega)]
     rfl),ih (j+1) _ (by omega)]
    unfold MJ;rw[hat]
    rfl
theorem bL{f:TFunc}(hf:OkF f){b:An}(hb:b∈f.Blocks)(i:Nat)(l:Int)(t:List Int)(u:List Bm)(vs:List (Int×As)) :
  Hb (i:Int) b f l t vs u=some ((J6 vs (Ny b i)).1,f,l,t,u,(J6 vs (Ny b i)).2):=by
 unfold Hb Ny;rw[show(0:Int)=((0:Nat):Int) from rfl,t6 b (by have:=(hf.block b hb).phis;omega) i f l t u b.Phis.length 0 vs (by omega),Ai,ID];rw[show(List.range' 0 b.Phis.length).flatMap (λ(k:Nat)=>[(⟨(b.Phis.getD k default).Dst,i,-1,((b.Phis.getD k default).Bits,1)⟩:TDef)])=Po b i by rw[Po,P8]];unfold rZ
 cases h1:(J6 vs (Po b i)).1 with
 | false=>simp only[Ao];rw[h1]
 | true=>
  simp only[Ac];rw[wJ hf hb i f l t u b.Ops.length 0 _ (by omega),Ai];rw[show(List.range' 0 b.Ops.length).flatMap (λ(k:Nat)=>bif decide (0<(H4 (b.Ops.getD k default)).1) then[(⟨(b.Ops.getD k default).Dst,i,k,H4 (b.Ops.getD k default)⟩:TDef)] else[])=Ws b i by rw[Ws,P8]];unfold rZ;cases h2:(J6 (J6 vs (Po b i)).2 (Ws b i)).1<;>rfl
theorem CE{l:List TDef}{i:Nat}(hi:i<l.length):Nb l i=true↔valS (l.getD i default).V=true/\∀ j,j<i->(l.getD j default).V≠(l.getD i default).V:=by
 unfold Nb;rw[Bc];refine and_congr Iff.rfl ?_;unfold He
 cases hx:l.findIdx? (λd=>d.V==(l.getD i default).V) with
 | none=>
  rw[List.findIdx?_eq_none_iff]at hx;have:=hx _ (getD_mem (d:=default) hi);simp at this
 | some j=>
  obtain⟨hj,h1,h2⟩:=List.findIdx?_eq_some_iff_getElem.1 hx;simp only[zzL71,Int.natCast_inj]
  constructor
  ·rintro rfl k hk he;have:=h2 k hk;rw[Ab _ _ _ (by omega:k<l.length)]at he;simp at this;exact this he
  ·intro h
   have hv:(l.getD j default).V=(l.getD i default).V:=by rw[Ab _ _ _ hj];simpa using h1
   rcases Nat.lt_trichotomy j i with hlt|rfl|hgt
   ·exact absurd hv (h j hlt)
   ·rfl
   ·have:=h2 i hgt;rw[<- Ab l i default hi]at this;simp at this
theorem rA(l:List TDef)(v:Int):C7 (dv l) v=l.any λd=>v==d.V:=by
 rw[Zx,dv,List.any_map];rfl
theorem NY:∀(ds pre:List TDef),(J6 (dv pre) ds).1=(List.range' pre.length ds.length).all (Nb (pre++ds))/\((J6 (dv pre) ds).1=true->(J6 (dv pre) ds).2=dv (pre++ds))
 | [],pre=>by simp[J6]
 | d::ds,pre=>by
  have hi:pre.length<(pre++d::ds).length:=by simp
  have hg:(pre++d::ds).getD pre.length default=d:=by simp[List.getD]
  have hj:∀ j,j<pre.length->(pre++d::ds).getD j default=pre.getD j default:=λj h=>by simp[List.getD,Wg h]
  have hok:Nb (pre++d::ds) pre.length = !ST (dv pre) d.V:=by
   rw[Qm,CE hi,hg];unfold ST valS;rw[rA];simp only[R6,RC,LN,List.any_eq_false,zzL71,Bc,Ff]
   constructor
   ·rintro⟨⟨h1,h2⟩,h3⟩;refine⟨⟨λx hx he=>?_,by omega⟩,by omega⟩;obtain⟨j,hjl,rfl⟩:=P9 hx;have:=h3 j hjl;rw[hj j hjl,Ab _ _ _ hjl]at this;exact this he.symm
   ·rintro⟨⟨h1,h2⟩,h3⟩;refine⟨⟨by omega,by omega⟩,λj hjl he=>?_⟩;rw[hj j hjl,Ab _ _ _ hjl]at he;exact h1 _ (DV hjl) he.symm
  rw[U4,DU,Yl,hok];simp only[J6]
  cases hb:ST (dv pre) d.V with
  | true=>exact⟨rfl,λh=>by cases h⟩
  | false=>
   have hn:C7 (dv pre) d.V=false:=by
    unfold ST at hb;simp only[RC]at hb;exact hb.1.1
   have hs:Hn (dv pre) d.V (MJ d)=dv (pre++[d]):=by rw[CC _ _ hn,dv,dv,BH];rfl
   have:=NY ds (pre++[d]);rw[F1,Qa,List.singleton_append]at this;rw[Ao,hs,Mt,Hx];exact this
def pv(f:TFunc)(n:Nat):List (Int×As):=(List.range n).map λ(j:Nat)=>((j:Int)+1,⟨(f.Params.getD j 0,1),⟨0,-1⟩⟩)
theorem wc(f:TFunc):pv f f.Params.length=dv (Oc f):=by
 unfold pv dv Oc;rw[List.map_flatMap]
 induction List.range f.Params.length with
 | nil=>rfl
 | cons a l ih=>rw[Cu,R7,ih];rfl
theorem mX{f:TFunc}(hf:OkF f):∀(k i:Nat),i+k=f.Params.length->Ad (Gn f) ((i:Int),pv f i)=some (pv f f.Params.length):=by
 intro k
 induction k with
 | zero=>
  intro i h
  obtain rfl:i=f.Params.length:=by omega
  exact Ah (by unfold Gn;simp)
 | succ k ih=>
  intro i h
  have hi:i<f.Params.length:=by omega
  have hd:decide ((i:Int)<(f.Params.length:Int))=true:=by simpa using hi
  have hn:C7 (pv f i) ((i:Int)+1)=false:=by
   rw[Zx,pv,List.any_map,List.any_eq_false];intro j hj;have:=zzL44.1 hj
   simp;omega
  have hs:Hn (pv f i) ((i:Int)+1) ⟨(f.Params.getD i 0,1),⟨0,-1⟩⟩=pv f (i+1):=by
   rw[CC _ _ hn,pv,pv,DY,BH];rfl
  rw[Ar (s':=(((i+1:Nat):Int),pv f (i+1))) (by
   unfold Gn E6;simp only[hd,Ac,Ae (Aq hi),Ej,Ai,A4 hi (by have:=hf.few;omega),hs]
   rfl)]
  exact ih (i+1) (by omega)
theorem mU{f:TFunc}(hf:OkF f)(l:Int)(t:List Int)(u:List Bm):∀(k i:Nat) (vs:List (Int×As)),i+k=f.Blocks.length->
  Ad (E5 f) ((i:Int),vs,f.Params,f.Ret,f.Blocks,l,t,u)=some (bif (J6 vs ((List.range' i k).flatMap λi=>Ny (f.Blocks.getD i default) i)).1 then .inl ((J6 vs ((List.range' i k).flatMap λi=>Ny (f.Blocks.getD i default) i)).2,f.Params,f.Ret,f.Blocks,l,t,u) else
   .inr (7,f,l,t,u,(J6 vs ((List.range' i k).flatMap λi=>Ny (f.Blocks.getD i default) i)).2)):=by
 intro k
 induction k with
 | zero=>
  intro i vs h
  obtain rfl:i=f.Blocks.length:=by omega
  rw[Ah (x:=.inl (vs,f.Params,f.Ret,f.Blocks,l,t,u)) (by unfold E5;simp)]
  rfl
 | succ k ih=>
  intro i vs h
  have hi:i<f.Blocks.length:=by omega
  have hd:decide ((i:Int)<(f.Blocks.length:Int))=true:=by simpa using hi
  have hx:=bL hf (getD_mem (d:=default) hi) i l t u vs;rw[DU,R7,ID]
  cases hb:(J6 vs (Ny (f.Blocks.getD i default) i)).1 with
  | false=>
   rw[hb]at hx
   rw[Ah (x:=.inr (7,f,l,t,u,(J6 vs (Ny (f.Blocks.getD i default) i)).2)) (by
    unfold E5;simp only[hd,Ac,Ae (Aq hi),Ej];rw[show(⟨f.Params,f.Ret,f.Blocks⟩:TFunc)=f from rfl,hx]
    rfl),Ao,hb]
   rfl
  | true=>
   rw[hb]at hx
   rw[Ar (s':=(((i+1:Nat):Int),(J6 vs (Ny (f.Blocks.getD i default) i)).2,f.Params,f.Ret,f.Blocks,l,t,u)) (by
    unfold E5;simp only[hd,Ac,Ae (Aq hi),Ej];rw[show(⟨f.Params,f.Ret,f.Blocks⟩:TFunc)=f from rfl,hx,A4 hi (by have:=hf.blocks;omega)]
    rfl),ih (i+1) _ (by omega),Ac]
theorem zP{f:TFunc}(hf:OkF f):∀ i,i<f.Params.length->Nb (defsF f) i=true:=λi hi=>by
 have hl:=BT f
 have hg:∀ j,j<f.Params.length->(defsF f).getD j default=⟨(j:Int)+1,-1,0,(f.Params.getD j 0,1)⟩:=λj hj=>by
  have e:Oc f=(List.range f.Params.length).map λ(i:Nat)=>(⟨(i:Int)+1,-1,0,(f.Params.getD i 0,1)⟩:TDef):=by
   unfold Oc
   induction List.range f.Params.length with
   | nil=>rfl
   | cons a l ih=>rw[Cu,R7,ih];rfl
  rw[defsF,List.getD,Wg (by omega),e];simp[hj]
 have hle:i<(defsF f).length:=by rw[defsF,F1];omega
 rw[CE hle,hg i hi];refine⟨?_,λj hj=>?_⟩
 ·have:=hf.few;simp only[valS,Bc,Ff];omega
 ·rw[hg j (by omega)];simp only;omega
theorem jd{f:TFunc}(hf:OkF f)(l:Int)(t:List Int)(u:List Bm):∃ vs,Il f l t u=some (bif (List.range (defsF f).length).all (Nb (defsF f)) then 0 else 7,f,l,t,u,vs)/\((List.range (defsF f).length).all (Nb (defsF f))=true->vs=dv (defsF f)):=by
 have hsp:=NY ((List.range f.Blocks.length).flatMap λi=>Ny (f.Blocks.getD i default) i) (Oc f)
 have hall:(List.range (defsF f).length).all (Nb (defsF f))=(J6 (dv (Oc f)) ((List.range f.Blocks.length).flatMap λi=>Ny (f.Blocks.getD i default) i)).1:=by
  rw[hsp.1]
  show(List.range (defsF f).length).all (Nb (defsF f))=(List.range' (Oc f).length _).all (Nb (defsF f))
  have hs:List.range (defsF f).length=List.range (Oc f).length++List.range' (Oc f).length ((List.range f.Blocks.length).flatMap λi=>Ny (f.Blocks.getD i default) i).length:=by
   rw[P8,P8,defsF,F1];have:=List.range'_append_1 (s:=0) (m:=(Oc f).length) (n:=((List.range f.Blocks.length).flatMap λi=>Ny (f.Blocks.getD i default) i).length);rw[G8]at this;exact this.symm
  rw[hs,List.all_append];have:(List.range (Oc f).length).all (Nb (defsF f))=true:=zzL32.2 λi hi=>zP hf i (by rw[<- BT f];exact zzL44.1 hi);rw[this,Hx]
 unfold Il;have hp:=mX hf f.Params.length 0 (by omega);have e0:pv f 0=[]:=rfl;rw[e0,show(((0:Nat):Int))=0 from rfl]at hp;rw[hp,Ai,wc];have hb:=mU hf l t u f.Blocks.length 0 (dv (Oc f)) (by omega);rw[show(((0:Nat):Int))=0 from rfl,<- P8]at hb;rw[hb,Ai,hall];refine⟨(J6 (dv (Oc f)) ((List.range f.Blocks.length).flatMap λi=>Ny (f.Blocks.getD i default) i)).2,?_,hsp.2⟩
 cases(J6 (dv (Oc f)) ((List.range f.Blocks.length).flatMap λi=>Ny (f.Blocks.getD i default) i)).1<;>rfl
theorem CA{β S X:Type}(B:Nat)(mk:Int->List β->S)(out:List β->X)(n:Nat)(E:Nat->List β)(f:S->Option (LR S X))(hn:∀(acc:List β) (i:Nat),i<n->(acc++E i).length<=B->f (mk i acc)=some (.next (mk ((i:Int)+1) (acc++E i))))
  (hd:∀ acc:List β,f (mk n acc)=some (.done (out acc))):∀(k i:Nat) (acc:List β),i+k=n->(acc++(List.range' i k).flatMap E).length<=B->Ad f (mk i acc)=some (out (acc++(List.range' i k).flatMap E))
 | 0,i,acc,h,_=>by
  obtain rfl:i=n:=by omega
  rw[Ah (hd acc)]
  simp
 | k+1,i,acc,h,hB=>by
  have hi:i<n:=by omega
  rw[DU,R7,<- Qa]at hB ⊢;rw[Ar (hn acc i hi (by rw[F1]at hB;omega)),show((i:Int)+1)=((i+1:Nat):Int) by omega,CA B mk out n E f hn hd k (i+1) _ (by omega) hB]
theorem bw{β γ:Type}(h:β->γ)(n:Nat)(g:Nat->β):(List.range' 0 n).flatMap (λj=>[h (g j)])=((List.range n).flatMap λj=>[g j]).map h:=by
 rw[List.map_flatMap,P8];rfl
theorem OY{β γ:Type}(h:β->γ)(n:Nat)(g:Nat->List β):(List.range' 0 n).flatMap (λj=>(g j).map h)=((List.range n).flatMap g).map h:=by
 rw[List.map_flatMap,P8]
def P3(f:TFunc)(b:Int):Int:=((f.Blocks.getD b.toNat default).Ops.length:Int)
def F0(f:TFunc)(u:Da):Bm:=⟨u.V,u.Shape,⟨u.Block,bif u.At==1000 then P3 f u.Block else u.At⟩⟩
theorem gu(f:TFunc)(l:Int)(t:List Int)(vs:List (Int×As))(v:Int)(s:Int×Int)(p:Li)(u:List Bm)(h:(u++[(⟨v,s,p⟩:Bm)]).length<=10000000):Fi v s p f l t vs u=some (f,l,t,u++[⟨v,s,p⟩]):=by
 unfold Fi;rw[Aa (by rw[F1]at h;rw[HC];omega)]
theorem mW(f:TFunc)(l:Int)(t:List Int)(vs:List (Int×As))(b:Int)(hb:Bd b f.Blocks.length)(u:List Bm):G3 b f l t vs u=some (⟨b,P3 f b⟩,f,l,t,u):=by
 unfold G3;rw[Aa hb];rfl
section
variable {f:TFunc} (hf:OkF f) (l:Int) (t:List Int) (vs:List (Int×As))
include hf
theorem tz(i k:Nat)(hi:i<f.Blocks.length)(hk:k<(f.Blocks.getD i default).Phis.length)(hfit:((f.Blocks.getD i default).Phis.getD k default).Args.length<=((f.Blocks.getD i default).Phis.getD k default).From.length)
  (hin:∀ x∈((f.Blocks.getD i default).Phis.getD k default).From,Bd x f.Blocks.length) (u:List Bm) (hB:(u++(Mf ((f.Blocks.getD i default).Phis.getD k default)).map (F0 f)).length<=10000000) :
  Ad (E0 f vs (i:Int) (k:Int)) ((0:Int),f.Params,f.Ret,f.Blocks,l,t,u)=some (f.Params,f.Ret,f.Blocks,l,t,u++(Mf ((f.Blocks.getD i default).Phis.getD k default)).map (F0 f)):=by
 have hlen:=PM hf (getD_mem (d:=(default:An)) hi) (getD_mem (d:=(default:Ig)) hk)
 generalize hp:(f.Blocks.getD i default).Phis.getD k default=p at *
 have e:=bw (F0 f) p.Args.length λ(j:Nat)=>(⟨p.Args.getD j 0,p.From.getD j 0,1000,(p.Bits,1)⟩:Da)
 have:=CA 10000000 (λj u=>(j,f.Params,f.Ret,f.Blocks,l,t,u)) (λu=>(f.Params,f.Ret,f.Blocks,l,t,u)) p.Args.length (λ(j:Nat)=>[F0 f ⟨p.Args.getD j 0,p.From.getD j 0,1000,(p.Bits,1)⟩]) (E0 f vs (i:Int) (k:Int)) (λacc j hj hacc=>by
  unfold E0 E6
  have hd:decide ((j:Int)<(p.Args.length:Int))=true:=by simpa using hj
  have hjf:j<p.From.length:=by omega
  simp only[Ej,hp,hd,Ac,Ae (Aq hj),Ai,Ae (Aq hjf)];rw[show(⟨f.Params,f.Ret,f.Blocks⟩:TFunc)=f from rfl,mW f l t vs _ (hin _ (getD_mem hjf)),Ai];simp only;have eu:F0 f ⟨p.Args.getD j 0,p.From.getD j 0,1000,(p.Bits,1)⟩=⟨p.Args.getD j 0,(p.Bits,1),⟨p.From.getD j 0,P3 f (p.From.getD j 0)⟩⟩:=rfl;rw[eu]at hacc ⊢
  rw[gu f l t vs _ _ _ acc hacc,Ai,A4 hj (by omega)]) (λacc=>by unfold E0;simp only[Ej,hp,show decide ((p.Args.length:Int)<(p.Args.length:Int))=false by simp,Ao]) p.Args.length 0 u (by omega) (by rw[e];exact hB)
 rw[e]at this;exact this
theorem qR(i:Nat)(hi:i<f.Blocks.length)(hfit:∀ p∈(f.Blocks.getD i default).Phis,p.Args.length<=p.From.length/\∀ x∈p.From,Bd x f.Blocks.length)(u:List Bm)(hB:(u++(Ms (f.Blocks.getD i default)).map (F0 f)).length<=10000000) :
  Ad (E1 f vs (i:Int)) ((0:Int),f.Params,f.Ret,f.Blocks,l,t,u)=some (f.Params,f.Ret,f.Blocks,l,t,u++(Ms (f.Blocks.getD i default)).map (F0 f)):=by
 have hBk:=hf.block _ (getD_mem (d:=(default:An)) hi);have e:=OY (F0 f) (f.Blocks.getD i default).Phis.length λ(k:Nat)=>Mf ((f.Blocks.getD i default).Phis.getD k default)
 have:=CA 10000000 (λj u=>(j,f.Params,f.Ret,f.Blocks,l,t,u)) (λu=>(f.Params,f.Ret,f.Blocks,l,t,u)) (f.Blocks.getD i default).Phis.length (λ(k:Nat)=>(Mf ((f.Blocks.getD i default).Phis.getD k default)).map (F0 f)) (E1 f vs (i:Int)) (λacc k hk hacc=>by
  have hq:=hfit _ (getD_mem (d:=(default:Ig)) hk);have h1:=tz hf l t vs i k hi hk hq.1 hq.2 acc hacc;unfold E1
  have hd:decide ((k:Int)<((f.Blocks.getD i default).Phis.length:Int))=true:=by simpa using hk
  simp only[Ej,hd,Ac,Ae (Aq hk),h1,Ai,A4 hk (by have:=hBk.phis;omega)]) (λacc=>by unfold E1;simp) (f.Blocks.getD i default).Phis.length 0 u (by omega) (by rw[e];exact hB)
 rw[e]at this;exact this
theorem wI(i k:Nat)(hi:i<f.Blocks.length)(hk:k<(f.Blocks.getD i default).Ops.length)(u:List Bm)(hB:(u++(Ox ((f.Blocks.getD i default).Ops.getD k default) i k).map (F0 f)).length<=10000000) :
  Ad (E2 f vs (i:Int) (k:Int) (Gj ((f.Blocks.getD i default).Ops.getD k default))) ((0:Int),f.Params,f.Ret,f.Blocks,l,t,u)=some (f.Params,f.Ret,f.Blocks,l,t,u++(Ox ((f.Blocks.getD i default).Ops.getD k default) i k).map (F0 f)):=by
 have hBk:=hf.block _ (getD_mem (d:=(default:An)) hi);have hlen:=Xz (iN hf (getD_mem (d:=(default:An)) hi) (getD_mem (d:=(default:Cn)) hk));have hk512:=hBk.ops
 generalize hp:(f.Blocks.getD i default).Ops.getD k default=o at *
 have e:=bw (F0 f) (Gj o).length λ(j:Nat)=>(⟨o.Args.getD j 0,i,k,(Gj o).getD j (0,0)⟩:Da)
 have:=CA 10000000 (λj u=>(j,f.Params,f.Ret,f.Blocks,l,t,u)) (λu=>(f.Params,f.Ret,f.Blocks,l,t,u)) (Gj o).length (λ(j:Nat)=>[F0 f ⟨o.Args.getD j 0,i,k,(Gj o).getD j (0,0)⟩]) (E2 f vs (i:Int) (k:Int) (Gj o)) (λacc j hj hacc=>by
  have hkk:((k:Int)==1000)=false:=by simp;omega
  have eu:F0 f ⟨o.Args.getD j 0,i,k,(Gj o).getD j (0,0)⟩=⟨o.Args.getD j 0,(Gj o).getD j (0,0),⟨(i:Int),(k:Int)⟩⟩:=by unfold F0;simp only[hkk,Ao]
  rw[eu]at hacc ⊢;unfold E2
  have hd:decide ((j:Int)<((Gj o).length:Int))=true:=by simpa using hj
  have hja:j<o.Args.length:=by omega
  simp only[Ej,hp,hd,Ac,Ae (Aq hj),Ae (Aq hja)]
  rw[show(⟨f.Params,f.Ret,f.Blocks⟩:TFunc)=f from rfl,gu f l t vs _ _ _ acc hacc,Ai,A4 hj (by omega)]) (λacc=>by unfold E2;simp) (Gj o).length 0 u (by omega) (by rw[e];exact hB)
 rw[e]at this;exact this
theorem tw(i:Nat)(hi:i<f.Blocks.length)(u:List Bm)(hB:(u++(Sf (f.Blocks.getD i default) i).map (F0 f)).length<=10000000) :
  Ad (E3 f vs (i:Int)) ((0:Int),f.Params,f.Ret,f.Blocks,l,t,u)=some (f.Params,f.Ret,f.Blocks,l,t,u++(Sf (f.Blocks.getD i default) i).map (F0 f)):=by
 have hmem:=getD_mem (d:=(default:An)) hi;have hBk:=hf.block _ hmem;have e:=OY (F0 f) (f.Blocks.getD i default).Ops.length λ(k:Nat)=>Ox ((f.Blocks.getD i default).Ops.getD k default) i k
 have:=CA 10000000 (λj u=>(j,f.Params,f.Ret,f.Blocks,l,t,u)) (λu=>(f.Params,f.Ret,f.Blocks,l,t,u)) (f.Blocks.getD i default).Ops.length (λ(k:Nat)=>(Ox ((f.Blocks.getD i default).Ops.getD k default) i k).map (F0 f)) (E3 f vs (i:Int)) (λacc k hk hacc=>by
  have h1:=wI hf l t vs i k hi hk acc hacc;have ht:Pv ((f.Blocks.getD i default).Ops.getD k default)=some (Gj ((f.Blocks.getD i default).Ops.getD k default)):=eV _ (kD hf hmem (getD_mem hk));unfold E3
  have hd:decide ((k:Int)<((f.Blocks.getD i default).Ops.length:Int))=true:=by simpa using hk
  simp only[Ej,hd,Ac,Ae (Aq hk),ht,h1,Ai,A4 hk (by have:=hBk.ops;omega)]) (λacc=>by unfold E3;simp) (f.Blocks.getD i default).Ops.length 0 u (by omega) (by rw[e];exact hB)
 rw[e]at this;exact this
theorem ja (hfit : ∀ b ∈ f.Blocks, ∀ p ∈ b.Phis, p.Args.length ≤ p.From.length ∧ ∀ x ∈ p.From, Bd x f.Blocks.length) : Ik f l t vs [] = some (f, l, t, (Bw f).map (F0 f)) := by
  have e := OY (F0 f) f.Blocks.length fun (i : Nat) => DQ f (f.Blocks.getD i default) i; have hul := JK hf
  have := CA 10000000 (fun j u => (j, f.Params, f.Ret, f.Blocks, l, t, u)) (fun u => (f.Params, f.Ret, f.Blocks, l, t, u)) f.Blocks.length (fun (i : Nat) => (DQ f (f.Blocks.getD i default) i).map (F0 f)) (E4 f vs) (fun acc i hi hacc => by
    have hmem := getD_mem (d := (default : An)) hi; unfold DQ at hacc ⊢; rw [BH, BH, ← Qa, ← Qa] at hacc ⊢; have l1 := hacc; simp only [F1, T7] at l1; have h1 := qR hf l t vs i hi (hfit _ hmem) acc (by simp only [F1, T7]; omega); have h2 := tw hf l t vs i hi (acc ++ (Ms (f.Blocks.getD i default)).map (F0 f)) (by simp only [F1, T7]; omega); have hinb : Bd (i : Int) f.Blocks.length := Aq hi; unfold E4 E6
    have hd : decide ((i : Int) < (f.Blocks.length : Int)) = true := by simpa using hi
    simp only [hd, Ac, Ae (Aq hi), h1, Ai, h2, Ej]; have hF : (⟨f.Params, f.Ret, f.Blocks⟩ : TFunc) = f := rfl; have hw : w64 ((i : Int) + 1) = (i : Int) + 1 := A4 hi (by have := hf.blocks; omega); unfold X1 at hacc ⊢
    cases hz : ((f.Blocks.getD i default).End.Kind == 0) with
    | true =>
      have hz2 : ((f.Blocks.getD i default).End.Kind == 2) = false := by have : (f.Blocks.getD i default).End.Kind = 0 := by simpa using hz
                                                                         rw [this]; rfl
      rw [hz, hz2] at hacc; simp only [Ac, Ao, hz2, List.append_nil, Cu, Dt] at hacc ⊢; rw [hF, mW f l t vs _ hinb, Ai]; simp only; rw [gu f l t vs _ _ _ _ (show (_ ++ [(⟨_, _, ⟨(i : Int), P3 f (i : Int)⟩⟩ : Bm)]).length ≤ 10000000 from hacc), Ai, Ai, hw]
      rfl
    | false =>
      rw [hz] at hacc
      cases hz2 : ((f.Blocks.getD i default).End.Kind == 2) with
      | true =>
        rw [hz2] at hacc; simp only [Ac, Ao, U5, Cu, Dt] at hacc ⊢; rw [hF, mW f l t vs _ hinb, Ai]; simp only; rw [gu f l t vs _ _ _ _ (show (_ ++ [(⟨_, _, ⟨(i : Int), P3 f (i : Int)⟩⟩ : Bm)]).length ≤ 10000000 from hacc), Ai, Ai, hw]
        rfl
      | false =>
        simp only [Ao, U5, Dt, List.append_nil, Ai, hw]) (fun acc => by unfold E4; simp) f.Blocks.length 0 [] (by omega) (by rw [e]; simpa [Bw] using (by omega : (Bw f).length ≤ 10000000))
  rw [e, U5] at this; unfold Ik; rw [show (0 : Int) = ((0 : Nat) : Int) from rfl]
  show ((Ad (E4 f vs) (((0 : Nat) : Int), f.Params, f.Ret, f.Blocks, l, t, [])).bind _) = _
  rw [this, Ai]
  rfl
end
theorem qF{σ X:Type}(mk:Int->σ)(U:List Bm)(p:Bm->Bool)(f:σ->Option (LR σ X))(yes no:X)(hk:∀ i:Nat,i<U.length->f (mk i)=some (bif p (U.getD i default) then .next (mk ((i:Int)+1)) else .done no))(he:f (mk U.length)=some (.done yes)) :
  ∀ k i:Nat,i+k=U.length->Ad f (mk i)=some (bif (U.drop i).all p then yes else no)
 | 0,i,h=>by
  obtain rfl:i=U.length:=by omega
  rw[Ah he]
  simp
 | k+1,i,h=>by
  have hi:i<U.length:=by omega
  have hdr:U.drop i=U.getD i default::U.drop (i+1):=by rw[P7 hi,Ab _ _ _ hi]
  have hx:=hk i hi;rw[hdr,Yl]
  cases hp:p (U.getD i default) with
  | true=>
   rw[hp]at hx;rw[Ar hx,show((i:Int)+1)=((i+1:Nat):Int) by omega,qF mk U p f yes no hk he k (i+1) (by omega),Hx]
  | false=>
   rw[hp]at hx;rw[Ah hx]
   rfl
theorem OD(d:TDef)(l:List TDef)(v:Int):He (d::l) v=bif d.V==v then 0 else bif decide (He l v<0) then -1 else He l v+1:=by
 unfold He;rw[List.findIdx?_cons]
 cases d.V==v with
 | true=>rfl
 | false=>
  cases l.findIdx? (λd=>d.V==v) with
  | none=>rfl
  | some i=>
   simp only[Ao,FA];rw[Cm (by omega)]
   simp
theorem PA(v:Int):∀ l:List TDef,C7 (dv l) v = !decide (He l v<0)
 | []=>rfl
 | d::l=>by
  rw[OD]
  show((v==d.V) || C7 (dv l) v)=_
  rw[PA v l,show(v==d.V)=(d.V==v) by rw[Qm];simp;exact Si]
  cases d.V==v with
  | true=>rfl
  | false=>
   by_cases h:He l v<0
   ·simp[h]
   ·simp[h];omega
theorem EP(v:Int):∀ l:List TDef,¬ He l v<0->mget (default:As) (dv l) v=MJ (defOf l v)
 | [],h=>absurd (show(-1:Int)<0 by decide) h
 | d::l,h=>by
  unfold defOf;rw[OD]at h ⊢
  show(bif v==d.V then MJ d else mget default (dv l) v)=_
  rw[show(v==d.V)=(d.V==v) by rw[Qm];simp;exact Si]
  cases hb:d.V==v with
  | true=>rfl
  | false=>
   rw[hb]at h
   by_cases hn:He l v<0
   ·simp[hn]at h
   ·have hz:decide (He l v<0)=false:=Cm hn;simp only[Ao,hz];rw[EP v l hn,show(He l v+1).toNat=(He l v).toNat+1 by omega]
    rfl
def lC(f:TFunc)(d:TDef):Prop:=d.Block = -1\/(Bd d.Block f.Blocks.length/\d.At<P3 f d.Block/\d.At<1000)
def sT(f:TFunc)(u:Da):Prop:=Bd u.Block f.Blocks.length/\0<=u.At
theorem qa{f:TFunc}(hf:OkF f):∀ d∈defsF f,lC f d:=λd hd=>by
 rcases zzL14.1 hd with h|h
 ·obtain⟨i,_,hi⟩:=zzL76.1 h;rw[zzL18.1 hi];exact .inl rfl
 ·obtain⟨i,hi,h⟩:=zzL76.1 h
  have hi:i<f.Blocks.length:=by simpa using hi
  have hB:=hf.block _ (getD_mem (d:=(default:An)) hi);have ho:P3 f (i:Int)=((f.Blocks.getD i default).Ops.length:Int):=rfl;rcases zzL14.1 h with h|h
  ·obtain⟨k,hk,h⟩:=zzL76.1 h;rw[zzL18.1 h];refine .inr ⟨Aq hi,?_,?_⟩
   ·show(-1:Int)<P3 f (i:Int);rw[ho];omega
   ·show(-1:Int)<1000;omega
  ·obtain⟨k,hk,h⟩:=zzL76.1 h
   have hk:k<(f.Blocks.getD i default).Ops.length:=by simpa using hk
   cases hg:decide (0<(H4 ((f.Blocks.getD i default).Ops.getD k default)).1) with
   | false=>rw[hg]at h;cases h
   | true=>
    rw[hg]at h;rw[zzL18.1 h];refine .inr ⟨Aq hi,?_,?_⟩
    ·show(k:Int)<P3 f (i:Int);rw[ho];omega
    ·show(k:Int)<1000;have:=hB.ops;omega
theorem r9{f:TFunc}(hfit:∀ b∈f.Blocks,∀ p∈b.Phis,p.Args.length<=p.From.length/\∀ x∈p.From,Bd x f.Blocks.length):∀ u∈Bw f,sT f u:=λu hu=>by
 obtain⟨i,hi,h⟩:=zzL76.1 hu
 have hi:i<f.Blocks.length:=by simpa using hi
 have hmem:=getD_mem (d:=(default:An)) hi;rcases zzL14.1 h with h|h
 ·rcases zzL14.1 h with h|h
  ·obtain⟨k,hk,h⟩:=zzL76.1 h
   have hk:k<(f.Blocks.getD i default).Phis.length:=by simpa using hk
   obtain⟨j,hj,h⟩:=zzL76.1 h;have hj:=zzL44.1 hj;have hq:=hfit _ hmem _ (getD_mem (d:=(default:Ig)) hk);rw[zzL18.1 h];exact⟨hq.2 _ (getD_mem (by omega)),by show(0:Int)<=1000;omega⟩
  ·obtain⟨k,hk,h⟩:=zzL76.1 h;obtain⟨j,hj,h⟩:=zzL76.1 h;rw[zzL18.1 h];exact⟨Aq hi,by show(0:Int)<=(k:Int);omega⟩
 ·unfold X1 at h
  have:u=⟨(f.Blocks.getD i default).End.Arg,i,1000,(f.Ret,1)⟩\/u=⟨(f.Blocks.getD i default).End.Arg,i,1000,(1,1)⟩:=by
   rcases zzL14.1 h with h|h
   ·cases hz:((f.Blocks.getD i default).End.Kind==0) with
    | true=>rw[hz]at h;exact .inl (zzL18.1 h)
    | false=>rw[hz]at h;cases h
   ·cases hz:((f.Blocks.getD i default).End.Kind==2) with
    | true=>rw[hz]at h;exact .inr (zzL18.1 h)
    | false=>rw[hz]at h;cases h
  rcases this with rfl|rfl<;>exact⟨Aq hi,by show(0:Int)<=1000;omega⟩
theorem uF{f:TFunc}(h:Ia f=true):∀ b∈f.Blocks,∀ p∈b.Phis,p.Args.length<=p.From.length/\∀ x∈p.From,Bd x f.Blocks.length:=λb hb p hp=>by
 have hs:N8 f=true:=by simp only[Ia,Bc]at h;exact h.1
 refine⟨VW h b hb p hp,λx hx=>?_⟩;obtain⟨i,hi,rfl⟩:=P9 hb;simp only[Ia,Bc]at h;have h1:=lx h.2 i hi;simp only[Mz,Bc,zzL32]at h1;rw[Ab _ _ _ hi]at h1;have h2:=h1.2 p hp;simp only[Hq,Bc,Ff]at h2;rw[h2.1]at hx;obtain⟨q,rfl,hq,_⟩:=(GV (L:=Ct f) (Ry hs) (y:=i) (by rw[AP];exact hi)).1 hx;exact Aq (by rw[AP]at hq;exact hq)
theorem fC{f:TFunc}(h:Ia f=true){b:Int}(hb:Bd b f.Blocks.length):Tu (Ch f) 0 b=true:=by
 have hs:N8 f=true:=by simp only[Ia,Bc]at h;exact h.1
 have hm:=Ry hs;have hlen:=AP f
 have hpos:0<(Ct f).length:=by have:=(shape_iff.1 hs).1.1;omega
 obtain⟨P,hP,o,ht⟩:=ka hm hpos
 have e:Ch f=BB (Ct f) 0:=by
  unfold Ch QR;rw[if_pos ⟨bz hm,Int.le_refl _,by show(0:Int)<((Ct f).length:Int);omega⟩]
  rfl
 obtain⟨k,rfl⟩:∃ k:Nat,b=(k:Int):=⟨b.toNat,(Yk hb.1).symm⟩
 have hk:k<f.Blocks.length:=by have:=hb.2;omega
 simp only[Ia,Bc]at h;have h1:=lx h.2 k hk;simp only[Mz,Bc]at h1;have hr:Rch (sN (Ct f)) 0 k:=(GZ (Yj hm) hpos k).1 h1.1.1;rw[e];refine(ht.over_dom o hpos (by omega)).2 ⟨rc_iff.2 hr,λha=>?_⟩;exact(av_iff.1 ha).1 rfl
theorem Zm{l:List Da}{g:Da->Bm}{p:Bm->Bool}{q:Da->Bool}(h:∀ u∈l,p (g u)=q u):(l.map g).all p=l.all q:=by
 induction l with
 | nil=>rfl
 | cons a l ih=>rw[Cu,Yl,Yl,h a (by simp),ih λu hu=>h u (by simp[hu])]
def qf(vs:List (Int×As))(u:Bm):Bool:=((mget (default:As) vs u.v).shape.1==u.shape.1)&&(((mget (default:As) vs u.v).shape.2==u.shape.2)&&true)
def EH(vs:List (Int×As))(t:List Int)(u:Bm):Bool:=bif (mget (default:As) vs u.v).place.block==u.place.block then decide ((mget (default:As) vs u.v).place.at_<u.place.at_) else Tu t (mget (default:As) vs u.v).place.block u.place.block
theorem lw{f:TFunc}(hs:Ia f=true){D:List TDef}(hD:∀ d∈D,lC f d){u:Da}(hu:sT f u)(hfd:Kw D u=true):EH (dv D) (Ch f) (F0 f u)=Tn D (Ch f) u:=by
 have hF:¬ He D u.V<0:=by simpa [Kw] using hfd
 have hin:=V0 hF;have hd:lC f (defOf D u.V):=hD _ (by unfold defOf;exact getD_mem (by have:=hin.1;have:=hin.2;omega));have hg:mget (default:As) (dv D) (F0 f u).v=MJ (defOf D u.V):=EP u.V D hF;unfold EH Tn;rw[hg]
 generalize defOf D u.V=d at *
 have hub:=hu.1.1
 have hul:0<=P3 f u.Block:=by unfold P3;omega
 have hat:∀ a:Int,a<0\/(a<P3 f u.Block/\a<1000)->decide (a<(F0 f u).place.at_)=decide (a<u.At)\/a<0:=λa ha=>by
  rcases ha with ha|ha
  ·exact .inr ha
  ·refine .inl ?_
   show decide (a<bif u.At==1000 then P3 f u.Block else u.At)=_
   by_cases h:u.At=1000
   ·rw[h];simp only[show((1000:Int)==1000)=true from rfl,Ac];rw[B4 ha.1,B4 ha.2]
   ·have:(u.At==1000)=false:=by simpa using h
    rw[this];rfl
 have hpos:0<=(F0 f u).place.at_:=by
  show 0<=bif u.At==1000 then P3 f u.Block else u.At
  cases u.At==1000
  ·exact hu.2
  ·exact hul
 have hblk:(F0 f u).place.block=u.Block:=rfl;rw[hblk];rcases hd with hd|⟨hd1,hd2,hd3⟩
 ·have e:(MJ d).place=⟨0,-1⟩:=by show qH d=_;unfold qH;rw[hd];rfl
  rw[e,hd,B4 (show(-1:Int)<0 by decide)]
  show(bif (0:Int)==u.Block then decide ((-1:Int)<(F0 f u).place.at_) else Tu (Ch f) 0 u.Block)=_
  rw[Bool.true_or,Bool.true_or,fC hs hu.1,B4 (show(-1:Int)<(F0 f u).place.at_ by omega)]
  cases(0:Int)==u.Block<;>rfl
 ·have hn:¬ d.Block<0:=by have:=hd1.1;omega
  have e:(MJ d).place=⟨d.Block,d.At⟩:=by show qH d=_;unfold qH;rw[Cm hn];rfl
  rw[e,Cm hn,JU]
  show(bif d.Block==u.Block then decide (d.At<(F0 f u).place.at_) else Tu (Ch f) d.Block u.Block)=_
  cases hb:d.Block==u.Block with
  | true=>
   have hbe:d.Block=u.Block:=by simpa using hb
   simp only[Ac,Hx,Ds,FB,Bool.or_false];rcases hat d.At (.inr ⟨by rw[<- hbe];exact hd2,hd3⟩) with h|h
   ·exact h
   ·rw[B4 (by omega),B4 (by have:=hu.2;omega)]
  | false=>
   simp only[Ao,FB,JU,Mt,Hx];unfold Tu
   by_cases hm:P1 (Ch f) d.Block u.Block=d.Block
   ·rw[hm]
    have:(d.Block !=-2)=true:=by simp;omega
    simp[this]
   ·have:(P1 (Ch f) d.Block u.Block==d.Block)=false:=by simpa using hm
    simp[this,bne]
section
variable {f:TFunc} (l:Int) (vs:List (Int×As))
def k6(f:TFunc)(l:Int)(U:List Bm)(i:Int):Int×List Int×Int×List An×Int×List Int×List Bm:=(i,f.Params,f.Ret,f.Blocks,l,Ch f,U)
def ZW(f:TFunc)(l:Int)(U:List Bm):List Int×Int×List An×Int×List Int×List Bm:=(f.Params,f.Ret,f.Blocks,l,Ch f,U)
theorem qT(U:List Bm)(hU:U.length<9223372036854775808):Ad (Et vs (f,l,Ch f,U)) (k6 f l U 0)=some (bif U.all (λu=>C7 vs u.v) then .inl (ZW f l U) else .inr (ZW f l U)):=by
 have:=qF (k6 f l U) U (λu=>C7 vs u.v) (Et vs (f,l,Ch f,U)) (.inl (ZW f l U)) (.inr (ZW f l U)) (λi hi=>by
  unfold Et k6 Ll
  have hd:decide ((i:Int)<(U.length:Int))=true:=by simpa using hi
  simp only[hd,Ac,Ae (Aq hi),Ej,Ai,A4 hi hU]
  cases C7 vs (U.getD i default).v<;>rfl) (by unfold Et k6;simp;rfl) U.length 0 (by omega)
 rw[Hw]at this;exact this
theorem qU(U:List Bm)(hU:U.length<9223372036854775808):Ad (Eu vs U) (k6 f l U 0)=some (bif U.all (qf vs) then .inl (ZW f l U) else .inr (ZW f l U)):=by
 have:=qF (k6 f l U) U (qf vs) (Eu vs U) (.inl (ZW f l U)) (.inr (ZW f l U)) (λi hi=>by
  unfold Eu k6 M5
  have hd:decide ((i:Int)<(U.length:Int))=true:=by simpa using hi
  simp only[hd,Ac,Ae (Aq hi),Ej,Ai,A4 hi hU];unfold qf
  cases(((mget (default:As) vs (U.getD i default).v).shape.1==(U.getD i default).shape.1)&&(((mget (default:As) vs (U.getD i default).v).shape.2==(U.getD i default).shape.2)&&true))<;>rfl) (by unfold Eu k6;simp;rfl) U.length 0 (by omega)
 rw[Hw]at this;exact this
theorem qV(htl:(Ch f).length<=1000)(U:List Bm)(hU:U.length<9223372036854775808):Ad (Ew vs U) (k6 f l U 0)=some (bif U.all (EH vs (Ch f)) then .inl (ZW f l U) else .inr (ZW f l U)):=by
 have:=qF (k6 f l U) U (EH vs (Ch f)) (Ew vs U) (.inl (ZW f l U)) (.inr (ZW f l U)) (λi hi=>by
  have hx:Im (U.getD i default) f l (Ch f) vs U=some (EH vs (Ch f) (U.getD i default),f,l,Ch f,U):=by
   unfold Im EH;rw[uJ htl]
   cases(mget (default:As) vs (U.getD i default).v).place.block==(U.getD i default).place.block<;>rfl
  unfold Ew k6
  have hd:decide ((i:Int)<(U.length:Int))=true:=by simpa using hi
  simp only[hd,Ac,Ae (Aq hi),Ej];rw[show(⟨f.Params,f.Ret,f.Blocks⟩:TFunc)=f from rfl,hx,Ai,A4 hi hU]
  cases EH vs (Ch f) (U.getD i default)<;>rfl) (by unfold Ew k6;simp;rfl) U.length 0 (by omega)
 rw[Hw]at this;exact this
end
def QT(f:TFunc):Int:=bif !(Bw f).all (Kw (defsF f)) then 7 else bif !(Bw f).all (Ut (defsF f)) then 6 else bif !(Bw f).all (Tn (defsF f) (Ch f)) then 7 else 0
theorem uC{f:TFunc}(hf:OkF f)(hs:Ia f=true)(l:Int):∃ U,Kl f l (Ch f) (dv (defsF f)) []=some (QT f,f,l,Ch f,U):=by
 have hfit:=uF hs;have hul:=JK hf
 have hsB:N8 f=true:=by simp only[Ia,Bc]at hs;exact hs.1
 refine⟨(Bw f).map (F0 f),?_⟩
 have hU:((Bw f).map (F0 f)).length<9223372036854775808:=by rw[T7];omega
 have h1:=qT (f:=f) l (dv (defsF f)) _ hU;have h2:=qU (f:=f) l (dv (defsF f)) _ hU;have h3:=qV (f:=f) l (dv (defsF f)) (cy hsB) _ hU;rw[Zm (q:=Kw (defsF f)) (λu _=>PA u.V _)]at h1;unfold Kl QT Vq;rw[ja hf l (Ch f) (dv (defsF f)) hfit,Ai];simp only;rw[show(Ad (Et (dv (defsF f)) (f,l,Ch f,(Bw f).map (F0 f))) ((0:Int),f.Params,f.Ret,f.Blocks,l,Ch f,(Bw f).map (F0 f)))=_ from h1,Ai];have fin:∀ e:Int,Ad O7 (e,f.Params,f.Ret,f.Blocks,l,Ch f,(Bw f).map (F0 f))=some (e,f,l,Ch f,(Bw f).map (F0 f)):=λe=>Ah rfl
 cases hfd:(Bw f).all (Kw (defsF f)) with
 | false=>simp only[Ao,Mt,Ac,ZW,Ai,fin]
 | true=>
  have hmf:=zzL32.1 hfd
  rw[Zm (q:=Ut (defsF f)) (λu hu=>by
   have:=hmf u hu;simp only[Kw,R6,LN]at this;have hg:mget (default:As) (dv (defsF f)) (F0 f u).v=MJ (defOf (defsF f) u.V):=EP u.V _ this;unfold qf Ut
   rw[hg];rfl)]at h2
  rw[Zm (q:=Tn (defsF f) (Ch f)) (λu hu=>lw hs (qa hf) (r9 hfit u hu) (hmf u hu))]at h3;simp only[Ac,Ds,Ao,ZW];rw[show(Ad (Eu (dv (defsF f)) ((Bw f).map (F0 f))) ((0:Int),f.Params,f.Ret,f.Blocks,l,Ch f,(Bw f).map (F0 f)))=_ from h2,Ai]
  cases(Bw f).all (Ut (defsF f)) with
  | false=>simp only[Ao,Mt,Ac,ZW,Ai,fin]
  | true=>
   simp only[Ac,Ds,Ao,ZW];rw[show(Ad (Ew (dv (defsF f)) ((Bw f).map (F0 f))) ((0:Int),f.Params,f.Ret,f.Blocks,l,Ch f,(Bw f).map (F0 f)))=_ from h3,Ai]
   cases(Bw f).all (Tn (defsF f) (Ch f)) with
   | false=>simp only[Ao,Mt,Ac,ZW,Ai,fin]
   | true=>simp only[Ac,Ds,Ao,ZW,Ai]
theorem qW{f:TFunc}(h:Sm f)(l:Int)(h0:0<=l)(h2:l<=2):∃ t u vs,Jz f l [] []=some (Gi f l,f,l,t,u,vs)/\(Gi f l=0->vs=dv (defsF f)):=by
 have hc:Gi f l=bif !Vf f then 4 else QW f l:=by
  unfold Gi;rw[Cm (by omega),Cm (by omega)];rfl
 rw[hc];unfold Jz;rw[uB f h.1,Ai]
 cases hm:Vf f with
 | false=>exact⟨[],[],[],rfl,λh=>by cases h⟩
 | true=>
  have hf:=cn h hm;simp only[Ac,Ds,Ao,show((0:Int)!=0)=false from rfl,QW];obtain⟨t',hsh,hst⟩:=mY hf l [] [];rw[hsh,Ai]
  cases hs:Ia f with
  | false=>exact⟨t',[],[],rfl,λh=>by cases h⟩
  | true=>
   obtain rfl:=hst hs;simp only[Ac,Ds,Ao,show((0:Int)!=0)=false from rfl];rw[qS hf l h0 h2,Ai]
   cases T3 f l with
   | false=>exact⟨Ch f,[],[],rfl,λh=>by cases h⟩
   | true=>
    simp only[Ac,Ds,Ao,show((0:Int)!=0)=false from rfl];obtain⟨vs,hd,hv⟩:=jd hf l (Ch f) [];rw[hd,Ai]
    cases hdd:(List.range (defsF f).length).all (Nb (defsF f)) with
    | false=>exact⟨Ch f,[],vs,rfl,λh=>by cases h⟩
    | true=>
     obtain rfl:=hv hdd;simp only[Ac,Ds,Ao,show((0:Int)!=0)=false from rfl];obtain⟨U,hu⟩:=uC hf hs l;rw[hu,Ai];refine⟨Ch f,U,dv (defsF f),?_,λ_=>rfl⟩
     show(bif QT f !=0 then some (QT f,f,l,Ch f,U,dv (defsF f)) else some (0,f,l,Ch f,U,dv (defsF f)))=some (QT f,f,l,Ch f,U,dv (defsF f))
     cases hz:QT f !=0 with
     | true=>rfl
     | false=>
      have:QT f=0:=by simpa using hz
      rw[this];rfl
def lone(e:N6)(b r:Int):TFunc:=⟨[b],r,[⟨[],[],e⟩]⟩
theorem zQ{α:Type}(l:List α):(l.map λ_=>1).sum=l.length:=by induction l with|nil=>rfl|cons a l ih=>simp[ih];omega
def rj(l:List TDef):List (Int×(Int×Int)):=l.map λd=>(d.V,d.Shape)
theorem Tf{f:TFunc}(h:(List.range (defsF f).length).all (Nb (defsF f))=true):((defsF f).map (·.V)).Nodup:=by
 rw[List.nodup_iff_pairwise_ne,List.pairwise_map,zzL105];intro i j hi hj hij he;have:=((CE hj).1 (lx h j hj)).2 i hij;rw[Ab _ _ _ hi,Ab _ _ _ hj]at this;exact this he
theorem QJ{x1:Int×TFunc×Int×List Int×List Bm×List (Int×As)}(D:List TDef)(hx:x1.2.2.2.2.2=dv D)(hn:(D.map (·.V)).Nodup):∀(τ:List Nat) (acc:List (Int×(Int×Int))),τ.Nodup->(∀ i∈τ,i<D.length)->(∀ i∈τ,C7 acc (D.getD i default).V=false)->
  AQ (Kj x1) Mr τ acc=some (acc++τ.map λi=>((D.getD i default).V,(D.getD i default).Shape))
 | [],acc,_,_,_=>by simp[AQ,Mr]
 | i::τ,acc,hd,hin,hf=>by
  have hi:=hin i (by simp)
  have hg:(dv D).getD i ((0:Int),(default:As))=((D.getD i default).V,MJ (D.getD i default)):=by
   unfold dv;simp[List.getD,hi]
  have hm:=CC (D.getD i default).V (D.getD i default).Shape (hf i (by simp))
  have hstep:Kj x1 i acc=some (.next (acc++[((D.getD i default).V,(D.getD i default).Shape)])):=by
   unfold Kj;rw[hx,hg]
   show some (LR.next (Hn acc (D.getD i default).V ((D.getD i default).Shape.1,(D.getD i default).Shape.2)))=_
   rw[show((D.getD i default).Shape.1,(D.getD i default).Shape.2)=(D.getD i default).Shape from rfl,hm]
  unfold AQ;rw[hstep]
  show AQ _ _ τ _=_
  rw[QJ D hx hn τ _ (zzL82.1 hd).2 (λj hj=>hin j (by simp[hj])) (λj hj=>?_),Cu,Qa]
  ·rfl
  ·have h1:=hf j (by simp[hj]);rw[Zx]at h1 ⊢;rw[List.any_append,h1,JU];have hj':=hin j (by simp[hj]);have hne:j≠i:=λe=>(zzL82.1 hd).1 (e▸hj)
   have:(D.getD j default).V≠(D.getD i default).V:=λe=>by
    rw[List.nodup_iff_pairwise_ne,List.pairwise_map,zzL105]at hn;rw[Ab _ _ _ hi,Ab _ _ _ hj']at e;rcases Nat.lt_or_gt_of_ne hne with h|h
    ·exact hn j i hj' hi h e
    ·exact hn i j hi hj' h e.symm
   simpa using this
theorem bN(f:TFunc)(h:Sm f):∃ s,Pq f=some s/\li f s:=by
 obtain⟨t,u,vs,hw,hv⟩:=qW h 2 (by omega) (by omega);unfold Pq;rw[hw,Ai]
 cases hc:(Gi f 2 !=0) with
 | true=>
  have hne:Gi f 2≠0:=by simpa using hc
  exact⟨[],rfl,λ_=>rfl,λe=>absurd e hne,λe=>absurd e hne,λe=>absurd e hne⟩
 | false=>
  have h0:Gi f 2=0:=by simpa using hc
  obtain rfl:=hv h0;have hz:=(EJ (f:=f) (l:=2) (by omega) (by omega)).1 h0
  have hall:(List.range (defsF f).length).all (Nb (defsF f))=true:=by
   have:=hz.2.2.2;unfold VP at this
   cases hb:(List.range (defsF f).length).all (Nb (defsF f)) with
   | true=>rfl
   | false=>rw[hb]at this;cases this
  have hn:=Tf hall
  have hlen:(mapE (λ(v_:As)=>((.agg (Wu v_)):AV)) (dv (defsF f))).length=(defsF f).length:=by simp[mapE,dv]
  have hkeys:((rj (defsF f)).map (·.1)).Nodup:=by
   have:(rj (defsF f)).map (·.1)=(defsF f).map (·.V):=by unfold rj;rw[List.map_map];rfl
   rw[this];exact hn
  have hrun:∀ τ:List Nat,τ.Perm (List.range (mapE (λ(v_:As)=>((.agg (Wu v_)):AV)) (dv (defsF f))).length)->∃ x',AQ (Kj (Gi f 2,f,2,t,u,dv (defsF f))) Mr τ ([]:List (Int×(Int×Int)))=some x'/\VK x' (rj (defsF f)):=λτ hτ=>by
   rw[hlen]at hτ;have hr:=QJ (x1:=(Gi f 2,f,2,t,u,dv (defsF f))) (defsF f) rfl hn τ [] (hτ.nodup_iff.2 List.nodup_range) (λi hi=>zzL44.1 (hτ.mem_iff.1 hi)) (λ_ _=>rfl);refine⟨_,hr,?_,hkeys⟩;rw[U5];have:=hτ.map λi=>(((defsF f).getD i default).V,((defsF f).getD i default).Shape);refine this.trans ?_
   have e:(List.range (defsF f).length).map (λi=>(((defsF f).getD i default).V,((defsF f).getD i default).Shape))=rj (defsF f):=by
    unfold rj
    apply DX
    ·simp
    ·intro i h1 h2;simp only[T7,DT]at h1;simp only[List.getElem_map,List.getElem_range,Ab _ _ _ h1]
   rw[e]
  obtain⟨s,hs⟩:=kK ⟨rj (defsF f),hrun⟩
  have hp:s.Perm (rj (defsF f))/\(s.map (·.1)).Nodup:=by
   have hsp:=LC hs (List.range _) (List.Perm.refl _);obtain⟨x',h1,h2⟩:=hsp;obtain⟨x2,h3,h4⟩:=hrun (List.range _) (List.Perm.refl _);rw[h1]at h3;obtain rfl:=OI h3;exact⟨h2.1.symm.trans h4.1,h2.2⟩
  refine⟨s,?_,λhne=>absurd h0 hne,λ_=>?_,λ_ d hd=>?_,λ_ v hv=>?_⟩
  ·show(EQ VK _ _ _ _).bind _=_
   rw[hs];rfl
  ·rw[hp.1.length_eq];simp[rj]
  ·have hm:(d.V,d.Shape)∈s:=hp.1.mem_iff.2 (zzL29.2 ⟨d,hd,rfl⟩);exact OZ hp.2 hm
  ·rw[Zx,List.any_eq_true]at hv;obtain⟨q,hq,he⟩:=hv;obtain⟨d,hd,rfl⟩:=zzL29.1 (hp.1.mem_iff.1 hq);exact⟨d,hd,by simpa using(by simpa using he:v=d.V).symm⟩
abbrev bA(f:TFunc)(i:Nat):An:=f.Blocks.getD i default
def y0(f:TFunc)(i:Nat)(k:Nat):Int:=(bA f i).End.To.getD k 0
structure Rt(f:TFunc):Prop where
 lo:1<=f.Blocks.length
 hi:f.Blocks.length<=64
 to:∀ i,i<f.Blocks.length->∀ k,k<(bA f i).End.To.length->0<y0 f i k/\y0 f i k<f.Blocks.length
 one:∀ i,i<f.Blocks.length->(bA f i).End.Kind=1->(bA f i).End.To.length=1
 two:∀ i,i<f.Blocks.length->(bA f i).End.Kind=2->(bA f i).End.To.length=2
 may:Nq (Ct f)=true
 ok:OkF f
set_option maxRecDepth 100000
def zF(f:TFunc)(d:TDef)(b a:Int):Prop:=d.Block<0\/(d.Block=b/\d.At<a)\/(d.Block≠b/\Tu (Ch f) d.Block b=true)
theorem XS{l:List TDef}(hn:(l.map (·.V)).Nodup){d:TDef}(hd:d∈l):0<=He l d.V/\defOf l d.V=d:=by
 obtain⟨i,hi,rfl⟩:=P9 hd
 have hx:∃ k,l.findIdx? (λe=>e.V==l[i].V)=some k:=by
  cases h:l.findIdx? (λe=>e.V==l[i].V) with
  | some k=>exact⟨k,rfl⟩
  | none=>
   have:=List.findIdx?_eq_none_iff.1 h _ (DV hi);simp at this
 obtain⟨k,hk⟩:=hx;obtain⟨hk1,hk2,_⟩:=List.findIdx?_eq_some_iff_getElem.1 hk
 have e:k=i:=by
  have h1:(l.map (·.V))[k]'(by simpa using hk1)=(l.map (·.V))[i]'(by simpa using hi):=by simpa using hk2
  exact(List.getElem_inj hn).1 h1
 subst e;unfold defOf He;rw[hk];refine⟨by simp,?_⟩
 show l.getD ((k:Int)).toNat default=l[k]
 rw[Ap,Ab _ _ _ hi]
structure uz(f:TFunc)(l:Int):Prop where
 may:Vf f=true
 shape:Ia f=true
 typed:T3 f l=true
 rest:VP f=0
theorem re{f:TFunc}{l:Int}(hl:0<=l/\l<=2):Gi f l=0↔uz f l:=
 ⟨λh=>by obtain⟨a,b,c,d⟩:=(EJ hl.1 hl.2).1 h;exact⟨a,b,c,d⟩,λh=>(EJ hl.1 hl.2).2 ⟨h.1,h.2,h.3,h.4⟩⟩
section
variable {f:TFunc} {l:Int} (R:uz f l)
include R
theorem nz{b:An}(hb:b∈f.Blocks){o:Cn}(ho:o∈b.Ops):Nt l o=true:=by
 have h:=R.typed;simp only[T3,Hs,Bc,zzL32]at h;exact(h.1.2 b hb).2 o ho
theorem sr{b:An}(hb:b∈f.Blocks){o:Cn}(ho:o∈b.Ops):K7 o=true:=by
 have:=nz R hb ho;unfold Nt at this;simp only[Bc]at this;exact this.1.1
theorem CK:(List.range (defsF f).length).all (Nb (defsF f))=true/\(∀ u∈Bw f,Kw (defsF f) u=true)/\(∀ u∈Bw f,Ut (defsF f) u=true)/\∀ u∈Bw f,Tn (defsF f) (Ch f) u=true:=by
 have h:=R.rest;unfold VP at h
 cases h1:(List.range _).all _ with
 | false=>rw[h1]at h;cases h
 | true=>grind
theorem fN{d e:TDef}(hd:d∈defsF f)(he:e∈defsF f)(hv:d.V=e.V):d=e:=by
 have hn:=Tf (CK R).1;have h1:=(XS hn hd).2;rw[hv,(XS hn he).2]at h1;exact h1.symm
theorem n4{d:TDef}(hd:d∈defsF f):valS d.V=true:=by
 obtain⟨i,hi,rfl⟩:=P9 hd;have:=((CE hi).1 (lx (CK R).1 i hi)).1;rw[Ab _ _ _ hi]at this;exact this
theorem uc{u:Da}(hu:u∈Bw f):∃ d∈defsF f,d.V=u.V/\d.Shape=u.Shape/\zF f d u.Block u.At:=by
 obtain⟨_,h2,h3,h4⟩:=CK R;have hf:=h2 u hu;have hfit:=h3 u hu;have hdom:=h4 u hu;unfold Kw at hf
 have hneg:¬ He (defsF f) u.V<0:=by simpa using hf
 have hin:=V0 hneg;have hmem:defOf (defsF f) u.V∈defsF f:=getD_mem (by have:=hin.1;have:=hin.2;omega)
 have hV:(defOf (defsF f) u.V).V=u.V:=by
  unfold defOf;unfold He at hneg ⊢
  cases hx:(defsF f).findIdx? (λd=>d.V==u.V) with
  | none=>rw[hx]at hneg;exact absurd (by decide) hneg
  | some i=>
   obtain⟨hi,hp,_⟩:=List.findIdx?_eq_some_iff_getElem.1 hx
   show((defsF f).getD ((i:Int)).toNat default).V=_
   rw[Ap,Ab _ _ _ hi]
   simpa using hp
 refine⟨_,hmem,hV,?_,?_⟩
 ·unfold Ut at hfit;simp only[Bc,zzL71]at hfit;exact Prod.ext hfit.1 hfit.2.1
 ·unfold Tn at hdom;simp only[Wh,Bc,Ff,zzL71,R6,zzL20]at hdom;rcases hdom with(h|h)|⟨h,h'⟩
  ·exact .inl h
  ·exact .inr (.inl h)
  ·by_cases hb:(defOf (defsF f) u.V).Block<0
   ·exact .inl hb
   ·refine .inr (.inr ⟨h,?_⟩);rw[bne_eq_false_iff_eq]at h';unfold Tu;rw[h',Bc];exact⟨by simp,by rw[zzL80];omega⟩
end
theorem ri_def{f:TFunc}{d:TDef}:d∈defsF f↔(∃ i,i<f.Params.length/\d=⟨(i:Int)+1,-1,0,(f.Params.getD i 0,1)⟩) \/
  ∃ i,i<f.Blocks.length/\((∃ k,k<(bA f i).Phis.length/\d=⟨((bA f i).Phis.getD k default).Dst,i,-1,(((bA f i).Phis.getD k default).Bits,1)⟩) \/
   ∃ k,k<(bA f i).Ops.length/\0<(H4 ((bA f i).Ops.getD k default)).1/\d=⟨((bA f i).Ops.getD k default).Dst,i,k,H4 ((bA f i).Ops.getD k default)⟩):=by
 unfold defsF Oc Ny Po Ws;simp only[zzL14,zzL76,zzL44,zzL18]
 constructor
 ·rintro(h|⟨i,hi,⟨k,hk,h⟩|⟨k,hk,h⟩⟩)
  ·exact .inl h
  ·exact .inr ⟨i,hi,.inl ⟨k,hk,h⟩⟩
  ·refine .inr ⟨i,hi,.inr ⟨k,hk,?_⟩⟩
   cases hg:decide (0<(H4 ((f.Blocks.getD i default).Ops.getD k default)).1) with
   | true=>rw[hg]at h;exact⟨HN hg,zzL18.1 h⟩
   | false=>rw[hg]at h;cases h
 ·rintro(h|⟨i,hi,⟨k,hk,h⟩|⟨k,hk,hg,h⟩⟩)
  ·exact .inl h
  ·exact .inr ⟨i,hi,.inl ⟨k,hk,h⟩⟩
  ·exact .inr ⟨i,hi,.inr ⟨k,hk,by rw[B4 hg];exact zzL18.2 h⟩⟩
theorem VX{o:Cn}(hm:K7 o=true):(Gj o).length=o.Args.length/\∀ j,j<o.Args.length->(Gj o).getD j (0,0)=DC o j:=by
 obtain⟨_,_,_,_,hn,_,_⟩:=CB hm
 have ht:Gj o=Rf o:=by unfold Gj;rw[hm];rfl
 have htl:(Rf o).length=o.Args.length:=by unfold Rf;rw[T7,DT];omega
 refine⟨by rw[ht,htl],λj hj=>?_⟩;rw[ht];unfold Rf;rw[Rj (by omega)]
theorem rf {f : TFunc} (hk : ∀ b ∈ f.Blocks, ∀ o ∈ b.Ops, K7 o = true) {u : Da} : u ∈ Bw f ↔ ∃ i, i < f.Blocks.length ∧
    ((∃ k j, k < (bA f i).Phis.length ∧ j < ((bA f i).Phis.getD k default).Args.length ∧ u = ⟨((bA f i).Phis.getD k default).Args.getD j 0, ((bA f i).Phis.getD k default).From.getD j 0, 1000, (((bA f i).Phis.getD k default).Bits, 1)⟩) ∨
     (∃ k j, k < (bA f i).Ops.length ∧ j < ((bA f i).Ops.getD k default).Args.length ∧ u = ⟨((bA f i).Ops.getD k default).Args.getD j 0, i, k, DC ((bA f i).Ops.getD k default) j⟩) ∨
     ((bA f i).End.Kind = 0 ∧ u = ⟨(bA f i).End.Arg, i, 1000, (f.Ret, 1)⟩) ∨ ((bA f i).End.Kind = 2 ∧ u = ⟨(bA f i).End.Arg, i, 1000, (1, 1)⟩)) := by
  unfold Bw DQ Ms Mf Sf Ox X1; simp only [zzL14, zzL76, zzL44, zzL18]
  have hE : ∀ (k c : Int) (x : Da), u ∈ (bif k == c then [x] else []) ↔ (k = c ∧ u = x) := fun k c x => by
    by_cases h : k = c
    · rw [zzL71.2 h]; simp [h]
    · rw [zzL20.2 h]; simp [h]
  simp only [hE]
  constructor
  · rintro ⟨i, hi, (⟨k, hk', j, hj, h⟩ | ⟨k, hk', j, hj, h⟩) | h⟩
    · exact ⟨i, hi, .inl ⟨k, j, hk', hj, h⟩⟩
    · obtain ⟨e1, e2⟩ := VX (hk _ (getD_mem (d := default) hi) _ (getD_mem (d := default) hk')); rw [e1] at hj; rw [e2 j hj] at h; exact ⟨i, hi, .inr (.inl ⟨k, j, hk', hj, h⟩)⟩
    · exact ⟨i, hi, .inr (.inr h)⟩
  · rintro ⟨i, hi, ⟨k, j, hk', hj, h⟩ | ⟨k, j, hk', hj, h⟩ | h⟩
    · exact ⟨i, hi, .inl (.inl ⟨k, hk', j, hj, h⟩)⟩
    · obtain ⟨e1, e2⟩ := VX (hk _ (getD_mem (d := default) hi) _ (getD_mem (d := default) hk')); exact ⟨i, hi, .inl (.inr ⟨k, hk', j, by rw [e1]; exact hj, by rw [e2 j hj]; exact h⟩)⟩
    · exact ⟨i, hi, .inr h⟩
def Qu:List Aj->Int->Int
 | [],_=>0
 | t::r,v=>bif t.V==v then t.Scale else Qu r v
def Fl:Int->List Aj->Bool
 | _,[]=>true
 | lo,t::r=>(decide (lo<t.V)&&decide (t.V<=1023)&&!(t.Scale==0))&&Fl t.V r
def Ok(g:Int->Int):Nat->Nat->List Aj
 | _,0=>[]
 | a,n+1=>bif g (a:Int)==0 then Ok g (a+1) n else⟨(a:Int),g (a:Int)⟩::Ok g (a+1) n
def u6(g:Int->Int):List Aj:=Ok g 1 1023
theorem ER{g h:Int->Int}:∀{n a:Nat},(∀ v:Int,(a:Int)<=v->g v=h v)->Ok g a n=Ok h a n
 | 0,_,_=>rfl
 | n+1,a,e=>by
  unfold Ok;rw[e a (Int.le_refl _),ER (n:=n) (a:=a+1) λv hv=>e v (by omega)]
theorem Wr:∀{l:List Aj} {lo v:Int},Fl lo l=true->v<=lo->Qu l v=0
 | [],_,_,_,_=>rfl
 | t::r,lo,v,h,hv=>by
  simp only[Fl,Bc,Ff]at h;unfold Qu;rw[show(t.V==v)=false from zzL20.2 (by omega),Ao];exact Wr h.2 (by omega)
theorem AO:∀(n a:Nat) {l:List Aj},a+n=1024->Fl ((a:Int)-1) l=true->Ok (Qu l) a n=l
 | 0,a,[],_,_=>rfl
 | 0,a,t::r,h,hm=>by
  simp only[Fl,Bc,Ff]at hm;omega
 | n+1,a,[],h,_=>by
  unfold Ok;rw[show(Qu [] (a:Int)==0)=true from rfl,Ac];exact AO n (a+1) (by omega) rfl
 | n+1,a,t::r,h,hm=>by
  have hm':=hm;simp only[Fl,Bc,Ff,R6,zzL20]at hm;obtain⟨⟨⟨h1,h2⟩,h3⟩,h4⟩:=hm;unfold Ok
  by_cases e:t.V=a
  ·have e1:Qu (t::r) (a:Int)=t.Scale:=by unfold Qu;rw[e];simp
   rw[e1,show(t.Scale==0)=false from zzL20.2 h3,Ao];rw[e]at h4
   have e2:Ok (Qu (t::r)) (a+1) n=Ok (Qu r) (a+1) n:=ER λv hv=>by
    unfold Qu;rw[show(t.V==v)=false from zzL20.2 (by omega),Ao]
    cases r<;>rfl
   rw[e2,AO n (a+1) (by omega) (by rw[show(((a+1:Nat):Int)-1)=a by omega];exact h4),<- e]
  ·have e1:Qu (t::r) (a:Int)=0:=by
    unfold Qu;rw[show(t.V==(a:Int))=false from zzL20.2 e,Ao];exact Wr h4 (by omega)
   rw[e1];simp only[BEq.rfl,Ac];refine AO n (a+1) (by omega) ?_;simp only[Fl,Bc,Ff,R6,zzL20];exact⟨⟨⟨by omega,h2⟩,h3⟩,h4⟩
theorem ly{l:List Aj}(h:Fl 0 l=true):u6 (Qu l)=l:=AO 1023 1 rfl h
theorem YX{g:Int->Int}:∀(n a:Nat) (lo:Int),lo<a->a+n<=1024->Fl lo (Ok g a n)=true
 | 0,_,_,_,_=>rfl
 | n+1,a,lo,h,h2=>by
  unfold Ok
  cases e:g (a:Int)==0 with
  | true=>exact YX n (a+1) lo (by omega) (by omega)
  | false=>
   simp only[Ao,Fl,Bc,Ff,e,Mt,Bx];exact⟨⟨h,by omega⟩,YX n (a+1) a (by omega) (by omega)⟩
theorem qG(g:Int->Int):Fl 0 (u6 g)=true:=YX 1023 1 0 (by omega) (by omega)
theorem iV{g:Int->Int}:∀(n a:Nat),(Ok g a n).length<=n
 | 0,_=>zzL7 _
 | n+1,a=>by
  have:=iV (g:=g) n (a+1);unfold Ok
  cases g (a:Int)==0<;>simp<;>omega
theorem qy{l:List Aj}(h:Fl 0 l=true):l.length<=1023:=by rw[<- ly h];exact iV _ _
theorem NT{x:Ak}(hl:x.Terms.length<9223372036854775808):Gk x=some (Fl 0 x.Terms):=by
 have key:∀(k i:Nat) (lo:Int),i+k=x.Terms.length->Ad (L8 x) (lo,(i:Int))=some (bif Fl lo (x.Terms.drop i) then .inl () else .inr false):=by
  intro k
  induction k with
  | zero=>
   intro i lo h
   obtain rfl:i=x.Terms.length:=by omega
   rw[List.drop_length];exact Ah (by unfold L8;simp only[Fe,Ao];rfl)
  | succ k ih=>
   intro i lo h
   have hi:i<x.Terms.length:=by omega
   have hd:x.Terms.drop i=x.Terms.getD i default::x.Terms.drop (i+1):=by rw[P7 hi,Ab _ _ _ hi]
   rw[hd]
   have hs:L8 x (lo,(i:Int))=some (bif decide (lo<(x.Terms.getD i default).V)&&decide ((x.Terms.getD i default).V<=1023)&&!((x.Terms.getD i default).Scale==0) then .next ((x.Terms.getD i default).V,((i+1:Nat):Int)) else .done (.inr false)):=by
    unfold L8;simp only[C5 hi,Ac,Ap];rw[Aa (Er hi),A4 hi hl]
    generalize x.Terms.getD i default=t
    have a1:decide (t.V<=lo) = !decide (lo<t.V):=by by_cases h:lo<t.V<;>simp[h]<;>omega
    have a2:decide ((1023:Int)<t.V) = !decide (t.V<=1023):=by by_cases h:t.V<=1023<;>simp[h]<;>omega
    rw[a1,a2]
    cases decide (lo<t.V)<;>cases decide (t.V<=1023)<;>cases(t.Scale==0)<;>rfl
   cases hb:(decide (lo<(x.Terms.getD i default).V)&&decide ((x.Terms.getD i default).V<=1023)&&!((x.Terms.getD i default).Scale==0)) with
   | true=>
    rw[hb,Ac]at hs;rw[Ar hs,ih (i+1) _ (by omega)];simp only[Fl,hb,Hx]
   | false=>
    rw[hb,Ao]at hs;rw[Ah hs];simp only[Fl,hb,FB,Ao]
 unfold Gk;have:=key x.Terms.length 0 0 (by omega);rw[show(((0:Nat):Int))=0 from rfl,Hw]at this;rw[this]
 cases Fl 0 x.Terms<;>rfl
def mu(l:List Aj):Int:=match l with|[]=>1024|t::_=>t.V
def u7(l:List Aj)(v:Int):Int×List Aj:=match l with|[]=>(0,[])|t::r=>bif t.V==v then(t.Scale,r) else(0,t::r)
theorem XP(l:List Aj):D8 l=some (mu l):=by
 cases l with
 | nil=>rfl
 | cons t r=>
  unfold D8;rw[show((((t::r).length:Int))==0)=false from zzL20.2 (by simp;omega),Ao,Aa ⟨by omega,by simp⟩]
  rfl
theorem gt(l:List Aj){v:Int}(hv:v<1024):Ez l v=some (u7 l v):=by
 unfold Ez;rw[XP,Ai]
 cases l with
 | nil=>rw[show(mu []!=v)=true from zzL80.2 (by simp[mu];omega)];rfl
 | cons t r=>
  show(bif t.V !=v then _ else _)=some (bif t.V==v then _ else _)
  by_cases e:t.V=v
  ·rw[show(t.V !=v)=false by simp[e],show(t.V==v)=true by simp[e],Ao,Ac,Aa ⟨by omega,by simp⟩,Aa ⟨by omega,by simp only[U4];omega⟩]
   rfl
  ·rw[show(t.V !=v)=true by simp[e],show(t.V==v)=false by simp[e]]
   rfl
theorem sy{l:List Aj}{a:Int}(h:Fl (a-1) l=true):(u7 l a).1=Qu l a/\Fl a (u7 l a).2=true/\∀ v,a<v->Qu (u7 l a).2 v=Qu l v:=by
 cases l with
 | nil=>exact⟨rfl,rfl,λ_ _=>rfl⟩
 | cons t r=>
  have h':=h;simp only[Fl,Bc,Ff]at h
  show(bif t.V==a then(t.Scale,r) else(0,t::r)).1=_/\Fl a (bif t.V==a then(t.Scale,r) else(0,t::r)).2=true/\∀ v,a<v->Qu (bif t.V==a then(t.Scale,r) else(0,t::r)).2 v=_
  by_cases e:t.V=a
  ·rw[show(t.V==a)=true by simp[e]];refine⟨by simp[Qu,e],by rw[<- e];exact h.2,λv hv=>?_⟩;simp only[Qu,show(t.V==v)=false from zzL20.2 (by omega),show(t.V==a)=true by simp[e],Ac,Ao]
  ·rw[show(t.V==a)=false by simp[e]];refine⟨?_,?_,λv hv=>rfl⟩
   ·simp only[Ao,Qu,show(t.V==a)=false by simp[e]];exact(Wr h.2 (by omega)).symm
   ·simp only[Ao,Fl,Bc,Ff];exact⟨⟨⟨by omega,h.1.1.2⟩,h.1.2⟩,h.2⟩
theorem sg{l:List Aj}{a:Int}(h:Fl (a-1) l=true)(ha:a<=1024):a<=mu l:=by
 cases l with
 | nil=>exact ha
 | cons t r=>
  simp only[Fl,Bc,Ff]at h
  show a<=t.V
  omega
theorem nK{l:List Aj}{a:Int}(h:Fl (a-1) l=true)(hn:mu l≠a):Fl a l=true:=by
 cases l with
 | nil=>rfl
 | cons t r=>
  simp only[Fl,Bc,Ff]at h ⊢;have:t.V≠a:=hn;exact⟨⟨⟨by omega,h.1.1.2⟩,h.1.2⟩,h.2⟩
def ud{S X:Type}(g:Int->Int->Int)(mk:List Aj->List Aj->List Aj->S)(out:List Aj->X)(xs ys acc:List Aj):Option (LR S X):=
 bif bif decide ((0:Int)<(xs.length:Int)) then true else decide ((0:Int)<(ys.length:Int)) then
  (D8 xs).bind λp=>(D8 ys).bind λq=>(Ez xs (if q<p then q else p)).bind λu=>(Ez ys (if q<p then q else p)).bind λw=>
   bif g u.1 w.1 !=0 then Bf (acc.length+1<=room) (some (.next (mk u.2 w.2 (acc++[⟨if q<p then q else p,g u.1 w.1⟩])))) else some (.next (mk u.2 w.2 acc))
 else some (.done (out acc))
theorem EN{S X:Type}(g:Int->Int->Int)(mk:List Aj->List Aj->List Aj->S)(out:List Aj->X)(f:S->Option (LR S X))(hf:∀ xs ys acc,f (mk xs ys acc)=ud g mk out xs ys acc)(h0:g 0 0=0) :
  ∀(n a:Nat) (xs ys acc:List Aj),a+n=1024->Fl ((a:Int)-1) xs=true->Fl ((a:Int)-1) ys=true->acc.length+n<=2000->
   Ad f (mk xs ys acc)=some (out (acc++Ok (λv=>g (Qu xs v) (Qu ys v)) a n)):=by
 intro n
 induction n with
 | zero=>
  intro a xs ys acc h hx hy _
  have e:∀{l:List Aj},Fl ((a:Int)-1) l=true->l=[]:=λ{l} hl=>by
   have:=AO 0 a h hl;exact this.symm
  rw[e hx,e hy];refine Ah ?_;rw[hf];simp[ud,Ok]
 | succ n ih=>
  intro a xs ys acc h hx hy hl;have hpa:=sg hx (by omega);have hqa:=sg hy (by omega)
  by_cases hh:mu xs=a\/mu ys=a
  ·have hv:(if mu ys<mu xs then mu ys else mu xs)=(a:Int):=by split<;>omega
   have hne:(bif decide ((0:Int)<(xs.length:Int)) then true else decide ((0:Int)<(ys.length:Int)))=true:=by
    rcases hh with e|e
    ·cases xs with
     | nil=>exact absurd e (by show ¬ ((1024:Int)=a);omega)
     | cons=>simp
    ·cases ys with
     | nil=>exact absurd e (by show ¬ ((1024:Int)=a);omega)
     | cons=>simp
   obtain⟨p1,p2,p3⟩:=sy hx;obtain⟨q1,q2,q3⟩:=sy hy
   have hs:f (mk xs ys acc)=some (.next (mk (u7 xs a).2 (u7 ys a).2 (acc++(bif g (Qu xs a) (Qu ys a)==0 then[] else[⟨(a:Int),g (Qu xs a) (Qu ys a)⟩])))):=by
    rw[hf];unfold ud;rw[hne,Ac,XP,XP];simp only[Ai,hv];rw[gt _ (by omega),gt _ (by omega)];simp only[Ai,p1,q1]
    cases hz:g (Qu xs a) (Qu ys a)==0 with
    | true=>rw[show(g (Qu xs a) (Qu ys a)!=0)=false by simp[bne,hz]];simp
    | false=>
     rw[show(g (Qu xs a) (Qu ys a)!=0)=true by simp[bne,hz],Ac,Aa (by unfold room;omega)]
     rfl
   rw[Ar hs];rw[ih (a+1) _ _ _ (by omega) (by rw[show(((a+1:Nat):Int)-1)=a by omega];exact p2) (by rw[show(((a+1:Nat):Int)-1)=a by omega];exact q2) (by cases g (Qu xs a) (Qu ys a)==0<;>simp<;>omega)];rw[ER (n:=n) (a:=a+1) (h:=λv=>g (Qu xs v) (Qu ys v)) λv hv=>by rw[p3 v (by omega),q3 v (by omega)]]
   congr 2
   rw[Qa]
   congr 1
   conv=>rhs;unfold Ok
   cases g (Qu xs a) (Qu ys a)==0<;>rfl
  ·have hx':=nK hx (by omega);have hy':=nK hy (by omega);rw[ih (a+1) xs ys acc (by omega) (by rw[show(((a+1:Nat):Int)-1)=a by omega];exact hx') (by rw[show(((a+1:Nat):Int)-1)=a by omega];exact hy') (by omega)]
   congr 3
   conv=>rhs;unfold Ok
   rw[Wr hx' (Int.le_refl _),Wr hy' (Int.le_refl _),h0]
   rfl
def Vg(g:Int->Int->Int)(x y:Ak):Ak:=bif Fl 0 x.Terms&&Fl 0 y.Terms then⟨u6 λv=>g (Qu x.Terms v) (Qu y.Terms v),g x.Off y.Off⟩ else⟨[],0⟩
def VC:Ak:=⟨[],0⟩
def d6(a b:Int):Int:=Cl (a+b)
def fT(a b:Int):Int:=Cl (a-b)
def YI(n a _b:Int):Int:=Cl (a*n)
theorem t7{x y:Ak}(hx:x.Terms.length<9223372036854775808)(hy:y.Terms.length<9223372036854775808):Of x y=some (Vg d6 x y):=by
 unfold Of Sc Vg;rw[NT hx,NT hy]
 cases h1:Fl 0 x.Terms with
 | false=>rfl
 | true=>
  cases h2:Fl 0 y.Terms with
  | false=>rfl
  | true=>
   simp only[Ds,BEq.rfl,Ac,Ao,Ai,BI,Oq];rw[EN d6 (λa b c=>(a,b,c)) id Tj (λxs ys acc=>rfl) rfl 1023 1 x.Terms y.Terms [] rfl h1 h2 (by simp)]
   rfl
theorem qQ{x y:Ak}(hx:x.Terms.length<9223372036854775808)(hy:y.Terms.length<9223372036854775808):M4 x y=some (Vg fT x y):=by
 unfold M4 O4 Vg;rw[NT hx,NT hy]
 cases h1:Fl 0 x.Terms with
 | false=>rfl
 | true=>
  cases h2:Fl 0 y.Terms with
  | false=>rfl
  | true=>
   simp only[Ds,BEq.rfl,Ac,Ao,Ai,BI,Nl];rw[EN fT (λa b c=>(a,b,c)) id Qh (λxs ys acc=>rfl) rfl 1023 1 x.Terms y.Terms [] rfl h1 h2 (by simp)]
   rfl
theorem XQ{x:Ak}{n:Int}(hx:x.Terms.length<9223372036854775808):H5 x n=some (Vg (YI n) x VC):=by
 unfold H5 O5 Vg;rw[NT hx,NT (x:=⟨[],0⟩) (by simp)]
 cases h1:Fl 0 x.Terms with
 | false=>rfl
 | true=>
  simp only[Ds,BEq.rfl,Ac,Ao,Ai,BI,Nm,Fl,VC];rw[EN (YI n) (λa b c=>(a,b,c,n)) (λl=>(l,n)) Qi (λxs ys acc=>rfl) (by show Cl (0*n)=0;rw[Int.zero_mul];rfl) 1023 1 x.Terms [] [] rfl h1 rfl (by simp)]
  rfl
theorem ua{x y:Ak}(hx:x.Terms.length<9223372036854775808):H8 x y=some (decide (x=y)):=by
 unfold H8
 by_cases ho:x.Off=y.Off
 ·by_cases hl:x.Terms.length=y.Terms.length
  ·rw[show(x.Off !=y.Off)=false by simp[ho],show(((x.Terms.length:Int))!=(y.Terms.length:Int))=false by simp[hl]];simp only[Ao];have:=iD x.Terms y.Terms default (Gh x y) (.inl ()) (.inr false) hl
    (λi hi he=>by
     unfold Gh;simp only[C5 hi,Ac,Ap];rw[Aa (Er hi),Aa (Er (by omega)),eq_of_beq he,A4 hi hx]
     simp)
    (λi hi he=>by
     unfold Gh;simp only[C5 hi,Ac,Ap];rw[Aa (Er hi),Aa (Er (by omega))]
     have:((x.Terms.getD i default).V==(y.Terms.getD i default).V&&((x.Terms.getD i default).Scale==(y.Terms.getD i default).Scale&&true))=false:=by
      rw[<- he]
      generalize x.Terms.getD i default=s
      generalize y.Terms.getD i default=t
      rw[Qm]
      cases s;cases t
      simp
     rw[this]
     rfl)
    (by unfold Gh;simp only[Fe,Ao]) x.Terms.length 0 (by omega)
   rw[show(((0:Nat):Int))=0 from rfl,Hw,Hw]at this;rw[this]
   cases x;cases y
   simp only at ho hl ⊢;subst ho
   rename_i xs o ys
   by_cases e:xs=ys
   ·simp[e]
   ·rw[Cm (by simp[e]),zzL20.2 e];rfl
  ·rw[show(((x.Terms.length:Int))!=(y.Terms.length:Int))=true by simp;omega];rw[Cm (λe=>hl (by rw[e]))]
   cases(x.Off !=y.Off)<;>rfl
 ·rw[show(x.Off !=y.Off)=true by simp[ho],Cm (λe=>ho (by rw[e]))]
  rfl
theorem gw:∀{l:List Aj} {v:Int},(l.any λt=>t.V==v)=false->Qu l v=0
 | [],_,_=>rfl
 | t::r,v,h=>by
  rw[List.any_cons,RC]at h;unfold Qu;rw[h.1,Ao,gw h.2]
theorem iF:∀{l:List Aj} {lo v:Int},Fl lo l=true->(l.any λt=>t.V==v)=true->lo<v/\v<=1023
 | [],_,_,_,h=>by cases h
 | t::r,lo,v,hm,h=>by
  simp only[Fl,Bc,Ff]at hm;rw[List.any_cons,Wh]at h;rcases h with h|h
  ·rw[<- eq_of_beq h];exact hm.1.1
  ·have:=iF hm.2 h;omega
theorem we{x:Ak}(hm:Fl 0 x.Terms=true):∃ S,Jp x=some ⟨S,x.Off⟩/\∀ v:Nat,v<1024->S.getD v 0=Qu x.Terms v:=by
 have hlen:=qy hm;have key:∀(k i:Nat) (z:Fb) (lo:Int),i+k=x.Terms.length->0<=lo->Fl lo (x.Terms.drop i)=true->∃ S,Ad (Hl x) ((i:Int),z)=some ⟨S,z.Off⟩ /\
   ∀ v:Nat,v<1024->S.getD v 0=bif ((x.Terms.drop i).any λt=>t.V==(v:Int)) then Qu (x.Terms.drop i) v else z.Scale.getD v 0:=by
  intro k
  induction k with
  | zero=>
   intro i z lo h _ _
   obtain rfl:i=x.Terms.length:=by omega
   rw[List.drop_length];exact⟨z.Scale,Ah (by unfold Hl;simp only[Fe,Ao]),λv _=>rfl⟩
  | succ k ih=>
   intro i z lo h h0 hml
   have hi:i<x.Terms.length:=by omega
   have hd:x.Terms.drop i=x.Terms.getD i default::x.Terms.drop (i+1):=by rw[P7 hi,Ab _ _ _ hi]
   rw[hd]at hml ⊢;have hm':=hml;simp only[Fl,Bc,Ff]at hml
   have hs:Hl x ((i:Int),z)=some (.next (((i+1:Nat):Int),⟨Fz 1024 0 z.Scale (x.Terms.getD i default).V.toNat (x.Terms.getD i default).Scale,z.Off⟩)):=by
    unfold Hl;simp only[C5 hi,Ac,Ap];rw[Aa (Er hi),Aa (Er hi),Aa ⟨by omega,by omega⟩,A4 hi (by omega)]
    rfl
   obtain⟨S,h1,h2⟩:=ih (i+1) ⟨Fz 1024 0 z.Scale (x.Terms.getD i default).V.toNat (x.Terms.getD i default).Scale,z.Off⟩ _ (by omega) (by omega) hml.2;refine⟨S,by rw[Ar hs];exact h1,λv hv=>?_⟩;rw[h2 v hv]
   generalize hT:x.Terms.getD i default=T at *
   simp only[List.any_cons,Qu]
   by_cases e:T.V=v
   ·have hn:((x.Terms.drop (i+1)).any λt=>t.V==(v:Int))=false:=by
     cases ha:((x.Terms.drop (i+1)).any λt=>t.V==(v:Int)) with
     | false=>rfl
     | true=>have:=iF hml.2 ha;omega
    rw[hn,Ao,show(T.V==(v:Int))=true by simp[e],Bool.true_or,Ac,Ac,Lr hv,show Nat.beq v T.V.toNat=true by rw[show v=T.V.toNat by omega];exact Nat.beq_refl _,Ac]
   ·rw[show(T.V==(v:Int))=false by simp[e],JU,Ao,Lr hv]
    cases((x.Terms.drop (i+1)).any λt=>t.V==(v:Int)) with
    | true=>rfl
    | false=>
     cases hb:Nat.beq v T.V.toNat with
     | false=>rfl
     | true=>have:=Cq hb;omega
 obtain⟨S,h1,h2⟩:=key x.Terms.length 0 ⟨[],x.Off⟩ 0 (by omega) (Int.le_refl _) hm;refine⟨S,?_,λv hv=>?_⟩
 ·unfold Jp;rw[show(((0:Nat):Int))=0 from rfl]at h1;rw[h1,Ai]
 ·rw[h2 v hv,Hw]
  cases ha:(x.Terms.any λt=>t.V==(v:Int)) with
  | true=>rfl
  | false=>rw[gw ha];rfl
theorem uY(w:Fb):Hc w=some (⟨Ok (λv=>w.Scale.getD v.toNat 0) 0 1024,w.Off⟩,w):=by
 have key:∀(k i:Nat) (l:List Aj),i+k=1024->l.length<=i->Ad (Eb w) ((i:Int),l)=some (l++Ok (λv=>w.Scale.getD v.toNat 0) i k):=by
  intro k
  induction k with
  | zero=>
   intro i l h _
   obtain rfl:i=1024:=by omega
   refine Ah ?_;unfold Eb;simp[Ok]
  | succ k ih=>
   intro i l h hl
   have hi:i<1024:=by omega
   have hd:decide ((i:Int)<(1024:Int))=true:=B4 (by omega)
   have hs:Eb w ((i:Int),l)=some (.next (((i+1:Nat):Int),l++(bif w.Scale.getD i 0==0 then[] else[⟨(i:Int),w.Scale.getD i 0⟩]))):=by
    unfold Eb;simp only[hd,Ac,Ap];rw[Aa (Er hi),Jr (by omega) (by omega)]
    cases hz:w.Scale.getD i 0==0 with
    | true=>rw[show(w.Scale.getD i 0 !=0)=false by simp only[bne,hz];rfl];simp
    | false=>
     rw[show(w.Scale.getD i 0 !=0)=true by simp only[bne,hz];rfl,Ac,Aa (Er hi),Aa (by simp[room];omega)]
     rfl
   have hrow:(bif w.Scale.getD i 0==0 then[] else[(⟨(i:Int),w.Scale.getD i 0⟩:Aj)])++Ok (λv=>w.Scale.getD v.toNat 0) (i+1) k=Ok (λv=>w.Scale.getD v.toNat 0) i (k+1):=by
    conv=>rhs;unfold Ok
    simp only[Ap]
    cases w.Scale.getD i 0==0<;>rfl
   rw[Ar hs,ih (i+1) _ (by omega) (by cases w.Scale.getD i 0==0<;>simp<;>omega),Qa,hrow]
 unfold Hc;have:=key 1024 0 [] (by omega) (by simp);rw[show(((0:Nat):Int))=0 from rfl]at this;rw[this]
 rfl
theorem np{x y:Ak}{n m:Int}(hx:Fl 0 x.Terms=true)(hy:Fl 0 y.Terms=true) :
  Bg x n y m=some ⟨u6 λv=>Cl (Cl (Qu x.Terms v*n)+Cl (Qu y.Terms v*m)),Cl (Cl (x.Off*n)+Cl (y.Off*m))⟩:=by
 obtain⟨A,a1,a2⟩:=we hx;obtain⟨B,b1,b2⟩:=we hy;have key:∀(k i:Nat) (z:Fb),i+k=1024->(∀ v:Nat,i<=v->v<1024->z.Scale.getD v 0=A.getD v 0)->(∀ v:Nat,v<i->z.Scale.getD v 0=Cl (Cl (A.getD v 0*n)+Cl (B.getD v 0*m)))->
   ∃ S,Ad (Gw n m ⟨B,y.Off⟩) ((i:Int),z)=some ⟨S,z.Off⟩/\∀ v:Nat,v<1024->S.getD v 0=Cl (Cl (A.getD v 0*n)+Cl (B.getD v 0*m)):=by
  intro k
  induction k with
  | zero=>
   intro i z h _ h2
   obtain rfl:i=1024:=by omega
   exact⟨z.Scale,Ah (by unfold Gw;simp),h2⟩
  | succ k ih=>
   intro i z h h1 h2
   have hi:i<1024:=by omega
   have hd:decide ((i:Int)<(1024:Int))=true:=B4 (by omega)
   have hs:Gw n m ⟨B,y.Off⟩ ((i:Int),z)=some (.next (((i+1:Nat):Int),⟨Fz 1024 0 z.Scale i (Cl (Cl (z.Scale.getD i 0*n)+Cl (B.getD i 0*m))),z.Off⟩)):=by
    unfold Gw;simp only[hd,Ac,Ap];rw[Aa (Er hi),Aa (Er hi),Aa (Er hi),Jr (by omega) (by omega)]
    rfl
   obtain⟨S,s1,s2⟩:=ih (i+1) ⟨Fz 1024 0 z.Scale i (Cl (Cl (z.Scale.getD i 0*n)+Cl (B.getD i 0*m))),z.Off⟩ (by omega)
    (λv hv hv2=>by
     dsimp only
     rw[Lr hv2]
     cases hb:Nat.beq v i with
     | false=>exact h1 v (by omega) hv2
     | true=>have:=Cq hb;omega)
    (λv hv=>by
     dsimp only
     rw[Lr (by omega)]
     cases hb:Nat.beq v i with
     | true=>obtain rfl:=Cq hb;rw[Ac,h1 _ (zzL7 _) hi]
     | false=>
      have:v≠i:=by rintro rfl;rw[Nat.beq_refl]at hb;cases hb
      exact h2 v (by omega))
   exact⟨S,by rw[Ar hs];exact s1,s2⟩
 obtain⟨S,s1,s2⟩:=key 1024 0 ⟨A,x.Off⟩ (by omega) (λv _ _=>rfl) (λv hv=>by omega);unfold Bg;rw[a1,Ai,b1,Ai];rw[show(((0:Nat):Int))=0 from rfl]at s1;rw[s1,Ai,uY,Ai]
 have e:∀(k i:Nat),i+k<=1024->Ok (λv=>S.getD v.toNat 0) i k=Ok (λv=>Cl (Cl (Qu x.Terms v*n)+Cl (Qu y.Terms v*m))) i k:=by
  intro k
  induction k with
  | zero=>intros;rfl
  | succ k ih=>
   intro i h;unfold Ok;rw[ih (i+1) (by omega)];simp only[Ap];rw[s2 i (by omega),a2 i (by omega),b2 i (by omega)]
 have e0:Ok (λv=>S.getD v.toNat 0) 0 1024=u6 λv=>Cl (Cl (Qu x.Terms v*n)+Cl (Qu y.Terms v*m)):=by
  rw[e 1024 0 (by omega)]
  show Ok _ 0 (1023+1)=Ok _ 1 1023
  conv=>lhs;unfold Ok
  rw[show(((0:Nat):Int))=0 from rfl,Wr hx (Int.le_refl _),Wr hy (Int.le_refl _),Int.zero_mul,Int.zero_mul]
  rfl
 rw[e0]
theorem rB(a b:Int):Cl (Cl (a*1)+Cl (b*1))=d6 a b:=by unfold d6;simp only[BD];omega
theorem rD(a b:Int):Cl (Cl (a*1)+Cl (b*18446744073709551615))=fT a b:=by unfold fT;simp only[BD];omega
theorem rC(a b n:Int):Cl (Cl (a*n)+Cl (b*0))=YI n a b:=by unfold YI;rw[Int.mul_zero];simp only[BD];generalize a*n=c;omega
theorem YH{g:Int->Int->Int}{x y:Ak}(hx:Fl 0 x.Terms=true)(hy:Fl 0 y.Terms=true):Vg g x y=⟨u6 λv=>g (Qu x.Terms v) (Qu y.Terms v),g x.Off y.Off⟩:=by
 unfold Vg;rw[hx,hy];rfl
theorem uZ{x y:Ak}(hx:Fl 0 x.Terms=true)(hy:Fl 0 y.Terms=true):Bg x 1 y 1=some (Vg d6 x y):=by
 rw[np hx hy,YH hx hy];simp only[rB]
theorem rT{x y:Ak}(hx:Fl 0 x.Terms=true)(hy:Fl 0 y.Terms=true):Bg x 1 y 18446744073709551615=some (Vg fT x y):=by
 rw[np hx hy,YH hx hy];simp only[rD]
theorem YU{x:Ak}{n:Int}(hx:Fl 0 x.Terms=true):Bg x n ⟨[],0⟩ 0=some (Vg (YI n) x VC):=by
 rw[np hx rfl,YH hx rfl];simp only[rC]
 rfl
theorem nN(g:Int->Int->Int)(x y:Ak):Fl 0 (Vg g x y).Terms=true:=by
 unfold Vg
 cases Fl 0 x.Terms&&Fl 0 y.Terms with
 | false=>rfl
 | true=>rw[Ac];exact qG (λv=>g (Qu x.Terms v) (Qu y.Terms v))
theorem Zy{V:Type}(k v:Int)(x:V):∀ l:List (Int×V),C7 (Hn l k x) v=(v==k || C7 l v)
 | []=>by simp[Hn,C7]
 | (a,b)::r=>by
  unfold Hn
  by_cases e:k=a
  ·subst e;simp only[BEq.rfl,Ac,C7]
   cases(v==k)<;>simp
  ·rw[show(k==a)=false by simp[e],Ao];simp only[C7,Zy k v x r]
   cases(v==a)<;>cases(v==k)<;>simp
theorem GL{V:Type}(d:V)(k v:Int)(x:V):∀ l:List (Int×V),mget d (Hn l k x) v=bif v==k then x else mget d l v
 | []=>by simp only[Hn,mget]
 | (a,b)::r=>by
  unfold Hn
  by_cases e:k=a
  ·subst e;simp only[BEq.rfl,Ac,mget]
   cases(v==k)<;>rfl
  ·rw[show(k==a)=false by simp[e],Ao];simp only[mget,GL d k v x r]
   by_cases h:v=a
   ·subst h;rw[show(v==k)=false from zzL20.2 (Ne.symm e)]
    simp
   ·rw[show(v==a)=false by simp[h]];rfl
def ownT(v:Int):Ak:=⟨[⟨v,1⟩],0⟩
def mkT(k:Int)(a b:Ak):Option Ak:=
 bif k==1 then some (Vg d6 a b) else bif k==2 then some (Vg fT a b)
 else bif (k==3)&&((b.Terms.length:Int)==0) then some (Vg (YI b.Off) a VC) else bif (k==3)&&((a.Terms.length:Int)==0) then some (Vg (YI a.Off) b VC)
 else bif ((k==8)&&((b.Terms.length:Int)==0))&&decide (b.Off<64) then some (Vg (YI (EU .u64 1 b.Off)) a VC) else none
def OM(k:Int):Bool:=k==0 || (k==1 || (k==2 || (k==3 || k==8)))
def mi(v:Int):Option Ak->Ak
 | some y=>bif decide ((16:Int)<(y.Terms.length:Int)) then ownT v else y
 | none=>ownT v
def fmN(D:Int->Option Cn):Nat->Int->Ak
 | 0,v=>ownT v
 | n+1,v=>match D v with
  | none=>ownT v
  | some o=>bif o.Kind==0 then⟨[],o.Imm⟩ else mi v (mkT o.Kind (fmN D n (o.Args.getD 0 0)) (fmN D n (o.Args.getD 1 0)))
structure pG(D:Int->Option Cn)(G:Int->Prop)(rk:Int->Nat):Prop where
 rng:∀ v,G v->1<=v/\v<=1023
 kind:∀ v o,G v->D v=some o->OM o.Kind=true
 args:∀ v o,G v->D v=some o->o.Kind≠0->o.Args.length=2/\(G (o.Args.getD 0 0)/\rk (o.Args.getD 0 0)<rk v)/\G (o.Args.getD 1 0)/\rk (o.Args.getD 1 0)<rk v
 imm:∀ v o,G v->D v=some o->0<=o.Imm
section
variable {D:Int->Option Cn} {G:Int->Prop} {rk:Int->Nat} (W:pG D G rk)
include W
theorem W1:∀(n:Nat) (v:Int) (m:Nat),G v->rk v<n->rk v<m->fmN D n v=fmN D m v
 | 0,_,_,_,h,_=>absurd h (Qb _)
 | _,_,0,_,_,h=>absurd h (Qb _)
 | n+1,v,m+1,hg,h1,h2=>by
  unfold fmN
  cases hd:D v with
  | none=>rfl
  | some o=>
   by_cases h0:o.Kind=0
   ·simp[h0]
   ·obtain⟨_,⟨g0,r0⟩,g1,r1⟩:=W.args v o hg hd h0;simp only;rw[W1 n _ m g0 (by omega) (by omega),W1 n _ m g1 (by omega) (by omega)]
omit W in
theorem JM(n:Int):0<=Cl n:=by rw[BD];omega
omit W in
theorem sl{k:Int}{a b y:Ak}(h:mkT k a b=some y):Fl 0 y.Terms=true/\0<=y.Off:=by
 have key:∀(g:Int->Int->Int) (a b:Ak),(∀ x y,0<=g x y)->Fl 0 (Vg g a b).Terms=true/\0<=(Vg g a b).Off:=λg a b hg=>by
  refine⟨nN g a b,?_⟩;unfold Vg
  cases Fl 0 a.Terms&&Fl 0 b.Terms with
  | false=>exact Int.le_refl _
  | true=>exact hg _ _
 have e1:∀ x y,0<=d6 x y:=λx y=>JM _;have e2:∀ x y,0<=fT x y:=λx y=>JM _;have e3:∀ n x y,0<=YI n x y:=λn x y=>JM _;unfold mkT at h
 cases c1:k==1 with
 | true=>rw[c1]at h;cases h;exact key _ _ _ e1
 | false=>
  rw[c1,Ao]at h
  cases c2:k==2 with
  | true=>rw[c2]at h;cases h;exact key _ _ _ e2
  | false=>
   rw[c2,Ao]at h
   cases c3:(k==3)&&((b.Terms.length:Int)==0) with
   | true=>rw[c3]at h;cases h;exact key _ _ _ (e3 _)
   | false=>
    rw[c3,Ao]at h
    cases c4:(k==3)&&((a.Terms.length:Int)==0) with
    | true=>rw[c4]at h;cases h;exact key _ _ _ (e3 _)
    | false=>
     rw[c4,Ao]at h
     cases c5:((k==8)&&((b.Terms.length:Int)==0))&&decide (b.Off<64) with
     | true=>rw[c5]at h;cases h;exact key _ _ _ (e3 _)
     | false=>rw[c5]at h;cases h
omit W in
theorem uW{v:Int}(h1:1<=v)(h2:v<=1023):Fl 0 (ownT v).Terms=true/\0<=(ownT v).Off/\(ownT v).Terms.length<=16:=by
 refine⟨?_,Int.le_refl _,by simp[ownT]⟩;simp only[ownT,Fl,JV,Bc,Ff];exact⟨⟨by omega,h2⟩,rfl⟩
theorem bb:∀(n:Nat) (v:Int),G v->Fl 0 (fmN D n v).Terms=true/\0<=(fmN D n v).Off/\(fmN D n v).Terms.length<=16:=λn v hg=>by
 have ho:=uW (W.rng v hg).1 (W.rng v hg).2
 cases n with
 | zero=>exact ho
 | succ n=>
  unfold fmN
  cases hd:D v with
  | none=>exact ho
  | some o=>
   simp only
   cases h0:o.Kind==0 with
   | true=>exact⟨rfl,W.imm v o hg hd,by simp⟩
   | false=>
    rw[Ao]
    cases hm:mkT o.Kind (fmN D n (o.Args.getD 0 0)) (fmN D n (o.Args.getD 1 0)) with
    | none=>exact ho
    | some y=>
     unfold mi;simp only
     by_cases hl:(16:Int)<(y.Terms.length:Int)
     ·rw[B4 hl];exact ho
     ·rw[Cm hl];exact⟨(sl hm).1,(sl hm).2,by simp only[Ao];omega⟩
end
theorem tv{k:Int}{a b:Ak}(ha:a.Terms.length<9223372036854775808)(hb:b.Terms.length<9223372036854775808)(h0:0<=b.Off) :
  Og k a b=some (match mkT k a b with|some y=>(y,true)|none=>(⟨[],0⟩,false)):=by
 unfold Og mkT Ki;rw[t7 ha hb,qQ ha hb,XQ ha,XQ hb,XQ ha,Aa h0]
 by_cases k1:k=1
 ·subst k1;rfl
 ·by_cases k2:k=2
  ·subst k2;rfl
  ·rw[show(k==1)=false by simp[k1],show(k==2)=false by simp[k2]];simp only[Ao]
   by_cases k3:k=3
   ·subst k3
    cases((b.Terms.length:Int)==0)<;>cases((a.Terms.length:Int)==0)<;>rfl
   ·rw[show(k==3)=false by simp[k3]]
    by_cases k8:k=8
    ·subst k8
     cases((b.Terms.length:Int)==0)<;>cases decide (b.Off<(64:Int))<;>rfl
    ·rw[show(k==8)=false by simp[k8]];rfl
def dt(M:List (Int×Cn))(D:Int->Option Cn)(G:Int->Prop):Prop:=∀ v,G v->C7 M v=(D v).isSome/\∀ o,D v=some o->mget default M v=o
section
variable {D:Int->Option Cn} {G:Int->Prop} {rk:Int->Nat} (W:pG D G rk)
include W
theorem kI{M:List (Int×Cn)}(hM:dt M D G):∀(r:Nat) (v:Int) (fd:List (Int×Ak)),G v->rk v<r->(∀ x,G x->C7 fd x=true->mget default fd x=fmN D (rk x+1) x)->
  ∃ fd',(∀ n,2*r<=n->B3 n v M fd=some (fmN D (rk v+1) v,fd'))/\∀ x,G x->C7 fd' x=true->mget default fd' x=fmN D (rk x+1) x:=by
 intro r
 induction r with
 | zero=>intro v fd _ h;exact absurd h (Qb _)
 | succ r ih=>
  intro v fd hg hr hfd;have step:∀ fd':List (Int×Ak),(∀ n,2*r<=n->Cv (B3 (n+1)) (C8 (n+1)) v M fd=some (fmN D (rk v+1) v,fd'))->
    ∀ n,2*(r+1)<=n->B3 n v M fd=some (fmN D (rk v+1) v,fd'):=λfd' h n hn=>by
   obtain⟨n,rfl⟩:∃ m,n=m+2:=⟨n-2,by omega⟩;exact h n (by omega)
  have fin:∀(s:Option (Ak×Bool×List (Int×Ak))) (y:Ak) (b:Bool) (fd':List (Int×Ak)),s=some (y,b,fd')->(bif (bif (!b) then true else decide ((16:Int)<(y.Terms.length:Int))) then ownT v else y)=fmN D (rk v+1) v->
    (s.bind λx1=>(Option.bind (α:=(List (Aj)×Int)) (bif (bif (!x1.2.1) then true else(decide (((16:Int):Int)<(x1.1.Terms.length:Int)))) then(some ((([(⟨v,(1:Int)⟩:Aj)]:List (Aj)),(0:Int)))) else(some ((x1.1.Terms,x1.1.Off)))) (λx4=>(match x4 with|(l2,i3)=>(some ((⟨l2,i3⟩:Ak),(Hn x1.2.2 v (⟨l2,i3⟩:Ak))))))))
    = some (fmN D (rk v+1) v,Hn fd' v (fmN D (rk v+1) v)):=λs y b fd' hs hy=>by
   rw[hs,Ai,<- hy]
   cases b with
   | false=>rfl
   | true=>
    simp only[Ds,Ao]
    cases decide ((16:Int)<(y.Terms.length:Int))<;>rfl
  have put:∀(fd':List (Int×Ak)),(∀ x,G x->C7 fd' x=true->mget default fd' x=fmN D (rk x+1) x)->∀ x,G x->C7 (Hn fd' v (fmN D (rk v+1) v)) x=true->mget default (Hn fd' v (fmN D (rk v+1) v)) x=fmN D (rk x+1) x:=λfd' h x hx hh=>by
   rw[GL]
   by_cases e:x=v
   ·subst e;simp
   ·rw[Zy,show(x==v)=false by simp[e],JU]at hh;rw[show(x==v)=false by simp[e],Ao];exact h x hx hh
  cases hh:C7 fd v with
  | true=>exact⟨fd,step fd (λn hn=>by unfold Cv;rw[hh,Ac,hfd v hg hh]),hfd⟩
  | false=>
   obtain⟨hM1,hM2⟩:=hM v hg
   have hF:fmN D (rk v+1) v=match D v with
    | none=>ownT v
    | some o=>bif o.Kind==0 then⟨[],o.Imm⟩ else mi v (mkT o.Kind (fmN D (rk v) (o.Args.getD 0 0)) (fmN D (rk v) (o.Args.getD 1 0))):=rfl
   have hsum:∀ n,C8 (n+1) v M fd=Dw (B3 n) (C8 n) v M fd:=λn=>rfl
   cases hd:D v with
   | none=>
    rw[hd]at hM1 hF;refine⟨_,step _ λn hn=>?_,put fd hfd⟩;unfold Cv;rw[hh,Ao,hsum];refine fin _ ⟨[],0⟩ false fd ?_ (by rw[hF];rfl);unfold Dw;rw[hM1]
    rfl
   | some o=>
    rw[hd]at hM1 hF;have hg2:=hM2 o hd
    by_cases h0:o.Kind=0
    ·refine⟨_,step _ λn hn=>?_,put fd hfd⟩;unfold Cv;rw[hh,Ao,hsum];refine fin _ ⟨[],o.Imm⟩ true fd ?_ (by rw[hF];dsimp only;rw[h0];rfl);unfold Dw;rw[hM1,hg2,h0]
     rfl
    ·obtain⟨hl,⟨g0,r0⟩,g1,r1⟩:=W.args v o hg hd h0;obtain⟨f1,a1,a2⟩:=ih _ fd g0 (by omega) hfd;obtain⟨f2,b1,b2⟩:=ih _ f1 g1 (by omega) a2;rw[W1 W _ _ (rk v) g0 (by omega) r0]at a1;rw[W1 W _ _ (rk v) g1 (by omega) r1]at b1;obtain⟨p1,p2,p3⟩:=bb W (rk v) _ g0;obtain⟨q1,q2,q3⟩:=bb W (rk v) _ g1;have hmade:=tv (k:=o.Kind) (a:=fmN D (rk v) (o.Args.getD 0 0)) (b:=fmN D (rk v) (o.Args.getD 1 0)) (by omega) (by omega) q2
     have hrun:∀ n,2*r<=n->Dw (B3 n) (C8 n) v M fd=(Og o.Kind (fmN D (rk v) (o.Args.getD 0 0)) (fmN D (rk v) (o.Args.getD 1 0))).bind λx5=>some (x5.1,x5.2,f2):=λn hn=>by
      unfold Dw;rw[hM1,hg2];simp only[Option.isSome_some,Ds,Ao,show(o.Kind==(0:Int))=false from zzL20.2 h0];rw[Aa ⟨by omega,by omega⟩,show((0:Int)).toNat=0 from rfl,a1 n hn,Ai,Aa ⟨by omega,by omega⟩,show((1:Int)).toNat=1 from rfl];simp only;rw[b1 n hn,Ai]
     dsimp only at hF
     rw[show(o.Kind==0)=false from zzL20.2 h0,Ao]at hF
     cases hm:mkT o.Kind (fmN D (rk v) (o.Args.getD 0 0)) (fmN D (rk v) (o.Args.getD 1 0)) with
     | none=>
      rw[hm]at hF hmade;refine⟨_,step _ λn hn=>?_,put f2 b2⟩;unfold Cv;rw[hh,Ao,hsum,hrun n hn,hmade,Ai];exact fin _ ⟨[],0⟩ false f2 rfl (by rw[hF];rfl)
     | some y=>
      rw[hm]at hF hmade;refine⟨_,step _ λn hn=>?_,put f2 b2⟩;unfold Cv;rw[hh,Ao,hsum,hrun n hn,hmade,Ai];exact fin _ y true f2 rfl (by rw[hF];rfl)
theorem fE{M:List (Int×Cn)}(hM:dt M D G){v:Int}(hg:G v):∃ fd,Kh v M []=some (fmN D (rk v+1) v,fd):=by
 obtain⟨fd,h,_⟩:=kI W hM (rk v+1) v [] hg (Nat.lt_succ_self _) (λx _ h=>by cases h);exact⟨fd,g7 _ λm hm=>h m hm⟩
end
def lD(O:List Cn)(D:Int->Option Cn)(G:Int->Prop):Prop:=∀ v,G v->
 (∀ o,D v=some o->O.getD v.toNat default=o/\o.Dst=v/\o.Bits=64/\o.Lanes=1) /\
 (D v=none->¬ ((O.getD v.toNat default).Dst=v/\(O.getD v.toNat default).Bits=64/\(O.getD v.toNat default).Lanes=1/\OM (O.getD v.toNat default).Kind=true))
theorem wg{k:Int}{a b own:Ak}{z:A6}(ha:Fl 0 a.Terms=true)(hb:Fl 0 b.Terms=true)(h0:0<=b.Off)(hk:OM k=true)(hk0:k≠0) :
  (Option.bind (α:=(Unit ⊕ (Ak×A6))) (bif (k==(1:Int)) then((Bg a (1:Int) b (1:Int)).bind λx5=>(some ((.inr (x5,z))))) else(bif (k==(2:Int)) then((Bg a (1:Int) b (18446744073709551615:Int)).bind λx6=>(some ((.inr (x6,z))))) else(bif (k==(3:Int)) then(bif (((b.Terms.length:Int):Int)==(0:Int)) then((Bg a b.Off (⟨([]:List Aj),(0:Int)⟩:Ak) (0:Int)).bind λx7=>(some ((.inr (x7,z))))) else(bif (((a.Terms.length:Int):Int)==(0:Int)) then((Bg b a.Off (⟨([]:List Aj),(0:Int)⟩:Ak) (0:Int)).bind λx8=>(some ((.inr (x8,z))))) else(some ((.inl ()))))) else(bif (k==(8:Int)) then(bif (bif (((b.Terms.length:Int):Int)==(0:Int)) then(decide ((b.Off:Int)<(64:Int))) else false) then(Bf (0<=b.Off) ((Bg a (EU .u64 (1:Int) b.Off) (⟨([]:List Aj),(0:Int)⟩:Ak) (0:Int)).bind λx10=>(some ((.inr (x10,z)))))) else(some ((.inl ())))) else(some ((.inl ()))))))) (λx11=>(match x11 with|(.inl _)=>(some (own,z))|(.inr r13)=>(some r13))))
  = some ((mkT k a b).getD own,z):=by
 have hk':k=1\/k=2\/k=3\/k=8:=by
  simp only[OM,Wh,zzL71]at hk;omega
 rw[uZ ha hb,rT ha hb,YU ha,YU hb,YU ha,Aa h0];unfold mkT;rcases hk' with rfl|rfl|rfl|rfl
 ·rfl
 ·rfl
 ·cases((b.Terms.length:Int)==0)<;>cases((a.Terms.length:Int)==0)<;>rfl
 ·cases((b.Terms.length:Int)==0)<;>cases decide (b.Off<(64:Int))<;>rfl
section
variable {D:Int->Option Cn} {G:Int->Prop} {rk:Int->Nat} (W:pG D G rk)
include W
theorem rV{O:List Cn}(hO:lD O D G):∀(r:Nat) (v:Int) (z:A6),G v->rk v<r->z.Op=O->(∀ x,G x->z.Found.getD x.toNat false=true->z.Form.getD x.toNat default=fmN D (rk x+1) x)->
  ∃ z',(∀ n,2*r<=n->Bi n z v=some (fmN D (rk v+1) v,z'))/\z'.Op=O/\∀ x,G x->z'.Found.getD x.toNat false=true->z'.Form.getD x.toNat default=fmN D (rk x+1) x:=by
 intro r
 induction r with
 | zero=>intro v z _ h;exact absurd h (Qb _)
 | succ r ih=>
  intro v z hg hr hzo hz;subst hzo;obtain⟨v1,v2⟩:=W.rng v hg;have hin:Bd v 1024:=⟨by omega,by omega⟩;have step:∀ z':A6,(∀ n,2*r<=n->B5 (Bi (n+1)) (Bp (n+1)) z v=some (fmN D (rk v+1) v,z'))->
    ∀ n,2*(r+1)<=n->Bi n z v=some (fmN D (rk v+1) v,z'):=λz' h n hn=>by
   obtain⟨n,rfl⟩:∃ m,n=m+2:=⟨n-2,by omega⟩;exact h n (by omega)
  have put:∀(z':A6),z'.Op=z.Op->(∀ x,G x->z'.Found.getD x.toNat false=true->z'.Form.getD x.toNat default=fmN D (rk x+1) x)->
    (⟨z'.Op,Fz 1024 false z'.Found v.toNat true,Fz 1024 default z'.Form v.toNat (fmN D (rk v+1) v)⟩:A6).Op=z.Op /\
    ∀ x,G x->(⟨z'.Op,Fz 1024 false z'.Found v.toNat true,Fz 1024 default z'.Form v.toNat (fmN D (rk v+1) v)⟩:A6).Found.getD x.toNat false=true->
     (⟨z'.Op,Fz 1024 false z'.Found v.toNat true,Fz 1024 default z'.Form v.toNat (fmN D (rk v+1) v)⟩:A6).Form.getD x.toNat default=fmN D (rk x+1) x:=λz' ho h=>by
   refine⟨ho,λx hx hf=>?_⟩;have hxr:=W.rng x hx
   dsimp only at hf ⊢
   rw[Lr (by omega)]at hf ⊢
   by_cases e:x=v
   ·subst e;rw[Nat.beq_refl];rfl
   ·have hb:Nat.beq x.toNat v.toNat=false:=by
     cases hb:Nat.beq x.toNat v.toNat with
     | false=>rfl
     | true=>have:=Cq hb;omega
    rw[hb]at hf ⊢;exact h x hx hf
  cases hh:z.Found.getD v.toNat false with
  | true=>exact⟨z,step z (λn hn=>by unfold B5;rw[Aa hin,hh,Ac,Aa hin,hz v hg hh]),rfl,hz⟩
  | false=>
   obtain⟨hO1,hO2⟩:=hO v hg
   have hF:fmN D (rk v+1) v=match D v with
    | none=>ownT v
    | some o=>bif o.Kind==0 then⟨[],o.Imm⟩ else mi v (mkT o.Kind (fmN D (rk v) (o.Args.getD 0 0)) (fmN D (rk v) (o.Args.getD 1 0))):=rfl
   have htwo:∀ n,Bp (n+1)=Eo (Bi n) (Bp n):=λn=>rfl
   cases hd:D v with
   | none=>
    rw[hd]at hF
    dsimp only at hF
    obtain⟨q1,q2⟩:=put z rfl hz;refine⟨_,step _ λn hn=>?_,q1,q2⟩;have hno:=hO2 hd;unfold B5;rw[Aa hin,hh,Ao,Aa hin,hF]
    generalize z.Op.getD v.toNat default=o at hno ⊢
    by_cases c1:o.Dst=v
    ·by_cases c2:o.Bits=64
     ·by_cases c3:o.Lanes=1
      ·have hk:OM o.Kind=false:=by
        cases hk:OM o.Kind with
        | false=>rfl
        | true=>exact absurd ⟨c1,c2,c3,hk⟩ hno
       simp only[OM,RC]at hk;obtain⟨k0,k1,k2,k3,k8⟩:=hk;rw[show(o.Dst==v)=true by simp[c1],show(o.Bits==(64:Int))=true by simp[c2],show(o.Lanes==(1:Int))=true by simp[c3],k0,k1,k2,k3,k8];simp only[Ac,Ao,Ai,T6,show decide ((((1:Nat):Int))<=(16:Int))=true from rfl];rw[Aa hin,Aa hin]
       rfl
      ·rw[show(o.Dst==v)=true by simp[c1],show(o.Bits==(64:Int))=true by simp[c2],show(o.Lanes==(1:Int))=false by simp[c3]];simp only[Ac,Ao,Ai];rw[Aa hin,Aa hin]
       rfl
     ·rw[show(o.Dst==v)=true by simp[c1],show(o.Bits==(64:Int))=false by simp[c2]];simp only[Ac,Ao,Ai];rw[Aa hin,Aa hin]
      rfl
    ·rw[show(o.Dst==v)=false by simp[c1]];simp only[Ac,Ao,Ai];rw[Aa hin,Aa hin]
     rfl
   | some o=>
    rw[hd]at hF
    dsimp only at hF
    obtain⟨o1,o2,o3,o4⟩:=hO1 o hd
    by_cases h0:o.Kind=0
    ·obtain⟨q1,q2⟩:=put z rfl hz;refine⟨_,step _ λn hn=>?_,q1,q2⟩;unfold B5;rw[Aa hin,hh,Ao,Aa hin,o1,o2,o3,o4,h0,hF,h0];simp only[BEq.rfl,Ac,Ao,Ai,show((0:Int)==(1:Int))=false from rfl,show((0:Int)==(2:Int))=false from rfl,show((0:Int)==(3:Int))=false from rfl,show((0:Int)==(8:Int))=false from rfl,List.length_nil,show decide ((((0:Nat):Int))<=(16:Int))=true from rfl];rw[Aa hin,Aa hin]
    ·obtain⟨hl,⟨g0,r0⟩,g1,r1⟩:=W.args v o hg hd h0;obtain⟨f1,a1,a2,a3⟩:=ih _ z g0 (by omega) rfl hz;obtain⟨f2,b1,b2,b3⟩:=ih _ f1 g1 (by omega) a2 a3;rw[W1 W _ _ (rk v) g0 (by omega) r0]at a1;rw[W1 W _ _ (rk v) g1 (by omega) r1]at b1;obtain⟨p1,p2,p3⟩:=bb W (rk v) _ g0;obtain⟨q1,q2,q3⟩:=bb W (rk v) _ g1;have hkd:=W.kind v o hg hd
     have hrun:∀ n,2*r<=n->Bp (n+1) z o ⟨[⟨v,1⟩],0⟩=some ((mkT o.Kind (fmN D (rk v) (o.Args.getD 0 0)) (fmN D (rk v) (o.Args.getD 1 0))).getD (ownT v),f2):=λn hn=>by
      rw[htwo];unfold Eo;rw[Aa ⟨by omega,by omega⟩,show((0:Int)).toNat=0 from rfl,a1 n hn,Ai,Aa ⟨by omega,by omega⟩,show((1:Int)).toNat=1 from rfl];simp only;rw[b1 n hn,Ai];exact wg (own:=ownT v) p1 q1 q2 hkd h0
     rw[show(o.Kind==0)=false from zzL20.2 h0,Ao]at hF;obtain⟨u1,u2⟩:=put f2 b2 b3;refine⟨_,step _ λn hn=>?_,u1,u2⟩
     have hor:(bif (bif (bif (o.Kind==(1:Int)) then true else(o.Kind==(2:Int))) then true else(o.Kind==(3:Int))) then true else(o.Kind==(8:Int)))=true:=by
      simp only[OM,Wh,zzL71]at hkd;rcases hkd with h|h|h|h|h
      ·exact absurd h h0
      all_goals rw[h];rfl
     unfold B5;rw[Aa hin,hh,Ao,Aa hin,o1,show(o.Dst==v)=true by simp[o2],show(o.Bits==(64:Int))=true by simp[o3],show(o.Lanes==(1:Int))=true by simp[o4],show(o.Kind==(0:Int))=false from zzL20.2 h0];simp only[Ac,Ao,Ai,hor];rw[hrun n hn,Ai,Ai]
     have hfit:(bif decide ((((mkT o.Kind (fmN D (rk v) (o.Args.getD 0 0)) (fmN D (rk v) (o.Args.getD 1 0))).getD (ownT v)).Terms.length:Int)<=(16:Int)) then(mkT o.Kind (fmN D (rk v) (o.Args.getD 0 0)) (fmN D (rk v) (o.Args.getD 1 0))).getD (ownT v) else ownT v)=fmN D (rk v+1) v:=by
      rw[hF]
      cases mkT o.Kind (fmN D (rk v) (o.Args.getD 0 0)) (fmN D (rk v) (o.Args.getD 1 0)) with
      | none=>rfl
      | some y=>
       unfold mi;simp only[EZ]
       by_cases hy:(16:Int)<(y.Terms.length:Int)
       ·rw[B4 hy,Cm (by omega)];rfl
       ·rw[Cm hy,B4 (by omega)];rfl
     rw[<- hfit]
     generalize (mkT o.Kind (fmN D (rk v) (o.Args.getD 0 0)) (fmN D (rk v) (o.Args.getD 1 0))).getD (ownT v)=y
     dsimp only
     cases decide ((y.Terms.length:Int)<=(16:Int)) with
     | true=>simp only[Ac,Ai];rw[Aa hin,Aa hin]
     | false=>simp only[Ao,Ai];rw[Aa hin,Aa hin];rfl
theorem kO{O:List Cn}(hO:lD O D G){v:Int}(hg:G v):∃ z,Gv ⟨O,[],[]⟩ v=some (fmN D (rk v+1) v,z):=by
 obtain⟨z,h,_⟩:=rV W hO (rk v+1) v ⟨O,[],[]⟩ hg (Nat.lt_succ_self _) rfl (λx _ h=>by simp at h);exact⟨z,g7 _ λm hm=>h m hm⟩
end
theorem ZB{t:List Int}:∀{k:Nat} {a:Int} {q:List Int},upD t k a=some q->∀{m:Nat},k<=m->upD t m a=some q
 | 0,_,_,h,_,_=>by cases h
 | k+1,a,q,h,0,hm=>absurd hm (by omega)
 | k+1,a,q,h,m+1,hm=>by
  unfold upD at h ⊢
  split at h
  ·rename_i h1
   rw[if_pos h1]
   split at h
   ·rename_i h2
    rw[if_pos h2];exact h
   ·rename_i h2
    rw[if_neg h2]
    cases hu:upD t k (t.getD a.toNat 0) with
    | none=>rw[hu]at h;cases h
    | some q'=>rw[hu]at h;rw[ZB hu (by omega:k<=m)];exact h
  ·cases h
theorem oJ{t:List Int}:∀{k:Nat} {b a:Int} {q:List Int},upD t k b=some q->a∈q->a≠b->∃ q',upD t k a=some q'/\q'.length<q.length
 | 0,_,_,_,h,_,_=>by cases h
 | k+1,b,a,q,h,ha,hne=>by
  have h0:=h;unfold upD at h
  split at h
  ·split at h
   ·cases h;exact absurd (zzL18.1 ha) hne
   ·cases hu:upD t k (t.getD b.toNat 0) with
    | none=>rw[hu]at h;cases h
    | some q'=>
     rw[hu]at h;cases h;rcases zzL26.1 ha with e|hin
     ·exact absurd e hne
     ·by_cases e:a=t.getD b.toNat 0
      ·exact⟨q',by rw[e];exact ZB hu (by omega),by simp⟩
      ·obtain⟨q2,h1,h2⟩:=oJ hu hin e;exact⟨q2,ZB h1 (by omega),by simp;omega⟩
  ·cases h
theorem YT{t:List Int}{a b:Int}(h:Tu t a b=true)(hne:a≠b):(C1 t a).length<(C1 t b).length:=by
 unfold Tu at h;simp only[Bc,zzL71,zzL80]at h;obtain⟨h1,h2⟩:=h;unfold P1 at h1 h2
 split at h1
 ·rename_i hr
  rw[if_pos hr]at h2
  cases hf:(C1 t a).find? λx=>(C1 t b).contains x with
  | none=>rw[hf]at h2;exact absurd rfl h2
  | some x=>
   rw[hf]at h1;obtain rfl:x=a:=h1;have hc:=List.find?_some hf
   have hin:x∈C1 t b:=by simpa using hc
   unfold C1 at hin ⊢
   cases hu:upD t t.length b with
   | none=>rw[hu]at hin;cases hin
   | some q=>
    rw[hu]at hin;obtain⟨q',g1,g2⟩:=oJ hu hin hne;rw[g1];exact g2
 ·rename_i hr
  rw[if_neg hr]at h2;exact absurd rfl h2
def Gd(f:TFunc)(v:Int):Prop:=∃ d∈defsF f,d.V=v/\d.Shape=(64,1)
def Qf(f:TFunc):List Cn:=f.Blocks.flatMap (·.Ops)
def nd(f:TFunc)(v:Int):Option Cn:=(Qf f).find? λo=>OM o.Kind&&o.Dst==v
def yW(f:TFunc)(d:TDef):Nat:=if d.Block<0 then 0 else(C1 (Ch f) d.Block).length*((Qf f).length+5)+(d.At+2).toNat
def rh(f:TFunc)(v:Int):Nat:=yW f (defOf (defsF f) v)
theorem opsA_mem{f:TFunc}{o:Cn}:o∈Qf f↔∃ i,i<f.Blocks.length/\∃ k,k<(bA f i).Ops.length/\o=(bA f i).Ops.getD k default:=by
 unfold Qf;rw[zzL76]
 constructor
 ·rintro⟨b,hb,ho⟩;obtain⟨i,hi,rfl⟩:=P9 hb;obtain⟨k,hk,rfl⟩:=P9 ho;have e:bA f i=f.Blocks[i]:=Ab _ _ _ hi;refine⟨i,hi,k,by rw[e];exact hk,?_⟩;rw[e,Ab _ _ _ hk]
 ·rintro⟨i,hi,k,hk,rfl⟩;exact⟨bA f i,getD_mem hi,getD_mem hk⟩
theorem ng{f:TFunc}{i:Nat}(hi:i<f.Blocks.length):(bA f i).Ops.length<=(Qf f).length:=by
 unfold Qf
 have:∀(l:List An) (b:An),b∈l->b.Ops.length<=(l.flatMap (·.Ops)).length:=by
  intro l
  induction l with
  | nil=>intro b h;cases h
  | cons x l ih=>
   intro b h;rw[R7,F1];rcases zzL26.1 h with rfl|h
   ·omega
   ·have:=ih b h;omega
 exact this _ _ (getD_mem hi)
section
variable {f:TFunc} (R:uz f 2)
include R
theorem nf{i k:Nat}(hi:i<f.Blocks.length)(hk:k<(bA f i).Ops.length):K7 ((bA f i).Ops.getD k default)=true:=sr R (getD_mem hi) (getD_mem hk)
theorem op_dst{o:Cn}(ho:o∈Qf f):o.Dst=0/\OM o.Kind=false\/∃ i k:Nat,i<f.Blocks.length/\k<(bA f i).Ops.length/\o=(bA f i).Ops.getD k default/\1<=o.Dst/\o.Dst<=1023/\(⟨o.Dst,(i:Int),(k:Int),O2 o.Kind o.Bits o.Lanes⟩:TDef)∈defsF f:=by
 obtain⟨i,hi,k,hk,e⟩:=opsA_mem.1 ho;have hm:=nf R hi hk;rw[<- e]at hm;obtain⟨m1,m2,m3,m4,m5,m6,m7⟩:=CB hm
 by_cases hst:o.Kind=17\/o.Kind=19
 ·left
  have:(o.Kind==17 || o.Kind==19)=true:=by simpa using hst
  unfold dstS at m7;rw[this,Ac]at m7;refine⟨by simpa using m7,?_⟩;rcases hst with h|h<;>rw[h]<;>rfl
 ·right
  have hf:(o.Kind==17 || o.Kind==19)=false:=by simpa using hst
  unfold dstS at m7;rw[hf,Ao]at m7;simp only[valS,Bc,Ff]at m7
  have hg:H4 o=O2 o.Kind o.Bits o.Lanes:=by unfold H4;rw[hm];rfl
  have hz:=OJ (k:=o.Kind) m1;rw[hf]at hz
  have hpos:0<(H4 o).1:=by
   rw[hg];have hn:(O2 o.Kind o.Bits o.Lanes).1≠0:=zzL20.1 hz;have hb:=width_cases (U2 m1);unfold O2 at hn ⊢;rw[hf,Ao]at hn ⊢
   cases(o.Kind==10 || o.Kind==11 || o.Kind==12) with
   | true=>show(0:Int)<1;omega
   | false=>cases(o.Kind==22)<;>simp<;>omega
  refine⟨i,k,hi,hk,e,m7.1,m7.2,ri_def.2 (.inr ⟨i,hi,.inr ⟨k,hk,by rw[<- e];exact hpos,?_⟩⟩)⟩;rw[<- e,hg]
theorem ez{o o':Cn}(ho:o∈Qf f)(ho':o'∈Qf f)(h1:1<=o.Dst)(h:o.Dst=o'.Dst):o=o':=by
 rcases op_dst R ho with⟨h0,_⟩|⟨i,k,hi,hk,e,_,_,hd⟩
 ·omega
 ·rcases op_dst R ho' with⟨h0,_⟩|⟨i',k',hi',hk',e',_,_,hd'⟩
  ·omega
  ·have:=fN R hd hd' h;simp only[TDef.mk.injEq]at this;obtain⟨_,h2,h3,_⟩:=this
   have e1:i=i':=by omega
   have e2:k=k':=by omega
   rw[e,e',e1,e2]
theorem cQ{o:Cn}(ho:o∈Qf f)(hk:OM o.Kind=true):nd f o.Dst=some o:=by
 unfold nd
 cases h:(Qf f).find? λx=>OM x.Kind&&x.Dst==o.Dst with
 | none=>
  have:=List.find?_eq_none.1 h o ho;simp[hk]at this
 | some x=>
  have hp:=List.find?_some h;simp only[Bc,zzL71]at hp
  have h1:1<=x.Dst:=by
   rcases op_dst R (List.mem_of_find?_eq_some h) with⟨_,h0⟩|⟨i,k,hi,hk',e,h1,_,_⟩
   ·rw[hp.1]at h0;cases h0
   ·exact h1
  rw[ez R (List.mem_of_find?_eq_some h) ho h1 hp.2]
omit R in
theorem CH{v:Int}{o:Cn}(h:nd f v=some o):o∈Qf f/\OM o.Kind=true/\o.Dst=v:=by
 unfold nd at h;have hp:=List.find?_some h;simp only[Bc,zzL71]at hp;exact⟨List.mem_of_find?_eq_some h,hp.1,hp.2⟩
theorem ss{d:TDef}(hd:d∈defsF f):rh f d.V=yW f d:=by
 unfold rh;rw[(XS (Tf (CK R).1) hd).2]
theorem qe(hI:∀ o∈Qf f,0<=o.Imm):pG (nd f) (Gd f) (rh f):=by
 refine⟨λv ⟨d,hd,hv,_⟩=>?_,λv o _ h=>(CH h).2.1,λv o ⟨d,hd,hv,hs⟩ h h0=>?_,λv o _ h=>hI o (CH h).1⟩
 ·have:=n4 R hd;simp only[valS,Bc,Ff]at this;rw[<- hv];exact this
 ·obtain⟨hm,hk,hdst⟩:=CH h;rcases op_dst R hm with⟨_,h2⟩|⟨i,k,hi,hkk,e,h1,_,hde⟩
  ·rw[hk]at h2;cases h2
  ·have hdd:=fN R hd hde (by rw[hv,hdst]);have hmay:=nf R hi hkk;rw[<- e]at hmay;obtain⟨m1,m2,m3,m4,m5,m6,m7⟩:=CB hmay
   have hk':o.Kind=1\/o.Kind=2\/o.Kind=3\/o.Kind=8:=by
    simp only[OM,Wh,zzL71]at hk;omega
   have hgs:O2 o.Kind o.Bits o.Lanes=(o.Bits,o.Lanes):=by rcases hk' with h|h|h|h<;>rw[h]<;>rfl
   have hel:∀ j,DC o j=(o.Bits,o.Lanes):=λj=>by unfold DC;rcases hk' with h|h|h|h<;>rw[h]<;>rfl
   have hna:N0 o.Kind o.Lanes=2:=by rcases hk' with h|h|h|h<;>rw[h]<;>rfl
   rw[hdd]at hs;have hsh:(o.Bits,o.Lanes)=((64:Int),(1:Int)):=hgs.symm.trans hs
   have hlen:o.Args.length=2:=by omega
   have harg:∀ j,j<2->Gd f (o.Args.getD j 0)/\rh f (o.Args.getD j 0)<rh f v:=λj hj=>by
    have hu:(⟨o.Args.getD j 0,(i:Int),(k:Int),DC o j⟩:Da)∈Bw f:=by
     refine(rf (λb hb o ho=>sr R hb ho)).2 ⟨i,hi,.inr (.inl ⟨k,j,hkk,by rw[<- e];omega,by rw[<- e]⟩)⟩
    obtain⟨d',hd',hv',hs',ht⟩:=uc R hu;have hv':d'.V=o.Args.getD j 0:=hv';refine⟨⟨d',hd',hv',by rw[hs',<- hsh];exact hel j⟩,?_⟩;rw[<- hv',ss R hd',<- hv,ss R hd,hdd];unfold yW
    have hbn:¬ ((⟨o.Dst,(i:Int),(k:Int),O2 o.Kind o.Bits o.Lanes⟩:TDef).Block<0):=by show ¬ ((i:Int)<0);omega
    rw[if_neg hbn];have ht:d'.Block<0\/(d'.Block=(i:Int)/\d'.At<(k:Int))\/(d'.Block≠(i:Int)/\Tu (Ch f) d'.Block (i:Int)=true):=ht
    show(if d'.Block<0 then 0 else _)<(C1 (Ch f) (i:Int)).length*_+((k:Int)+2).toNat
    split
    ·omega
    ·rename_i hb
     rcases ht with h|⟨h,ha⟩|⟨h,ho⟩
     ·exact absurd h hb
     ·rw[h]
      have:(d'.At+2).toNat<((k:Int)+2).toNat:=by omega
      omega
     ·have hsh:=YT ho h
      have hat:(d'.At+2).toNat<=(Qf f).length+2:=by
       rcases ri_def.1 hd' with⟨p,hp,rfl⟩|⟨p,hp,⟨q,hq,rfl⟩|⟨q,hq,_,rfl⟩⟩
       ·show((0:Int)+2).toNat<=_;simp
       ·show((-1:Int)+2).toNat<=_;simp
       ·show((q:Int)+2).toNat<=_
        have:=ng hp;omega
      have hmul:((C1 (Ch f) d'.Block).length+1)*((Qf f).length+5)<=(C1 (Ch f) (i:Int)).length*((Qf f).length+5):=Dz _ hsh;rw[Fg]at hmul;omega
   exact⟨hlen,harg 0 (by omega),harg 1 (by omega)⟩
theorem uA(hb:f.Blocks.length<9223372036854775808)(hl:∀ b∈f.Blocks,b.Ops.length<9223372036854775808):∃ M,Rk f=some M/\dt M (nd f) (Gd f):=by
 let st (M:List (Int×Cn)) (o:Cn):List (Int×Cn):=bif OM o.Kind then Hn M o.Dst o else M
 have inner:∀(i:Nat),i<f.Blocks.length->∀(k j:Nat) (M:List (Int×Cn)),j+k=(bA f i).Ops.length->Ad (Lj f (i:Int)) ((j:Int),M)=some (((bA f i).Ops.drop j).foldl st M):=by
  intro i hi k;have hlen:=hl _ (getD_mem hi:bA f i∈f.Blocks)
  induction k with
  | zero=>
   intro j M h
   obtain rfl:j=(bA f i).Ops.length:=by omega
   rw[List.drop_length];refine Ah ?_;unfold Lj;simp only[Ap];rw[show f.Blocks.getD i default=bA f i from rfl,Fe]
   rfl
  | succ k ih=>
   intro j M h
   have hj:j<(bA f i).Ops.length:=by omega
   have hd:(bA f i).Ops.drop j=(bA f i).Ops.getD j default::(bA f i).Ops.drop (j+1):=by rw[P7 hj,Ab _ _ _ hj]
   have hs:Lj f (i:Int) ((j:Int),M)=some (.next (((j+1:Nat):Int),st M ((bA f i).Ops.getD j default))):=by
    unfold Lj;simp only[Ap];rw[show f.Blocks.getD i default=bA f i from rfl,C5 hj,Ac,Aa (Er hj),A4 hj hlen]
    generalize (bA f i).Ops.getD j default=o
    simp only[st,OM]
    cases(o.Kind==0)<;>cases(o.Kind==1)<;>cases(o.Kind==2)<;>cases(o.Kind==3)<;>cases(o.Kind==8)<;>rfl
   rw[Ar hs,ih (j+1) _ (by omega),hd,JT]
 have outer:∀(k i:Nat) (M:List (Int×Cn)),i+k=f.Blocks.length->Ad (Lk f) ((i:Int),M)=some (((f.Blocks.drop i).flatMap (·.Ops)).foldl st M):=by
  intro k
  induction k with
  | zero=>
   intro i M h
   obtain rfl:i=f.Blocks.length:=by omega
   rw[List.drop_length];exact Ah (by unfold Lk;simp only[Fe,Ao];rfl)
  | succ k ih=>
   intro i M h
   have hi:i<f.Blocks.length:=by omega
   have hd:f.Blocks.drop i=bA f i::f.Blocks.drop (i+1):=by rw[P7 hi];exact Ce (·::_) (Ab _ _ _ hi).symm
   have hs:Lk f ((i:Int),M)=some (.next (((i+1:Nat):Int),(bA f i).Ops.foldl st M)):=by
    unfold Lk;simp only[C5 hi,Ac];have:=inner i hi (bA f i).Ops.length 0 M (by omega);rw[show(((0:Nat):Int))=0 from rfl,Hw]at this;rw[Aa (Er hi),this,Ai,A4 hi hb]
    rfl
   rw[Ar hs,ih (i+1) _ (by omega),hd,R7,List.foldl_append]
 refine⟨(Qf f).foldl st [],?_,?_⟩
 ·unfold Rk;have:=outer f.Blocks.length 0 [] (by omega);rw[show(((0:Nat):Int))=0 from rfl,Hw]at this;rw[this]
  rfl
 ·have key:∀(l done:List Cn) (M:List (Int×Cn)),(∀ o∈done++l,o∈Qf f)->(∀ o∈done,OM o.Kind=true->C7 M o.Dst=true/\mget default M o.Dst=o)->(∀ v,C7 M v=true->∃ o∈done,OM o.Kind=true/\o.Dst=v)->
    (∀ o∈done++l,OM o.Kind=true->C7 (l.foldl st M) o.Dst=true/\mget default (l.foldl st M) o.Dst=o)/\(∀ v,C7 (l.foldl st M) v=true->∃ o∈done++l,OM o.Kind=true/\o.Dst=v):=by
   intro l
   induction l with
   | nil=>intro done M _ h1 h2;rw[List.append_nil];exact⟨h1,h2⟩
   | cons x l ih=>
    intro done M hin h1 h2;have hx:x∈Qf f:=hin x (by simp)
    have:=ih (done++[x]) (st M x) (by rw[Qa];exact hin) (λo ho hk=>by
     rcases zzL14.1 ho with h|h
     ·obtain⟨g1,g2⟩:=h1 o h hk;simp only[st]
      cases hxk:OM x.Kind with
      | false=>exact⟨g1,g2⟩
      | true=>
       rw[Ac,Zy,GL,g1,g2]
       by_cases e:o.Dst=x.Dst
       ·have h1o:1<=o.Dst:=by
         rcases op_dst R (hin o (by simp[h])) with⟨_,h0⟩|⟨_,_,_,_,_,h1,_⟩
         ·rw[hk]at h0;cases h0
         ·exact h1
        have:=ez R (hin o (by simp[h])) hx h1o e;subst this
        simp
       ·rw[show(o.Dst==x.Dst)=false by simp[e]];simp
     ·obtain rfl:=zzL18.1 h;simp only[st];rw[hk,Ac,Zy,GL]
      simp) (λv hv=>by
     simp only[st]at hv
     cases hxk:OM x.Kind with
     | false=>
      rw[hxk,Ao]at hv;obtain⟨o,ho,h⟩:=h2 v hv;exact⟨o,by simp[ho],h⟩
     | true=>
      rw[hxk,Ac,Zy,Wh]at hv;rcases hv with hv|hv
      ·exact⟨x,by simp,hxk,(eq_of_beq hv).symm⟩
      ·obtain⟨o,ho,h⟩:=h2 v hv
       exact⟨o,by simp[ho],h⟩)
    rw[Qa]at this;exact this
  obtain⟨k1,k2⟩:=key (Qf f) [] [] (λo ho=>by simpa using ho) (λo ho=>by cases ho) (λv hv=>by cases hv);rw[U5]at k1 k2;intro v hg;refine⟨?_,λo h=>?_⟩
  ·cases hd:nd f v with
   | some o=>
    obtain⟨a,b,c⟩:=CH hd;have:=(k1 o a b).1;rw[c]at this;exact this
   | none=>
    cases hm:C7 ((Qf f).foldl st []) v with
    | false=>rfl
    | true=>
     obtain⟨o,a,b,c⟩:=k2 v hm;have:=cQ R a b;rw[c,hd]at this
     cases this
  ·obtain⟨a,b,c⟩:=CH h;have:=(k1 o a b).2;rw[c]at this;exact this
theorem wd(hb:f.Blocks.length<9223372036854775808)(hl:∀ b∈f.Blocks,b.Ops.length<9223372036854775808):∃ O,Lh f=some ⟨O,[],[]⟩/\lD O (nd f) (Gd f):=by
 let st (O:List Cn) (o:Cn):List Cn:=Fz 1024 default O o.Dst.toNat o
 have hdst:∀ o∈Qf f,Bd o.Dst 1024:=λo ho=>by
  rcases op_dst R ho with⟨h,_⟩|⟨_,_,_,_,_,h1,h2,_⟩
  ·rw[h];exact⟨by omega,by omega⟩
  ·exact⟨by omega,by omega⟩
 have inner:∀(i:Nat),i<f.Blocks.length->∀(k j:Nat) (O:List Cn),j+k=(bA f i).Ops.length->Ad (Gx f (i:Int)) ((j:Int),⟨O,[],[]⟩)=some ⟨((bA f i).Ops.drop j).foldl st O,[],[]⟩:=by
  intro i hi k;have hlen:=hl _ (getD_mem hi:bA f i∈f.Blocks)
  induction k with
  | zero=>
   intro j O h
   obtain rfl:j=(bA f i).Ops.length:=by omega
   rw[List.drop_length];refine Ah ?_;unfold Gx;simp only[Ap];rw[Aa (Er hi),show f.Blocks.getD i default=bA f i from rfl,Fe]
   rfl
  | succ k ih=>
   intro j O h
   have hj:j<(bA f i).Ops.length:=by omega
   have hd:(bA f i).Ops.drop j=(bA f i).Ops.getD j default::(bA f i).Ops.drop (j+1):=by rw[P7 hj,Ab _ _ _ hj]
   have hs:Gx f (i:Int) ((j:Int),⟨O,[],[]⟩)=some (.next (((j+1:Nat):Int),⟨st O ((bA f i).Ops.getD j default),[],[]⟩)):=by
    have hin:=hdst _ (opsA_mem.2 ⟨i,hi,j,hj,rfl⟩);unfold Gx;simp only[Ap];rw[Aa (Er hi),show f.Blocks.getD i default=bA f i from rfl,C5 hj,Ac,Aa (Er hi),Aa (Er hj),Aa (Er hi),Aa (Er hj),Aa hin,A4 hj hlen]
    rfl
   rw[Ar hs,ih (j+1) _ (by omega),hd,JT]
 have outer:∀(k i:Nat) (O:List Cn),i+k=f.Blocks.length->Ad (Gy f) ((i:Int),⟨O,[],[]⟩)=some ⟨((f.Blocks.drop i).flatMap (·.Ops)).foldl st O,[],[]⟩:=by
  intro k
  induction k with
  | zero=>
   intro i O h
   obtain rfl:i=f.Blocks.length:=by omega
   rw[List.drop_length];exact Ah (by unfold Gy;simp only[Fe,Ao];rfl)
  | succ k ih=>
   intro i O h
   have hi:i<f.Blocks.length:=by omega
   have hd:f.Blocks.drop i=bA f i::f.Blocks.drop (i+1):=by rw[P7 hi];exact Ce (·::_) (Ab _ _ _ hi).symm
   have hs:Gy f ((i:Int),⟨O,[],[]⟩)=some (.next (((i+1:Nat):Int),⟨(bA f i).Ops.foldl st O,[],[]⟩)):=by
    unfold Gy;simp only[C5 hi,Ac];have:=inner i hi (bA f i).Ops.length 0 O (by omega);rw[show(((0:Nat):Int))=0 from rfl,Hw]at this;rw[this,Ai,A4 hi hb]
    rfl
   rw[Ar hs,ih (i+1) _ (by omega),hd,R7,List.foldl_append]
 have key:∀(l done:List Cn) (O:List Cn),(∀ o∈done++l,o∈Qf f)->(∀ v:Nat,1<=v->v<1024->(∃ o∈done,o.Dst=(v:Int)/\O.getD v default=o)\/(∀ o∈done,o.Dst≠(v:Int))/\O.getD v default=default)->
   ∀ v:Nat,1<=v->v<1024->(∃ o∈done++l,o.Dst=(v:Int)/\(l.foldl st O).getD v default=o)\/(∀ o∈done++l,o.Dst≠(v:Int))/\(l.foldl st O).getD v default=default:=by
  intro l
  induction l with
  | nil=>intro done O _ h;rw[List.append_nil];exact h
  | cons x l ih=>
   intro done O hin h v h1 h2
   have:=ih (done++[x]) (st O x) (by rw[Qa];exact hin) (λv h1 h2=>by
    have hxi:=hdst x (hin x (by simp));simp only[st];rw[Lr h2]
    cases hb:Nat.beq v x.Dst.toNat with
    | true=>
     have:=Cq hb;exact .inl ⟨x,by simp,by have:=hxi.1;omega,rfl⟩
    | false=>
     have hne:x.Dst≠(v:Int):=λe=>by
      rw[show v=x.Dst.toNat by omega,Nat.beq_refl]at hb;cases hb
     rw[Ao];rcases h v h1 h2 with⟨o,ho,e,g⟩|⟨hn,g⟩
     ·exact .inl ⟨o,by simp[ho],e,g⟩
     ·refine .inr ⟨λo ho=>?_,g⟩;rcases zzL14.1 ho with h|h
      ·exact hn o h
      ·rw[zzL18.1 h];exact hne) v h1 h2
   rw[Qa]at this;rw[JT];exact this
 have hrun:=outer f.Blocks.length 0 [] (by omega);rw[show(((0:Nat):Int))=0 from rfl,Hw]at hrun;refine⟨Fz 1024 default ((Qf f).foldl st []) 0 ⟨0,0,0,0,[],0⟩,?_,?_⟩
 ·unfold Lh;rw[hrun,Ai,Aa ⟨by omega,by omega⟩]
  rfl
 ·intro v hg;have hv:=(finD_rng R hg);have hk:=key (Qf f) [] [] (λo ho=>by simpa using ho) (λv _ _=>.inr ⟨λo ho=>by(cases ho),rfl⟩) v.toNat (by omega) (by omega);rw[U5]at hk
  have hget:(Fz 1024 default ((Qf f).foldl st []) 0 (⟨0,0,0,0,[],0⟩:Cn)).getD v.toNat default=((Qf f).foldl st []).getD v.toNat default:=by
   rw[Lr (by omega)]
   cases hb:Nat.beq v.toNat 0 with
   | false=>rfl
   | true=>have:=Cq hb;omega
  rw[hget]
  have evn:((v.toNat:Nat):Int)=v:=by omega
  rw[evn]at hk;refine⟨λo h=>?_,λhn=>?_⟩
  ·obtain⟨a,b,c⟩:=CH h;rcases hk with⟨x,hx,e,g⟩|⟨hno,_⟩
   ·have hxo:=ez R hx a (by omega) (e.trans c.symm);subst hxo;refine⟨g,c,?_⟩;rcases op_dst R hx with⟨_,h0⟩|⟨i,k,hi,hkk,e2,_,_,hde⟩
    ·rw[b]at h0;cases h0
    ·obtain⟨d,hd,hdv,hds⟩:=hg;have:=fN R hd hde (by rw[hdv,c]);rw[this]at hds
     have hgs:O2 x.Kind x.Bits x.Lanes=(x.Bits,x.Lanes):=by
      simp only[OM,Wh,zzL71]at b;rcases b with h|h|h|h|h<;>rw[h]<;>rfl
     have hds:O2 x.Kind x.Bits x.Lanes=((64:Int),(1:Int)):=hds;rw[hgs,Mg]at hds;exact hds
   ·exact absurd c (hno o a)
  ·rintro⟨e1,_,_,e4⟩;rcases hk with⟨x,hx,e,g⟩|⟨_,g⟩
   ·rw[g]at e4;have:=cQ R hx e4;rw[e,hn]at this
    cases this
   ·rw[g]at e1;have:(default:Cn).Dst=0:=rfl;omega
where
 finD_rng {f:TFunc} (R:uz f 2) {v:Int} (hg:Gd f v):1<=v/\v<=1023:=by
  obtain⟨d,hd,hv,_⟩:=hg;have:=n4 R hd;simp only[valS,Bc,Ff]at this;rw[<- hv];exact this
end
theorem mq{f:TFunc}(hn:((defsF f).map (·.V)).Nodup){v:Int}:Gd f v↔¬ He (defsF f) v<0/\(defOf (defsF f) v).Shape=(64,1):=by
 constructor
 ·rintro⟨d,hd,rfl,hs⟩;obtain⟨h1,h2⟩:=XS hn hd;exact⟨by omega,by rw[h2];exact hs⟩
 ·rintro⟨h1,h2⟩;have hin:=V0 h1;have hmem:defOf (defsF f) v∈defsF f:=getD_mem (by have:=hin.1;have:=hin.2;omega);refine⟨_,hmem,?_,h2⟩;unfold defOf;unfold He at h1 ⊢
  cases hx:(defsF f).findIdx? (λd=>d.V==v) with
  | none=>rw[hx]at h1;exact absurd (by decide) h1
  | some i=>
   obtain⟨hi,hp,_⟩:=List.findIdx?_eq_some_iff_getElem.1 hx
   show((defsF f).getD ((i:Int)).toNat default).V=_
   rw[Ap,Ab _ _ _ hi]
   simpa using hp
theorem NZ{f:TFunc}(h:Sm f)(R:uz f 2):(defsF f).length<=1000000:=R8 (UI (cn h R.may)) (by omega)
section
variable {f:TFunc} (h:Sm f)
include h
omit h in
theorem QM(hc:Gi f 2=0):uz f 2:=(re (by omega)).1 hc
theorem HH:f.Blocks.length<9223372036854775808/\(∀ b∈f.Blocks,b.Ops.length<9223372036854775808)/\∀ o∈Qf f,0<=o.Imm:=by
 have hI:=h.1;refine⟨by have:=hI.blocks;rw[Lm]at this;omega,λb hb=>by have:=(hI.block b hb).2.1;rw[Lm]at this;omega,λo ho=>?_⟩;obtain⟨i,hi,k,hk,rfl⟩:=opsA_mem.1 ho;exact(hI.op _ (getD_mem hi) _ (getD_mem hk)).2.1
theorem bM(hc:Gi f 2=0){v:Int}(hg:Gd f v):Jf f v=some (fmN (nd f) (rh f v+1) v,0):=by
 obtain⟨s,hs,hS⟩:=bN f h;obtain⟨p1,p2,p3⟩:=HH h;have R:=QM hc;obtain⟨M,m1,m2⟩:=uA R p1 p2;obtain⟨fd,f1⟩:=fE (qe R p3) m2 hg;obtain⟨d,hd,hv,hsh⟩:=hg;have hget:=hS.get hc d hd;rw[hv,hsh]at hget;unfold Jf;rw[hs,Ai,hget,m1]
 show(Kh v M []).bind _=_
 rw[f1]
 rfl
theorem gr{v:Int}(hn:¬ (Gi f 2=0/\Gd f v)):Jf f v=some (⟨[],0⟩,10):=by
 obtain⟨s,hs,hS⟩:=bN f h
 have hne:mget ((0:Int),(0:Int)) s v≠(64,1):=λe=>by
  by_cases hc:Gi f 2=0
  ·cases hm:C7 s v with
   | false=>rw[IR hm]at e;cases e
   | true=>
    obtain⟨d,hd,hv⟩:=hS.has hc v hm;have:=hS.get hc d hd;rw[hv,e]at this;exact hn ⟨hc,d,hd,hv,this.symm⟩
  ·have:=hS.none hc;rw[ZC this]at e
   cases e
 unfold Jf;rw[hs,Ai]
 have:(!(((mget ((0:Int),(0:Int)) s v).1==(64:Int))&&(((mget ((0:Int),(0:Int)) s v).2==(1:Int))&&true)))=true:=by
  generalize mget ((0:Int),(0:Int)) s v=p at hne ⊢
  obtain⟨a,b⟩:=p
  by_cases ha:a=64
  ·have hb:b≠1:=λe=>hne (by rw[ha,e]);simp[hb]
  ·simp[ha]
 rw[this]
 rfl
theorem fF(hc:Gi f 2=0){v:Int}(hg:Gd f v):Gg f v=some (fmN (nd f) (rh f v+1) v,0):=by
 obtain⟨p1,p2,p3⟩:=HH h;have R:=QM hc;obtain⟨O,o1,o2⟩:=wd R p1 p2;obtain⟨z,z1⟩:=kO (qe R p3) o2 hg;obtain⟨g1,g2⟩:=(mq (Tf (CK R).1)).1 hg;unfold Gg;rw[KT h 2,hc,Ai,show((0:Int)!=0)=false from rfl,Ao,eZ (cn h R.may),Ai];rw[IM (defsF f) v (NZ h R),Ai,Aa (λ_=>V0 g1),Cm g1];have e:(defsF f).getD (He (defsF f) v).toNat default=defOf (defsF f) v:=rfl;rw[e,g2,o1]
 show(Gv _ v).bind _=_
 rw[z1]
 rfl
theorem kJ{v:Int}(hn:¬ (Gi f 2=0/\Gd f v)):Gg f v=some (⟨[],0⟩,10):=by
 unfold Gg;rw[KT h 2,Ai]
 by_cases hc:Gi f 2=0
 ·have R:=QM hc;rw[hc,show((0:Int)!=0)=false from rfl,Ao,eZ (cn h R.may),Ai,IM (defsF f) v (NZ h R),Ai];have hng:¬ (¬ He (defsF f) v<0/\(defOf (defsF f) v).Shape=(64,1)):=λe=>hn ⟨hc,(mq (Tf (CK R).1)).2 e⟩
  by_cases h1:He (defsF f) v<0
  ·rw[B4 h1,Aa (λe=>by cases e)];rfl
  ·rw[Cm h1,Aa (λ_=>V0 h1)];have e:(defsF f).getD (He (defsF f) v).toNat default=defOf (defsF f) v:=rfl;rw[e];have hne:(defOf (defsF f) v).Shape≠(64,1):=λe=>hng ⟨h1,e⟩
   generalize (defOf (defsF f) v).Shape=p at hne ⊢
   obtain⟨a,b⟩:=p
   have:(!((a==(64:Int))&&((b==(1:Int))&&true)))=true:=by
    by_cases ha:a=64
    ·have hb:b≠1:=λe=>hne (by rw[ha,e]);simp[hb]
    ·simp[ha]
   simp only[Ao];rw[this]
   rfl
 ·rw[show(Gi f 2 !=0)=true from zzL80.2 hc]
  rfl
end
def fB(ops:List Cn)(a:Int):TFunc:=⟨[64],64,[⟨[],ops,⟨0,a,[]⟩⟩]⟩
theorem wm{ops:List Cn}{a:Int}(h1:ops.length<=300)(h2:∀ o∈ops,o.Args.length<=3/\0<=o.Imm/\o.Imm<18446744073709551616):Sm (fB ops a):=by
 have hb:∀ b∈(fB ops a).Blocks,b=⟨[],ops,⟨0,a,[]⟩⟩:=λb hb=>by simpa [fB] using hb
 refine wq ⟨by rw[Lm];show(1:Nat)<=_;omega,by rw[Lm];show(1:Nat)<=_;omega,λb h=>?_,λb h p hp=>?_,λb h o ho=>?_⟩ (by show 1<=64;omega) (λb h=>?_) ?_
 ·rw[hb b h,Lm];exact⟨Qo _,by show ops.length<=_;omega,Qo _⟩
 ·rw[hb b h]at hp;cases hp
 ·rw[hb b h]at ho;obtain⟨g1,g2⟩:=h2 o ho;exact⟨by rw[Lm];omega,g2⟩
 ·rw[hb b h];exact⟨Qo _,(λp hp=>by cases hp),λo ho=>by have:=(h2 o ho).1;omega⟩
 ·have hs:∀ l:List Cn,(∀ o∈l,o.Args.length<=3)->(l.map XT).sum<=4*l.length:=by
   intro l
   induction l with
   | nil=>intro _;simp
   | cons x l ih=>
    intro hl;have h0:=hl x (zzL38 ..);have h1:=ih λo ho=>hl o (zzL21 _ ho);rw[Cu,Vs,U4];unfold XT at h1 ⊢;omega
  have:=hs ops λo ho=>(h2 o ho).1
  show 1+((1+0+0+(ops.map XT).sum)+0)<=20000
  omega
def fA:TFunc:=fB [⟨0,64,1,2,[],8⟩,⟨1,64,1,3,[1,2],0⟩,⟨3,64,1,4,[2,3],0⟩] 4
theorem ue:Sm fA:=wm (by show 3<=300;omega) λo ho=>by
 simp only[zzL26,List.not_mem_nil,or_false]at ho;rcases ho with rfl|rfl|rfl<;>decide
theorem gx:Gi fA 2=0:=by decide +kernel
theorem yV:Jf fA 4=some (⟨[⟨1,8⟩],64⟩,0):=by
 rw[bM ue gx (v:=4) ⟨⟨4,0,2,(64,1)⟩,by decide +kernel,rfl,rfl⟩];have R:=QM gx;rw[W1 (qe R (HH ue).2.2) _ 4 40 ⟨⟨4,0,2,(64,1)⟩,by decide +kernel,rfl,rfl⟩ (Nat.lt_succ_self _) (by decide +kernel)]
 show _=_
 kernel_rfl
theorem wR:Jf fA 5=some (⟨[],0⟩,10):=gr ue λ⟨_,d,hd,hv,_⟩=>by
 have:∀ d∈defsF fA,d.V≠5:=by decide +kernel
 exact this d hd hv
theorem qJ:m_locksteplaw17_awake=some true:=by
 have h4:=yV;have h5:=wR;unfold fA fB at h4 h5;unfold m_locksteplaw17_awake;rw[show Es=[⟨0,64,1,2,[],8⟩,⟨1,64,1,3,[1,2],0⟩,⟨3,64,1,4,[2,3],0⟩] from rfl,h4,h5]
 show _=_
 kernel_rfl
section
variable {x y:Ak} (hx:Fl 0 x.Terms=true) (hy:Fl 0 y.Terms=true)
include hx
end
theorem iW{x y:Ak}(hx:x.Terms.length<9223372036854775808)(h:x=y):H8 x y=some true:=by rw[ua hx,B4 h]
theorem finds17(f:TFunc)(v:Int)(hf:dZ f):Jd f v=some true:=by
 obtain⟨b,hb,hs⟩:=j0 hf;unfold Jd;rw[qJ,Ai,show(!true)=false from rfl,Ao,hb,Ai]
 cases b with
 | false=>rfl
 | true=>
  have h:=hs rfl;rw[show(!true)=false from rfl,Ao]
  by_cases hg:Gi f 2=0/\Gd f v
  ·rw[bM h hg.1 hg.2,Ai,fF h hg.1 hg.2,Ai];obtain⟨p1,p2,p3⟩:=bb (qe (QM hg.1) (HH h).2.2) (rh f v+1) v hg.2;simp only;rw[iW (by omega) rfl,Ai,show(bif !true then true else((0:Int)!=0))=false from rfl,Ao,show(((0:Int)!=0)==false)=true from rfl,Ac,NT (by omega),p1,Ai];rw[B4 (show((fmN (nd f) (rh f v+1) v).Terms.length:Int)<=(16:Int) by omega)]
   rfl
  ·rw[gr h hg,Ai,kJ h hg,Ai];simp only;rw[iW (by simp) rfl]
   rfl
end
end Go.Proofs.YtiendmljhgbjoaaGreat
