/-
  The machine, the program's functions and the laws' arithmetic: part 5 of 5.
-/
import Derived.Test.YtjpnobeadcdnoaaGreatPk4
set_option linter.unusedSectionVars false
set_option linter.unusedVariables false
set_option linter.unusedSimpArgs false
namespace Go.Proofs.YtjpnobeadcdnoaaGreat
noncomputable section
open Go Go.RowKit
theorem j9{α:Type}(l:List α)(d:α)(p:α->Bool){X:Type}(f:Int->Option (LR Int X))(yes no:X)(hl:l.length<9223372036854775808)(hk:∀ i:Nat,i<l.length->f i=some (bif p (l.getD i d) then .next (Bh ((i:Int)+1)) else .done no))
  (he:f l.length=some (.done yes)):Ag f (0:Int)=some (bif l.all p then yes else no):=by
 have:=Tb l d p f yes no (λi hi hp=>by rw[hk i hi,hp,Ad,Dv hi hl]) (λi hi hp=>by rw[hk i hi,hp,Au]) he l.length 0 (by omega);rwa[Lm]at this
theorem kM(f:TFunc)(hf:YB f)(l:Int)(t:List Int)(u:List A6):Gn f l t u=some (bif U2 f then 0 else 4,f,l,t,u):=by
 unfold Gn Im;rw[oL f hf,Ao]
 cases U2 f<;>rfl
theorem ZA(phis:List Fh)(l:List Int)(h1:phis.length<9223372036854775808)(h2:l.length<4611686018427387904):Jw phis l=some (phis.all (Hc l)):=by
 unfold Jw
 rw[j9 phis (default:Fh) (Hc l) (Hp phis l) (.inl ()) (.inr false) h1 (λi hi=>by
  unfold Hp
  have hd:decide ((i:Int)<(phis.length:Int))=true:=by simpa using hi
  simp only[hd,Ad,Ap (A9 hi),Dk,MH _ _ h2,Ao,Hc]
  cases decide ((phis.getD i default).From=l) with
  | false=>rfl
  | true=>
   simp only[Fa,Au,Hi,bne]
   cases(((phis.getD i default).Args.length:Int)==(l.length:Int))<;>rfl) (by unfold Hp;simp),Ao]
 cases phis.all (Hc l)<;>rfl
def LK(e:Hs):Bool:=!((e.Kind==1 || e.Kind==3)&&(e.Arg !=0))
theorem YV{n:Nat}(e:Hs)(hk:Nt e n=true):Hx e=some (LK e):=by
 have h4:0<=e.Kind/\e.Kind<=3:=by
  have:=(A3 _ _▸hk:PD e=true/\jj n e.To=true).1;unfold PD at this;simp only[A3,Dw]at this;omega
 unfold Hx LK
 have:e.Kind=0\/e.Kind=1\/e.Kind=2\/e.Kind=3:=by omega
 rcases this with h|h|h|h<;>rw[h]<;>cases hb:(e.Arg==0)<;>simp[hb,bne]
theorem UF{L:List (List Int)}(hm:Lz L=true){P:List Nat}(h0:0<L.length)(o:Ord (sN L) 0 P):decide (P.length<L.length) = !(List.range L.length).all λi=>(Rm L).getD i false:=by
 have hin:∀ x∈P,x<L.length:=λx hx=>(by obtain⟨Q,rfl,oo⟩:=o.ordered h0 (Vm hm);exact oo.lt hx)
 have hr:∀ z,(Rm L).getD z false=true↔z∈P:=λz=>by
  rw[o.mem z];exact X2 (Vm hm) h0 z
 have hle:=L0 L.length P o.nodup hin
 cases ha:(List.range L.length).all λi=>(Rm L).getD i false with
 | true=>
  have:=((List.perm_ext_iff_of_nodup o.nodup List.nodup_range).2 λi=>⟨λh=>zzL44.2 (hin i h),λh=>(hr i).1 (zzL27.1 ha i h)⟩:P.Perm (List.range L.length)).length_eq;rw[Vs]at this
  simp;omega
 | false=>
  obtain⟨i,hi,hni⟩:∃ i,i<L.length/\i∉P:=GK λhc=>by
   have:(List.range L.length).all (λi=>(Rm L).getD i false)=true:=zzL27.2 λi hi=>(hr i).2 (GK λhn=>hc ⟨i,by simpa using hi,hn⟩);rw[this]at ha;cases ha
  have:(i::P).length<=L.length:=L0 L.length (i::P) (zzL76.2 ⟨hni,o.nodup⟩) (λx hx=>by rcases zzL25.1 hx with rfl|hx;exact hi;exact hin x hx);simp at this ⊢;omega
theorem cU {f : TFunc} (hf : OkF f) (l : Int) (t : List Int) (u : List A6) : ∃ t', Fo f l t u = some (bif Ga f then 0 else 5, f, l, t', u) ∧ (Ga f = true → t' = B1 f) := by
  have hmax : f.Blocks.length ≤ maxLen := by have := hf.blocks; have : (64 : Nat) ≤ maxLen := by decide
                                             omega
  unfold Fo; rw [oH f hmax, Ao]
  cases hs : N6 f with
  | false => exact ⟨t, by unfold Ga; rw [hs]; rfl, fun h => by unfold Ga at h; rw [hs] at h; cases h⟩
  | true =>
    have hm := Tn hs; have hlen := X6 f
    have hpos : 0 < (En f).length := by have := (shape_iff.1 hs).1.1; omega
    obtain ⟨h1, h2⟩ := cu hm; obtain ⟨P, hP⟩ := Ord.exist (Vm hm) hpos; have ho := (MI (Yq (En f)) h1 trivial 0).1 (PQ hm) (by omega) (by show (0 : Int) < ((En f).length : Int); omega) P hP; have hfull := UF hm hpos hP; simp only [Ad, show (((0 : Int) != 0) == false) = true from rfl, show ((0 : Int) != 0) = false from rfl, Au, ho, Ao, show (false == false) = true from rfl]
    have e1 : decide (((Pg P).length : Int) < (f.Blocks.length : Int)) = decide (P.length < (En f).length) := by
      rw [hlen]; apply zzL108.2; simp [Pg]
    rw [e1, hfull]
    have hsd : Ga f = (((List.range f.Blocks.length).all fun i => (Rm (En f)).getD i false) && (List.range f.Blocks.length).all fun i => LK (f.Blocks.getD i default).End && (f.Blocks.getD i default).Phis.all (Hc ((Fe (En f)).getD i []))) := by
      unfold Ga; rw [hs, Hi]
      have : ∀ (n : Nat) (p q : Nat → Bool), ((List.range n).all fun i => p i && q i) = ((List.range n).all p && (List.range n).all q) := fun n p q => by
        rw [M7, A3, zzL27, zzL27, zzL27]
        constructor
        · intro h; exact ⟨fun x hx => ((A3 _ _).mp (h x hx)).1, fun x hx => ((A3 _ _).mp (h x hx)).2⟩
        · intro h x hx; rw [A3]; exact ⟨h.1 x hx, h.2 x hx⟩
      rw [← this]
      congr 1
      funext i
      show (_ && _ && _) = _
      rw [Bool.and_assoc]
      rfl
    rw [hlen]; rw [hsd]
    cases hr : (List.range f.Blocks.length).all fun i => (Rm (En f)).getD i false with
    | false => exact ⟨t, rfl, fun h => by cases h⟩
    | true =>
      refine ⟨B1 f, ?_, fun _ => rfl⟩; rw [Fa, Au, kZ _ 0 h1 h2, Ao, Hi]; have hp := Rl hm
      have hpl : (Yq (En f)).Pred.length = f.Blocks.length := by rw [← hlen]; exact N2 _
      have key : Ag (Cl f l u (Yq (En f), 0) (B1 f)) (0 : Int) = some (bif (List.range f.Blocks.length).all (fun i => LK (f.Blocks.getD i default).End && (f.Blocks.getD i default).Phis.all (Hc ((Fe (En f)).getD i []))) then .inl () else .inr ((5 : Int), f, l, B1 f, u)) := by
        have hk : ∀ i : Nat, i < f.Blocks.length → Cl f l u (Yq (En f), 0) (B1 f) (i : Int) = some (bif (LK (f.Blocks.getD i default).End && (f.Blocks.getD i default).Phis.all (Hc ((Fe (En f)).getD i []))) then .next ((i : Int) + 1) else .done (.inr ((5 : Int), f, l, B1 f, u))) := fun i hi => by
          have hB := hf.block _ (getD_mem (d := (default : Af)) hi); have hpi : Bt (i : Int) (Yq (En f)).Pred.length := A9 (by omega); have hpg : ((Yq (En f)).Pred.getD i []).length ≤ 64 := hp.2 _ (getD_mem (by rw [N2]; omega)); unfold Cl
          have hd : decide ((i : Int) < (f.Blocks.length : Int)) = true := by simpa using hi
          simp only [hd, Ad, Ap (A9 hi), Ap hpi, Dk, ZA (f.Blocks.getD i default).Phis ((Yq (En f)).Pred.getD i []) (by have := hB.phis; omega) (by omega), Ao]; have ha : Hx (⟨(f.Blocks.getD i default).End.Kind, (f.Blocks.getD i default).End.Arg, (f.Blocks.getD i default).End.To⟩ : Hs) = some (LK (f.Blocks.getD i default).End) := YV (n := f.Blocks.length) (f.Blocks.getD i default).End ((shape_iff.1 hs).2 i hi); rw [ha, Dv hi (by have := hf.blocks; omega)]
          show _ = some (bif (LK (f.Blocks.getD i default).End && (f.Blocks.getD i default).Phis.all (Hc ((Yq (En f)).Pred.getD i []))) then _ else _)
          cases (f.Blocks.getD i default).Phis.all (Hc ((Yq (En f)).Pred.getD i [])) <;> cases LK (f.Blocks.getD i default).End <;> rfl
        exact ZP _ _ _ _ _ (fun i hi hp => by rw [hk i hi, hp]; rfl) (fun i hi hp => by rw [hk i hi, hp]; rfl) (by unfold Cl; simp)
      show ((Ag (Cl f l u (Yq (En f), 0) (B1 f)) (0 : Int)).bind _) = _
      rw [key, Ao]
      cases (List.range f.Blocks.length).all (fun i => LK (f.Blocks.getD i default).End && (f.Blocks.getD i default).Phis.all (Hc ((Fe (En f)).getD i []))) <;> rfl
theorem kE(o:Cz)(l:Int)(h0:0<=l)(h2:l<=2)(hk:Jg o=true):Nb o l=some (!decide (MG l<o.Kind)&&!(decide (l<2)&&decide (1<o.Lanes))):=by
 have hl:=dH hk
 have hK:o.Kind<=22:=by
  simp only[Jg,A3]at hk;have:=hk.1.2.1.1.1;unfold dB at this;simp only[A3,Dw]at this;omega
 unfold Nb MG
 have:l=0\/l=1\/l=2:=by omega
 rcases this with rfl|rfl|rfl
 ·have ha:decide (o.Kind<=17) = !decide (17<o.Kind):=by rw[M7];simp
  have hb:(o.Lanes==1) = !decide (1<o.Lanes):=by rw[M7];simp;omega
  show some (bif decide (o.Kind<=17) then(o.Lanes==1) else false)=some (!decide (17<o.Kind)&&!(true&&decide (1<o.Lanes)))
  rw[ha,hb]
  cases decide (17<o.Kind)<;>cases decide (1<o.Lanes)<;>rfl
 ·have ha:decide (o.Kind<=20) = !decide (20<o.Kind):=by rw[M7];simp
  have hb:(o.Lanes==1) = !decide (1<o.Lanes):=by rw[M7];simp;omega
  show some (bif decide (o.Kind<=20) then(o.Lanes==1) else false)=some (!decide (20<o.Kind)&&!(true&&decide (1<o.Lanes)))
  rw[ha,hb]
  cases decide (20<o.Kind)<;>cases decide (1<o.Lanes)<;>rfl
 ·show some true=some (!decide (22<o.Kind)&&!(false&&decide (1<o.Lanes)))
  rw[Cx (by omega)]
  rfl
theorem YZ(o:Cz)(ho:bX o)(f:TFunc)(l:Int)(h0:0<=l)(h2:l<=2)(t:List Int)(u:List A6):E5 o f l t u=some (Ng l o,f,l,t,u):=by
 unfold E5 Ng;rw[EH o ho,Ao]
 cases hk:Jg o with
 | false=>rfl
 | true=>
  rw[show(true==true)=true from rfl,Ad,kE o l h0 h2 hk,Ao,Ad,Hi]
theorem gM(b:Af){f:TFunc}(hf:OkF f)(hb:b∈f.Blocks)(l:Int)(h0:0<=l)(h2:l<=2)(t:List Int)(u:List A6):Hn b.Ops f l t u=some (b.Ops.all (Ng l),f,l,t,u):=by
 have hB:=hf.block b hb
 have key:∀ k i:Nat,i+k=b.Ops.length->Ag (Ek b.Ops) ((i:Int),f.Params,f.Ret,f.Blocks,l,t,u)=some (bif (b.Ops.drop i).all (Ng l) then .inl (f.Params,f.Ret,f.Blocks,l,t,u) else .inr (false,f,l,t,u)):=by
  intro k
  induction k with
  | zero=>
   intro i h
   obtain rfl:i=b.Ops.length:=by omega
   rw[Ah (x:=.inl (f.Params,f.Ret,f.Blocks,l,t,u)) (by unfold Ek;simp)]
   simp
  | succ k ih=>
   intro i h
   have hi:i<b.Ops.length:=by omega
   have hd:decide ((i:Int)<(b.Ops.length:Int))=true:=by simpa using hi
   have hdr:b.Ops.drop i=b.Ops.getD i default::b.Ops.drop (i+1):=by rw[O7 hi,Aa _ _ _ hi]
   have hx:=YZ (b.Ops.getD i default) (kv hf hb (getD_mem hi)) f l h0 h2 t u;rw[hdr,Sa]
   cases ho:Ng l (b.Ops.getD i default) with
   | true=>
    rw[ho]at hx
    rw[An (s':=(((i+1:Nat):Int),f.Params,f.Ret,f.Blocks,l,t,u)) (by
     unfold Ek;simp only[hd,Ad,Ap (A9 hi),Dk,hx,Ao,Fa,Au,Dv hi (by have:=hB.ops;omega)]
     rfl),ih (i+1) (by omega),Hi]
   | false=>
    rw[ho]at hx
    rw[Ah (x:=.inr (false,f,l,t,u)) (by
     unfold Ek
     simp only[hd,Ad,Ap (A9 hi),Dk,hx,Ao,Jj])]
    rfl
 unfold Hn;rw[show(0:Int)=((0:Nat):Int) from rfl,key b.Ops.length 0 (by omega),Lm,Ao]
 cases b.Ops.all (Ng l)<;>rfl
theorem cO(b:Af)(h:b.Phis.length<9223372036854775808):G5 b.Phis=some (b.Phis.all λp=>Ec p.Bits):=by
 unfold G5
 rw[j9 b.Phis (default:Fh) (λp=>Ec p.Bits) (Fn b.Phis) (.inl ()) (.inr false) h (λi hi=>by
  unfold Fn Lw
  have hd:decide ((i:Int)<(b.Phis.length:Int))=true:=by simpa using hi
  simp only[hd,Ad,Ap (A9 hi),Dk,P7,Ao]
  cases Ec (b.Phis.getD i default).Bits<;>rfl) (by unfold Fn;simp),Ao]
 cases b.Phis.all λp=>Ec p.Bits<;>rfl
theorem cN(p:List Int)(h:p.length<9223372036854775808):Jv p=some (p.all Ec):=by
 unfold Jv
 rw[j9 p (0:Int) Ec (Ho p) (.inl ()) (.inr false) h (λi hi=>by
  unfold Ho
  have hd:decide ((i:Int)<(p.length:Int))=true:=by simpa using hi
  simp only[hd,Ad,Ap (A9 hi),Dk,P7,Ao]
  cases Ec (p.getD i 0)<;>rfl) (by unfold Ho;simp),Ao]
 cases p.all Ec<;>rfl
theorem LP(b:Af){f:TFunc}(hf:OkF f)(hb:b∈f.Blocks)(l:Int)(h0:0<=l)(h2:l<=2)(t:List Int)(u:List A6):D3 b f l t u=some (Hk l b,f,l,t,u):=by
 unfold D3 Hk;rw[cO b (by have:=(hf.block b hb).phis;omega),Ao,gM b hf hb l h0 h2 t u]
 cases(b.Phis.all λp=>Ec p.Bits)<;>rfl
theorem gX{f:TFunc}(hf:OkF f)(l:Int)(h0:0<=l)(h2:l<=2)(t:List Int)(u:List A6):F5 f l t u=some (bif Ty f l then 0 else 6,f,l,t,u):=by
 have key:∀ k i:Nat,i+k=f.Blocks.length->Ag (Dr f.Blocks) ((i:Int),f.Params,f.Ret,f.Blocks,l,t,u)=some (bif (f.Blocks.drop i).all (Hk l) then .inl (f.Params,f.Ret,f.Blocks,l,t,u) else .inr (false,f,l,t,u)):=by
  intro k
  induction k with
  | zero=>
   intro i h
   obtain rfl:i=f.Blocks.length:=by omega
   rw[Ah (x:=.inl (f.Params,f.Ret,f.Blocks,l,t,u)) (by unfold Dr;simp)]
   simp
  | succ k ih=>
   intro i h
   have hi:i<f.Blocks.length:=by omega
   have hd:decide ((i:Int)<(f.Blocks.length:Int))=true:=by simpa using hi
   have hdr:f.Blocks.drop i=f.Blocks.getD i default::f.Blocks.drop (i+1):=by rw[O7 hi,Aa _ _ _ hi]
   have hx:=LP (f.Blocks.getD i default) hf (getD_mem hi) l h0 h2 t u;rw[hdr,Sa]
   cases ho:Hk l (f.Blocks.getD i default) with
   | true=>
    rw[ho]at hx
    rw[An (s':=(((i+1:Nat):Int),f.Params,f.Ret,f.Blocks,l,t,u)) (by
     unfold Dr;simp only[hd,Ad,Ap (A9 hi),Dk,hx,Ao,Fa,Au,Dv hi (by have:=hf.blocks;omega)]
     rfl),ih (i+1) (by omega),Hi]
   | false=>
    rw[ho]at hx
    rw[Ah (x:=.inr (false,f,l,t,u)) (by
     unfold Dr
     simp only[hd,Ad,Ap (A9 hi),Dk,hx,Ao,Jj])]
    rfl
 have hall:F4 f.Blocks f l t u=some (f.Blocks.all (Hk l),f,l,t,u):=by
  unfold F4;rw[show(0:Int)=((0:Nat):Int) from rfl,key f.Blocks.length 0 (by omega),Lm,Ao]
  cases f.Blocks.all (Hk l)<;>rfl
 unfold F5 Ty Im;rw[cN _ (by have:=hf.few;omega),Ao,hall,P7]
 cases f.Params.all Ec<;>cases Ec f.Ret<;>cases f.Blocks.all (Hk l)<;>rfl
def f9(d:TDef):G6:=bif decide (d.Block<0) then⟨0,-1⟩ else⟨d.Block,d.At⟩
def CE(d:TDef):Ai:=⟨d.Shape,f9 d⟩
def dv(l:List TDef):List (Int×Ai):=l.map λd=>(d.V,CE d)
def HB(acc:List (Int×Ai))(v:Int):Bool:=(Bz acc v || decide (v<1)) || decide (1023<v)
def F8:List (Int×Ai)->List TDef->Bool×List (Int×Ai)
 | acc,[]=>(true,acc)
 | acc,d::ds=>bif HB acc d.V then(false,acc) else F8 (Em acc d.V (CE d)) ds
theorem Yw:∀(a b:List TDef) (acc:List (Int×Ai)),F8 acc (a++b)=bif (F8 acc a).1 then F8 (F8 acc a).2 b else F8 acc a
 | [],b,acc=>rfl
 | d::a,b,acc=>by
  rw[T4];simp only[F8]
  cases HB acc d.V with
  | true=>rfl
  | false=>simp only[Au];exact Yw a b _
theorem Tc{V:Type}(k:Int):∀ l:List (Int×V),Bz l k=l.any λq=>k==q.1
 | []=>rfl
 | (a,b)::l=>by rw[List.any_cons,<- Tc k l];rfl
theorem Uq{V:Type}(k:Int)(v:V):∀{l:List (Int×V)},Bz l k=false->Em l k v=l++[(k,v)]
 | [],_=>rfl
 | (a,b)::l,h=>by
  simp only[Bz,GL]at h;simp only[Em,h.1,Au,Uq k v h.2,T4]
theorem ON(v:Int)(s:Int×Int)(p:G6)(f:TFunc)(l:Int)(t:List Int)(vs:List (Int×Ai))(u:List A6) :
  D4 v s p f l t vs u=some (bif HB vs v then(false,f,l,t,u,vs) else(true,f,l,t,u,Em vs v ⟨s,p⟩)):=by
 unfold D4 HB
 cases Bz vs v<;>cases decide (v<1)<;>cases decide (1023<v)<;>rfl
def ia(f:TFunc)(l:Int)(t:List Int)(u:List A6)(r:Bool×List (Int×Ai)):(List Int×Int×List Af×Int×List Int×List A6×List (Int×Ai)) ⊕ (Bool×TFunc×Int×List Int×List A6×List (Int×Ai)):=
 bif r.1 then .inl (f.Params,f.Ret,f.Blocks,l,t,u,r.2) else .inr (false,f,l,t,u,r.2)
theorem kI(b:Af)(h:b.Phis.length<9223372036854775808)(i:Nat)(f:TFunc)(l:Int)(t:List Int)(u:List A6):∀(k j:Nat) (vs:List (Int×Ai)),j+k=b.Phis.length->
  Ag (Ct (i:Int) b) ((j:Int),f.Params,f.Ret,f.Blocks,l,t,u,vs)=some (ia f l t u (F8 vs ((List.range' j k).flatMap λ(k:Nat)=>[(⟨(b.Phis.getD k default).Dst,i,-1,((b.Phis.getD k default).Bits,1)⟩:TDef)]))):=by
 intro k
 induction k with
 | zero=>
  intro j vs hj
  obtain rfl:j=b.Phis.length:=by omega
  rw[Ah (x:=.inl (f.Params,f.Ret,f.Blocks,l,t,u,vs)) (by unfold Ct;simp)]
  rfl
 | succ k ih=>
  intro j vs hj
  have hi:j<b.Phis.length:=by omega
  have hd:decide ((j:Int)<(b.Phis.length:Int))=true:=by simpa using hi
  have hx:=ON (b.Phis.getD j default).Dst ((b.Phis.getD j default).Bits,1) (⟨(i:Int),-1⟩:G6) f l t vs u
  have hat:f9 (⟨(b.Phis.getD j default).Dst,i,-1,((b.Phis.getD j default).Bits,1)⟩:TDef)=⟨(i:Int),-1⟩:=by unfold f9;rw[Cx (by show ¬ (i:Int)<0;omega)];rfl
  rw[Yi,Yh,List.singleton_append];simp only[F8]
  cases hb:HB vs (b.Phis.getD j default).Dst with
  | true=>
   rw[hb]at hx
   rw[Ah (x:=.inr (false,f,l,t,u,vs)) (by
    unfold Ct Df;simp only[hd,Ad,Ap (A9 hi),Dk,Ao];rw[show(⟨f.Params,f.Ret,f.Blocks⟩:TFunc)=f from rfl,hx]
    rfl)]
   rfl
  | false=>
   rw[hb]at hx
   rw[An (s':=(((j+1:Nat):Int),f.Params,f.Ret,f.Blocks,l,t,u,Em vs (b.Phis.getD j default).Dst ⟨((b.Phis.getD j default).Bits,1),⟨(i:Int),-1⟩⟩)) (by
    unfold Ct Df;simp only[hd,Ad,Ap (A9 hi),Dk,Ao];rw[show(⟨f.Params,f.Ret,f.Blocks⟩:TFunc)=f from rfl,hx,Dv hi h]
    rfl),ih (j+1) _ (by omega)]
   unfold CE;rw[hat]
   rfl
theorem mD{f0:TFunc}(hf:OkF f0){b:Af}(hb:b∈f0.Blocks)(i:Nat)(f:TFunc)(l:Int)(t:List Int)(u:List A6):∀(k j:Nat) (vs:List (Int×Ai)),j+k=b.Ops.length->
  Ag (Bx (i:Int) b) ((j:Int),f.Params,f.Ret,f.Blocks,l,t,u,vs)=some (ia f l t u (F8 vs ((List.range' j k).flatMap λ(k:Nat)=>bif decide (0<(H9 (b.Ops.getD k default)).1) then[(⟨(b.Ops.getD k default).Dst,i,k,H9 (b.Ops.getD k default)⟩:TDef)] else[]))):=by
 have hB:=hf.block b hb;intro k
 induction k with
 | zero=>
  intro j vs hj
  obtain rfl:j=b.Ops.length:=by omega
  rw[Ah (x:=.inl (f.Params,f.Ret,f.Blocks,l,t,u,vs)) (by unfold Bx;simp)]
  rfl
 | succ k ih=>
  intro j vs hj
  have hi:j<b.Ops.length:=by omega
  have hd:decide ((j:Int)<(b.Ops.length:Int))=true:=by simpa using hi
  have hg:Kv (b.Ops.getD j default)=some (H9 (b.Ops.getD j default)):=TS _ (kv hf hb (getD_mem hi));have hx:=ON (b.Ops.getD j default).Dst (H9 (b.Ops.getD j default)) (⟨(i:Int),(j:Int)⟩:G6) f l t vs u
  have hat:f9 (⟨(b.Ops.getD j default).Dst,i,j,H9 (b.Ops.getD j default)⟩:TDef)=⟨(i:Int),(j:Int)⟩:=by unfold f9;rw[Cx (by show ¬ (i:Int)<0;omega)];rfl
  rw[Yi,Yh]
  cases hp:decide (0<(H9 (b.Ops.getD j default)).1) with
  | false=>
   rw[Au,T8,<- ih (j+1) vs (by omega),An (s':=(((j+1:Nat):Int),f.Params,f.Ret,f.Blocks,l,t,u,vs)) (by
    unfold Bx;simp only[hd,Ad,Ap (A9 hi),Dk,hg,Ao,hp];rw[Dv hi (by have:=hB.ops;omega)]
    rfl)]
  | true=>
   rw[Ad,List.singleton_append];simp only[F8]
   cases hb:HB vs (b.Ops.getD j default).Dst with
   | true=>
    rw[hb]at hx
    rw[Ah (x:=.inr (false,f,l,t,u,vs)) (by
     unfold Bx;simp only[hd,Ad,Ap (A9 hi),Dk,hg,Ao,hp];rw[show(true==true)=true from rfl,Ad,show(⟨f.Params,f.Ret,f.Blocks⟩:TFunc)=f from rfl,hx]
     rfl)]
    rfl
   | false=>
    rw[hb]at hx
    rw[An (s':=(((j+1:Nat):Int),f.Params,f.Ret,f.Blocks,l,t,u,Em vs (b.Ops.getD j default).Dst ⟨H9 (b.Ops.getD j default),⟨(i:Int),(j:Int)⟩⟩)) (by
     unfold Bx;simp only[hd,Ad,Ap (A9 hi),Dk,hg,Ao,hp];rw[show(true==true)=true from rfl,Ad,show(⟨f.Params,f.Ret,f.Blocks⟩:TFunc)=f from rfl,hx,Dv hi (by have:=hB.ops;omega)]
     rfl),ih (j+1) _ (by omega)]
    unfold CE;rw[hat]
    rfl
theorem OO{f:TFunc}(hf:OkF f){b:Af}(hb:b∈f.Blocks)(i:Nat)(l:Int)(t:List Int)(u:List A6)(vs:List (Int×Ai)) :
  Ej (i:Int) b f l t vs u=some ((F8 vs (Ma b i)).1,f,l,t,u,(F8 vs (Ma b i)).2):=by
 unfold Ej Ma;rw[show(0:Int)=((0:Nat):Int) from rfl,kI b (by have:=(hf.block b hb).phis;omega) i f l t u b.Phis.length 0 vs (by omega),Ao,Yw];rw[show(List.range' 0 b.Phis.length).flatMap (λ(k:Nat)=>[(⟨(b.Phis.getD k default).Dst,i,-1,((b.Phis.getD k default).Bits,1)⟩:TDef)])=Uj b i by rw[Uj,BN]];unfold ia
 cases h1:(F8 vs (Uj b i)).1 with
 | false=>simp only[Au];rw[h1]
 | true=>
  simp only[Ad];rw[mD hf hb i f l t u b.Ops.length 0 _ (by omega),Ao];rw[show(List.range' 0 b.Ops.length).flatMap (λ(k:Nat)=>bif decide (0<(H9 (b.Ops.getD k default)).1) then[(⟨(b.Ops.getD k default).Dst,i,k,H9 (b.Ops.getD k default)⟩:TDef)] else[])=DU b i by rw[DU,BN]];unfold ia;cases h2:(F8 (F8 vs (Uj b i)).2 (DU b i)).1<;>rfl
theorem Us{l:List TDef}{i:Nat}(hi:i<l.length):K2 l i=true↔valS (l.getD i default).V=true/\∀ j,j<i->(l.getD j default).V≠(l.getD i default).V:=by
 unfold K2;rw[A3];refine and_congr Iff.rfl ?_;unfold Ii
 cases hx:l.findIdx? (λd=>d.V==(l.getD i default).V) with
 | none=>
  rw[List.findIdx?_eq_none_iff]at hx;have:=hx _ (getD_mem (d:=default) hi);simp at this
 | some j=>
  obtain⟨hj,h1,h2⟩:=List.findIdx?_eq_some_iff_getElem.1 hx;simp only[zzL71,Int.natCast_inj]
  constructor
  ·rintro rfl k hk he;have:=h2 k hk;rw[Aa _ _ _ (by omega:k<l.length)]at he;simp at this;exact this he
  ·intro h
   have hv:(l.getD j default).V=(l.getD i default).V:=by rw[Aa _ _ _ hj];simpa using h1
   rcases Nat.lt_trichotomy j i with hlt|rfl|hgt
   ·exact absurd hv (h j hlt)
   ·rfl
   ·have:=h2 i hgt;rw[<- Aa l i default hi]at this;simp at this
theorem iD(l:List TDef)(v:Int):Bz (dv l) v=l.any λd=>v==d.V:=by
 rw[Tc,dv,List.any_map];rfl
theorem DT:∀(ds pre:List TDef),(F8 (dv pre) ds).1=(List.range' pre.length ds.length).all (K2 (pre++ds))/\((F8 (dv pre) ds).1=true->(F8 (dv pre) ds).2=dv (pre++ds))
 | [],pre=>by simp[F8]
 | d::ds,pre=>by
  have hi:pre.length<(pre++d::ds).length:=by simp
  have hg:(pre++d::ds).getD pre.length default=d:=by simp[List.getD]
  have hj:∀ j,j<pre.length->(pre++d::ds).getD j default=pre.getD j default:=λj h=>by simp[List.getD,Qa h]
  have hok:K2 (pre++d::ds) pre.length = !HB (dv pre) d.V:=by
   rw[M7,Us hi,hg];unfold HB valS;rw[iD];simp only[O9,GL,KK,List.any_eq_false,zzL71,A3,Dw]
   constructor
   ·rintro⟨⟨h1,h2⟩,h3⟩;refine⟨⟨λx hx he=>?_,by omega⟩,by omega⟩;obtain⟨j,hjl,rfl⟩:=Ll hx;have:=h3 j hjl;rw[hj j hjl,Aa _ _ _ hjl]at this;exact this he.symm
   ·rintro⟨⟨h1,h2⟩,h3⟩;refine⟨⟨by omega,by omega⟩,λj hjl he=>?_⟩;rw[hj j hjl,Aa _ _ _ hjl]at he;exact h1 _ (Yj hjl) he.symm
  rw[M6,Yi,Sa,hok];simp only[F8]
  cases hb:HB (dv pre) d.V with
  | true=>exact⟨rfl,λh=>by cases h⟩
  | false=>
   have hn:Bz (dv pre) d.V=false:=by
    unfold HB at hb;simp only[GL]at hb;exact hb.1.1
   have hs:Em (dv pre) d.V (CE d)=dv (pre++[d]):=by rw[Uq _ _ hn,dv,dv,AB];rfl
   have:=DT ds (pre++[d]);rw[Eo,Yg,List.singleton_append]at this;rw[Au,hs,Jj,Hi];exact this
def pv(f:TFunc)(n:Nat):List (Int×Ai):=(List.range n).map λ(j:Nat)=>((j:Int)+1,⟨(f.Params.getD j 0,1),⟨0,-1⟩⟩)
theorem mY(f:TFunc):pv f f.Params.length=dv (Lh f):=by
 unfold pv dv Lh;rw[List.map_flatMap]
 induction List.range f.Params.length with
 | nil=>rfl
 | cons a l ih=>rw[Br,Yh,ih];rfl
theorem cT{f:TFunc}(hf:OkF f):∀(k i:Nat),i+k=f.Params.length->Ag (D5 f) ((i:Int),pv f i)=some (pv f f.Params.length):=by
 intro k
 induction k with
 | zero=>
  intro i h
  obtain rfl:i=f.Params.length:=by omega
  exact Ah (by unfold D5;simp)
 | succ k ih=>
  intro i h
  have hi:i<f.Params.length:=by omega
  have hd:decide ((i:Int)<(f.Params.length:Int))=true:=by simpa using hi
  have hn:Bz (pv f i) ((i:Int)+1)=false:=by
   rw[Tc,pv,List.any_map,List.any_eq_false];intro j hj;have:=zzL44.1 hj
   simp;omega
  have hs:Em (pv f i) ((i:Int)+1) ⟨(f.Params.getD i 0,1),⟨0,-1⟩⟩=pv f (i+1):=by
   rw[Uq _ _ hn,pv,pv,AC,AB];rfl
  rw[An (s':=(((i+1:Nat):Int),pv f (i+1))) (by
   unfold D5 Df;simp only[hd,Ad,Ap (A9 hi),Dk,Ao,Dv hi (by have:=hf.few;omega),hs]
   rfl)]
  exact ih (i+1) (by omega)
theorem cP{f:TFunc}(hf:OkF f)(l:Int)(t:List Int)(u:List A6):∀(k i:Nat) (vs:List (Int×Ai)),i+k=f.Blocks.length->
  Ag (De f) ((i:Int),vs,f.Params,f.Ret,f.Blocks,l,t,u)=some (bif (F8 vs ((List.range' i k).flatMap λi=>Ma (f.Blocks.getD i default) i)).1 then .inl ((F8 vs ((List.range' i k).flatMap λi=>Ma (f.Blocks.getD i default) i)).2,f.Params,f.Ret,f.Blocks,l,t,u) else
   .inr (7,f,l,t,u,(F8 vs ((List.range' i k).flatMap λi=>Ma (f.Blocks.getD i default) i)).2)):=by
 intro k
 induction k with
 | zero=>
  intro i vs h
  obtain rfl:i=f.Blocks.length:=by omega
  rw[Ah (x:=.inl (vs,f.Params,f.Ret,f.Blocks,l,t,u)) (by unfold De;simp)]
  rfl
 | succ k ih=>
  intro i vs h
  have hi:i<f.Blocks.length:=by omega
  have hd:decide ((i:Int)<(f.Blocks.length:Int))=true:=by simpa using hi
  have hx:=OO hf (getD_mem (d:=default) hi) i l t u vs;rw[Yi,Yh,Yw]
  cases hb:(F8 vs (Ma (f.Blocks.getD i default) i)).1 with
  | false=>
   rw[hb]at hx
   rw[Ah (x:=.inr (7,f,l,t,u,(F8 vs (Ma (f.Blocks.getD i default) i)).2)) (by
    unfold De;simp only[hd,Ad,Ap (A9 hi),Dk];rw[show(⟨f.Params,f.Ret,f.Blocks⟩:TFunc)=f from rfl,hx]
    rfl),Au,hb]
   rfl
  | true=>
   rw[hb]at hx
   rw[An (s':=(((i+1:Nat):Int),(F8 vs (Ma (f.Blocks.getD i default) i)).2,f.Params,f.Ret,f.Blocks,l,t,u)) (by
    unfold De;simp only[hd,Ad,Ap (A9 hi),Dk];rw[show(⟨f.Params,f.Ret,f.Blocks⟩:TFunc)=f from rfl,hx,Dv hi (by have:=hf.blocks;omega)]
    rfl),ih (i+1) _ (by omega),Ad]
theorem pG{f:TFunc}(hf:OkF f):∀ i,i<f.Params.length->K2 (Ax f) i=true:=λi hi=>by
 have hl:=IL f
 have hg:∀ j,j<f.Params.length->(Ax f).getD j default=⟨(j:Int)+1,-1,0,(f.Params.getD j 0,1)⟩:=λj hj=>by
  have e:Lh f=(List.range f.Params.length).map λ(i:Nat)=>(⟨(i:Int)+1,-1,0,(f.Params.getD i 0,1)⟩:TDef):=by
   unfold Lh
   induction List.range f.Params.length with
   | nil=>rfl
   | cons a l ih=>rw[Br,Yh,ih];rfl
  rw[Ax,List.getD,Qa (by omega),e];simp[hj]
 have hle:i<(Ax f).length:=by rw[Ax,Eo];omega
 rw[Us hle,hg i hi];refine⟨?_,λj hj=>?_⟩
 ·have:=hf.few;simp only[valS,A3,Dw];omega
 ·rw[hg j (by omega)];simp only;omega
theorem YY{f:TFunc}(hf:OkF f)(l:Int)(t:List Int)(u:List A6):∃ vs,E3 f l t u=some (bif (List.range (Ax f).length).all (K2 (Ax f)) then 0 else 7,f,l,t,u,vs)/\((List.range (Ax f).length).all (K2 (Ax f))=true->vs=dv (Ax f)):=by
 have hsp:=DT ((List.range f.Blocks.length).flatMap λi=>Ma (f.Blocks.getD i default) i) (Lh f)
 have hall:(List.range (Ax f).length).all (K2 (Ax f))=(F8 (dv (Lh f)) ((List.range f.Blocks.length).flatMap λi=>Ma (f.Blocks.getD i default) i)).1:=by
  rw[hsp.1]
  show(List.range (Ax f).length).all (K2 (Ax f))=(List.range' (Lh f).length _).all (K2 (Ax f))
  have hs:List.range (Ax f).length=List.range (Lh f).length++List.range' (Lh f).length ((List.range f.Blocks.length).flatMap λi=>Ma (f.Blocks.getD i default) i).length:=by
   rw[BN,BN,Ax,Eo];have:=List.range'_append_1 (s:=0) (m:=(Lh f).length) (n:=((List.range f.Blocks.length).flatMap λi=>Ma (f.Blocks.getD i default) i).length);rw[Fi]at this;exact this.symm
  rw[hs,List.all_append];have:(List.range (Lh f).length).all (K2 (Ax f))=true:=zzL27.2 λi hi=>pG hf i (by rw[<- IL f];exact zzL44.1 hi);rw[this,Hi]
 unfold E3;have hp:=cT hf f.Params.length 0 (by omega);have e0:pv f 0=[]:=rfl;rw[e0,show(((0:Nat):Int))=0 from rfl]at hp;rw[hp,Ao,mY];have hb:=cP hf l t u f.Blocks.length 0 (dv (Lh f)) (by omega);rw[show(((0:Nat):Int))=0 from rfl,<- BN]at hb;rw[hb,Ao,hall];refine⟨(F8 (dv (Lh f)) ((List.range f.Blocks.length).flatMap λi=>Ma (f.Blocks.getD i default) i)).2,?_,hsp.2⟩
 cases(F8 (dv (Lh f)) ((List.range f.Blocks.length).flatMap λi=>Ma (f.Blocks.getD i default) i)).1<;>rfl
theorem Up{β S X:Type}(B:Nat)(mk:Int->List β->S)(out:List β->X)(n:Nat)(E:Nat->List β)(f:S->Option (LR S X))(hn:∀(acc:List β) (i:Nat),i<n->(acc++E i).length<=B->f (mk i acc)=some (.next (mk ((i:Int)+1) (acc++E i))))
  (hd:∀ acc:List β,f (mk n acc)=some (.done (out acc))):∀(k i:Nat) (acc:List β),i+k=n->(acc++(List.range' i k).flatMap E).length<=B->Ag f (mk i acc)=some (out (acc++(List.range' i k).flatMap E))
 | 0,i,acc,h,_=>by
  obtain rfl:i=n:=by omega
  rw[Ah (hd acc)]
  simp
 | k+1,i,acc,h,hB=>by
  have hi:i<n:=by omega
  rw[Yi,Yh,<- Yg]at hB ⊢;rw[An (hn acc i hi (by rw[Eo]at hB;omega)),show((i:Int)+1)=((i+1:Nat):Int) by omega,Up B mk out n E f hn hd k (i+1) _ (by omega) hB]
theorem PP{β γ:Type}(h:β->γ)(n:Nat)(g:Nat->β):(List.range' 0 n).flatMap (λj=>[h (g j)])=((List.range n).flatMap λj=>[g j]).map h:=by
 rw[List.map_flatMap,BN];rfl
theorem EP{β γ:Type}(h:β->γ)(n:Nat)(g:Nat->List β):(List.range' 0 n).flatMap (λj=>(g j).map h)=((List.range n).flatMap g).map h:=by
 rw[List.map_flatMap,BN]
def K6(f:TFunc)(b:Int):Int:=((f.Blocks.getD b.toNat default).Ops.length:Int)
def Dy(f:TFunc)(u:Mq):A6:=⟨u.V,u.Shape,⟨u.Block,bif u.At==1000 then K6 f u.Block else u.At⟩⟩
theorem WL(f:TFunc)(l:Int)(t:List Int)(vs:List (Int×Ai))(v:Int)(s:Int×Int)(p:G6)(u:List A6)(h:(u++[(⟨v,s,p⟩:A6)]).length<=10000000):Dm v s p f l t vs u=some (f,l,t,u++[⟨v,s,p⟩]):=by
 unfold Dm;rw[Ac (by rw[Eo]at h;rw[XJ];omega)]
theorem cR(f:TFunc)(l:Int)(t:List Int)(vs:List (Int×Ai))(b:Int)(hb:Bt b f.Blocks.length)(u:List A6):Ee b f l t vs u=some (⟨b,K6 f b⟩,f,l,t,u):=by
 unfold Ee;rw[Ac hb];rfl
section
variable {f:TFunc} (hf:OkF f) (l:Int) (t:List Int) (vs:List (Int×Ai))
include hf
theorem kH(i k:Nat)(hi:i<f.Blocks.length)(hk:k<(f.Blocks.getD i default).Phis.length)(hfit:((f.Blocks.getD i default).Phis.getD k default).Args.length<=((f.Blocks.getD i default).Phis.getD k default).From.length)
  (hin:∀ x∈((f.Blocks.getD i default).Phis.getD k default).From,Bt x f.Blocks.length) (u:List A6) (hB:(u++(La ((f.Blocks.getD i default).Phis.getD k default)).map (Dy f)).length<=10000000) :
  Ag (C9 f vs (i:Int) (k:Int)) ((0:Int),f.Params,f.Ret,f.Blocks,l,t,u)=some (f.Params,f.Ret,f.Blocks,l,t,u++(La ((f.Blocks.getD i default).Phis.getD k default)).map (Dy f)):=by
 have hlen:=dh hf (getD_mem (d:=(default:Af)) hi) (getD_mem (d:=(default:Fh)) hk)
 generalize hp:(f.Blocks.getD i default).Phis.getD k default=p at *
 have e:=PP (Dy f) p.Args.length λ(j:Nat)=>(⟨p.Args.getD j 0,p.From.getD j 0,1000,(p.Bits,1)⟩:Mq)
 have:=Up 10000000 (λj u=>(j,f.Params,f.Ret,f.Blocks,l,t,u)) (λu=>(f.Params,f.Ret,f.Blocks,l,t,u)) p.Args.length (λ(j:Nat)=>[Dy f ⟨p.Args.getD j 0,p.From.getD j 0,1000,(p.Bits,1)⟩]) (C9 f vs (i:Int) (k:Int)) (λacc j hj hacc=>by
  unfold C9 Df
  have hd:decide ((j:Int)<(p.Args.length:Int))=true:=by simpa using hj
  have hjf:j<p.From.length:=by omega
  simp only[Dk,hp,hd,Ad,Ap (A9 hj),Ao,Ap (A9 hjf)];rw[show(⟨f.Params,f.Ret,f.Blocks⟩:TFunc)=f from rfl,cR f l t vs _ (hin _ (getD_mem hjf)),Ao];simp only;have eu:Dy f ⟨p.Args.getD j 0,p.From.getD j 0,1000,(p.Bits,1)⟩=⟨p.Args.getD j 0,(p.Bits,1),⟨p.From.getD j 0,K6 f (p.From.getD j 0)⟩⟩:=rfl;rw[eu]at hacc ⊢
  rw[WL f l t vs _ _ _ acc hacc,Ao,Dv hj (by omega)]) (λacc=>by unfold C9;simp only[Dk,hp,show decide ((p.Args.length:Int)<(p.Args.length:Int))=false by simp,Au]) p.Args.length 0 u (by omega) (by rw[e];exact hB)
 rw[e]at this;exact this
theorem gW(i:Nat)(hi:i<f.Blocks.length)(hfit:∀ p∈(f.Blocks.getD i default).Phis,p.Args.length<=p.From.length/\∀ x∈p.From,Bt x f.Blocks.length)(u:List A6)(hB:(u++(Rq (f.Blocks.getD i default)).map (Dy f)).length<=10000000) :
  Ag (Da f vs (i:Int)) ((0:Int),f.Params,f.Ret,f.Blocks,l,t,u)=some (f.Params,f.Ret,f.Blocks,l,t,u++(Rq (f.Blocks.getD i default)).map (Dy f)):=by
 have hBk:=hf.block _ (getD_mem (d:=(default:Af)) hi);have e:=EP (Dy f) (f.Blocks.getD i default).Phis.length λ(k:Nat)=>La ((f.Blocks.getD i default).Phis.getD k default)
 have:=Up 10000000 (λj u=>(j,f.Params,f.Ret,f.Blocks,l,t,u)) (λu=>(f.Params,f.Ret,f.Blocks,l,t,u)) (f.Blocks.getD i default).Phis.length (λ(k:Nat)=>(La ((f.Blocks.getD i default).Phis.getD k default)).map (Dy f)) (Da f vs (i:Int)) (λacc k hk hacc=>by
  have hq:=hfit _ (getD_mem (d:=(default:Fh)) hk);have h1:=kH hf l t vs i k hi hk hq.1 hq.2 acc hacc;unfold Da
  have hd:decide ((k:Int)<((f.Blocks.getD i default).Phis.length:Int))=true:=by simpa using hk
  simp only[Dk,hd,Ad,Ap (A9 hk),h1,Ao,Dv hk (by have:=hBk.phis;omega)]) (λacc=>by unfold Da;simp) (f.Blocks.getD i default).Phis.length 0 u (by omega) (by rw[e];exact hB)
 rw[e]at this;exact this
theorem mC(i k:Nat)(hi:i<f.Blocks.length)(hk:k<(f.Blocks.getD i default).Ops.length)(u:List A6)(hB:(u++(Nl ((f.Blocks.getD i default).Ops.getD k default) i k).map (Dy f)).length<=10000000) :
  Ag (Db f vs (i:Int) (k:Int) (F1 ((f.Blocks.getD i default).Ops.getD k default))) ((0:Int),f.Params,f.Ret,f.Blocks,l,t,u)=some (f.Params,f.Ret,f.Blocks,l,t,u++(Nl ((f.Blocks.getD i default).Ops.getD k default) i k).map (Dy f)):=by
 have hBk:=hf.block _ (getD_mem (d:=(default:Af)) hi);have hlen:=GD (ja hf (getD_mem (d:=(default:Af)) hi) (getD_mem (d:=(default:Cz)) hk));have hk512:=hBk.ops
 generalize hp:(f.Blocks.getD i default).Ops.getD k default=o at *
 have e:=PP (Dy f) (F1 o).length λ(j:Nat)=>(⟨o.Args.getD j 0,i,k,(F1 o).getD j (0,0)⟩:Mq)
 have:=Up 10000000 (λj u=>(j,f.Params,f.Ret,f.Blocks,l,t,u)) (λu=>(f.Params,f.Ret,f.Blocks,l,t,u)) (F1 o).length (λ(j:Nat)=>[Dy f ⟨o.Args.getD j 0,i,k,(F1 o).getD j (0,0)⟩]) (Db f vs (i:Int) (k:Int) (F1 o)) (λacc j hj hacc=>by
  have hkk:((k:Int)==1000)=false:=by simp;omega
  have eu:Dy f ⟨o.Args.getD j 0,i,k,(F1 o).getD j (0,0)⟩=⟨o.Args.getD j 0,(F1 o).getD j (0,0),⟨(i:Int),(k:Int)⟩⟩:=by unfold Dy;simp only[hkk,Au]
  rw[eu]at hacc ⊢;unfold Db
  have hd:decide ((j:Int)<((F1 o).length:Int))=true:=by simpa using hj
  have hja:j<o.Args.length:=by omega
  simp only[Dk,hp,hd,Ad,Ap (A9 hj),Ap (A9 hja)]
  rw[show(⟨f.Params,f.Ret,f.Blocks⟩:TFunc)=f from rfl,WL f l t vs _ _ _ acc hacc,Ao,Dv hj (by omega)]) (λacc=>by unfold Db;simp) (F1 o).length 0 u (by omega) (by rw[e];exact hB)
 rw[e]at this;exact this
theorem kG(i:Nat)(hi:i<f.Blocks.length)(u:List A6)(hB:(u++(Zu (f.Blocks.getD i default) i).map (Dy f)).length<=10000000) :
  Ag (Dc f vs (i:Int)) ((0:Int),f.Params,f.Ret,f.Blocks,l,t,u)=some (f.Params,f.Ret,f.Blocks,l,t,u++(Zu (f.Blocks.getD i default) i).map (Dy f)):=by
 have hmem:=getD_mem (d:=(default:Af)) hi;have hBk:=hf.block _ hmem;have e:=EP (Dy f) (f.Blocks.getD i default).Ops.length λ(k:Nat)=>Nl ((f.Blocks.getD i default).Ops.getD k default) i k
 have:=Up 10000000 (λj u=>(j,f.Params,f.Ret,f.Blocks,l,t,u)) (λu=>(f.Params,f.Ret,f.Blocks,l,t,u)) (f.Blocks.getD i default).Ops.length (λ(k:Nat)=>(Nl ((f.Blocks.getD i default).Ops.getD k default) i k).map (Dy f)) (Dc f vs (i:Int)) (λacc k hk hacc=>by
  have h1:=mC hf l t vs i k hi hk acc hacc;have ht:Kw ((f.Blocks.getD i default).Ops.getD k default)=some (F1 ((f.Blocks.getD i default).Ops.getD k default)):=TU _ (kv hf hmem (getD_mem hk));unfold Dc
  have hd:decide ((k:Int)<((f.Blocks.getD i default).Ops.length:Int))=true:=by simpa using hk
  simp only[Dk,hd,Ad,Ap (A9 hk),ht,h1,Ao,Dv hk (by have:=hBk.ops;omega)]) (λacc=>by unfold Dc;simp) (f.Blocks.getD i default).Ops.length 0 u (by omega) (by rw[e];exact hB)
 rw[e]at this;exact this
theorem YW (hfit : ∀ b ∈ f.Blocks, ∀ p ∈ b.Phis, p.Args.length ≤ p.From.length ∧ ∀ x ∈ p.From, Bt x f.Blocks.length) : E2 f l t vs [] = some (f, l, t, (Eb f).map (Dy f)) := by
  have e := EP (Dy f) f.Blocks.length fun (i : Nat) => BL f (f.Blocks.getD i default) i; have hul := KE hf
  have := Up 10000000 (fun j u => (j, f.Params, f.Ret, f.Blocks, l, t, u)) (fun u => (f.Params, f.Ret, f.Blocks, l, t, u)) f.Blocks.length (fun (i : Nat) => (BL f (f.Blocks.getD i default) i).map (Dy f)) (Dd f vs) (fun acc i hi hacc => by
    have hmem := getD_mem (d := (default : Af)) hi; unfold BL at hacc ⊢; rw [AB, AB, ← Yg, ← Yg] at hacc ⊢; have l1 := hacc; simp only [Eo, Qd] at l1; have h1 := gW hf l t vs i hi (hfit _ hmem) acc (by simp only [Eo, Qd]; omega); have h2 := kG hf l t vs i hi (acc ++ (Rq (f.Blocks.getD i default)).map (Dy f)) (by simp only [Eo, Qd]; omega); have hinb : Bt (i : Int) f.Blocks.length := A9 hi; unfold Dd Df
    have hd : decide ((i : Int) < (f.Blocks.length : Int)) = true := by simpa using hi
    simp only [hd, Ad, Ap (A9 hi), h1, Ao, h2, Dk]; have hF : (⟨f.Params, f.Ret, f.Blocks⟩ : TFunc) = f := rfl; have hw : Bh ((i : Int) + 1) = (i : Int) + 1 := Dv hi (by have := hf.blocks; omega); unfold Uy at hacc ⊢
    cases hz : ((f.Blocks.getD i default).End.Kind == 0) with
    | true =>
      have hz2 : ((f.Blocks.getD i default).End.Kind == 2) = false := by have : (f.Blocks.getD i default).End.Kind = 0 := by simpa using hz
                                                                         rw [this]; rfl
      rw [hz, hz2] at hacc; simp only [Ad, Au, hz2, List.append_nil, Br, Cd] at hacc ⊢; rw [hF, cR f l t vs _ hinb, Ao]; simp only; rw [WL f l t vs _ _ _ _ (show (_ ++ [(⟨_, _, ⟨(i : Int), K6 f (i : Int)⟩⟩ : A6)]).length ≤ 10000000 from hacc), Ao, Ao, hw]
      rfl
    | false =>
      rw [hz] at hacc
      cases hz2 : ((f.Blocks.getD i default).End.Kind == 2) with
      | true =>
        rw [hz2] at hacc; simp only [Ad, Au, T8, Br, Cd] at hacc ⊢; rw [hF, cR f l t vs _ hinb, Ao]; simp only; rw [WL f l t vs _ _ _ _ (show (_ ++ [(⟨_, _, ⟨(i : Int), K6 f (i : Int)⟩⟩ : A6)]).length ≤ 10000000 from hacc), Ao, Ao, hw]
        rfl
      | false =>
        simp only [Au, T8, Cd, List.append_nil, Ao, hw]) (fun acc => by unfold Dd; simp) f.Blocks.length 0 [] (by omega) (by rw [e]; simpa [Eb] using (by omega : (Eb f).length ≤ 10000000))
  rw [e, T8] at this; unfold E2; rw [show (0 : Int) = ((0 : Nat) : Int) from rfl]
  show ((Ag (Dd f vs) (((0 : Nat) : Int), f.Params, f.Ret, f.Blocks, l, t, [])).bind _) = _
  rw [this, Ao]
  rfl
end
theorem f7{σ X:Type}(mk:Int->σ)(U:List A6)(p:A6->Bool)(f:σ->Option (LR σ X))(yes no:X)(hk:∀ i:Nat,i<U.length->f (mk i)=some (bif p (U.getD i default) then .next (mk ((i:Int)+1)) else .done no))(he:f (mk U.length)=some (.done yes)) :
  ∀ k i:Nat,i+k=U.length->Ag f (mk i)=some (bif (U.drop i).all p then yes else no)
 | 0,i,h=>by
  obtain rfl:i=U.length:=by omega
  rw[Ah he]
  simp
 | k+1,i,h=>by
  have hi:i<U.length:=by omega
  have hdr:U.drop i=U.getD i default::U.drop (i+1):=by rw[O7 hi,Aa _ _ _ hi]
  have hx:=hk i hi;rw[hdr,Sa]
  cases hp:p (U.getD i default) with
  | true=>
   rw[hp]at hx;rw[An hx,show((i:Int)+1)=((i+1:Nat):Int) by omega,f7 mk U p f yes no hk he k (i+1) (by omega),Hi]
  | false=>
   rw[hp]at hx;rw[Ah hx]
   rfl
theorem DY(d:TDef)(l:List TDef)(v:Int):Ii (d::l) v=bif d.V==v then 0 else bif decide (Ii l v<0) then -1 else Ii l v+1:=by
 unfold Ii;rw[List.findIdx?_cons]
 cases d.V==v with
 | true=>rfl
 | false=>
  cases l.findIdx? (λd=>d.V==v) with
  | none=>rfl
  | some i=>
   simp only[Au,Wt];rw[Cx (by omega)]
   simp
theorem ER(v:Int):∀ l:List TDef,Bz (dv l) v = !decide (Ii l v<0)
 | []=>rfl
 | d::l=>by
  rw[DY]
  show((v==d.V) || Bz (dv l) v)=_
  rw[ER v l,show(v==d.V)=(d.V==v) by rw[M7];simp;exact Oa]
  cases d.V==v with
  | true=>rfl
  | false=>
   by_cases h:Ii l v<0
   ·simp[h]
   ·simp[h];omega
theorem Wg(v:Int):∀ l:List TDef,¬ Ii l v<0->mget (default:Ai) (dv l) v=CE (defOf l v)
 | [],h=>absurd (show(-1:Int)<0 by decide) h
 | d::l,h=>by
  unfold defOf;rw[DY]at h ⊢
  show(bif v==d.V then CE d else mget default (dv l) v)=_
  rw[show(v==d.V)=(d.V==v) by rw[M7];simp;exact Oa]
  cases hb:d.V==v with
  | true=>rfl
  | false=>
   rw[hb]at h
   by_cases hn:Ii l v<0
   ·simp[hn]at h
   ·have hz:decide (Ii l v<0)=false:=Cx hn;simp only[Au,hz];rw[Wg v l hn,show(Ii l v+1).toNat=(Ii l v).toNat+1 by omega]
    rfl
def bW(f:TFunc)(d:TDef):Prop:=d.Block = -1\/(Bt d.Block f.Blocks.length/\d.At<K6 f d.Block/\d.At<1000)
def jD(f:TFunc)(u:Mq):Prop:=Bt u.Block f.Blocks.length/\0<=u.At
theorem gi{f:TFunc}(hf:OkF f):∀ d∈Ax f,bW f d:=λd hd=>by
 rcases zzL11.1 hd with h|h
 ·obtain⟨i,_,hi⟩:=zzL66.1 h;rw[zzL17.1 hi];exact .inl rfl
 ·obtain⟨i,hi,h⟩:=zzL66.1 h
  have hi:i<f.Blocks.length:=by simpa using hi
  have hB:=hf.block _ (getD_mem (d:=(default:Af)) hi);have ho:K6 f (i:Int)=((f.Blocks.getD i default).Ops.length:Int):=rfl;rcases zzL11.1 h with h|h
  ·obtain⟨k,hk,h⟩:=zzL66.1 h;rw[zzL17.1 h];refine .inr ⟨A9 hi,?_,?_⟩
   ·show(-1:Int)<K6 f (i:Int);rw[ho];omega
   ·show(-1:Int)<1000;omega
  ·obtain⟨k,hk,h⟩:=zzL66.1 h
   have hk:k<(f.Blocks.getD i default).Ops.length:=by simpa using hk
   cases hg:decide (0<(H9 ((f.Blocks.getD i default).Ops.getD k default)).1) with
   | false=>rw[hg]at h;cases h
   | true=>
    rw[hg]at h;rw[zzL17.1 h];refine .inr ⟨A9 hi,?_,?_⟩
    ·show(k:Int)<K6 f (i:Int);rw[ho];omega
    ·show(k:Int)<1000;have:=hB.ops;omega
theorem io{f:TFunc}(hfit:∀ b∈f.Blocks,∀ p∈b.Phis,p.Args.length<=p.From.length/\∀ x∈p.From,Bt x f.Blocks.length):∀ u∈Eb f,jD f u:=λu hu=>by
 obtain⟨i,hi,h⟩:=zzL66.1 hu
 have hi:i<f.Blocks.length:=by simpa using hi
 have hmem:=getD_mem (d:=(default:Af)) hi;rcases zzL11.1 h with h|h
 ·rcases zzL11.1 h with h|h
  ·obtain⟨k,hk,h⟩:=zzL66.1 h
   have hk:k<(f.Blocks.getD i default).Phis.length:=by simpa using hk
   obtain⟨j,hj,h⟩:=zzL66.1 h;have hj:=zzL44.1 hj;have hq:=hfit _ hmem _ (getD_mem (d:=(default:Fh)) hk);rw[zzL17.1 h];exact⟨hq.2 _ (getD_mem (by omega)),by show(0:Int)<=1000;omega⟩
  ·obtain⟨k,hk,h⟩:=zzL66.1 h;obtain⟨j,hj,h⟩:=zzL66.1 h;rw[zzL17.1 h];exact⟨A9 hi,by show(0:Int)<=(k:Int);omega⟩
 ·unfold Uy at h
  have:u=⟨(f.Blocks.getD i default).End.Arg,i,1000,(f.Ret,1)⟩\/u=⟨(f.Blocks.getD i default).End.Arg,i,1000,(1,1)⟩:=by
   rcases zzL11.1 h with h|h
   ·cases hz:((f.Blocks.getD i default).End.Kind==0) with
    | true=>rw[hz]at h;exact .inl (zzL17.1 h)
    | false=>rw[hz]at h;cases h
   ·cases hz:((f.Blocks.getD i default).End.Kind==2) with
    | true=>rw[hz]at h;exact .inr (zzL17.1 h)
    | false=>rw[hz]at h;cases h
  rcases this with rfl|rfl<;>exact⟨A9 hi,by show(0:Int)<=1000;omega⟩
theorem kS{f:TFunc}(h:Ga f=true):∀ b∈f.Blocks,∀ p∈b.Phis,p.Args.length<=p.From.length/\∀ x∈p.From,Bt x f.Blocks.length:=λb hb p hp=>by
 have hs:N6 f=true:=by simp only[Ga,A3]at h;exact h.1
 refine⟨ay h b hb p hp,λx hx=>?_⟩;obtain⟨i,hi,rfl⟩:=Ll hb;simp only[Ga,A3]at h;have h1:=bv h.2 i hi;simp only[Qk,A3,zzL27]at h1;rw[Aa _ _ _ hi]at h1;have h2:=h1.2 p hp;simp only[Hc,A3,Dw]at h2;rw[h2.1]at hx;obtain⟨q,rfl,hq,_⟩:=(X1 (L:=En f) (Tn hs) (y:=i) (by rw[X6];exact hi)).1 hx;exact A9 (by rw[X6]at hq;exact hq)
theorem UH{f:TFunc}(h:Ga f=true){b:Int}(hb:Bt b f.Blocks.length):N1 (B1 f) 0 b=true:=by
 have hs:N6 f=true:=by simp only[Ga,A3]at h;exact h.1
 have hm:=Tn hs;have hlen:=X6 f
 have hpos:0<(En f).length:=by have:=(shape_iff.1 hs).1.1;omega
 obtain⟨P,hP,o,ht⟩:=bE hm hpos
 have e:B1 f=Yb (En f) 0:=by
  unfold B1 RI;rw[if_pos ⟨PQ hm,Int.le_refl _,by show(0:Int)<((En f).length:Int);omega⟩]
  rfl
 obtain⟨k,rfl⟩:∃ k:Nat,b=(k:Int):=⟨b.toNat,(Vr hb.1).symm⟩
 have hk:k<f.Blocks.length:=by have:=hb.2;omega
 simp only[Ga,A3]at h;have h1:=bv h.2 k hk;simp only[Qk,A3]at h1;have hr:Rch (sN (En f)) 0 k:=(X2 (Vm hm) hpos k).1 h1.1.1;rw[e];refine(ht.over_dom o hpos (by omega)).2 ⟨rc_iff.2 hr,λha=>?_⟩;exact(av_iff.1 ha).1 rfl
theorem Sy{l:List Mq}{g:Mq->A6}{p:A6->Bool}{q:Mq->Bool}(h:∀ u∈l,p (g u)=q u):(l.map g).all p=l.all q:=by
 induction l with
 | nil=>rfl
 | cons a l ih=>rw[Br,Sa,Sa,h a (by simp),ih λu hu=>h u (by simp[hu])]
def gk(vs:List (Int×Ai))(u:A6):Bool:=((mget (default:Ai) vs u.v).shape.1==u.shape.1)&&(((mget (default:Ai) vs u.v).shape.2==u.shape.2)&&true)
def V7(vs:List (Int×Ai))(t:List Int)(u:A6):Bool:=bif (mget (default:Ai) vs u.v).place.block==u.place.block then decide ((mget (default:Ai) vs u.v).place.at_<u.place.at_) else N1 t (mget (default:Ai) vs u.v).place.block u.place.block
theorem bu{f:TFunc}(hs:Ga f=true){D:List TDef}(hD:∀ d∈D,bW f d){u:Mq}(hu:jD f u)(hfd:K3 D u=true):V7 (dv D) (B1 f) (Dy f u)=Vh D (B1 f) u:=by
 have hF:¬ Ii D u.V<0:=by simpa [K3] using hfd
 have hin:=OZ hF;have hd:bW f (defOf D u.V):=hD _ (by unfold defOf;exact getD_mem (by have:=hin.1;have:=hin.2;omega));have hg:mget (default:Ai) (dv D) (Dy f u).v=CE (defOf D u.V):=Wg u.V D hF;unfold V7 Vh;rw[hg]
 generalize defOf D u.V=d at *
 have hub:=hu.1.1
 have hul:0<=K6 f u.Block:=by unfold K6;omega
 have hat:∀ a:Int,a<0\/(a<K6 f u.Block/\a<1000)->decide (a<(Dy f u).place.at_)=decide (a<u.At)\/a<0:=λa ha=>by
  rcases ha with ha|ha
  ·exact .inr ha
  ·refine .inl ?_
   show decide (a<bif u.At==1000 then K6 f u.Block else u.At)=_
   by_cases h:u.At=1000
   ·rw[h];simp only[show((1000:Int)==1000)=true from rfl,Ad];rw[Cq ha.1,Cq ha.2]
   ·have:(u.At==1000)=false:=by simpa using h
    rw[this];rfl
 have hpos:0<=(Dy f u).place.at_:=by
  show 0<=bif u.At==1000 then K6 f u.Block else u.At
  cases u.At==1000
  ·exact hu.2
  ·exact hul
 have hblk:(Dy f u).place.block=u.Block:=rfl;rw[hblk];rcases hd with hd|⟨hd1,hd2,hd3⟩
 ·have e:(CE d).place=⟨0,-1⟩:=by show f9 d=_;unfold f9;rw[hd];rfl
  rw[e,hd,Cq (show(-1:Int)<0 by decide)]
  show(bif (0:Int)==u.Block then decide ((-1:Int)<(Dy f u).place.at_) else N1 (B1 f) 0 u.Block)=_
  rw[Bool.true_or,Bool.true_or,UH hs hu.1,Cq (show(-1:Int)<(Dy f u).place.at_ by omega)]
  cases(0:Int)==u.Block<;>rfl
 ·have hn:¬ d.Block<0:=by have:=hd1.1;omega
  have e:(CE d).place=⟨d.Block,d.At⟩:=by show f9 d=_;unfold f9;rw[Cx hn];rfl
  rw[e,Cx hn,GO]
  show(bif d.Block==u.Block then decide (d.At<(Dy f u).place.at_) else N1 (B1 f) d.Block u.Block)=_
  cases hb:d.Block==u.Block with
  | true=>
   have hbe:d.Block=u.Block:=by simpa using hb
   simp only[Ad,Hi,Fa,Vu,Bool.or_false];rcases hat d.At (.inr ⟨by rw[<- hbe];exact hd2,hd3⟩) with h|h
   ·exact h
   ·rw[Cq (by omega),Cq (by have:=hu.2;omega)]
  | false=>
   simp only[Au,Vu,GO,Jj,Hi];unfold N1
   by_cases hm:Mf (B1 f) d.Block u.Block=d.Block
   ·rw[hm]
    have:(d.Block !=-2)=true:=by simp;omega
    simp[this]
   ·have:(Mf (B1 f) d.Block u.Block==d.Block)=false:=by simpa using hm
    simp[this,bne]
section
variable {f:TFunc} (l:Int) (vs:List (Int×Ai))
def bS(f:TFunc)(l:Int)(U:List A6)(i:Int):Int×List Int×Int×List Af×Int×List Int×List A6:=(i,f.Params,f.Ret,f.Blocks,l,B1 f,U)
def NU(f:TFunc)(l:Int)(U:List A6):List Int×Int×List Af×Int×List Int×List A6:=(f.Params,f.Ret,f.Blocks,l,B1 f,U)
theorem gY(U:List A6)(hU:U.length<9223372036854775808):Ag (C4 vs (f,l,B1 f,U)) (bS f l U 0)=some (bif U.all (λu=>Bz vs u.v) then .inl (NU f l U) else .inr (NU f l U)):=by
 have:=f7 (bS f l U) U (λu=>Bz vs u.v) (C4 vs (f,l,B1 f,U)) (.inl (NU f l U)) (.inr (NU f l U)) (λi hi=>by
  unfold C4 bS Ha
  have hd:decide ((i:Int)<(U.length:Int))=true:=by simpa using hi
  simp only[hd,Ad,Ap (A9 hi),Dk,Ao,Dv hi hU]
  cases Bz vs (U.getD i default).v<;>rfl) (by unfold C4 bS;simp;rfl) U.length 0 (by omega)
 rw[Lm]at this;exact this
theorem gZ(U:List A6)(hU:U.length<9223372036854775808):Ag (C5 vs U) (bS f l U 0)=some (bif U.all (gk vs) then .inl (NU f l U) else .inr (NU f l U)):=by
 have:=f7 (bS f l U) U (gk vs) (C5 vs U) (.inl (NU f l U)) (.inr (NU f l U)) (λi hi=>by
  unfold C5 bS Il
  have hd:decide ((i:Int)<(U.length:Int))=true:=by simpa using hi
  simp only[hd,Ad,Ap (A9 hi),Dk,Ao,Dv hi hU];unfold gk
  cases(((mget (default:Ai) vs (U.getD i default).v).shape.1==(U.getD i default).shape.1)&&(((mget (default:Ai) vs (U.getD i default).v).shape.2==(U.getD i default).shape.2)&&true))<;>rfl) (by unfold C5 bS;simp;rfl) U.length 0 (by omega)
 rw[Lm]at this;exact this
theorem ga(htl:(B1 f).length<=1000)(U:List A6)(hU:U.length<9223372036854775808):Ag (C6 vs U) (bS f l U 0)=some (bif U.all (V7 vs (B1 f)) then .inl (NU f l U) else .inr (NU f l U)):=by
 have:=f7 (bS f l U) U (V7 vs (B1 f)) (C6 vs U) (.inl (NU f l U)) (.inr (NU f l U)) (λi hi=>by
  have hx:E4 (U.getD i default) f l (B1 f) vs U=some (V7 vs (B1 f) (U.getD i default),f,l,B1 f,U):=by
   unfold E4 V7;rw[kY htl]
   cases(mget (default:Ai) vs (U.getD i default).v).place.block==(U.getD i default).place.block<;>rfl
  unfold C6 bS
  have hd:decide ((i:Int)<(U.length:Int))=true:=by simpa using hi
  simp only[hd,Ad,Ap (A9 hi),Dk];rw[show(⟨f.Params,f.Ret,f.Blocks⟩:TFunc)=f from rfl,hx,Ao,Dv hi hU]
  cases V7 vs (B1 f) (U.getD i default)<;>rfl) (by unfold C6 bS;simp;rfl) U.length 0 (by omega)
 rw[Lm]at this;exact this
end
def GH(f:TFunc):Int:=bif !(Eb f).all (K3 (Ax f)) then 7 else bif !(Eb f).all (Xt (Ax f)) then 6 else bif !(Eb f).all (Vh (Ax f) (B1 f)) then 7 else 0
theorem kN{f:TFunc}(hf:OkF f)(hs:Ga f=true)(l:Int):∃ U,Gp f l (B1 f) (dv (Ax f)) []=some (GH f,f,l,B1 f,U):=by
 have hfit:=kS hs;have hul:=KE hf
 have hsB:N6 f=true:=by simp only[Ga,A3]at hs;exact hs.1
 refine⟨(Eb f).map (Dy f),?_⟩
 have hU:((Eb f).map (Dy f)).length<9223372036854775808:=by rw[Qd];omega
 have h1:=gY (f:=f) l (dv (Ax f)) _ hU;have h2:=gZ (f:=f) l (dv (Ax f)) _ hU;have h3:=ga (f:=f) l (dv (Ax f)) (eQ hsB) _ hU;rw[Sy (q:=K3 (Ax f)) (λu _=>ER u.V _)]at h1;unfold Gp GH Po;rw[YW hf l (B1 f) (dv (Ax f)) hfit,Ao];simp only;rw[show(Ag (C4 (dv (Ax f)) (f,l,B1 f,(Eb f).map (Dy f))) ((0:Int),f.Params,f.Ret,f.Blocks,l,B1 f,(Eb f).map (Dy f)))=_ from h1,Ao];have fin:∀ e:Int,Ag Ka (e,f.Params,f.Ret,f.Blocks,l,B1 f,(Eb f).map (Dy f))=some (e,f,l,B1 f,(Eb f).map (Dy f)):=λe=>Ah rfl
 cases hfd:(Eb f).all (K3 (Ax f)) with
 | false=>simp only[Au,Jj,Ad,NU,Ao,fin]
 | true=>
  have hmf:=zzL27.1 hfd
  rw[Sy (q:=Xt (Ax f)) (λu hu=>by
   have:=hmf u hu;simp only[K3,O9,KK]at this;have hg:mget (default:Ai) (dv (Ax f)) (Dy f u).v=CE (defOf (Ax f) u.V):=Wg u.V _ this;unfold gk Xt
   rw[hg];rfl)]at h2
  rw[Sy (q:=Vh (Ax f) (B1 f)) (λu hu=>bu hs (gi hf) (io hfit u hu) (hmf u hu))]at h3;simp only[Ad,Fa,Au,NU];rw[show(Ag (C5 (dv (Ax f)) ((Eb f).map (Dy f))) ((0:Int),f.Params,f.Ret,f.Blocks,l,B1 f,(Eb f).map (Dy f)))=_ from h2,Ao]
  cases(Eb f).all (Xt (Ax f)) with
  | false=>simp only[Au,Jj,Ad,NU,Ao,fin]
  | true=>
   simp only[Ad,Fa,Au,NU];rw[show(Ag (C6 (dv (Ax f)) ((Eb f).map (Dy f))) ((0:Int),f.Params,f.Ret,f.Blocks,l,B1 f,(Eb f).map (Dy f)))=_ from h3,Ao]
   cases(Eb f).all (Vh (Ax f) (B1 f)) with
   | false=>simp only[Au,Jj,Ad,NU,Ao,fin]
   | true=>simp only[Ad,Fa,Au,NU,Ao]
theorem WM{f:TFunc}(h:Sm f)(l:Int)(h0:0<=l)(h2:l<=2):∃ t u vs,El f l [] []=some (C7 f l,f,l,t,u,vs)/\(C7 f l=0->vs=dv (Ax f)):=by
 have hc:C7 f l=bif !U2 f then 4 else ND f l:=by
  unfold C7;rw[Cx (by omega),Cx (by omega)];rfl
 rw[hc];unfold El;rw[kM f h.1,Ao]
 cases hm:U2 f with
 | false=>exact⟨[],[],[],rfl,λh=>by cases h⟩
 | true=>
  have hf:=jf h hm;simp only[Ad,Fa,Au,show((0:Int)!=0)=false from rfl,ND];obtain⟨t',hsh,hst⟩:=cU hf l [] [];rw[hsh,Ao]
  cases hs:Ga f with
  | false=>exact⟨t',[],[],rfl,λh=>by cases h⟩
  | true=>
   obtain rfl:=hst hs;simp only[Ad,Fa,Au,show((0:Int)!=0)=false from rfl];rw[gX hf l h0 h2,Ao]
   cases Ty f l with
   | false=>exact⟨B1 f,[],[],rfl,λh=>by cases h⟩
   | true=>
    simp only[Ad,Fa,Au,show((0:Int)!=0)=false from rfl];obtain⟨vs,hd,hv⟩:=YY hf l (B1 f) [];rw[hd,Ao]
    cases hdd:(List.range (Ax f).length).all (K2 (Ax f)) with
    | false=>exact⟨B1 f,[],vs,rfl,λh=>by cases h⟩
    | true=>
     obtain rfl:=hv hdd;simp only[Ad,Fa,Au,show((0:Int)!=0)=false from rfl];obtain⟨U,hu⟩:=kN hf hs l;rw[hu,Ao];refine⟨B1 f,U,dv (Ax f),?_,λ_=>rfl⟩
     show(bif GH f !=0 then some (GH f,f,l,B1 f,U,dv (Ax f)) else some (0,f,l,B1 f,U,dv (Ax f)))=some (GH f,f,l,B1 f,U,dv (Ax f))
     cases hz:GH f !=0 with
     | true=>rfl
     | false=>
      have:GH f=0:=by simpa using hz
      rw[this];rfl
theorem gP(f:TFunc)(l:Int)(h:Sm f):L7 f l=some (C7 f l):=by
 unfold L7
 by_cases h0:l<0
 ·rw[Cq h0];unfold C7;rw[Cq h0];rfl
 ·by_cases h2:2<l
  ·rw[Cx h0,Cq h2];unfold C7;rw[Cx h0,Cq h2];rfl
  ·obtain⟨t,u,vs,hw,_⟩:=WM h l (by omega) (by omega);rw[Cx h0,Cx h2,hw];rfl
def lone(e:Hs)(b r:Int):TFunc:=⟨[b],r,[⟨[],[],e⟩]⟩
theorem pH{α:Type}(l:List α):(l.map λ_=>1).sum=l.length:=by induction l with|nil=>rfl|cons a l ih=>simp[ih];omega
def ie(l:List TDef):List (Int×(Int×Int)):=l.map λd=>(d.V,d.Shape)
theorem Wb{f:TFunc}(h:(List.range (Ax f).length).all (K2 (Ax f))=true):((Ax f).map (·.V)).Nodup:=by
 rw[List.nodup_iff_pairwise_ne,List.pairwise_map,zzL102];intro i j hi hj hij he;have:=((Us hj).1 (bv h j hj)).2 i hij;rw[Aa _ _ _ hi,Aa _ _ _ hj]at this;exact this he
theorem FY{x1:Int×TFunc×Int×List Int×List A6×List (Int×Ai)}(D:List TDef)(hx:x1.2.2.2.2.2=dv D)(hn:(D.map (·.V)).Nodup):∀(τ:List Nat) (acc:List (Int×(Int×Int))),τ.Nodup->(∀ i∈τ,i<D.length)->(∀ i∈τ,Bz acc (D.getD i default).V=false)->
  Tq (Gm x1) Ib τ acc=some (acc++τ.map λi=>((D.getD i default).V,(D.getD i default).Shape))
 | [],acc,_,_,_=>by simp[Tq,Ib]
 | i::τ,acc,hd,hin,hf=>by
  have hi:=hin i (by simp)
  have hg:(dv D).getD i ((0:Int),(default:Ai))=((D.getD i default).V,CE (D.getD i default)):=by
   unfold dv;simp[List.getD,hi]
  have hm:=Uq (D.getD i default).V (D.getD i default).Shape (hf i (by simp))
  have hstep:Gm x1 i acc=some (.next (acc++[((D.getD i default).V,(D.getD i default).Shape)])):=by
   unfold Gm;rw[hx,hg]
   show some (LR.next (Em acc (D.getD i default).V ((D.getD i default).Shape.1,(D.getD i default).Shape.2)))=_
   rw[show((D.getD i default).Shape.1,(D.getD i default).Shape.2)=(D.getD i default).Shape from rfl,hm]
  unfold Tq;rw[hstep]
  show Tq _ _ τ _=_
  rw[FY D hx hn τ _ (zzL76.1 hd).2 (λj hj=>hin j (by simp[hj])) (λj hj=>?_),Br,Yg]
  ·rfl
  ·have h1:=hf j (by simp[hj]);rw[Tc]at h1 ⊢;rw[List.any_append,h1,GO];have hj':=hin j (by simp[hj]);have hne:j≠i:=λe=>(zzL76.1 hd).1 (e▸hj)
   have:(D.getD j default).V≠(D.getD i default).V:=λe=>by
    rw[List.nodup_iff_pairwise_ne,List.pairwise_map,zzL102]at hn;rw[Aa _ _ _ hi,Aa _ _ _ hj']at e;rcases Nat.lt_or_gt_of_ne hne with h|h
    ·exact hn j i hj' hi h e
    ·exact hn i j hi hj' h e.symm
   simpa using this
theorem OP(f:TFunc)(h:Sm f):∃ s,Kr f=some s/\bg f s:=by
 obtain⟨t,u,vs,hw,hv⟩:=WM h 2 (by omega) (by omega);unfold Kr;rw[hw,Ao]
 cases hc:(C7 f 2 !=0) with
 | true=>
  have hne:C7 f 2≠0:=by simpa using hc
  exact⟨[],rfl,λ_=>rfl,λe=>absurd e hne,λe=>absurd e hne,λe=>absurd e hne⟩
 | false=>
  have h0:C7 f 2=0:=by simpa using hc
  obtain rfl:=hv h0;have hz:=(V9 (f:=f) (l:=2) (by omega) (by omega)).1 h0
  have hall:(List.range (Ax f).length).all (K2 (Ax f))=true:=by
   have:=hz.2.2.2;unfold JV at this
   cases hb:(List.range (Ax f).length).all (K2 (Ax f)) with
   | true=>rfl
   | false=>rw[hb]at this;cases this
  have hn:=Wb hall
  have hlen:(mapE (λ(v_:Ai)=>((.agg (Qn v_)):AV)) (dv (Ax f))).length=(Ax f).length:=by simp[mapE,dv]
  have hkeys:((ie (Ax f)).map (·.1)).Nodup:=by
   have:(ie (Ax f)).map (·.1)=(Ax f).map (·.V):=by unfold ie;rw[List.map_map];rfl
   rw[this];exact hn
  have hrun:∀ τ:List Nat,τ.Perm (List.range (mapE (λ(v_:Ai)=>((.agg (Qn v_)):AV)) (dv (Ax f))).length)->∃ x',Tq (Gm (C7 f 2,f,2,t,u,dv (Ax f))) Ib τ ([]:List (Int×(Int×Int)))=some x'/\JQ x' (ie (Ax f)):=λτ hτ=>by
   rw[hlen]at hτ;have hr:=FY (x1:=(C7 f 2,f,2,t,u,dv (Ax f))) (Ax f) rfl hn τ [] (hτ.nodup_iff.2 List.nodup_range) (λi hi=>zzL44.1 (hτ.mem_iff.1 hi)) (λ_ _=>rfl);refine⟨_,hr,?_,hkeys⟩;rw[T8];have:=hτ.map λi=>(((Ax f).getD i default).V,((Ax f).getD i default).Shape);refine this.trans ?_
   have e:(List.range (Ax f).length).map (λi=>(((Ax f).getD i default).V,((Ax f).getD i default).Shape))=ie (Ax f):=by
    unfold ie
    apply Z0
    ·simp
    ·intro i h1 h2;simp only[Qd,Vs]at h1;simp only[List.getElem_map,List.getElem_range,Aa _ _ _ h1]
   rw[e]
  obtain⟨s,hs⟩:=ak ⟨ie (Ax f),hrun⟩
  have hp:s.Perm (ie (Ax f))/\(s.map (·.1)).Nodup:=by
   have hsp:=BF hs (List.range _) (List.Perm.refl _);obtain⟨x',h1,h2⟩:=hsp;obtain⟨x2,h3,h4⟩:=hrun (List.range _) (List.Perm.refl _);rw[h1]at h3;obtain rfl:=OI h3;exact⟨h2.1.symm.trans h4.1,h2.2⟩
  refine⟨s,?_,λhne=>absurd h0 hne,λ_=>?_,λ_ d hd=>?_,λ_ v hv=>?_⟩
  ·show(Wj JQ _ _ _ _).bind _=_
   rw[hs];rfl
  ·rw[hp.1.length_eq];simp[ie]
  ·have hm:(d.V,d.Shape)∈s:=hp.1.mem_iff.2 (zzL26.2 ⟨d,hd,rfl⟩);exact EQ hp.2 hm
  ·rw[Tc,List.any_eq_true]at hv;obtain⟨q,hq,he⟩:=hv;obtain⟨d,hd,rfl⟩:=zzL26.1 (hp.1.mem_iff.1 hq);exact⟨d,hd,by simpa using(by simpa using he:v=d.V).symm⟩
abbrev bA(f:TFunc)(i:Nat):Af:=f.Blocks.getD i default
def ov(f:TFunc)(i:Nat)(k:Nat):Int:=(bA f i).End.To.getD k 0
structure Rt(f:TFunc):Prop where
 lo:1<=f.Blocks.length
 hi:f.Blocks.length<=64
 to:∀ i,i<f.Blocks.length->∀ k,k<(bA f i).End.To.length->0<ov f i k/\ov f i k<f.Blocks.length
 one:∀ i,i<f.Blocks.length->(bA f i).End.Kind=1->(bA f i).End.To.length=1
 two:∀ i,i<f.Blocks.length->(bA f i).End.Kind=2->(bA f i).End.To.length=2
 may:Lz (En f)=true
 ok:OkF f
set_option maxRecDepth 100000
def o7(f:TFunc)(d:TDef)(b a:Int):Prop:=d.Block<0\/(d.Block=b/\d.At<a)\/(d.Block≠b/\N1 (B1 f) d.Block b=true)
theorem TJ{l:List TDef}(hn:(l.map (·.V)).Nodup){d:TDef}(hd:d∈l):0<=Ii l d.V/\defOf l d.V=d:=by
 obtain⟨i,hi,rfl⟩:=Ll hd
 have hx:∃ k,l.findIdx? (λe=>e.V==l[i].V)=some k:=by
  cases h:l.findIdx? (λe=>e.V==l[i].V) with
  | some k=>exact⟨k,rfl⟩
  | none=>
   have:=List.findIdx?_eq_none_iff.1 h _ (Yj hi);simp at this
 obtain⟨k,hk⟩:=hx;obtain⟨hk1,hk2,_⟩:=List.findIdx?_eq_some_iff_getElem.1 hk
 have e:k=i:=by
  have h1:(l.map (·.V))[k]'(by simpa using hk1)=(l.map (·.V))[i]'(by simpa using hi):=by simpa using hk2
  exact(List.getElem_inj hn).1 h1
 subst e;unfold defOf Ii;rw[hk];refine⟨by simp,?_⟩
 show l.getD ((k:Int)).toNat default=l[k]
 rw[A4,Aa _ _ _ hi]
structure lv(f:TFunc)(l:Int):Prop where
 may:U2 f=true
 shape:Ga f=true
 typed:Ty f l=true
 rest:JV f=0
theorem ib{f:TFunc}{l:Int}(hl:0<=l/\l<=2):C7 f l=0↔lv f l:=
 ⟨λh=>by obtain⟨a,b,c,d⟩:=(V9 hl.1 hl.2).1 h;exact⟨a,b,c,d⟩,λh=>(V9 hl.1 hl.2).2 ⟨h.1,h.2,h.3,h.4⟩⟩
section
variable {f:TFunc} {l:Int} (R:lv f l)
include R
theorem d9{b:Af}(hb:b∈f.Blocks){o:Cz}(ho:o∈b.Ops):Ng l o=true:=by
 have h:=R.typed;simp only[Ty,Hk,A3,zzL27]at h;exact(h.1.2 b hb).2 o ho
theorem d8{b:Af}(hb:b∈f.Blocks){o:Cz}(ho:o∈b.Ops):Jg o=true:=by
 have:=d9 R hb ho;unfold Ng at this;simp only[A3]at this;exact this.1.1
theorem CY:(List.range (Ax f).length).all (K2 (Ax f))=true/\(∀ u∈Eb f,K3 (Ax f) u=true)/\(∀ u∈Eb f,Xt (Ax f) u=true)/\∀ u∈Eb f,Vh (Ax f) (B1 f) u=true:=by
 have h:=R.rest;unfold JV at h
 cases h1:(List.range _).all _ with
 | false=>rw[h1]at h;cases h
 | true=>grind
theorem d7{d e:TDef}(hd:d∈Ax f)(he:e∈Ax f)(hv:d.V=e.V):d=e:=by
 have hn:=Wb (CY R).1;have h1:=(TJ hn hd).2;rw[hv,(TJ hn he).2]at h1;exact h1.symm
theorem kz{d:TDef}(hd:d∈Ax f):valS d.V=true:=by
 obtain⟨i,hi,rfl⟩:=Ll hd;have:=((Us hi).1 (bv (CY R).1 i hi)).1;rw[Aa _ _ _ hi]at this;exact this
theorem eA{u:Mq}(hu:u∈Eb f):∃ d∈Ax f,d.V=u.V/\d.Shape=u.Shape/\o7 f d u.Block u.At:=by
 obtain⟨_,h2,h3,h4⟩:=CY R;have hf:=h2 u hu;have hfit:=h3 u hu;have hdom:=h4 u hu;unfold K3 at hf
 have hneg:¬ Ii (Ax f) u.V<0:=by simpa using hf
 have hin:=OZ hneg;have hmem:defOf (Ax f) u.V∈Ax f:=getD_mem (by have:=hin.1;have:=hin.2;omega)
 have hV:(defOf (Ax f) u.V).V=u.V:=by
  unfold defOf;unfold Ii at hneg ⊢
  cases hx:(Ax f).findIdx? (λd=>d.V==u.V) with
  | none=>rw[hx]at hneg;exact absurd (by decide) hneg
  | some i=>
   obtain⟨hi,hp,_⟩:=List.findIdx?_eq_some_iff_getElem.1 hx
   show((Ax f).getD ((i:Int)).toNat default).V=_
   rw[A4,Aa _ _ _ hi]
   simpa using hp
 refine⟨_,hmem,hV,?_,?_⟩
 ·unfold Xt at hfit;simp only[A3,zzL71]at hfit;exact Prod.ext hfit.1 hfit.2.1
 ·unfold Vh at hdom;simp only[Vt,A3,Dw,zzL71,O9,zzL20]at hdom;rcases hdom with(h|h)|⟨h,h'⟩
  ·exact .inl h
  ·exact .inr (.inl h)
  ·by_cases hb:(defOf (Ax f) u.V).Block<0
   ·exact .inl hb
   ·refine .inr (.inr ⟨h,?_⟩);rw[bne_eq_false_iff_eq]at h';unfold N1;rw[h',A3];exact⟨by simp,by rw[zzL93];omega⟩
end
theorem ri_def{f:TFunc}{d:TDef}:d∈Ax f↔(∃ i,i<f.Params.length/\d=⟨(i:Int)+1,-1,0,(f.Params.getD i 0,1)⟩) \/
  ∃ i,i<f.Blocks.length/\((∃ k,k<(bA f i).Phis.length/\d=⟨((bA f i).Phis.getD k default).Dst,i,-1,(((bA f i).Phis.getD k default).Bits,1)⟩) \/
   ∃ k,k<(bA f i).Ops.length/\0<(H9 ((bA f i).Ops.getD k default)).1/\d=⟨((bA f i).Ops.getD k default).Dst,i,k,H9 ((bA f i).Ops.getD k default)⟩):=by
 unfold Ax Lh Ma Uj DU;simp only[zzL11,zzL66,zzL44,zzL17]
 constructor
 ·rintro(h|⟨i,hi,⟨k,hk,h⟩|⟨k,hk,h⟩⟩)
  ·exact .inl h
  ·exact .inr ⟨i,hi,.inl ⟨k,hk,h⟩⟩
  ·refine .inr ⟨i,hi,.inr ⟨k,hk,?_⟩⟩
   cases hg:decide (0<(H9 ((f.Blocks.getD i default).Ops.getD k default)).1) with
   | true=>rw[hg]at h;exact⟨Qb hg,zzL17.1 h⟩
   | false=>rw[hg]at h;cases h
 ·rintro(h|⟨i,hi,⟨k,hk,h⟩|⟨k,hk,hg,h⟩⟩)
  ·exact .inl h
  ·exact .inr ⟨i,hi,.inl ⟨k,hk,h⟩⟩
  ·exact .inr ⟨i,hi,.inr ⟨k,hk,by rw[Cq hg];exact zzL17.2 h⟩⟩
theorem KC{o:Cz}(hm:Jg o=true):(F1 o).length=o.Args.length/\∀ j,j<o.Args.length->(F1 o).getD j (0,0)=W9 o j:=by
 obtain⟨_,_,_,_,hn,_,_⟩:=Xn hm
 have ht:F1 o=N8 o:=by unfold F1;rw[hm];rfl
 have htl:(N8 o).length=o.Args.length:=by unfold N8;rw[Qd,Vs];omega
 refine⟨by rw[ht,htl],λj hj=>?_⟩;rw[ht];unfold N8;rw[Qu (by omega)]
theorem XI {f : TFunc} (hk : ∀ b ∈ f.Blocks, ∀ o ∈ b.Ops, Jg o = true) {u : Mq} : u ∈ Eb f ↔ ∃ i, i < f.Blocks.length ∧
    ((∃ k j, k < (bA f i).Phis.length ∧ j < ((bA f i).Phis.getD k default).Args.length ∧ u = ⟨((bA f i).Phis.getD k default).Args.getD j 0, ((bA f i).Phis.getD k default).From.getD j 0, 1000, (((bA f i).Phis.getD k default).Bits, 1)⟩) ∨
     (∃ k j, k < (bA f i).Ops.length ∧ j < ((bA f i).Ops.getD k default).Args.length ∧ u = ⟨((bA f i).Ops.getD k default).Args.getD j 0, i, k, W9 ((bA f i).Ops.getD k default) j⟩) ∨
     ((bA f i).End.Kind = 0 ∧ u = ⟨(bA f i).End.Arg, i, 1000, (f.Ret, 1)⟩) ∨ ((bA f i).End.Kind = 2 ∧ u = ⟨(bA f i).End.Arg, i, 1000, (1, 1)⟩)) := by
  unfold Eb BL Rq La Zu Nl Uy; simp only [zzL11, zzL66, zzL44, zzL17]
  have hE : ∀ (k c : Int) (x : Mq), u ∈ (bif k == c then [x] else []) ↔ (k = c ∧ u = x) := fun k c x => by
    by_cases h : k = c
    · rw [zzL71.2 h]; simp [h]
    · rw [zzL20.2 h]; simp [h]
  simp only [hE]
  constructor
  · rintro ⟨i, hi, (⟨k, hk', j, hj, h⟩ | ⟨k, hk', j, hj, h⟩) | h⟩
    · exact ⟨i, hi, .inl ⟨k, j, hk', hj, h⟩⟩
    · obtain ⟨e1, e2⟩ := KC (hk _ (getD_mem (d := default) hi) _ (getD_mem (d := default) hk')); rw [e1] at hj; rw [e2 j hj] at h; exact ⟨i, hi, .inr (.inl ⟨k, j, hk', hj, h⟩)⟩
    · exact ⟨i, hi, .inr (.inr h)⟩
  · rintro ⟨i, hi, ⟨k, j, hk', hj, h⟩ | ⟨k, j, hk', hj, h⟩ | h⟩
    · exact ⟨i, hi, .inl (.inl ⟨k, hk', j, hj, h⟩)⟩
    · obtain ⟨e1, e2⟩ := KC (hk _ (getD_mem (d := default) hi) _ (getD_mem (d := default) hk')); exact ⟨i, hi, .inl (.inr ⟨k, hk', j, by rw [e1]; exact hj, by rw [e2 j hj]; exact h⟩)⟩
    · exact ⟨i, hi, .inr h⟩
def Ko:List Aw->Int->Int
 | [],_=>0
 | t::r,v=>bif t.V==v then t.Scale else Ko r v
def Ep:Int->List Aw->Bool
 | _,[]=>true
 | lo,t::r=>(decide (lo<t.V)&&decide (t.V<=1023)&&!(t.Scale==0))&&Ep t.V r
def Mi(g:Int->Int):Nat->Nat->List Aw
 | _,0=>[]
 | a,n+1=>bif g (a:Int)==0 then Mi g (a+1) n else⟨(a:Int),g (a:Int)⟩::Mi g (a+1) n
def fO(g:Int->Int):List Aw:=Mi g 1 1023
theorem Wk{g h:Int->Int}:∀{n a:Nat},(∀ v:Int,(a:Int)<=v->g v=h v)->Mi g a n=Mi h a n
 | 0,_,_=>rfl
 | n+1,a,e=>by
  unfold Mi;rw[e a (Int.le_refl _),Wk (n:=n) (a:=a+1) λv hv=>e v (by omega)]
theorem W5:∀{l:List Aw} {lo v:Int},Ep lo l=true->v<=lo->Ko l v=0
 | [],_,_,_,_=>rfl
 | t::r,lo,v,h,hv=>by
  simp only[Ep,A3,Dw]at h;unfold Ko;rw[show(t.V==v)=false from zzL20.2 (by omega),Au];exact W5 h.2 (by omega)
theorem X5:∀(n a:Nat) {l:List Aw},a+n=1024->Ep ((a:Int)-1) l=true->Mi (Ko l) a n=l
 | 0,a,[],_,_=>rfl
 | 0,a,t::r,h,hm=>by
  simp only[Ep,A3,Dw]at hm;omega
 | n+1,a,[],h,_=>by
  unfold Mi;rw[show(Ko [] (a:Int)==0)=true from rfl,Ad];exact X5 n (a+1) (by omega) rfl
 | n+1,a,t::r,h,hm=>by
  have hm':=hm;simp only[Ep,A3,Dw,O9,zzL20]at hm;obtain⟨⟨⟨h1,h2⟩,h3⟩,h4⟩:=hm;unfold Mi
  by_cases e:t.V=a
  ·have e1:Ko (t::r) (a:Int)=t.Scale:=by unfold Ko;rw[e];simp
   rw[e1,show(t.Scale==0)=false from zzL20.2 h3,Au];rw[e]at h4
   have e2:Mi (Ko (t::r)) (a+1) n=Mi (Ko r) (a+1) n:=Wk λv hv=>by
    unfold Ko;rw[show(t.V==v)=false from zzL20.2 (by omega),Au]
    cases r<;>rfl
   rw[e2,X5 n (a+1) (by omega) (by rw[show(((a+1:Nat):Int)-1)=a by omega];exact h4),<- e]
  ·have e1:Ko (t::r) (a:Int)=0:=by
    unfold Ko;rw[show(t.V==(a:Int))=false from zzL20.2 e,Au];exact W5 h4 (by omega)
   rw[e1];simp only[BEq.rfl,Ad];refine X5 n (a+1) (by omega) ?_;simp only[Ep,A3,Dw,O9,zzL20];exact⟨⟨⟨by omega,h2⟩,h3⟩,h4⟩
theorem cX{g:Int->Int}:∀(n a:Nat) (v:Int),Ko (Mi g a n) v=bif decide ((a:Int)<=v)&&decide (v<((a+n:Nat):Int)) then g v else 0
 | 0,a,v=>by
  unfold Mi Ko
  by_cases h:(a:Int)<=v
  ·rw[show decide (v<((a+0:Nat):Int))=false from Cx (by omega)];simp
  ·rw[Cx h];rfl
 | n+1,a,v=>by
  have ih:=cX (g:=g) n (a+1) v
  by_cases e:v=a
  ·subst e;rw[show decide (((a:Nat):Int)<=a)=true from Cq (Int.le_refl _),show decide ((a:Int)<((a+(n+1):Nat):Int))=true from Cq (by omega)];simp only[R9,Ad];unfold Mi
   by_cases h0:g a=0
   ·rw[h0];simp only[BEq.rfl,Ad];rw[ih,Cx (by omega),Vu];rfl
   ·rw[zzL20.2 h0,Au];unfold Ko
    simp
  ·have e2:(decide (((a+1:Nat):Int)<=v)&&decide (v<((a+1+n:Nat):Int)))=(decide ((a:Int)<=v)&&decide (v<((a+(n+1):Nat):Int))):=by
    rw[M7];simp only[A3,Dw];omega
   rw[<- e2,<- ih]
   conv=>lhs;unfold Mi
   cases g (a:Int)==0 with
   | true=>rfl
   | false=>
    rw[Au]
    conv=>lhs;unfold Ko
    rw[show((a:Int)==v)=false from zzL20.2 (G2 e),Au]
theorem MX{g:Int->Int}:∀(n a:Nat) (lo:Int),lo<a->a+n<=1024->Ep lo (Mi g a n)=true
 | 0,_,_,_,_=>rfl
 | n+1,a,lo,h,h2=>by
  unfold Mi
  cases e:g (a:Int)==0 with
  | true=>exact MX n (a+1) lo (by omega) (by omega)
  | false=>
   simp only[Au,Ep,A3,Dw,e,Jj,Bd];exact⟨⟨h,by omega⟩,MX n (a+1) a (by omega) (by omega)⟩
theorem f8(g:Int->Int):Ep 0 (fO g)=true:=MX 1023 1 0 (by omega) (by omega)
theorem kP{g:Int->Int}(v:Int):Ko (fO g) v=bif decide (1<=v)&&decide (v<1024) then g v else 0:=cX 1023 1 v
theorem YN{g h:Int->Int}(e:∀ v:Int,1<=v->v<1024->g v=h v):fO g=fO h:=by
 have:∀ n a:Nat,1<=a->a+n<=1024->Mi g a n=Mi h a n:=by
  intro n
  induction n with
  | zero=>intros;rfl
  | succ n ih=>
   intro a h1 h2;unfold Mi;rw[e a (by omega) (by omega),ih (a+1) (by omega) (by omega)]
 exact this 1023 1 (zzL7 _) (zzL7 _)
theorem IH{x:Az}(hl:x.Terms.length<9223372036854775808):Fm x=some (Ep 0 x.Terms):=by
 have key:∀(k i:Nat) (lo:Int),i+k=x.Terms.length->Ag (Hv x) (lo,(i:Int))=some (bif Ep lo (x.Terms.drop i) then .inl () else .inr false):=by
  intro k
  induction k with
  | zero=>
   intro i lo h
   obtain rfl:i=x.Terms.length:=by omega
   rw[List.drop_length];exact Ah (by unfold Hv;simp only[Kp,Au];rfl)
  | succ k ih=>
   intro i lo h
   have hi:i<x.Terms.length:=by omega
   have hd:x.Terms.drop i=x.Terms.getD i default::x.Terms.drop (i+1):=by rw[O7 hi,Aa _ _ _ hi]
   rw[hd]
   have hs:Hv x (lo,(i:Int))=some (bif decide (lo<(x.Terms.getD i default).V)&&decide ((x.Terms.getD i default).V<=1023)&&!((x.Terms.getD i default).Scale==0) then .next ((x.Terms.getD i default).V,((i+1:Nat):Int)) else .done (.inr false)):=by
    unfold Hv;simp only[Fz hi,Ad,A4];rw[Ac (Jf hi),Dv hi hl]
    generalize x.Terms.getD i default=t
    have a1:decide (t.V<=lo) = !decide (lo<t.V):=by by_cases h:lo<t.V<;>simp[h]<;>omega
    have a2:decide ((1023:Int)<t.V) = !decide (t.V<=1023):=by by_cases h:t.V<=1023<;>simp[h]<;>omega
    rw[a1,a2]
    cases decide (lo<t.V)<;>cases decide (t.V<=1023)<;>cases(t.Scale==0)<;>rfl
   cases hb:(decide (lo<(x.Terms.getD i default).V)&&decide ((x.Terms.getD i default).V<=1023)&&!((x.Terms.getD i default).Scale==0)) with
   | true=>
    rw[hb,Ad]at hs;rw[An hs,ih (i+1) _ (by omega)];simp only[Ep,hb,Hi]
   | false=>
    rw[hb,Au]at hs;rw[Ah hs];simp only[Ep,hb,Vu,Au]
 unfold Fm;have:=key x.Terms.length 0 0 (by omega);rw[show(((0:Nat):Int))=0 from rfl,Lm]at this;rw[this]
 cases Ep 0 x.Terms<;>rfl
def cz(l:List Aw):Int:=match l with|[]=>1024|t::_=>t.V
def lR(l:List Aw)(v:Int):Int×List Aw:=match l with|[]=>(0,[])|t::r=>bif t.V==v then(t.Scale,r) else(0,t::r)
theorem LQ(l:List Aw):Cs l=some (cz l):=by
 cases l with
 | nil=>rfl
 | cons t r=>
  unfold Cs;rw[show((((t::r).length:Int))==0)=false from zzL20.2 (by simp;omega),Au,Ac ⟨by omega,by simp⟩]
  rfl
theorem WK(l:List Aw){v:Int}(hv:v<1024):C8 l v=some (lR l v):=by
 unfold C8;rw[LQ,Ao]
 cases l with
 | nil=>rw[show(cz []!=v)=true from zzL93.2 (by simp[cz];omega)];rfl
 | cons t r=>
  show(bif t.V !=v then _ else _)=some (bif t.V==v then _ else _)
  by_cases e:t.V=v
  ·rw[show(t.V !=v)=false by simp[e],show(t.V==v)=true by simp[e],Au,Ad,Ac ⟨by omega,by simp⟩,Ac ⟨by omega,by simp only[M6];omega⟩]
   rfl
  ·rw[show(t.V !=v)=true by simp[e],show(t.V==v)=false by simp[e]]
   rfl
theorem ji{l:List Aw}{a:Int}(h:Ep (a-1) l=true):(lR l a).1=Ko l a/\Ep a (lR l a).2=true/\∀ v,a<v->Ko (lR l a).2 v=Ko l v:=by
 cases l with
 | nil=>exact⟨rfl,rfl,λ_ _=>rfl⟩
 | cons t r=>
  have h':=h;simp only[Ep,A3,Dw]at h
  show(bif t.V==a then(t.Scale,r) else(0,t::r)).1=_/\Ep a (bif t.V==a then(t.Scale,r) else(0,t::r)).2=true/\∀ v,a<v->Ko (bif t.V==a then(t.Scale,r) else(0,t::r)).2 v=_
  by_cases e:t.V=a
  ·rw[show(t.V==a)=true by simp[e]];refine⟨by simp[Ko,e],by rw[<- e];exact h.2,λv hv=>?_⟩;simp only[Ko,show(t.V==v)=false from zzL20.2 (by omega),show(t.V==a)=true by simp[e],Ad,Au]
  ·rw[show(t.V==a)=false by simp[e]];refine⟨?_,?_,λv hv=>rfl⟩
   ·simp only[Au,Ko,show(t.V==a)=false by simp[e]];exact(W5 h.2 (by omega)).symm
   ·simp only[Au,Ep,A3,Dw];exact⟨⟨⟨by omega,h.1.1.2⟩,h.1.2⟩,h.2⟩
theorem jS{l:List Aw}{a:Int}(h:Ep (a-1) l=true)(ha:a<=1024):a<=cz l:=by
 cases l with
 | nil=>exact ha
 | cons t r=>
  simp only[Ep,A3,Dw]at h
  show a<=t.V
  omega
theorem dO{l:List Aw}{a:Int}(h:Ep (a-1) l=true)(hn:cz l≠a):Ep a l=true:=by
 cases l with
 | nil=>rfl
 | cons t r=>
  simp only[Ep,A3,Dw]at h ⊢;have:t.V≠a:=hn;exact⟨⟨⟨by omega,h.1.1.2⟩,h.1.2⟩,h.2⟩
def k5{S X:Type}(g:Int->Int->Int)(mk:List Aw->List Aw->List Aw->S)(out:List Aw->X)(xs ys acc:List Aw):Option (LR S X):=
 bif bif decide ((0:Int)<(xs.length:Int)) then true else decide ((0:Int)<(ys.length:Int)) then
  (Cs xs).bind λp=>(Cs ys).bind λq=>(C8 xs (if q<p then q else p)).bind λu=>(C8 ys (if q<p then q else p)).bind λw=>
   bif g u.1 w.1 !=0 then Ch (acc.length+1<=room) (some (.next (mk u.2 w.2 (acc++[⟨if q<p then q else p,g u.1 w.1⟩])))) else some (.next (mk u.2 w.2 acc))
 else some (.done (out acc))
theorem We{S X:Type}(g:Int->Int->Int)(mk:List Aw->List Aw->List Aw->S)(out:List Aw->X)(f:S->Option (LR S X))(hf:∀ xs ys acc,f (mk xs ys acc)=k5 g mk out xs ys acc)(h0:g 0 0=0) :
  ∀(n a:Nat) (xs ys acc:List Aw),a+n=1024->Ep ((a:Int)-1) xs=true->Ep ((a:Int)-1) ys=true->acc.length+n<=2000->
   Ag f (mk xs ys acc)=some (out (acc++Mi (λv=>g (Ko xs v) (Ko ys v)) a n)):=by
 intro n
 induction n with
 | zero=>
  intro a xs ys acc h hx hy _
  have e:∀{l:List Aw},Ep ((a:Int)-1) l=true->l=[]:=λ{l} hl=>by
   have:=X5 0 a h hl;exact this.symm
  rw[e hx,e hy];refine Ah ?_;rw[hf];simp[k5,Mi]
 | succ n ih=>
  intro a xs ys acc h hx hy hl;have hpa:=jS hx (by omega);have hqa:=jS hy (by omega)
  by_cases hh:cz xs=a\/cz ys=a
  ·have hv:(if cz ys<cz xs then cz ys else cz xs)=(a:Int):=by split<;>omega
   have hne:(bif decide ((0:Int)<(xs.length:Int)) then true else decide ((0:Int)<(ys.length:Int)))=true:=by
    rcases hh with e|e
    ·cases xs with
     | nil=>exact absurd e (by show ¬ ((1024:Int)=a);omega)
     | cons=>simp
    ·cases ys with
     | nil=>exact absurd e (by show ¬ ((1024:Int)=a);omega)
     | cons=>simp
   obtain⟨p1,p2,p3⟩:=ji hx;obtain⟨q1,q2,q3⟩:=ji hy
   have hs:f (mk xs ys acc)=some (.next (mk (lR xs a).2 (lR ys a).2 (acc++(bif g (Ko xs a) (Ko ys a)==0 then[] else[⟨(a:Int),g (Ko xs a) (Ko ys a)⟩])))):=by
    rw[hf];unfold k5;rw[hne,Ad,LQ,LQ];simp only[Ao,hv];rw[WK _ (by omega),WK _ (by omega)];simp only[Ao,p1,q1]
    cases hz:g (Ko xs a) (Ko ys a)==0 with
    | true=>rw[show(g (Ko xs a) (Ko ys a)!=0)=false by simp[bne,hz]];simp
    | false=>
     rw[show(g (Ko xs a) (Ko ys a)!=0)=true by simp[bne,hz],Ad,Ac (by unfold room;omega)]
     rfl
   rw[An hs];rw[ih (a+1) _ _ _ (by omega) (by rw[show(((a+1:Nat):Int)-1)=a by omega];exact p2) (by rw[show(((a+1:Nat):Int)-1)=a by omega];exact q2) (by cases g (Ko xs a) (Ko ys a)==0<;>simp<;>omega)];rw[Wk (n:=n) (a:=a+1) (h:=λv=>g (Ko xs v) (Ko ys v)) λv hv=>by rw[p3 v (by omega),q3 v (by omega)]]
   congr 2
   rw[Yg]
   congr 1
   conv=>rhs;unfold Mi
   cases g (Ko xs a) (Ko ys a)==0<;>rfl
  ·have hx':=dO hx (by omega);have hy':=dO hy (by omega);rw[ih (a+1) xs ys acc (by omega) (by rw[show(((a+1:Nat):Int)-1)=a by omega];exact hx') (by rw[show(((a+1:Nat):Int)-1)=a by omega];exact hy') (by omega)]
   congr 3
   conv=>rhs;unfold Mi
   rw[W5 hx' (Int.le_refl _),W5 hy' (Int.le_refl _),h0]
   rfl
def Kh(g:Int->Int->Int)(x y:Az):Az:=bif Ep 0 x.Terms&&Ep 0 y.Terms then⟨fO λv=>g (Ko x.Terms v) (Ko y.Terms v),g x.Off y.Off⟩ else⟨[],0⟩
def PU:Az:=⟨[],0⟩
def f6(a b:Int):Int:=E1 (a+b)
def Jq(a b:Int):Int:=E1 (a-b)
def ZY(n a _b:Int):Int:=E1 (a*n)
theorem kJ{x y:Az}(hx:x.Terms.length<9223372036854775808)(hy:y.Terms.length<9223372036854775808):L5 x y=some (Kh f6 x y):=by
 unfold L5 Mv Kh;rw[IH hx,IH hy]
 cases h1:Ep 0 x.Terms with
 | false=>rfl
 | true=>
  cases h2:Ep 0 y.Terms with
  | false=>rfl
  | true=>
   simp only[Fa,BEq.rfl,Ad,Au,Ao,R9,Jt];rw[We f6 (λa b c=>(a,b,c)) id Nw (λxs ys acc=>rfl) rfl 1023 1 x.Terms y.Terms [] rfl h1 h2 (by simp)]
   rfl
theorem WI{x y:Az}(hx:x.Terms.length<9223372036854775808)(hy:y.Terms.length<9223372036854775808):Ik x y=some (Kh Jq x y):=by
 unfold Ik J2 Kh;rw[IH hx,IH hy]
 cases h1:Ep 0 x.Terms with
 | false=>rfl
 | true=>
  cases h2:Ep 0 y.Terms with
  | false=>rfl
  | true=>
   simp only[Fa,BEq.rfl,Ad,Au,Ao,R9,Iz];rw[We Jq (λa b c=>(a,b,c)) id Li (λxs ys acc=>rfl) rfl 1023 1 x.Terms y.Terms [] rfl h1 h2 (by simp)]
   rfl
theorem LT{x:Az}{n:Int}(hx:x.Terms.length<9223372036854775808):G7 x n=some (Kh (ZY n) x PU):=by
 unfold G7 J3 Kh;rw[IH hx,IH (x:=⟨[],0⟩) (by simp)]
 cases h1:Ep 0 x.Terms with
 | false=>rfl
 | true=>
  simp only[Fa,BEq.rfl,Ad,Au,Ao,R9,I4,Ep,PU];rw[We (ZY n) (λa b c=>(a,b,c,n)) (λl=>(l,n)) Lj (λxs ys acc=>rfl) (by show E1 (0*n)=0;rw[Int.zero_mul];rfl) 1023 1 x.Terms [] [] rfl h1 rfl (by simp)]
  rfl
theorem ML{g:Int->Int->Int}{x y:Az}(hx:Ep 0 x.Terms=true)(hy:Ep 0 y.Terms=true):Kh g x y=⟨fO λv=>g (Ko x.Terms v) (Ko y.Terms v),g x.Off y.Off⟩:=by
 unfold Kh;rw[hx,hy];rfl
theorem dS(g:Int->Int->Int)(x y:Az):Ep 0 (Kh g x y).Terms=true:=by
 unfold Kh
 cases Ep 0 x.Terms&&Ep 0 y.Terms with
 | false=>rfl
 | true=>rw[Ad];exact f8 (λv=>g (Ko x.Terms v) (Ko y.Terms v))
theorem Td{V:Type}(k v:Int)(x:V):∀ l:List (Int×V),Bz (Em l k x) v=(v==k || Bz l v)
 | []=>by simp[Em,Bz]
 | (a,b)::r=>by
  unfold Em
  by_cases e:k=a
  ·subst e;simp only[BEq.rfl,Ad,Bz]
   cases(v==k)<;>simp
  ·rw[show(k==a)=false by simp[e],Au];simp only[Bz,Td k v x r]
   cases(v==a)<;>cases(v==k)<;>simp
theorem Xp{V:Type}(d:V)(k v:Int)(x:V):∀ l:List (Int×V),mget d (Em l k x) v=bif v==k then x else mget d l v
 | []=>by simp only[Em,mget]
 | (a,b)::r=>by
  unfold Em
  by_cases e:k=a
  ·subst e;simp only[BEq.rfl,Ad,mget]
   cases(v==k)<;>rfl
  ·rw[show(k==a)=false by simp[e],Au];simp only[mget,Xp d k v x r]
   by_cases h:v=a
   ·subst h;rw[show(v==k)=false from zzL20.2 (G2 e)]
    simp
   ·rw[show(v==a)=false by simp[h]];rfl
def FG(v:Int):Az:=⟨[⟨v,1⟩],0⟩
def jW(k:Int)(a b:Az):Option Az:=
 bif k==1 then some (Kh f6 a b) else bif k==2 then some (Kh Jq a b)
 else bif (k==3)&&((b.Terms.length:Int)==0) then some (Kh (ZY b.Off) a PU) else bif (k==3)&&((a.Terms.length:Int)==0) then some (Kh (ZY a.Off) b PU)
 else bif ((k==8)&&((b.Terms.length:Int)==0))&&decide (b.Off<64) then some (Kh (ZY (UT .u64 1 b.Off)) a PU) else none
def TR(k:Int):Bool:=k==0 || (k==1 || (k==2 || (k==3 || k==8)))
def kR(v:Int):Option Az->Az
 | some y=>bif decide ((16:Int)<(y.Terms.length:Int)) then FG v else y
 | none=>FG v
def S3(D:Int->Option Cz):Nat->Int->Az
 | 0,v=>FG v
 | n+1,v=>match D v with
  | none=>FG v
  | some o=>bif o.Kind==0 then⟨[],o.Imm⟩ else kR v (jW o.Kind (S3 D n (o.Args.getD 0 0)) (S3 D n (o.Args.getD 1 0)))
structure fY(D:Int->Option Cz)(G:Int->Prop)(rk:Int->Nat):Prop where
 rng:∀ v,G v->1<=v/\v<=1023
 kind:∀ v o,G v->D v=some o->TR o.Kind=true
 args:∀ v o,G v->D v=some o->o.Kind≠0->o.Args.length=2/\(G (o.Args.getD 0 0)/\rk (o.Args.getD 0 0)<rk v)/\G (o.Args.getD 1 0)/\rk (o.Args.getD 1 0)<rk v
 imm:∀ v o,G v->D v=some o->0<=o.Imm
section
variable {D:Int->Option Cz} {G:Int->Prop} {rk:Int->Nat} (W:fY D G rk)
include W
theorem CR:∀(n:Nat) (v:Int) (m:Nat),G v->rk v<n->rk v<m->S3 D n v=S3 D m v
 | 0,_,_,_,h,_=>absurd h (M8 _)
 | _,_,0,_,_,h=>absurd h (M8 _)
 | n+1,v,m+1,hg,h1,h2=>by
  unfold S3
  cases hd:D v with
  | none=>rfl
  | some o=>
   by_cases h0:o.Kind=0
   ·simp[h0]
   ·obtain⟨_,⟨g0,r0⟩,g1,r1⟩:=W.args v o hg hd h0;simp only;rw[CR n _ m g0 (by omega) (by omega),CR n _ m g1 (by omega) (by omega)]
omit W in
theorem Zw(n:Int):0<=E1 n:=by rw[T0];omega
omit W in
theorem jX{k:Int}{a b y:Az}(h:jW k a b=some y):Ep 0 y.Terms=true/\0<=y.Off:=by
 have key:∀(g:Int->Int->Int) (a b:Az),(∀ x y,0<=g x y)->Ep 0 (Kh g a b).Terms=true/\0<=(Kh g a b).Off:=λg a b hg=>by
  refine⟨dS g a b,?_⟩;unfold Kh
  cases Ep 0 a.Terms&&Ep 0 b.Terms with
  | false=>exact Int.le_refl _
  | true=>exact hg _ _
 have e1:∀ x y,0<=f6 x y:=λx y=>Zw _;have e2:∀ x y,0<=Jq x y:=λx y=>Zw _;have e3:∀ n x y,0<=ZY n x y:=λn x y=>Zw _;unfold jW at h
 cases c1:k==1 with
 | true=>rw[c1]at h;cases h;exact key _ _ _ e1
 | false=>
  rw[c1,Au]at h
  cases c2:k==2 with
  | true=>rw[c2]at h;cases h;exact key _ _ _ e2
  | false=>
   rw[c2,Au]at h
   cases c3:(k==3)&&((b.Terms.length:Int)==0) with
   | true=>rw[c3]at h;cases h;exact key _ _ _ (e3 _)
   | false=>
    rw[c3,Au]at h
    cases c4:(k==3)&&((a.Terms.length:Int)==0) with
    | true=>rw[c4]at h;cases h;exact key _ _ _ (e3 _)
    | false=>
     rw[c4,Au]at h
     cases c5:((k==8)&&((b.Terms.length:Int)==0))&&decide (b.Off<64) with
     | true=>rw[c5]at h;cases h;exact key _ _ _ (e3 _)
     | false=>rw[c5]at h;cases h
omit W in
theorem kw{v:Int}(h1:1<=v)(h2:v<=1023):Ep 0 (FG v).Terms=true/\0<=(FG v).Off/\(FG v).Terms.length<=16:=by
 refine⟨?_,Int.le_refl _,by simp[FG]⟩;simp only[FG,Ep,AD,A3,Dw];exact⟨⟨by omega,h2⟩,rfl⟩
theorem cp:∀(n:Nat) (v:Int),G v->Ep 0 (S3 D n v).Terms=true/\0<=(S3 D n v).Off/\(S3 D n v).Terms.length<=16:=λn v hg=>by
 have ho:=kw (W.rng v hg).1 (W.rng v hg).2
 cases n with
 | zero=>exact ho
 | succ n=>
  unfold S3
  cases hd:D v with
  | none=>exact ho
  | some o=>
   simp only
   cases h0:o.Kind==0 with
   | true=>exact⟨rfl,W.imm v o hg hd,by simp⟩
   | false=>
    rw[Au]
    cases hm:jW o.Kind (S3 D n (o.Args.getD 0 0)) (S3 D n (o.Args.getD 1 0)) with
    | none=>exact ho
    | some y=>
     unfold kR;simp only
     by_cases hl:(16:Int)<(y.Terms.length:Int)
     ·rw[Cq hl];exact ho
     ·rw[Cx hl];exact⟨(jX hm).1,(jX hm).2,by simp only[Au];omega⟩
end
theorem kF{k:Int}{a b:Az}(ha:a.Terms.length<9223372036854775808)(hb:b.Terms.length<9223372036854775808)(h0:0<=b.Off) :
  Jn k a b=some (match jW k a b with|some y=>(y,true)|none=>(⟨[],0⟩,false)):=by
 unfold Jn jW Gl;rw[kJ ha hb,WI ha hb,LT ha,LT hb,LT ha,Ac h0]
 by_cases k1:k=1
 ·subst k1;rfl
 ·by_cases k2:k=2
  ·subst k2;rfl
  ·rw[show(k==1)=false by simp[k1],show(k==2)=false by simp[k2]];simp only[Au]
   by_cases k3:k=3
   ·subst k3
    cases((b.Terms.length:Int)==0)<;>cases((a.Terms.length:Int)==0)<;>rfl
   ·rw[show(k==3)=false by simp[k3]]
    by_cases k8:k=8
    ·subst k8
     cases((b.Terms.length:Int)==0)<;>cases decide (b.Off<(64:Int))<;>rfl
    ·rw[show(k==8)=false by simp[k8]];rfl
def SQ(M:List (Int×Cz))(D:Int->Option Cz)(G:Int->Prop):Prop:=∀ v,G v->Bz M v=(D v).isSome/\∀ o,D v=some o->mget default M v=o
section
variable {D:Int->Option Cz} {G:Int->Prop} {rk:Int->Nat} (W:fY D G rk)
include W
theorem aj{M:List (Int×Cz)}(hM:SQ M D G):∀(r:Nat) (v:Int) (fd:List (Int×Az)),G v->rk v<r->(∀ x,G x->Bz fd x=true->mget default fd x=S3 D (rk x+1) x)->
  ∃ fd',(∀ n,2*r<=n->Bg n v M fd=some (S3 D (rk v+1) v,fd'))/\∀ x,G x->Bz fd' x=true->mget default fd' x=S3 D (rk x+1) x:=by
 intro r
 induction r with
 | zero=>intro v fd _ h;exact absurd h (M8 _)
 | succ r ih=>
  intro v fd hg hr hfd;have step:∀ fd':List (Int×Az),(∀ n,2*r<=n->Bu (Bg (n+1)) (B0 (n+1)) v M fd=some (S3 D (rk v+1) v,fd'))->
    ∀ n,2*(r+1)<=n->Bg n v M fd=some (S3 D (rk v+1) v,fd'):=λfd' h n hn=>by
   obtain⟨n,rfl⟩:∃ m,n=m+2:=⟨n-2,by omega⟩;exact h n (by omega)
  have fin:∀(s:Option (Az×Bool×List (Int×Az))) (y:Az) (b:Bool) (fd':List (Int×Az)),s=some (y,b,fd')->(bif (bif (!b) then true else decide ((16:Int)<(y.Terms.length:Int))) then FG v else y)=S3 D (rk v+1) v->
    (s.bind λx1=>(Option.bind (α:=(List (Aw)×Int)) (bif (bif (!x1.2.1) then true else(decide (((16:Int):Int)<(x1.1.Terms.length:Int)))) then(some ((([(⟨v,(1:Int)⟩:Aw)]:List (Aw)),(0:Int)))) else(some ((x1.1.Terms,x1.1.Off)))) (λx4=>(match x4 with|(l2,i3)=>(some ((⟨l2,i3⟩:Az),(Em x1.2.2 v (⟨l2,i3⟩:Az))))))))
    = some (S3 D (rk v+1) v,Em fd' v (S3 D (rk v+1) v)):=λs y b fd' hs hy=>by
   rw[hs,Ao,<- hy]
   cases b with
   | false=>rfl
   | true=>
    simp only[Fa,Au]
    cases decide ((16:Int)<(y.Terms.length:Int))<;>rfl
  have put:∀(fd':List (Int×Az)),(∀ x,G x->Bz fd' x=true->mget default fd' x=S3 D (rk x+1) x)->∀ x,G x->Bz (Em fd' v (S3 D (rk v+1) v)) x=true->mget default (Em fd' v (S3 D (rk v+1) v)) x=S3 D (rk x+1) x:=λfd' h x hx hh=>by
   rw[Xp]
   by_cases e:x=v
   ·subst e;simp
   ·rw[Td,show(x==v)=false by simp[e],GO]at hh;rw[show(x==v)=false by simp[e],Au];exact h x hx hh
  cases hh:Bz fd v with
  | true=>exact⟨fd,step fd (λn hn=>by unfold Bu;rw[hh,Ad,hfd v hg hh]),hfd⟩
  | false=>
   obtain⟨hM1,hM2⟩:=hM v hg
   have hF:S3 D (rk v+1) v=match D v with
    | none=>FG v
    | some o=>bif o.Kind==0 then⟨[],o.Imm⟩ else kR v (jW o.Kind (S3 D (rk v) (o.Args.getD 0 0)) (S3 D (rk v) (o.Args.getD 1 0))):=rfl
   have hsum:∀ n,B0 (n+1) v M fd=Ci (Bg n) (B0 n) v M fd:=λn=>rfl
   cases hd:D v with
   | none=>
    rw[hd]at hM1 hF;refine⟨_,step _ λn hn=>?_,put fd hfd⟩;unfold Bu;rw[hh,Au,hsum];refine fin _ ⟨[],0⟩ false fd ?_ (by rw[hF];rfl);unfold Ci;rw[hM1]
    rfl
   | some o=>
    rw[hd]at hM1 hF;have hg2:=hM2 o hd
    by_cases h0:o.Kind=0
    ·refine⟨_,step _ λn hn=>?_,put fd hfd⟩;unfold Bu;rw[hh,Au,hsum];refine fin _ ⟨[],o.Imm⟩ true fd ?_ (by rw[hF];dsimp only;rw[h0];rfl);unfold Ci;rw[hM1,hg2,h0]
     rfl
    ·obtain⟨hl,⟨g0,r0⟩,g1,r1⟩:=W.args v o hg hd h0;obtain⟨f1,a1,a2⟩:=ih _ fd g0 (by omega) hfd;obtain⟨f2,b1,b2⟩:=ih _ f1 g1 (by omega) a2;rw[CR W _ _ (rk v) g0 (by omega) r0]at a1;rw[CR W _ _ (rk v) g1 (by omega) r1]at b1;obtain⟨p1,p2,p3⟩:=cp W (rk v) _ g0;obtain⟨q1,q2,q3⟩:=cp W (rk v) _ g1;have hmade:=kF (k:=o.Kind) (a:=S3 D (rk v) (o.Args.getD 0 0)) (b:=S3 D (rk v) (o.Args.getD 1 0)) (by omega) (by omega) q2
     have hrun:∀ n,2*r<=n->Ci (Bg n) (B0 n) v M fd=(Jn o.Kind (S3 D (rk v) (o.Args.getD 0 0)) (S3 D (rk v) (o.Args.getD 1 0))).bind λx5=>some (x5.1,x5.2,f2):=λn hn=>by
      unfold Ci;rw[hM1,hg2];simp only[Option.isSome_some,Fa,Au,show(o.Kind==(0:Int))=false from zzL20.2 h0];rw[Ac ⟨by omega,by omega⟩,show((0:Int)).toNat=0 from rfl,a1 n hn,Ao,Ac ⟨by omega,by omega⟩,show((1:Int)).toNat=1 from rfl];simp only;rw[b1 n hn,Ao]
     dsimp only at hF
     rw[show(o.Kind==0)=false from zzL20.2 h0,Au]at hF
     cases hm:jW o.Kind (S3 D (rk v) (o.Args.getD 0 0)) (S3 D (rk v) (o.Args.getD 1 0)) with
     | none=>
      rw[hm]at hF hmade;refine⟨_,step _ λn hn=>?_,put f2 b2⟩;unfold Bu;rw[hh,Au,hsum,hrun n hn,hmade,Ao];exact fin _ ⟨[],0⟩ false f2 rfl (by rw[hF];rfl)
     | some y=>
      rw[hm]at hF hmade;refine⟨_,step _ λn hn=>?_,put f2 b2⟩;unfold Bu;rw[hh,Au,hsum,hrun n hn,hmade,Ao];exact fin _ y true f2 rfl (by rw[hF];rfl)
theorem UJ{M:List (Int×Cz)}(hM:SQ M D G){v:Int}(hg:G v):∃ fd,Gk v M []=some (S3 D (rk v+1) v,fd):=by
 obtain⟨fd,h,_⟩:=aj W hM (rk v+1) v [] hg (Nat.lt_succ_self _) (λx _ h=>by cases h);exact⟨fd,gq _ λm hm=>h m hm⟩
end
section
variable {D:Int->Option Cz} {G:Int->Prop} {rk:Int->Nat} (W:fY D G rk)
include W
end
theorem NB{t:List Int}:∀{k:Nat} {a:Int} {q:List Int},upD t k a=some q->∀{m:Nat},k<=m->upD t m a=some q
 | 0,_,_,h,_,_=>by cases h
 | k+1,a,q,h,0,hm=>absurd hm (by omega)
 | k+1,a,q,h,m+1,hm=>by
  unfold upD at h ⊢
  split at h
  ·rename_i h1
   rw[if_pos h1]
   split at h
   ·rename_i h2
    rw[if_pos h2];exact h
   ·rename_i h2
    rw[if_neg h2]
    cases hu:upD t k (t.getD a.toNat 0) with
    | none=>rw[hu]at h;cases h
    | some q'=>rw[hu]at h;rw[NB hu (by omega:k<=m)];exact h
  ·cases h
theorem eR{t:List Int}:∀{k:Nat} {b a:Int} {q:List Int},upD t k b=some q->a∈q->a≠b->∃ q',upD t k a=some q'/\q'.length<q.length
 | 0,_,_,_,h,_,_=>by cases h
 | k+1,b,a,q,h,ha,hne=>by
  have h0:=h;unfold upD at h
  split at h
  ·split at h
   ·cases h;exact absurd (zzL17.1 ha) hne
   ·cases hu:upD t k (t.getD b.toNat 0) with
    | none=>rw[hu]at h;cases h
    | some q'=>
     rw[hu]at h;cases h;rcases zzL25.1 ha with e|hin
     ·exact absurd e hne
     ·by_cases e:a=t.getD b.toNat 0
      ·exact⟨q',by rw[e];exact NB hu (by omega),by simp⟩
      ·obtain⟨q2,h1,h2⟩:=eR hu hin e;exact⟨q2,NB h1 (by omega),by simp;omega⟩
  ·cases h
theorem MW{t:List Int}{a b:Int}(h:N1 t a b=true)(hne:a≠b):(Es t a).length<(Es t b).length:=by
 unfold N1 at h;simp only[A3,zzL71,zzL93]at h;obtain⟨h1,h2⟩:=h;unfold Mf at h1 h2
 split at h1
 ·rename_i hr
  rw[if_pos hr]at h2
  cases hf:(Es t a).find? λx=>(Es t b).contains x with
  | none=>rw[hf]at h2;exact absurd rfl h2
  | some x=>
   rw[hf]at h1;obtain rfl:x=a:=h1;have hc:=List.find?_some hf
   have hin:x∈Es t b:=by simpa using hc
   unfold Es at hin ⊢
   cases hu:upD t t.length b with
   | none=>rw[hu]at hin;cases hin
   | some q=>
    rw[hu]at hin;obtain⟨q',g1,g2⟩:=eR hu hin hne;rw[g1];exact g2
 ·rename_i hr
  rw[if_neg hr]at h2;exact absurd rfl h2
def Gd(f:TFunc)(v:Int):Prop:=∃ d∈Ax f,d.V=v/\d.Shape=(64,1)
def Nh(f:TFunc):List Cz:=f.Blocks.flatMap (·.Ops)
def iM(f:TFunc)(v:Int):Option Cz:=(Nh f).find? λo=>TR o.Kind&&o.Dst==v
def oI(f:TFunc)(d:TDef):Nat:=if d.Block<0 then 0 else(Es (B1 f) d.Block).length*((Nh f).length+5)+(d.At+2).toNat
def k4(f:TFunc)(v:Int):Nat:=oI f (defOf (Ax f) v)
theorem opsA_mem{f:TFunc}{o:Cz}:o∈Nh f↔∃ i,i<f.Blocks.length/\∃ k,k<(bA f i).Ops.length/\o=(bA f i).Ops.getD k default:=by
 unfold Nh;rw[zzL66]
 constructor
 ·rintro⟨b,hb,ho⟩;obtain⟨i,hi,rfl⟩:=Ll hb;obtain⟨k,hk,rfl⟩:=Ll ho;have e:bA f i=f.Blocks[i]:=Aa _ _ _ hi;refine⟨i,hi,k,by rw[e];exact hk,?_⟩;rw[e,Aa _ _ _ hk]
 ·rintro⟨i,hi,k,hk,rfl⟩;exact⟨bA f i,getD_mem hi,getD_mem hk⟩
theorem dn{f:TFunc}{i:Nat}(hi:i<f.Blocks.length):(bA f i).Ops.length<=(Nh f).length:=by
 unfold Nh
 have:∀(l:List Af) (b:Af),b∈l->b.Ops.length<=(l.flatMap (·.Ops)).length:=by
  intro l
  induction l with
  | nil=>intro b h;cases h
  | cons x l ih=>
   intro b h;rw[Yh,Eo];rcases zzL25.1 h with rfl|h
   ·omega
   ·have:=ih b h;omega
 exact this _ _ (getD_mem hi)
section
variable {f:TFunc} (R:lv f 2)
include R
theorem UE{i k:Nat}(hi:i<f.Blocks.length)(hk:k<(bA f i).Ops.length):Jg ((bA f i).Ops.getD k default)=true:=d8 R (getD_mem hi) (getD_mem hk)
theorem op_dst{o:Cz}(ho:o∈Nh f):o.Dst=0/\TR o.Kind=false\/∃ i k:Nat,i<f.Blocks.length/\k<(bA f i).Ops.length/\o=(bA f i).Ops.getD k default/\1<=o.Dst/\o.Dst<=1023/\(⟨o.Dst,(i:Int),(k:Int),Mu o.Kind o.Bits o.Lanes⟩:TDef)∈Ax f:=by
 obtain⟨i,hi,k,hk,e⟩:=opsA_mem.1 ho;have hm:=UE R hi hk;rw[<- e]at hm;obtain⟨m1,m2,m3,m4,m5,m6,m7⟩:=Xn hm
 by_cases hst:o.Kind=17\/o.Kind=19
 ·left
  have:(o.Kind==17 || o.Kind==19)=true:=by simpa using hst
  unfold dstS at m7;rw[this,Ad]at m7;refine⟨by simpa using m7,?_⟩;rcases hst with h|h<;>rw[h]<;>rfl
 ·right
  have hf:(o.Kind==17 || o.Kind==19)=false:=by simpa using hst
  unfold dstS at m7;rw[hf,Au]at m7;simp only[valS,A3,Dw]at m7
  have hg:H9 o=Mu o.Kind o.Bits o.Lanes:=by unfold H9;rw[hm];rfl
  have hz:=ED (k:=o.Kind) m1;rw[hf]at hz
  have hpos:0<(H9 o).1:=by
   rw[hg];have hn:(Mu o.Kind o.Bits o.Lanes).1≠0:=zzL20.1 hz;have hb:=width_cases (shape_width m1);unfold Mu at hn ⊢;rw[hf,Au]at hn ⊢
   cases(o.Kind==10 || o.Kind==11 || o.Kind==12) with
   | true=>show(0:Int)<1;omega
   | false=>cases(o.Kind==22)<;>simp<;>omega
  refine⟨i,k,hi,hk,e,m7.1,m7.2,ri_def.2 (.inr ⟨i,hi,.inr ⟨k,hk,by rw[<- e];exact hpos,?_⟩⟩)⟩;rw[<- e,hg]
theorem dm{o o':Cz}(ho:o∈Nh f)(ho':o'∈Nh f)(h1:1<=o.Dst)(h:o.Dst=o'.Dst):o=o':=by
 rcases op_dst R ho with⟨h0,_⟩|⟨i,k,hi,hk,e,_,_,hd⟩
 ·omega
 ·rcases op_dst R ho' with⟨h0,_⟩|⟨i',k',hi',hk',e',_,_,hd'⟩
  ·omega
  ·have:=d7 R hd hd' h;simp only[TDef.mk.injEq]at this;obtain⟨_,h2,h3,_⟩:=this
   have e1:i=i':=by omega
   have e2:k=k':=by omega
   rw[e,e',e1,e2]
theorem dl{o:Cz}(ho:o∈Nh f)(hk:TR o.Kind=true):iM f o.Dst=some o:=by
 unfold iM
 cases h:(Nh f).find? λx=>TR x.Kind&&x.Dst==o.Dst with
 | none=>
  have:=List.find?_eq_none.1 h o ho;simp[hk]at this
 | some x=>
  have hp:=List.find?_some h;simp only[A3,zzL71]at hp
  have h1:1<=x.Dst:=by
   rcases op_dst R (List.mem_of_find?_eq_some h) with⟨_,h0⟩|⟨i,k,hi,hk',e,h1,_,_⟩
   ·rw[hp.1]at h0;cases h0
   ·exact h1
  rw[dm R (List.mem_of_find?_eq_some h) ho h1 hp.2]
omit R in
theorem X0{v:Int}{o:Cz}(h:iM f v=some o):o∈Nh f/\TR o.Kind=true/\o.Dst=v:=by
 unfold iM at h;have hp:=List.find?_some h;simp only[A3,zzL71]at hp;exact⟨List.mem_of_find?_eq_some h,hp.1,hp.2⟩
theorem jd{d:TDef}(hd:d∈Ax f):k4 f d.V=oI f d:=by
 unfold k4;rw[(TJ (Wb (CY R).1) hd).2]
theorem gj(hI:∀ o∈Nh f,0<=o.Imm):fY (iM f) (Gd f) (k4 f):=by
 refine⟨λv ⟨d,hd,hv,_⟩=>?_,λv o _ h=>(X0 h).2.1,λv o ⟨d,hd,hv,hs⟩ h h0=>?_,λv o _ h=>hI o (X0 h).1⟩
 ·have:=kz R hd;simp only[valS,A3,Dw]at this;rw[<- hv];exact this
 ·obtain⟨hm,hk,hdst⟩:=X0 h;rcases op_dst R hm with⟨_,h2⟩|⟨i,k,hi,hkk,e,h1,_,hde⟩
  ·rw[hk]at h2;cases h2
  ·have hdd:=d7 R hd hde (by rw[hv,hdst]);have hmay:=UE R hi hkk;rw[<- e]at hmay;obtain⟨m1,m2,m3,m4,m5,m6,m7⟩:=Xn hmay
   have hk':o.Kind=1\/o.Kind=2\/o.Kind=3\/o.Kind=8:=by
    simp only[TR,Vt,zzL71]at hk;omega
   have hgs:Mu o.Kind o.Bits o.Lanes=(o.Bits,o.Lanes):=by rcases hk' with h|h|h|h<;>rw[h]<;>rfl
   have hel:∀ j,W9 o j=(o.Bits,o.Lanes):=λj=>by unfold W9;rcases hk' with h|h|h|h<;>rw[h]<;>rfl
   have hna:Lk o.Kind o.Lanes=2:=by rcases hk' with h|h|h|h<;>rw[h]<;>rfl
   rw[hdd]at hs;have hsh:(o.Bits,o.Lanes)=((64:Int),(1:Int)):=hgs.symm.trans hs
   have hlen:o.Args.length=2:=by omega
   have harg:∀ j,j<2->Gd f (o.Args.getD j 0)/\k4 f (o.Args.getD j 0)<k4 f v:=λj hj=>by
    have hu:(⟨o.Args.getD j 0,(i:Int),(k:Int),W9 o j⟩:Mq)∈Eb f:=by
     refine(XI (λb hb o ho=>d8 R hb ho)).2 ⟨i,hi,.inr (.inl ⟨k,j,hkk,by rw[<- e];omega,by rw[<- e]⟩)⟩
    obtain⟨d',hd',hv',hs',ht⟩:=eA R hu;have hv':d'.V=o.Args.getD j 0:=hv';refine⟨⟨d',hd',hv',by rw[hs',<- hsh];exact hel j⟩,?_⟩;rw[<- hv',jd R hd',<- hv,jd R hd,hdd];unfold oI
    have hbn:¬ ((⟨o.Dst,(i:Int),(k:Int),Mu o.Kind o.Bits o.Lanes⟩:TDef).Block<0):=by show ¬ ((i:Int)<0);omega
    rw[if_neg hbn];have ht:d'.Block<0\/(d'.Block=(i:Int)/\d'.At<(k:Int))\/(d'.Block≠(i:Int)/\N1 (B1 f) d'.Block (i:Int)=true):=ht
    show(if d'.Block<0 then 0 else _)<(Es (B1 f) (i:Int)).length*_+((k:Int)+2).toNat
    split
    ·omega
    ·rename_i hb
     rcases ht with h|⟨h,ha⟩|⟨h,ho⟩
     ·exact absurd h hb
     ·rw[h]
      have:(d'.At+2).toNat<((k:Int)+2).toNat:=by omega
      omega
     ·have hsh:=MW ho h
      have hat:(d'.At+2).toNat<=(Nh f).length+2:=by
       rcases ri_def.1 hd' with⟨p,hp,rfl⟩|⟨p,hp,⟨q,hq,rfl⟩|⟨q,hq,_,rfl⟩⟩
       ·show((0:Int)+2).toNat<=_;simp
       ·show((-1:Int)+2).toNat<=_;simp
       ·show((q:Int)+2).toNat<=_
        have:=dn hp;omega
      have hmul:((Es (B1 f) d'.Block).length+1)*((Nh f).length+5)<=(Es (B1 f) (i:Int)).length*((Nh f).length+5):=Do _ hsh;rw[D1]at hmul;omega
   exact⟨hlen,harg 0 (by omega),harg 1 (by omega)⟩
theorem kL(hb:f.Blocks.length<9223372036854775808)(hl:∀ b∈f.Blocks,b.Ops.length<9223372036854775808):∃ M,L6 f=some M/\SQ M (iM f) (Gd f):=by
 let st (M:List (Int×Cz)) (o:Cz):List (Int×Cz):=bif TR o.Kind then Em M o.Dst o else M
 have inner:∀(i:Nat),i<f.Blocks.length->∀(k j:Nat) (M:List (Int×Cz)),j+k=(bA f i).Ops.length->Ag (G8 f (i:Int)) ((j:Int),M)=some (((bA f i).Ops.drop j).foldl st M):=by
  intro i hi k;have hlen:=hl _ (getD_mem hi:bA f i∈f.Blocks)
  induction k with
  | zero=>
   intro j M h
   obtain rfl:j=(bA f i).Ops.length:=by omega
   rw[List.drop_length];refine Ah ?_;unfold G8;simp only[A4];rw[show f.Blocks.getD i default=bA f i from rfl,Kp]
   rfl
  | succ k ih=>
   intro j M h
   have hj:j<(bA f i).Ops.length:=by omega
   have hd:(bA f i).Ops.drop j=(bA f i).Ops.getD j default::(bA f i).Ops.drop (j+1):=by rw[O7 hj,Aa _ _ _ hj]
   have hs:G8 f (i:Int) ((j:Int),M)=some (.next (((j+1:Nat):Int),st M ((bA f i).Ops.getD j default))):=by
    unfold G8;simp only[A4];rw[show f.Blocks.getD i default=bA f i from rfl,Fz hj,Ad,Ac (Jf hj),Dv hj hlen]
    generalize (bA f i).Ops.getD j default=o
    simp only[st,TR]
    cases(o.Kind==0)<;>cases(o.Kind==1)<;>cases(o.Kind==2)<;>cases(o.Kind==3)<;>cases(o.Kind==8)<;>rfl
   rw[An hs,ih (j+1) _ (by omega),hd,List.foldl_cons]
 have outer:∀(k i:Nat) (M:List (Int×Cz)),i+k=f.Blocks.length->Ag (G9 f) ((i:Int),M)=some (((f.Blocks.drop i).flatMap (·.Ops)).foldl st M):=by
  intro k
  induction k with
  | zero=>
   intro i M h
   obtain rfl:i=f.Blocks.length:=by omega
   rw[List.drop_length];exact Ah (by unfold G9;simp only[Kp,Au];rfl)
  | succ k ih=>
   intro i M h
   have hi:i<f.Blocks.length:=by omega
   have hd:f.Blocks.drop i=bA f i::f.Blocks.drop (i+1):=by rw[O7 hi];exact B9 (·::_) (Aa _ _ _ hi).symm
   have hs:G9 f ((i:Int),M)=some (.next (((i+1:Nat):Int),(bA f i).Ops.foldl st M)):=by
    unfold G9;simp only[Fz hi,Ad];have:=inner i hi (bA f i).Ops.length 0 M (by omega);rw[show(((0:Nat):Int))=0 from rfl,Lm]at this;rw[Ac (Jf hi),this,Ao,Dv hi hb]
    rfl
   rw[An hs,ih (i+1) _ (by omega),hd,Yh,List.foldl_append]
 refine⟨(Nh f).foldl st [],?_,?_⟩
 ·unfold L6;have:=outer f.Blocks.length 0 [] (by omega);rw[show(((0:Nat):Int))=0 from rfl,Lm]at this;rw[this]
  rfl
 ·have key:∀(l done:List Cz) (M:List (Int×Cz)),(∀ o∈done++l,o∈Nh f)->(∀ o∈done,TR o.Kind=true->Bz M o.Dst=true/\mget default M o.Dst=o)->(∀ v,Bz M v=true->∃ o∈done,TR o.Kind=true/\o.Dst=v)->
    (∀ o∈done++l,TR o.Kind=true->Bz (l.foldl st M) o.Dst=true/\mget default (l.foldl st M) o.Dst=o)/\(∀ v,Bz (l.foldl st M) v=true->∃ o∈done++l,TR o.Kind=true/\o.Dst=v):=by
   intro l
   induction l with
   | nil=>intro done M _ h1 h2;rw[List.append_nil];exact⟨h1,h2⟩
   | cons x l ih=>
    intro done M hin h1 h2;have hx:x∈Nh f:=hin x (by simp)
    have:=ih (done++[x]) (st M x) (by rw[Yg];exact hin) (λo ho hk=>by
     rcases zzL11.1 ho with h|h
     ·obtain⟨g1,g2⟩:=h1 o h hk;simp only[st]
      cases hxk:TR x.Kind with
      | false=>exact⟨g1,g2⟩
      | true=>
       rw[Ad,Td,Xp,g1,g2]
       by_cases e:o.Dst=x.Dst
       ·have h1o:1<=o.Dst:=by
         rcases op_dst R (hin o (by simp[h])) with⟨_,h0⟩|⟨_,_,_,_,_,h1,_⟩
         ·rw[hk]at h0;cases h0
         ·exact h1
        have:=dm R (hin o (by simp[h])) hx h1o e;subst this
        simp
       ·rw[show(o.Dst==x.Dst)=false by simp[e]];simp
     ·obtain rfl:=zzL17.1 h;simp only[st];rw[hk,Ad,Td,Xp]
      simp) (λv hv=>by
     simp only[st]at hv
     cases hxk:TR x.Kind with
     | false=>
      rw[hxk,Au]at hv;obtain⟨o,ho,h⟩:=h2 v hv;exact⟨o,by simp[ho],h⟩
     | true=>
      rw[hxk,Ad,Td,Vt]at hv;rcases hv with hv|hv
      ·exact⟨x,by simp,hxk,(eq_of_beq hv).symm⟩
      ·obtain⟨o,ho,h⟩:=h2 v hv
       exact⟨o,by simp[ho],h⟩)
    rw[Yg]at this;exact this
  obtain⟨k1,k2⟩:=key (Nh f) [] [] (λo ho=>by simpa using ho) (λo ho=>by cases ho) (λv hv=>by cases hv);rw[T8]at k1 k2;intro v hg;refine⟨?_,λo h=>?_⟩
  ·cases hd:iM f v with
   | some o=>
    obtain⟨a,b,c⟩:=X0 hd;have:=(k1 o a b).1;rw[c]at this;exact this
   | none=>
    cases hm:Bz ((Nh f).foldl st []) v with
    | false=>rfl
    | true=>
     obtain⟨o,a,b,c⟩:=k2 v hm;have:=dl R a b;rw[c,hd]at this
     cases this
  ·obtain⟨a,b,c⟩:=X0 h;have:=(k1 o a b).2;rw[c]at this;exact this
end
section
variable {f:TFunc} (h:Sm f)
include h
omit h in
theorem Zq(hc:C7 f 2=0):lv f 2:=(ib (by omega)).1 hc
theorem GA:f.Blocks.length<9223372036854775808/\(∀ b∈f.Blocks,b.Ops.length<9223372036854775808)/\∀ o∈Nh f,0<=o.Imm:=by
 have hI:=h.1;refine⟨by have:=hI.blocks;rw[I7]at this;omega,λb hb=>by have:=(hI.block b hb).2.1;rw[I7]at this;omega,λo ho=>?_⟩;obtain⟨i,hi,k,hk,rfl⟩:=opsA_mem.1 ho;exact(hI.op _ (getD_mem hi) _ (getD_mem hk)).2.1
theorem cS(hc:C7 f 2=0){v:Int}(hg:Gd f v):Hh f v=some (S3 (iM f) (k4 f v+1) v,0):=by
 obtain⟨s,hs,hS⟩:=OP f h;obtain⟨p1,p2,p3⟩:=GA h;have R:=Zq hc;obtain⟨M,m1,m2⟩:=kL R p1 p2;obtain⟨fd,f1⟩:=UJ (gj R p3) m2 hg;obtain⟨d,hd,hv,hsh⟩:=hg;have hget:=hS.get hc d hd;rw[hv,hsh]at hget;unfold Hh;rw[hs,Ao,hget,m1]
 show(Gk v M []).bind _=_
 rw[f1]
 rfl
theorem gV{v:Int}(hn:¬ (C7 f 2=0/\Gd f v)):Hh f v=some (⟨[],0⟩,10):=by
 obtain⟨s,hs,hS⟩:=OP f h
 have hne:mget ((0:Int),(0:Int)) s v≠(64,1):=λe=>by
  by_cases hc:C7 f 2=0
  ·cases hm:Bz s v with
   | false=>rw[Y6 hm]at e;cases e
   | true=>
    obtain⟨d,hd,hv⟩:=hS.has hc v hm;have:=hS.get hc d hd;rw[hv,e]at this;exact hn ⟨hc,d,hd,hv,this.symm⟩
  ·have:=hS.none hc;rw[KJ this]at e
   cases e
 unfold Hh;rw[hs,Ao]
 have:(!(((mget ((0:Int),(0:Int)) s v).1==(64:Int))&&(((mget ((0:Int),(0:Int)) s v).2==(1:Int))&&true)))=true:=by
  generalize mget ((0:Int),(0:Int)) s v=p at hne ⊢
  obtain⟨a,b⟩:=p
  by_cases ha:a=64
  ·have hb:b≠1:=λe=>hne (by rw[ha,e]);simp[hb]
  ·simp[ha]
 rw[this]
 rfl
end
theorem mE{g:Int->Int}{v:Int}(h1:1<=v)(h2:v<1024):Ko (fO g) v=g v:=by
 rw[kP,Cq h1,Cq h2];rfl
theorem JZ:∀ n a,Mi (λ_=>0) a n=[]
 | 0,_=>rfl
 | n+1,a=>by unfold Mi;exact JZ n (a+1)
theorem OA:fO (λ_=>0)=[]:=JZ _ _
section
variable {x y:Az} (hx:Ep 0 x.Terms=true) (hy:Ep 0 y.Terms=true)
include hx
theorem mb:Kh Jq x x=⟨[],0⟩:=by
 rw[ML hx hx]
 have e:∀ a,Jq a a=0:=λa=>by unfold Jq;rw[Int.sub_self];rfl
 simp only[e,OA]
end
set_option linter.unusedSectionVars false
def fV(ps:List Int)(r:Int)(ops:List Cz)(a:Int):TFunc:=⟨ps,r,[⟨[],ops,⟨0,a,[]⟩⟩]⟩
def fX(o:Cz):Bool:=o.Kind==16 || (o.Kind==17 || (o.Kind==18 || o.Kind==19))
def wh(o:Cz):Nat:=bif o.Kind==16 || o.Kind==17 then 0 else 1
def GW(o:Cz):Int:=o.Args.getD (wh o) 0
def Oe(o:Cz):Int:=o.Lanes*(o.Bits / 8)
theorem bD{o:Cz}(h:fX o=true):o.Kind=16\/o.Kind=17\/o.Kind=18\/o.Kind=19:=by simpa [fX] using h
theorem bB{b n:Int}(h:U1 b n=true)(h8:8<=b):1<=n*(b / 8)/\n*(b / 8)<=16/\n*b=8*(n*(b / 8)):=by
 have hw:=width_cases (shape_width h);have hl:=Mk h
 have h128:n=1\/b*n<=128:=by
  simp only[U1,A3,Vt,zzL71,Dw]at h;rcases h.2 with h|h
  ·exact .inl h
  ·exact .inr h.2
 rcases hw with rfl|rfl|rfl|rfl|rfl<;>rcases hl with rfl|rfl|rfl|rfl|rfl<;>omega
theorem RH{f:TFunc}(R:lv f 2){i k:Nat}(hi:i<f.Blocks.length)(hk:k<(bA f i).Ops.length){o:Cz}(e:(bA f i).Ops.getD k default=o)(ht:fX o=true) :
  wh o<o.Args.length/\Gd f (GW o)/\1<=Oe o/\Oe o<=16/\o.Lanes*o.Bits=8*Oe o/\0<=o.Bits/\o.Bits<=64:=by
 have hmay:=UE R hi hk;rw[e]at hmay;obtain⟨m1,m2,m3,m4,m5,m6,m7⟩:=Xn hmay;have hk':=bD ht
 have hwl:wh o<o.Args.length:=by
  have:Lk o.Kind o.Lanes=1/\wh o=0\/2<=Lk o.Kind o.Lanes/\wh o<=1:=by
   unfold wh;rcases hk' with h|h|h|h<;>rw[h]
   ·exact .inl ⟨rfl,rfl⟩
   ·exact .inr ⟨by show(2:Int)<=2;omega,by decide⟩
   ·exact .inr ⟨by show(2:Int)<=3;omega,by decide⟩
   ·exact .inr ⟨by show(2:Int)<=3;omega,by decide⟩
  omega
 have h8:8<=o.Bits:=by
  rcases hk' with h|h|h|h<;>rw[h]at m3
  ·exact Qb m3
  ·exact Qb m3
  ·exact Qb (Bool.and_eq_true_iff.1 m3).1
  ·exact Qb (Bool.and_eq_true_iff.1 m3).1
 have hel:W9 o (wh o)=(64,1):=by unfold W9 wh;rcases hk' with h|h|h|h<;>rw[h]<;>rfl
 have hu:(⟨GW o,(i:Int),(k:Int),W9 o (wh o)⟩:Mq)∈Eb f:=
  (XI (λb hb o ho=>d8 R hb ho)).2 ⟨i,hi,.inr (.inl ⟨k,wh o,hk,by rw[e];exact hwl,by rw[e];rfl⟩)⟩
 obtain⟨d,hd,hv,hs,_⟩:=eA R hu;obtain⟨l1,l2,l3⟩:=bB m1 h8;exact⟨hwl,⟨d,hd,hv,hs.trans hel⟩,l1,l2,l3,by omega,by rcases width_cases (shape_width m1) with h|h|h|h|h<;>omega⟩
def W7(p q:Az):Int×Bool:=bif (Kh Jq q p).Terms.length==0 then((Kh Jq q p).Off,true) else(0,false)
section
variable {p q:Az} (hp:Ep 0 p.Terms=true) (hq:Ep 0 q.Terms=true)
include hp hq
theorem sub_nil:(Kh Jq q p).Terms=[]↔∀ v:Int,1<=v->v<1024->Ko q.Terms v=Ko p.Terms v\/Jq (Ko q.Terms v) (Ko p.Terms v)=0:=by
 rw[ML hq hp]
 constructor
 ·intro h v h1 h2;have h:fO (λv=>Jq (Ko q.Terms v) (Ko p.Terms v))=[]:=h;have:=mE (g:=λv=>Jq (Ko q.Terms v) (Ko p.Terms v)) h1 h2;rw[h]at this;exact .inr this.symm
 ·intro h
  show fO (λv=>Jq (Ko q.Terms v) (Ko p.Terms v))=[]
  rw[<- OA];refine YN λv h1 h2=>?_;rcases h v h1 h2 with e|e
  ·show Jq _ _=0
   rw[e];unfold Jq;rw[Int.sub_self];rfl
  ·exact e
theorem X9(h:(Kh Jq q p).Terms=[]):(Kh Jq p q).Terms=[]:=by
 refine(sub_nil hq hp).2 λv h1 h2=>?_;rcases(sub_nil hp hq).1 h v h1 h2 with e|e
 ·exact .inl e.symm
 ·refine .inr ?_;unfold Jq at e ⊢;simp only[T0]at e ⊢;omega
theorem cd:(W7 p q).2=(W7 q p).2/\((W7 p q).2=true->E1 ((W7 p q).1+(W7 q p).1)=0)/\((W7 p q).2=false->(W7 p q).1=0)/\0<=(W7 p q).1/\(W7 p q).1<18446744073709551616:=by
 have hr:∀ a b,0<=Jq a b/\Jq a b<18446744073709551616:=λa b=>by unfold Jq;simp only[T0];omega
 have ho:∀{x y:Az},Ep 0 x.Terms=true->Ep 0 y.Terms=true->(Kh Jq x y).Off=Jq x.Off y.Off:=λhx hy=>by rw[ML hx hy]
 unfold W7
 by_cases h:(Kh Jq q p).Terms=[]
 ·have h':=X9 hp hq h;rw[h,h',ho hq hp,ho hp hq];refine⟨rfl,λ_=>?_,(λe=>by cases e),hr _ _⟩
  show E1 (Jq q.Off p.Off+Jq p.Off q.Off)=0
  unfold Jq;simp only[T0];omega
 ·have h':(Kh Jq p q).Terms≠[]:=λe=>h (X9 hq hp e)
  have e1:((Kh Jq q p).Terms.length==0)=false:=by rw[zzL20];exact λe=>h (KJ e)
  have e2:((Kh Jq p q).Terms.length==0)=false:=by rw[zzL20];exact λe=>h' (KJ e)
  rw[e1,e2];exact⟨rfl,(λe=>by cases e),λ_=>rfl,by show(0:Int)<=0/\(0:Int)<_;omega⟩
omit hq in
theorem ce:W7 p p=(0,true):=by unfold W7;rw[mb hp];rfl
end
def n9(d m n:Int):Bool:=decide (m<=d)&&decide (n<=E1 (-d))
def oN:Cz:=⟨0,0,0,0,[],0⟩
def oG(f:TFunc)(b k:Int):Cz:=(f.Blocks.getD b.toNat default).Ops.getD k.toNat default
def lF(f:TFunc)(b k:Int):Prop:=Bt b f.Blocks.length/\Bt k (f.Blocks.getD b.toNat default).Ops.length
def Rp(f:TFunc)(b k:Int):Bool:=(C7 f 2==0)&&((decide (0<=b)&&decide (b<f.Blocks.length))&&(decide (0<=k)&&decide (k<(f.Blocks.getD b.toNat default).Ops.length)))&&fX (oG f b k)
def fR(f:TFunc)(v:Int):Az:=S3 (iM f) (k4 f v+1) v
def dF(f:TFunc)(b x y:Int):Int×Bool:=bif Rp f b x&&Rp f b y then W7 (fR f (GW (oG f b x))) (fR f (GW (oG f b y))) else(0,false)
theorem to_iff{f:TFunc}{b k:Int}:Rp f b k=true↔C7 f 2=0/\lF f b k/\fX (oG f b k)=true:=by
 simp only[Rp,lF,Bt,A3,zzL71,Dw,and_assoc]
theorem K8{f:TFunc}{b k:Int}(h:Rp f b k=true) :
  wh (oG f b k)<(oG f b k).Args.length/\Gd f (GW (oG f b k))/\1<=Oe (oG f b k)/\Oe (oG f b k)<=16/\(oG f b k).Lanes*(oG f b k).Bits=8*Oe (oG f b k)/\0<=(oG f b k).Bits/\(oG f b k).Bits<=64:=by
 obtain⟨h1,⟨h2,h3⟩,h4⟩:=to_iff.1 h;have h2:=h2;have h3:=h3;unfold Bt at h2 h3;exact RH (Zq h1) (i:=b.toNat) (k:=k.toNat) (by omega) (by show _<(f.Blocks.getD b.toNat default).Ops.length;omega) rfl h4
theorem WA{f:TFunc}{b k:Int}(hI:∀ o∈Nh f,0<=o.Imm)(h:Rp f b k=true):GW (oG f b k)≠0:=by
 have:=(gj (Zq (to_iff.1 h).1) hI).rng _ (K8 h).2.1;omega
theorem AM(f:TFunc)(b k:Int):(lF f b k->C1 f b k=some (oG f b k))/\(¬ lF f b k->C1 f b k=some oN):=by
 unfold lF Bt C1
 by_cases h1:b<0
 ·rw[Cq h1];exact⟨λh=>absurd h1 (by omega),λ_=>rfl⟩
 by_cases h2:(f.Blocks.length:Int)<=b
 ·rw[Cx h1,Cq h2];exact⟨λh=>absurd h2 (by omega),λ_=>rfl⟩
 rw[Cx h1,Cx h2,Au,Au,Ac ⟨by omega,by omega⟩]
 by_cases h3:k<0
 ·rw[Cq h3];exact⟨λh=>absurd h3 (by omega),λ_=>rfl⟩
 by_cases h4:((f.Blocks.getD b.toNat default).Ops.length:Int)<=k
 ·rw[Cx h3,Cq h4];exact⟨λh=>absurd h4 (by omega),λ_=>rfl⟩
 rw[Cx h3,Cx h4,Au,Au,Ac ⟨by omega,by omega⟩];exact⟨λ_=>rfl,λh=>absurd ⟨⟨by omega,by omega⟩,by omega,by omega⟩ h⟩
theorem IG(o:Cz):Dx o=some (bif fX o&&decide (wh o<o.Args.length) then GW o else 0):=by
 obtain⟨k,b,l,d,gs,i⟩:=o
 have fin:∀ n:Nat,(bif decide ((gs.length:Int)<=(n:Int)) then some (0:Int) else Ch (Bt (n:Int) gs.length) (some (gs.getD ((n:Int)).toNat 0)))=some (bif decide (n<gs.length) then gs.getD n 0 else 0):=λn=>by
  by_cases h:n<gs.length
  ·rw[Cq h,Cx (by omega),Au,Ac ⟨by omega,by omega⟩];rfl
  ·rw[Cx h,Cq (by omega)];rfl
 have f0:=fin 0;have f1:=fin 1;have fl:=fin gs.length;rw[Cx (Vv _)]at fl;unfold Dx fX wh GW
 by_cases h1:k=16
 ·subst h1;exact f0
 by_cases h2:k=17
 ·subst h2;exact f0
 by_cases h3:k=18
 ·subst h3;exact f1
 by_cases h4:k=19
 ·subst h4;exact f1
 ·have e1:(k==16)=false:=by simp[h1]
  have e2:(k==17)=false:=by simp[h2]
  have e3:(k==18)=false:=by simp[h3]
  have e4:(k==19)=false:=by simp[h4]
  simp only[e1,e2,e3,e4,Au,Ao,Bool.or_self,Vu];exact fl
theorem S0{f:TFunc}{b k:Int}(h:Rp f b k=true):E0 (oG f b k)=some (Oe (oG f b k)):=by
 obtain⟨_,_,h1,h2,h3,_⟩:=K8 h;unfold E0;rw[h3,show Bh (8*Oe (oG f b k))=8*Oe (oG f b k) from Gb (by omega) (by omega),Int.tdiv_eq_ediv_of_nonneg (by omega),show 8*Oe (oG f b k) / 8=Oe (oG f b k) by omega,Gb (by omega) (by omega)]
section
variable {f:TFunc} (h:Sm f) (b:Int)
include h
theorem NA:∀ o∈Nh f,0<=o.Imm:=(GA h).2.2
theorem kU(hc:C7 f 2=0):¬ Gd f 0:=λhg=>by have:=(gj (Zq hc) (NA h)).rng _ hg;omega
theorem mB(k:Int):∃ o,C1 f b k=some o/\∃ v,Dx o=some v /\
  (Rp f b k=true->o=oG f b k/\v=GW o/\v≠0)/\(Rp f b k=false->C7 f 2=0->v=0):=by
 by_cases hi:lF f b k
 ·refine⟨_,(AM f b k).1 hi,_,IG _,λht=>?_,λht hc=>?_⟩
  ·have hp:=WA (NA h) ht;rw[(to_iff.1 ht).2.2,Cq (K8 ht).1];exact⟨rfl,rfl,hp⟩
  ·cases ht':fX (oG f b k) with
   | false=>rfl
   | true=>exact absurd (to_iff.2 ⟨hc,hi,ht'⟩) (by rw[ht];exact Bool.false_ne_true)
 ·refine⟨_,(AM f b k).2 hi,0,rfl,λht=>absurd (to_iff.1 ht).2.1 hi,λ_ _=>rfl⟩
theorem LS:Hw f=some (C7 f 2==0):=by unfold Hw;rw[gP f 2 h];rfl
theorem cM(k:Int):Gf f b k=some (bif Rp f b k then(GW (oG f b k),Oe (oG f b k),true) else(0,0,false)):=by
 obtain⟨o,ho,v,hv,h1,h2⟩:=mB h b k;unfold Gf;rw[ho,Ao,hv,Ao]
 cases ht:Rp f b k with
 | true=>
  obtain⟨rfl,rfl,hz⟩:=h1 ht;rw[show(GW (oG f b k)==0)=false from zzL20.2 hz,LS h,(to_iff.1 ht).1,S0 ht]
  rfl
 | false=>
  by_cases hc:C7 f 2=0
  ·rw[h2 ht hc];rfl
  ·rw[LS h,show(C7 f 2==0)=false from zzL20.2 hc]
   cases v==0<;>rfl
theorem EB{k:Int}(ht:Rp f b k=true):Ep 0 (fR f (GW (oG f b k))).Terms=true/\0<=(fR f (GW (oG f b k))).Off/\(fR f (GW (oG f b k))).Terms.length<=16:=
 cp (gj (Zq (to_iff.1 ht).1) (NA h)) _ _ (K8 ht).2.1
theorem WJ(k:Int):∃ o,C1 f b k=some o/\∃ v,Dx o=some v /\
  Hh f v=some (bif Rp f b k then(fR f (GW (oG f b k)),0) else(⟨[],0⟩,10)):=by
 obtain⟨o,ho,v,hv,h1,h2⟩:=mB h b k;refine⟨o,ho,v,hv,?_⟩
 cases ht:Rp f b k with
 | true=>
  obtain⟨rfl,rfl,hz⟩:=h1 ht;exact cS h (to_iff.1 ht).1 (K8 ht).2.1
 | false=>
  refine gV h λ⟨hc,hg⟩=>?_;rw[h2 ht hc]at hg;exact kU h hc hg
theorem Yv(x y:Int):Cv f b x y=some (dF f b x y):=by
 obtain⟨o,ho,v,hv,e1⟩:=WJ h b x;obtain⟨o',ho',v',hv',e2⟩:=WJ h b y;unfold Cv dF;rw[ho,Ao,hv,Ao,e1,Ao]
 cases hx:Rp f b x with
 | false=>rfl
 | true=>
  rw[Ad,show((0:Int)!=0)=false from rfl,Au,ho',Ao,hv',Ao,e2,Ao]
  cases hy:Rp f b y with
  | false=>rfl
  | true=>
   have l1:=(EB h b hx).2.2;have l2:=(EB h b hy).2.2;rw[Ad,show((0:Int)!=0)=false from rfl,Au,WI (x:=fR f (GW (oG f b y))) (y:=fR f (GW (oG f b x))) (by omega) (by omega),Ao];unfold W7;simp only[R9,Ad]
   cases(Kh Jq (fR f (GW (oG f b y))) (fR f (GW (oG f b x)))).Terms with
   | nil=>rfl
   | cons a l=>
    rw[show decide ((0:Int)<(((a::l).length:Nat):Int))=true from Cq (by rw[M6];omega)]
    rfl
theorem WN{x y:Int}(hd:(dF f b x y).2=true):Rp f b x=true/\Rp f b y=true:=by
 unfold dF at hd;cases hx:Rp f b x<;>cases hy:Rp f b y<;>rw[hx,hy]at hd<;>first|cases hd|exact⟨rfl,rfl⟩
def jI(f:TFunc)(b x y:Int):Bool:=(dF f b x y).2&&n9 (dF f b x y).1 (Oe (oG f b x)) (Oe (oG f b y))
def jN(f:TFunc)(b x y:Int):Bool:=(dF f b x y).2&&(dF f b x y).1==Oe (oG f b x)
theorem VA{k:Int}(ht:Rp f b k=true):E1 (Oe (oG f b k))=Oe (oG f b k):=by
 obtain⟨_,_,h1,h2,_⟩:=K8 ht;exact NE (by omega) (by omega)
theorem Ug(x y:Int):Ef f b x y=some (jN f b x y):=by
 unfold Ef Qx jN;rw[Yv h,Ao]
 cases hd:(dF f b x y).2 with
 | false=>rfl
 | true=>
  obtain⟨hx,hy⟩:=WN h b hd;obtain⟨i1,i2⟩:=(to_iff.1 hx).2.1;have i3:=(to_iff.1 hy).2.1.2;have ex:(f.Blocks.getD b.toNat default).Ops.getD x.toNat default=oG f b x:=rfl;have ey:(f.Blocks.getD b.toNat default).Ops.getD y.toNat default=oG f b y:=rfl;rw[show(!true)=false from rfl,Au,Ac i1,Ac i2,ex,S0 hx,Ao,Ac i3,ey,S0 hy,Ao,VA h b hx]
  rfl
theorem CK(x y:Int):Fq f b x y=some (jI f b x y):=by
 unfold Fq Mx jI;rw[Yv h,Ao]
 cases hd:(dF f b x y).2 with
 | false=>rfl
 | true=>
  obtain⟨hx,hy⟩:=WN h b hd;obtain⟨i1,i2⟩:=(to_iff.1 hx).2.1;have i3:=(to_iff.1 hy).2.1.2;have ex:(f.Blocks.getD b.toNat default).Ops.getD x.toNat default=oG f b x:=rfl;have ey:(f.Blocks.getD b.toNat default).Ops.getD y.toNat default=oG f b y:=rfl;rw[show(!true)=false from rfl,Au,Ac i1,Ac i2,ex,S0 hx,Ao,Ac i3,ey,S0 hy,Ao,VA h b hx,VA h b hy];unfold Mw n9;rw[Int.zero_sub]
  cases decide (Oe (oG f b x)<=(dF f b x y).1)<;>rfl
def eL(f:TFunc)(b:Int)(k:Nat):List Int:=bif Rp f b (k:Int) then[(k:Int)] else[]
def k7(f:TFunc)(b:Int):List Int:=((List.range (f.Blocks.getD b.toNat default).Ops.length).map (eL f b)).flatten
def oK(f:TFunc)(b:Int):List Int:=bif decide (0<=b)&&decide (b<f.Blocks.length) then k7 f b else[]
omit h in
theorem il(k:Nat):(eL f b k).length<=1:=by unfold eL;cases Rp f b (k:Int)<;>simp
theorem iO(hc:C7 f 2=0)(hb:Bt b f.Blocks.length):(f.Blocks.getD b.toNat default).Ops.length<=512:=by
 have hO:=jf h (Zq hc).may;unfold Bt at hb;exact(hO.block _ (getD_mem (by omega))).ops
theorem iP(hb:Bt b f.Blocks.length):(f.Blocks.getD b.toNat default).Ops.length<9223372036854775808:=by
 unfold Bt at hb;exact(GA h).2.1 _ (getD_mem (by omega))
theorem eM(hb:Bt b f.Blocks.length):(k7 f b).length<=512:=by
 unfold k7
 by_cases hc:C7 f 2=0
 ·have:=EA (List.range (f.Blocks.getD b.toNat default).Ops.length) (eL f b) 1 λk _=>il b k;rw[Vs]at this;have:=iO h b hc hb;omega
 ·have:=EA (List.range (f.Blocks.getD b.toNat default).Ops.length) (eL f b) 0 λk _=>by
   unfold eL;rw[show Rp f b (k:Int)=false from Bool.eq_false_iff.2 λe=>hc (to_iff.1 e).1];exact zzL7 _
  omega
theorem ai(hb:Bt b f.Blocks.length)(g:List Int×Int->Option (LR (List Int×Int) (List Int)))
  (hn:∀(out:List Int) (k:Nat),k<(f.Blocks.getD b.toNat default).Ops.length->(Rp f b (k:Int)=true->out.length+([(k:Int)]:List Int).length<=room)->g (out,(k:Int))=some (.next (out++eL f b k,((k+1:Nat):Int))))
  (hd:∀ out:List Int,g (out,((f.Blocks.getD b.toNat default).Ops.length:Int))=some (.done out)):Ag g (([]:List Int),(0:Int))=some (k7 f b):=by
 have hl:(List.range (f.Blocks.getD b.toNat default).Ops.length).length=(f.Blocks.getD b.toNat default).Ops.length:=Vs
 have hg:∀ i,i<(f.Blocks.getD b.toNat default).Ops.length->(List.range (f.Blocks.getD b.toNat default).Ops.length).getD i 0=i:=λi hi=>by
  rw[Aa _ _ _ (by simpa using hi),List.getElem_range]
 have key:=AX (List.range (f.Blocks.getD b.toNat default).Ops.length) 0 (eL f b) room g (λout i hi hr=>?_) (λout=>by rw[hl];exact hd out) (f.Blocks.getD b.toNat default).Ops.length 0 [] (by rw[hl,Fi]) ?_
 ·rw[Lm]at key;exact key
 ·rw[hl]at hi;rw[hg i hi]at hr ⊢;refine hn out i hi λht=>?_;unfold eL at hr;rw[ht]at hr;exact hr
 ·have:=eM h b hb;unfold k7 at this;rw[Lm,List.length_nil,XJ];omega
theorem ZB:Ju f b=some (oK f b):=by
 unfold Ju oK
 by_cases h1:b<0
 ·rw[Cq h1,Cx (show ¬ 0<=b by omega)];rfl
 by_cases h2:(f.Blocks.length:Int)<=b
 ·rw[Cx h1,Cq h2,Cx (show ¬ b<(f.Blocks.length:Int) by omega),Bool.and_false];rfl
 have hb:Bt b f.Blocks.length:=⟨by omega,by omega⟩
 rw[Cx h1,Cx h2,Cq hb.1,Cq hb.2,show(bif false then true else false)=false from rfl,show(false==false)=true from rfl,Ad,LS h,Ao,Au,
  show(true&&true)=true from rfl,Ad]
 by_cases hc:C7 f 2=0
 ·rw[show(C7 f 2==0)=true by rw[hc];rfl,show(!true)=false from rfl,Au,Ac hb];rw[ai h b hb (Hm f b) (λout k hk hr=>?_) λout=>?_]
  ·rfl
  ·have hkk:=iP h b hb;have ha:=IG (oG f b (k:Int))
   have eo:(f.Blocks.getD b.toNat default).Ops.getD k default=oG f b (k:Int):=by unfold oG;rw[A4]
   unfold Hm eL;simp only[Fz hk,Ad,A4];rw[Ac (Jf hk),eo,ha,Ao]
   cases ht:Rp f b (k:Int) with
   | true=>
    rw[(to_iff.1 ht).2.2,Cq (K8 ht).1,show((bif true&&true then GW (oG f b (k:Int)) else 0)!=0)=true from zzL93.2 (WA (NA h) ht),Ad,Ac (hr ht),Ao];simp only[Ad];rw[Gb (by omega) (by omega)]
    rfl
   | false=>
    have:fX (oG f b (k:Int))=false:=by
     cases ht':fX (oG f b (k:Int)) with
     | false=>rfl
     | true=>exact absurd (to_iff.2 ⟨hc,⟨hb,by omega,by omega⟩,ht'⟩) (by rw[ht];exact Bool.false_ne_true)
    rw[this,Vu,Au,show((0:Int)!=0)=false from rfl];simp only[Au,Ao,List.append_nil];rw[Gb (by omega) (by omega)]
    rfl
  ·unfold Hm;simp only[Kp,Au]
 ·rw[show(C7 f 2==0)=false from zzL20.2 hc]
  have hz:k7 f b=[]:=by
   unfold k7;rw[List.flatten_eq_nil_iff];intro l hl;obtain⟨k,_,rfl⟩:=zzL26.1 hl;unfold eL;rw[show Rp f b (k:Int)=false from Bool.eq_false_iff.2 λe=>hc (to_iff.1 e).1]
   rfl
  rw[hz]
  rfl
end
theorem mf{ps:List Int}{r:Int}{ops:List Cz}{a:Int}(h0:ps.length<=16)(h1:ops.length<=300)(h2:∀ o∈ops,o.Args.length<=3/\0<=o.Imm/\o.Imm<18446744073709551616):Sm (fV ps r ops a):=by
 have hb:∀ b∈(fV ps r ops a).Blocks,b=⟨[],ops,⟨0,a,[]⟩⟩:=λb hb=>by simpa [fV] using hb
 refine mg ⟨by rw[I7];show ps.length<=_;omega,by rw[I7];show(1:Nat)<=_;omega,λb h=>?_,λb h p hp=>?_,λb h o ho=>?_⟩ (by show ps.length<=64;omega) (λb h=>?_) ?_
 ·rw[hb b h,I7];exact⟨Lo _,by show ops.length<=_;omega,Lo _⟩
 ·rw[hb b h]at hp;cases hp
 ·rw[hb b h]at ho;obtain⟨g1,g2⟩:=h2 o ho;exact⟨by rw[I7];omega,g2⟩
 ·rw[hb b h];exact⟨Lo _,(λp hp=>by cases hp),λo ho=>by have:=(h2 o ho).1;omega⟩
 ·have hs:∀ l:List Cz,(∀ o∈l,o.Args.length<=3)->(l.map LV).sum<=4*l.length:=by
   intro l
   induction l with
   | nil=>intro _;simp
   | cons x l ih=>
    intro hl;have h0:=hl x (Lb ..);have h1:=ih λo ho=>hl o (F2 _ ho);rw[Br,Vx,M6];unfold LV at h1 ⊢;omega
  have:=hs ops λo ho=>(h2 o ho).1
  show ps.length+((1+0+0+(ops.map LV).sum)+0)<=20000
  omega
def fW:TFunc:=fV [64] 32 [⟨0,64,1,2,[],4⟩,⟨1,64,1,3,[1,2],0⟩,⟨16,32,1,4,[1],0⟩,⟨16,32,1,5,[3],0⟩] 5
theorem UU:Sm fW:=mf (by show 1<=16;omega) (by show 4<=300;omega) λo ho=>by
 simp only[zzL25,List.not_mem_nil,or_false]at ho;rcases ho with rfl|rfl|rfl|rfl<;>decide
theorem oJ:Rp fW 0 3=true/\Rp fW 0 2=true/\GW (oG fW 0 3)=3/\Oe (oG fW 0 3)=4/\oK fW 0=[2,3]:=by decide +kernel
theorem o9:dF fW 0 3 2=(18446744073709551612,true)/\jN fW 0 2 3=true/\jN fW 0 3 2=false/\jI fW 0 3 2=true/\jI fW 0 2 2=false:=by decide +kernel
theorem gD:m_locksteplaw18_awake=some true:=by
 obtain⟨t1,t2,t3,t4,t5⟩:=oJ;obtain⟨d1,d2,d3,d4,d5⟩:=o9;have a1:=cM UU 0 3;have a2:=Yv UU 0 3 2;have a3:=Ug UU 0 2 3;have a4:=Ug UU 0 3 2;have a5:=CK UU 0 3 2;have a6:=CK UU 0 2 2;have a7:=ZB UU 0;rw[t1,t3,t4]at a1;rw[d1]at a2;rw[d2]at a3;rw[d3]at a4;rw[d4]at a5;rw[d5]at a6;rw[t5]at a7;have a8:=ka [2,3] [2,3] (by decide);unfold fW fV at a1 a2 a3 a4 a5 a6 a7;unfold m_locksteplaw18_awake;rw[show A8=[⟨0,64,1,2,[],4⟩,⟨1,64,1,3,[1,2],0⟩,⟨16,32,1,4,[1],0⟩,⟨16,32,1,5,[3],0⟩] from rfl,a1,Ao,a2,Ao];simp only[Ad,BEq.rfl];rw[a3,Ao];simp only[Ad,BEq.rfl];rw[a4,Ao];simp only[Ad,BEq.rfl,Jj];rw[a5,Ao];simp only[Ad,BEq.rfl];rw[a6,Ao];simp only[Ad,BEq.rfl,Jj];rw[a7,Ao,a8]
 rfl
theorem gh{f:TFunc}(h:Sm f)(b x y:Int):(dF f b x y).2=(dF f b y x).2/\((dF f b x y).2=true->E1 ((dF f b x y).1+(dF f b y x).1)=0)/\((dF f b x y).2=false->(dF f b x y).1=0):=by
 unfold dF
 cases hx:Rp f b x with
 | false=>cases Rp f b y<;>exact⟨rfl,(λe=>by cases e),λ_=>rfl⟩
 | true=>
  cases hy:Rp f b y with
  | false=>exact⟨rfl,(λe=>by cases e),λ_=>rfl⟩
  | true=>
   obtain⟨p1,p2,p3,_⟩:=cd (EB h b hx).1 (EB h b hy).1;exact⟨p1,p2,p3⟩
theorem gf{f:TFunc}(h:Sm f)(b x:Int):dF f b x x=(0,Rp f b x):=by
 unfold dF
 cases hx:Rp f b x with
 | false=>rfl
 | true=>exact ce (EB h b hx).1
theorem both18(f:TFunc)(x:TThree)(hf:YB f):F9 f x=some true:=by
 obtain⟨b,hb,hs⟩:=ZT hf;unfold F9;rw[gD,Ao,show(!true)=false from rfl,Au,hb,Ao]
 cases b with
 | false=>rfl
 | true=>
  have h:=hs rfl;rw[show(!true)=false from rfl,Au,Yv h,Ao,Yv h,Ao];obtain⟨s1,s2,s3⟩:=gh h x.Block x.A x.B
  have hap:(dF f x.Block x.A x.B).2=false->jI f x.Block x.A x.B=false:=λe=>by unfold jI;rw[e];rfl
  have hfo:(dF f x.Block x.A x.B).2=false->jN f x.Block x.A x.B=false:=λe=>by unfold jN;rw[e];rfl
  have e1:(bif ((dF f x.Block x.A x.B).2 !=(dF f x.Block x.B x.A).2) then true else(bif (dF f x.Block x.A x.B).2 then((E1 ((dF f x.Block x.A x.B).1+(dF f x.Block x.B x.A).1))!=0) else false))=false:=by
   rw[s1,bne_self_eq_false,Au,<- s1]
   cases hd:(dF f x.Block x.A x.B).2 with
   | false=>rfl
   | true=>rw[Ad,s2 hd];rfl
  rw[e1];have hself:=gf h x.Block x.A
  have hapS:jI f x.Block x.A x.A=false:=by
   unfold jI;rw[hself]
   cases ht:Rp f x.Block x.A with
   | false=>rfl
   | true=>
    have:=(K8 ht).2.2.1;unfold n9;rw[Cx (show ¬ Oe (oG f x.Block x.A)<=0 by omega)]
    rfl
  have hfoS:jN f x.Block x.A x.A=false:=by
   unfold jN;rw[hself]
   cases ht:Rp f x.Block x.A with
   | false=>rfl
   | true=>
    have:=(K8 ht).2.2.1;rw[show((0:Int)==Oe (oG f x.Block x.A))=false from zzL20.2 (by omega)]
    rfl
  have hA:(bif Rp f x.Block x.A then(GW (oG f x.Block x.A),Oe (oG f x.Block x.A),true) else(0,0,false)).2.2=Rp f x.Block x.A:=by cases Rp f x.Block x.A<;>rfl
  have tail:((Gf f x.Block x.A).bind λx7=>((Cv f x.Block x.A x.A).bind λx8=>((bif ((bif (x8.2==x7.2.2) then((x8.1:Int)==(0:Int)) else false)==true) then Fq f x.Block x.A x.A else some false).bind λx9=>((bif ((bif (bif (x8.2==x7.2.2) then((x8.1:Int)==(0:Int)) else false) then(!x9) else false)==true) then Ef f x.Block x.A x.A else some false).bind λx10=>(some (bif (bif (bif (x8.2==x7.2.2) then((x8.1:Int)==(0:Int)) else false) then(!x9) else false) then(!x10) else false))))))=some true:=by
   rw[cM h,Ao,Yv h,Ao,hA,hself];simp only[BEq.rfl,Ad];rw[CK h,hapS,Ao];simp only[BEq.rfl,Ad,Jj];rw[Ug h,hfoS,Ao]
   rfl
  cases hd:(dF f x.Block x.A x.B).2 with
  | true=>
   simp only[Fa,show(true==false)=false from rfl,show(false==true)=false from rfl,show(false==false)=true from rfl,Bool.and_false,Vu,Au,Ao];exact tail
  | false=>
   rw[s3 hd];simp only[Jj,BEq.rfl,R9,Ad,bne_self_eq_false];rw[CK h,hap hd,Ao];simp only[Jj,BEq.rfl,R9,Ad,bne_self_eq_false,Au];rw[Ug h,hfo hd,Ao];simp only[Ad,Au];exact tail
section
variable {k:Int} (hk:0<=k/\k<65536)
include hk
end
end
end Go.Proofs.YtjpnobeadcdnoaaGreat
