/-
  The machine, the program's functions and the laws' arithmetic: part 5 of 5.
-/
import Derived.Test.YtiendmljhgbjoaaGreatPk4
set_option linter.unusedSectionVars false
set_option linter.unusedVariables false
set_option linter.unusedSimpArgs false
namespace Go.Proofs.YtiendmljhgbjoaaGreat
noncomputable section
open Go Go.RowKit
theorem jl{α:Type}(l:List α)(d:α)(p:α->Bool){X:Type}(f:Int->Option (LR Int X))(yes no:X)(hl:l.length<9223372036854775808)(hk:∀ i:Nat,i<l.length->f i=some (bif p (l.getD i d) then .next (Bh ((i:Int)+1)) else .done no))
  (he:f l.length=some (.done yes)):Ai f (0:Int)=some (bif l.all p then yes else no):=by
 have:=S7 l d p f yes no (λi hi hp=>by rw[hk i hi,hp,Ae,Cy hi hl]) (λi hi hp=>by rw[hk i hi,hp,Ax]) he l.length 0 (by omega);rwa[Je]at this
theorem jz(f:Ab)(hf:ez f)(l:Int)(t:List Int)(u:List A6):Gv f l t u=some (bif U5 f then 0 else 4,f,l,t,u):=by
 unfold Gv Iv;rw[nh f hf,Aq]
 cases U5 f<;>rfl
theorem YO(phis:List Hs)(l:List Int)(h1:phis.length<9223372036854775808)(h2:l.length<4611686018427387904):J7 phis l=some (phis.all (Hn l)):=by
 unfold J7
 rw[jl phis (default:Hs) (Hn l) (H0 phis l) (.inl ()) (.inr false) h1 (λi hi=>by
  unfold H0
  have hd:decide ((i:Int)<(phis.length:Int))=true:=by simpa using hi
  simp only[hd,Ae,Ar (Bb hi),Dp,LO _ _ h2,Aq,Hn]
  cases decide ((phis.getD i default).From=l) with
  | false=>rfl
  | true=>
   simp only[Fp,Ax,Hd,bne]
   cases(((phis.getD i default).Args.length:Int)==(l.length:Int))<;>rfl) (by unfold H0;simp),Aq]
 cases phis.all (Hn l)<;>rfl
def KU(e:Ju):Bool:=!((e.Kind==1 || e.Kind==3)&&(e.Arg !=0))
theorem YJ{n:Nat}(e:Ju)(hk:Ny e n=true):H5 e=some (KU e):=by
 have h4:0<=e.Kind/\e.Kind<=3:=by
  have:=(A3 _ _▸hk:OL e=true/\jT n e.To=true).1;unfold OL at this;simp only[A3,Ds]at this;omega
 unfold H5 KU
 have:e.Kind=0\/e.Kind=1\/e.Kind=2\/e.Kind=3:=by omega
 rcases this with h|h|h|h<;>rw[h]<;>cases hb:(e.Arg==0)<;>simp[hb,bne]
theorem TO{L:List (List Int)}(hm:L5 L=true){P:List Nat}(h0:0<L.length)(o:Ord (sN L) 0 P):decide (P.length<L.length) = !(List.range L.length).all λi=>(Rq L).getD i false:=by
 have hin:∀ x∈P,x<L.length:=λx hx=>(by obtain⟨Q,rfl,oo⟩:=o.ordered h0 (Vo hm);exact oo.lt hx)
 have hr:∀ z,(Rq L).getD z false=true↔z∈P:=λz=>by
  rw[o.mem z];exact Xx (Vo hm) h0 z
 have hle:=L6 L.length P o.nodup hin
 cases ha:(List.range L.length).all λi=>(Rq L).getD i false with
 | true=>
  have:=((List.perm_ext_iff_of_nodup o.nodup List.nodup_range).2 λi=>⟨λh=>zzL41.2 (hin i h),λh=>(hr i).1 (zzL28.1 ha i h)⟩:P.Perm (List.range L.length)).length_eq;rw[BE]at this
  simp;omega
 | false=>
  obtain⟨i,hi,hni⟩:∃ i,i<L.length/\i∉P:=GB λhc=>by
   have:(List.range L.length).all (λi=>(Rq L).getD i false)=true:=zzL28.2 λi hi=>(hr i).2 (GB λhn=>hc ⟨i,by simpa using hi,hn⟩);rw[this]at ha;cases ha
  have:(i::P).length<=L.length:=L6 L.length (i::P) (zzL76.2 ⟨hni,o.nodup⟩) (λx hx=>by rcases zzL22.1 hx with rfl|hx;exact hi;exact hin x hx);simp at this ⊢;omega
theorem cL {f : Ab} (hf : OkF f) (l : Int) (t : List Int) (u : List A6) : ∃ t', Fv f l t u = some (bif Gh f then 0 else 5, f, l, t', u) ∧ (Gh f = true → t' = B3 f) := by
  have hmax : f.Blocks.length ≤ maxLen := by have := hf.blocks; have : (64 : Nat) ≤ maxLen := by decide
                                             omega
  unfold Fv; rw [nb f hmax, Aq]
  cases hs : Od f with
  | false => exact ⟨t, by unfold Gh; rw [hs]; rfl, fun h => by unfold Gh at h; rw [hs] at h; cases h⟩
  | true =>
    have hm := Tk hs; have hlen := X0 f
    have hpos : 0 < (Ey f).length := by have := (shape_iff.1 hs).1.1; omega
    obtain ⟨h1, h2⟩ := ca hm; obtain ⟨P, hP⟩ := Ord.exist (Vo hm) hpos; have ho := (LP (Yk (Ey f)) h1 trivial 0).1 (OY hm) (by omega) (by show (0 : Int) < ((Ey f).length : Int); omega) P hP; have hfull := TO hm hpos hP; simp only [Ae, show (((0 : Int) != 0) == false) = true from rfl, show ((0 : Int) != 0) = false from rfl, Ax, ho, Aq, show (false == false) = true from rfl]
    have e1 : decide (((Pm P).length : Int) < (f.Blocks.length : Int)) = decide (P.length < (Ey f).length) := by
      rw [hlen]; apply zzL109.2; simp [Pm]
    rw [e1, hfull]
    have hsd : Gh f = (((List.range f.Blocks.length).all fun i => (Rq (Ey f)).getD i false) && (List.range f.Blocks.length).all fun i => KU (f.Blocks.getD i default).End && (f.Blocks.getD i default).Phis.all (Hn ((Fl (Ey f)).getD i []))) := by
      unfold Gh; rw [hs, Hd]
      have : ∀ (n : Nat) (p q : Nat → Bool), ((List.range n).all fun i => p i && q i) = ((List.range n).all p && (List.range n).all q) := fun n p q => by
        rw [Mr, A3, zzL28, zzL28, zzL28]
        constructor
        · intro h; exact ⟨fun x hx => ((A3 _ _).mp (h x hx)).1, fun x hx => ((A3 _ _).mp (h x hx)).2⟩
        · intro h x hx; rw [A3]; exact ⟨h.1 x hx, h.2 x hx⟩
      rw [← this]
      congr 1
      funext i
      show (_ && _ && _) = _
      rw [Bool.and_assoc]
      rfl
    rw [hlen]; rw [hsd]
    cases hr : (List.range f.Blocks.length).all fun i => (Rq (Ey f)).getD i false with
    | false => exact ⟨t, rfl, fun h => by cases h⟩
    | true =>
      refine ⟨B3 f, ?_, fun _ => rfl⟩; rw [Fp, Ax, kC _ 0 h1 h2, Aq, Hd]; have hp := Rp hm
      have hpl : (Yk (Ey f)).Pred.length = f.Blocks.length := by rw [← hlen]; exact N9 _
      have key : Ai (Cm f l u (Yk (Ey f), 0) (B3 f)) (0 : Int) = some (bif (List.range f.Blocks.length).all (fun i => KU (f.Blocks.getD i default).End && (f.Blocks.getD i default).Phis.all (Hn ((Fl (Ey f)).getD i []))) then .inl () else .inr ((5 : Int), f, l, B3 f, u)) := by
        have hk : ∀ i : Nat, i < f.Blocks.length → Cm f l u (Yk (Ey f), 0) (B3 f) (i : Int) = some (bif (KU (f.Blocks.getD i default).End && (f.Blocks.getD i default).Phis.all (Hn ((Fl (Ey f)).getD i []))) then .next ((i : Int) + 1) else .done (.inr ((5 : Int), f, l, B3 f, u))) := fun i hi => by
          have hB := hf.block _ (getD_mem (d := (default : An)) hi); have hpi : Bx (i : Int) (Yk (Ey f)).Pred.length := Bb (by omega); have hpg : ((Yk (Ey f)).Pred.getD i []).length ≤ 64 := hp.2 _ (getD_mem (by rw [N9]; omega)); unfold Cm
          have hd : decide ((i : Int) < (f.Blocks.length : Int)) = true := by simpa using hi
          simp only [hd, Ae, Ar (Bb hi), Ar hpi, Dp, YO (f.Blocks.getD i default).Phis ((Yk (Ey f)).Pred.getD i []) (by have := hB.phis; omega) (by omega), Aq]; have ha : H5 (⟨(f.Blocks.getD i default).End.Kind, (f.Blocks.getD i default).End.Arg, (f.Blocks.getD i default).End.To⟩ : Ju) = some (KU (f.Blocks.getD i default).End) := YJ (n := f.Blocks.length) (f.Blocks.getD i default).End ((shape_iff.1 hs).2 i hi); rw [ha, Cy hi (by have := hf.blocks; omega)]
          show _ = some (bif (KU (f.Blocks.getD i default).End && (f.Blocks.getD i default).Phis.all (Hn ((Yk (Ey f)).Pred.getD i []))) then _ else _)
          cases (f.Blocks.getD i default).Phis.all (Hn ((Yk (Ey f)).Pred.getD i [])) <;> cases KU (f.Blocks.getD i default).End <;> rfl
        exact ZF _ _ _ _ _ (fun i hi hp => by rw [hk i hi, hp]; rfl) (fun i hi hp => by rw [hk i hi, hp]; rfl) (by unfold Cm; simp)
      show ((Ai (Cm f l u (Yk (Ey f), 0) (B3 f)) (0 : Int)).bind _) = _
      rw [key, Aq]
      cases (List.range f.Blocks.length).all (fun i => KU (f.Blocks.getD i default).End && (f.Blocks.getD i default).Phis.all (Hn ((Fl (Ey f)).getD i []))) <;> rfl
theorem jq(o:D1)(l:Int)(h0:0<=l)(h2:l<=2)(hk:Jr o=true):Nh o l=some (!decide (LM l<o.Kind)&&!(decide (l<2)&&decide (1<o.Lanes))):=by
 have hl:=cr hk
 have hK:o.Kind<=22:=by
  simp only[Jr,A3]at hk;have:=hk.1.2.1.1.1;unfold cl at this;simp only[A3,Ds]at this;omega
 unfold Nh LM
 have:l=0\/l=1\/l=2:=by omega
 rcases this with rfl|rfl|rfl
 ·have ha:decide (o.Kind<=17) = !decide (17<o.Kind):=by rw[Mr];simp
  have hb:(o.Lanes==1) = !decide (1<o.Lanes):=by rw[Mr];simp;omega
  show some (bif decide (o.Kind<=17) then(o.Lanes==1) else false)=some (!decide (17<o.Kind)&&!(true&&decide (1<o.Lanes)))
  rw[ha,hb]
  cases decide (17<o.Kind)<;>cases decide (1<o.Lanes)<;>rfl
 ·have ha:decide (o.Kind<=20) = !decide (20<o.Kind):=by rw[Mr];simp
  have hb:(o.Lanes==1) = !decide (1<o.Lanes):=by rw[Mr];simp;omega
  show some (bif decide (o.Kind<=20) then(o.Lanes==1) else false)=some (!decide (20<o.Kind)&&!(true&&decide (1<o.Lanes)))
  rw[ha,hb]
  cases decide (20<o.Kind)<;>cases decide (1<o.Lanes)<;>rfl
 ·show some true=some (!decide (22<o.Kind)&&!(false&&decide (1<o.Lanes)))
  rw[Fo (by omega)]
  rfl
theorem YN(o:D1)(ho:bI o)(f:Ab)(l:Int)(h0:0<=l)(h2:l<=2)(t:List Int)(u:List A6):Fc o f l t u=some (Nl l o,f,l,t,u):=by
 unfold Fc Nl;rw[EA o ho,Aq]
 cases hk:Jr o with
 | false=>rfl
 | true=>
  rw[show(true==true)=true from rfl,Ae,jq o l h0 h2 hk,Aq,Ae,Hd]
theorem fl(b:An){f:Ab}(hf:OkF f)(hb:b∈f.Blocks)(l:Int)(h0:0<=l)(h2:l<=2)(t:List Int)(u:List A6):Hy b.Ops f l t u=some (b.Ops.all (Nl l),f,l,t,u):=by
 have hB:=hf.block b hb
 have key:∀ k i:Nat,i+k=b.Ops.length->Ai (Eu b.Ops) ((i:Int),f.Params,f.Ret,f.Blocks,l,t,u)=some (bif (b.Ops.drop i).all (Nl l) then .inl (f.Params,f.Ret,f.Blocks,l,t,u) else .inr (false,f,l,t,u)):=by
  intro k
  induction k with
  | zero=>
   intro i h
   obtain rfl:i=b.Ops.length:=by omega
   rw[Ah (x:=.inl (f.Params,f.Ret,f.Blocks,l,t,u)) (by unfold Eu;simp)]
   simp
  | succ k ih=>
   intro i h
   have hi:i<b.Ops.length:=by omega
   have hd:decide ((i:Int)<(b.Ops.length:Int))=true:=by simpa using hi
   have hdr:b.Ops.drop i=b.Ops.getD i default::b.Ops.drop (i+1):=by rw[Mq hi,Aa _ _ _ hi]
   have hx:=YN (b.Ops.getD i default) (kM hf hb (getD_mem hi)) f l h0 h2 t u;rw[hdr,Sb]
   cases ho:Nl l (b.Ops.getD i default) with
   | true=>
    rw[ho]at hx
    rw[Am (s':=(((i+1:Nat):Int),f.Params,f.Ret,f.Blocks,l,t,u)) (by
     unfold Eu;simp only[hd,Ae,Ar (Bb hi),Dp,hx,Aq,Fp,Ax,Cy hi (by have:=hB.ops;omega)]
     rfl),ih (i+1) (by omega),Hd]
   | false=>
    rw[ho]at hx
    rw[Ah (x:=.inr (false,f,l,t,u)) (by
     unfold Eu
     simp only[hd,Ae,Ar (Bb hi),Dp,hx,Aq,Ms])]
    rfl
 unfold Hy;rw[show(0:Int)=((0:Nat):Int) from rfl,key b.Ops.length 0 (by omega),Je,Aq]
 cases b.Ops.all (Nl l)<;>rfl
theorem cE(b:An)(h:b.Phis.length<9223372036854775808):He b.Phis=some (b.Phis.all λp=>Ek p.Bits):=by
 unfold He
 rw[jl b.Phis (default:Hs) (λp=>Ek p.Bits) (Fu b.Phis) (.inl ()) (.inr false) h (λi hi=>by
  unfold Fu L2
  have hd:decide ((i:Int)<(b.Phis.length:Int))=true:=by simpa using hi
  simp only[hd,Ae,Ar (Bb hi),Dp,Qc,Aq]
  cases Ek (b.Phis.getD i default).Bits<;>rfl) (by unfold Fu;simp),Aq]
 cases b.Phis.all λp=>Ek p.Bits<;>rfl
theorem cD(p:List Int)(h:p.length<9223372036854775808):J6 p=some (p.all Ek):=by
 unfold J6
 rw[jl p (0:Int) Ek (Hz p) (.inl ()) (.inr false) h (λi hi=>by
  unfold Hz
  have hd:decide ((i:Int)<(p.length:Int))=true:=by simpa using hi
  simp only[hd,Ae,Ar (Bb hi),Dp,Qc,Aq]
  cases Ek (p.getD i 0)<;>rfl) (by unfold Hz;simp),Aq]
 cases p.all Ek<;>rfl
theorem LA(b:An){f:Ab}(hf:OkF f)(hb:b∈f.Blocks)(l:Int)(h0:0<=l)(h2:l<=2)(t:List Int)(u:List A6):Ea b f l t u=some (Hw l b,f,l,t,u):=by
 unfold Ea Hw;rw[cE b (by have:=(hf.block b hb).phis;omega),Aq,fl b hf hb l h0 h2 t u]
 cases(b.Phis.all λp=>Ek p.Bits)<;>rfl
theorem fq{f:Ab}(hf:OkF f)(l:Int)(h0:0<=l)(h2:l<=2)(t:List Int)(u:List A6):Gc f l t u=some (bif Tx f l then 0 else 6,f,l,t,u):=by
 have key:∀ k i:Nat,i+k=f.Blocks.length->Ai (Dy f.Blocks) ((i:Int),f.Params,f.Ret,f.Blocks,l,t,u)=some (bif (f.Blocks.drop i).all (Hw l) then .inl (f.Params,f.Ret,f.Blocks,l,t,u) else .inr (false,f,l,t,u)):=by
  intro k
  induction k with
  | zero=>
   intro i h
   obtain rfl:i=f.Blocks.length:=by omega
   rw[Ah (x:=.inl (f.Params,f.Ret,f.Blocks,l,t,u)) (by unfold Dy;simp)]
   simp
  | succ k ih=>
   intro i h
   have hi:i<f.Blocks.length:=by omega
   have hd:decide ((i:Int)<(f.Blocks.length:Int))=true:=by simpa using hi
   have hdr:f.Blocks.drop i=f.Blocks.getD i default::f.Blocks.drop (i+1):=by rw[Mq hi,Aa _ _ _ hi]
   have hx:=LA (f.Blocks.getD i default) hf (getD_mem hi) l h0 h2 t u;rw[hdr,Sb]
   cases ho:Hw l (f.Blocks.getD i default) with
   | true=>
    rw[ho]at hx
    rw[Am (s':=(((i+1:Nat):Int),f.Params,f.Ret,f.Blocks,l,t,u)) (by
     unfold Dy;simp only[hd,Ae,Ar (Bb hi),Dp,hx,Aq,Fp,Ax,Cy hi (by have:=hf.blocks;omega)]
     rfl),ih (i+1) (by omega),Hd]
   | false=>
    rw[ho]at hx
    rw[Ah (x:=.inr (false,f,l,t,u)) (by
     unfold Dy
     simp only[hd,Ae,Ar (Bb hi),Dp,hx,Aq,Ms])]
    rfl
 have hall:Gb f.Blocks f l t u=some (f.Blocks.all (Hw l),f,l,t,u):=by
  unfold Gb;rw[show(0:Int)=((0:Nat):Int) from rfl,key f.Blocks.length 0 (by omega),Je,Aq]
  cases f.Blocks.all (Hw l)<;>rfl
 unfold Gc Tx Iv;rw[cD _ (by have:=hf.few;omega),Aq,hall,Qc]
 cases f.Params.all Ek<;>cases Ek f.Ret<;>cases f.Blocks.all (Hw l)<;>rfl
def ff(d:TDef):Hg:=bif decide (d.Block<0) then⟨0,-1⟩ else⟨d.Block,d.At⟩
def BW(d:TDef):Aj:=⟨d.Shape,ff d⟩
def dv(l:List TDef):List (Int×Aj):=l.map λd=>(d.V,BW d)
def GR(acc:List (Int×Aj))(v:Int):Bool:=(B1 acc v || decide (v<1)) || decide (1023<v)
def Gg:List (Int×Aj)->List TDef->Bool×List (Int×Aj)
 | acc,[]=>(true,acc)
 | acc,d::ds=>bif GR acc d.V then(false,acc) else Gg (Ex acc d.V (BW d)) ds
theorem Yq:∀(a b:List TDef) (acc:List (Int×Aj)),Gg acc (a++b)=bif (Gg acc a).1 then Gg (Gg acc a).2 b else Gg acc a
 | [],b,acc=>rfl
 | d::a,b,acc=>by
  rw[BH];simp only[Gg]
  cases GR acc d.V with
  | true=>rfl
  | false=>simp only[Ax];exact Yq a b _
theorem S8{V:Type}(k:Int):∀ l:List (Int×V),B1 l k=l.any λq=>k==q.1
 | []=>rfl
 | (a,b)::l=>by rw[List.any_cons,<- S8 k l];rfl
theorem Ur{V:Type}(k:Int)(v:V):∀{l:List (Int×V)},B1 l k=false->Ex l k v=l++[(k,v)]
 | [],_=>rfl
 | (a,b)::l,h=>by
  simp only[B1,Zp]at h;simp only[Ex,h.1,Ax,Ur k v h.2,BH]
theorem NP(v:Int)(s:Int×Int)(p:Hg)(f:Ab)(l:Int)(t:List Int)(vs:List (Int×Aj))(u:List A6) :
  Eb v s p f l t vs u=some (bif GR vs v then(false,f,l,t,u,vs) else(true,f,l,t,u,Ex vs v ⟨s,p⟩)):=by
 unfold Eb GR
 cases B1 vs v<;>cases decide (v<1)<;>cases decide (1023<v)<;>rfl
def iF(f:Ab)(l:Int)(t:List Int)(u:List A6)(r:Bool×List (Int×Aj)):(List Int×Int×List An×Int×List Int×List A6×List (Int×Aj)) ⊕ (Bool×Ab×Int×List Int×List A6×List (Int×Aj)):=
 bif r.1 then .inl (f.Params,f.Ret,f.Blocks,l,t,u,r.2) else .inr (false,f,l,t,u,r.2)
theorem ju(b:An)(h:b.Phis.length<9223372036854775808)(i:Nat)(f:Ab)(l:Int)(t:List Int)(u:List A6):∀(k j:Nat) (vs:List (Int×Aj)),j+k=b.Phis.length->
  Ai (Cv (i:Int) b) ((j:Int),f.Params,f.Ret,f.Blocks,l,t,u,vs)=some (iF f l t u (Gg vs ((List.range' j k).flatMap λ(k:Nat)=>[(⟨(b.Phis.getD k default).Dst,i,-1,((b.Phis.getD k default).Bits,1)⟩:TDef)]))):=by
 intro k
 induction k with
 | zero=>
  intro j vs hj
  obtain rfl:j=b.Phis.length:=by omega
  rw[Ah (x:=.inl (f.Params,f.Ret,f.Blocks,l,t,u,vs)) (by unfold Cv;simp)]
  rfl
 | succ k ih=>
  intro j vs hj
  have hi:j<b.Phis.length:=by omega
  have hd:decide ((j:Int)<(b.Phis.length:Int))=true:=by simpa using hi
  have hx:=NP (b.Phis.getD j default).Dst ((b.Phis.getD j default).Bits,1) (⟨(i:Int),-1⟩:Hg) f l t vs u
  have hat:ff (⟨(b.Phis.getD j default).Dst,i,-1,((b.Phis.getD j default).Bits,1)⟩:TDef)=⟨(i:Int),-1⟩:=by unfold ff;rw[Fo (by show ¬ (i:Int)<0;omega)];rfl
  rw[Ya,Oj,List.singleton_append];simp only[Gg]
  cases hb:GR vs (b.Phis.getD j default).Dst with
  | true=>
   rw[hb]at hx
   rw[Ah (x:=.inr (false,f,l,t,u,vs)) (by
    unfold Cv Dk;simp only[hd,Ae,Ar (Bb hi),Dp,Aq];rw[show(⟨f.Params,f.Ret,f.Blocks⟩:Ab)=f from rfl,hx]
    rfl)]
   rfl
  | false=>
   rw[hb]at hx
   rw[Am (s':=(((j+1:Nat):Int),f.Params,f.Ret,f.Blocks,l,t,u,Ex vs (b.Phis.getD j default).Dst ⟨((b.Phis.getD j default).Bits,1),⟨(i:Int),-1⟩⟩)) (by
    unfold Cv Dk;simp only[hd,Ae,Ar (Bb hi),Dp,Aq];rw[show(⟨f.Params,f.Ret,f.Blocks⟩:Ab)=f from rfl,hx,Cy hi h]
    rfl),ih (j+1) _ (by omega)]
   unfold BW;rw[hat]
   rfl
theorem lh{f0:Ab}(hf:OkF f0){b:An}(hb:b∈f0.Blocks)(i:Nat)(f:Ab)(l:Int)(t:List Int)(u:List A6):∀(k j:Nat) (vs:List (Int×Aj)),j+k=b.Ops.length->
  Ai (B0 (i:Int) b) ((j:Int),f.Params,f.Ret,f.Blocks,l,t,u,vs)=some (iF f l t u (Gg vs ((List.range' j k).flatMap λ(k:Nat)=>bif decide (0<(Ij (b.Ops.getD k default)).1) then[(⟨(b.Ops.getD k default).Dst,i,k,Ij (b.Ops.getD k default)⟩:TDef)] else[]))):=by
 have hB:=hf.block b hb;intro k
 induction k with
 | zero=>
  intro j vs hj
  obtain rfl:j=b.Ops.length:=by omega
  rw[Ah (x:=.inl (f.Params,f.Ret,f.Blocks,l,t,u,vs)) (by unfold B0;simp)]
  rfl
 | succ k ih=>
  intro j vs hj
  have hi:j<b.Ops.length:=by omega
  have hd:decide ((j:Int)<(b.Ops.length:Int))=true:=by simpa using hi
  have hg:K6 (b.Ops.getD j default)=some (Ij (b.Ops.getD j default)):=TC _ (kM hf hb (getD_mem hi));have hx:=NP (b.Ops.getD j default).Dst (Ij (b.Ops.getD j default)) (⟨(i:Int),(j:Int)⟩:Hg) f l t vs u
  have hat:ff (⟨(b.Ops.getD j default).Dst,i,j,Ij (b.Ops.getD j default)⟩:TDef)=⟨(i:Int),(j:Int)⟩:=by unfold ff;rw[Fo (by show ¬ (i:Int)<0;omega)];rfl
  rw[Ya,Oj]
  cases hp:decide (0<(Ij (b.Ops.getD j default)).1) with
  | false=>
   rw[Ax,T8,<- ih (j+1) vs (by omega),Am (s':=(((j+1:Nat):Int),f.Params,f.Ret,f.Blocks,l,t,u,vs)) (by
    unfold B0;simp only[hd,Ae,Ar (Bb hi),Dp,hg,Aq,hp];rw[Cy hi (by have:=hB.ops;omega)]
    rfl)]
  | true=>
   rw[Ae,List.singleton_append];simp only[Gg]
   cases hb:GR vs (b.Ops.getD j default).Dst with
   | true=>
    rw[hb]at hx
    rw[Ah (x:=.inr (false,f,l,t,u,vs)) (by
     unfold B0;simp only[hd,Ae,Ar (Bb hi),Dp,hg,Aq,hp];rw[show(true==true)=true from rfl,Ae,show(⟨f.Params,f.Ret,f.Blocks⟩:Ab)=f from rfl,hx]
     rfl)]
    rfl
   | false=>
    rw[hb]at hx
    rw[Am (s':=(((j+1:Nat):Int),f.Params,f.Ret,f.Blocks,l,t,u,Ex vs (b.Ops.getD j default).Dst ⟨Ij (b.Ops.getD j default),⟨(i:Int),(j:Int)⟩⟩)) (by
     unfold B0;simp only[hd,Ae,Ar (Bb hi),Dp,hg,Aq,hp];rw[show(true==true)=true from rfl,Ae,show(⟨f.Params,f.Ret,f.Blocks⟩:Ab)=f from rfl,hx,Cy hi (by have:=hB.ops;omega)]
     rfl),ih (j+1) _ (by omega)]
    unfold BW;rw[hat]
    rfl
theorem NQ{f:Ab}(hf:OkF f){b:An}(hb:b∈f.Blocks)(i:Nat)(l:Int)(t:List Int)(u:List A6)(vs:List (Int×Aj)) :
  Es (i:Int) b f l t vs u=some ((Gg vs (Me b i)).1,f,l,t,u,(Gg vs (Me b i)).2):=by
 unfold Es Me;rw[show(0:Int)=((0:Nat):Int) from rfl,ju b (by have:=(hf.block b hb).phis;omega) i f l t u b.Phis.length 0 vs (by omega),Aq,Yq];rw[show(List.range' 0 b.Phis.length).flatMap (λ(k:Nat)=>[(⟨(b.Phis.getD k default).Dst,i,-1,((b.Phis.getD k default).Bits,1)⟩:TDef)])=Ui b i by rw[Ui,Vt]];unfold iF
 cases h1:(Gg vs (Ui b i)).1 with
 | false=>simp only[Ax];rw[h1]
 | true=>
  simp only[Ae];rw[lh hf hb i f l t u b.Ops.length 0 _ (by omega),Aq];rw[show(List.range' 0 b.Ops.length).flatMap (λ(k:Nat)=>bif decide (0<(Ij (b.Ops.getD k default)).1) then[(⟨(b.Ops.getD k default).Dst,i,k,Ij (b.Ops.getD k default)⟩:TDef)] else[])=DN b i by rw[DN,Vt]];unfold iF;cases h2:(Gg (Gg vs (Ui b i)).2 (DN b i)).1<;>rfl
theorem Ut{l:List TDef}{i:Nat}(hi:i<l.length):Ld l i=true↔valS (l.getD i default).V=true/\∀ j,j<i->(l.getD j default).V≠(l.getD i default).V:=by
 unfold Ld;rw[A3];refine and_congr Iff.rfl ?_;unfold Ir
 cases hx:l.findIdx? (λd=>d.V==(l.getD i default).V) with
 | none=>
  rw[List.findIdx?_eq_none_iff]at hx;have:=hx _ (getD_mem (d:=default) hi);simp at this
 | some j=>
  obtain⟨hj,h1,h2⟩:=List.findIdx?_eq_some_iff_getElem.1 hx;simp only[zzL74,Int.natCast_inj]
  constructor
  ·rintro rfl k hk he;have:=h2 k hk;rw[Aa _ _ _ (by omega:k<l.length)]at he;simp at this;exact this he
  ·intro h
   have hv:(l.getD j default).V=(l.getD i default).V:=by rw[Aa _ _ _ hj];simpa using h1
   rcases Nat.lt_trichotomy j i with hlt|rfl|hgt
   ·exact absurd hv (h j hlt)
   ·rfl
   ·have:=h2 i hgt;rw[<- Aa l i default hi]at this;simp at this
theorem gj(l:List TDef)(v:Int):B1 (dv l) v=l.any λd=>v==d.V:=by
 rw[S8,dv,List.any_map];rfl
theorem DM:∀(ds pre:List TDef),(Gg (dv pre) ds).1=(List.range' pre.length ds.length).all (Ld (pre++ds))/\((Gg (dv pre) ds).1=true->(Gg (dv pre) ds).2=dv (pre++ds))
 | [],pre=>by simp[Gg]
 | d::ds,pre=>by
  have hi:pre.length<(pre++d::ds).length:=by simp
  have hg:(pre++d::ds).getD pre.length default=d:=by simp[List.getD]
  have hj:∀ j,j<pre.length->(pre++d::ds).getD j default=pre.getD j default:=λj h=>by simp[List.getD,Qe h]
  have hok:Ld (pre++d::ds) pre.length = !GR (dv pre) d.V:=by
   rw[Mr,Ut hi,hg];unfold GR valS;rw[gj];simp only[Pe,Zp,JV,List.any_eq_false,zzL74,A3,Ds]
   constructor
   ·rintro⟨⟨h1,h2⟩,h3⟩;refine⟨⟨λx hx he=>?_,by omega⟩,by omega⟩;obtain⟨j,hjl,rfl⟩:=Ls hx;have:=h3 j hjl;rw[hj j hjl,Aa _ _ _ hjl]at this;exact this he.symm
   ·rintro⟨⟨h1,h2⟩,h3⟩;refine⟨⟨by omega,by omega⟩,λj hjl he=>?_⟩;rw[hj j hjl,Aa _ _ _ hjl]at he;exact h1 _ (Yb hjl) he.symm
  rw[Pf,Ya,Sb,hok];simp only[Gg]
  cases hb:GR (dv pre) d.V with
  | true=>exact⟨rfl,λh=>by cases h⟩
  | false=>
   have hn:B1 (dv pre) d.V=false:=by
    unfold GR at hb;simp only[Zp]at hb;exact hb.1.1
   have hs:Ex (dv pre) d.V (BW d)=dv (pre++[d]):=by rw[Ur _ _ hn,dv,dv,Zs];rfl
   have:=DM ds (pre++[d]);rw[Fg,Oi,List.singleton_append]at this;rw[Ax,hs,Ms,Hd];exact this
def pv(f:Ab)(n:Nat):List (Int×Aj):=(List.range n).map λ(j:Nat)=>((j:Int)+1,⟨(f.Params.getD j 0,1),⟨0,-1⟩⟩)
theorem lz(f:Ab):pv f f.Params.length=dv (Lp f):=by
 unfold pv dv Lp;rw[List.map_flatMap]
 induction List.range f.Params.length with
 | nil=>rfl
 | cons a l ih=>rw[Bu,Oj,ih];rfl
theorem cJ{f:Ab}(hf:OkF f):∀(k i:Nat),i+k=f.Params.length->Ai (Ec f) ((i:Int),pv f i)=some (pv f f.Params.length):=by
 intro k
 induction k with
 | zero=>
  intro i h
  obtain rfl:i=f.Params.length:=by omega
  exact Ah (by unfold Ec;simp)
 | succ k ih=>
  intro i h
  have hi:i<f.Params.length:=by omega
  have hd:decide ((i:Int)<(f.Params.length:Int))=true:=by simpa using hi
  have hn:B1 (pv f i) ((i:Int)+1)=false:=by
   rw[S8,pv,List.any_map,List.any_eq_false];intro j hj;have:=zzL41.1 hj
   simp;omega
  have hs:Ex (pv f i) ((i:Int)+1) ⟨(f.Params.getD i 0,1),⟨0,-1⟩⟩=pv f (i+1):=by
   rw[Ur _ _ hn,pv,pv,Zt,Zs];rfl
  rw[Am (s':=(((i+1:Nat):Int),pv f (i+1))) (by
   unfold Ec Dk;simp only[hd,Ae,Ar (Bb hi),Dp,Aq,Cy hi (by have:=hf.few;omega),hs]
   rfl)]
  exact ih (i+1) (by omega)
theorem cF{f:Ab}(hf:OkF f)(l:Int)(t:List Int)(u:List A6):∀(k i:Nat) (vs:List (Int×Aj)),i+k=f.Blocks.length->
  Ai (Dj f) ((i:Int),vs,f.Params,f.Ret,f.Blocks,l,t,u)=some (bif (Gg vs ((List.range' i k).flatMap λi=>Me (f.Blocks.getD i default) i)).1 then .inl ((Gg vs ((List.range' i k).flatMap λi=>Me (f.Blocks.getD i default) i)).2,f.Params,f.Ret,f.Blocks,l,t,u) else
   .inr (7,f,l,t,u,(Gg vs ((List.range' i k).flatMap λi=>Me (f.Blocks.getD i default) i)).2)):=by
 intro k
 induction k with
 | zero=>
  intro i vs h
  obtain rfl:i=f.Blocks.length:=by omega
  rw[Ah (x:=.inl (vs,f.Params,f.Ret,f.Blocks,l,t,u)) (by unfold Dj;simp)]
  rfl
 | succ k ih=>
  intro i vs h
  have hi:i<f.Blocks.length:=by omega
  have hd:decide ((i:Int)<(f.Blocks.length:Int))=true:=by simpa using hi
  have hx:=NQ hf (getD_mem (d:=default) hi) i l t u vs;rw[Ya,Oj,Yq]
  cases hb:(Gg vs (Me (f.Blocks.getD i default) i)).1 with
  | false=>
   rw[hb]at hx
   rw[Ah (x:=.inr (7,f,l,t,u,(Gg vs (Me (f.Blocks.getD i default) i)).2)) (by
    unfold Dj;simp only[hd,Ae,Ar (Bb hi),Dp];rw[show(⟨f.Params,f.Ret,f.Blocks⟩:Ab)=f from rfl,hx]
    rfl),Ax,hb]
   rfl
  | true=>
   rw[hb]at hx
   rw[Am (s':=(((i+1:Nat):Int),(Gg vs (Me (f.Blocks.getD i default) i)).2,f.Params,f.Ret,f.Blocks,l,t,u)) (by
    unfold Dj;simp only[hd,Ae,Ar (Bb hi),Dp];rw[show(⟨f.Params,f.Ret,f.Blocks⟩:Ab)=f from rfl,hx,Cy hi (by have:=hf.blocks;omega)]
    rfl),ih (i+1) _ (by omega),Ae]
theorem oY{f:Ab}(hf:OkF f):∀ i,i<f.Params.length->Ld (Au f) i=true:=λi hi=>by
 have hl:=IA f
 have hg:∀ j,j<f.Params.length->(Au f).getD j default=⟨(j:Int)+1,-1,0,(f.Params.getD j 0,1)⟩:=λj hj=>by
  have e:Lp f=(List.range f.Params.length).map λ(i:Nat)=>(⟨(i:Int)+1,-1,0,(f.Params.getD i 0,1)⟩:TDef):=by
   unfold Lp
   induction List.range f.Params.length with
   | nil=>rfl
   | cons a l ih=>rw[Bu,Oj,ih];rfl
  rw[Au,List.getD,Qe (by omega),e];simp[hj]
 have hle:i<(Au f).length:=by rw[Au,Fg];omega
 rw[Ut hle,hg i hi];refine⟨?_,λj hj=>?_⟩
 ·have:=hf.few;simp only[valS,A3,Ds];omega
 ·rw[hg j (by omega)];simp only;omega
theorem YM{f:Ab}(hf:OkF f)(l:Int)(t:List Int)(u:List A6):∃ vs,Fa f l t u=some (bif (List.range (Au f).length).all (Ld (Au f)) then 0 else 7,f,l,t,u,vs)/\((List.range (Au f).length).all (Ld (Au f))=true->vs=dv (Au f)):=by
 have hsp:=DM ((List.range f.Blocks.length).flatMap λi=>Me (f.Blocks.getD i default) i) (Lp f)
 have hall:(List.range (Au f).length).all (Ld (Au f))=(Gg (dv (Lp f)) ((List.range f.Blocks.length).flatMap λi=>Me (f.Blocks.getD i default) i)).1:=by
  rw[hsp.1]
  show(List.range (Au f).length).all (Ld (Au f))=(List.range' (Lp f).length _).all (Ld (Au f))
  have hs:List.range (Au f).length=List.range (Lp f).length++List.range' (Lp f).length ((List.range f.Blocks.length).flatMap λi=>Me (f.Blocks.getD i default) i).length:=by
   rw[Vt,Vt,Au,Fg];have:=List.range'_append_1 (s:=0) (m:=(Lp f).length) (n:=((List.range f.Blocks.length).flatMap λi=>Me (f.Blocks.getD i default) i).length);rw[Fh]at this;exact this.symm
  rw[hs,List.all_append];have:(List.range (Lp f).length).all (Ld (Au f))=true:=zzL28.2 λi hi=>oY hf i (by rw[<- IA f];exact zzL41.1 hi);rw[this,Hd]
 unfold Fa;have hp:=cJ hf f.Params.length 0 (by omega);have e0:pv f 0=[]:=rfl;rw[e0,show(((0:Nat):Int))=0 from rfl]at hp;rw[hp,Aq,lz];have hb:=cF hf l t u f.Blocks.length 0 (dv (Lp f)) (by omega);rw[show(((0:Nat):Int))=0 from rfl,<- Vt]at hb;rw[hb,Aq,hall];refine⟨(Gg (dv (Lp f)) ((List.range f.Blocks.length).flatMap λi=>Me (f.Blocks.getD i default) i)).2,?_,hsp.2⟩
 cases(Gg (dv (Lp f)) ((List.range f.Blocks.length).flatMap λi=>Me (f.Blocks.getD i default) i)).1<;>rfl
theorem Uq{β S X:Type}(B:Nat)(mk:Int->List β->S)(out:List β->X)(n:Nat)(E:Nat->List β)(f:S->Option (LR S X))(hn:∀(acc:List β) (i:Nat),i<n->(acc++E i).length<=B->f (mk i acc)=some (.next (mk ((i:Int)+1) (acc++E i))))
  (hd:∀ acc:List β,f (mk n acc)=some (.done (out acc))):∀(k i:Nat) (acc:List β),i+k=n->(acc++(List.range' i k).flatMap E).length<=B->Ai f (mk i acc)=some (out (acc++(List.range' i k).flatMap E))
 | 0,i,acc,h,_=>by
  obtain rfl:i=n:=by omega
  rw[Ah (hd acc)]
  simp
 | k+1,i,acc,h,hB=>by
  have hi:i<n:=by omega
  rw[Ya,Oj,<- Oi]at hB ⊢;rw[Am (hn acc i hi (by rw[Fg]at hB;omega)),show((i:Int)+1)=((i+1:Nat):Int) by omega,Uq B mk out n E f hn hd k (i+1) _ (by omega) hB]
theorem OX{β γ:Type}(h:β->γ)(n:Nat)(g:Nat->β):(List.range' 0 n).flatMap (λj=>[h (g j)])=((List.range n).flatMap λj=>[g j]).map h:=by
 rw[List.map_flatMap,Vt];rfl
theorem EI{β γ:Type}(h:β->γ)(n:Nat)(g:Nat->List β):(List.range' 0 n).flatMap (λj=>(g j).map h)=((List.range n).flatMap g).map h:=by
 rw[List.map_flatMap,Vt]
def Lh(f:Ab)(b:Int):Int:=((f.Blocks.getD b.toNat default).Ops.length:Int)
def D3(f:Ab)(u:Nf):A6:=⟨u.V,u.Shape,⟨u.Block,bif u.At==1000 then Lh f u.Block else u.At⟩⟩
theorem VW(f:Ab)(l:Int)(t:List Int)(vs:List (Int×Aj))(v:Int)(s:Int×Int)(p:Hg)(u:List A6)(h:(u++[(⟨v,s,p⟩:A6)]).length<=10000000):Dr v s p f l t vs u=some (f,l,t,u++[⟨v,s,p⟩]):=by
 unfold Dr;rw[Ad (by rw[Fg]at h;rw[iJ];omega)]
theorem cH(f:Ab)(l:Int)(t:List Int)(vs:List (Int×Aj))(b:Int)(hb:Bx b f.Blocks.length)(u:List A6):Em b f l t vs u=some (⟨b,Lh f b⟩,f,l,t,u):=by
 unfold Em;rw[Ad hb];rfl
section
variable {f:Ab} (hf:OkF f) (l:Int) (t:List Int) (vs:List (Int×Aj))
include hf
theorem jt(i k:Nat)(hi:i<f.Blocks.length)(hk:k<(f.Blocks.getD i default).Phis.length)(hfit:((f.Blocks.getD i default).Phis.getD k default).Args.length<=((f.Blocks.getD i default).Phis.getD k default).From.length)
  (hin:∀ x∈((f.Blocks.getD i default).Phis.getD k default).From,Bx x f.Blocks.length) (u:List A6) (hB:(u++(Ll ((f.Blocks.getD i default).Phis.getD k default)).map (D3 f)).length<=10000000) :
  Ai (De f vs (i:Int) (k:Int)) ((0:Int),f.Params,f.Ret,f.Blocks,l,t,u)=some (f.Params,f.Ret,f.Blocks,l,t,u++(Ll ((f.Blocks.getD i default).Phis.getD k default)).map (D3 f)):=by
 have hlen:=dT hf (getD_mem (d:=(default:An)) hi) (getD_mem (d:=(default:Hs)) hk)
 generalize hp:(f.Blocks.getD i default).Phis.getD k default=p at *
 have e:=OX (D3 f) p.Args.length λ(j:Nat)=>(⟨p.Args.getD j 0,p.From.getD j 0,1000,(p.Bits,1)⟩:Nf)
 have:=Uq 10000000 (λj u=>(j,f.Params,f.Ret,f.Blocks,l,t,u)) (λu=>(f.Params,f.Ret,f.Blocks,l,t,u)) p.Args.length (λ(j:Nat)=>[D3 f ⟨p.Args.getD j 0,p.From.getD j 0,1000,(p.Bits,1)⟩]) (De f vs (i:Int) (k:Int)) (λacc j hj hacc=>by
  unfold De Dk
  have hd:decide ((j:Int)<(p.Args.length:Int))=true:=by simpa using hj
  have hjf:j<p.From.length:=by omega
  simp only[Dp,hp,hd,Ae,Ar (Bb hj),Aq,Ar (Bb hjf)];rw[show(⟨f.Params,f.Ret,f.Blocks⟩:Ab)=f from rfl,cH f l t vs _ (hin _ (getD_mem hjf)),Aq];simp only;have eu:D3 f ⟨p.Args.getD j 0,p.From.getD j 0,1000,(p.Bits,1)⟩=⟨p.Args.getD j 0,(p.Bits,1),⟨p.From.getD j 0,Lh f (p.From.getD j 0)⟩⟩:=rfl;rw[eu]at hacc ⊢
  rw[VW f l t vs _ _ _ acc hacc,Aq,Cy hj (by omega)]) (λacc=>by unfold De;simp only[Dp,hp,show decide ((p.Args.length:Int)<(p.Args.length:Int))=false by simp,Ax]) p.Args.length 0 u (by omega) (by rw[e];exact hB)
 rw[e]at this;exact this
theorem fp(i:Nat)(hi:i<f.Blocks.length)(hfit:∀ p∈(f.Blocks.getD i default).Phis,p.Args.length<=p.From.length/\∀ x∈p.From,Bx x f.Blocks.length)(u:List A6)(hB:(u++(Ru (f.Blocks.getD i default)).map (D3 f)).length<=10000000) :
  Ai (Df f vs (i:Int)) ((0:Int),f.Params,f.Ret,f.Blocks,l,t,u)=some (f.Params,f.Ret,f.Blocks,l,t,u++(Ru (f.Blocks.getD i default)).map (D3 f)):=by
 have hBk:=hf.block _ (getD_mem (d:=(default:An)) hi);have e:=EI (D3 f) (f.Blocks.getD i default).Phis.length λ(k:Nat)=>Ll ((f.Blocks.getD i default).Phis.getD k default)
 have:=Uq 10000000 (λj u=>(j,f.Params,f.Ret,f.Blocks,l,t,u)) (λu=>(f.Params,f.Ret,f.Blocks,l,t,u)) (f.Blocks.getD i default).Phis.length (λ(k:Nat)=>(Ll ((f.Blocks.getD i default).Phis.getD k default)).map (D3 f)) (Df f vs (i:Int)) (λacc k hk hacc=>by
  have hq:=hfit _ (getD_mem (d:=(default:Hs)) hk);have h1:=jt hf l t vs i k hi hk hq.1 hq.2 acc hacc;unfold Df
  have hd:decide ((k:Int)<((f.Blocks.getD i default).Phis.length:Int))=true:=by simpa using hk
  simp only[Dp,hd,Ae,Ar (Bb hk),h1,Aq,Cy hk (by have:=hBk.phis;omega)]) (λacc=>by unfold Df;simp) (f.Blocks.getD i default).Phis.length 0 u (by omega) (by rw[e];exact hB)
 rw[e]at this;exact this
theorem lg(i k:Nat)(hi:i<f.Blocks.length)(hk:k<(f.Blocks.getD i default).Ops.length)(u:List A6)(hB:(u++(Nq ((f.Blocks.getD i default).Ops.getD k default) i k).map (D3 f)).length<=10000000) :
  Ai (Dg f vs (i:Int) (k:Int) (Ga ((f.Blocks.getD i default).Ops.getD k default))) ((0:Int),f.Params,f.Ret,f.Blocks,l,t,u)=some (f.Params,f.Ret,f.Blocks,l,t,u++(Nq ((f.Blocks.getD i default).Ops.getD k default) i k).map (D3 f)):=by
 have hBk:=hf.block _ (getD_mem (d:=(default:An)) hi);have hlen:=FU (jJ hf (getD_mem (d:=(default:An)) hi) (getD_mem (d:=(default:D1)) hk));have hk512:=hBk.ops
 generalize hp:(f.Blocks.getD i default).Ops.getD k default=o at *
 have e:=OX (D3 f) (Ga o).length λ(j:Nat)=>(⟨o.Args.getD j 0,i,k,(Ga o).getD j (0,0)⟩:Nf)
 have:=Uq 10000000 (λj u=>(j,f.Params,f.Ret,f.Blocks,l,t,u)) (λu=>(f.Params,f.Ret,f.Blocks,l,t,u)) (Ga o).length (λ(j:Nat)=>[D3 f ⟨o.Args.getD j 0,i,k,(Ga o).getD j (0,0)⟩]) (Dg f vs (i:Int) (k:Int) (Ga o)) (λacc j hj hacc=>by
  have hkk:((k:Int)==1000)=false:=by simp;omega
  have eu:D3 f ⟨o.Args.getD j 0,i,k,(Ga o).getD j (0,0)⟩=⟨o.Args.getD j 0,(Ga o).getD j (0,0),⟨(i:Int),(k:Int)⟩⟩:=by unfold D3;simp only[hkk,Ax]
  rw[eu]at hacc ⊢;unfold Dg
  have hd:decide ((j:Int)<((Ga o).length:Int))=true:=by simpa using hj
  have hja:j<o.Args.length:=by omega
  simp only[Dp,hp,hd,Ae,Ar (Bb hj),Ar (Bb hja)]
  rw[show(⟨f.Params,f.Ret,f.Blocks⟩:Ab)=f from rfl,VW f l t vs _ _ _ acc hacc,Aq,Cy hj (by omega)]) (λacc=>by unfold Dg;simp) (Ga o).length 0 u (by omega) (by rw[e];exact hB)
 rw[e]at this;exact this
theorem js(i:Nat)(hi:i<f.Blocks.length)(u:List A6)(hB:(u++(Zk (f.Blocks.getD i default) i).map (D3 f)).length<=10000000) :
  Ai (Dh f vs (i:Int)) ((0:Int),f.Params,f.Ret,f.Blocks,l,t,u)=some (f.Params,f.Ret,f.Blocks,l,t,u++(Zk (f.Blocks.getD i default) i).map (D3 f)):=by
 have hmem:=getD_mem (d:=(default:An)) hi;have hBk:=hf.block _ hmem;have e:=EI (D3 f) (f.Blocks.getD i default).Ops.length λ(k:Nat)=>Nq ((f.Blocks.getD i default).Ops.getD k default) i k
 have:=Uq 10000000 (λj u=>(j,f.Params,f.Ret,f.Blocks,l,t,u)) (λu=>(f.Params,f.Ret,f.Blocks,l,t,u)) (f.Blocks.getD i default).Ops.length (λ(k:Nat)=>(Nq ((f.Blocks.getD i default).Ops.getD k default) i k).map (D3 f)) (Dh f vs (i:Int)) (λacc k hk hacc=>by
  have h1:=lg hf l t vs i k hi hk acc hacc;have ht:K7 ((f.Blocks.getD i default).Ops.getD k default)=some (Ga ((f.Blocks.getD i default).Ops.getD k default)):=TE _ (kM hf hmem (getD_mem hk));unfold Dh
  have hd:decide ((k:Int)<((f.Blocks.getD i default).Ops.length:Int))=true:=by simpa using hk
  simp only[Dp,hd,Ae,Ar (Bb hk),ht,h1,Aq,Cy hk (by have:=hBk.ops;omega)]) (λacc=>by unfold Dh;simp) (f.Blocks.getD i default).Ops.length 0 u (by omega) (by rw[e];exact hB)
 rw[e]at this;exact this
theorem YK (hfit : ∀ b ∈ f.Blocks, ∀ p ∈ b.Phis, p.Args.length ≤ p.From.length ∧ ∀ x ∈ p.From, Bx x f.Blocks.length) : E9 f l t vs [] = some (f, l, t, (Ep f).map (D3 f)) := by
  have e := EI (D3 f) f.Blocks.length fun (i : Nat) => BC f (f.Blocks.getD i default) i; have hul := JQ hf
  have := Uq 10000000 (fun j u => (j, f.Params, f.Ret, f.Blocks, l, t, u)) (fun u => (f.Params, f.Ret, f.Blocks, l, t, u)) f.Blocks.length (fun (i : Nat) => (BC f (f.Blocks.getD i default) i).map (D3 f)) (Di f vs) (fun acc i hi hacc => by
    have hmem := getD_mem (d := (default : An)) hi; unfold BC at hacc ⊢; rw [Zs, Zs, ← Oi, ← Oi] at hacc ⊢; have l1 := hacc; simp only [Fg, Qg] at l1; have h1 := fp hf l t vs i hi (hfit _ hmem) acc (by simp only [Fg, Qg]; omega); have h2 := js hf l t vs i hi (acc ++ (Ru (f.Blocks.getD i default)).map (D3 f)) (by simp only [Fg, Qg]; omega); have hinb : Bx (i : Int) f.Blocks.length := Bb hi; unfold Di Dk
    have hd : decide ((i : Int) < (f.Blocks.length : Int)) = true := by simpa using hi
    simp only [hd, Ae, Ar (Bb hi), h1, Aq, h2, Dp]; have hF : (⟨f.Params, f.Ret, f.Blocks⟩ : Ab) = f := rfl; have hw : Bh ((i : Int) + 1) = (i : Int) + 1 := Cy hi (by have := hf.blocks; omega); unfold Uz at hacc ⊢
    cases hz : ((f.Blocks.getD i default).End.Kind == 0) with
    | true =>
      have hz2 : ((f.Blocks.getD i default).End.Kind == 2) = false := by have : (f.Blocks.getD i default).End.Kind = 0 := by simpa using hz
                                                                         rw [this]; rfl
      rw [hz, hz2] at hacc; simp only [Ae, Ax, hz2, List.append_nil, Bu, Ce] at hacc ⊢; rw [hF, cH f l t vs _ hinb, Aq]; simp only; rw [VW f l t vs _ _ _ _ (show (_ ++ [(⟨_, _, ⟨(i : Int), Lh f (i : Int)⟩⟩ : A6)]).length ≤ 10000000 from hacc), Aq, Aq, hw]
      rfl
    | false =>
      rw [hz] at hacc
      cases hz2 : ((f.Blocks.getD i default).End.Kind == 2) with
      | true =>
        rw [hz2] at hacc; simp only [Ae, Ax, T8, Bu, Ce] at hacc ⊢; rw [hF, cH f l t vs _ hinb, Aq]; simp only; rw [VW f l t vs _ _ _ _ (show (_ ++ [(⟨_, _, ⟨(i : Int), Lh f (i : Int)⟩⟩ : A6)]).length ≤ 10000000 from hacc), Aq, Aq, hw]
        rfl
      | false =>
        simp only [Ax, T8, Ce, List.append_nil, Aq, hw]) (fun acc => by unfold Di; simp) f.Blocks.length 0 [] (by omega) (by rw [e]; simpa [Ep] using (by omega : (Ep f).length ≤ 10000000))
  rw [e, T8] at this; unfold E9; rw [show (0 : Int) = ((0 : Nat) : Int) from rfl]
  show ((Ai (Di f vs) (((0 : Nat) : Int), f.Params, f.Ret, f.Blocks, l, t, [])).bind _) = _
  rw [this, Aq]
  rfl
end
theorem fc{σ X:Type}(mk:Int->σ)(U:List A6)(p:A6->Bool)(f:σ->Option (LR σ X))(yes no:X)(hk:∀ i:Nat,i<U.length->f (mk i)=some (bif p (U.getD i default) then .next (mk ((i:Int)+1)) else .done no))(he:f (mk U.length)=some (.done yes)) :
  ∀ k i:Nat,i+k=U.length->Ai f (mk i)=some (bif (U.drop i).all p then yes else no)
 | 0,i,h=>by
  obtain rfl:i=U.length:=by omega
  rw[Ah he]
  simp
 | k+1,i,h=>by
  have hi:i<U.length:=by omega
  have hdr:U.drop i=U.getD i default::U.drop (i+1):=by rw[Mq hi,Aa _ _ _ hi]
  have hx:=hk i hi;rw[hdr,Sb]
  cases hp:p (U.getD i default) with
  | true=>
   rw[hp]at hx;rw[Am hx,show((i:Int)+1)=((i+1:Nat):Int) by omega,fc mk U p f yes no hk he k (i+1) (by omega),Hd]
  | false=>
   rw[hp]at hx;rw[Ah hx]
   rfl
theorem DS(d:TDef)(l:List TDef)(v:Int):Ir (d::l) v=bif d.V==v then 0 else bif decide (Ir l v<0) then -1 else Ir l v+1:=by
 unfold Ir;rw[List.findIdx?_cons]
 cases d.V==v with
 | true=>rfl
 | false=>
  cases l.findIdx? (λd=>d.V==v) with
  | none=>rfl
  | some i=>
   simp only[Ax,Wq];rw[Fo (by omega)]
   simp
theorem EK(v:Int):∀ l:List TDef,B1 (dv l) v = !decide (Ir l v<0)
 | []=>rfl
 | d::l=>by
  rw[DS]
  show((v==d.V) || B1 (dv l) v)=_
  rw[EK v l,show(v==d.V)=(d.V==v) by rw[Mr];simp;exact Oh]
  cases d.V==v with
  | true=>rfl
  | false=>
   by_cases h:Ir l v<0
   ·simp[h]
   ·simp[h];omega
theorem Wf(v:Int):∀ l:List TDef,¬ Ir l v<0->mget (default:Aj) (dv l) v=BW (defOf l v)
 | [],h=>absurd (show(-1:Int)<0 by decide) h
 | d::l,h=>by
  unfold defOf;rw[DS]at h ⊢
  show(bif v==d.V then BW d else mget default (dv l) v)=_
  rw[show(v==d.V)=(d.V==v) by rw[Mr];simp;exact Oh]
  cases hb:d.V==v with
  | true=>rfl
  | false=>
   rw[hb]at h
   by_cases hn:Ir l v<0
   ·simp[hn]at h
   ·have hz:decide (Ir l v<0)=false:=Fo hn;simp only[Ax,hz];rw[Wf v l hn,show(Ir l v+1).toNat=(Ir l v).toNat+1 by omega]
    rfl
def bH(f:Ab)(d:TDef):Prop:=d.Block = -1\/(Bx d.Block f.Blocks.length/\d.At<Lh f d.Block/\d.At<1000)
def im(f:Ab)(u:Nf):Prop:=Bx u.Block f.Blocks.length/\0<=u.At
theorem f5{f:Ab}(hf:OkF f):∀ d∈Au f,bH f d:=λd hd=>by
 rcases zzL11.1 hd with h|h
 ·obtain⟨i,_,hi⟩:=zzL67.1 h;rw[zzL15.1 hi];exact .inl rfl
 ·obtain⟨i,hi,h⟩:=zzL67.1 h
  have hi:i<f.Blocks.length:=by simpa using hi
  have hB:=hf.block _ (getD_mem (d:=(default:An)) hi);have ho:Lh f (i:Int)=((f.Blocks.getD i default).Ops.length:Int):=rfl;rcases zzL11.1 h with h|h
  ·obtain⟨k,hk,h⟩:=zzL67.1 h;rw[zzL15.1 h];refine .inr ⟨Bb hi,?_,?_⟩
   ·show(-1:Int)<Lh f (i:Int);rw[ho];omega
   ·show(-1:Int)<1000;omega
  ·obtain⟨k,hk,h⟩:=zzL67.1 h
   have hk:k<(f.Blocks.getD i default).Ops.length:=by simpa using hk
   cases hg:decide (0<(Ij ((f.Blocks.getD i default).Ops.getD k default)).1) with
   | false=>rw[hg]at h;cases h
   | true=>
    rw[hg]at h;rw[zzL15.1 h];refine .inr ⟨Bb hi,?_,?_⟩
    ·show(k:Int)<Lh f (i:Int);rw[ho];omega
    ·show(k:Int)<1000;have:=hB.ops;omega
theorem iS{f:Ab}(hfit:∀ b∈f.Blocks,∀ p∈b.Phis,p.Args.length<=p.From.length/\∀ x∈p.From,Bx x f.Blocks.length):∀ u∈Ep f,im f u:=λu hu=>by
 obtain⟨i,hi,h⟩:=zzL67.1 hu
 have hi:i<f.Blocks.length:=by simpa using hi
 have hmem:=getD_mem (d:=(default:An)) hi;rcases zzL11.1 h with h|h
 ·rcases zzL11.1 h with h|h
  ·obtain⟨k,hk,h⟩:=zzL67.1 h
   have hk:k<(f.Blocks.getD i default).Phis.length:=by simpa using hk
   obtain⟨j,hj,h⟩:=zzL67.1 h;have hj:=zzL41.1 hj;have hq:=hfit _ hmem _ (getD_mem (d:=(default:Hs)) hk);rw[zzL15.1 h];exact⟨hq.2 _ (getD_mem (by omega)),by show(0:Int)<=1000;omega⟩
  ·obtain⟨k,hk,h⟩:=zzL67.1 h;obtain⟨j,hj,h⟩:=zzL67.1 h;rw[zzL15.1 h];exact⟨Bb hi,by show(0:Int)<=(k:Int);omega⟩
 ·unfold Uz at h
  have:u=⟨(f.Blocks.getD i default).End.Arg,i,1000,(f.Ret,1)⟩\/u=⟨(f.Blocks.getD i default).End.Arg,i,1000,(1,1)⟩:=by
   rcases zzL11.1 h with h|h
   ·cases hz:((f.Blocks.getD i default).End.Kind==0) with
    | true=>rw[hz]at h;exact .inl (zzL15.1 h)
    | false=>rw[hz]at h;cases h
   ·cases hz:((f.Blocks.getD i default).End.Kind==2) with
    | true=>rw[hz]at h;exact .inr (zzL15.1 h)
    | false=>rw[hz]at h;cases h
  rcases this with rfl|rfl<;>exact⟨Bb hi,by show(0:Int)<=1000;omega⟩
theorem j7{f:Ab}(h:Gh f=true):∀ b∈f.Blocks,∀ p∈b.Phis,p.Args.length<=p.From.length/\∀ x∈p.From,Bx x f.Blocks.length:=λb hb p hp=>by
 have hs:Od f=true:=by simp only[Gh,A3]at h;exact h.1
 refine⟨ah h b hb p hp,λx hx=>?_⟩;obtain⟨i,hi,rfl⟩:=Ls hb;simp only[Gh,A3]at h;have h1:=bi h.2 i hi;simp only[Qo,A3,zzL28]at h1;rw[Aa _ _ _ hi]at h1;have h2:=h1.2 p hp;simp only[Hn,A3,Ds]at h2;rw[h2.1]at hx;obtain⟨q,rfl,hq,_⟩:=(Xw (L:=Ey f) (Tk hs) (y:=i) (by rw[X0];exact hi)).1 hx;exact Bb (by rw[X0]at hq;exact hq)
theorem TQ{f:Ab}(h:Gh f=true){b:Int}(hb:Bx b f.Blocks.length):N8 (B3 f) 0 b=true:=by
 have hs:Od f=true:=by simp only[Gh,A3]at h;exact h.1
 have hm:=Tk hs;have hlen:=X0 f
 have hpos:0<(Ey f).length:=by have:=(shape_iff.1 hs).1.1;omega
 obtain⟨P,hP,o,ht⟩:=aj hm hpos
 have e:B3 f=X5 (Ey f) 0:=by
  unfold B3 QQ;rw[if_pos ⟨OY hm,Int.le_refl _,by show(0:Int)<((Ey f).length:Int);omega⟩]
  rfl
 obtain⟨k,rfl⟩:∃ k:Nat,b=(k:Int):=⟨b.toNat,(Vu hb.1).symm⟩
 have hk:k<f.Blocks.length:=by have:=hb.2;omega
 simp only[Gh,A3]at h;have h1:=bi h.2 k hk;simp only[Qo,A3]at h1;have hr:Rch (sN (Ey f)) 0 k:=(Xx (Vo hm) hpos k).1 h1.1.1;rw[e];refine(ht.over_dom o hpos (by omega)).2 ⟨rc_iff.2 hr,λha=>?_⟩;exact(av_iff.1 ha).1 rfl
theorem Sy{l:List Nf}{g:Nf->A6}{p:A6->Bool}{q:Nf->Bool}(h:∀ u∈l,p (g u)=q u):(l.map g).all p=l.all q:=by
 induction l with
 | nil=>rfl
 | cons a l ih=>rw[Bu,Sb,Sb,h a (by simp),ih λu hu=>h u (by simp[hu])]
def f7(vs:List (Int×Aj))(u:A6):Bool:=((mget (default:Aj) vs u.v).shape.1==u.shape.1)&&(((mget (default:Aj) vs u.v).shape.2==u.shape.2)&&true)
def V5(vs:List (Int×Aj))(t:List Int)(u:A6):Bool:=bif (mget (default:Aj) vs u.v).place.block==u.place.block then decide ((mget (default:Aj) vs u.v).place.at_<u.place.at_) else N8 t (mget (default:Aj) vs u.v).place.block u.place.block
theorem bh{f:Ab}(hs:Gh f=true){D:List TDef}(hD:∀ d∈D,bH f d){u:Nf}(hu:im f u)(hfd:Lg D u=true):V5 (dv D) (B3 f) (D3 f u)=Vj D (B3 f) u:=by
 have hF:¬ Ir D u.V<0:=by simpa [Lg] using hfd
 have hin:=OD hF;have hd:bH f (defOf D u.V):=hD _ (by unfold defOf;exact getD_mem (by have:=hin.1;have:=hin.2;omega));have hg:mget (default:Aj) (dv D) (D3 f u).v=BW (defOf D u.V):=Wf u.V D hF;unfold V5 Vj;rw[hg]
 generalize defOf D u.V=d at *
 have hub:=hu.1.1
 have hul:0<=Lh f u.Block:=by unfold Lh;omega
 have hat:∀ a:Int,a<0\/(a<Lh f u.Block/\a<1000)->decide (a<(D3 f u).place.at_)=decide (a<u.At)\/a<0:=λa ha=>by
  rcases ha with ha|ha
  ·exact .inr ha
  ·refine .inl ?_
   show decide (a<bif u.At==1000 then Lh f u.Block else u.At)=_
   by_cases h:u.At=1000
   ·rw[h];simp only[show((1000:Int)==1000)=true from rfl,Ae];rw[E7 ha.1,E7 ha.2]
   ·have:(u.At==1000)=false:=by simpa using h
    rw[this];rfl
 have hpos:0<=(D3 f u).place.at_:=by
  show 0<=bif u.At==1000 then Lh f u.Block else u.At
  cases u.At==1000
  ·exact hu.2
  ·exact hul
 have hblk:(D3 f u).place.block=u.Block:=rfl;rw[hblk];rcases hd with hd|⟨hd1,hd2,hd3⟩
 ·have e:(BW d).place=⟨0,-1⟩:=by show ff d=_;unfold ff;rw[hd];rfl
  rw[e,hd,E7 (show(-1:Int)<0 by decide)]
  show(bif (0:Int)==u.Block then decide ((-1:Int)<(D3 f u).place.at_) else N8 (B3 f) 0 u.Block)=_
  rw[Bool.true_or,Bool.true_or,TQ hs hu.1,E7 (show(-1:Int)<(D3 f u).place.at_ by omega)]
  cases(0:Int)==u.Block<;>rfl
 ·have hn:¬ d.Block<0:=by have:=hd1.1;omega
  have e:(BW d).place=⟨d.Block,d.At⟩:=by show ff d=_;unfold ff;rw[Fo hn];rfl
  rw[e,Fo hn,Zu]
  show(bif d.Block==u.Block then decide (d.At<(D3 f u).place.at_) else N8 (B3 f) d.Block u.Block)=_
  cases hb:d.Block==u.Block with
  | true=>
   have hbe:d.Block=u.Block:=by simpa using hb
   simp only[Ae,Hd,Fp,T3,Bool.or_false];rcases hat d.At (.inr ⟨by rw[<- hbe];exact hd2,hd3⟩) with h|h
   ·exact h
   ·rw[E7 (by omega),E7 (by have:=hu.2;omega)]
  | false=>
   simp only[Ax,T3,Zu,Ms,Hd];unfold N8
   by_cases hm:Mj (B3 f) d.Block u.Block=d.Block
   ·rw[hm]
    have:(d.Block !=-2)=true:=by simp;omega
    simp[this]
   ·have:(Mj (B3 f) d.Block u.Block==d.Block)=false:=by simpa using hm
    simp[this,bne]
section
variable {f:Ab} (l:Int) (vs:List (Int×Aj))
def bD(f:Ab)(l:Int)(U:List A6)(i:Int):Int×List Int×Int×List An×Int×List Int×List A6:=(i,f.Params,f.Ret,f.Blocks,l,B3 f,U)
def MY(f:Ab)(l:Int)(U:List A6):List Int×Int×List An×Int×List Int×List A6:=(f.Params,f.Ret,f.Blocks,l,B3 f,U)
theorem ft(U:List A6)(hU:U.length<9223372036854775808):Ai (C8 vs (f,l,B3 f,U)) (bD f l U 0)=some (bif U.all (λu=>B1 vs u.v) then .inl (MY f l U) else .inr (MY f l U)):=by
 have:=fc (bD f l U) U (λu=>B1 vs u.v) (C8 vs (f,l,B3 f,U)) (.inl (MY f l U)) (.inr (MY f l U)) (λi hi=>by
  unfold C8 bD Hl
  have hd:decide ((i:Int)<(U.length:Int))=true:=by simpa using hi
  simp only[hd,Ae,Ar (Bb hi),Dp,Aq,Cy hi hU]
  cases B1 vs (U.getD i default).v<;>rfl) (by unfold C8 bD;simp;rfl) U.length 0 (by omega)
 rw[Je]at this;exact this
theorem fu(U:List A6)(hU:U.length<9223372036854775808):Ai (C9 vs U) (bD f l U 0)=some (bif U.all (f7 vs) then .inl (MY f l U) else .inr (MY f l U)):=by
 have:=fc (bD f l U) U (f7 vs) (C9 vs U) (.inl (MY f l U)) (.inr (MY f l U)) (λi hi=>by
  unfold C9 bD Iu
  have hd:decide ((i:Int)<(U.length:Int))=true:=by simpa using hi
  simp only[hd,Ae,Ar (Bb hi),Dp,Aq,Cy hi hU];unfold f7
  cases(((mget (default:Aj) vs (U.getD i default).v).shape.1==(U.getD i default).shape.1)&&(((mget (default:Aj) vs (U.getD i default).v).shape.2==(U.getD i default).shape.2)&&true))<;>rfl) (by unfold C9 bD;simp;rfl) U.length 0 (by omega)
 rw[Je]at this;exact this
theorem fw(htl:(B3 f).length<=1000)(U:List A6)(hU:U.length<9223372036854775808):Ai (Da vs U) (bD f l U 0)=some (bif U.all (V5 vs (B3 f)) then .inl (MY f l U) else .inr (MY f l U)):=by
 have:=fc (bD f l U) U (V5 vs (B3 f)) (Da vs U) (.inl (MY f l U)) (.inr (MY f l U)) (λi hi=>by
  have hx:Fb (U.getD i default) f l (B3 f) vs U=some (V5 vs (B3 f) (U.getD i default),f,l,B3 f,U):=by
   unfold Fb V5;rw[kB htl]
   cases(mget (default:Aj) vs (U.getD i default).v).place.block==(U.getD i default).place.block<;>rfl
  unfold Da bD
  have hd:decide ((i:Int)<(U.length:Int))=true:=by simpa using hi
  simp only[hd,Ae,Ar (Bb hi),Dp];rw[show(⟨f.Params,f.Ret,f.Blocks⟩:Ab)=f from rfl,hx,Aq,Cy hi hU]
  cases V5 vs (B3 f) (U.getD i default)<;>rfl) (by unfold Da bD;simp;rfl) U.length 0 (by omega)
 rw[Je]at this;exact this
end
def FX(f:Ab):Int:=bif !(Ep f).all (Lg (Au f)) then 7 else bif !(Ep f).all (Xn (Au f)) then 6 else bif !(Ep f).all (Vj (Au f) (B3 f)) then 7 else 0
theorem j0{f:Ab}(hf:OkF f)(hs:Gh f=true)(l:Int):∃ U,Gw f l (B3 f) (dv (Au f)) []=some (FX f,f,l,B3 f,U):=by
 have hfit:=j7 hs;have hul:=JQ hf
 have hsB:Od f=true:=by simp only[Gh,A3]at hs;exact hs.1
 refine⟨(Ep f).map (D3 f),?_⟩
 have hU:((Ep f).map (D3 f)).length<9223372036854775808:=by rw[Qg];omega
 have h1:=ft (f:=f) l (dv (Au f)) _ hU;have h2:=fu (f:=f) l (dv (Au f)) _ hU;have h3:=fw (f:=f) l (dv (Au f)) (eE hsB) _ hU;rw[Sy (q:=Lg (Au f)) (λu _=>EK u.V _)]at h1;unfold Gw FX Pu;rw[YK hf l (B3 f) (dv (Au f)) hfit,Aq];simp only;rw[show(Ai (C8 (dv (Au f)) (f,l,B3 f,(Ep f).map (D3 f))) ((0:Int),f.Params,f.Ret,f.Blocks,l,B3 f,(Ep f).map (D3 f)))=_ from h1,Aq];have fin:∀ e:Int,Ai Kk (e,f.Params,f.Ret,f.Blocks,l,B3 f,(Ep f).map (D3 f))=some (e,f,l,B3 f,(Ep f).map (D3 f)):=λe=>Ah rfl
 cases hfd:(Ep f).all (Lg (Au f)) with
 | false=>simp only[Ax,Ms,Ae,MY,Aq,fin]
 | true=>
  have hmf:=zzL28.1 hfd
  rw[Sy (q:=Xn (Au f)) (λu hu=>by
   have:=hmf u hu;simp only[Lg,Pe,JV]at this;have hg:mget (default:Aj) (dv (Au f)) (D3 f u).v=BW (defOf (Au f) u.V):=Wf u.V _ this;unfold f7 Xn
   rw[hg];rfl)]at h2
  rw[Sy (q:=Vj (Au f) (B3 f)) (λu hu=>bh hs (f5 hf) (iS hfit u hu) (hmf u hu))]at h3;simp only[Ae,Fp,Ax,MY];rw[show(Ai (C9 (dv (Au f)) ((Ep f).map (D3 f))) ((0:Int),f.Params,f.Ret,f.Blocks,l,B3 f,(Ep f).map (D3 f)))=_ from h2,Aq]
  cases(Ep f).all (Xn (Au f)) with
  | false=>simp only[Ax,Ms,Ae,MY,Aq,fin]
  | true=>
   simp only[Ae,Fp,Ax,MY];rw[show(Ai (Da (dv (Au f)) ((Ep f).map (D3 f))) ((0:Int),f.Params,f.Ret,f.Blocks,l,B3 f,(Ep f).map (D3 f)))=_ from h3,Aq]
   cases(Ep f).all (Vj (Au f) (B3 f)) with
   | false=>simp only[Ax,Ms,Ae,MY,Aq,fin]
   | true=>simp only[Ae,Fp,Ax,MY,Aq]
theorem fx{f:Ab}(h:Sm f)(l:Int)(h0:0<=l)(h2:l<=2):∃ t u vs,Ge f l [] []=some (G7 f l,f,l,t,u,vs)/\(G7 f l=0->vs=dv (Au f)):=by
 have hc:G7 f l=bif !U5 f then 4 else MN f l:=by
  unfold G7;rw[Fo (by omega),Fo (by omega)];rfl
 rw[hc];unfold Ge;rw[jz f h.1,Aq]
 cases hm:U5 f with
 | false=>exact⟨[],[],[],rfl,λh=>by cases h⟩
 | true=>
  have hf:=mI h hm;simp only[Ae,Fp,Ax,show((0:Int)!=0)=false from rfl,MN];obtain⟨t',hsh,hst⟩:=cL hf l [] [];rw[hsh,Aq]
  cases hs:Gh f with
  | false=>exact⟨t',[],[],rfl,λh=>by cases h⟩
  | true=>
   obtain rfl:=hst hs;simp only[Ae,Fp,Ax,show((0:Int)!=0)=false from rfl];rw[fq hf l h0 h2,Aq]
   cases Tx f l with
   | false=>exact⟨B3 f,[],[],rfl,λh=>by cases h⟩
   | true=>
    simp only[Ae,Fp,Ax,show((0:Int)!=0)=false from rfl];obtain⟨vs,hd,hv⟩:=YM hf l (B3 f) [];rw[hd,Aq]
    cases hdd:(List.range (Au f).length).all (Ld (Au f)) with
    | false=>exact⟨B3 f,[],vs,rfl,λh=>by cases h⟩
    | true=>
     obtain rfl:=hv hdd;simp only[Ae,Fp,Ax,show((0:Int)!=0)=false from rfl];obtain⟨U,hu⟩:=j0 hf hs l;rw[hu,Aq];refine⟨B3 f,U,dv (Au f),?_,λ_=>rfl⟩
     show(bif FX f !=0 then some (FX f,f,l,B3 f,U,dv (Au f)) else some (0,f,l,B3 f,U,dv (Au f)))=some (FX f,f,l,B3 f,U,dv (Au f))
     cases hz:FX f !=0 with
     | true=>rfl
     | false=>
      have:FX f=0:=by simpa using hz
      rw[this];rfl
def lone(e:Ju)(b r:Int):Ab:=⟨[b],r,[⟨[],[],e⟩]⟩
theorem oZ{α:Type}(l:List α):(l.map λ_=>1).sum=l.length:=by induction l with|nil=>rfl|cons a l ih=>simp[ih];omega
def iL(l:List TDef):List (Int×(Int×Int)):=l.map λd=>(d.V,d.Shape)
theorem V9{f:Ab}(h:(List.range (Au f).length).all (Ld (Au f))=true):((Au f).map (·.V)).Nodup:=by
 rw[List.nodup_iff_pairwise_ne,List.pairwise_map,zzL100];intro i j hi hj hij he;have:=((Ut hj).1 (bi h j hj)).2 i hij;rw[Aa _ _ _ hi,Aa _ _ _ hj]at this;exact this he
theorem FR{x1:Int×Ab×Int×List Int×List A6×List (Int×Aj)}(D:List TDef)(hx:x1.2.2.2.2.2=dv D)(hn:(D.map (·.V)).Nodup):∀(τ:List Nat) (acc:List (Int×(Int×Int))),τ.Nodup->(∀ i∈τ,i<D.length)->(∀ i∈τ,B1 acc (D.getD i default).V=false)->
  Tl (Gu x1) Im τ acc=some (acc++τ.map λi=>((D.getD i default).V,(D.getD i default).Shape))
 | [],acc,_,_,_=>by simp[Tl,Im]
 | i::τ,acc,hd,hin,hf=>by
  have hi:=hin i (by simp)
  have hg:(dv D).getD i ((0:Int),(default:Aj))=((D.getD i default).V,BW (D.getD i default)):=by
   unfold dv;simp[List.getD,hi]
  have hm:=Ur (D.getD i default).V (D.getD i default).Shape (hf i (by simp))
  have hstep:Gu x1 i acc=some (.next (acc++[((D.getD i default).V,(D.getD i default).Shape)])):=by
   unfold Gu;rw[hx,hg]
   show some (LR.next (Ex acc (D.getD i default).V ((D.getD i default).Shape.1,(D.getD i default).Shape.2)))=_
   rw[show((D.getD i default).Shape.1,(D.getD i default).Shape.2)=(D.getD i default).Shape from rfl,hm]
  unfold Tl;rw[hstep]
  show Tl _ _ τ _=_
  rw[FR D hx hn τ _ (zzL76.1 hd).2 (λj hj=>hin j (by simp[hj])) (λj hj=>?_),Bu,Oi]
  ·rfl
  ·have h1:=hf j (by simp[hj]);rw[S8]at h1 ⊢;rw[List.any_append,h1,Zu];have hj':=hin j (by simp[hj]);have hne:j≠i:=λe=>(zzL76.1 hd).1 (e▸hj)
   have:(D.getD j default).V≠(D.getD i default).V:=λe=>by
    rw[List.nodup_iff_pairwise_ne,List.pairwise_map,zzL100]at hn;rw[Aa _ _ _ hi,Aa _ _ _ hj']at e;rcases Nat.lt_or_gt_of_ne hne with h|h
    ·exact hn j i hj' hi h e
    ·exact hn i j hi hj' h e.symm
   simpa using this
theorem NR(f:Ab)(h:Sm f):∃ s,K2 f=some s/\bV f s:=by
 obtain⟨t,u,vs,hw,hv⟩:=fx h 2 (by omega) (by omega);unfold K2;rw[hw,Aq]
 cases hc:(G7 f 2 !=0) with
 | true=>
  have hne:G7 f 2≠0:=by simpa using hc
  exact⟨[],rfl,λ_=>rfl,λe=>absurd e hne,λe=>absurd e hne,λe=>absurd e hne⟩
 | false=>
  have h0:G7 f 2=0:=by simpa using hc
  obtain rfl:=hv h0;have hz:=(V7 (f:=f) (l:=2) (by omega) (by omega)).1 h0
  have hall:(List.range (Au f).length).all (Ld (Au f))=true:=by
   have:=hz.2.2.2;unfold JJ at this
   cases hb:(List.range (Au f).length).all (Ld (Au f)) with
   | true=>rfl
   | false=>rw[hb]at this;cases this
  have hn:=V9 hall
  have hlen:(mapE (λ(v_:Aj)=>((.agg (Qs v_)):AV)) (dv (Au f))).length=(Au f).length:=by simp[mapE,dv]
  have hkeys:((iL (Au f)).map (·.1)).Nodup:=by
   have:(iL (Au f)).map (·.1)=(Au f).map (·.V):=by unfold iL;rw[List.map_map];rfl
   rw[this];exact hn
  have hrun:∀ τ:List Nat,τ.Perm (List.range (mapE (λ(v_:Aj)=>((.agg (Qs v_)):AV)) (dv (Au f))).length)->∃ x',Tl (Gu (G7 f 2,f,2,t,u,dv (Au f))) Im τ ([]:List (Int×(Int×Int)))=some x'/\JE x' (iL (Au f)):=λτ hτ=>by
   rw[hlen]at hτ;have hr:=FR (x1:=(G7 f 2,f,2,t,u,dv (Au f))) (Au f) rfl hn τ [] (hτ.nodup_iff.2 List.nodup_range) (λi hi=>zzL41.1 (hτ.mem_iff.1 hi)) (λ_ _=>rfl);refine⟨_,hr,?_,hkeys⟩;rw[T8];have:=hτ.map λi=>(((Au f).getD i default).V,((Au f).getD i default).Shape);refine this.trans ?_
   have e:(List.range (Au f).length).map (λi=>(((Au f).getD i default).V,((Au f).getD i default).Shape))=iL (Au f):=by
    unfold iL
    apply Wp
    ·simp
    ·intro i h1 h2;simp only[Qg,BE]at h1;simp only[List.getElem_map,List.getElem_range,Aa _ _ _ h1]
   rw[e]
  obtain⟨s,hs⟩:=ZU ⟨iL (Au f),hrun⟩
  have hp:s.Perm (iL (Au f))/\(s.map (·.1)).Nodup:=by
   have hsp:=AW hs (List.range _) (List.Perm.refl _);obtain⟨x',h1,h2⟩:=hsp;obtain⟨x2,h3,h4⟩:=hrun (List.range _) (List.Perm.refl _);rw[h1]at h3;obtain rfl:=OI h3;exact⟨h2.1.symm.trans h4.1,h2.2⟩
  refine⟨s,?_,λhne=>absurd h0 hne,λ_=>?_,λ_ d hd=>?_,λ_ v hv=>?_⟩
  ·show(Wh JE _ _ _ _).bind _=_
   rw[hs];rfl
  ·rw[hp.1.length_eq];simp[iL]
  ·have hm:(d.V,d.Shape)∈s:=hp.1.mem_iff.2 (zzL24.2 ⟨d,hd,rfl⟩);exact EJ hp.2 hm
  ·rw[S8,List.any_eq_true]at hv;obtain⟨q,hq,he⟩:=hv;obtain⟨d,hd,rfl⟩:=zzL24.1 (hp.1.mem_iff.1 hq);exact⟨d,hd,by simpa using(by simpa using he:v=d.V).symm⟩
abbrev bA(f:Ab)(i:Nat):An:=f.Blocks.getD i default
def oH(f:Ab)(i:Nat)(k:Nat):Int:=(bA f i).End.To.getD k 0
structure Rt(f:Ab):Prop where
 lo:1<=f.Blocks.length
 hi:f.Blocks.length<=64
 to:∀ i,i<f.Blocks.length->∀ k,k<(bA f i).End.To.length->0<oH f i k/\oH f i k<f.Blocks.length
 one:∀ i,i<f.Blocks.length->(bA f i).End.Kind=1->(bA f i).End.To.length=1
 two:∀ i,i<f.Blocks.length->(bA f i).End.Kind=2->(bA f i).End.To.length=2
 may:L5 (Ey f)=true
 ok:OkF f
set_option maxRecDepth 100000
def oO(f:Ab)(d:TDef)(b a:Int):Prop:=d.Block<0\/(d.Block=b/\d.At<a)\/(d.Block≠b/\N8 (B3 f) d.Block b=true)
theorem ST{l:List TDef}(hn:(l.map (·.V)).Nodup){d:TDef}(hd:d∈l):0<=Ir l d.V/\defOf l d.V=d:=by
 obtain⟨i,hi,rfl⟩:=Ls hd
 have hx:∃ k,l.findIdx? (λe=>e.V==l[i].V)=some k:=by
  cases h:l.findIdx? (λe=>e.V==l[i].V) with
  | some k=>exact⟨k,rfl⟩
  | none=>
   have:=List.findIdx?_eq_none_iff.1 h _ (Yb hi);simp at this
 obtain⟨k,hk⟩:=hx;obtain⟨hk1,hk2,_⟩:=List.findIdx?_eq_some_iff_getElem.1 hk
 have e:k=i:=by
  have h1:(l.map (·.V))[k]'(by simpa using hk1)=(l.map (·.V))[i]'(by simpa using hi):=by simpa using hk2
  exact(List.getElem_inj hn).1 h1
 subst e;unfold defOf Ir;rw[hk];refine⟨by simp,?_⟩
 show l.getD ((k:Int)).toNat default=l[k]
 rw[Aw,Aa _ _ _ hi]
structure mj(f:Ab)(l:Int):Prop where
 may:U5 f=true
 shape:Gh f=true
 typed:Tx f l=true
 rest:JJ f=0
theorem iG{f:Ab}{l:Int}(hl:0<=l/\l<=2):G7 f l=0↔mj f l:=
 ⟨λh=>by obtain⟨a,b,c,d⟩:=(V7 hl.1 hl.2).1 h;exact⟨a,b,c,d⟩,λh=>(V7 hl.1 hl.2).2 ⟨h.1,h.2,h.3,h.4⟩⟩
section
variable {f:Ab} {l:Int} (R:mj f l)
include R
theorem dr{b:An}(hb:b∈f.Blocks){o:D1}(ho:o∈b.Ops):Nl l o=true:=by
 have h:=R.typed;simp only[Tx,Hw,A3,zzL28]at h;exact(h.1.2 b hb).2 o ho
theorem jN{b:An}(hb:b∈f.Blocks){o:D1}(ho:o∈b.Ops):Jr o=true:=by
 have:=dr R hb ho;unfold Nl at this;simp only[A3]at this;exact this.1.1
theorem CR:(List.range (Au f).length).all (Ld (Au f))=true/\(∀ u∈Ep f,Lg (Au f) u=true)/\(∀ u∈Ep f,Xn (Au f) u=true)/\∀ u∈Ep f,Vj (Au f) (B3 f) u=true:=by
 have h:=R.rest;unfold JJ at h
 cases h1:(List.range _).all _ with
 | false=>rw[h1]at h;cases h
 | true=>grind
theorem dq{d e:TDef}(hd:d∈Au f)(he:e∈Au f)(hv:d.V=e.V):d=e:=by
 have hn:=V9 (CR R).1;have h1:=(ST hn hd).2;rw[hv,(ST hn he).2]at h1;exact h1.symm
theorem kT{d:TDef}(hd:d∈Au f):valS d.V=true:=by
 obtain⟨i,hi,rfl⟩:=Ls hd;have:=((Ut hi).1 (bi (CR R).1 i hi)).1;rw[Aa _ _ _ hi]at this;exact this
theorem kS{u:Nf}(hu:u∈Ep f):∃ d∈Au f,d.V=u.V/\d.Shape=u.Shape/\oO f d u.Block u.At:=by
 obtain⟨_,h2,h3,h4⟩:=CR R;have hf:=h2 u hu;have hfit:=h3 u hu;have hdom:=h4 u hu;unfold Lg at hf
 have hneg:¬ Ir (Au f) u.V<0:=by simpa using hf
 have hin:=OD hneg;have hmem:defOf (Au f) u.V∈Au f:=getD_mem (by have:=hin.1;have:=hin.2;omega)
 have hV:(defOf (Au f) u.V).V=u.V:=by
  unfold defOf;unfold Ir at hneg ⊢
  cases hx:(Au f).findIdx? (λd=>d.V==u.V) with
  | none=>rw[hx]at hneg;exact absurd (by decide) hneg
  | some i=>
   obtain⟨hi,hp,_⟩:=List.findIdx?_eq_some_iff_getElem.1 hx
   show((Au f).getD ((i:Int)).toNat default).V=_
   rw[Aw,Aa _ _ _ hi]
   simpa using hp
 refine⟨_,hmem,hV,?_,?_⟩
 ·unfold Xn at hfit;simp only[A3,zzL74]at hfit;exact Prod.ext hfit.1 hfit.2.1
 ·unfold Vj at hdom;simp only[Vv,A3,Ds,zzL74,Pe,zzL23]at hdom;rcases hdom with(h|h)|⟨h,h'⟩
  ·exact .inl h
  ·exact .inr (.inl h)
  ·by_cases hb:(defOf (Au f) u.V).Block<0
   ·exact .inl hb
   ·refine .inr (.inr ⟨h,?_⟩);rw[bne_eq_false_iff_eq]at h';unfold N8;rw[h',A3];exact⟨by simp,by rw[zzL93];omega⟩
end
theorem ri_def{f:Ab}{d:TDef}:d∈Au f↔(∃ i,i<f.Params.length/\d=⟨(i:Int)+1,-1,0,(f.Params.getD i 0,1)⟩) \/
  ∃ i,i<f.Blocks.length/\((∃ k,k<(bA f i).Phis.length/\d=⟨((bA f i).Phis.getD k default).Dst,i,-1,(((bA f i).Phis.getD k default).Bits,1)⟩) \/
   ∃ k,k<(bA f i).Ops.length/\0<(Ij ((bA f i).Ops.getD k default)).1/\d=⟨((bA f i).Ops.getD k default).Dst,i,k,Ij ((bA f i).Ops.getD k default)⟩):=by
 unfold Au Lp Me Ui DN;simp only[zzL11,zzL67,zzL41,zzL15]
 constructor
 ·rintro(h|⟨i,hi,⟨k,hk,h⟩|⟨k,hk,h⟩⟩)
  ·exact .inl h
  ·exact .inr ⟨i,hi,.inl ⟨k,hk,h⟩⟩
  ·refine .inr ⟨i,hi,.inr ⟨k,hk,?_⟩⟩
   cases hg:decide (0<(Ij ((f.Blocks.getD i default).Ops.getD k default)).1) with
   | true=>rw[hg]at h;exact⟨X9 hg,zzL15.1 h⟩
   | false=>rw[hg]at h;cases h
 ·rintro(h|⟨i,hi,⟨k,hk,h⟩|⟨k,hk,hg,h⟩⟩)
  ·exact .inl h
  ·exact .inr ⟨i,hi,.inl ⟨k,hk,h⟩⟩
  ·exact .inr ⟨i,hi,.inr ⟨k,hk,by rw[E7 hg];exact zzL15.2 h⟩⟩
theorem JO{o:D1}(hm:Jr o=true):(Ga o).length=o.Args.length/\∀ j,j<o.Args.length->(Ga o).getD j (0,0)=ID o j:=by
 obtain⟨_,_,_,_,hn,_,_⟩:=CL hm
 have ht:Ga o=Of o:=by unfold Ga;rw[hm];rfl
 have htl:(Of o).length=o.Args.length:=by unfold Of;rw[Qg,BE];omega
 refine⟨by rw[ht,htl],λj hj=>?_⟩;rw[ht];unfold Of;rw[Qz (by omega)]
theorem iH {f : Ab} (hk : ∀ b ∈ f.Blocks, ∀ o ∈ b.Ops, Jr o = true) {u : Nf} : u ∈ Ep f ↔ ∃ i, i < f.Blocks.length ∧
    ((∃ k j, k < (bA f i).Phis.length ∧ j < ((bA f i).Phis.getD k default).Args.length ∧ u = ⟨((bA f i).Phis.getD k default).Args.getD j 0, ((bA f i).Phis.getD k default).From.getD j 0, 1000, (((bA f i).Phis.getD k default).Bits, 1)⟩) ∨
     (∃ k j, k < (bA f i).Ops.length ∧ j < ((bA f i).Ops.getD k default).Args.length ∧ u = ⟨((bA f i).Ops.getD k default).Args.getD j 0, i, k, ID ((bA f i).Ops.getD k default) j⟩) ∨
     ((bA f i).End.Kind = 0 ∧ u = ⟨(bA f i).End.Arg, i, 1000, (f.Ret, 1)⟩) ∨ ((bA f i).End.Kind = 2 ∧ u = ⟨(bA f i).End.Arg, i, 1000, (1, 1)⟩)) := by
  unfold Ep BC Ru Ll Zk Nq Uz; simp only [zzL11, zzL67, zzL41, zzL15]
  have hE : ∀ (k c : Int) (x : Nf), u ∈ (bif k == c then [x] else []) ↔ (k = c ∧ u = x) := fun k c x => by
    by_cases h : k = c
    · rw [zzL74.2 h]; simp [h]
    · rw [zzL23.2 h]; simp [h]
  simp only [hE]
  constructor
  · rintro ⟨i, hi, (⟨k, hk', j, hj, h⟩ | ⟨k, hk', j, hj, h⟩) | h⟩
    · exact ⟨i, hi, .inl ⟨k, j, hk', hj, h⟩⟩
    · obtain ⟨e1, e2⟩ := JO (hk _ (getD_mem (d := default) hi) _ (getD_mem (d := default) hk')); rw [e1] at hj; rw [e2 j hj] at h; exact ⟨i, hi, .inr (.inl ⟨k, j, hk', hj, h⟩)⟩
    · exact ⟨i, hi, .inr (.inr h)⟩
  · rintro ⟨i, hi, ⟨k, j, hk', hj, h⟩ | ⟨k, j, hk', hj, h⟩ | h⟩
    · exact ⟨i, hi, .inl (.inl ⟨k, hk', j, hj, h⟩)⟩
    · obtain ⟨e1, e2⟩ := JO (hk _ (getD_mem (d := default) hi) _ (getD_mem (d := default) hk')); exact ⟨i, hi, .inl (.inr ⟨k, hk', j, by rw [e1]; exact hj, by rw [e2 j hj]; exact h⟩)⟩
    · exact ⟨i, hi, .inr h⟩
def Lx:List Ag->Int->Int
 | [],_=>0
 | t::r,v=>bif t.V==v then t.Scale else Lx r v
def C6:Int->List Ag->Bool
 | _,[]=>true
 | lo,t::r=>(decide (lo<t.V)&&decide (t.V<=1023)&&!(t.Scale==0))&&C6 t.V r
def Jz(g:Int->Int):Nat->Nat->List Ag
 | _,0=>[]
 | a,n+1=>bif g (a:Int)==0 then Jz g (a+1) n else⟨(a:Int),g (a:Int)⟩::Jz g (a+1) n
def ky(g:Int->Int):List Ag:=Jz g 1 1023
theorem Wi{g h:Int->Int}:∀{n a:Nat},(∀ v:Int,(a:Int)<=v->g v=h v)->Jz g a n=Jz h a n
 | 0,_,_=>rfl
 | n+1,a,e=>by
  unfold Jz;rw[e a (Int.le_refl _),Wi (n:=n) (a:=a+1) λv hv=>e v (by omega)]
theorem Qq:∀{l:List Ag} {lo v:Int},C6 lo l=true->v<=lo->Lx l v=0
 | [],_,_,_,_=>rfl
 | t::r,lo,v,h,hv=>by
  simp only[C6,A3,Ds]at h;unfold Lx;rw[show(t.V==v)=false from zzL23.2 (by omega),Ax];exact Qq h.2 (by omega)
theorem Tj:∀(n a:Nat) {l:List Ag},a+n=1024->C6 ((a:Int)-1) l=true->Jz (Lx l) a n=l
 | 0,a,[],_,_=>rfl
 | 0,a,t::r,h,hm=>by
  simp only[C6,A3,Ds]at hm;omega
 | n+1,a,[],h,_=>by
  unfold Jz;rw[show(Lx [] (a:Int)==0)=true from rfl,Ae];exact Tj n (a+1) (by omega) rfl
 | n+1,a,t::r,h,hm=>by
  have hm':=hm;simp only[C6,A3,Ds,Pe,zzL23]at hm;obtain⟨⟨⟨h1,h2⟩,h3⟩,h4⟩:=hm;unfold Jz
  by_cases e:t.V=a
  ·have e1:Lx (t::r) (a:Int)=t.Scale:=by unfold Lx;rw[e];simp
   rw[e1,show(t.Scale==0)=false from zzL23.2 h3,Ax];rw[e]at h4
   have e2:Jz (Lx (t::r)) (a+1) n=Jz (Lx r) (a+1) n:=Wi λv hv=>by
    unfold Lx;rw[show(t.V==v)=false from zzL23.2 (by omega),Ax]
    cases r<;>rfl
   rw[e2,Tj n (a+1) (by omega) (by rw[show(((a+1:Nat):Int)-1)=a by omega];exact h4),<- e]
  ·have e1:Lx (t::r) (a:Int)=0:=by
    unfold Lx;rw[show(t.V==(a:Int))=false from zzL23.2 e,Ax];exact Qq h4 (by omega)
   rw[e1];simp only[BEq.rfl,Ae];refine Tj n (a+1) (by omega) ?_;simp only[C6,A3,Ds,Pe,zzL23];exact⟨⟨⟨by omega,h2⟩,h3⟩,h4⟩
theorem bj{l:List Ag}(h:C6 0 l=true):ky (Lx l)=l:=Tj 1023 1 rfl h
theorem MH{g:Int->Int}:∀(n a:Nat) (lo:Int),lo<a->a+n<=1024->C6 lo (Jz g a n)=true
 | 0,_,_,_,_=>rfl
 | n+1,a,lo,h,h2=>by
  unfold Jz
  cases e:g (a:Int)==0 with
  | true=>exact MH n (a+1) lo (by omega) (by omega)
  | false=>
   simp only[Ax,C6,A3,Ds,e,Ms,Bd];exact⟨⟨h,by omega⟩,MH n (a+1) a (by omega) (by omega)⟩
theorem fe(g:Int->Int):C6 0 (ky g)=true:=MH 1023 1 0 (by omega) (by omega)
theorem WW{g:Int->Int}:∀(n a:Nat),(Jz g a n).length<=n
 | 0,_=>zzL8 _
 | n+1,a=>by
  have:=WW (g:=g) n (a+1);unfold Jz
  cases g (a:Int)==0<;>simp<;>omega
theorem WK{l:List Ag}(h:C6 0 l=true):l.length<=1023:=by rw[<- bj h];exact WW _ _
theorem DH{x:TForm}(hl:x.Terms.length<9223372036854775808):D8 x=some (C6 0 x.Terms):=by
 have key:∀(k i:Nat) (lo:Int),i+k=x.Terms.length->Ai (H4 x) (lo,(i:Int))=some (bif C6 lo (x.Terms.drop i) then .inl () else .inr false):=by
  intro k
  induction k with
  | zero=>
   intro i lo h
   obtain rfl:i=x.Terms.length:=by omega
   rw[List.drop_length];exact Ah (by unfold H4;simp only[Jw,Ax];rfl)
  | succ k ih=>
   intro i lo h
   have hi:i<x.Terms.length:=by omega
   have hd:x.Terms.drop i=x.Terms.getD i default::x.Terms.drop (i+1):=by rw[Mq hi,Aa _ _ _ hi]
   rw[hd]
   have hs:H4 x (lo,(i:Int))=some (bif decide (lo<(x.Terms.getD i default).V)&&decide ((x.Terms.getD i default).V<=1023)&&!((x.Terms.getD i default).Scale==0) then .next ((x.Terms.getD i default).V,((i+1:Nat):Int)) else .done (.inr false)):=by
    unfold H4;simp only[E8 hi,Ae,Aw];rw[Ad (Hh hi),Cy hi hl]
    generalize x.Terms.getD i default=t
    have a1:decide (t.V<=lo) = !decide (lo<t.V):=by by_cases h:lo<t.V<;>simp[h]<;>omega
    have a2:decide ((1023:Int)<t.V) = !decide (t.V<=1023):=by by_cases h:t.V<=1023<;>simp[h]<;>omega
    rw[a1,a2]
    cases decide (lo<t.V)<;>cases decide (t.V<=1023)<;>cases(t.Scale==0)<;>rfl
   cases hb:(decide (lo<(x.Terms.getD i default).V)&&decide ((x.Terms.getD i default).V<=1023)&&!((x.Terms.getD i default).Scale==0)) with
   | true=>
    rw[hb,Ae]at hs;rw[Am hs,ih (i+1) _ (by omega)];simp only[C6,hb,Hd]
   | false=>
    rw[hb,Ax]at hs;rw[Ah hs];simp only[C6,hb,T3,Ax]
 unfold D8;have:=key x.Terms.length 0 0 (by omega);rw[show(((0:Nat):Int))=0 from rfl,Je]at this;rw[this]
 cases C6 0 x.Terms<;>rfl
def cg(l:List Ag):Int:=match l with|[]=>1024|t::_=>t.V
def k5(l:List Ag)(v:Int):Int×List Ag:=match l with|[]=>(0,[])|t::r=>bif t.V==v then(t.Scale,r) else(0,t::r)
theorem LB(l:List Ag):Cu l=some (cg l):=by
 cases l with
 | nil=>rfl
 | cons t r=>
  unfold Cu;rw[show((((t::r).length:Int))==0)=false from zzL23.2 (by simp;omega),Ax,Ad ⟨by omega,by simp⟩]
  rfl
theorem VV(l:List Ag){v:Int}(hv:v<1024):Dd l v=some (k5 l v):=by
 unfold Dd;rw[LB,Aq]
 cases l with
 | nil=>rw[show(cg []!=v)=true from zzL93.2 (by simp[cg];omega)];rfl
 | cons t r=>
  show(bif t.V !=v then _ else _)=some (bif t.V==v then _ else _)
  by_cases e:t.V=v
  ·rw[show(t.V !=v)=false by simp[e],show(t.V==v)=true by simp[e],Ax,Ae,Ad ⟨by omega,by simp⟩,Ad ⟨by omega,by simp only[Pf];omega⟩]
   rfl
  ·rw[show(t.V !=v)=true by simp[e],show(t.V==v)=false by simp[e]]
   rfl
theorem jS{l:List Ag}{a:Int}(h:C6 (a-1) l=true):(k5 l a).1=Lx l a/\C6 a (k5 l a).2=true/\∀ v,a<v->Lx (k5 l a).2 v=Lx l v:=by
 cases l with
 | nil=>exact⟨rfl,rfl,λ_ _=>rfl⟩
 | cons t r=>
  have h':=h;simp only[C6,A3,Ds]at h
  show(bif t.V==a then(t.Scale,r) else(0,t::r)).1=_/\C6 a (bif t.V==a then(t.Scale,r) else(0,t::r)).2=true/\∀ v,a<v->Lx (bif t.V==a then(t.Scale,r) else(0,t::r)).2 v=_
  by_cases e:t.V=a
  ·rw[show(t.V==a)=true by simp[e]];refine⟨by simp[Lx,e],by rw[<- e];exact h.2,λv hv=>?_⟩;simp only[Lx,show(t.V==v)=false from zzL23.2 (by omega),show(t.V==a)=true by simp[e],Ae,Ax]
  ·rw[show(t.V==a)=false by simp[e]];refine⟨?_,?_,λv hv=>rfl⟩
   ·simp only[Ax,Lx,show(t.V==a)=false by simp[e]];exact(Qq h.2 (by omega)).symm
   ·simp only[Ax,C6,A3,Ds];exact⟨⟨⟨by omega,h.1.1.2⟩,h.1.2⟩,h.2⟩
theorem jC{l:List Ag}{a:Int}(h:C6 (a-1) l=true)(ha:a<=1024):a<=cg l:=by
 cases l with
 | nil=>exact ha
 | cons t r=>
  simp only[C6,A3,Ds]at h
  show a<=t.V
  omega
theorem dF{l:List Ag}{a:Int}(h:C6 (a-1) l=true)(hn:cg l≠a):C6 a l=true:=by
 cases l with
 | nil=>rfl
 | cons t r=>
  simp only[C6,A3,Ds]at h ⊢;have:t.V≠a:=hn;exact⟨⟨⟨by omega,h.1.1.2⟩,h.1.2⟩,h.2⟩
def kU{S X:Type}(g:Int->Int->Int)(mk:List Ag->List Ag->List Ag->S)(out:List Ag->X)(xs ys acc:List Ag):Option (LR S X):=
 bif bif decide ((0:Int)<(xs.length:Int)) then true else decide ((0:Int)<(ys.length:Int)) then
  (Cu xs).bind λp=>(Cu ys).bind λq=>(Dd xs (if q<p then q else p)).bind λu=>(Dd ys (if q<p then q else p)).bind λw=>
   bif g u.1 w.1 !=0 then Cg (acc.length+1<=room) (some (.next (mk u.2 w.2 (acc++[⟨if q<p then q else p,g u.1 w.1⟩])))) else some (.next (mk u.2 w.2 acc))
 else some (.done (out acc))
theorem Wd{S X:Type}(g:Int->Int->Int)(mk:List Ag->List Ag->List Ag->S)(out:List Ag->X)(f:S->Option (LR S X))(hf:∀ xs ys acc,f (mk xs ys acc)=kU g mk out xs ys acc)(h0:g 0 0=0) :
  ∀(n a:Nat) (xs ys acc:List Ag),a+n=1024->C6 ((a:Int)-1) xs=true->C6 ((a:Int)-1) ys=true->acc.length+n<=2000->
   Ai f (mk xs ys acc)=some (out (acc++Jz (λv=>g (Lx xs v) (Lx ys v)) a n)):=by
 intro n
 induction n with
 | zero=>
  intro a xs ys acc h hx hy _
  have e:∀{l:List Ag},C6 ((a:Int)-1) l=true->l=[]:=λ{l} hl=>by
   have:=Tj 0 a h hl;exact this.symm
  rw[e hx,e hy];refine Ah ?_;rw[hf];simp[kU,Jz]
 | succ n ih=>
  intro a xs ys acc h hx hy hl;have hpa:=jC hx (by omega);have hqa:=jC hy (by omega)
  by_cases hh:cg xs=a\/cg ys=a
  ·have hv:(if cg ys<cg xs then cg ys else cg xs)=(a:Int):=by split<;>omega
   have hne:(bif decide ((0:Int)<(xs.length:Int)) then true else decide ((0:Int)<(ys.length:Int)))=true:=by
    rcases hh with e|e
    ·cases xs with
     | nil=>exact absurd e (by show ¬ ((1024:Int)=a);omega)
     | cons=>simp
    ·cases ys with
     | nil=>exact absurd e (by show ¬ ((1024:Int)=a);omega)
     | cons=>simp
   obtain⟨p1,p2,p3⟩:=jS hx;obtain⟨q1,q2,q3⟩:=jS hy
   have hs:f (mk xs ys acc)=some (.next (mk (k5 xs a).2 (k5 ys a).2 (acc++(bif g (Lx xs a) (Lx ys a)==0 then[] else[⟨(a:Int),g (Lx xs a) (Lx ys a)⟩])))):=by
    rw[hf];unfold kU;rw[hne,Ae,LB,LB];simp only[Aq,hv];rw[VV _ (by omega),VV _ (by omega)];simp only[Aq,p1,q1]
    cases hz:g (Lx xs a) (Lx ys a)==0 with
    | true=>rw[show(g (Lx xs a) (Lx ys a)!=0)=false by simp[bne,hz]];simp
    | false=>
     rw[show(g (Lx xs a) (Lx ys a)!=0)=true by simp[bne,hz],Ae,Ad (by unfold room;omega)]
     rfl
   rw[Am hs];rw[ih (a+1) _ _ _ (by omega) (by rw[show(((a+1:Nat):Int)-1)=a by omega];exact p2) (by rw[show(((a+1:Nat):Int)-1)=a by omega];exact q2) (by cases g (Lx xs a) (Lx ys a)==0<;>simp<;>omega)];rw[Wi (n:=n) (a:=a+1) (h:=λv=>g (Lx xs v) (Lx ys v)) λv hv=>by rw[p3 v (by omega),q3 v (by omega)]]
   congr 2
   rw[Oi]
   congr 1
   conv=>rhs;unfold Jz
   cases g (Lx xs a) (Lx ys a)==0<;>rfl
  ·have hx':=dF hx (by omega);have hy':=dF hy (by omega);rw[ih (a+1) xs ys acc (by omega) (by rw[show(((a+1:Nat):Int)-1)=a by omega];exact hx') (by rw[show(((a+1:Nat):Int)-1)=a by omega];exact hy') (by omega)]
   congr 3
   conv=>rhs;unfold Jz
   rw[Qq hx' (Int.le_refl _),Qq hy' (Int.le_refl _),h0]
   rfl
def Lo(g:Int->Int->Int)(x y:TForm):TForm:=bif C6 0 x.Terms&&C6 0 y.Terms then⟨ky λv=>g (Lx x.Terms v) (Lx y.Terms v),g x.Off y.Off⟩ else⟨[],0⟩
def EM:TForm:=⟨[],0⟩
def SG(a b:Int):Int:=Cf (a+b)
def UG(a b:Int):Int:=Cf (a-b)
def LV(n a _b:Int):Int:=Cf (a*n)
theorem cK{x y:TForm}(hx:x.Terms.length<9223372036854775808)(hy:y.Terms.length<9223372036854775808):Ic x y=some (Lo SG x y):=by
 unfold Ic Mx Lo;rw[DH hx,DH hy]
 cases h1:C6 0 x.Terms with
 | false=>rfl
 | true=>
  cases h2:C6 0 y.Terms with
  | false=>rfl
  | true=>
   simp only[Fp,BEq.rfl,Ae,Ax,Aq,T4,J5];rw[Wd SG (λa b c=>(a,b,c)) id N0 (λxs ys acc=>rfl) rfl 1023 1 x.Terms y.Terms [] rfl h1 h2 (by simp)]
   rfl
theorem VU{x y:TForm}(hx:x.Terms.length<9223372036854775808)(hy:y.Terms.length<9223372036854775808):Hi x y=some (Lo UG x y):=by
 unfold Hi Kd Lo;rw[DH hx,DH hy]
 cases h1:C6 0 x.Terms with
 | false=>rfl
 | true=>
  cases h2:C6 0 y.Terms with
  | false=>rfl
  | true=>
   simp only[Fp,BEq.rfl,Ae,Ax,Aq,T4,Ji];rw[Wd UG (λa b c=>(a,b,c)) id Lq (λxs ys acc=>rfl) rfl 1023 1 x.Terms y.Terms [] rfl h1 h2 (by simp)]
   rfl
theorem CD{x:TForm}{n:Int}(hx:x.Terms.length<9223372036854775808):D9 x n=some (Lo (LV n) x EM):=by
 unfold D9 Ke Lo;rw[DH hx,DH (x:=⟨[],0⟩) (by simp)]
 cases h1:C6 0 x.Terms with
 | false=>rfl
 | true=>
  simp only[Fp,BEq.rfl,Ae,Ax,Aq,T4,Jj,C6,EM];rw[Wd (LV n) (λa b c=>(a,b,c,n)) (λl=>(l,n)) Lr (λxs ys acc=>rfl) (by show Cf (0*n)=0;rw[Int.zero_mul];rfl) 1023 1 x.Terms [] [] rfl h1 rfl (by simp)]
  rfl
theorem jv{x y:TForm}(hx:x.Terms.length<9223372036854775808):Ie x y=some (decide (x=y)):=by
 have hT:C4 x.Terms y.Terms=some (decide (x.Terms=y.Terms)):=by
  unfold C4
  by_cases hl:x.Terms.length=y.Terms.length
  ·rw[show(((x.Terms.length:Int))!=(y.Terms.length:Int))=false by simp[hl],Ax];have:=LN x.Terms y.Terms default (Br x.Terms y.Terms) (.inl ()) (.inr false) hl
    (λi hi he=>by
     unfold Br;simp only[E8 hi,Ae,Aw];rw[Ad (Hh hi),Ad (Hh (by omega)),eq_of_beq he,Cy hi hx]
     simp)
    (λi hi he=>by
     unfold Br;simp only[E8 hi,Ae,Aw];rw[Ad (Hh hi),Ad (Hh (by omega))]
     have:((x.Terms.getD i default).V==(y.Terms.getD i default).V&&((x.Terms.getD i default).Scale==(y.Terms.getD i default).Scale&&true))=false:=by
      rw[<- he]
      generalize x.Terms.getD i default=s
      generalize y.Terms.getD i default=t
      rw[Mr]
      cases s;cases t
      simp
     rw[this]
     rfl)
    (by unfold Br;simp only[Jw,Ax]) x.Terms.length 0 (by omega)
   rw[show(((0:Nat):Int))=0 from rfl,Je,Je]at this;rw[this]
   by_cases e:x.Terms=y.Terms
   ·simp[e]
   ·rw[Fo e,zzL23.2 e];rfl
  ·rw[show(((x.Terms.length:Int))!=(y.Terms.length:Int))=true by simp;omega,Ae];rw[Fo (λe=>hl (by rw[e]))]
 unfold Ie;rw[hT]
 by_cases ho:x.Off=y.Off
 ·rw[ho];simp only[BEq.rfl,Ae,Aq]
  congr 1
  cases x;cases y
  simp_all
 ·rw[show(x.Off==y.Off)=false by simp[ho]];have:¬ x=y:=λe=>ho (by rw[e]);simp[this]
theorem dk{x y:TForm}(hx:x.Terms.length<9223372036854775808):A8 x y=some (decide (x=y)):=by
 unfold A8
 by_cases ho:x.Off=y.Off
 ·by_cases hl:x.Terms.length=y.Terms.length
  ·rw[show(x.Off !=y.Off)=false by simp[ho],show(((x.Terms.length:Int))!=(y.Terms.length:Int))=false by simp[hl]];simp only[Ax];have:=LN x.Terms y.Terms default (D6 x y) (.inl ()) (.inr false) hl
    (λi hi he=>by
     unfold D6;simp only[E8 hi,Ae,Aw];rw[Ad (Hh hi),Ad (Hh (by omega)),eq_of_beq he,Cy hi hx]
     simp)
    (λi hi he=>by
     unfold D6;simp only[E8 hi,Ae,Aw];rw[Ad (Hh hi),Ad (Hh (by omega))]
     have:((x.Terms.getD i default).V==(y.Terms.getD i default).V&&((x.Terms.getD i default).Scale==(y.Terms.getD i default).Scale&&true))=false:=by
      rw[<- he]
      generalize x.Terms.getD i default=s
      generalize y.Terms.getD i default=t
      rw[Mr]
      cases s;cases t
      simp
     rw[this]
     rfl)
    (by unfold D6;simp only[Jw,Ax]) x.Terms.length 0 (by omega)
   rw[show(((0:Nat):Int))=0 from rfl,Je,Je]at this;rw[this]
   cases x;cases y
   simp only at ho hl ⊢;subst ho
   rename_i xs o ys
   by_cases e:xs=ys
   ·simp[e]
   ·rw[Fo (by simp[e]),zzL23.2 e];rfl
  ·rw[show(((x.Terms.length:Int))!=(y.Terms.length:Int))=true by simp;omega];rw[Fo (λe=>hl (by rw[e]))]
   cases(x.Off !=y.Off)<;>rfl
 ·rw[show(x.Off !=y.Off)=true by simp[ho],Fo (λe=>ho (by rw[e]))]
  rfl
theorem jM{x:TForm}(hl:x.Terms.length<9223372036854775808):En x=some (C6 0 x.Terms):=by
 have key:∀(k i:Nat) (lo:Int),i+k=x.Terms.length->(i=0/\lo=0\/0<i/\lo=(x.Terms.getD (i-1) default).V/\1<=lo)->Ai (Eg x) (i:Int)=some (bif C6 lo (x.Terms.drop i) then .inl () else .inr false):=by
  intro k
  induction k with
  | zero=>
   intro i lo h _
   obtain rfl:i=x.Terms.length:=by omega
   rw[List.drop_length];exact Ah (by unfold Eg;simp only[Jw,Ax];rfl)
  | succ k ih=>
   intro i lo h hlo
   have hi:i<x.Terms.length:=by omega
   have hd:x.Terms.drop i=x.Terms.getD i default::x.Terms.drop (i+1):=by rw[Mq hi,Aa _ _ _ hi]
   rw[hd]
   have hs:Eg x (i:Int)=some (bif decide (lo<(x.Terms.getD i default).V)&&decide ((x.Terms.getD i default).V<=1023)&&!((x.Terms.getD i default).Scale==0) then .next (((i+1:Nat):Int)) else .done (.inr false)):=by
    unfold Eg;simp only[E8 hi,Ae,Aw];rw[Ad (Hh hi),Ad (λ_=>Hh hi),Ad (λ_=>Hh hi),Ad (λ_=>Hh hi),Cy hi hl]
    have hp:0<i->Bh ((i:Int)-1)=((i-1:Nat):Int):=λh0=>by rw[Hb (by omega) (by omega)];omega
    rw[Ad (λh0=>by
     simp only[A3,zzL74,Ds]at h0
     have:0<i:=by omega
     rw[hp this];exact Hh (by omega))]
    rcases hlo with⟨rfl,rfl⟩|⟨h0,h1,h2⟩
    ·generalize x.Terms.getD 0 default=t
     have a1:decide (t.V<(1:Int)) = !decide ((0:Int)<t.V):=by by_cases h:(0:Int)<t.V<;>simp[h]<;>omega
     have a2:decide ((1023:Int)<t.V) = !decide (t.V<=1023):=by by_cases h:t.V<=1023<;>simp[h]<;>omega
     rw[a1,a2,show decide ((0:Int)<((0:Nat):Int))=false from rfl]
     cases decide ((0:Int)<t.V)<;>cases decide (t.V<=1023)<;>cases(t.Scale==0)<;>rfl
    ·rw[hp h0,Aw,<- h1,E7 (show(0:Int)<(i:Int) by omega)]
     generalize x.Terms.getD i default=t
     have a1:decide (t.V<=lo) = !decide (lo<t.V):=by by_cases h:lo<t.V<;>simp[h]<;>omega
     have a2:decide ((1023:Int)<t.V) = !decide (t.V<=1023):=by by_cases h:t.V<=1023<;>simp[h]<;>omega
     rw[a1,a2]
     by_cases h:lo<t.V
     ·rw[E7 h,Fo (show ¬ t.V<1 by omega)]
      cases decide (t.V<=1023)<;>cases(t.Scale==0)<;>rfl
     ·rw[Fo h]
      cases decide (t.V<1)<;>cases decide (t.V<=1023)<;>cases(t.Scale==0)<;>rfl
   cases hb:(decide (lo<(x.Terms.getD i default).V)&&decide ((x.Terms.getD i default).V<=1023)&&!((x.Terms.getD i default).Scale==0)) with
   | true=>
    rw[hb,Ae]at hs
    have h1:lo<(x.Terms.getD i default).V:=by simp only[A3,Ds]at hb;exact hb.1.1
    rw[Am hs,ih (i+1) (x.Terms.getD i default).V (by omega) (.inr ⟨by omega,by simp,by rcases hlo with⟨_,rfl⟩|⟨_,_,h⟩<;>omega⟩)];simp only[C6,hb,Hd]
   | false=>
    rw[hb,Ax]at hs;rw[Ah hs];simp only[C6,hb,T3,Ax]
 unfold En;have:=key x.Terms.length 0 0 (by omega) (.inl ⟨rfl,rfl⟩);rw[show(((0:Nat):Int))=0 from rfl,Je]at this;rw[this]
 cases C6 0 x.Terms<;>rfl
theorem VX:∀{l:List Ag} {v:Int},(l.any λt=>t.V==v)=false->Lx l v=0
 | [],_,_=>rfl
 | t::r,v,h=>by
  rw[List.any_cons,Zp]at h;unfold Lx;rw[h.1,Ax,VX h.2]
theorem WJ:∀{l:List Ag} {lo v:Int},C6 lo l=true->(l.any λt=>t.V==v)=true->lo<v/\v<=1023
 | [],_,_,_,h=>by cases h
 | t::r,lo,v,hm,h=>by
  simp only[C6,A3,Ds]at hm;rw[List.any_cons,Vv]at h;rcases h with h|h
  ·rw[<- eq_of_beq h];exact hm.1.1
  ·have:=WJ hm.2 h;omega
theorem mA{x:TForm}(hm:C6 0 x.Terms=true):∃ S,F8 x=some ⟨S,x.Off⟩/\∀ v:Nat,v<1024->S.getD v 0=Lx x.Terms v:=by
 have hlen:=WK hm;have key:∀(k i:Nat) (z:Dn) (lo:Int),i+k=x.Terms.length->0<=lo->C6 lo (x.Terms.drop i)=true->∃ S,Ai (Ew x) ((i:Int),z)=some ⟨S,z.Off⟩ /\
   ∀ v:Nat,v<1024->S.getD v 0=bif ((x.Terms.drop i).any λt=>t.V==(v:Int)) then Lx (x.Terms.drop i) v else z.Scale.getD v 0:=by
  intro k
  induction k with
  | zero=>
   intro i z lo h _ _
   obtain rfl:i=x.Terms.length:=by omega
   rw[List.drop_length];exact⟨z.Scale,Ah (by unfold Ew;simp only[Jw,Ax]),λv _=>rfl⟩
  | succ k ih=>
   intro i z lo h h0 hml
   have hi:i<x.Terms.length:=by omega
   have hd:x.Terms.drop i=x.Terms.getD i default::x.Terms.drop (i+1):=by rw[Mq hi,Aa _ _ _ hi]
   rw[hd]at hml ⊢;have hm':=hml;simp only[C6,A3,Ds]at hml
   have hs:Ew x ((i:Int),z)=some (.next (((i+1:Nat):Int),⟨Ha 1024 0 z.Scale (x.Terms.getD i default).V.toNat (x.Terms.getD i default).Scale,z.Off⟩)):=by
    unfold Ew;simp only[E8 hi,Ae,Aw];rw[Ad (Hh hi),Ad (Hh hi),Ad ⟨by omega,by omega⟩,Cy hi (by omega)]
    rfl
   obtain⟨S,h1,h2⟩:=ih (i+1) ⟨Ha 1024 0 z.Scale (x.Terms.getD i default).V.toNat (x.Terms.getD i default).Scale,z.Off⟩ _ (by omega) (by omega) hml.2;refine⟨S,by rw[Am hs];exact h1,λv hv=>?_⟩;rw[h2 v hv]
   generalize hT:x.Terms.getD i default=T at *
   simp only[List.any_cons,Lx]
   by_cases e:T.V=v
   ·have hn:((x.Terms.drop (i+1)).any λt=>t.V==(v:Int))=false:=by
     cases ha:((x.Terms.drop (i+1)).any λt=>t.V==(v:Int)) with
     | false=>rfl
     | true=>have:=WJ hml.2 ha;omega
    rw[hn,Ax,show(T.V==(v:Int))=true by simp[e],Bool.true_or,Ae,Ae,Kn hv,show Nat.beq v T.V.toNat=true by rw[show v=T.V.toNat by omega];exact Nat.beq_refl _,Ae]
   ·rw[show(T.V==(v:Int))=false by simp[e],Zu,Ax,Kn hv]
    cases((x.Terms.drop (i+1)).any λt=>t.V==(v:Int)) with
    | true=>rfl
    | false=>
     cases hb:Nat.beq v T.V.toNat with
     | false=>rfl
     | true=>have:=Bt hb;omega
 obtain⟨S,h1,h2⟩:=key x.Terms.length 0 ⟨[],x.Off⟩ 0 (by omega) (Int.le_refl _) hm;refine⟨S,?_,λv hv=>?_⟩
 ·unfold F8;rw[show(((0:Nat):Int))=0 from rfl]at h1;rw[h1,Aq]
 ·rw[h2 v hv,Je]
  cases ha:(x.Terms.any λt=>t.V==(v:Int)) with
  | true=>rfl
  | false=>rw[VX ha];rfl
theorem kP(w:Dn):Et w=some (⟨Jz (λv=>w.Scale.getD v.toNat 0) 0 1024,w.Off⟩,w):=by
 have key:∀(k i:Nat) (l:List Ag),i+k=1024->l.length<=i->Ai (Cx w) ((i:Int),l)=some (l++Jz (λv=>w.Scale.getD v.toNat 0) i k):=by
  intro k
  induction k with
  | zero=>
   intro i l h _
   obtain rfl:i=1024:=by omega
   refine Ah ?_;unfold Cx;simp[Jz]
  | succ k ih=>
   intro i l h hl
   have hi:i<1024:=by omega
   have hd:decide ((i:Int)<(1024:Int))=true:=E7 (by omega)
   have hs:Cx w ((i:Int),l)=some (.next (((i+1:Nat):Int),l++(bif w.Scale.getD i 0==0 then[] else[⟨(i:Int),w.Scale.getD i 0⟩]))):=by
    unfold Cx;simp only[hd,Ae,Aw];rw[Ad (Hh hi),Hb (by omega) (by omega)]
    cases hz:w.Scale.getD i 0==0 with
    | true=>rw[show(w.Scale.getD i 0 !=0)=false by simp only[bne,hz];rfl];simp
    | false=>
     rw[show(w.Scale.getD i 0 !=0)=true by simp only[bne,hz];rfl,Ae,Ad (Hh hi),Ad (by simp[room];omega)]
     rfl
   have hrow:(bif w.Scale.getD i 0==0 then[] else[(⟨(i:Int),w.Scale.getD i 0⟩:Ag)])++Jz (λv=>w.Scale.getD v.toNat 0) (i+1) k=Jz (λv=>w.Scale.getD v.toNat 0) i (k+1):=by
    conv=>rhs;unfold Jz
    simp only[Aw]
    cases w.Scale.getD i 0==0<;>rfl
   rw[Am hs,ih (i+1) _ (by omega) (by cases w.Scale.getD i 0==0<;>simp<;>omega),Oi,hrow]
 unfold Et;have:=key 1024 0 [] (by omega) (by simp);rw[show(((0:Nat):Int))=0 from rfl]at this;rw[this]
 rfl
theorem dj{x y:TForm}{n m:Int}(hx:C6 0 x.Terms=true)(hy:C6 0 y.Terms=true) :
  Cb x n y m=some ⟨ky λv=>Cf (Cf (Lx x.Terms v*n)+Cf (Lx y.Terms v*m)),Cf (Cf (x.Off*n)+Cf (y.Off*m))⟩:=by
 obtain⟨A,a1,a2⟩:=mA hx;obtain⟨B,b1,b2⟩:=mA hy;have key:∀(k i:Nat) (z:Dn),i+k=1024->(∀ v:Nat,i<=v->v<1024->z.Scale.getD v 0=A.getD v 0)->(∀ v:Nat,v<i->z.Scale.getD v 0=Cf (Cf (A.getD v 0*n)+Cf (B.getD v 0*m)))->
   ∃ S,Ai (Eh n m ⟨B,y.Off⟩) ((i:Int),z)=some ⟨S,z.Off⟩/\∀ v:Nat,v<1024->S.getD v 0=Cf (Cf (A.getD v 0*n)+Cf (B.getD v 0*m)):=by
  intro k
  induction k with
  | zero=>
   intro i z h _ h2
   obtain rfl:i=1024:=by omega
   exact⟨z.Scale,Ah (by unfold Eh;simp),h2⟩
  | succ k ih=>
   intro i z h h1 h2
   have hi:i<1024:=by omega
   have hd:decide ((i:Int)<(1024:Int))=true:=E7 (by omega)
   have hs:Eh n m ⟨B,y.Off⟩ ((i:Int),z)=some (.next (((i+1:Nat):Int),⟨Ha 1024 0 z.Scale i (Cf (Cf (z.Scale.getD i 0*n)+Cf (B.getD i 0*m))),z.Off⟩)):=by
    unfold Eh;simp only[hd,Ae,Aw];rw[Ad (Hh hi),Ad (Hh hi),Ad (Hh hi),Hb (by omega) (by omega)]
    rfl
   obtain⟨S,s1,s2⟩:=ih (i+1) ⟨Ha 1024 0 z.Scale i (Cf (Cf (z.Scale.getD i 0*n)+Cf (B.getD i 0*m))),z.Off⟩ (by omega)
    (λv hv hv2=>by
     dsimp only
     rw[Kn hv2]
     cases hb:Nat.beq v i with
     | false=>exact h1 v (by omega) hv2
     | true=>have:=Bt hb;omega)
    (λv hv=>by
     dsimp only
     rw[Kn (by omega)]
     cases hb:Nat.beq v i with
     | true=>obtain rfl:=Bt hb;rw[Ae,h1 _ (zzL8 _) hi]
     | false=>
      have:v≠i:=by rintro rfl;rw[Nat.beq_refl]at hb;cases hb
      exact h2 v (by omega))
   exact⟨S,by rw[Am hs];exact s1,s2⟩
 obtain⟨S,s1,s2⟩:=key 1024 0 ⟨A,x.Off⟩ (by omega) (λv _ _=>rfl) (λv hv=>by omega);unfold Cb;rw[a1,Aq,b1,Aq];rw[show(((0:Nat):Int))=0 from rfl]at s1;rw[s1,Aq,kP,Aq]
 have e:∀(k i:Nat),i+k<=1024->Jz (λv=>S.getD v.toNat 0) i k=Jz (λv=>Cf (Cf (Lx x.Terms v*n)+Cf (Lx y.Terms v*m))) i k:=by
  intro k
  induction k with
  | zero=>intros;rfl
  | succ k ih=>
   intro i h;unfold Jz;rw[ih (i+1) (by omega)];simp only[Aw];rw[s2 i (by omega),a2 i (by omega),b2 i (by omega)]
 have e0:Jz (λv=>S.getD v.toNat 0) 0 1024=ky λv=>Cf (Cf (Lx x.Terms v*n)+Cf (Lx y.Terms v*m)):=by
  rw[e 1024 0 (by omega)]
  show Jz _ 0 (1023+1)=Jz _ 1 1023
  conv=>lhs;unfold Jz
  rw[show(((0:Nat):Int))=0 from rfl,Qq hx (Int.le_refl _),Qq hy (Int.le_refl _),Int.zero_mul,Int.zero_mul]
  rfl
 rw[e0]
theorem gk(a b:Int):Cf (Cf (a*1)+Cf (b*1))=SG a b:=by unfold SG;simp only[Tz];omega
theorem gp(a b:Int):Cf (Cf (a*1)+Cf (b*18446744073709551615))=UG a b:=by unfold UG;simp only[Tz];omega
theorem gn(a b n:Int):Cf (Cf (a*n)+Cf (b*0))=LV n a b:=by unfold LV;rw[Int.mul_zero];simp only[Tz];generalize a*n=c;omega
theorem LT{g:Int->Int->Int}{x y:TForm}(hx:C6 0 x.Terms=true)(hy:C6 0 y.Terms=true):Lo g x y=⟨ky λv=>g (Lx x.Terms v) (Lx y.Terms v),g x.Off y.Off⟩:=by
 unfold Lo;rw[hx,hy];rfl
theorem kQ{x y:TForm}(hx:C6 0 x.Terms=true)(hy:C6 0 y.Terms=true):Cb x 1 y 1=some (Lo SG x y):=by
 rw[dj hx hy,LT hx hy];simp only[gk]
theorem h9{x y:TForm}(hx:C6 0 x.Terms=true)(hy:C6 0 y.Terms=true):Cb x 1 y 18446744073709551615=some (Lo UG x y):=by
 rw[dj hx hy,LT hx hy];simp only[gp]
theorem iA{x:TForm}{n:Int}(hx:C6 0 x.Terms=true):Cb x n ⟨[],0⟩ 0=some (Lo (LV n) x EM):=by
 rw[dj hx rfl,LT hx rfl];simp only[gn]
 rfl
theorem PA(g:Int->Int->Int)(x y:TForm):C6 0 (Lo g x y).Terms=true:=by
 unfold Lo
 cases C6 0 x.Terms&&C6 0 y.Terms with
 | false=>rfl
 | true=>rw[Ae];exact fe (λv=>g (Lx x.Terms v) (Lx y.Terms v))
theorem S9{V:Type}(k v:Int)(x:V):∀ l:List (Int×V),B1 (Ex l k x) v=(v==k || B1 l v)
 | []=>by simp[Ex,B1]
 | (a,b)::r=>by
  unfold Ex
  by_cases e:k=a
  ·subst e;simp only[BEq.rfl,Ae,B1]
   cases(v==k)<;>simp
  ·rw[show(k==a)=false by simp[e],Ax];simp only[B1,S9 k v x r]
   cases(v==a)<;>cases(v==k)<;>simp
theorem Xj{V:Type}(d:V)(k v:Int)(x:V):∀ l:List (Int×V),mget d (Ex l k x) v=bif v==k then x else mget d l v
 | []=>by simp only[Ex,mget]
 | (a,b)::r=>by
  unfold Ex
  by_cases e:k=a
  ·subst e;simp only[BEq.rfl,Ae,mget]
   cases(v==k)<;>rfl
  ·rw[show(k==a)=false by simp[e],Ax];simp only[mget,Xj d k v x r]
   by_cases h:v=a
   ·subst h;rw[show(v==k)=false from zzL23.2 (Hq e)]
    simp
   ·rw[show(v==a)=false by simp[h]];rfl
def EZ(v:Int):TForm:=⟨[⟨v,1⟩],0⟩
def jG(k:Int)(a b:TForm):Option TForm:=
 bif k==1 then some (Lo SG a b) else bif k==2 then some (Lo UG a b)
 else bif (k==3)&&((b.Terms.length:Int)==0) then some (Lo (LV b.Off) a EM) else bif (k==3)&&((a.Terms.length:Int)==0) then some (Lo (LV a.Off) b EM)
 else bif ((k==8)&&((b.Terms.length:Int)==0))&&decide (b.Off<64) then some (Lo (LV (UD .u64 1 b.Off)) a EM) else none
def TB(k:Int):Bool:=k==0 || (k==1 || (k==2 || (k==3 || k==8)))
def j6(v:Int):Option TForm->TForm
 | some y=>bif decide ((16:Int)<(y.Terms.length:Int)) then EZ v else y
 | none=>EZ v
def Uk(D:Int->Option D1):Nat->Int->TForm
 | 0,v=>EZ v
 | n+1,v=>match D v with
  | none=>EZ v
  | some o=>bif o.Kind==0 then⟨[],o.Imm⟩ else j6 v (jG o.Kind (Uk D n (o.Args.getD 0 0)) (Uk D n (o.Args.getD 1 0)))
structure fH(D:Int->Option D1)(G:Int->Prop)(rk:Int->Nat):Prop where
 rng:∀ v,G v->1<=v/\v<=1023
 kind:∀ v o,G v->D v=some o->TB o.Kind=true
 args:∀ v o,G v->D v=some o->o.Kind≠0->o.Args.length=2/\(G (o.Args.getD 0 0)/\rk (o.Args.getD 0 0)<rk v)/\G (o.Args.getD 1 0)/\rk (o.Args.getD 1 0)<rk v
 imm:∀ v o,G v->D v=some o->0<=o.Imm
section
variable {D:Int->Option D1} {G:Int->Prop} {rk:Int->Nat} (W:fH D G rk)
include W
theorem W8:∀(n:Nat) (v:Int) (m:Nat),G v->rk v<n->rk v<m->Uk D n v=Uk D m v
 | 0,_,_,_,h,_=>absurd h (Nc _)
 | _,_,0,_,_,h=>absurd h (Nc _)
 | n+1,v,m+1,hg,h1,h2=>by
  unfold Uk
  cases hd:D v with
  | none=>rfl
  | some o=>
   by_cases h0:o.Kind=0
   ·simp[h0]
   ·obtain⟨_,⟨g0,r0⟩,g1,r1⟩:=W.args v o hg hd h0;simp only;rw[W8 n _ m g0 (by omega) (by omega),W8 n _ m g1 (by omega) (by omega)]
omit W in
theorem Zm(n:Int):0<=Cf n:=by rw[Tz];omega
omit W in
theorem jH{k:Int}{a b y:TForm}(h:jG k a b=some y):C6 0 y.Terms=true/\0<=y.Off:=by
 have key:∀(g:Int->Int->Int) (a b:TForm),(∀ x y,0<=g x y)->C6 0 (Lo g a b).Terms=true/\0<=(Lo g a b).Off:=λg a b hg=>by
  refine⟨PA g a b,?_⟩;unfold Lo
  cases C6 0 a.Terms&&C6 0 b.Terms with
  | false=>exact Int.le_refl _
  | true=>exact hg _ _
 have e1:∀ x y,0<=SG x y:=λx y=>Zm _;have e2:∀ x y,0<=UG x y:=λx y=>Zm _;have e3:∀ n x y,0<=LV n x y:=λn x y=>Zm _;unfold jG at h
 cases c1:k==1 with
 | true=>rw[c1]at h;cases h;exact key _ _ _ e1
 | false=>
  rw[c1,Ax]at h
  cases c2:k==2 with
  | true=>rw[c2]at h;cases h;exact key _ _ _ e2
  | false=>
   rw[c2,Ax]at h
   cases c3:(k==3)&&((b.Terms.length:Int)==0) with
   | true=>rw[c3]at h;cases h;exact key _ _ _ (e3 _)
   | false=>
    rw[c3,Ax]at h
    cases c4:(k==3)&&((a.Terms.length:Int)==0) with
    | true=>rw[c4]at h;cases h;exact key _ _ _ (e3 _)
    | false=>
     rw[c4,Ax]at h
     cases c5:((k==8)&&((b.Terms.length:Int)==0))&&decide (b.Off<64) with
     | true=>rw[c5]at h;cases h;exact key _ _ _ (e3 _)
     | false=>rw[c5]at h;cases h
omit W in
theorem kN{v:Int}(h1:1<=v)(h2:v<=1023):C6 0 (EZ v).Terms=true/\0<=(EZ v).Off/\(EZ v).Terms.length<=16:=by
 refine⟨?_,Int.le_refl _,by simp[EZ]⟩;simp only[EZ,C6,Zv,A3,Ds];exact⟨⟨by omega,h2⟩,rfl⟩
theorem iy:∀(n:Nat) (v:Int),G v->C6 0 (Uk D n v).Terms=true/\0<=(Uk D n v).Off/\(Uk D n v).Terms.length<=16:=λn v hg=>by
 have ho:=kN (W.rng v hg).1 (W.rng v hg).2
 cases n with
 | zero=>exact ho
 | succ n=>
  unfold Uk
  cases hd:D v with
  | none=>exact ho
  | some o=>
   simp only
   cases h0:o.Kind==0 with
   | true=>exact⟨rfl,W.imm v o hg hd,by simp⟩
   | false=>
    rw[Ax]
    cases hm:jG o.Kind (Uk D n (o.Args.getD 0 0)) (Uk D n (o.Args.getD 1 0)) with
    | none=>exact ho
    | some y=>
     unfold j6;simp only
     by_cases hl:(16:Int)<(y.Terms.length:Int)
     ·rw[E7 hl];exact ho
     ·rw[Fo hl];exact⟨(jH hm).1,(jH hm).2,by simp only[Ax];omega⟩
end
theorem jr{k:Int}{a b:TForm}(ha:a.Terms.length<9223372036854775808)(hb:b.Terms.length<9223372036854775808)(h0:0<=b.Off) :
  Jx k a b=some (match jG k a b with|some y=>(y,true)|none=>(⟨[],0⟩,false)):=by
 unfold Jx jG Gt;rw[cK ha hb,VU ha hb,CD ha,CD hb,CD ha,Ad h0]
 by_cases k1:k=1
 ·subst k1;rfl
 ·by_cases k2:k=2
  ·subst k2;rfl
  ·rw[show(k==1)=false by simp[k1],show(k==2)=false by simp[k2]];simp only[Ax]
   by_cases k3:k=3
   ·subst k3
    cases((b.Terms.length:Int)==0)<;>cases((a.Terms.length:Int)==0)<;>rfl
   ·rw[show(k==3)=false by simp[k3]]
    by_cases k8:k=8
    ·subst k8
     cases((b.Terms.length:Int)==0)<;>cases decide (b.Off<(64:Int))<;>rfl
    ·rw[show(k==8)=false by simp[k8]];rfl
def RZ(M:List (Int×D1))(D:Int->Option D1)(G:Int->Prop):Prop:=∀ v,G v->B1 M v=(D v).isSome/\∀ o,D v=some o->mget default M v=o
section
variable {D:Int->Option D1} {G:Int->Prop} {rk:Int->Nat} (W:fH D G rk)
include W
theorem ZT{M:List (Int×D1)}(hM:RZ M D G):∀(r:Nat) (v:Int) (fd:List (Int×TForm)),G v->rk v<r->(∀ x,G x->B1 fd x=true->mget default fd x=Uk D (rk x+1) x)->
  ∃ fd',(∀ n,2*r<=n->Bg n v M fd=some (Uk D (rk v+1) v,fd'))/\∀ x,G x->B1 fd' x=true->mget default fd' x=Uk D (rk x+1) x:=by
 intro r
 induction r with
 | zero=>intro v fd _ h;exact absurd h (Nc _)
 | succ r ih=>
  intro v fd hg hr hfd;have step:∀ fd':List (Int×TForm),(∀ n,2*r<=n->Bv (Bg (n+1)) (B2 (n+1)) v M fd=some (Uk D (rk v+1) v,fd'))->
    ∀ n,2*(r+1)<=n->Bg n v M fd=some (Uk D (rk v+1) v,fd'):=λfd' h n hn=>by
   obtain⟨n,rfl⟩:∃ m,n=m+2:=⟨n-2,by omega⟩;exact h n (by omega)
  have fin:∀(s:Option (TForm×Bool×List (Int×TForm))) (y:TForm) (b:Bool) (fd':List (Int×TForm)),s=some (y,b,fd')->(bif (bif (!b) then true else decide ((16:Int)<(y.Terms.length:Int))) then EZ v else y)=Uk D (rk v+1) v->
    (s.bind λx1=>(Option.bind (α:=(List (Ag)×Int)) (bif (bif (!x1.2.1) then true else(decide (((16:Int):Int)<(x1.1.Terms.length:Int)))) then(some ((([(⟨v,(1:Int)⟩:Ag)]:List (Ag)),(0:Int)))) else(some ((x1.1.Terms,x1.1.Off)))) (λx4=>(match x4 with|(l2,i3)=>(some ((⟨l2,i3⟩:TForm),(Ex x1.2.2 v (⟨l2,i3⟩:TForm))))))))
    = some (Uk D (rk v+1) v,Ex fd' v (Uk D (rk v+1) v)):=λs y b fd' hs hy=>by
   rw[hs,Aq,<- hy]
   cases b with
   | false=>rfl
   | true=>
    simp only[Fp,Ax]
    cases decide ((16:Int)<(y.Terms.length:Int))<;>rfl
  have put:∀(fd':List (Int×TForm)),(∀ x,G x->B1 fd' x=true->mget default fd' x=Uk D (rk x+1) x)->∀ x,G x->B1 (Ex fd' v (Uk D (rk v+1) v)) x=true->mget default (Ex fd' v (Uk D (rk v+1) v)) x=Uk D (rk x+1) x:=λfd' h x hx hh=>by
   rw[Xj]
   by_cases e:x=v
   ·subst e;simp
   ·rw[S9,show(x==v)=false by simp[e],Zu]at hh;rw[show(x==v)=false by simp[e],Ax];exact h x hx hh
  cases hh:B1 fd v with
  | true=>exact⟨fd,step fd (λn hn=>by unfold Bv;rw[hh,Ae,hfd v hg hh]),hfd⟩
  | false=>
   obtain⟨hM1,hM2⟩:=hM v hg
   have hF:Uk D (rk v+1) v=match D v with
    | none=>EZ v
    | some o=>bif o.Kind==0 then⟨[],o.Imm⟩ else j6 v (jG o.Kind (Uk D (rk v) (o.Args.getD 0 0)) (Uk D (rk v) (o.Args.getD 1 0))):=rfl
   have hsum:∀ n,B2 (n+1) v M fd=Ci (Bg n) (B2 n) v M fd:=λn=>rfl
   cases hd:D v with
   | none=>
    rw[hd]at hM1 hF;refine⟨_,step _ λn hn=>?_,put fd hfd⟩;unfold Bv;rw[hh,Ax,hsum];refine fin _ ⟨[],0⟩ false fd ?_ (by rw[hF];rfl);unfold Ci;rw[hM1]
    rfl
   | some o=>
    rw[hd]at hM1 hF;have hg2:=hM2 o hd
    by_cases h0:o.Kind=0
    ·refine⟨_,step _ λn hn=>?_,put fd hfd⟩;unfold Bv;rw[hh,Ax,hsum];refine fin _ ⟨[],o.Imm⟩ true fd ?_ (by rw[hF];dsimp only;rw[h0];rfl);unfold Ci;rw[hM1,hg2,h0]
     rfl
    ·obtain⟨hl,⟨g0,r0⟩,g1,r1⟩:=W.args v o hg hd h0;obtain⟨f1,a1,a2⟩:=ih _ fd g0 (by omega) hfd;obtain⟨f2,b1,b2⟩:=ih _ f1 g1 (by omega) a2;rw[W8 W _ _ (rk v) g0 (by omega) r0]at a1;rw[W8 W _ _ (rk v) g1 (by omega) r1]at b1;obtain⟨p1,p2,p3⟩:=iy W (rk v) _ g0;obtain⟨q1,q2,q3⟩:=iy W (rk v) _ g1;have hmade:=jr (k:=o.Kind) (a:=Uk D (rk v) (o.Args.getD 0 0)) (b:=Uk D (rk v) (o.Args.getD 1 0)) (by omega) (by omega) q2
     have hrun:∀ n,2*r<=n->Ci (Bg n) (B2 n) v M fd=(Jx o.Kind (Uk D (rk v) (o.Args.getD 0 0)) (Uk D (rk v) (o.Args.getD 1 0))).bind λx5=>some (x5.1,x5.2,f2):=λn hn=>by
      unfold Ci;rw[hM1,hg2];simp only[Option.isSome_some,Fp,Ax,show(o.Kind==(0:Int))=false from zzL23.2 h0];rw[Ad ⟨by omega,by omega⟩,show((0:Int)).toNat=0 from rfl,a1 n hn,Aq,Ad ⟨by omega,by omega⟩,show((1:Int)).toNat=1 from rfl];simp only;rw[b1 n hn,Aq]
     dsimp only at hF
     rw[show(o.Kind==0)=false from zzL23.2 h0,Ax]at hF
     cases hm:jG o.Kind (Uk D (rk v) (o.Args.getD 0 0)) (Uk D (rk v) (o.Args.getD 1 0)) with
     | none=>
      rw[hm]at hF hmade;refine⟨_,step _ λn hn=>?_,put f2 b2⟩;unfold Bv;rw[hh,Ax,hsum,hrun n hn,hmade,Aq];exact fin _ ⟨[],0⟩ false f2 rfl (by rw[hF];rfl)
     | some y=>
      rw[hm]at hF hmade;refine⟨_,step _ λn hn=>?_,put f2 b2⟩;unfold Bv;rw[hh,Ax,hsum,hrun n hn,hmade,Aq];exact fin _ y true f2 rfl (by rw[hF];rfl)
theorem TS{M:List (Int×D1)}(hM:RZ M D G){v:Int}(hg:G v):∃ fd,Gs v M []=some (Uk D (rk v+1) v,fd):=by
 obtain⟨fd,h,_⟩:=ZT W hM (rk v+1) v [] hg (Nat.lt_succ_self _) (λx _ h=>by cases h);exact⟨fd,gB _ λm hm=>h m hm⟩
end
section
variable {D:Int->Option D1} {G:Int->Prop} {rk:Int->Nat} (W:fH D G rk)
include W
end
theorem ML{t:List Int}:∀{k:Nat} {a:Int} {q:List Int},upD t k a=some q->∀{m:Nat},k<=m->upD t m a=some q
 | 0,_,_,h,_,_=>by cases h
 | k+1,a,q,h,0,hm=>absurd hm (by omega)
 | k+1,a,q,h,m+1,hm=>by
  unfold upD at h ⊢
  split at h
  ·rename_i h1
   rw[if_pos h1]
   split at h
   ·rename_i h2
    rw[if_pos h2];exact h
   ·rename_i h2
    rw[if_neg h2]
    cases hu:upD t k (t.getD a.toNat 0) with
    | none=>rw[hu]at h;cases h
    | some q'=>rw[hu]at h;rw[ML hu (by omega:k<=m)];exact h
  ·cases h
theorem eF{t:List Int}:∀{k:Nat} {b a:Int} {q:List Int},upD t k b=some q->a∈q->a≠b->∃ q',upD t k a=some q'/\q'.length<q.length
 | 0,_,_,_,h,_,_=>by cases h
 | k+1,b,a,q,h,ha,hne=>by
  have h0:=h;unfold upD at h
  split at h
  ·split at h
   ·cases h;exact absurd (zzL15.1 ha) hne
   ·cases hu:upD t k (t.getD b.toNat 0) with
    | none=>rw[hu]at h;cases h
    | some q'=>
     rw[hu]at h;cases h;rcases zzL22.1 ha with e|hin
     ·exact absurd e hne
     ·by_cases e:a=t.getD b.toNat 0
      ·exact⟨q',by rw[e];exact ML hu (by omega),by simp⟩
      ·obtain⟨q2,h1,h2⟩:=eF hu hin e;exact⟨q2,ML h1 (by omega),by simp;omega⟩
  ·cases h
theorem MG{t:List Int}{a b:Int}(h:N8 t a b=true)(hne:a≠b):(E0 t a).length<(E0 t b).length:=by
 unfold N8 at h;simp only[A3,zzL74,zzL93]at h;obtain⟨h1,h2⟩:=h;unfold Mj at h1 h2
 split at h1
 ·rename_i hr
  rw[if_pos hr]at h2
  cases hf:(E0 t a).find? λx=>(E0 t b).contains x with
  | none=>rw[hf]at h2;exact absurd rfl h2
  | some x=>
   rw[hf]at h1;obtain rfl:x=a:=h1;have hc:=List.find?_some hf
   have hin:x∈E0 t b:=by simpa using hc
   unfold E0 at hin ⊢
   cases hu:upD t t.length b with
   | none=>rw[hu]at hin;cases hin
   | some q=>
    rw[hu]at hin;obtain⟨q',g1,g2⟩:=eF hu hin hne;rw[g1];exact g2
 ·rename_i hr
  rw[if_neg hr]at h2;exact absurd rfl h2
def Gd(f:Ab)(v:Int):Prop:=∃ d∈Au f,d.V=v/\d.Shape=(64,1)
def Om(f:Ab):List D1:=f.Blocks.flatMap (·.Ops)
def jK(f:Ab)(v:Int):Option D1:=(Om f).find? λo=>TB o.Kind&&o.Dst==v
def ng(f:Ab)(d:TDef):Nat:=if d.Block<0 then 0 else(E0 (B3 f) d.Block).length*((Om f).length+5)+(d.At+2).toNat
def k4(f:Ab)(v:Int):Nat:=ng f (defOf (Au f) v)
theorem opsA_mem{f:Ab}{o:D1}:o∈Om f↔∃ i,i<f.Blocks.length/\∃ k,k<(bA f i).Ops.length/\o=(bA f i).Ops.getD k default:=by
 unfold Om;rw[zzL67]
 constructor
 ·rintro⟨b,hb,ho⟩;obtain⟨i,hi,rfl⟩:=Ls hb;obtain⟨k,hk,rfl⟩:=Ls ho;have e:bA f i=f.Blocks[i]:=Aa _ _ _ hi;refine⟨i,hi,k,by rw[e];exact hk,?_⟩;rw[e,Aa _ _ _ hk]
 ·rintro⟨i,hi,k,hk,rfl⟩;exact⟨bA f i,getD_mem hi,getD_mem hk⟩
theorem da{f:Ab}{i:Nat}(hi:i<f.Blocks.length):(bA f i).Ops.length<=(Om f).length:=by
 unfold Om
 have:∀(l:List An) (b:An),b∈l->b.Ops.length<=(l.flatMap (·.Ops)).length:=by
  intro l
  induction l with
  | nil=>intro b h;cases h
  | cons x l ih=>
   intro b h;rw[Oj,Fg];rcases zzL22.1 h with rfl|h
   ·omega
   ·have:=ih b h;omega
 exact this _ _ (getD_mem hi)
section
variable {f:Ab} (R:mj f 2)
include R
theorem dY{i k:Nat}(hi:i<f.Blocks.length)(hk:k<(bA f i).Ops.length):Jr ((bA f i).Ops.getD k default)=true:=jN R (getD_mem hi) (getD_mem hk)
theorem op_dst{o:D1}(ho:o∈Om f):o.Dst=0/\TB o.Kind=false\/∃ i k:Nat,i<f.Blocks.length/\k<(bA f i).Ops.length/\o=(bA f i).Ops.getD k default/\1<=o.Dst/\o.Dst<=1023/\(⟨o.Dst,(i:Int),(k:Int),Mw o.Kind o.Bits o.Lanes⟩:TDef)∈Au f:=by
 obtain⟨i,hi,k,hk,e⟩:=opsA_mem.1 ho;have hm:=dY R hi hk;rw[<- e]at hm;obtain⟨m1,m2,m3,m4,m5,m6,m7⟩:=CL hm
 by_cases hst:o.Kind=17\/o.Kind=19
 ·left
  have:(o.Kind==17 || o.Kind==19)=true:=by simpa using hst
  unfold dstS at m7;rw[this,Ae]at m7;refine⟨by simpa using m7,?_⟩;rcases hst with h|h<;>rw[h]<;>rfl
 ·right
  have hf:(o.Kind==17 || o.Kind==19)=false:=by simpa using hst
  unfold dstS at m7;rw[hf,Ax]at m7;simp only[valS,A3,Ds]at m7
  have hg:Ij o=Mw o.Kind o.Bits o.Lanes:=by unfold Ij;rw[hm];rfl
  have hz:=DW (k:=o.Kind) m1;rw[hf]at hz
  have hpos:0<(Ij o).1:=by
   rw[hg];have hn:(Mw o.Kind o.Bits o.Lanes).1≠0:=zzL23.1 hz;have hb:=width_cases (Tu m1);unfold Mw at hn ⊢;rw[hf,Ax]at hn ⊢
   cases(o.Kind==10 || o.Kind==11 || o.Kind==12) with
   | true=>show(0:Int)<1;omega
   | false=>cases(o.Kind==22)<;>simp<;>omega
  refine⟨i,k,hi,hk,e,m7.1,m7.2,ri_def.2 (.inr ⟨i,hi,.inr ⟨k,hk,by rw[<- e];exact hpos,?_⟩⟩)⟩;rw[<- e,hg]
theorem dZ{o o':D1}(ho:o∈Om f)(ho':o'∈Om f)(h1:1<=o.Dst)(h:o.Dst=o'.Dst):o=o':=by
 rcases op_dst R ho with⟨h0,_⟩|⟨i,k,hi,hk,e,_,_,hd⟩
 ·omega
 ·rcases op_dst R ho' with⟨h0,_⟩|⟨i',k',hi',hk',e',_,_,hd'⟩
  ·omega
  ·have:=dq R hd hd' h;simp only[TDef.mk.injEq]at this;obtain⟨_,h2,h3,_⟩:=this
   have e1:i=i':=by omega
   have e2:k=k':=by omega
   rw[e,e',e1,e2]
theorem dX{o:D1}(ho:o∈Om f)(hk:TB o.Kind=true):jK f o.Dst=some o:=by
 unfold jK
 cases h:(Om f).find? λx=>TB x.Kind&&x.Dst==o.Dst with
 | none=>
  have:=List.find?_eq_none.1 h o ho;simp[hk]at this
 | some x=>
  have hp:=List.find?_some h;simp only[A3,zzL74]at hp
  have h1:1<=x.Dst:=by
   rcases op_dst R (List.mem_of_find?_eq_some h) with⟨_,h0⟩|⟨i,k,hi,hk',e,h1,_,_⟩
   ·rw[hp.1]at h0;cases h0
   ·exact h1
  rw[dZ R (List.mem_of_find?_eq_some h) ho h1 hp.2]
omit R in
theorem Xu{v:Int}{o:D1}(h:jK f v=some o):o∈Om f/\TB o.Kind=true/\o.Dst=v:=by
 unfold jK at h;have hp:=List.find?_some h;simp only[A3,zzL74]at hp;exact⟨List.mem_of_find?_eq_some h,hp.1,hp.2⟩
theorem jO{d:TDef}(hd:d∈Au f):k4 f d.V=ng f d:=by
 unfold k4;rw[(ST (V9 (CR R).1) hd).2]
theorem lj(hI:∀ o∈Om f,0<=o.Imm):fH (jK f) (Gd f) (k4 f):=by
 refine⟨λv ⟨d,hd,hv,_⟩=>?_,λv o _ h=>(Xu h).2.1,λv o ⟨d,hd,hv,hs⟩ h h0=>?_,λv o _ h=>hI o (Xu h).1⟩
 ·have:=kT R hd;simp only[valS,A3,Ds]at this;rw[<- hv];exact this
 ·obtain⟨hm,hk,hdst⟩:=Xu h;rcases op_dst R hm with⟨_,h2⟩|⟨i,k,hi,hkk,e,h1,_,hde⟩
  ·rw[hk]at h2;cases h2
  ·have hdd:=dq R hd hde (by rw[hv,hdst]);have hmay:=dY R hi hkk;rw[<- e]at hmay;obtain⟨m1,m2,m3,m4,m5,m6,m7⟩:=CL hmay
   have hk':o.Kind=1\/o.Kind=2\/o.Kind=3\/o.Kind=8:=by
    simp only[TB,Vv,zzL74]at hk;omega
   have hgs:Mw o.Kind o.Bits o.Lanes=(o.Bits,o.Lanes):=by rcases hk' with h|h|h|h<;>rw[h]<;>rfl
   have hel:∀ j,ID o j=(o.Bits,o.Lanes):=λj=>by unfold ID;rcases hk' with h|h|h|h<;>rw[h]<;>rfl
   have hna:M8 o.Kind o.Lanes=2:=by rcases hk' with h|h|h|h<;>rw[h]<;>rfl
   rw[hdd]at hs;have hsh:(o.Bits,o.Lanes)=((64:Int),(1:Int)):=hgs.symm.trans hs
   have hlen:o.Args.length=2:=by omega
   have harg:∀ j,j<2->Gd f (o.Args.getD j 0)/\k4 f (o.Args.getD j 0)<k4 f v:=λj hj=>by
    have hu:(⟨o.Args.getD j 0,(i:Int),(k:Int),ID o j⟩:Nf)∈Ep f:=by
     refine(iH (λb hb o ho=>jN R hb ho)).2 ⟨i,hi,.inr (.inl ⟨k,j,hkk,by rw[<- e];omega,by rw[<- e]⟩)⟩
    obtain⟨d',hd',hv',hs',ht⟩:=kS R hu;have hv':d'.V=o.Args.getD j 0:=hv';refine⟨⟨d',hd',hv',by rw[hs',<- hsh];exact hel j⟩,?_⟩;rw[<- hv',jO R hd',<- hv,jO R hd,hdd];unfold ng
    have hbn:¬ ((⟨o.Dst,(i:Int),(k:Int),Mw o.Kind o.Bits o.Lanes⟩:TDef).Block<0):=by show ¬ ((i:Int)<0);omega
    rw[if_neg hbn];have ht:d'.Block<0\/(d'.Block=(i:Int)/\d'.At<(k:Int))\/(d'.Block≠(i:Int)/\N8 (B3 f) d'.Block (i:Int)=true):=ht
    show(if d'.Block<0 then 0 else _)<(E0 (B3 f) (i:Int)).length*_+((k:Int)+2).toNat
    split
    ·omega
    ·rename_i hb
     rcases ht with h|⟨h,ha⟩|⟨h,ho⟩
     ·exact absurd h hb
     ·rw[h]
      have:(d'.At+2).toNat<((k:Int)+2).toNat:=by omega
      omega
     ·have hsh:=MG ho h
      have hat:(d'.At+2).toNat<=(Om f).length+2:=by
       rcases ri_def.1 hd' with⟨p,hp,rfl⟩|⟨p,hp,⟨q,hq,rfl⟩|⟨q,hq,_,rfl⟩⟩
       ·show((0:Int)+2).toNat<=_;simp
       ·show((-1:Int)+2).toNat<=_;simp
       ·show((q:Int)+2).toNat<=_
        have:=da hp;omega
      have hmul:((E0 (B3 f) d'.Block).length+1)*((Om f).length+5)<=(E0 (B3 f) (i:Int)).length*((Om f).length+5):=F5 _ hsh;rw[Du]at hmul;omega
   exact⟨hlen,harg 0 (by omega),harg 1 (by omega)⟩
theorem jy(hb:f.Blocks.length<9223372036854775808)(hl:∀ b∈f.Blocks,b.Ops.length<9223372036854775808):∃ M,Ma f=some M/\RZ M (jK f) (Gd f):=by
 let st (M:List (Int×D1)) (o:D1):List (Int×D1):=bif TB o.Kind then Ex M o.Dst o else M
 have inner:∀(i:Nat),i<f.Blocks.length->∀(k j:Nat) (M:List (Int×D1)),j+k=(bA f i).Ops.length->Ai (Hj f (i:Int)) ((j:Int),M)=some (((bA f i).Ops.drop j).foldl st M):=by
  intro i hi k;have hlen:=hl _ (getD_mem hi:bA f i∈f.Blocks)
  induction k with
  | zero=>
   intro j M h
   obtain rfl:j=(bA f i).Ops.length:=by omega
   rw[List.drop_length];refine Ah ?_;unfold Hj;simp only[Aw];rw[show f.Blocks.getD i default=bA f i from rfl,Jw]
   rfl
  | succ k ih=>
   intro j M h
   have hj:j<(bA f i).Ops.length:=by omega
   have hd:(bA f i).Ops.drop j=(bA f i).Ops.getD j default::(bA f i).Ops.drop (j+1):=by rw[Mq hj,Aa _ _ _ hj]
   have hs:Hj f (i:Int) ((j:Int),M)=some (.next (((j+1:Nat):Int),st M ((bA f i).Ops.getD j default))):=by
    unfold Hj;simp only[Aw];rw[show f.Blocks.getD i default=bA f i from rfl,E8 hj,Ae,Ad (Hh hj),Cy hj hlen]
    generalize (bA f i).Ops.getD j default=o
    simp only[st,TB]
    cases(o.Kind==0)<;>cases(o.Kind==1)<;>cases(o.Kind==2)<;>cases(o.Kind==3)<;>cases(o.Kind==8)<;>rfl
   rw[Am hs,ih (j+1) _ (by omega),hd,List.foldl_cons]
 have outer:∀(k i:Nat) (M:List (Int×D1)),i+k=f.Blocks.length->Ai (Hk f) ((i:Int),M)=some (((f.Blocks.drop i).flatMap (·.Ops)).foldl st M):=by
  intro k
  induction k with
  | zero=>
   intro i M h
   obtain rfl:i=f.Blocks.length:=by omega
   rw[List.drop_length];exact Ah (by unfold Hk;simp only[Jw,Ax];rfl)
  | succ k ih=>
   intro i M h
   have hi:i<f.Blocks.length:=by omega
   have hd:f.Blocks.drop i=bA f i::f.Blocks.drop (i+1):=by rw[Mq hi];exact B8 (·::_) (Aa _ _ _ hi).symm
   have hs:Hk f ((i:Int),M)=some (.next (((i+1:Nat):Int),(bA f i).Ops.foldl st M)):=by
    unfold Hk;simp only[E8 hi,Ae];have:=inner i hi (bA f i).Ops.length 0 M (by omega);rw[show(((0:Nat):Int))=0 from rfl,Je]at this;rw[Ad (Hh hi),this,Aq,Cy hi hb]
    rfl
   rw[Am hs,ih (i+1) _ (by omega),hd,Oj,List.foldl_append]
 refine⟨(Om f).foldl st [],?_,?_⟩
 ·unfold Ma;have:=outer f.Blocks.length 0 [] (by omega);rw[show(((0:Nat):Int))=0 from rfl,Je]at this;rw[this]
  rfl
 ·have key:∀(l done:List D1) (M:List (Int×D1)),(∀ o∈done++l,o∈Om f)->(∀ o∈done,TB o.Kind=true->B1 M o.Dst=true/\mget default M o.Dst=o)->(∀ v,B1 M v=true->∃ o∈done,TB o.Kind=true/\o.Dst=v)->
    (∀ o∈done++l,TB o.Kind=true->B1 (l.foldl st M) o.Dst=true/\mget default (l.foldl st M) o.Dst=o)/\(∀ v,B1 (l.foldl st M) v=true->∃ o∈done++l,TB o.Kind=true/\o.Dst=v):=by
   intro l
   induction l with
   | nil=>intro done M _ h1 h2;rw[List.append_nil];exact⟨h1,h2⟩
   | cons x l ih=>
    intro done M hin h1 h2;have hx:x∈Om f:=hin x (by simp)
    have:=ih (done++[x]) (st M x) (by rw[Oi];exact hin) (λo ho hk=>by
     rcases zzL11.1 ho with h|h
     ·obtain⟨g1,g2⟩:=h1 o h hk;simp only[st]
      cases hxk:TB x.Kind with
      | false=>exact⟨g1,g2⟩
      | true=>
       rw[Ae,S9,Xj,g1,g2]
       by_cases e:o.Dst=x.Dst
       ·have h1o:1<=o.Dst:=by
         rcases op_dst R (hin o (by simp[h])) with⟨_,h0⟩|⟨_,_,_,_,_,h1,_⟩
         ·rw[hk]at h0;cases h0
         ·exact h1
        have:=dZ R (hin o (by simp[h])) hx h1o e;subst this
        simp
       ·rw[show(o.Dst==x.Dst)=false by simp[e]];simp
     ·obtain rfl:=zzL15.1 h;simp only[st];rw[hk,Ae,S9,Xj]
      simp) (λv hv=>by
     simp only[st]at hv
     cases hxk:TB x.Kind with
     | false=>
      rw[hxk,Ax]at hv;obtain⟨o,ho,h⟩:=h2 v hv;exact⟨o,by simp[ho],h⟩
     | true=>
      rw[hxk,Ae,S9,Vv]at hv;rcases hv with hv|hv
      ·exact⟨x,by simp,hxk,(eq_of_beq hv).symm⟩
      ·obtain⟨o,ho,h⟩:=h2 v hv
       exact⟨o,by simp[ho],h⟩)
    rw[Oi]at this;exact this
  obtain⟨k1,k2⟩:=key (Om f) [] [] (λo ho=>by simpa using ho) (λo ho=>by cases ho) (λv hv=>by cases hv);rw[T8]at k1 k2;intro v hg;refine⟨?_,λo h=>?_⟩
  ·cases hd:jK f v with
   | some o=>
    obtain⟨a,b,c⟩:=Xu hd;have:=(k1 o a b).1;rw[c]at this;exact this
   | none=>
    cases hm:B1 ((Om f).foldl st []) v with
    | false=>rfl
    | true=>
     obtain⟨o,a,b,c⟩:=k2 v hm;have:=dX R a b;rw[c,hd]at this
     cases this
  ·obtain⟨a,b,c⟩:=Xu h;have:=(k1 o a b).2;rw[c]at this;exact this
end
section
variable {f:Ab} (h:Sm f)
include h
omit h in
theorem d5(hc:G7 f 2=0):mj f 2:=(iG (by omega)).1 hc
theorem QJ:f.Blocks.length<9223372036854775808/\(∀ b∈f.Blocks,b.Ops.length<9223372036854775808)/\∀ o∈Om f,0<=o.Imm:=by
 have hI:=h.1;refine⟨by have:=hI.blocks;rw[Ii]at this;omega,λb hb=>by have:=(hI.block b hb).2.1;rw[Ii]at this;omega,λo ho=>?_⟩;obtain⟨i,hi,k,hk,rfl⟩:=opsA_mem.1 ho;exact(hI.op _ (getD_mem hi) _ (getD_mem hk)).2.1
theorem cI(hc:G7 f 2=0){v:Int}(hg:Gd f v):Gr f v=some (Uk (jK f) (k4 f v+1) v,0):=by
 obtain⟨s,hs,hS⟩:=NR f h;obtain⟨p1,p2,p3⟩:=QJ h;have R:=d5 hc;obtain⟨M,m1,m2⟩:=jy R p1 p2;obtain⟨fd,f1⟩:=TS (lj R p3) m2 hg;obtain⟨d,hd,hv,hsh⟩:=hg;have hget:=hS.get hc d hd;rw[hv,hsh]at hget;unfold Gr;rw[hs,Aq,hget,m1]
 show(Gs v M []).bind _=_
 rw[f1]
 rfl
theorem fo{v:Int}(hn:¬ (G7 f 2=0/\Gd f v)):Gr f v=some (⟨[],0⟩,10):=by
 obtain⟨s,hs,hS⟩:=NR f h
 have hne:mget ((0:Int),(0:Int)) s v≠(64,1):=λe=>by
  by_cases hc:G7 f 2=0
  ·cases hm:B1 s v with
   | false=>rw[Y2 hm]at e;cases e
   | true=>
    obtain⟨d,hd,hv⟩:=hS.has hc v hm;have:=hS.get hc d hd;rw[hv,e]at this;exact hn ⟨hc,d,hd,hv,this.symm⟩
  ·have:=hS.none hc;rw[MO this]at e
   cases e
 unfold Gr;rw[hs,Aq]
 have:(!(((mget ((0:Int),(0:Int)) s v).1==(64:Int))&&(((mget ((0:Int),(0:Int)) s v).2==(1:Int))&&true)))=true:=by
  generalize mget ((0:Int),(0:Int)) s v=p at hne ⊢
  obtain⟨a,b⟩:=p
  by_cases ha:a=64
  ·have hb:b≠1:=λe=>hne (by rw[ha,e]);simp[hb]
  ·simp[ha]
 rw[this]
 rfl
end
def fB(ops:List D1)(a:Int):Ab:=⟨[64],64,[⟨[],ops,⟨0,a,[]⟩⟩]⟩
theorem mG{ops:List D1}{a:Int}(h1:ops.length<=300)(h2:∀ o∈ops,o.Args.length<=3/\0<=o.Imm/\o.Imm<18446744073709551616):Sm (fB ops a):=by
 have hb:∀ b∈(fB ops a).Blocks,b=⟨[],ops,⟨0,a,[]⟩⟩:=λb hb=>by simpa [fB] using hb
 refine mH ⟨by rw[Ii];show(1:Nat)<=_;omega,by rw[Ii];show(1:Nat)<=_;omega,λb h=>?_,λb h p hp=>?_,λb h o ho=>?_⟩ (by show 1<=64;omega) (λb h=>?_) ?_
 ·rw[hb b h,Ii];exact⟨Lu _,by show ops.length<=_;omega,Lu _⟩
 ·rw[hb b h]at hp;cases hp
 ·rw[hb b h]at ho;obtain⟨g1,g2⟩:=h2 o ho;exact⟨by rw[Ii];omega,g2⟩
 ·rw[hb b h];exact⟨Lu _,(λp hp=>by cases hp),λo ho=>by have:=(h2 o ho).1;omega⟩
 ·have hs:∀ l:List D1,(∀ o∈l,o.Args.length<=3)->(l.map LD).sum<=4*l.length:=by
   intro l
   induction l with
   | nil=>intro _;simp
   | cons x l ih=>
    intro hl;have h0:=hl x (Kq ..);have h1:=ih λo ho=>hl o (F3 _ ho);rw[Bu,Vx,Pf];unfold LD at h1 ⊢;omega
  have:=hs ops λo ho=>(h2 o ho).1
  show 1+((1+0+0+(ops.map LD).sum)+0)<=20000
  omega
def fA:Ab:=fB [⟨0,64,1,2,[],8⟩,⟨1,64,1,3,[1,2],0⟩,⟨3,64,1,4,[2,3],0⟩] 4
theorem kW:Sm fA:=mG (by show 3<=300;omega) λo ho=>by
 simp only[zzL22,List.not_mem_nil,or_false]at ho;rcases ho with rfl|rfl|rfl<;>decide
theorem VY:G7 fA 2=0:=by decide +kernel
theorem nd:Gr fA 4=some (⟨[⟨1,8⟩],64⟩,0):=by
 rw[cI kW VY (v:=4) ⟨⟨4,0,2,(64,1)⟩,by decide +kernel,rfl,rfl⟩];have R:=d5 VY;rw[W8 (lj R (QJ kW).2.2) _ 4 40 ⟨⟨4,0,2,(64,1)⟩,by decide +kernel,rfl,rfl⟩ (Nat.lt_succ_self _) (by decide +kernel)]
 show _=_
 kernel_rfl
theorem lr:Gr fA 5=some (⟨[],0⟩,10):=fo kW λ⟨_,d,hd,hv,_⟩=>by
 have:∀ d∈Au fA,d.V≠5:=by decide +kernel
 exact this d hd hv
theorem fh:m_locksteplaw17_awake=some true:=by
 have h4:=nd;have h5:=lr;unfold fA fB at h4 h5;unfold m_locksteplaw17_awake;rw[show C7=[⟨0,64,1,2,[],8⟩,⟨1,64,1,3,[1,2],0⟩,⟨3,64,1,4,[2,3],0⟩] from rfl,h4,h5]
 show _=_
 kernel_rfl
theorem OG{x:TForm}(h:okTForm x):x.Terms.length<9223372036854775808:=by
 have:=h.1.2;rw[Ii]at this;omega
theorem LU(g:Int->Int->Int)(x y:TForm):(Lo g x y).Terms.length<9223372036854775808:=by
 have:=WK (PA g x y);omega
section
variable {x y:TForm} (hx:C6 0 x.Terms=true) (hy:C6 0 y.Terms=true)
include hx
end
theorem X1{x y:TForm}(hx:x.Terms.length<9223372036854775808)(h:x=y):A8 x y=some true:=by rw[dk hx,E7 h]
theorem sums17(x y:TForm)(n:Int)(hx:okTForm x)(hy:okTForm y):F7 x y n=some true:=by
 have lx:=OG hx;have ly:=OG hy;unfold F7;rw[fh,Aq,show(!true)=false from rfl,Ax]
 cases hb:(bif (decide (((200:Int):Int)<(x.Terms.length:Int))) then true else(decide (((200:Int):Int)<(y.Terms.length:Int)))) with
 | true=>rfl
 | false=>
  rw[Ax,cK lx ly,Aq,VU lx ly,Aq,CD lx,Aq,DH lx,Aq,jM lx,Aq,show(C6 0 x.Terms !=C6 0 x.Terms)=false by simp,show(false==false)=true from rfl,Ae,
   jv lx,Aq,Ae,dk lx,Aq,show(bif false then true else(decide (x=y)!=decide (x=y)))=false by simp,Ax,Aq]
  cases hm:C6 0 x.Terms with
  | false=>
   rw[show(!false)=true from rfl,Ae]
   have e1:∀ g,Lo g x y=⟨[],0⟩:=λg=>by unfold Lo;rw[hm];rfl
   have e2:∀ g,Lo g x EM=⟨[],0⟩:=λg=>by unfold Lo;rw[hm];rfl
   rw[e1,e1,e2,X1 (by simp) rfl,Aq,show(true==true)=true from rfl,Ae,Aq]
   rfl
  | true=>
   rw[show(!true)=false from rfl,Ax,iA hm,Aq,X1 (LU _ _ _) rfl,Aq,show(!true)=false from rfl,Ax,jM ly,Aq]
   cases hn:C6 0 y.Terms with
   | false=>
    rw[show(!false)=true from rfl,Ae]
    have e1:∀ g,Lo g x y=⟨[],0⟩:=λg=>by unfold Lo;rw[hm,hn];rfl
    rw[e1,e1,X1 (by simp) rfl,Aq,show(true==true)=true from rfl,Ae,Aq]
    rfl
   | true=>
    rw[show(!true)=false from rfl,Ax,kQ hm hn,Aq,X1 (LU _ _ _) rfl,Aq,show(true==true)=true from rfl,Ae,h9 hm hn,Aq,Ae,X1 (LU _ _ _) rfl,Aq]
    rfl
end
end Go.Proofs.YtiendmljhgbjoaaGreat
