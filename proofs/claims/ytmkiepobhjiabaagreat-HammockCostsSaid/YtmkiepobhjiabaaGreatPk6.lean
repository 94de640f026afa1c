/-
  The machine, the program's functions and the laws' arithmetic: part 6 of 6.
-/
import Derived.Test.YtmkiepobhjiabaaGreatPk5
set_option linter.unusedVariables false
set_option linter.unusedSimpArgs false
namespace Go.Proofs.YtmkiepobhjiabaaGreat
noncomputable section
open Go Go.RowKit
theorem ofN_getD{P:List Nat}{i:Nat}(h:i<P.length):(S4 P).getD i 0=((P.getD i 0:Nat):Int):=by
 unfold S4;rw[Ai _ _ _ (by simpa using h),Ai _ _ _ h,List.getElem_map]
 rfl
theorem set_same{t:List Int}{x:Nat}{v:Int}(hx:x<t.length)(h:t.getD x 0=v):t.set x v=t:=by
 subst h;rw[Ai _ _ _ hx];exact List.set_getElem_self hx
section
variable {L:List (List Int)} (hm:Lt L=true) {r:Nat} {P:List Nat} (o:Ordered (sN L) r L.length P)
include hm o
theorem round_loop{t0:List Int}(h:Ready (sN L) r L.length P t0 0):∀(k i:Nat) (b:Bool),i+k=P.length->
  ∃ b',Ag (Fj (I7 L) (S4 (r::P))) (b,(i:Int),Wx (sN L) L.length P t0 i)=some (b',Wx (sN L) L.length P t0 P.length) /\
   (b'=false↔b=false/\∀ j,i<=j->j<P.length->Bk (Wx (sN L) L.length P t0 j) (P.getD j 0)=(N2 (sN L) L.length (Wx (sN L) L.length P t0 j) (P.getD j 0):Int)):=by
 have hP64:P.length<=64:=by
  have h1:=Pm L.length (r::P) o.nodup fun x hx=>o.lt hx;have h2:=(mayS_iff.1 hm).2.1;simp at h1;omega
 have hdl:(S4 (r::P)).drop (1:Int).toNat=S4 P:=rfl
 have hlen:(S4 P).length=P.length:=by simp[S4]
 intro k
 induction k with
 | zero=>
  intro i b hi
  obtain rfl:i=P.length:=by omega
  refine⟨b,Ao ?_,fun h=>⟨h,fun j h1 h2=>by omega⟩,fun h=>h.1⟩;unfold Fj;simp only[hdl,hlen,Gf,Ar]
 | succ k ih=>
  intro i b hi
  have hil:i<P.length:=by omega
  have rd:=h.round o i (by omega);have hma:=meetAll_best hm o rd hil;have hyn:P.getD i 0<L.length:=o.lt (zzL18 _ (Rd hil))
  have hyt:P.getD i 0<(Wx (sN L) L.length P t0 i).length:=by rw[rd.len];exact hyn
  have hpred:(I7 L).Pred=Ct L:=rfl
  by_cases he:Bk (Wx (sN L) L.length P t0 i) (P.getD i 0)=(N2 (sN L) L.length (Wx (sN L) L.length P t0 i) (P.getD i 0):Int)
  ·have hb:((N2 (sN L) L.length (Wx (sN L) L.length P t0 i) (P.getD i 0):Int)!=(Wx (sN L) L.length P t0 i).getD (P.getD i 0) 0)=false:=by
    have:(Wx (sN L) L.length P t0 i).getD (P.getD i 0) 0=_:=he;rw[this];simp
   have hnx:Wx (sN L) L.length P t0 (i+1)=Wx (sN L) L.length P t0 i:=set_same hyt he
   have hs:Fj (I7 L) (S4 (r::P)) (b,(i:Int),Wx (sN L) L.length P t0 i)=some (.next (b,((i+1:Nat):Int),Wx (sN L) L.length P t0 (i+1))):=by
    unfold Fj;simp only[hdl,hlen,De hil,Af,Au,ofN_getD hil,hpred,hma,An,hb,Ar];rw[Ad (Gc hil),Ad (Gc (by rw[Oa];exact hyn)),Ad (Gc hyt),An,w1 (by omega),hnx]
   obtain⟨b',e1,e2⟩:=ih (i+1) b (by omega);refine⟨b',by rw[Ay hs,e1],fun h=>?_,fun⟨h1,h2⟩=>e2.2 ⟨h1,fun j hj=>h2 j (by omega)⟩⟩;obtain⟨h1,h2⟩:=e2.1 h;refine⟨h1,fun j hj1 hj2=>?_⟩
   by_cases e:j=i
   ·subst e;exact he
   ·exact h2 j (by omega) hj2
  ·have hb:((N2 (sN L) L.length (Wx (sN L) L.length P t0 i) (P.getD i 0):Int)!=(Wx (sN L) L.length P t0 i).getD (P.getD i 0) 0)=true:=by
    rw[zzL101];exact fun e=>he e.symm
   have hs:Fj (I7 L) (S4 (r::P)) (b,(i:Int),Wx (sN L) L.length P t0 i)=some (.next (true,((i+1:Nat):Int),Wx (sN L) L.length P t0 (i+1))):=by
    unfold Fj;simp only[hdl,hlen,De hil,Af,Au,ofN_getD hil,hpred,hma,An,hb];rw[Ad (Gc hil),Ad (Gc (by rw[Oa];exact hyn)),Ad (Gc hyt),Ad (Gc hyt),An,w1 (by omega)]
    rfl
   obtain⟨b',e1,e2⟩:=ih (i+1) true (by omega);refine⟨b',by rw[Ay hs,e1],fun h=>?_,fun⟨h1,h2⟩=>absurd (h2 i (zzL9 _) hil) he⟩;obtain⟨h1,_⟩:=e2.1 h;cases h1
theorem round_all{t0:List Int}(h:Ready (sN L) r L.length P t0 0):∃ b,Ag (Fj (I7 L) (S4 (r::P))) (false,(0:Int),t0)=some (b,Wx (sN L) L.length P t0 P.length)/\(b=false↔Vq (sN L) L.length P t0):=by
 obtain⟨b,e1,e2⟩:=round_loop hm o h P.length 0 false (by omega);refine⟨b,e1,e2.trans ⟨fun⟨_,h2⟩=>?_,fun hs=>⟨rfl,fun j _ hj=>?_⟩⟩⟩
 ·have key:∀ j,j<=P.length->Wx (sN L) L.length P t0 j=t0:=by
   intro j
   induction j with
   | zero=>intro _;rfl
   | succ j ih=>
    intro hj;have ih':=ih (by omega);have rd:=h.round o j (by omega)
    have hyn:P.getD j 0<(Wx (sN L) L.length P t0 j).length:=by rw[rd.len];exact o.lt (zzL18 _ (Rd (by omega)))
    have:Wx (sN L) L.length P t0 (j+1)=Wx (sN L) L.length P t0 j:=set_same hyn (h2 j (Qe _) (by omega));rw[this,ih']
  intro i hi;have:=h2 i (Qe _) hi;rwa[key i (by omega)]at this
 ·rw[Yd o h.len hs j (by omega)];exact hs j hj
open Classical in
theorem tree_F3(j:Nat):Gy (I7 L) (S4 (r::P),rnR (sN L) L.length P (H0 L.length r) j)=some (if Vq (sN L) L.length P (rnR (sN L) L.length P (H0 L.length r) j) then .done (rnR (sN L) L.length P (H0 L.length r) (j+1)) else .next (S4 (r::P),rnR (sN L) L.length P (H0 L.length r) (j+1))):=by
 obtain⟨b,e1,e2⟩:=round_all hm o (Ready.rounds o j);have hL2:Px (I7 L) (S4 (r::P))=Fj (I7 L) (S4 (r::P)):=rfl
 have hlen:(0:Int)<=1/\(1:Int)<=((S4 (r::P)).length:Int):=by simp[S4];omega
 unfold Gy;simp only[hL2,e1,An];rw[Ad hlen]
 cases b with
 | false=>rw[if_pos (e2.1 rfl)];rfl
 | true=>rw[if_neg (fun h=>by have:=e2.2 h;cases this)];rfl
theorem tree_rounds:∃ J,Vq (sN L) L.length P (rnR (sN L) L.length P (H0 L.length r) J)/\Ag (Gy (I7 L)) (S4 (r::P),H0 L.length r)=some (rnR (sN L) L.length P (H0 L.length r) J):=by
 obtain⟨J,h1,h2⟩:=stops o;refine⟨J,h2,?_⟩
 have key:∀ d j,j+d=J->Ag (Gy (I7 L)) (S4 (r::P),rnR (sN L) L.length P (H0 L.length r) j)=some (rnR (sN L) L.length P (H0 L.length r) J):=by
  intro d
  induction d with
  | zero=>
   intro j hj
   obtain rfl:j=J:=by omega
   have hF:=tree_F3 hm o j;rw[if_pos h2]at hF;rw[Ao hF];have:rnR (sN L) L.length P (H0 L.length r) (j+1)=rnR (sN L) L.length P (H0 L.length r) j:=Yd o (Ready.rounds o j).len h2 P.length (zzL9 _);rw[this]
  | succ d ih=>
   intro j hj;have hF:=tree_F3 hm o j;rw[if_neg (h1 j (by omega))]at hF;rw[Ay hF];exact ih (j+1) (by omega)
 exact key J 0 (by omega)
end
theorem m_Tree(g:TGraph)(r:Int)(h1:Fits g.Succ)(h2:Fits g.Pred):N6 g r=some (treeG g r):=by
 unfold treeG
 by_cases hc:Uw g=true/\0<=r/\r<(g.Succ.length:Int)
 ·rw[if_pos hc];obtain⟨hG,h0,hlt⟩:=hc;obtain⟨hm,hg⟩:=mayG_eq hG;obtain⟨hL1,hL64,_⟩:=mayS_iff.1 hm
  have hr:r.toNat<g.Succ.length:=by omega
  have hrn:((r.toNat:Nat):Int)=r:=V7 h0;obtain⟨O,hO⟩:=Ord.exist (V3 hm) hr;have hord:=(m_order g h1 trivial r).1 hG h0 hlt O hO;obtain⟨P,rfl,o⟩:=hO.ordered hr (V3 hm);obtain⟨J,hJ,hl⟩:=tree_rounds hm o;have ht:=(still_exact o hJ).eq hm hr o;rw[ht]at hl;have hlen:(((S4 (r.toNat::P)).length:Int)==0)=false:=zzL34.2 (by simp[S4];omega)
  have hlen2:(0:Int)<=1/\(1:Int)<=((S4 (r.toNat::P)).length:Int):=by simp[S4];omega
  have hL2:Px g (S4 (r.toNat::P))=Fj g (S4 (r.toNat::P)):=rfl
  have hst:(Pq (Gy g (S4 (r.toNat::P),H0 g.Succ.length r.toNat)) (Gy g))=some (V4 g.Succ r.toNat):=by
   rw[scopeO_from,hg];exact hl
  unfold N6;rw[hord,An,hlen,Ar,m_repeat hL1 hL64,An,Ad (inbz h0 (by simpa using hlt)),Ad hlen2]
  have:(Gy g (S4 (r.toNat::P),H0 g.Succ.length r.toNat))=(Ag (Fj g (S4 (r.toNat::P))) (false,0,(List.replicate g.Succ.length (-2:Int)).set r.toNat (-1))).bind (fun x22=>(match x22 with|(b10,l11)=>(bif b10 then(some (.next (S4 (r.toNat::P),l11))) else(some (.done l11))))):=by
   unfold Gy H0;simp only[hL2];rw[Ad hlen2]
  rw[this]at hst;refine Eq.trans ?_ (Cl (fun x:Option (List Int)=>x.bind fun x42=>some x42) hst)
  rfl
 ·rw[if_neg hc];unfold N6
  have:(Uw g&&(decide (0<=r)&&decide (r<(g.Succ.length:Int))))=false:=by
   rw[Bool.eq_false_iff];intro h;rw[Bc,Bc,Jd,Jd]at h;exact hc h
  rw[(m_order g h1 trivial r).2 this,An]
  rfl
theorem allR{α:Type}(l:List α)(d:α)(p:α->Bool){X:Type}(f:Int->Option (LR Int X))(yes no:X)(hl:l.length<9223372036854775808)(hk:∀ i:Nat,i<l.length->f i=some (bif p (l.getD i d) then .next (w64 ((i:Int)+1)) else .done no))
  (he:f l.length=some (.done yes)):Ag f (0:Int)=some (bif l.all p then yes else no):=by
 have:=Hc l d p f yes no (fun i hi hp=>by rw[hk i hi,hp,Af,A8 hi hl]) (fun i hi hp=>by rw[hk i hi,hp,Ar]) he l.length 0 (by omega);rwa[Kk]at this
theorem c_told(f:TFunc)(hf:InF f)(l:Int)(t:List Int)(u:List Aq):H8 f l t u=some (bif Tu f then 0 else 4,f,l,t,u):=by
 unfold H8 Ks;rw[xmay f hf,An]
 cases Tu f<;>rfl
theorem c_phisFit(phis:List H1)(l:List Int)(h1:phis.length<9223372036854775808)(h2:l.length<4611686018427387904):Lr phis l=some (phis.all (Hp l)):=by
 unfold Lr
 rw[allR phis (default:H1) (Hp l) (Jj phis l) (.inl ()) (.inr false) h1 (fun i hi=>by
  unfold Jj
  have hd:decide ((i:Int)<(phis.length:Int))=true:=by simpa using hi
  simp only[hd,Af,Ac (Ap hi),Eo,m_equal _ _ h2,An,Hp]
  cases decide ((phis.getD i default).From=l) with
  | false=>rfl
  | true=>
   simp only[Df,Ar,F8,bne]
   cases(((phis.getD i default).Args.length:Int)==(l.length:Int))<;>rfl) (by unfold Jj;simp),An]
 cases phis.all (Hp l)<;>rfl
def argF(e:Lo):Bool:=!((e.Kind==1 || e.Kind==3)&&(e.Arg !=0))
theorem c_argFits{n:Nat}(e:Lo)(hk:Na e n=true):J1 e=some (argF e):=by
 have h4:0<=e.Kind/\e.Kind<=3:=by
  have:=(Bc _ _▸hk:Zt e=true/\toB n e.To=true).1;unfold Zt at this;simp only[Bc,Jd]at this;omega
 unfold J1 argF
 have:e.Kind=0\/e.Kind=1\/e.Kind=2\/e.Kind=3:=by omega
 rcases this with h|h|h|h<;>rw[h]<;>cases hb:(e.Arg==0)<;>simp[hb,bne]
theorem order_full{L:List (List Int)}(hm:Lt L=true){P:List Nat}(h0:0<L.length)(o:Ord (sN L) 0 P):decide (P.length<L.length) = !(List.range L.length).all fun i=>(M5 L).getD i false:=by
 have hin:∀ x∈P,x<L.length:=fun x hx=>(by obtain⟨Q,rfl,oo⟩:=o.ordered h0 (V3 hm);exact oo.lt hx)
 have hr:∀ z,(M5 L).getD z false=true↔z∈P:=fun z=>by
  rw[o.mem z];exact rds_spec (V3 hm) h0 z
 have hle:=Pm L.length P o.nodup hin
 cases ha:(List.range L.length).all fun i=>(M5 L).getD i false with
 | true=>
  have:=((List.perm_ext_iff_of_nodup o.nodup List.nodup_range).2 fun i=>⟨fun h=>zzL52.2 (hin i h),fun h=>(hr i).1 (zzL30.1 ha i h)⟩:P.Perm (List.range L.length)).length_eq;rw[zzL113]at this
  simp;omega
 | false=>
  obtain⟨i,hi,hni⟩:∃ i,i<L.length/\i∉P:=zzL110 fun hc=>by
   have:(List.range L.length).all (fun i=>(M5 L).getD i false)=true:=zzL30.2 fun i hi=>(hr i).2 (zzL110 fun hn=>hc ⟨i,by simpa using hi,hn⟩);rw[this]at ha;cases ha
  have:(i::P).length<=L.length:=Pm L.length (i::P) (zzL98.2 ⟨hni,o.nodup⟩) (fun x hx=>by rcases zzL29.1 hx with rfl|hx;exact hi;exact hin x hx);simp at this ⊢;omega
theorem c_shaped {f : TFunc} (hf : OkF f) (l : Int) (t : List Int) (u : List Aq) : ∃ t', G1 f l t u = some (bif G8 f then 0 else 5, f, l, t', u) ∧ (G8 f = true → t' = Da f) := by
  have hmax : f.Blocks.length ≤ maxLen := by have := hf.blocks; have : (64 : Nat) ≤ maxLen := by decide
                                             omega
  unfold G1; rw [m_of f hmax, An]
  cases hs : Ln f with
  | false => exact ⟨t, by unfold G8; rw [hs]; rfl, fun h => by unfold G8 at h; rw [hs] at h; cases h⟩
  | true =>
    have hm := O4 hs; have hlen := T4 f
    have hpos : 0 < (Bl f).length := by have := (shape_iff.1 hs).1.1; omega
    obtain ⟨h1, h2⟩ := gOf_fits hm; obtain ⟨P, hP⟩ := Ord.exist (V3 hm) hpos; have ho := (m_order (I7 (Bl f)) h1 trivial 0).1 (mayG_gOf hm) (by omega) (by show (0 : Int) < ((Bl f).length : Int); omega) P hP; have hfull := order_full hm hpos hP; simp only [Af, show (((0 : Int) != 0) == false) = true from rfl, show ((0 : Int) != 0) = false from rfl, Ar, ho, An, show (false == false) = true from rfl]
    have e1 : decide (((S4 P).length : Int) < (f.Blocks.length : Int)) = decide (P.length < (Bl f).length) := by
      rw [hlen]; apply zzL60.2; simp [S4]
    rw [e1, hfull]
    have hsd : G8 f = (((List.range f.Blocks.length).all fun i => (M5 (Bl f)).getD i false) && (List.range f.Blocks.length).all fun i => argF (f.Blocks.getD i default).End && (f.Blocks.getD i default).Phis.all (Hp ((Ct (Bl f)).getD i []))) := by
      unfold G8; rw [hs, F8]
      have : ∀ (n : Nat) (p q : Nat → Bool), ((List.range n).all fun i => p i && q i) = ((List.range n).all p && (List.range n).all q) := fun n p q => by
        rw [Nw, Bc, zzL30, zzL30, zzL30]
        constructor
        · intro h; exact ⟨fun x hx => ((Bc _ _).mp (h x hx)).1, fun x hx => ((Bc _ _).mp (h x hx)).2⟩
        · intro h x hx; rw [Bc]; exact ⟨h.1 x hx, h.2 x hx⟩
      rw [← this]
      congr 1
      funext i
      show (_ && _ && _) = _
      rw [Bool.and_assoc]
      rfl
    rw [hlen]; rw [hsd]
    cases hr : (List.range f.Blocks.length).all fun i => (M5 (Bl f)).getD i false with
    | false => exact ⟨t, rfl, fun h => by cases h⟩
    | true =>
      refine ⟨Da f, ?_, fun _ => rfl⟩; rw [Df, Ar, m_Tree _ 0 h1 h2, An, F8]; have hp := Vd hm
      have hpl : (I7 (Bl f)).Pred.length = f.Blocks.length := by rw [← hlen]; exact Oa _
      have key : Ag (C9 f l u (I7 (Bl f), 0) (Da f)) (0 : Int) = some (bif (List.range f.Blocks.length).all (fun i => argF (f.Blocks.getD i default).End && (f.Blocks.getD i default).Phis.all (Hp ((Ct (Bl f)).getD i []))) then .inl () else .inr ((5 : Int), f, l, Da f, u)) := by
        have hk : ∀ i : Nat, i < f.Blocks.length → C9 f l u (I7 (Bl f), 0) (Da f) (i : Int) = some (bif (argF (f.Blocks.getD i default).End && (f.Blocks.getD i default).Phis.all (Hp ((Ct (Bl f)).getD i []))) then .next ((i : Int) + 1) else .done (.inr ((5 : Int), f, l, Da f, u))) := fun i hi => by
          have hB := hf.block _ (Aw (d := (default : Ah)) hi); have hpi : A5 (i : Int) (I7 (Bl f)).Pred.length := Ap (by omega); have hpg : ((I7 (Bl f)).Pred.getD i []).length ≤ 64 := hp.2 _ (Aw (by rw [Oa]; omega)); unfold C9
          have hd : decide ((i : Int) < (f.Blocks.length : Int)) = true := by simpa using hi
          simp only [hd, Af, Ac (Ap hi), Ac hpi, Eo, c_phisFit (f.Blocks.getD i default).Phis ((I7 (Bl f)).Pred.getD i []) (by have := hB.phis; omega) (by omega), An]; have ha : J1 (⟨(f.Blocks.getD i default).End.Kind, (f.Blocks.getD i default).End.Arg, (f.Blocks.getD i default).End.To⟩ : Lo) = some (argF (f.Blocks.getD i default).End) := c_argFits (n := f.Blocks.length) (f.Blocks.getD i default).End ((shape_iff.1 hs).2 i hi); rw [ha, A8 hi (by have := hf.blocks; omega)]
          show _ = some (bif (argF (f.Blocks.getD i default).End && (f.Blocks.getD i default).Phis.all (Hp ((I7 (Bl f)).Pred.getD i []))) then _ else _)
          cases (f.Blocks.getD i default).Phis.all (Hp ((I7 (Bl f)).Pred.getD i [])) <;> cases argF (f.Blocks.getD i default).End <;> rfl
        exact loop_allN _ _ _ _ _ (fun i hi hp => by rw [hk i hi, hp]; rfl) (fun i hi hp => by rw [hk i hi, hp]; rfl) (by unfold C9; simp)
      show ((Ag (C9 f l u (I7 (Bl f), 0) (Da f)) (0 : Int)).bind _) = _
      rw [key, An]
      cases (List.range f.Blocks.length).all (fun i => argF (f.Blocks.getD i default).End && (f.Blocks.getD i default).Phis.all (Hp ((Ct (Bl f)).getD i []))) <;> rfl
theorem c_isOf(o:Dp)(l:Int)(h0:0<=l)(h2:l<=2)(hk:La o=true):Ov o l=some (!decide (levMost l<o.Kind)&&!(decide (l<2)&&decide (1<o.Lanes))):=by
 have hl:=lanes_of hk
 have hK:o.Kind<=22:=by
  simp only[La,Bc]at hk;have:=hk.1.2.1.1.1;unfold isK at this;simp only[Bc,Jd]at this;omega
 unfold Ov levMost
 have:l=0\/l=1\/l=2:=by omega
 rcases this with rfl|rfl|rfl
 ·have ha:decide (o.Kind<=17) = !decide (17<o.Kind):=by rw[Nw];simp
  have hb:(o.Lanes==1) = !decide (1<o.Lanes):=by rw[Nw];simp;omega
  show some (bif decide (o.Kind<=17) then(o.Lanes==1) else false)=some (!decide (17<o.Kind)&&!(true&&decide (1<o.Lanes)))
  rw[ha,hb]
  cases decide (17<o.Kind)<;>cases decide (1<o.Lanes)<;>rfl
 ·have ha:decide (o.Kind<=20) = !decide (20<o.Kind):=by rw[Nw];simp
  have hb:(o.Lanes==1) = !decide (1<o.Lanes):=by rw[Nw];simp;omega
  show some (bif decide (o.Kind<=20) then(o.Lanes==1) else false)=some (!decide (20<o.Kind)&&!(true&&decide (1<o.Lanes)))
  rw[ha,hb]
  cases decide (20<o.Kind)<;>cases decide (1<o.Lanes)<;>rfl
 ·show some true=some (!decide (22<o.Kind)&&!(false&&decide (1<o.Lanes)))
  rw[C0 (by omega)]
  rfl
theorem c_opTyped(o:Dp)(ho:OpOk o)(f:TFunc)(l:Int)(h0:0<=l)(h2:l<=2)(t:List Int)(u:List Aq):Gk o f l t u=some (M3 l o,f,l,t,u):=by
 unfold Gk M3;rw[kind_May o ho,An]
 cases hk:La o with
 | false=>rfl
 | true=>
  rw[show(true==true)=true from rfl,Af,c_isOf o l h0 h2 hk,An,Af,F8]
theorem c_allOp(b:Ah){f:TFunc}(hf:OkF f)(hb:b∈f.Blocks)(l:Int)(h0:0<=l)(h2:l<=2)(t:List Int)(u:List Aq):Jh b.Ops f l t u=some (b.Ops.all (M3 l),f,l,t,u):=by
 have hB:=hf.block b hb
 have key:∀ k i:Nat,i+k=b.Ops.length->Ag (F3 b.Ops) ((i:Int),f.Params,f.Ret,f.Blocks,l,t,u)=some (bif (b.Ops.drop i).all (M3 l) then .inl (f.Params,f.Ret,f.Blocks,l,t,u) else .inr (false,f,l,t,u)):=by
  intro k
  induction k with
  | zero=>
   intro i h
   obtain rfl:i=b.Ops.length:=by omega
   rw[Ao (x:=.inl (f.Params,f.Ret,f.Blocks,l,t,u)) (by unfold F3;simp)]
   simp
  | succ k ih=>
   intro i h
   have hi:i<b.Ops.length:=by omega
   have hd:decide ((i:Int)<(b.Ops.length:Int))=true:=by simpa using hi
   have hdr:b.Ops.drop i=b.Ops.getD i default::b.Ops.drop (i+1):=by rw[Ym hi,Ai _ _ _ hi]
   have hx:=c_opTyped (b.Ops.getD i default) (opOk hf hb (Aw hi)) f l h0 h2 t u;rw[hdr,V9]
   cases ho:M3 l (b.Ops.getD i default) with
   | true=>
    rw[ho]at hx
    rw[Ay (s':=(((i+1:Nat):Int),f.Params,f.Ret,f.Blocks,l,t,u)) (by
     unfold F3;simp only[hd,Af,Ac (Ap hi),Eo,hx,An,Df,Ar,A8 hi (by have:=hB.ops;omega)]
     rfl),ih (i+1) (by omega),F8]
   | false=>
    rw[ho]at hx
    rw[Ao (x:=.inr (false,f,l,t,u)) (by
     unfold F3
     simp only[hd,Af,Ac (Ap hi),Eo,hx,An,L2])]
    rfl
 unfold Jh;rw[show(0:Int)=((0:Nat):Int) from rfl,key b.Ops.length 0 (by omega),Kk,An]
 cases b.Ops.all (M3 l)<;>rfl
theorem c_allPhi(b:Ah)(h:b.Phis.length<9223372036854775808):Iy b.Phis=some (b.Phis.all fun p=>widthB p.Bits):=by
 unfold Iy
 rw[allR b.Phis (default:H1) (fun p=>widthB p.Bits) (G0 b.Phis) (.inl ()) (.inr false) h (fun i hi=>by
  unfold G0 Mw
  have hd:decide ((i:Int)<(b.Phis.length:Int))=true:=by simpa using hi
  simp only[hd,Af,Ac (Ap hi),Eo,T7,An]
  cases widthB (b.Phis.getD i default).Bits<;>rfl) (by unfold G0;simp),An]
 cases b.Phis.all fun p=>widthB p.Bits<;>rfl
theorem c_allInt(p:List Int)(h:p.length<9223372036854775808):Lq p=some (p.all widthB):=by
 unfold Lq
 rw[allR p (0:Int) widthB (Ji p) (.inl ()) (.inr false) h (fun i hi=>by
  unfold Ji
  have hd:decide ((i:Int)<(p.length:Int))=true:=by simpa using hi
  simp only[hd,Af,Ac (Ap hi),Eo,T7,An]
  cases widthB (p.getD i 0)<;>rfl) (by unfold Ji;simp),An]
 cases p.all widthB<;>rfl
theorem c_blockTyped(b:Ah){f:TFunc}(hf:OkF f)(hb:b∈f.Blocks)(l:Int)(h0:0<=l)(h2:l<=2)(t:List Int)(u:List Aq):Fb b f l t u=some (Hq l b,f,l,t,u):=by
 unfold Fb Hq;rw[c_allPhi b (by have:=(hf.block b hb).phis;omega),An,c_allOp b hf hb l h0 h2 t u]
 cases(b.Phis.all fun p=>widthB p.Bits)<;>rfl
theorem c_typed{f:TFunc}(hf:OkF f)(l:Int)(h0:0<=l)(h2:l<=2)(t:List Int)(u:List Aq):He f l t u=some (bif Te f l then 0 else 6,f,l,t,u):=by
 have key:∀ k i:Nat,i+k=f.Blocks.length->Ag (Eg f.Blocks) ((i:Int),f.Params,f.Ret,f.Blocks,l,t,u)=some (bif (f.Blocks.drop i).all (Hq l) then .inl (f.Params,f.Ret,f.Blocks,l,t,u) else .inr (false,f,l,t,u)):=by
  intro k
  induction k with
  | zero=>
   intro i h
   obtain rfl:i=f.Blocks.length:=by omega
   rw[Ao (x:=.inl (f.Params,f.Ret,f.Blocks,l,t,u)) (by unfold Eg;simp)]
   simp
  | succ k ih=>
   intro i h
   have hi:i<f.Blocks.length:=by omega
   have hd:decide ((i:Int)<(f.Blocks.length:Int))=true:=by simpa using hi
   have hdr:f.Blocks.drop i=f.Blocks.getD i default::f.Blocks.drop (i+1):=by rw[Ym hi,Ai _ _ _ hi]
   have hx:=c_blockTyped (f.Blocks.getD i default) hf (Aw hi) l h0 h2 t u;rw[hdr,V9]
   cases ho:Hq l (f.Blocks.getD i default) with
   | true=>
    rw[ho]at hx
    rw[Ay (s':=(((i+1:Nat):Int),f.Params,f.Ret,f.Blocks,l,t,u)) (by
     unfold Eg;simp only[hd,Af,Ac (Ap hi),Eo,hx,An,Df,Ar,A8 hi (by have:=hf.blocks;omega)]
     rfl),ih (i+1) (by omega),F8]
   | false=>
    rw[ho]at hx
    rw[Ao (x:=.inr (false,f,l,t,u)) (by
     unfold Eg
     simp only[hd,Af,Ac (Ap hi),Eo,hx,An,L2])]
    rfl
 have hall:Hd f.Blocks f l t u=some (f.Blocks.all (Hq l),f,l,t,u):=by
  unfold Hd;rw[show(0:Int)=((0:Nat):Int) from rfl,key f.Blocks.length 0 (by omega),Kk,An]
  cases f.Blocks.all (Hq l)<;>rfl
 unfold He Te Ks;rw[c_allInt _ (by have:=hf.few;omega),An,hall,T7]
 cases f.Params.all widthB<;>cases widthB f.Ret<;>cases f.Blocks.all (Hq l)<;>rfl
def atD(d:Bv):I6:=bif decide (d.Block<0) then⟨0,-1⟩ else⟨d.Block,d.At⟩
def valD(d:Bv):Aj:=⟨d.Shape,atD d⟩
def dv(l:List Bv):List (Int×Aj):=l.map fun d=>(d.V,valD d)
def badD(acc:List (Int×Aj))(v:Int):Bool:=(Gb acc v || decide (v<1)) || decide (1023<v)
def Jt:List (Int×Aj)->List Bv->Bool×List (Int×Aj)
 | acc,[]=>(true,acc)
 | acc,d::ds=>bif badD acc d.V then(false,acc) else Jt (Mj acc d.V (valD d)) ds
theorem defGo_app:∀(a b:List Bv) (acc:List (Int×Aj)),Jt acc (a++b)=bif (Jt acc a).1 then Jt (Jt acc a).2 b else Jt acc a
 | [],b,acc=>rfl
 | d::a,b,acc=>by
  rw[zzL91];simp only[Jt]
  cases badD acc d.V with
  | true=>rfl
  | false=>simp only[Ar];exact defGo_app a b _
theorem mhas_any{V:Type}(k:Int):∀ l:List (Int×V),Gb l k=l.any fun q=>k==q.1
 | []=>rfl
 | (a,b)::l=>by rw[List.any_cons,<- mhas_any k l];rfl
theorem msetC_new{V:Type}(k:Int)(v:V):∀{l:List (Int×V)},Gb l k=false->Mj l k v=l++[(k,v)]
 | [],_=>rfl
 | (a,b)::l,h=>by
  simp only[Gb,zzL123]at h;simp only[Mj,h.1,Ar,msetC_new k v h.2,zzL91]
theorem c_define(v:Int)(s:Int×Int)(p:I6)(f:TFunc)(l:Int)(t:List Int)(vs:List (Int×Aj))(u:List Aq) :
  Fm v s p f l t vs u=some (bif badD vs v then(false,f,l,t,u,vs) else(true,f,l,t,u,Mj vs v ⟨s,p⟩)):=by
 unfold Fm badD
 cases Gb vs v<;>cases decide (v<1)<;>cases decide (1023<v)<;>rfl
def resD(f:TFunc)(l:Int)(t:List Int)(u:List Aq)(r:Bool×List (Int×Aj)):(List Int×Int×List Ah×Int×List Int×List Aq×List (Int×Aj)) ⊕ (Bool×TFunc×Int×List Int×List Aq×List (Int×Aj)):=
 bif r.1 then .inl (f.Params,f.Ret,f.Blocks,l,t,u,r.2) else .inr (false,f,l,t,u,r.2)
theorem c_phis(b:Ah)(h:b.Phis.length<9223372036854775808)(i:Nat)(f:TFunc)(l:Int)(t:List Int)(u:List Aq):∀(k j:Nat) (vs:List (Int×Aj)),j+k=b.Phis.length->
  Ag (Db (i:Int) b) ((j:Int),f.Params,f.Ret,f.Blocks,l,t,u,vs)=some (resD f l t u (Jt vs ((List.range' j k).flatMap fun(k:Nat)=>[(⟨(b.Phis.getD k default).Dst,i,-1,((b.Phis.getD k default).Bits,1)⟩:Bv)]))):=by
 intro k
 induction k with
 | zero=>
  intro j vs hj
  obtain rfl:j=b.Phis.length:=by omega
  rw[Ao (x:=.inl (f.Params,f.Ret,f.Blocks,l,t,u,vs)) (by unfold Db;simp)]
  rfl
 | succ k ih=>
  intro j vs hj
  have hi:j<b.Phis.length:=by omega
  have hd:decide ((j:Int)<(b.Phis.length:Int))=true:=by simpa using hi
  have hx:=c_define (b.Phis.getD j default).Dst ((b.Phis.getD j default).Bits,1) (⟨(i:Int),-1⟩:I6) f l t vs u
  have hat:atD (⟨(b.Phis.getD j default).Dst,i,-1,((b.Phis.getD j default).Bits,1)⟩:Bv)=⟨(i:Int),-1⟩:=by unfold atD;rw[C0 (by show ¬ (i:Int)<0;omega)];rfl
  rw[Yn,zzL95,List.singleton_append];simp only[Jt]
  cases hb:badD vs (b.Phis.getD j default).Dst with
  | true=>
   rw[hb]at hx
   rw[Ao (x:=.inr (false,f,l,t,u,vs)) (by
    unfold Db Ef;simp only[hd,Af,Ac (Ap hi),Eo,An];rw[show(⟨f.Params,f.Ret,f.Blocks⟩:TFunc)=f from rfl,hx]
    rfl)]
   rfl
  | false=>
   rw[hb]at hx
   rw[Ay (s':=(((j+1:Nat):Int),f.Params,f.Ret,f.Blocks,l,t,u,Mj vs (b.Phis.getD j default).Dst ⟨((b.Phis.getD j default).Bits,1),⟨(i:Int),-1⟩⟩)) (by
    unfold Db Ef;simp only[hd,Af,Ac (Ap hi),Eo,An];rw[show(⟨f.Params,f.Ret,f.Blocks⟩:TFunc)=f from rfl,hx,A8 hi h]
    rfl),ih (j+1) _ (by omega)]
   unfold valD;rw[hat]
   rfl
theorem c_ops{f0:TFunc}(hf:OkF f0){b:Ah}(hb:b∈f0.Blocks)(i:Nat)(f:TFunc)(l:Int)(t:List Int)(u:List Aq):∀(k j:Nat) (vs:List (Int×Aj)),j+k=b.Ops.length->
  Ag (Ce (i:Int) b) ((j:Int),f.Params,f.Ret,f.Blocks,l,t,u,vs)=some (resD f l t u (Jt vs ((List.range' j k).flatMap fun(k:Nat)=>bif decide (0<(Kp (b.Ops.getD k default)).1) then[(⟨(b.Ops.getD k default).Dst,i,k,Kp (b.Ops.getD k default)⟩:Bv)] else[]))):=by
 have hB:=hf.block b hb;intro k
 induction k with
 | zero=>
  intro j vs hj
  obtain rfl:j=b.Ops.length:=by omega
  rw[Ao (x:=.inl (f.Params,f.Ret,f.Blocks,l,t,u,vs)) (by unfold Ce;simp)]
  rfl
 | succ k ih=>
  intro j vs hj
  have hi:j<b.Ops.length:=by omega
  have hd:decide ((j:Int)<(b.Ops.length:Int))=true:=by simpa using hi
  have hg:Mx (b.Ops.getD j default)=some (Kp (b.Ops.getD j default)):=kind_Gives _ (opOk hf hb (Aw hi));have hx:=c_define (b.Ops.getD j default).Dst (Kp (b.Ops.getD j default)) (⟨(i:Int),(j:Int)⟩:I6) f l t vs u
  have hat:atD (⟨(b.Ops.getD j default).Dst,i,j,Kp (b.Ops.getD j default)⟩:Bv)=⟨(i:Int),(j:Int)⟩:=by unfold atD;rw[C0 (by show ¬ (i:Int)<0;omega)];rfl
  rw[Yn,zzL95]
  cases hp:decide (0<(Kp (b.Ops.getD j default)).1) with
  | false=>
   rw[Ar,Sx,<- ih (j+1) vs (by omega),Ay (s':=(((j+1:Nat):Int),f.Params,f.Ret,f.Blocks,l,t,u,vs)) (by
    unfold Ce;simp only[hd,Af,Ac (Ap hi),Eo,hg,An,hp];rw[A8 hi (by have:=hB.ops;omega)]
    rfl)]
  | true=>
   rw[Af,List.singleton_append];simp only[Jt]
   cases hb:badD vs (b.Ops.getD j default).Dst with
   | true=>
    rw[hb]at hx
    rw[Ao (x:=.inr (false,f,l,t,u,vs)) (by
     unfold Ce;simp only[hd,Af,Ac (Ap hi),Eo,hg,An,hp];rw[show(true==true)=true from rfl,Af,show(⟨f.Params,f.Ret,f.Blocks⟩:TFunc)=f from rfl,hx]
     rfl)]
    rfl
   | false=>
    rw[hb]at hx
    rw[Ay (s':=(((j+1:Nat):Int),f.Params,f.Ret,f.Blocks,l,t,u,Mj vs (b.Ops.getD j default).Dst ⟨Kp (b.Ops.getD j default),⟨(i:Int),(j:Int)⟩⟩)) (by
     unfold Ce;simp only[hd,Af,Ac (Ap hi),Eo,hg,An,hp];rw[show(true==true)=true from rfl,Af,show(⟨f.Params,f.Ret,f.Blocks⟩:TFunc)=f from rfl,hx,A8 hi (by have:=hB.ops;omega)]
     rfl),ih (j+1) _ (by omega)]
    unfold valD;rw[hat]
    rfl
theorem c_defineAll{f:TFunc}(hf:OkF f){b:Ah}(hb:b∈f.Blocks)(i:Nat)(l:Int)(t:List Int)(u:List Aq)(vs:List (Int×Aj)) :
  Ft (i:Int) b f l t vs u=some ((Jt vs (Nl b i)).1,f,l,t,u,(Jt vs (Nl b i)).2):=by
 unfold Ft Nl;rw[show(0:Int)=((0:Nat):Int) from rfl,c_phis b (by have:=(hf.block b hb).phis;omega) i f l t u b.Phis.length 0 vs (by omega),An,defGo_app];rw[show(List.range' 0 b.Phis.length).flatMap (fun(k:Nat)=>[(⟨(b.Phis.getD k default).Dst,i,-1,((b.Phis.getD k default).Bits,1)⟩:Bv)])=Pw b i by rw[Pw,Pg]];unfold resD
 cases h1:(Jt vs (Pw b i)).1 with
 | false=>simp only[Ar];rw[h1]
 | true=>
  simp only[Af];rw[c_ops hf hb i f l t u b.Ops.length 0 _ (by omega),An];rw[show(List.range' 0 b.Ops.length).flatMap (fun(k:Nat)=>bif decide (0<(Kp (b.Ops.getD k default)).1) then[(⟨(b.Ops.getD k default).Dst,i,k,Kp (b.Ops.getD k default)⟩:Bv)] else[])=Xd b i by rw[Xd,Pg]];unfold resD;cases h2:(Jt (Jt vs (Pw b i)).2 (Xd b i)).1<;>rfl
theorem okDef_iff{l:List Bv}{i:Nat}(hi:i<l.length):O1 l i=true↔valS (l.getD i default).V=true/\∀ j,j<i->(l.getD j default).V≠(l.getD i default).V:=by
 unfold O1;rw[Bc];refine and_congr Iff.rfl ?_;unfold Kn
 cases hx:l.findIdx? (fun d=>d.V==(l.getD i default).V) with
 | none=>
  rw[List.findIdx?_eq_none_iff]at hx;have:=hx _ (Aw (d:=default) hi);simp at this
 | some j=>
  obtain⟨hj,h1,h2⟩:=List.findIdx?_eq_some_iff_getElem.1 hx;simp only[zzL71,Int.natCast_inj]
  constructor
  ·rintro rfl k hk he;have:=h2 k hk;rw[Ai _ _ _ (by omega:k<l.length)]at he;simp at this;exact this he
  ·intro h
   have hv:(l.getD j default).V=(l.getD i default).V:=by rw[Ai _ _ _ hj];simpa using h1
   rcases Nat.lt_trichotomy j i with hlt|rfl|hgt
   ·exact absurd hv (h j hlt)
   ·rfl
   ·have:=h2 i hgt;rw[<- Ai l i default hi]at this;simp at this
theorem mhas_dv(l:List Bv)(v:Int):Gb (dv l) v=l.any fun d=>v==d.V:=by
 rw[mhas_any,dv,List.any_map];rfl
theorem defGo_spec:∀(ds pre:List Bv),(Jt (dv pre) ds).1=(List.range' pre.length ds.length).all (O1 (pre++ds))/\((Jt (dv pre) ds).1=true->(Jt (dv pre) ds).2=dv (pre++ds))
 | [],pre=>by simp[Jt]
 | d::ds,pre=>by
  have hi:pre.length<(pre++d::ds).length:=by simp
  have hg:(pre++d::ds).getD pre.length default=d:=by simp[List.getD]
  have hj:∀ j,j<pre.length->(pre++d::ds).getD j default=pre.getD j default:=fun j h=>by simp[List.getD,Pf h]
  have hok:O1 (pre++d::ds) pre.length = !badD (dv pre) d.V:=by
   rw[Nw,okDef_iff hi,hg];unfold badD valS;rw[mhas_dv];simp only[Ph,zzL123,zzL92,List.any_eq_false,zzL71,Bc,Jd]
   constructor
   ·rintro⟨⟨h1,h2⟩,h3⟩;refine⟨⟨fun x hx he=>?_,by omega⟩,by omega⟩;obtain⟨j,hjl,rfl⟩:=Qn hx;have:=h3 j hjl;rw[hj j hjl,Ai _ _ _ hjl]at this;exact this he.symm
   ·rintro⟨⟨h1,h2⟩,h3⟩;refine⟨⟨by omega,by omega⟩,fun j hjl he=>?_⟩;rw[hj j hjl,Ai _ _ _ hjl]at he;exact h1 _ (V8 hjl) he.symm
  rw[Yo,Yn,V9,hok];simp only[Jt]
  cases hb:badD (dv pre) d.V with
  | true=>exact⟨rfl,fun h=>by cases h⟩
  | false=>
   have hn:Gb (dv pre) d.V=false:=by
    unfold badD at hb;simp only[zzL123]at hb;exact hb.1.1
   have hs:Mj (dv pre) d.V (valD d)=dv (pre++[d]):=by rw[msetC_new _ _ hn,dv,dv,zzL96];rfl
   have:=defGo_spec ds (pre++[d]);rw[Fh,zzL112,List.singleton_append]at this;rw[Ar,hs,L2,F8];exact this
def pv(f:TFunc)(n:Nat):List (Int×Aj):=(List.range n).map fun(j:Nat)=>((j:Int)+1,⟨(f.Params.getD j 0,1),⟨0,-1⟩⟩)
theorem pv_dv(f:TFunc):pv f f.Params.length=dv (Ob f):=by
 unfold pv dv Ob;rw[List.map_flatMap]
 induction List.range f.Params.length with
 | nil=>rfl
 | cons a l ih=>rw[Cm,zzL95,ih];rfl
theorem c_params{f:TFunc}(hf:OkF f):∀(k i:Nat),i+k=f.Params.length->Ag (Fc f) ((i:Int),pv f i)=some (pv f f.Params.length):=by
 intro k
 induction k with
 | zero=>
  intro i h
  obtain rfl:i=f.Params.length:=by omega
  exact Ao (by unfold Fc;simp)
 | succ k ih=>
  intro i h
  have hi:i<f.Params.length:=by omega
  have hd:decide ((i:Int)<(f.Params.length:Int))=true:=by simpa using hi
  have hn:Gb (pv f i) ((i:Int)+1)=false:=by
   rw[mhas_any,pv,List.any_map,List.any_eq_false];intro j hj;have:=zzL52.1 hj
   simp;omega
  have hs:Mj (pv f i) ((i:Int)+1) ⟨(f.Params.getD i 0,1),⟨0,-1⟩⟩=pv f (i+1):=by
   rw[msetC_new _ _ hn,pv,pv,Aac,zzL96];rfl
  rw[Ay (s':=(((i+1:Nat):Int),pv f (i+1))) (by
   unfold Fc Ef;simp only[hd,Af,Ac (Ap hi),Eo,An,A8 hi (by have:=hf.few;omega),hs]
   rfl)]
  exact ih (i+1) (by omega)
theorem c_blocks{f:TFunc}(hf:OkF f)(l:Int)(t:List Int)(u:List Aq):∀(k i:Nat) (vs:List (Int×Aj)),i+k=f.Blocks.length->
  Ag (Dw f) ((i:Int),vs,f.Params,f.Ret,f.Blocks,l,t,u)=some (bif (Jt vs ((List.range' i k).flatMap fun i=>Nl (f.Blocks.getD i default) i)).1 then .inl ((Jt vs ((List.range' i k).flatMap fun i=>Nl (f.Blocks.getD i default) i)).2,f.Params,f.Ret,f.Blocks,l,t,u) else
   .inr (7,f,l,t,u,(Jt vs ((List.range' i k).flatMap fun i=>Nl (f.Blocks.getD i default) i)).2)):=by
 intro k
 induction k with
 | zero=>
  intro i vs h
  obtain rfl:i=f.Blocks.length:=by omega
  rw[Ao (x:=.inl (vs,f.Params,f.Ret,f.Blocks,l,t,u)) (by unfold Dw;simp)]
  rfl
 | succ k ih=>
  intro i vs h
  have hi:i<f.Blocks.length:=by omega
  have hd:decide ((i:Int)<(f.Blocks.length:Int))=true:=by simpa using hi
  have hx:=c_defineAll hf (Aw (d:=default) hi) i l t u vs;rw[Yn,zzL95,defGo_app]
  cases hb:(Jt vs (Nl (f.Blocks.getD i default) i)).1 with
  | false=>
   rw[hb]at hx
   rw[Ao (x:=.inr (7,f,l,t,u,(Jt vs (Nl (f.Blocks.getD i default) i)).2)) (by
    unfold Dw;simp only[hd,Af,Ac (Ap hi),Eo];rw[show(⟨f.Params,f.Ret,f.Blocks⟩:TFunc)=f from rfl,hx]
    rfl),Ar,hb]
   rfl
  | true=>
   rw[hb]at hx
   rw[Ay (s':=(((i+1:Nat):Int),(Jt vs (Nl (f.Blocks.getD i default) i)).2,f.Params,f.Ret,f.Blocks,l,t,u)) (by
    unfold Dw;simp only[hd,Af,Ac (Ap hi),Eo];rw[show(⟨f.Params,f.Ret,f.Blocks⟩:TFunc)=f from rfl,hx,A8 hi (by have:=hf.blocks;omega)]
    rfl),ih (i+1) _ (by omega),Af]
theorem okP{f:TFunc}(hf:OkF f):∀ i,i<f.Params.length->O1 (A2 f) i=true:=fun i hi=>by
 have hl:=Yx f
 have hg:∀ j,j<f.Params.length->(A2 f).getD j default=⟨(j:Int)+1,-1,0,(f.Params.getD j 0,1)⟩:=fun j hj=>by
  have e:Ob f=(List.range f.Params.length).map fun(i:Nat)=>(⟨(i:Int)+1,-1,0,(f.Params.getD i 0,1)⟩:Bv):=by
   unfold Ob
   induction List.range f.Params.length with
   | nil=>rfl
   | cons a l ih=>rw[Cm,zzL95,ih];rfl
  rw[A2,List.getD,Pf (by omega),e];simp[hj]
 have hle:i<(A2 f).length:=by rw[A2,Fh];omega
 rw[okDef_iff hle,hg i hi];refine⟨?_,fun j hj=>?_⟩
 ·have:=hf.few;simp only[valS,Bc,Jd];omega
 ·rw[hg j (by omega)];simp only;omega
theorem c_defined{f:TFunc}(hf:OkF f)(l:Int)(t:List Int)(u:List Aq):∃ vs,Gi f l t u=some (bif (List.range (A2 f).length).all (O1 (A2 f)) then 0 else 7,f,l,t,u,vs)/\((List.range (A2 f).length).all (O1 (A2 f))=true->vs=dv (A2 f)):=by
 have hsp:=defGo_spec ((List.range f.Blocks.length).flatMap fun i=>Nl (f.Blocks.getD i default) i) (Ob f)
 have hall:(List.range (A2 f).length).all (O1 (A2 f))=(Jt (dv (Ob f)) ((List.range f.Blocks.length).flatMap fun i=>Nl (f.Blocks.getD i default) i)).1:=by
  rw[hsp.1]
  show(List.range (A2 f).length).all (O1 (A2 f))=(List.range' (Ob f).length _).all (O1 (A2 f))
  have hs:List.range (A2 f).length=List.range (Ob f).length++List.range' (Ob f).length ((List.range f.Blocks.length).flatMap fun i=>Nl (f.Blocks.getD i default) i).length:=by
   rw[Pg,Pg,A2,Fh];have:=List.range'_append_1 (s:=0) (m:=(Ob f).length) (n:=((List.range f.Blocks.length).flatMap fun i=>Nl (f.Blocks.getD i default) i).length);rw[G3]at this;exact this.symm
  rw[hs,List.all_append];have:(List.range (Ob f).length).all (O1 (A2 f))=true:=zzL30.2 fun i hi=>okP hf i (by rw[<- Yx f];exact zzL52.1 hi);rw[this,F8]
 unfold Gi;have hp:=c_params hf f.Params.length 0 (by omega);have e0:pv f 0=[]:=rfl;rw[e0,show(((0:Nat):Int))=0 from rfl]at hp;rw[hp,An,pv_dv];have hb:=c_blocks hf l t u f.Blocks.length 0 (dv (Ob f)) (by omega);rw[show(((0:Nat):Int))=0 from rfl,<- Pg]at hb;rw[hb,An,hall];refine⟨(Jt (dv (Ob f)) ((List.range f.Blocks.length).flatMap fun i=>Nl (f.Blocks.getD i default) i)).2,?_,hsp.2⟩
 cases(Jt (dv (Ob f)) ((List.range f.Blocks.length).flatMap fun i=>Nl (f.Blocks.getD i default) i)).1<;>rfl
theorem Y3{β S X:Type}(B:Nat)(mk:Int->List β->S)(out:List β->X)(n:Nat)(E:Nat->List β)(f:S->Option (LR S X))(hn:∀(acc:List β) (i:Nat),i<n->(acc++E i).length<=B->f (mk i acc)=some (.next (mk ((i:Int)+1) (acc++E i))))
  (hd:∀ acc:List β,f (mk n acc)=some (.done (out acc))):∀(k i:Nat) (acc:List β),i+k=n->(acc++(List.range' i k).flatMap E).length<=B->Ag f (mk i acc)=some (out (acc++(List.range' i k).flatMap E))
 | 0,i,acc,h,_=>by
  obtain rfl:i=n:=by omega
  rw[Ao (hd acc)]
  simp
 | k+1,i,acc,h,hB=>by
  have hi:i<n:=by omega
  rw[Yn,zzL95,<- zzL112]at hB ⊢;rw[Ay (hn acc i hi (by rw[Fh]at hB;omega)),show((i:Int)+1)=((i+1:Nat):Int) by omega,Y3 B mk out n E f hn hd k (i+1) _ (by omega) hB]
theorem map_sing{β γ:Type}(h:β->γ)(n:Nat)(g:Nat->β):(List.range' 0 n).flatMap (fun j=>[h (g j)])=((List.range n).flatMap fun j=>[g j]).map h:=by
 rw[List.map_flatMap,Pg];rfl
theorem map_flat{β γ:Type}(h:β->γ)(n:Nat)(g:Nat->List β):(List.range' 0 n).flatMap (fun j=>(g j).map h)=((List.range n).flatMap g).map h:=by
 rw[List.map_flatMap,Pg]
def O3(f:TFunc)(b:Int):Int:=((f.Blocks.getD b.toNat default).Ops.length:Int)
def Gd(f:TFunc)(u:Ck):Aq:=⟨u.V,u.Shape,⟨u.Block,bif u.At==1000 then O3 f u.Block else u.At⟩⟩
theorem c_use(f:TFunc)(l:Int)(t:List Int)(vs:List (Int×Aj))(v:Int)(s:Int×Int)(p:I6)(u:List Aq)(h:(u++[(⟨v,s,p⟩:Aq)]).length<=10000000):Ep v s p f l t vs u=some (f,l,t,u++[⟨v,s,p⟩]):=by
 unfold Ep;rw[Ad (by rw[Fh]at h;rw[room_is];omega)]
theorem c_end(f:TFunc)(l:Int)(t:List Int)(vs:List (Int×Aj))(b:Int)(hb:A5 b f.Blocks.length)(u:List Aq):Fv b f l t vs u=some (⟨b,O3 f b⟩,f,l,t,u):=by
 unfold Fv;rw[Ad hb];rfl
section
variable {f:TFunc} (hf:OkF f) (l:Int) (t:List Int) (vs:List (Int×Aj))
include hf
theorem c_phi1(i k:Nat)(hi:i<f.Blocks.length)(hk:k<(f.Blocks.getD i default).Phis.length)(hfit:((f.Blocks.getD i default).Phis.getD k default).Args.length<=((f.Blocks.getD i default).Phis.getD k default).From.length)
  (hin:∀ x∈((f.Blocks.getD i default).Phis.getD k default).From,A5 x f.Blocks.length) (u:List Aq) (hB:(u++(Mt ((f.Blocks.getD i default).Phis.getD k default)).map (Gd f)).length<=10000000) :
  Ag (Dr f vs (i:Int) (k:Int)) ((0:Int),f.Params,f.Ret,f.Blocks,l,t,u)=some (f.Params,f.Ret,f.Blocks,l,t,u++(Mt ((f.Blocks.getD i default).Phis.getD k default)).map (Gd f)):=by
 have hlen:=ok_phi hf (Aw (d:=(default:Ah)) hi) (Aw (d:=(default:H1)) hk)
 generalize hp:(f.Blocks.getD i default).Phis.getD k default=p at *
 have e:=map_sing (Gd f) p.Args.length fun(j:Nat)=>(⟨p.Args.getD j 0,p.From.getD j 0,1000,(p.Bits,1)⟩:Ck)
 have:=Y3 10000000 (fun j u=>(j,f.Params,f.Ret,f.Blocks,l,t,u)) (fun u=>(f.Params,f.Ret,f.Blocks,l,t,u)) p.Args.length (fun(j:Nat)=>[Gd f ⟨p.Args.getD j 0,p.From.getD j 0,1000,(p.Bits,1)⟩]) (Dr f vs (i:Int) (k:Int)) (fun acc j hj hacc=>by
  unfold Dr Ef
  have hd:decide ((j:Int)<(p.Args.length:Int))=true:=by simpa using hj
  have hjf:j<p.From.length:=by omega
  simp only[Eo,hp,hd,Af,Ac (Ap hj),An,Ac (Ap hjf)];rw[show(⟨f.Params,f.Ret,f.Blocks⟩:TFunc)=f from rfl,c_end f l t vs _ (hin _ (Aw hjf)),An];simp only;have eu:Gd f ⟨p.Args.getD j 0,p.From.getD j 0,1000,(p.Bits,1)⟩=⟨p.Args.getD j 0,(p.Bits,1),⟨p.From.getD j 0,O3 f (p.From.getD j 0)⟩⟩:=rfl;rw[eu]at hacc ⊢
  rw[c_use f l t vs _ _ _ acc hacc,An,A8 hj (by omega)]) (fun acc=>by unfold Dr;simp only[Eo,hp,show decide ((p.Args.length:Int)<(p.Args.length:Int))=false by simp,Ar]) p.Args.length 0 u (by omega) (by rw[e];exact hB)
 rw[e]at this;exact this
theorem c_phis'(i:Nat)(hi:i<f.Blocks.length)(hfit:∀ p∈(f.Blocks.getD i default).Phis,p.Args.length<=p.From.length/\∀ x∈p.From,A5 x f.Blocks.length)(u:List Aq)(hB:(u++(M6 (f.Blocks.getD i default)).map (Gd f)).length<=10000000) :
  Ag (Ds f vs (i:Int)) ((0:Int),f.Params,f.Ret,f.Blocks,l,t,u)=some (f.Params,f.Ret,f.Blocks,l,t,u++(M6 (f.Blocks.getD i default)).map (Gd f)):=by
 have hBk:=hf.block _ (Aw (d:=(default:Ah)) hi);have e:=map_flat (Gd f) (f.Blocks.getD i default).Phis.length fun(k:Nat)=>Mt ((f.Blocks.getD i default).Phis.getD k default)
 have:=Y3 10000000 (fun j u=>(j,f.Params,f.Ret,f.Blocks,l,t,u)) (fun u=>(f.Params,f.Ret,f.Blocks,l,t,u)) (f.Blocks.getD i default).Phis.length (fun(k:Nat)=>(Mt ((f.Blocks.getD i default).Phis.getD k default)).map (Gd f)) (Ds f vs (i:Int)) (fun acc k hk hacc=>by
  have hq:=hfit _ (Aw (d:=(default:H1)) hk);have h1:=c_phi1 hf l t vs i k hi hk hq.1 hq.2 acc hacc;unfold Ds
  have hd:decide ((k:Int)<((f.Blocks.getD i default).Phis.length:Int))=true:=by simpa using hk
  simp only[Eo,hd,Af,Ac (Ap hk),h1,An,A8 hk (by have:=hBk.phis;omega)]) (fun acc=>by unfold Ds;simp) (f.Blocks.getD i default).Phis.length 0 u (by omega) (by rw[e];exact hB)
 rw[e]at this;exact this
theorem c_op1(i k:Nat)(hi:i<f.Blocks.length)(hk:k<(f.Blocks.getD i default).Ops.length)(u:List Aq)(hB:(u++(O8 ((f.Blocks.getD i default).Ops.getD k default) i k).map (Gd f)).length<=10000000) :
  Ag (Dt f vs (i:Int) (k:Int) (Im ((f.Blocks.getD i default).Ops.getD k default))) ((0:Int),f.Params,f.Ret,f.Blocks,l,t,u)=some (f.Params,f.Ret,f.Blocks,l,t,u++(O8 ((f.Blocks.getD i default).Ops.getD k default) i k).map (Gd f)):=by
 have hBk:=hf.block _ (Aw (d:=(default:Ah)) hi);have hlen:=Vg (ok_op hf (Aw (d:=(default:Ah)) hi) (Aw (d:=(default:Dp)) hk));have hk512:=hBk.ops
 generalize hp:(f.Blocks.getD i default).Ops.getD k default=o at *
 have e:=map_sing (Gd f) (Im o).length fun(j:Nat)=>(⟨o.Args.getD j 0,i,k,(Im o).getD j (0,0)⟩:Ck)
 have:=Y3 10000000 (fun j u=>(j,f.Params,f.Ret,f.Blocks,l,t,u)) (fun u=>(f.Params,f.Ret,f.Blocks,l,t,u)) (Im o).length (fun(j:Nat)=>[Gd f ⟨o.Args.getD j 0,i,k,(Im o).getD j (0,0)⟩]) (Dt f vs (i:Int) (k:Int) (Im o)) (fun acc j hj hacc=>by
  have hkk:((k:Int)==1000)=false:=by simp;omega
  have eu:Gd f ⟨o.Args.getD j 0,i,k,(Im o).getD j (0,0)⟩=⟨o.Args.getD j 0,(Im o).getD j (0,0),⟨(i:Int),(k:Int)⟩⟩:=by unfold Gd;simp only[hkk,Ar]
  rw[eu]at hacc ⊢;unfold Dt
  have hd:decide ((j:Int)<((Im o).length:Int))=true:=by simpa using hj
  have hja:j<o.Args.length:=by omega
  simp only[Eo,hp,hd,Af,Ac (Ap hj),Ac (Ap hja)]
  rw[show(⟨f.Params,f.Ret,f.Blocks⟩:TFunc)=f from rfl,c_use f l t vs _ _ _ acc hacc,An,A8 hj (by omega)]) (fun acc=>by unfold Dt;simp) (Im o).length 0 u (by omega) (by rw[e];exact hB)
 rw[e]at this;exact this
theorem c_ops'(i:Nat)(hi:i<f.Blocks.length)(u:List Aq)(hB:(u++(R5 (f.Blocks.getD i default) i).map (Gd f)).length<=10000000) :
  Ag (Du f vs (i:Int)) ((0:Int),f.Params,f.Ret,f.Blocks,l,t,u)=some (f.Params,f.Ret,f.Blocks,l,t,u++(R5 (f.Blocks.getD i default) i).map (Gd f)):=by
 have hmem:=Aw (d:=(default:Ah)) hi;have hBk:=hf.block _ hmem;have e:=map_flat (Gd f) (f.Blocks.getD i default).Ops.length fun(k:Nat)=>O8 ((f.Blocks.getD i default).Ops.getD k default) i k
 have:=Y3 10000000 (fun j u=>(j,f.Params,f.Ret,f.Blocks,l,t,u)) (fun u=>(f.Params,f.Ret,f.Blocks,l,t,u)) (f.Blocks.getD i default).Ops.length (fun(k:Nat)=>(O8 ((f.Blocks.getD i default).Ops.getD k default) i k).map (Gd f)) (Du f vs (i:Int)) (fun acc k hk hacc=>by
  have h1:=c_op1 hf l t vs i k hi hk acc hacc;have ht:My ((f.Blocks.getD i default).Ops.getD k default)=some (Im ((f.Blocks.getD i default).Ops.getD k default)):=kind_Takes _ (opOk hf hmem (Aw hk));unfold Du
  have hd:decide ((k:Int)<((f.Blocks.getD i default).Ops.length:Int))=true:=by simpa using hk
  simp only[Eo,hd,Af,Ac (Ap hk),ht,h1,An,A8 hk (by have:=hBk.ops;omega)]) (fun acc=>by unfold Du;simp) (f.Blocks.getD i default).Ops.length 0 u (by omega) (by rw[e];exact hB)
 rw[e]at this;exact this
theorem c_collect (hfit : ∀ b ∈ f.Blocks, ∀ p ∈ b.Phis, p.Args.length ≤ p.From.length ∧ ∀ x ∈ p.From, A5 x f.Blocks.length) : Gh f l t vs [] = some (f, l, t, (B5 f).map (Gd f)) := by
  have e := map_flat (Gd f) f.Blocks.length fun (i : Nat) => usesB f (f.Blocks.getD i default) i; have hul := usesF_len hf
  have := Y3 10000000 (fun j u => (j, f.Params, f.Ret, f.Blocks, l, t, u)) (fun u => (f.Params, f.Ret, f.Blocks, l, t, u)) f.Blocks.length (fun (i : Nat) => (usesB f (f.Blocks.getD i default) i).map (Gd f)) (Dv f vs) (fun acc i hi hacc => by
    have hmem := Aw (d := (default : Ah)) hi; unfold usesB at hacc ⊢; rw [zzL96, zzL96, ← zzL112, ← zzL112] at hacc ⊢; have l1 := hacc; simp only [Fh, T9] at l1; have h1 := c_phis' hf l t vs i hi (hfit _ hmem) acc (by simp only [Fh, T9]; omega); have h2 := c_ops' hf l t vs i hi (acc ++ (M6 (f.Blocks.getD i default)).map (Gd f)) (by simp only [Fh, T9]; omega); have hinb : A5 (i : Int) f.Blocks.length := Ap hi; unfold Dv Ef
    have hd : decide ((i : Int) < (f.Blocks.length : Int)) = true := by simpa using hi
    simp only [hd, Af, Ac (Ap hi), h1, An, h2, Eo]; have hF : (⟨f.Params, f.Ret, f.Blocks⟩ : TFunc) = f := rfl; have hw : w64 ((i : Int) + 1) = (i : Int) + 1 := A8 hi (by have := hf.blocks; omega); unfold Zd at hacc ⊢
    cases hz : ((f.Blocks.getD i default).End.Kind == 0) with
    | true =>
      have hz2 : ((f.Blocks.getD i default).End.Kind == 2) = false := by have : (f.Blocks.getD i default).End.Kind = 0 := by simpa using hz
                                                                         rw [this]; rfl
      rw [hz, hz2] at hacc; simp only [Af, Ar, hz2, List.append_nil, Cm, D4] at hacc ⊢; rw [hF, c_end f l t vs _ hinb, An]; simp only; rw [c_use f l t vs _ _ _ _ (show (_ ++ [(⟨_, _, ⟨(i : Int), O3 f (i : Int)⟩⟩ : Aq)]).length ≤ 10000000 from hacc), An, An, hw]
      rfl
    | false =>
      rw [hz] at hacc
      cases hz2 : ((f.Blocks.getD i default).End.Kind == 2) with
      | true =>
        rw [hz2] at hacc; simp only [Af, Ar, Sx, Cm, D4] at hacc ⊢; rw [hF, c_end f l t vs _ hinb, An]; simp only; rw [c_use f l t vs _ _ _ _ (show (_ ++ [(⟨_, _, ⟨(i : Int), O3 f (i : Int)⟩⟩ : Aq)]).length ≤ 10000000 from hacc), An, An, hw]
        rfl
      | false =>
        simp only [Ar, Sx, D4, List.append_nil, An, hw]) (fun acc => by unfold Dv; simp) f.Blocks.length 0 [] (by omega) (by rw [e]; simpa [B5] using (by omega : (B5 f).length ≤ 10000000))
  rw [e, Sx] at this; unfold Gh; rw [show (0 : Int) = ((0 : Nat) : Int) from rfl]
  show ((Ag (Dv f vs) (((0 : Nat) : Int), f.Params, f.Ret, f.Blocks, l, t, [])).bind _) = _
  rw [this, An]
  rfl
end
theorem allS{σ X:Type}(mk:Int->σ)(U:List Aq)(p:Aq->Bool)(f:σ->Option (LR σ X))(yes no:X)(hk:∀ i:Nat,i<U.length->f (mk i)=some (bif p (U.getD i default) then .next (mk ((i:Int)+1)) else .done no))(he:f (mk U.length)=some (.done yes)) :
  ∀ k i:Nat,i+k=U.length->Ag f (mk i)=some (bif (U.drop i).all p then yes else no)
 | 0,i,h=>by
  obtain rfl:i=U.length:=by omega
  rw[Ao he]
  simp
 | k+1,i,h=>by
  have hi:i<U.length:=by omega
  have hdr:U.drop i=U.getD i default::U.drop (i+1):=by rw[Ym hi,Ai _ _ _ hi]
  have hx:=hk i hi;rw[hdr,V9]
  cases hp:p (U.getD i default) with
  | true=>
   rw[hp]at hx;rw[Ay hx,show((i:Int)+1)=((i+1:Nat):Int) by omega,allS mk U p f yes no hk he k (i+1) (by omega),F8]
  | false=>
   rw[hp]at hx;rw[Ao hx]
   rfl
theorem findD_cons(d:Bv)(l:List Bv)(v:Int):Kn (d::l) v=bif d.V==v then 0 else bif decide (Kn l v<0) then -1 else Kn l v+1:=by
 unfold Kn;rw[List.findIdx?_cons]
 cases d.V==v with
 | true=>rfl
 | false=>
  cases l.findIdx? (fun d=>d.V==v) with
  | none=>rfl
  | some i=>
   simp only[Ar,Aad];rw[C0 (by omega)]
   simp
theorem mhas_found(v:Int):∀ l:List Bv,Gb (dv l) v = !decide (Kn l v<0)
 | []=>rfl
 | d::l=>by
  rw[findD_cons]
  show((v==d.V) || Gb (dv l) v)=_
  rw[mhas_found v l,show(v==d.V)=(d.V==v) by rw[Nw];simp;exact Ps]
  cases d.V==v with
  | true=>rfl
  | false=>
   by_cases h:Kn l v<0
   ·simp[h]
   ·simp[h];omega
theorem mget_found(v:Int):∀ l:List Bv,¬ Kn l v<0->Hy (default:Aj) (dv l) v=valD (defOf l v)
 | [],h=>absurd (show(-1:Int)<0 by decide) h
 | d::l,h=>by
  unfold defOf;rw[findD_cons]at h ⊢
  show(bif v==d.V then valD d else Hy default (dv l) v)=_
  rw[show(v==d.V)=(d.V==v) by rw[Nw];simp;exact Ps]
  cases hb:d.V==v with
  | true=>rfl
  | false=>
   rw[hb]at h
   by_cases hn:Kn l v<0
   ·simp[hn]at h
   ·have hz:decide (Kn l v<0)=false:=C0 hn;simp only[Ar,hz];rw[mget_found v l hn,show(Kn l v+1).toNat=(Kn l v).toNat+1 by omega]
    rfl
def DefIn(f:TFunc)(d:Bv):Prop:=d.Block = -1\/(A5 d.Block f.Blocks.length/\d.At<O3 f d.Block/\d.At<1000)
def UseIn(f:TFunc)(u:Ck):Prop:=A5 u.Block f.Blocks.length/\0<=u.At
theorem defs_in{f:TFunc}(hf:OkF f):∀ d∈A2 f,DefIn f d:=fun d hd=>by
 rcases zzL17.1 hd with h|h
 ·obtain⟨i,_,hi⟩:=zzL83.1 h;rw[zzL19.1 hi];exact .inl rfl
 ·obtain⟨i,hi,h⟩:=zzL83.1 h
  have hi:i<f.Blocks.length:=by simpa using hi
  have hB:=hf.block _ (Aw (d:=(default:Ah)) hi);have ho:O3 f (i:Int)=((f.Blocks.getD i default).Ops.length:Int):=rfl;rcases zzL17.1 h with h|h
  ·obtain⟨k,hk,h⟩:=zzL83.1 h;rw[zzL19.1 h];refine .inr ⟨Ap hi,?_,?_⟩
   ·show(-1:Int)<O3 f (i:Int);rw[ho];omega
   ·show(-1:Int)<1000;omega
  ·obtain⟨k,hk,h⟩:=zzL83.1 h
   have hk:k<(f.Blocks.getD i default).Ops.length:=by simpa using hk
   cases hg:decide (0<(Kp ((f.Blocks.getD i default).Ops.getD k default)).1) with
   | false=>rw[hg]at h;cases h
   | true=>
    rw[hg]at h;rw[zzL19.1 h];refine .inr ⟨Ap hi,?_,?_⟩
    ·show(k:Int)<O3 f (i:Int);rw[ho];omega
    ·show(k:Int)<1000;have:=hB.ops;omega
theorem uses_in{f:TFunc}(hfit:∀ b∈f.Blocks,∀ p∈b.Phis,p.Args.length<=p.From.length/\∀ x∈p.From,A5 x f.Blocks.length):∀ u∈B5 f,UseIn f u:=fun u hu=>by
 obtain⟨i,hi,h⟩:=zzL83.1 hu
 have hi:i<f.Blocks.length:=by simpa using hi
 have hmem:=Aw (d:=(default:Ah)) hi;rcases zzL17.1 h with h|h
 ·rcases zzL17.1 h with h|h
  ·obtain⟨k,hk,h⟩:=zzL83.1 h
   have hk:k<(f.Blocks.getD i default).Phis.length:=by simpa using hk
   obtain⟨j,hj,h⟩:=zzL83.1 h;have hj:=zzL52.1 hj;have hq:=hfit _ hmem _ (Aw (d:=(default:H1)) hk);rw[zzL19.1 h];exact⟨hq.2 _ (Aw (by omega)),by show(0:Int)<=1000;omega⟩
  ·obtain⟨k,hk,h⟩:=zzL83.1 h;obtain⟨j,hj,h⟩:=zzL83.1 h;rw[zzL19.1 h];exact⟨Ap hi,by show(0:Int)<=(k:Int);omega⟩
 ·unfold Zd at h
  have:u=⟨(f.Blocks.getD i default).End.Arg,i,1000,(f.Ret,1)⟩\/u=⟨(f.Blocks.getD i default).End.Arg,i,1000,(1,1)⟩:=by
   rcases zzL17.1 h with h|h
   ·cases hz:((f.Blocks.getD i default).End.Kind==0) with
    | true=>rw[hz]at h;exact .inl (zzL19.1 h)
    | false=>rw[hz]at h;cases h
   ·cases hz:((f.Blocks.getD i default).End.Kind==2) with
    | true=>rw[hz]at h;exact .inr (zzL19.1 h)
    | false=>rw[hz]at h;cases h
  rcases this with rfl|rfl<;>exact⟨Ap hi,by show(0:Int)<=1000;omega⟩
theorem fit_of{f:TFunc}(h:G8 f=true):∀ b∈f.Blocks,∀ p∈b.Phis,p.Args.length<=p.From.length/\∀ x∈p.From,A5 x f.Blocks.length:=fun b hb p hp=>by
 have hs:Ln f=true:=by simp only[G8,Bc]at h;exact h.1
 refine⟨shape_fit h b hb p hp,fun x hx=>?_⟩;obtain⟨i,hi,rfl⟩:=Qn hb;simp only[G8,Bc]at h;have h1:=allN h.2 i hi;simp only[Mb,Bc,zzL30]at h1;rw[Ai _ _ _ hi]at h1;have h2:=h1.2 p hp;simp only[Hp,Bc,Jd]at h2;rw[h2.1]at hx;obtain⟨q,rfl,hq,_⟩:=(pred_mem (L:=Bl f) (O4 hs) (y:=i) (by rw[T4];exact hi)).1 hx;exact Ap (by rw[T4]at hq;exact hq)
theorem over_first{f:TFunc}(h:G8 f=true){b:Int}(hb:A5 b f.Blocks.length):X2 (Da f) 0 b=true:=by
 have hs:Ln f=true:=by simp only[G8,Bc]at h;exact h.1
 have hm:=O4 hs;have hlen:=T4 f
 have hpos:0<(Bl f).length:=by have:=(shape_iff.1 hs).1.1;omega
 obtain⟨P,hP,o,ht⟩:=treeD_dom hm hpos
 have e:Da f=V4 (Bl f) 0:=by
  unfold Da treeG;rw[if_pos ⟨mayG_gOf hm,Int.le_refl _,by show(0:Int)<((Bl f).length:Int);omega⟩]
  rfl
 obtain⟨k,rfl⟩:∃ k:Nat,b=(k:Int):=⟨b.toNat,(V7 hb.1).symm⟩
 have hk:k<f.Blocks.length:=by have:=hb.2;omega
 simp only[G8,Bc]at h;have h1:=allN h.2 k hk;simp only[Mb,Bc]at h1;have hr:Rch (sN (Bl f)) 0 k:=(rds_spec (V3 hm) hpos k).1 h1.1.1;rw[e];refine(ht.over_dom o hpos (by omega)).2 ⟨rc_iff.2 hr,fun ha=>?_⟩;exact(av_iff.1 ha).1 rfl
theorem Xb{l:List Ck}{g:Ck->Aq}{p:Aq->Bool}{q:Ck->Bool}(h:∀ u∈l,p (g u)=q u):(l.map g).all p=l.all q:=by
 induction l with
 | nil=>rfl
 | cons a l ih=>rw[Cm,V9,V9,h a (by simp),ih fun u hu=>h u (by simp[hu])]
def fitP(vs:List (Int×Aj))(u:Aq):Bool:=((Hy (default:Aj) vs u.v).shape.1==u.shape.1)&&(((Hy (default:Aj) vs u.v).shape.2==u.shape.2)&&true)
def aheadP(vs:List (Int×Aj))(t:List Int)(u:Aq):Bool:=bif (Hy (default:Aj) vs u.v).place.block==u.place.block then decide ((Hy (default:Aj) vs u.v).place.at_<u.place.at_) else X2 t (Hy (default:Aj) vs u.v).place.block u.place.block
theorem ahead_eq{f:TFunc}(hs:G8 f=true){D:List Bv}(hD:∀ d∈D,DefIn f d){u:Ck}(hu:UseIn f u)(hfd:Li D u=true):aheadP (dv D) (Da f) (Gd f u)=Tv D (Da f) u:=by
 have hF:¬ Kn D u.V<0:=by simpa [Li] using hfd
 have hin:=findD_in hF;have hd:DefIn f (defOf D u.V):=hD _ (by unfold defOf;exact Aw (by have:=hin.1;have:=hin.2;omega));have hg:Hy (default:Aj) (dv D) (Gd f u).v=valD (defOf D u.V):=mget_found u.V D hF;unfold aheadP Tv;rw[hg]
 generalize defOf D u.V=d at *
 have hub:=hu.1.1
 have hul:0<=O3 f u.Block:=by unfold O3;omega
 have hat:∀ a:Int,a<0\/(a<O3 f u.Block/\a<1000)->decide (a<(Gd f u).place.at_)=decide (a<u.At)\/a<0:=fun a ha=>by
  rcases ha with ha|ha
  ·exact .inr ha
  ·refine .inl ?_
   show decide (a<bif u.At==1000 then O3 f u.Block else u.At)=_
   by_cases h:u.At=1000
   ·rw[h];simp only[show((1000:Int)==1000)=true from rfl,Af];rw[B2 ha.1,B2 ha.2]
   ·have:(u.At==1000)=false:=by simpa using h
    rw[this];rfl
 have hpos:0<=(Gd f u).place.at_:=by
  show 0<=bif u.At==1000 then O3 f u.Block else u.At
  cases u.At==1000
  ·exact hu.2
  ·exact hul
 have hblk:(Gd f u).place.block=u.Block:=rfl;rw[hblk];rcases hd with hd|⟨hd1,hd2,hd3⟩
 ·have e:(valD d).place=⟨0,-1⟩:=by show atD d=_;unfold atD;rw[hd];rfl
  rw[e,hd,B2 (show(-1:Int)<0 by decide)]
  show(bif (0:Int)==u.Block then decide ((-1:Int)<(Gd f u).place.at_) else X2 (Da f) 0 u.Block)=_
  rw[Bool.true_or,Bool.true_or,over_first hs hu.1,B2 (show(-1:Int)<(Gd f u).place.at_ by omega)]
  cases(0:Int)==u.Block<;>rfl
 ·have hn:¬ d.Block<0:=by have:=hd1.1;omega
  have e:(valD d).place=⟨d.Block,d.At⟩:=by show atD d=_;unfold atD;rw[C0 hn];rfl
  rw[e,C0 hn,zzL140]
  show(bif d.Block==u.Block then decide (d.At<(Gd f u).place.at_) else X2 (Da f) d.Block u.Block)=_
  cases hb:d.Block==u.Block with
  | true=>
   have hbe:d.Block=u.Block:=by simpa using hb
   simp only[Af,F8,Df,Vj,Bool.or_false];rcases hat d.At (.inr ⟨by rw[<- hbe];exact hd2,hd3⟩) with h|h
   ·exact h
   ·rw[B2 (by omega),B2 (by have:=hu.2;omega)]
  | false=>
   simp only[Ar,Vj,zzL140,L2,F8];unfold X2
   by_cases hm:Pc (Da f) d.Block u.Block=d.Block
   ·rw[hm]
    have:(d.Block !=-2)=true:=by simp;omega
    simp[this]
   ·have:(Pc (Da f) d.Block u.Block==d.Block)=false:=by simpa using hm
    simp[this,bne]
section
variable {f:TFunc} (l:Int) (vs:List (Int×Aj))
def stU(f:TFunc)(l:Int)(U:List Aq)(i:Int):Int×List Int×Int×List Ah×Int×List Int×List Aq:=(i,f.Params,f.Ret,f.Blocks,l,Da f,U)
def stX(f:TFunc)(l:Int)(U:List Aq):List Int×Int×List Ah×Int×List Int×List Aq:=(f.Params,f.Ret,f.Blocks,l,Da f,U)
theorem c_used1(U:List Aq)(hU:U.length<9223372036854775808):Ag (Dx vs (f,l,Da f,U)) (stU f l U 0)=some (bif U.all (fun u=>Gb vs u.v) then .inl (stX f l U) else .inr (stX f l U)):=by
 have:=allS (stU f l U) U (fun u=>Gb vs u.v) (Dx vs (f,l,Da f,U)) (.inl (stX f l U)) (.inr (stX f l U)) (fun i hi=>by
  unfold Dx stU Ir
  have hd:decide ((i:Int)<(U.length:Int))=true:=by simpa using hi
  simp only[hd,Af,Ac (Ap hi),Eo,An,A8 hi hU]
  cases Gb vs (U.getD i default).v<;>rfl) (by unfold Dx stU;simp;rfl) U.length 0 (by omega)
 rw[Kk]at this;exact this
theorem c_used2(U:List Aq)(hU:U.length<9223372036854775808):Ag (Dy vs U) (stU f l U 0)=some (bif U.all (fitP vs) then .inl (stX f l U) else .inr (stX f l U)):=by
 have:=allS (stU f l U) U (fitP vs) (Dy vs U) (.inl (stX f l U)) (.inr (stX f l U)) (fun i hi=>by
  unfold Dy stU J7
  have hd:decide ((i:Int)<(U.length:Int))=true:=by simpa using hi
  simp only[hd,Af,Ac (Ap hi),Eo,An,A8 hi hU];unfold fitP
  cases(((Hy (default:Aj) vs (U.getD i default).v).shape.1==(U.getD i default).shape.1)&&(((Hy (default:Aj) vs (U.getD i default).v).shape.2==(U.getD i default).shape.2)&&true))<;>rfl) (by unfold Dy stU;simp;rfl) U.length 0 (by omega)
 rw[Kk]at this;exact this
theorem c_used3(htl:(Da f).length<=1000)(U:List Aq)(hU:U.length<9223372036854775808):Ag (Dz vs U) (stU f l U 0)=some (bif U.all (aheadP vs (Da f)) then .inl (stX f l U) else .inr (stX f l U)):=by
 have:=allS (stU f l U) U (aheadP vs (Da f)) (Dz vs U) (.inl (stX f l U)) (.inr (stX f l U)) (fun i hi=>by
  have hx:Gj (U.getD i default) f l (Da f) vs U=some (aheadP vs (Da f) (U.getD i default),f,l,Da f,U):=by
   unfold Gj aheadP;rw[m_Over htl]
   cases(Hy (default:Aj) vs (U.getD i default).v).place.block==(U.getD i default).place.block<;>rfl
  unfold Dz stU
  have hd:decide ((i:Int)<(U.length:Int))=true:=by simpa using hi
  simp only[hd,Af,Ac (Ap hi),Eo];rw[show(⟨f.Params,f.Ret,f.Blocks⟩:TFunc)=f from rfl,hx,An,A8 hi hU]
  cases aheadP vs (Da f) (U.getD i default)<;>rfl) (by unfold Dz stU;simp;rfl) U.length 0 (by omega)
 rw[Kk]at this;exact this
end
def usedD(f:TFunc):Int:=bif !(B5 f).all (Li (A2 f)) then 7 else bif !(B5 f).all (Vu (A2 f)) then 6 else bif !(B5 f).all (Tv (A2 f) (Da f)) then 7 else 0
theorem c_used{f:TFunc}(hf:OkF f)(hs:G8 f=true)(l:Int):∃ U,H9 f l (Da f) (dv (A2 f)) []=some (usedD f,f,l,Da f,U):=by
 have hfit:=fit_of hs;have hul:=usesF_len hf
 have hsB:Ln f=true:=by simp only[G8,Bc]at hs;exact hs.1
 refine⟨(B5 f).map (Gd f),?_⟩
 have hU:((B5 f).map (Gd f)).length<9223372036854775808:=by rw[T9];omega
 have h1:=c_used1 (f:=f) l (dv (A2 f)) _ hU;have h2:=c_used2 (f:=f) l (dv (A2 f)) _ hU;have h3:=c_used3 (f:=f) l (dv (A2 f)) (tree_len hsB) _ hU;rw[Xb (q:=Li (A2 f)) (fun u _=>mhas_found u.V _)]at h1;unfold H9 usedD Pq;rw[c_collect hf l (Da f) (dv (A2 f)) hfit,An];simp only;rw[show(Ag (Dx (dv (A2 f)) (f,l,Da f,(B5 f).map (Gd f))) ((0:Int),f.Params,f.Ret,f.Blocks,l,Da f,(B5 f).map (Gd f)))=_ from h1,An];have fin:∀ e:Int,Ag Kr (e,f.Params,f.Ret,f.Blocks,l,Da f,(B5 f).map (Gd f))=some (e,f,l,Da f,(B5 f).map (Gd f)):=fun e=>Ao rfl
 cases hfd:(B5 f).all (Li (A2 f)) with
 | false=>simp only[Ar,L2,Af,stX,An,fin]
 | true=>
  have hmf:=zzL30.1 hfd
  rw[Xb (q:=Vu (A2 f)) (fun u hu=>by
   have:=hmf u hu;simp only[Li,Ph,zzL92]at this;have hg:Hy (default:Aj) (dv (A2 f)) (Gd f u).v=valD (defOf (A2 f) u.V):=mget_found u.V _ this;unfold fitP Vu
   rw[hg];rfl)]at h2
  rw[Xb (q:=Tv (A2 f) (Da f)) (fun u hu=>ahead_eq hs (defs_in hf) (uses_in hfit u hu) (hmf u hu))]at h3;simp only[Af,Df,Ar,stX];rw[show(Ag (Dy (dv (A2 f)) ((B5 f).map (Gd f))) ((0:Int),f.Params,f.Ret,f.Blocks,l,Da f,(B5 f).map (Gd f)))=_ from h2,An]
  cases(B5 f).all (Vu (A2 f)) with
  | false=>simp only[Ar,L2,Af,stX,An,fin]
  | true=>
   simp only[Af,Df,Ar,stX];rw[show(Ag (Dz (dv (A2 f)) ((B5 f).map (Gd f))) ((0:Int),f.Params,f.Ret,f.Blocks,l,Da f,(B5 f).map (Gd f)))=_ from h3,An]
   cases(B5 f).all (Tv (A2 f) (Da f)) with
   | false=>simp only[Ar,L2,Af,stX,An,fin]
   | true=>simp only[Af,Df,Ar,stX,An]
theorem c_wrong{f:TFunc}(h:Sm f)(l:Int)(h0:0<=l)(h2:l<=2):∃ t u vs,Hg f l [] []=some (Hr f l,f,l,t,u,vs)/\(Hr f l=0->vs=dv (A2 f)):=by
 have hc:Hr f l=bif !Tu f then 4 else wrongD f l:=by
  unfold Hr;rw[C0 (by omega),C0 (by omega)];rfl
 rw[hc];unfold Hg;rw[c_told f h.1,An]
 cases hm:Tu f with
 | false=>exact⟨[],[],[],rfl,fun h=>by cases h⟩
 | true=>
  have hf:=sm_ok h hm;simp only[Af,Df,Ar,show((0:Int)!=0)=false from rfl,wrongD];obtain⟨t',hsh,hst⟩:=c_shaped hf l [] [];rw[hsh,An]
  cases hs:G8 f with
  | false=>exact⟨t',[],[],rfl,fun h=>by cases h⟩
  | true=>
   obtain rfl:=hst hs;simp only[Af,Df,Ar,show((0:Int)!=0)=false from rfl];rw[c_typed hf l h0 h2,An]
   cases Te f l with
   | false=>exact⟨Da f,[],[],rfl,fun h=>by cases h⟩
   | true=>
    simp only[Af,Df,Ar,show((0:Int)!=0)=false from rfl];obtain⟨vs,hd,hv⟩:=c_defined hf l (Da f) [];rw[hd,An]
    cases hdd:(List.range (A2 f).length).all (O1 (A2 f)) with
    | false=>exact⟨Da f,[],vs,rfl,fun h=>by cases h⟩
    | true=>
     obtain rfl:=hv hdd;simp only[Af,Df,Ar,show((0:Int)!=0)=false from rfl];obtain⟨U,hu⟩:=c_used hf hs l;rw[hu,An];refine⟨Da f,U,dv (A2 f),?_,fun _=>rfl⟩
     show(bif usedD f !=0 then some (usedD f,f,l,Da f,U,dv (A2 f)) else some (0,f,l,Da f,U,dv (A2 f)))=some (usedD f,f,l,Da f,U,dv (A2 f))
     cases hz:usedD f !=0 with
     | true=>rfl
     | false=>
      have:usedD f=0:=by simpa using hz
      rw[this];rfl
theorem c_check(f:TFunc)(l:Int)(h:Sm f):Nn f l=some (Hr f l):=by
 unfold Nn
 by_cases h0:l<0
 ·rw[B2 h0];unfold Hr;rw[B2 h0];rfl
 ·by_cases h2:2<l
  ·rw[C0 h0,B2 h2];unfold Hr;rw[C0 h0,B2 h2];rfl
  ·obtain⟨t,u,vs,hw,_⟩:=c_wrong h l (by omega) (by omega);rw[C0 h0,C0 h2,hw];rfl
abbrev bA(f:TFunc)(i:Nat):Ah:=f.Blocks.getD i default
def G9(f:TFunc)(i:Nat)(k:Nat):Int:=(bA f i).End.To.getD k 0
def prF(f:TFunc)(i:Nat):List Int:=(Ct (Bl f)).getD i []
def midB(f:TFunc)(a x:Int):Bool:=((bA f x.toNat).End.Kind==1)&&decide ((bA f x.toNat).Phis.length=0)&&decide (prF f x.toNat=[a])
structure Rt(f:TFunc):Prop where
 lo:1<=f.Blocks.length
 hi:f.Blocks.length<=64
 to:∀ i,i<f.Blocks.length->∀ k,k<(bA f i).End.To.length->0<G9 f i k/\G9 f i k<f.Blocks.length
 one:∀ i,i<f.Blocks.length->(bA f i).End.Kind=1->(bA f i).End.To.length=1
 two:∀ i,i<f.Blocks.length->(bA f i).End.Kind=2->(bA f i).End.To.length=2
 may:Lt (Bl f)=true
 ok:OkF f
theorem rt_of{f:TFunc}(h:Sm f)(hc:Hr f 2=0):Rt f:=by
 have hz:=(Uj (f:=f) (l:=2) (by omega) (by omega)).1 hc
 have hs:Ln f=true:=by
  have:=hz.2.1;unfold G8 at this;rw[Bc]at this;exact this.1
 obtain⟨⟨h1,h2⟩,h3⟩:=shape_iff.1 hs
 have hw:∀ i,i<f.Blocks.length->(((bA f i).End.To.length:Nat):Int)=Yg (bA f i).End.Kind:=fun i hi=>by
  have:=h3 i hi;unfold Na Zt at this;simp only[Bc,Jd]at this;exact this.1.2
 refine⟨h1,h2,fun i hi k hk=>?_,fun i hi hk=>?_,fun i hi hk=>?_,O4 hs,sm_ok h hz.1⟩
 ·exact toB_iff.1 (fits_to (h3 i hi)) _ (Aw (d:=0) hk)
 ·have:=hw i hi;rw[hk,show Yg 1=1 from rfl]at this;omega
 ·have:=hw i hi;rw[hk,show Yg 2=2 from rfl]at this;omega
theorem pr_len(f:TFunc):(Ct (Bl f)).length=f.Blocks.length:=by rw[Oa,T4]
theorem c_by{f:TFunc}(R:Rt f)(a x:Int)(hx:A5 x f.Blocks.length):F2 x f.Blocks (Ct (Bl f)) a=some (bif midB f a x then(x,G9 f x.toNat 0,true) else(-1,-1,false)):=by
 have hxn:x.toNat<f.Blocks.length:=by have:=hx.1;have:=hx.2;omega
 unfold F2 midB;rw[Ac hx]
 have hlen:A5 x (Ct (Bl f)).length:=by rw[pr_len];exact hx
 rw[Ac (fun _=>hlen)]
 by_cases hk:(bA f x.toNat).End.Kind=1
 ·have hk':((f.Blocks.getD x.toNat default).End.Kind !=1)=false:=by simpa using hk
  have hto:=R.one _ hxn hk
  by_cases hp:(bA f x.toNat).Phis.length=0
  ·have hp':decide ((0:Int)<((f.Blocks.getD x.toNat default).Phis.length:Int))=false:=by rw[show(f.Blocks.getD x.toNat default).Phis.length=0 from hp];rfl
   rw[hk',Ar,hp',show((false:Bool)==false)=true from rfl,Af,m_equal _ _ (by simp),An,Ar]
   have e1:((bA f x.toNat).End.Kind==1)=true:=by simpa using hk
   rw[e1,B2 hp,F8,F8];unfold prF G9
   cases decide ((Ct (Bl f)).getD x.toNat []=[a]) with
   | true=>rw[Df,Ar,Ac (show A5 (0:Int) (f.Blocks.getD x.toNat default).End.To.length from⟨by omega,by rw[show(f.Blocks.getD x.toNat default).End.To.length=1 from hto];omega⟩)];rfl
   | false=>rfl
  ·have hp':decide ((0:Int)<((f.Blocks.getD x.toNat default).Phis.length:Int))=true:=B2 (by have:(f.Blocks.getD x.toNat default).Phis.length≠0:=hp;omega);rw[hk',Ar,hp',show((true:Bool)==false)=false from rfl,Ar,An,Af,Af,C0 hp,Bool.and_false,Vj,Ar]
 ·have hk':((f.Blocks.getD x.toNat default).End.Kind !=1)=true:=by simpa using hk
  have e1:((bA f x.toNat).End.Kind==1)=false:=by simpa using hk
  rw[hk',Af,show((true:Bool)==false)=false from rfl,Ar,An,Af,Af,e1,Vj,Vj,Ar]
def zH:THammock:=⟨0,0,0,0⟩
def c1H(f:TFunc)(a:Int)(x y:Int):Bool:=midB f a x&&midB f a y&&(G9 f x.toNat 0==G9 f y.toNat 0)&&!(G9 f x.toNat 0==a)
def c2H(f:TFunc)(a:Int)(x y:Int):Bool:=midB f a x&&(G9 f x.toNat 0==y)&&!(y==a)
def hamO(f:TFunc)(i:Nat):Option THammock:=
 bif ((bA f i).End.Kind==2)&&!(G9 f i 0==G9 f i 1) then
  bif c1H f i (G9 f i 0) (G9 f i 1) then some ⟨i,G9 f i 0,G9 f i 1,G9 f (G9 f i 0).toNat 0⟩ else
  bif c2H f i (G9 f i 0) (G9 f i 1) then some ⟨i,G9 f i 0,-1,G9 f i 1⟩ else
  bif c2H f i (G9 f i 1) (G9 f i 0) then some ⟨i,-1,G9 f i 1,G9 f i 0⟩ else none
 else none
section
variable {f:TFunc} (R:Rt f) {a:Int} {i:Nat} (hi:i<f.Blocks.length) (hk:(bA f i).End.Kind=2)
include R hi hk
theorem to_in(k:Nat)(hk2:k<2):A5 (G9 f i k) f.Blocks.length:=by
 have:=R.to i hi k (by rw[R.two i hi hk];exact hk2);exact⟨by omega,this.2⟩
theorem c_meet1:J9 i (bA f i).End.To f.Blocks (Ct (Bl f)) i f.Blocks (Ct (Bl f)) i =
  some (bif c1H f i (G9 f i 0) (G9 f i 1) then(⟨i,G9 f i 0,G9 f i 1,G9 f (G9 f i 0).toNat 0⟩,true) else(zH,false)):=by
 have h2:=R.two i hi hk;unfold J9;rw[Ac (show A5 (0:Int) (bA f i).End.To.length from⟨by omega,by omega⟩)];have e0:=c_by R i (G9 f i 0) (to_in R hi hk 0 (by omega));have e1:=c_by R i (G9 f i 1) (to_in R hi hk 1 (by omega));have g0:(bA f i).End.To.getD (0:Int).toNat 0=G9 f i 0:=rfl;have g1:(bA f i).End.To.getD (1:Int).toNat 0=G9 f i 1:=rfl;rw[g0,g1,e0,An,Ac (show A5 (1:Int) (bA f i).End.To.length from⟨by omega,by omega⟩),e1,An];unfold c1H
 cases midB f i (G9 f i 0) with
 | false=>rfl
 | true=>
  cases midB f i (G9 f i 1) with
  | false=>rfl
  | true=>
   simp only[Af,Df,Ar,F8,bne]
   cases(G9 f (G9 f i 0).toNat 0==G9 f (G9 f i 1).toNat 0) with
   | false=>rfl
   | true=>cases(G9 f (G9 f i 0).toNat 0==(i:Int))<;>rfl
theorem c_meet2:Ic i (bA f i).End.To f.Blocks (Ct (Bl f)) i =
  some (bif c2H f i (G9 f i 0) (G9 f i 1) then(⟨i,G9 f i 0,-1,G9 f i 1⟩,true) else(zH,false)):=by
 have h2:=R.two i hi hk;unfold Ic;rw[Ac (show A5 (0:Int) (bA f i).End.To.length from⟨by omega,by omega⟩)];have e0:=c_by R i (G9 f i 0) (to_in R hi hk 0 (by omega));have g0:(bA f i).End.To.getD (0:Int).toNat 0=G9 f i 0:=rfl;have g1:(bA f i).End.To.getD (1:Int).toNat 0=G9 f i 1:=rfl;rw[g0,g1,e0,An,Ac (show A5 (1:Int) (bA f i).End.To.length from⟨by omega,by omega⟩),It,An];unfold c2H
 cases midB f i (G9 f i 0) with
 | false=>rfl
 | true=>
  simp only[Af,Df,Ar,F8,bne]
  cases h:(G9 f (G9 f i 0).toNat 0==G9 f i 1) with
  | false=>rfl
  | true=>
   have h':G9 f (G9 f i 0).toNat 0=G9 f i 1:=by simpa using h
   rw[h']
   cases(G9 f i 1==(i:Int))<;>rfl
theorem c_meet3:Id i (bA f i).End.To f.Blocks (Ct (Bl f)) i =
  some (bif c2H f i (G9 f i 1) (G9 f i 0) then(⟨i,-1,G9 f i 1,G9 f i 0⟩,true) else(zH,false)):=by
 have h2:=R.two i hi hk;unfold Id;rw[Ac (show A5 (0:Int) (bA f i).End.To.length from⟨by omega,by omega⟩)];have e1:=c_by R i (G9 f i 1) (to_in R hi hk 1 (by omega));have g0:(bA f i).End.To.getD (0:Int).toNat 0=G9 f i 0:=rfl;have g1:(bA f i).End.To.getD (1:Int).toNat 0=G9 f i 1:=rfl;rw[g0,g1,It,An,Ac (show A5 (1:Int) (bA f i).End.To.length from⟨by omega,by omega⟩),e1,An];unfold c2H
 cases midB f i (G9 f i 1) with
 | false=>rfl
 | true=>
  simp only[Af,Df,Ar,F8,bne];rw[show(G9 f i 0==G9 f (G9 f i 1).toNat 0)=(G9 f (G9 f i 1).toNat 0==G9 f i 0) by rw[Nw,zzL71,zzL71];exact Ps]
  cases(G9 f (G9 f i 1).toNat 0==G9 f i 0) with
  | false=>rfl
  | true=>cases(G9 f i 0==(i:Int))<;>rfl
end
def allH(f:TFunc):List THammock:=(List.range f.Blocks.length).flatMap fun i=>(hamO f i).toList
theorem toList_le{α:Type}(o:Option α):o.toList.length<=1:=by cases o<;>simp
theorem all_step{f:TFunc}(R:Rt f){i:Nat}(hi:i<f.Blocks.length)(l:List THammock)(hl:l.length<=0+i*1)(c:Int) :
  Hu f (I7 (Bl f),c) (l,(i:Int))=some (.next (l++(hamO f i).toList,(i:Int)+1)):=by
 have hroom:(1000:Nat)<=room:=by decide
 have hi64:=R.hi;unfold Hu hamO;have hg:f.Blocks.getD (i:Int).toNat default=bA f i:=rfl;simp only[hg,De hi,Af,Ac (Ap hi),w1 (show i<4611686018427387904 by omega)]
 have hap:∀ h:THammock,l.length+([h]:List THammock).length<=room:=fun h=>by simp;omega
 have ie:((i+1:Nat):Int)=(i:Int)+1:=by omega
 by_cases hk:(bA f i).End.Kind=2
 ·have hk':((bA f i).End.Kind !=2)=false:=by simpa using hk
  have hk2:((bA f i).End.Kind==2)=true:=by simpa using hk
  have h2:=R.two i hi hk;have i0:A5 (0:Int) (bA f i).End.To.length:=⟨by omega,by omega⟩;have i1:A5 (1:Int) (bA f i).End.To.length:=⟨by omega,by omega⟩;simp only[hk',hk2,Ac (fun _=>i0),Ac (fun _=>i1),Ar,F8];have g0:(bA f i).End.To.getD (0:Int).toNat 0=G9 f i 0:=rfl;have g1:(bA f i).End.To.getD (1:Int).toNat 0=G9 f i 1:=rfl;rw[g0,g1]
  cases(G9 f i 0==G9 f i 1) with
  | true=>simp[ie]
  | false=>
   have hpred:(I7 (Bl f)).Pred=Ct (Bl f):=rfl;simp only[Ar,L2,Af,Nz,An,hpred,c_meet1 R hi hk,c_meet2 R hi hk,c_meet3 R hi hk]
   cases c1H f i (G9 f i 0) (G9 f i 1) with
   | true=>simp only[Af];rw[Ad (hap _)];simp[ie]
   | false=>
    simp only[Ar]
    cases c2H f i (G9 f i 0) (G9 f i 1) with
    | true=>simp only[Af];rw[Ad (hap _)];simp[ie]
    | false=>
     simp only[Ar]
     cases c2H f i (G9 f i 1) (G9 f i 0) with
     | true=>simp only[Af];rw[Ad (hap _)];simp[ie]
     | false=>simp[ie]
 ·have hk':((bA f i).End.Kind !=2)=true:=by simpa using hk
  have hk2:((bA f i).End.Kind==2)=false:=by simpa using hk
  simp only[hk',hk2,Af,Vj,Ar];rw[Ac (fun h=>by cases h),Ac (fun h=>by cases h)];simp[ie]
theorem m_All{f:TFunc}(h:Sm f):Ja f=some (bif Hr f 2==0 then allH f else[]):=by
 have hmax:f.Blocks.length<=maxLen:=h.1.blocks;unfold Ja;rw[c_check f 2 h,An]
 by_cases hc:Hr f 2=0
 ·have R:=rt_of h hc
  have hs:Ln f=true:=by
   have:=((Uj (f:=f) (l:=2) (by omega) (by omega)).1 hc).2.1;unfold G8 at this;rw[Bc]at this;exact this.1
  rw[hc,show((0:Int)!=0)=false from rfl,show((0:Int)==0)=true from rfl,Ar,Af,m_of f hmax,hs,Af,An];have hL:=Kq f.Blocks.length 0 1 (fun i=>(hamO f i).toList) (fun i _=>toList_le _) (Hu f (I7 (Bl f),0)) (fun acc i hi ha=>all_step R hi acc ha 0)
   (fun acc=>by unfold Hu;simp only[Gf,Ar]) f.Blocks.length 0 [] (by omega) (by simp)
  have hL':Ag (Hu f (I7 (Bl f),0)) (([]:List THammock),(0:Int))=_:=hL;rw[hL',An];unfold Pq allH;rw[Pg];rfl
 ·have e1:((Hr f 2)!=0)=true:=by simpa using hc
  have e2:((Hr f 2)==0)=false:=by simpa using hc
  rw[e1,e2,Af,Ar]
  rfl
theorem loop_first{X:Type}(f:Int->Option (LR Int X))(p:Nat->Bool)(out:Nat->X)(no:X)(n:Nat)(hn:∀ i,i<n->p i=false->f (i:Int)=some (.next (((i+1:Nat):Int))))
  (hf:∀ i,i<n->p i=true->f (i:Int)=some (.done (out i))) (he:f (n:Int)=some (.done no)) :
  (∃ i,i<n/\p i=true/\Ag f (0:Int)=some (out i))\/((∀ i,i<n->p i=false)/\Ag f (0:Int)=some no):=by
 suffices h:∀ k i,i+k=n->(∀ j,j<i->p j=false)->(∃ i',i'<n/\p i'=true/\Ag f (i:Int)=some (out i'))\/((∀ i,i<n->p i=false)/\Ag f (i:Int)=some no) from
  h n 0 (by omega) (fun j hj=>absurd hj (Qp _))
 intro k
 induction k with
 | zero=>
  intro i hi hj
  obtain rfl:i=n:=by omega
  exact .inr ⟨hj,Ao he⟩
 | succ k ih=>
  intro i hi hj
  cases hp:p i with
  | true=>exact .inl ⟨i,by omega,hp,Ao (hf i (by omega) hp)⟩
  | false=>
   rw[Ay (hn i (by omega) hp)];refine ih (i+1) (by omega) fun j hj2=>?_
   by_cases e:j=i
   ·subst e;exact hp
   ·exact hj j (by omega)
theorem ham_at{f:TFunc}{i:Nat}{h:THammock}(hh:hamO f i=some h):h.At=i:=by
 unfold hamO at hh
 revert hh
 cases(((bA f i).End.Kind==2)&&!(G9 f i 0==G9 f i 1))<;>cases c1H f i (G9 f i 0) (G9 f i 1)<;>cases c2H f i (G9 f i 0) (G9 f i 1)<;>cases c2H f i (G9 f i 1) (G9 f i 0)<;>intro hh<;>cases hh<;>rfl
theorem mem_all{f:TFunc}{h:THammock}:h∈allH f↔∃ i,i<f.Blocks.length/\hamO f i=some h:=by
 unfold allH;rw[zzL83]
 constructor
 ·rintro⟨i,h1,h2⟩;exact⟨i,zzL52.1 h1,by simpa using h2⟩
 ·rintro⟨i,h1,h2⟩;exact⟨i,zzL52.2 h1,by simpa using h2⟩
theorem all_len{f:TFunc}:(allH f).length<=f.Blocks.length:=by
 unfold allH;have:=I8 1 (fun i=>(hamO f i).toList) (List.range f.Blocks.length) (fun i _=>toList_le _)
 simpa using this
def isH(f:TFunc)(h:THammock):Bool:=decide (A5 h.At f.Blocks.length)&&decide (hamO f h.At.toNat=some h)
theorem is_mem{f:TFunc}{h:THammock}:isH f h=true↔h∈allH f:=by
 unfold isH;rw[mem_all,Bc,Jd,Jd]
 constructor
 ·rintro⟨h1,h2⟩;exact⟨_,by have:=h1.1;have:=h1.2;omega,h2⟩
 ·rintro⟨i,h1,h2⟩;have:=ham_at h2;exact⟨by rw[this];exact Ap h1,by rw[this,Au];exact h2⟩
def okF(f:TFunc):Bool:=Hr f 2==0
def allHR(f:TFunc):List THammock:=bif okF f then allH f else[]
def Wf(f:TFunc)(h:THammock):Bool:=okF f&&isH f h
theorem isHR_mem{f:TFunc}{h:THammock}:Wf f h=true↔h∈allHR f:=by
 unfold Wf allHR
 cases okF f with
 | true=>rw[F8];exact is_mem
 | false=>simp
theorem m_All'{f:TFunc}(h:Sm f):Ja f=some (allHR f):=m_All h
theorem allHR_len{f:TFunc}:(allHR f).length<=f.Blocks.length:=by
 unfold allHR;cases okF f
 ·simp
 ·exact all_len
theorem small_n{f:TFunc}(h:Sm f):(allHR f).length<4611686018427387904:=by
 by_cases hc:okF f=true
 ·have:=(rt_of h (by simpa [okF] using hc)).hi;have:=allHR_len (f:=f);omega
 ·unfold allHR;rw[Bool.eq_false_iff.2 hc];simp
theorem ham_eq(v x:THammock):((v.At==x.At)&&((v.Then==x.Then)&&((v.Else==x.Else)&&((v.Join==x.Join)&&true))))=decide (v=x):=by
 cases v;cases x
 rw[Nw];simp[THammock.mk.injEq]
theorem m_Is{f:TFunc}(h:Sm f)(v:THammock):J8 f v=some (Wf f v):=by
 unfold J8 Cv Dd;rw[m_All' h,An];have hn:=small_n h
 rcases loop_first (m_slices_Index_api_Hammock_api_Hammock_L1 (allHR f) v) (fun i=>decide (v=(allHR f).getD i default)) (fun i=>.inr (i:Int)) (.inl ()) (allHR f).length (fun i hi hp=>by
   unfold m_slices_Index_api_Hammock_api_Hammock_L1
   simp only[De hi,Af,Au,Ac (Ap hi),ham_eq,hp,Ar,w1 (show i<4611686018427387904 by omega)]) (fun i hi hp=>by
   unfold m_slices_Index_api_Hammock_api_Hammock_L1
   simp only[De hi,Af,Au,Ac (Ap hi),ham_eq,hp]) (by unfold m_slices_Index_api_Hammock_api_Hammock_L1;simp only[Gf,Ar]) with⟨i,hi,hp,hl⟩|⟨hp,hl⟩
 ·rw[hl];have hm:Wf f v=true:=isHR_mem.2 (by rw[Jd]at hp;rw[hp];exact Aw hi);rw[hm]
  simp
 ·rw[hl]
  have hm:Wf f v=false:=by
   rw[Bool.eq_false_iff];intro hm;obtain⟨i,hi,he⟩:=Qn (isHR_mem.1 hm);have:=hp i hi;rw[Ai _ _ _ hi,he]at this;simp at this
  rw[hm];rfl
def X1(f:TFunc)(x:Int):List Dp:=bif x !=-1 then(bA f x.toNat).Ops else[]
def opsH(f:TFunc)(h:THammock):List Dp:=X1 f h.Then++X1 f h.Else
theorem ham_in {f : TFunc} (R : Rt f) {i : Nat} (hi : i < f.Blocks.length) {h : THammock} (hh : hamO f i = some h) :
    (bA f i).End.Kind = 2 ∧ G9 f i 0 ≠ G9 f i 1 ∧ A5 h.Join f.Blocks.length ∧ h.Join ≠ i ∧
    ((h.Then = G9 f i 0 ∧ h.Else = G9 f i 1 ∧ midB f i h.Then = true ∧ midB f i h.Else = true ∧ G9 f h.Then.toNat 0 = h.Join ∧ G9 f h.Else.toNat 0 = h.Join) ∨
     (h.Then = G9 f i 0 ∧ h.Else = -1 ∧ h.Join = G9 f i 1 ∧ midB f i h.Then = true ∧ G9 f h.Then.toNat 0 = h.Join) ∨
     (h.Then = -1 ∧ h.Else = G9 f i 1 ∧ h.Join = G9 f i 0 ∧ midB f i h.Else = true ∧ G9 f h.Else.toNat 0 = h.Join)) := by
  unfold hamO at hh
  cases hk : (((bA f i).End.Kind == 2) && !(G9 f i 0 == G9 f i 1)) with
  | false => rw [hk] at hh; cases hh
  | true =>
    rw [hk, Af] at hh; simp only [Bc, zzL71, Ph, zzL34] at hk; obtain ⟨hk1, hk2⟩ := hk; have t0 := to_in R hi hk1 0 (by omega); have t1 := to_in R hi hk1 1 (by omega)
    have hb : ∀ x, A5 x f.Blocks.length → midB f i x = true → A5 (G9 f x.toNat 0) f.Blocks.length := fun x hx hm => by
      have hxn : x.toNat < f.Blocks.length := by have := hx.1; have := hx.2; omega
      unfold midB at hm; simp only [Bc, zzL71] at hm; have := R.to _ hxn 0 (by rw [R.one _ hxn hm.1.1]; omega); exact ⟨by omega, this.2⟩
    refine ⟨hk1, hk2, ?_⟩
    cases h1 : c1H f i (G9 f i 0) (G9 f i 1) with
    | true =>
      rw [h1, Af] at hh; cases hh; unfold c1H at h1; simp only [Bc, zzL71, Ph, zzL34] at h1; obtain ⟨⟨⟨a1, a2⟩, a3⟩, a4⟩ := h1; exact ⟨hb _ t0 a1, a4, .inl ⟨rfl, rfl, a1, a2, rfl, a3.symm⟩⟩
    | false =>
      rw [h1, Ar] at hh
      cases h2 : c2H f i (G9 f i 0) (G9 f i 1) with
      | true =>
        rw [h2, Af] at hh; cases hh; unfold c2H at h2; simp only [Bc, zzL71, Ph, zzL34] at h2; obtain ⟨⟨a1, a3⟩, a4⟩ := h2; exact ⟨t1, a4, .inr (.inl ⟨rfl, rfl, rfl, a1, a3⟩)⟩
      | false =>
        rw [h2, Ar] at hh
        cases h3 : c2H f i (G9 f i 1) (G9 f i 0) with
        | true =>
          rw [h3, Af] at hh; cases hh; unfold c2H at h3; simp only [Bc, zzL71, Ph, zzL34] at h3; obtain ⟨⟨a1, a3⟩, a4⟩ := h3; exact ⟨t0, a4, .inr (.inr ⟨rfl, rfl, rfl, a1, a3⟩)⟩
        | false => rw [h3] at hh; cases hh
theorem Y0{f:TFunc}(R:Rt f){i:Nat}(hi:i<f.Blocks.length){h:THammock}(hh:hamO f i=some h):(h.Then = -1\/A5 h.Then f.Blocks.length)/\(h.Else = -1\/A5 h.Else f.Blocks.length):=by
 obtain⟨hk,_,_,_,hc⟩:=ham_in R hi hh;have t0:=to_in R hi hk 0 (by omega);have t1:=to_in R hi hk 1 (by omega);rcases hc with⟨a,b,_⟩|⟨a,b,_⟩|⟨a,b,_⟩
 ·exact⟨.inr (a▸t0),.inr (b▸t1)⟩
 ·exact⟨.inr (a▸t0),.inl b⟩
 ·exact⟨.inl a,.inr (b▸t1)⟩
theorem Rw{f:TFunc}(R:Rt f){x:Int}(hx:x = -1\/A5 x f.Blocks.length):(X1 f x).length<=512:=by
 unfold X1
 by_cases e:x = -1
 ·subst e;exact Qe _
 ·rcases hx with hx|hx
  ·exact absurd hx e
  ·rw[show(x !=-1)=true by simpa using e,Af];exact(R.ok.block _ (Aw (by have:=hx.1;have:=hx.2;omega))).ops
theorem btw_step{f:TFunc}(R:Rt f)(h:THammock){k:Nat}(hk:k<2)(x:Int)(he:([h.Then,h.Else]:List Int).getD k 0=x)(hx:x = -1\/A5 x f.Blocks.length)(l:List Dp)(hl:l.length<=512) :
  D6 f h (l,(k:Int))=some (.next (l++X1 f x,((k+1:Nat):Int))):=by
 have hroom:(2000:Nat)<=room:=by decide
 unfold D6;have hlen:=Rw R hx;simp only[Au,he,De (show k<([h.Then,h.Else]:List Int).length from hk),Af,Ac (Ap (show k<([h.Then,h.Else]:List Int).length from hk)),w1 (show k<4611686018427387904 by omega)];unfold X1 at hlen ⊢
 by_cases e:x = -1
 ·subst e;rw[show((-1:Int)!=-1)=false from rfl,Ar,Ar,An,List.append_nil]
 ·have e':(x !=-1)=true:=by simpa using e
  rw[e']at hlen ⊢;rcases hx with hx|hx
  ·exact absurd hx e
  ·rw[Af]at hlen;rw[Af,Ac hx,Af,Ac (show l.length+(bA f x.toNat).Ops.length<=room by omega),An]
theorem m_btw{f:TFunc}(h:Sm f)(v:THammock):Is f v=some (bif Wf f v then(opsH f v,true) else([],false)):=by
 unfold Is;rw[m_Is h,An]
 cases hi:Wf f v with
 | false=>rfl
 | true=>
  rw[Df,Ar,Af];unfold Wf at hi;rw[Bc]at hi;have R:=rt_of h (by simpa [okF] using hi.1);obtain⟨i,hin,ho⟩:=mem_all.1 (is_mem.1 hi.2);obtain⟨h1,h2⟩:=Y0 R hin ho;have s0:=btw_step R v (k:=0) (by omega) v.Then rfl h1 [] (by simp);have s1:=btw_step R v (k:=1) (by omega) v.Else rfl h2 ([]++X1 f v.Then) (by rw[Sx];exact Rw R h1)
  have hL:Ag (D6 f v) (([]:List Dp),(0:Int))=some (opsH f v):=by
   have e0:Ag (D6 f v) (([]:List Dp),(0:Int))=_:=Ay s0;rw[e0];have e1:Ag (D6 f v) ([]++X1 f v.Then,((0+1:Nat):Int))=_:=Ay s1;rw[e1];refine Ao ?_;unfold D6 opsH;rw[Sx];rfl
  rw[hL];rfl
theorem m_Cost{f:TFunc}(h:Sm f)(v:THammock):Kv f v=some (bif Wf f v then((opsH f v).length:Int) else 0):=by
 unfold Kv;rw[m_btw h,An]
 cases Wf f v<;>rfl
theorem m_anyOp(l:List Dp)(hl:l.length<4611686018427387904):Cq l=some (l.any fun o=>o.Lanes !=1):=by
 unfold Cq Eu
 rcases loop_first (m_slices_IndexFunc_api_Op_api_Op_L1 l) (fun i=>(l.getD i default).Lanes !=1) (fun i=>.inr (i:Int)) (.inl ()) l.length (fun i hi hp=>by
   unfold m_slices_IndexFunc_api_Op_api_Op_L1
   simp only[De hi,Af,Au,Ac (Ap hi),Jl,An,hp,Ar,w1 (show i<4611686018427387904 by omega)]) (fun i hi hp=>by
   unfold m_slices_IndexFunc_api_Op_api_Op_L1
   simp only[De hi,Af,Au,Ac (Ap hi),Jl,An,hp]) (by unfold m_slices_IndexFunc_api_Op_api_Op_L1;simp only[Gf,Ar]) with⟨i,hi,hp,hl⟩|⟨hp,hl⟩
 ·rw[hl,List.any_eq_true.2 ⟨_,Aw hi,hp⟩]
  simp
 ·rw[hl]
  have:(l.any fun o=>o.Lanes !=1)=false:=by
   rw[Bool.eq_false_iff];intro h;obtain⟨o,ho,hb⟩:=List.any_eq_true.1 h;obtain⟨i,hi,he⟩:=Qn ho;have:=hp i hi;rw[Ai _ _ _ hi,he,hb]at this
   cases this
  rw[this];rfl
def Y4(f:TFunc)(v:THammock):Bool:=Wf f v&&(opsH f v).all fun o=>o.Lanes==1
theorem opsH_len{f:TFunc}(h:Sm f){v:THammock}(hi:Wf f v=true):(opsH f v).length<=1024:=by
 unfold Wf at hi;rw[Bc]at hi;have R:=rt_of h (by simpa [okF] using hi.1);obtain⟨i,hin,ho⟩:=mem_all.1 (is_mem.1 hi.2);obtain⟨h1,h2⟩:=Y0 R hin ho;have:=Rw R h1;have:=Rw R h2;unfold opsH;rw[Fh];omega
theorem m_Merges{f:TFunc}(h:Sm f)(v:THammock):Hv f v=some (Y4 f v):=by
 unfold Hv Y4;rw[m_btw h,An]
 cases hi:Wf f v with
 | false=>rfl
 | true=>
  have hl:=opsH_len h hi;simp only[Af,show((true:Bool)==true)=true from rfl,m_anyOp _ (show(opsH f v).length<4611686018427387904 by omega),An,F8]
  congr 1
  rw[List.not_any_eq_all_not]
  congr 1
  funext o
  simp[bne]
def lone(e:Lo)(b r:Int):TFunc:=⟨[b],r,[⟨[],[],e⟩]⟩
theorem ones{α:Type}(l:List α):(l.map fun _=>1).sum=l.length:=by induction l with|nil=>rfl|cons a l ih=>simp[ih];omega
set_option maxRecDepth 100000
theorem m_awake14:m_locksteplaw14_awake=some true:=by kernel_rfl
theorem opsH_mem{f:TFunc}(h:Sm f){v:THammock}(hi:Wf f v=true){o:Dp}(ho:o∈opsH f v):∃ b∈f.Blocks,o∈b.Ops:=by
 unfold Wf at hi;rw[Bc]at hi;have R:=rt_of h (by simpa [okF] using hi.1);obtain⟨i,hin,hm⟩:=mem_all.1 (is_mem.1 hi.2);obtain⟨h1,h2⟩:=Y0 R hin hm
 have one:∀ x:Int,(x = -1\/A5 x f.Blocks.length)->o∈X1 f x->∃ b∈f.Blocks,o∈b.Ops:=fun x hx hox=>by
  unfold X1 at hox;rcases hx with rfl|hx
  ·cases hox
  ·rw[show(x !=-1)=true by have:=hx.1;simp;omega,Af]at hox;exact⟨_,Aw (by have:=hx.1;have:=hx.2;omega),hox⟩
 unfold opsH at ho;rcases zzL17.1 ho with h3|h3
 ·exact one _ h1 h3
 ·exact one _ h2 h3
theorem costs14(f:TFunc)(v:THammock)(hf:InF f):Ga f v=some true:=by
 unfold Ga;rw[m_awake14,An,Df,Ar];obtain⟨b,hb,hsm⟩:=m_small11 hf;rw[hb,An]
 cases b with
 | false=>rfl
 | true=>
  have h:=hsm rfl;rw[Df,Ar,m_Is h,An,m_Merges h,m_Cost h,m_of f hf.blocks,m_check_ref h]
  cases hi:Wf f v with
  | false=>
   have hm:Y4 f v=false:=by unfold Y4;rw[hi];rfl
   rw[hm];simp only[Ar,An,Af]
   cases(!(Hr f 1==0))<;>rfl
  | true=>
   have hi':=hi;unfold Wf at hi';rw[Bc]at hi';obtain⟨hc,hi2⟩:=hi'
   have hc0:Hr f 2=0:=by simpa [okF] using hc
   have R:=rt_of h hc0;obtain⟨i,hin,ho⟩:=mem_all.1 (is_mem.1 hi2);obtain⟨h1,h2⟩:=Y0 R hin ho;have l1:=Rw R h1;have l2:=Rw R h2
   have hs:Ln f=true:=by
    have:=((Uj (f:=f) (l:=2) (by omega) (by omega)).1 hc0).2.1;unfold G8 at this;rw[Bc]at this;exact this.1
   have one:∀(x:Int) (n:Nat),(x = -1\/A5 x f.Blocks.length)->n<=512->(bif (bif true then(decide ((0:Int)<=x)) else false) then(A7 (A5 x f.Blocks.length) (some (w64 ((n:Int)+((f.Blocks.getD x.toNat default).Ops.length:Int))))) else(some (n:Int)))=some (((n+(X1 f x).length:Nat)):Int):=fun x n hx hn=>by
    rcases hx with rfl|hx
    ·unfold X1;rfl
    ·have e1:x≠-1:=by have:=hx.1;omega
     have hlen:=Rw R (.inr hx);unfold X1 at hlen ⊢;rw[show(x !=-1)=true by simpa using e1,Af]at hlen ⊢;have hlen':(f.Blocks.getD x.toNat default).Ops.length<=512:=hlen;rw[Af,B2 hx.1,Af,Ac hx,Jy (by omega) (by omega)]
     congr 1
   have o1:=one v.Then 0 h1 (by omega);have o2:=one v.Else (0+(X1 f v.Then).length) h2 (by omega);have o1':(bif (bif true then(decide ((0:Int)<=v.Then)) else false) then(A7 (A5 v.Then f.Blocks.length) (some (w64 ((0:Int)+((f.Blocks.getD v.Then.toNat default).Ops.length:Int))))) else(some (0:Int)))=some (((0+(X1 f v.Then).length:Nat)):Int):=o1;rw[o1',An,o2,An,An]
   have hn:((opsH f v).length:Int)=((0+(X1 f v.Then).length+(X1 f v.Else).length:Nat):Int):=by unfold opsH;rw[Fh];omega
   have hni:∀ z:Int,(z !=z)=false:=fun z=>by simp
   have hb2:∀ b:Bool,(bif b then(!true) else false)=false:=fun b=>by cases b<;>rfl
   rw[hb2,show((false:Bool)==false)=true from rfl,Af,Af,hn,An,hni,hs];simp only[Ar,Af,An,Df,show((0:Int)==0)=true from rfl]
   by_cases hp:Hr f 1=0
   ·rw[hp]
    have hall:Y4 f v=true:=by
     unfold Y4;rw[hi,F8,zzL30];intro o hoo;obtain⟨b,hb,hob⟩:=opsH_mem h hi hoo;have ht:=((Uj (f:=f) (l:=1) (by omega) (by omega)).1 hp).2.2.1;simp only[Te,Hq,Bc,zzL30]at ht;have:=(ht.1.2 b hb).2 o hob;rw[opTyped_iff (m:=20) rfl]at this;have g1:=this.2.2 (by omega);have g2:=lanes_of this.1
     simp;omega
    rw[hall];rfl
   ·rw[show(Hr f 1==0)=false by simpa using hp];rfl
def hitB(L:List (List Int))(s:Nat->Bool)(i:Nat):Bool:=(List.range L.length).any fun j=>(K1 L i (-1)).getD j false&&s j
def goesE(L:List (List Int)):Nat->Nat->Bool
 | 0=>fun k=>(L.getD k []).isEmpty
 | m+1=>fun k=>goesE L m k || (decide (k=m)&&!hitB L (goesE L m) m)
def exitRow(L:List (List Int))(s:Nat->Bool)(k:Nat):List Int:=L.getD k []++(if s k=true then[(L.length:Int)] else[])
def withE(L:List (List Int))(s:Nat->Bool):List (List Int):=(List.range L.length).map (exitRow L s)++[[]]
def exitL(L:List (List Int)):List (List Int):=withE L (goesE L L.length)
def shutL(L:List (List Int)):List Int:=((List.range L.length).filter fun i=>!hitB L (goesE L 0) i).map Int.ofNat
section
variable {L:List (List Int)}
end
section
variable {S T:Nat->List Nat}
variable (hT:∀ x y,y∈T x->x∈S y)
include hT
end
section
variable {L:List (List Int)} (hm:Lt L=true)
include hm
end
def ptreeL(L:List (List Int)):List Int:=V4 (Ct (exitL L)) L.length
structure Facts8:Prop where
 exit:∀(g:TGraph),Fits g.Succ->Fits g.Pred->m_pdom_Exit g=some (if Uw g=true/\g.Succ.length<64 then(I7 (exitL g.Succ),0) else(g0,5))
 tree:∀(g:TGraph),Fits g.Succ->Fits g.Pred->m_pdom_Tree g=some (if Uw g=true/\g.Succ.length<64 then ptreeL g.Succ else[])
 over:∀(t:List Int) (a b:Int),t.length<=64->m_pdom_Over t a b=some (X2 t a b)
 shut:∀(g:TGraph),Fits g.Succ->Fits g.Pred->m_pdom_Shut g=some (if Uw g=true then shutL g.Succ else[])
section
variable {L:List (List Int)} (hm:Lt L=true) (hn:L.length<64)
include hm hn
end
section
variable {L:List (List Int)}
variable (hm:Lt L=true)
include hm
omit hm in
omit hm in
end
section
variable {L:List (List Int)} (hm:Lt L=true)
include hm
variable (hn:L.length<64)
include hn
end
section
variable {f:TFunc} (R:Rt f)
include R
end
end
end Go.Proofs.YtmkiepobhjiabaaGreat
