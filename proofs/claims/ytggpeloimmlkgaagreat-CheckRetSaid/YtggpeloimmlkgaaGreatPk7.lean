/-
  The machine, the program's functions and the laws' arithmetic: part 7 of 7.
-/
import Derived.Test.YtggpeloimmlkgaaGreatPk6
set_option linter.unusedVariables false
set_option linter.unusedSimpArgs false
namespace Go.Proofs.YtggpeloimmlkgaaGreat
noncomputable section
open Go Go.RowKit
theorem ofN_getD{P:List Nat}{i:Nat}(h:i<P.length):(Pi P).getD i 0=((P.getD i 0:Nat):Int):=by
 unfold Pi;rw[Ai _ _ _ (by simpa using h),Ai _ _ _ h,List.getElem_map]
 rfl
theorem set_same{t:List Int}{x:Nat}{v:Int}(hx:x<t.length)(h:t.getD x 0=v):t.set x v=t:=by
 subst h;rw[Ai _ _ _ hx];exact List.set_getElem_self hx
section
variable {L:List (List Int)} (hm:Lc L=true) {r:Nat} {P:List Nat} (o:Ordered (sN L) r L.length P)
include hm o
theorem round_loop{t0:List Int}(h:Ready (sN L) r L.length P t0 0):∀(k i:Nat) (b:Bool),i+k=P.length→
  ∃ b',Ah (Ep (Ia L) (Pi (r::P))) (b,(i:Int),Sh (sN L) L.length P t0 i)=some (b',Sh (sN L) L.length P t0 P.length) ∧
   (b'=false↔b=false∧∀ j,i≤j→j<P.length→Bi (Sh (sN L) L.length P t0 j) (P.getD j 0)=(Lu (sN L) L.length (Sh (sN L) L.length P t0 j) (P.getD j 0):Int)):=by
 have hP64:P.length≤64:=by
  have h1:=M0 L.length (r::P) o.nodup fun x hx=>o.lt hx;have h2:=(mayS_iff.1 hm).2.1;simp at h1;omega
 have hdl:(Pi (r::P)).drop (1:Int).toNat=Pi P:=rfl
 have hlen:(Pi P).length=P.length:=by simp[Pi]
 intro k
 induction k with
 | zero=>
  intro i b hi
  obtain rfl:i=P.length:=by omega
  refine⟨b,Ao ?_,fun h=>⟨h,fun j h1 h2=>by omega⟩,fun h=>h.1⟩;unfold Ep;simp only[hdl,hlen,Gf,cond_false]
 | succ k ih=>
  intro i b hi
  have hil:i<P.length:=by omega
  have rd:=h.round o i (by omega);have hma:=meetAll_best hm o rd hil;have hyn:P.getD i 0<L.length:=o.lt (List.mem_cons_of_mem _ (N4 hil))
  have hyt:P.getD i 0<(Sh (sN L) L.length P t0 i).length:=by rw[rd.len];exact hyn
  have hpred:(Ia L).Pred=D7 L:=rfl
  by_cases he:Bi (Sh (sN L) L.length P t0 i) (P.getD i 0)=(Lu (sN L) L.length (Sh (sN L) L.length P t0 i) (P.getD i 0):Int)
  ·have hb:((Lu (sN L) L.length (Sh (sN L) L.length P t0 i) (P.getD i 0):Int)!=(Sh (sN L) L.length P t0 i).getD (P.getD i 0) 0)=false:=by
    have:(Sh (sN L) L.length P t0 i).getD (P.getD i 0) 0=_:=he;rw[this];simp
   have hnx:Sh (sN L) L.length P t0 (i+1)=Sh (sN L) L.length P t0 i:=set_same hyt he
   have hs:Ep (Ia L) (Pi (r::P)) (b,(i:Int),Sh (sN L) L.length P t0 i)=some (.next (b,((i+1:Nat):Int),Sh (sN L) L.length P t0 (i+1))):=by
    unfold Ep;simp only[hdl,hlen,Dt hil,cond_true,Au,ofN_getD hil,hpred,hma,Option.bind_some,hb,cond_false];rw[Ac (Fj hil),Ac (Fj (by rw[M2];exact hyn)),Ac trivial,Ac (Fj hyt),Option.bind_some,w1 (by omega),hnx]
   obtain⟨b',e1,e2⟩:=ih (i+1) b (by omega);refine⟨b',by rw[Aw hs,e1],fun h=>?_,fun⟨h1,h2⟩=>e2.2 ⟨h1,fun j hj=>h2 j (by omega)⟩⟩;obtain⟨h1,h2⟩:=e2.1 h;refine⟨h1,fun j hj1 hj2=>?_⟩
   by_cases e:j=i
   ·subst e;exact he
   ·exact h2 j (by omega) hj2
  ·have hb:((Lu (sN L) L.length (Sh (sN L) L.length P t0 i) (P.getD i 0):Int)!=(Sh (sN L) L.length P t0 i).getD (P.getD i 0) 0)=true:=by
    rw[bne_iff_ne];exact fun e=>he e.symm
   have hs:Ep (Ia L) (Pi (r::P)) (b,(i:Int),Sh (sN L) L.length P t0 i)=some (.next (true,((i+1:Nat):Int),Sh (sN L) L.length P t0 (i+1))):=by
    unfold Ep;simp only[hdl,hlen,Dt hil,cond_true,Au,ofN_getD hil,hpred,hma,Option.bind_some,hb];rw[Ac (Fj hil),Ac (Fj (by rw[M2];exact hyn)),Ac trivial,Ac (Fj hyt),Ac (Fj hyt),Option.bind_some,w1 (by omega)]
    rfl
   obtain⟨b',e1,e2⟩:=ih (i+1) true (by omega);refine⟨b',by rw[Aw hs,e1],fun h=>?_,fun⟨h1,h2⟩=>absurd (h2 i (Nat.le_refl _) hil) he⟩;obtain⟨h1,_⟩:=e2.1 h;cases h1
theorem round_all{t0:List Int}(h:Ready (sN L) r L.length P t0 0):∃ b,Ah (Ep (Ia L) (Pi (r::P))) (false,(0:Int),t0)=some (b,Sh (sN L) L.length P t0 P.length)∧(b=false↔Rm (sN L) L.length P t0):=by
 obtain⟨b,e1,e2⟩:=round_loop hm o h P.length 0 false (by omega);refine⟨b,e1,e2.trans ⟨fun⟨_,h2⟩=>?_,fun hs=>⟨rfl,fun j _ hj=>?_⟩⟩⟩
 ·have key:∀ j,j≤P.length→Sh (sN L) L.length P t0 j=t0:=by
   intro j
   induction j with
   | zero=>intro _;rfl
   | succ j ih=>
    intro hj;have ih':=ih (by omega);have rd:=h.round o j (by omega)
    have hyn:P.getD j 0<(Sh (sN L) L.length P t0 j).length:=by rw[rd.len];exact o.lt (List.mem_cons_of_mem _ (N4 (by omega)))
    have:Sh (sN L) L.length P t0 (j+1)=Sh (sN L) L.length P t0 j:=set_same hyn (h2 j (Nat.zero_le _) (by omega));rw[this,ih']
  intro i hi;have:=h2 i (Nat.zero_le _) hi;rwa[key i (by omega)]at this
 ·rw[Ty o h.len hs j (by omega)];exact hs j hj
open Classical in
theorem tree_F3(j:Nat):F8 (Ia L) (Pi (r::P),Zc (sN L) L.length P (G3 L.length r) j)=some (if Rm (sN L) L.length P (Zc (sN L) L.length P (G3 L.length r) j) then .done (Zc (sN L) L.length P (G3 L.length r) (j+1)) else .next (Pi (r::P),Zc (sN L) L.length P (G3 L.length r) (j+1))):=by
 obtain⟨b,e1,e2⟩:=round_all hm o (Ready.rounds o j);have hL2:M8 (Ia L) (Pi (r::P))=Ep (Ia L) (Pi (r::P)):=rfl
 have hlen:(0:Int)≤1∧(1:Int)≤((Pi (r::P)).length:Int):=by simp[Pi];omega
 unfold F8;simp only[hL2,e1,Option.bind_some];rw[Ac hlen]
 cases b with
 | false=>rw[if_pos (e2.1 rfl)];rfl
 | true=>rw[if_neg (fun h=>by have:=e2.2 h;cases this)];rfl
theorem tree_rounds:∃ J,Rm (sN L) L.length P (Zc (sN L) L.length P (G3 L.length r) J)∧Ah (F8 (Ia L)) (Pi (r::P),G3 L.length r)=some (Zc (sN L) L.length P (G3 L.length r) J):=by
 obtain⟨J,h1,h2⟩:=stops o;refine⟨J,h2,?_⟩
 have key:∀ d j,j+d=J→Ah (F8 (Ia L)) (Pi (r::P),Zc (sN L) L.length P (G3 L.length r) j)=some (Zc (sN L) L.length P (G3 L.length r) J):=by
  intro d
  induction d with
  | zero=>
   intro j hj
   obtain rfl:j=J:=by omega
   have hF:=tree_F3 hm o j;rw[if_pos h2]at hF;rw[Ao hF];have:Zc (sN L) L.length P (G3 L.length r) (j+1)=Zc (sN L) L.length P (G3 L.length r) j:=Ty o (Ready.rounds o j).len h2 P.length (Nat.le_refl _);rw[this]
  | succ d ih=>
   intro j hj;have hF:=tree_F3 hm o j;rw[if_neg (h1 j (by omega))]at hF;rw[Aw hF];exact ih (j+1) (by omega)
 exact key J 0 (by omega)
end
theorem m_Tree(g:TGraph)(r:Int)(h1:Fits g.Succ)(h2:Fits g.Pred):Mx g r=some (treeG g r):=by
 unfold treeG
 by_cases hc:Uu g=true∧0≤r∧r<(g.Succ.length:Int)
 ·rw[if_pos hc];obtain⟨hG,h0,hlt⟩:=hc;obtain⟨hm,hg⟩:=mayG_eq hG;obtain⟨hL1,hL64,_⟩:=mayS_iff.1 hm
  have hr:r.toNat<g.Succ.length:=by omega
  have hrn:((r.toNat:Nat):Int)=r:=Int.toNat_of_nonneg h0;obtain⟨O,hO⟩:=Ord.exist (Rw hm) hr;have hord:=(m_order g h1 trivial r).1 hG h0 hlt O hO;obtain⟨P,rfl,o⟩:=hO.ordered hr (Rw hm);obtain⟨J,hJ,hl⟩:=tree_rounds hm o;have ht:=(Yd o hJ).eq hm hr o;rw[ht]at hl;have hlen:(((Pi (r.toNat::P)).length:Int)==0)=false:=beq_eq_false_iff_ne.2 (by simp[Pi];omega)
  have hlen2:(0:Int)≤1∧(1:Int)≤((Pi (r.toNat::P)).length:Int):=by simp[Pi];omega
  have hL2:M8 g (Pi (r.toNat::P))=Ep g (Pi (r.toNat::P)):=rfl
  have hst:(Pq (F8 g (Pi (r.toNat::P),G3 g.Succ.length r.toNat)) (F8 g))=some (Tz g.Succ r.toNat):=by
   rw[Yc,hg];exact hl
  unfold Mx;rw[hord,Option.bind_some,hlen,cond_false,m_repeat hL1 hL64,Option.bind_some,Ac (inbz h0 (by simpa using hlt)),Ac hlen2]
  have:(F8 g (Pi (r.toNat::P),G3 g.Succ.length r.toNat))=(Ah (Ep g (Pi (r.toNat::P))) (false,0,(List.replicate g.Succ.length (-2:Int)).set r.toNat (-1))).bind (fun x22=>(match x22 with|(b10,l11)=>(bif b10 then(some (.next (Pi (r.toNat::P),l11))) else(some (.done l11))))):=by
   unfold F8 G3;simp only[hL2];rw[Ac hlen2]
  rw[this]at hst;refine Eq.trans ?_ (congrArg (fun x:Option (List Int)=>x.bind fun x42=>some x42) hst)
  rfl
 ·rw[if_neg hc];unfold Mx
  have:(Uu g&&(decide (0≤r)&&decide (r<(g.Succ.length:Int))))=false:=by
   rw[Bool.eq_false_iff];intro h;rw[Bool.and_eq_true,Bool.and_eq_true,decide_eq_true_eq,decide_eq_true_eq]at h;exact hc h
  rw[(m_order g h1 trivial r).2 this,Option.bind_some]
  rfl
theorem allR{α:Type}(l:List α)(d:α)(p:α→Bool){X:Type}(f:Int→Option (LR Int X))(yes no:X)(hl:l.length<9223372036854775808)(hk:∀ i:Nat,i<l.length→f i=some (bif p (l.getD i d) then .next (w64 ((i:Int)+1)) else .done no))
  (he:f l.length=some (.done yes)):Ah f (0:Int)=some (bif l.all p then yes else no):=by
 have:=Gk l d p f yes no (fun i hi hp=>by rw[hk i hi,hp,cond_true,A4 hi hl]) (fun i hi hp=>by rw[hk i hi,hp,cond_false]) he l.length 0 (by omega);rwa[List.drop_zero]at this
theorem c_told(f:Ab)(hf:InF f)(l:Int)(t:List Int)(u:List An):G5 f l t u=some (bif Oy f then 0 else 4,f,l,t,u):=by
 unfold G5 I8;rw[xmay f hf,Option.bind_some]
 cases Oy f<;>rfl
theorem c_phisFit(phis:List Er)(l:List Int)(h1:phis.length<9223372036854775808)(h2:l.length<4611686018427387904):Jv phis l=some (phis.all (Gv l)):=by
 unfold Jv
 rw[allR phis (default:Er) (Gv l) (H7 phis l) (.inl ()) (.inr false) h1 (fun i hi=>by
  unfold H7
  have hd:decide ((i:Int)<(phis.length:Int))=true:=by simpa using hi
  simp only[hd,cond_true,Af (Ap hi),Int.toNat_natCast,m_equal _ _ h2,Option.bind_some,Gv]
  cases decide ((phis.getD i default).From=l) with
  | false=>rfl
  | true=>
   simp only[Bool.not_true,cond_false,Bool.true_and,bne]
   cases(((phis.getD i default).Args.length:Int)==(l.length:Int))<;>rfl) (by unfold H7;simp),Option.bind_some]
 cases phis.all (Gv l)<;>rfl
def argF(e:Ga):Bool:=!((e.Kind==1 || e.Kind==3)&&(e.Arg !=0))
theorem c_argFits{n:Nat}(e:Ga)(hk:Lk e n=true):Ih e=some (argF e):=by
 have h4:0≤e.Kind∧e.Kind≤3:=by
  have:=(Bool.and_eq_true _ _▸hk:V7 e=true∧toB n e.To=true).1;unfold V7 at this;simp only[Bool.and_eq_true,decide_eq_true_eq]at this;omega
 unfold Ih argF
 have:e.Kind=0∨e.Kind=1∨e.Kind=2∨e.Kind=3:=by omega
 rcases this with h|h|h|h<;>rw[h]<;>cases hb:(e.Arg==0)<;>simp[hb,bne]
theorem order_full{L:List (List Int)}(hm:Lc L=true){P:List Nat}(h0:0<L.length)(o:Ord (sN L) 0 P):decide (P.length<L.length) = !(List.range L.length).all fun i=>(K4 L).getD i false:=by
 have hin:∀ x∈P,x<L.length:=fun x hx=>(by obtain⟨Q,rfl,oo⟩:=o.ordered h0 (Rw hm);exact oo.lt hx)
 have hr:∀ z,(K4 L).getD z false=true↔z∈P:=fun z=>by
  rw[o.mem z];exact Wn (Rw hm) h0 z
 have hle:=M0 L.length P o.nodup hin
 cases ha:(List.range L.length).all fun i=>(K4 L).getD i false with
 | true=>
  have:=((List.perm_ext_iff_of_nodup o.nodup List.nodup_range).2 fun i=>⟨fun h=>List.mem_range.2 (hin i h),fun h=>(hr i).1 (List.all_eq_true.1 ha i h)⟩:P.Perm (List.range L.length)).length_eq;rw[List.length_range]at this
  simp;omega
 | false=>
  obtain⟨i,hi,hni⟩:∃ i,i<L.length∧i∉P:=Classical.byContradiction fun hc=>by
   have:(List.range L.length).all (fun i=>(K4 L).getD i false)=true:=List.all_eq_true.2 fun i hi=>(hr i).2 (Classical.byContradiction fun hn=>hc ⟨i,by simpa using hi,hn⟩);rw[this]at ha;cases ha
  have:(i::P).length≤L.length:=M0 L.length (i::P) (List.nodup_cons.2 ⟨hni,o.nodup⟩) (fun x hx=>by rcases List.mem_cons.1 hx with rfl|hx;exact hi;exact hin x hx);simp at this ⊢;omega
theorem c_shaped {f : Ab} (hf : OkF f) (l : Int) (t : List Int) (u : List An) : ∃ t', Gc f l t u = some (bif Fo f then 0 else 5, f, l, t', u) ∧ (Fo f = true → t' = Cs f) := by
  have hmax : f.Blocks.length ≤ maxLen := by have := hf.blocks; have : (64 : Nat) ≤ maxLen := by decide
                                             omega
  unfold Gc; rw [m_of f hmax, Option.bind_some]
  cases hs : Ld f with
  | false => exact ⟨t, by unfold Fo; rw [hs]; rfl, fun h => by unfold Fo at h; rw [hs] at h; cases h⟩
  | true =>
    have hm := Nm hs; have hlen := Tn f
    have hpos : 0 < (Ch f).length := by have := (shape_iff.1 hs).1.1; omega
    obtain ⟨h1, h2⟩ := V5 hm; obtain ⟨P, hP⟩ := Ord.exist (Rw hm) hpos; have ho := (m_order (Ia (Ch f)) h1 trivial 0).1 (mayG_gOf hm) (by omega) (by show (0 : Int) < ((Ch f).length : Int); omega) P hP; have hfull := order_full hm hpos hP; simp only [cond_true, show (((0 : Int) != 0) == false) = true from rfl, show ((0 : Int) != 0) = false from rfl, cond_false, ho, Option.bind_some, show (false == false) = true from rfl]
    have e1 : decide (((Pi P).length : Int) < (f.Blocks.length : Int)) = decide (P.length < (Ch f).length) := by
      rw [hlen]; apply decide_eq_decide.2; simp [Pi]
    rw [e1, hfull]
    have hsd : Fo f = (((List.range f.Blocks.length).all fun i => (K4 (Ch f)).getD i false) && (List.range f.Blocks.length).all fun i => argF (f.Blocks.getD i default).End && (f.Blocks.getD i default).Phis.all (Gv ((D7 (Ch f)).getD i []))) := by
      unfold Fo; rw [hs, Bool.true_and]
      have : ∀ (n : Nat) (p q : Nat → Bool), ((List.range n).all fun i => p i && q i) = ((List.range n).all p && (List.range n).all q) := fun n p q => by
        rw [Bool.eq_iff_iff, Bool.and_eq_true, List.all_eq_true, List.all_eq_true, List.all_eq_true]
        constructor
        · intro h; exact ⟨fun x hx => ((Bool.and_eq_true _ _).mp (h x hx)).1, fun x hx => ((Bool.and_eq_true _ _).mp (h x hx)).2⟩
        · intro h x hx; rw [Bool.and_eq_true]; exact ⟨h.1 x hx, h.2 x hx⟩
      rw [← this]
      congr 1
      funext i
      show (_ && _ && _) = _
      rw [Bool.and_assoc]
      rfl
    rw [hlen]; rw [hsd]
    cases hr : (List.range f.Blocks.length).all fun i => (K4 (Ch f)).getD i false with
    | false => exact ⟨t, rfl, fun h => by cases h⟩
    | true =>
      refine ⟨Cs f, ?_, fun _ => rfl⟩; rw [Bool.not_true, cond_false, m_Tree _ 0 h1 h2, Option.bind_some, Bool.true_and]; have hp := Rb hm
      have hpl : (Ia (Ch f)).Pred.length = f.Blocks.length := by rw [← hlen]; exact M2 _
      have key : Ah (Cr f l u (Ia (Ch f), 0) (Cs f)) (0 : Int) = some (bif (List.range f.Blocks.length).all (fun i => argF (f.Blocks.getD i default).End && (f.Blocks.getD i default).Phis.all (Gv ((D7 (Ch f)).getD i []))) then .inl () else .inr ((5 : Int), f, l, Cs f, u)) := by
        have hk : ∀ i : Nat, i < f.Blocks.length → Cr f l u (Ia (Ch f), 0) (Cs f) (i : Int) = some (bif (argF (f.Blocks.getD i default).End && (f.Blocks.getD i default).Phis.all (Gv ((D7 (Ch f)).getD i []))) then .next ((i : Int) + 1) else .done (.inr ((5 : Int), f, l, Cs f, u))) := fun i hi => by
          have hB := hf.block _ (As (d := (default : Ad)) hi); have hpi : Bb (i : Int) (Ia (Ch f)).Pred.length := Ap (by omega); have hpg : ((Ia (Ch f)).Pred.getD i []).length ≤ 64 := hp.2 _ (As (by rw [M2]; omega)); unfold Cr
          have hd : decide ((i : Int) < (f.Blocks.length : Int)) = true := by simpa using hi
          simp only [hd, cond_true, Af (Ap hi), Af hpi, Int.toNat_natCast, c_phisFit (f.Blocks.getD i default).Phis ((Ia (Ch f)).Pred.getD i []) (by have := hB.phis; omega) (by omega), Option.bind_some]; have ha : Ih (⟨(f.Blocks.getD i default).End.Kind, (f.Blocks.getD i default).End.Arg, (f.Blocks.getD i default).End.To⟩ : Ga) = some (argF (f.Blocks.getD i default).End) := c_argFits (n := f.Blocks.length) (f.Blocks.getD i default).End ((shape_iff.1 hs).2 i hi); rw [ha, A4 hi (by have := hf.blocks; omega)]
          show _ = some (bif (argF (f.Blocks.getD i default).End && (f.Blocks.getD i default).Phis.all (Gv ((Ia (Ch f)).Pred.getD i []))) then _ else _)
          cases (f.Blocks.getD i default).Phis.all (Gv ((Ia (Ch f)).Pred.getD i [])) <;> cases argF (f.Blocks.getD i default).End <;> rfl
        exact W9 _ _ _ _ _ (fun i hi hp => by rw [hk i hi, hp]; rfl) (fun i hi hp => by rw [hk i hi, hp]; rfl) (by unfold Cr; simp)
      show ((Ah (Cr f l u (Ia (Ch f), 0) (Cs f)) (0 : Int)).bind _) = _
      rw [key, Option.bind_some]
      cases (List.range f.Blocks.length).all (fun i => argF (f.Blocks.getD i default).End && (f.Blocks.getD i default).Phis.all (Gv ((D7 (Ch f)).getD i []))) <;> rfl
theorem c_isOf(o:Dv)(l:Int)(h0:0≤l)(h2:l≤2)(hk:J9 o=true):Mc o l=some (!decide (Y6 l<o.Kind)&&!(decide (l<2)&&decide (1<o.Lanes))):=by
 have hl:=lanes_of hk
 have hK:o.Kind≤22:=by
  simp only[J9,Bool.and_eq_true]at hk;have:=hk.1.2.1.1.1;unfold isK at this;simp only[Bool.and_eq_true,decide_eq_true_eq]at this;omega
 unfold Mc Y6
 have:l=0∨l=1∨l=2:=by omega
 rcases this with rfl|rfl|rfl
 ·have ha:decide (o.Kind≤17) = !decide (17<o.Kind):=by rw[Bool.eq_iff_iff];simp
  have hb:(o.Lanes==1) = !decide (1<o.Lanes):=by rw[Bool.eq_iff_iff];simp;omega
  show some (bif decide (o.Kind≤17) then(o.Lanes==1) else false)=some (!decide (17<o.Kind)&&!(true&&decide (1<o.Lanes)))
  rw[ha,hb]
  cases decide (17<o.Kind)<;>cases decide (1<o.Lanes)<;>rfl
 ·have ha:decide (o.Kind≤20) = !decide (20<o.Kind):=by rw[Bool.eq_iff_iff];simp
  have hb:(o.Lanes==1) = !decide (1<o.Lanes):=by rw[Bool.eq_iff_iff];simp;omega
  show some (bif decide (o.Kind≤20) then(o.Lanes==1) else false)=some (!decide (20<o.Kind)&&!(true&&decide (1<o.Lanes)))
  rw[ha,hb]
  cases decide (20<o.Kind)<;>cases decide (1<o.Lanes)<;>rfl
 ·show some true=some (!decide (22<o.Kind)&&!(false&&decide (1<o.Lanes)))
  rw[decide_eq_false (by omega)]
  rfl
theorem c_opTyped(o:Dv)(ho:OpOk o)(f:Ab)(l:Int)(h0:0≤l)(h2:l≤2)(t:List Int)(u:List An):Fu o f l t u=some (Mg l o,f,l,t,u):=by
 unfold Fu Mg;rw[Aad o ho,Option.bind_some]
 cases hk:J9 o with
 | false=>rfl
 | true=>
  rw[show(true==true)=true from rfl,cond_true,c_isOf o l h0 h2 hk,Option.bind_some,cond_true,Bool.true_and]
theorem c_allOp(b:Ad){f:Ab}(hf:OkF f)(hb:b∈f.Blocks)(l:Int)(h0:0≤l)(h2:l≤2)(t:List Int)(u:List An):H5 b.Ops f l t u=some (b.Ops.all (Mg l),f,l,t,u):=by
 have hB:=hf.block b hb
 have key:∀ k i:Nat,i+k=b.Ops.length→Ah (E8 b.Ops) ((i:Int),f.Params,f.Ret,f.Blocks,l,t,u)=some (bif (b.Ops.drop i).all (Mg l) then .inl (f.Params,f.Ret,f.Blocks,l,t,u) else .inr (false,f,l,t,u)):=by
  intro k
  induction k with
  | zero=>
   intro i h
   obtain rfl:i=b.Ops.length:=by omega
   rw[Ao (x:=.inl (f.Params,f.Ret,f.Blocks,l,t,u)) (by unfold E8;simp)]
   simp
  | succ k ih=>
   intro i h
   have hi:i<b.Ops.length:=by omega
   have hd:decide ((i:Int)<(b.Ops.length:Int))=true:=by simpa using hi
   have hdr:b.Ops.drop i=b.Ops.getD i default::b.Ops.drop (i+1):=by rw[List.drop_eq_getElem_cons hi,Ai _ _ _ hi]
   have hx:=c_opTyped (b.Ops.getD i default) (opOk hf hb (As hi)) f l h0 h2 t u;rw[hdr,List.all_cons]
   cases ho:Mg l (b.Ops.getD i default) with
   | true=>
    rw[ho]at hx
    rw[Aw (s':=(((i+1:Nat):Int),f.Params,f.Ret,f.Blocks,l,t,u)) (by
     unfold E8;simp only[hd,cond_true,Af (Ap hi),Int.toNat_natCast,hx,Option.bind_some,Bool.not_true,cond_false,A4 hi (by have:=hB.ops;omega)]
     rfl),ih (i+1) (by omega),Bool.true_and]
   | false=>
    rw[ho]at hx
    rw[Ao (x:=.inr (false,f,l,t,u)) (by
     unfold E8
     simp only[hd,cond_true,Af (Ap hi),Int.toNat_natCast,hx,Option.bind_some,Bool.not_false])]
    rfl
 unfold H5;rw[show(0:Int)=((0:Nat):Int) from rfl,key b.Ops.length 0 (by omega),List.drop_zero,Option.bind_some]
 cases b.Ops.all (Mg l)<;>rfl
theorem c_allPhi(b:Ad)(h:b.Phis.length<9223372036854775808):Hq b.Phis=some (b.Phis.all fun p=>widthB p.Bits):=by
 unfold Hq
 rw[allR b.Phis (default:Er) (fun p=>widthB p.Bits) (Gb b.Phis) (.inl ()) (.inr false) h (fun i hi=>by
  unfold Gb Kx
  have hd:decide ((i:Int)<(b.Phis.length:Int))=true:=by simpa using hi
  simp only[hd,cond_true,Af (Ap hi),Int.toNat_natCast,P7,Option.bind_some]
  cases widthB (b.Phis.getD i default).Bits<;>rfl) (by unfold Gb;simp),Option.bind_some]
 cases b.Phis.all fun p=>widthB p.Bits<;>rfl
theorem c_allInt(p:List Int)(h:p.length<9223372036854775808):Ju p=some (p.all widthB):=by
 unfold Ju
 rw[allR p (0:Int) widthB (H6 p) (.inl ()) (.inr false) h (fun i hi=>by
  unfold H6
  have hd:decide ((i:Int)<(p.length:Int))=true:=by simpa using hi
  simp only[hd,cond_true,Af (Ap hi),Int.toNat_natCast,P7,Option.bind_some]
  cases widthB (p.getD i 0)<;>rfl) (by unfold H6;simp),Option.bind_some]
 cases p.all widthB<;>rfl
theorem c_blockTyped(b:Ad){f:Ab}(hf:OkF f)(hb:b∈f.Blocks)(l:Int)(h0:0≤l)(h2:l≤2)(t:List Int)(u:List An):Ei b f l t u=some (Hn l b,f,l,t,u):=by
 unfold Ei Hn;rw[c_allPhi b (by have:=(hf.block b hb).phis;omega),Option.bind_some,c_allOp b hf hb l h0 h2 t u]
 cases(b.Phis.all fun p=>widthB p.Bits)<;>rfl
theorem c_typed{f:Ab}(hf:OkF f)(l:Int)(h0:0≤l)(h2:l≤2)(t:List Int)(u:List An):Gm f l t u=some (bif Ou f l then 0 else 6,f,l,t,u):=by
 have key:∀ k i:Nat,i+k=f.Blocks.length→Ah (Dy f.Blocks) ((i:Int),f.Params,f.Ret,f.Blocks,l,t,u)=some (bif (f.Blocks.drop i).all (Hn l) then .inl (f.Params,f.Ret,f.Blocks,l,t,u) else .inr (false,f,l,t,u)):=by
  intro k
  induction k with
  | zero=>
   intro i h
   obtain rfl:i=f.Blocks.length:=by omega
   rw[Ao (x:=.inl (f.Params,f.Ret,f.Blocks,l,t,u)) (by unfold Dy;simp)]
   simp
  | succ k ih=>
   intro i h
   have hi:i<f.Blocks.length:=by omega
   have hd:decide ((i:Int)<(f.Blocks.length:Int))=true:=by simpa using hi
   have hdr:f.Blocks.drop i=f.Blocks.getD i default::f.Blocks.drop (i+1):=by rw[List.drop_eq_getElem_cons hi,Ai _ _ _ hi]
   have hx:=c_blockTyped (f.Blocks.getD i default) hf (As hi) l h0 h2 t u;rw[hdr,List.all_cons]
   cases ho:Hn l (f.Blocks.getD i default) with
   | true=>
    rw[ho]at hx
    rw[Aw (s':=(((i+1:Nat):Int),f.Params,f.Ret,f.Blocks,l,t,u)) (by
     unfold Dy;simp only[hd,cond_true,Af (Ap hi),Int.toNat_natCast,hx,Option.bind_some,Bool.not_true,cond_false,A4 hi (by have:=hf.blocks;omega)]
     rfl),ih (i+1) (by omega),Bool.true_and]
   | false=>
    rw[ho]at hx
    rw[Ao (x:=.inr (false,f,l,t,u)) (by
     unfold Dy
     simp only[hd,cond_true,Af (Ap hi),Int.toNat_natCast,hx,Option.bind_some,Bool.not_false])]
    rfl
 have hall:Gl f.Blocks f l t u=some (f.Blocks.all (Hn l),f,l,t,u):=by
  unfold Gl;rw[show(0:Int)=((0:Nat):Int) from rfl,key f.Blocks.length 0 (by omega),List.drop_zero,Option.bind_some]
  cases f.Blocks.all (Hn l)<;>rfl
 unfold Gm Ou I8;rw[c_allInt _ (by have:=hf.few;omega),Option.bind_some,hall,P7]
 cases f.Params.all widthB<;>cases widthB f.Ret<;>cases f.Blocks.all (Hn l)<;>rfl
def atD(d:Bk):Hu:=bif decide (d.Block<0) then⟨0,-1⟩ else⟨d.Block,d.At⟩
def Yw(d:Bk):Aj:=⟨d.Shape,atD d⟩
def dv(l:List Bk):List (Int×Aj):=l.map fun d=>(d.V,Yw d)
def badD(acc:List (Int×Aj))(v:Int):Bool:=(Gh acc v || decide (v<1)) || decide (1023<v)
def Ic:List (Int×Aj)→List Bk→Bool×List (Int×Aj)
 | acc,[]=>(true,acc)
 | acc,d::ds=>bif badD acc d.V then(false,acc) else Ic (J4 acc d.V (Yw d)) ds
theorem W1:∀(a b:List Bk) (acc:List (Int×Aj)),Ic acc (a++b)=bif (Ic acc a).1 then Ic (Ic acc a).2 b else Ic acc a
 | [],b,acc=>rfl
 | d::a,b,acc=>by
  rw[List.cons_append];simp only[Ic]
  cases badD acc d.V with
  | true=>rfl
  | false=>simp only[cond_false];exact W1 a b _
theorem Ta{V:Type}(k:Int):∀ l:List (Int×V),Gh l k=l.any fun q=>k==q.1
 | []=>rfl
 | (a,b)::l=>by rw[List.any_cons,← Ta k l];rfl
theorem Wd{V:Type}(k:Int)(v:V):∀{l:List (Int×V)},Gh l k=false→J4 l k v=l++[(k,v)]
 | [],_=>rfl
 | (a,b)::l,h=>by
  simp only[Gh,Bool.or_eq_false_iff]at h;simp only[J4,h.1,cond_false,Wd k v h.2,List.cons_append]
theorem c_define(v:Int)(s:Int×Int)(p:Hu)(f:Ab)(l:Int)(t:List Int)(vs:List (Int×Aj))(u:List An) :
  Ew v s p f l t vs u=some (bif badD vs v then(false,f,l,t,u,vs) else(true,f,l,t,u,J4 vs v ⟨s,p⟩)):=by
 unfold Ew badD
 cases Gh vs v<;>cases decide (v<1)<;>cases decide (1023<v)<;>rfl
def resD(f:Ab)(l:Int)(t:List Int)(u:List An)(r:Bool×List (Int×Aj)):(List Int×Int×List Ad×Int×List Int×List An×List (Int×Aj)) ⊕ (Bool×Ab×Int×List Int×List An×List (Int×Aj)):=
 bif r.1 then .inl (f.Params,f.Ret,f.Blocks,l,t,u,r.2) else .inr (false,f,l,t,u,r.2)
theorem c_phis(b:Ad)(h:b.Phis.length<9223372036854775808)(i:Nat)(f:Ab)(l:Int)(t:List Int)(u:List An):∀(k j:Nat) (vs:List (Int×Aj)),j+k=b.Phis.length→
  Ah (Cu (i:Int) b) ((j:Int),f.Params,f.Ret,f.Blocks,l,t,u,vs)=some (resD f l t u (Ic vs ((List.range' j k).flatMap fun(k:Nat)=>[(⟨(b.Phis.getD k default).Dst,i,-1,((b.Phis.getD k default).Bits,1)⟩:Bk)]))):=by
 intro k
 induction k with
 | zero=>
  intro j vs hj
  obtain rfl:j=b.Phis.length:=by omega
  rw[Ao (x:=.inl (f.Params,f.Ret,f.Blocks,l,t,u,vs)) (by unfold Cu;simp)]
  rfl
 | succ k ih=>
  intro j vs hj
  have hi:j<b.Phis.length:=by omega
  have hd:decide ((j:Int)<(b.Phis.length:Int))=true:=by simpa using hi
  have hx:=c_define (b.Phis.getD j default).Dst ((b.Phis.getD j default).Bits,1) (⟨(i:Int),-1⟩:Hu) f l t vs u
  have hat:atD (⟨(b.Phis.getD j default).Dst,i,-1,((b.Phis.getD j default).Bits,1)⟩:Bk)=⟨(i:Int),-1⟩:=by unfold atD;rw[decide_eq_false (by show ¬ (i:Int)<0;omega)];rfl
  rw[List.range'_succ,List.flatMap_cons,List.singleton_append];simp only[Ic]
  cases hb:badD vs (b.Phis.getD j default).Dst with
  | true=>
   rw[hb]at hx
   rw[Ao (x:=.inr (false,f,l,t,u,vs)) (by
    unfold Cu Dw;simp only[hd,cond_true,Af (Ap hi),Int.toNat_natCast,Option.bind_some];rw[show(⟨f.Params,f.Ret,f.Blocks⟩:Ab)=f from rfl,hx]
    rfl)]
   rfl
  | false=>
   rw[hb]at hx
   rw[Aw (s':=(((j+1:Nat):Int),f.Params,f.Ret,f.Blocks,l,t,u,J4 vs (b.Phis.getD j default).Dst ⟨((b.Phis.getD j default).Bits,1),⟨(i:Int),-1⟩⟩)) (by
    unfold Cu Dw;simp only[hd,cond_true,Af (Ap hi),Int.toNat_natCast,Option.bind_some];rw[show(⟨f.Params,f.Ret,f.Blocks⟩:Ab)=f from rfl,hx,A4 hi h]
    rfl),ih (j+1) _ (by omega)]
   unfold Yw;rw[hat]
   rfl
theorem c_ops{f0:Ab}(hf:OkF f0){b:Ad}(hb:b∈f0.Blocks)(i:Nat)(f:Ab)(l:Int)(t:List Int)(u:List An):∀(k j:Nat) (vs:List (Int×Aj)),j+k=b.Ops.length→
  Ah (B5 (i:Int) b) ((j:Int),f.Params,f.Ret,f.Blocks,l,t,u,vs)=some (resD f l t u (Ic vs ((List.range' j k).flatMap fun(k:Nat)=>bif decide (0<(I6 (b.Ops.getD k default)).1) then[(⟨(b.Ops.getD k default).Dst,i,k,I6 (b.Ops.getD k default)⟩:Bk)] else[]))):=by
 have hB:=hf.block b hb;intro k
 induction k with
 | zero=>
  intro j vs hj
  obtain rfl:j=b.Ops.length:=by omega
  rw[Ao (x:=.inl (f.Params,f.Ret,f.Blocks,l,t,u,vs)) (by unfold B5;simp)]
  rfl
 | succ k ih=>
  intro j vs hj
  have hi:j<b.Ops.length:=by omega
  have hd:decide ((j:Int)<(b.Ops.length:Int))=true:=by simpa using hi
  have hg:Ky (b.Ops.getD j default)=some (I6 (b.Ops.getD j default)):=kind_Gives _ (opOk hf hb (As hi));have hx:=c_define (b.Ops.getD j default).Dst (I6 (b.Ops.getD j default)) (⟨(i:Int),(j:Int)⟩:Hu) f l t vs u
  have hat:atD (⟨(b.Ops.getD j default).Dst,i,j,I6 (b.Ops.getD j default)⟩:Bk)=⟨(i:Int),(j:Int)⟩:=by unfold atD;rw[decide_eq_false (by show ¬ (i:Int)<0;omega)];rfl
  rw[List.range'_succ,List.flatMap_cons]
  cases hp:decide (0<(I6 (b.Ops.getD j default)).1) with
  | false=>
   rw[cond_false,List.nil_append,← ih (j+1) vs (by omega),Aw (s':=(((j+1:Nat):Int),f.Params,f.Ret,f.Blocks,l,t,u,vs)) (by
    unfold B5;simp only[hd,cond_true,Af (Ap hi),Int.toNat_natCast,hg,Option.bind_some,hp];rw[A4 hi (by have:=hB.ops;omega)]
    rfl)]
  | true=>
   rw[cond_true,List.singleton_append];simp only[Ic]
   cases hb:badD vs (b.Ops.getD j default).Dst with
   | true=>
    rw[hb]at hx
    rw[Ao (x:=.inr (false,f,l,t,u,vs)) (by
     unfold B5;simp only[hd,cond_true,Af (Ap hi),Int.toNat_natCast,hg,Option.bind_some,hp];rw[show(true==true)=true from rfl,cond_true,show(⟨f.Params,f.Ret,f.Blocks⟩:Ab)=f from rfl,hx]
     rfl)]
    rfl
   | false=>
    rw[hb]at hx
    rw[Aw (s':=(((j+1:Nat):Int),f.Params,f.Ret,f.Blocks,l,t,u,J4 vs (b.Ops.getD j default).Dst ⟨I6 (b.Ops.getD j default),⟨(i:Int),(j:Int)⟩⟩)) (by
     unfold B5;simp only[hd,cond_true,Af (Ap hi),Int.toNat_natCast,hg,Option.bind_some,hp];rw[show(true==true)=true from rfl,cond_true,show(⟨f.Params,f.Ret,f.Blocks⟩:Ab)=f from rfl,hx,A4 hi (by have:=hB.ops;omega)]
     rfl),ih (j+1) _ (by omega)]
    unfold Yw;rw[hat]
    rfl
theorem c_defineAll{f:Ab}(hf:OkF f){b:Ad}(hb:b∈f.Blocks)(i:Nat)(l:Int)(t:List Int)(u:List An)(vs:List (Int×Aj)) :
  E2 (i:Int) b f l t vs u=some ((Ic vs (Li b i)).1,f,l,t,u,(Ic vs (Li b i)).2):=by
 unfold E2 Li;rw[show(0:Int)=((0:Nat):Int) from rfl,c_phis b (by have:=(hf.block b hb).phis;omega) i f l t u b.Phis.length 0 vs (by omega),Option.bind_some,W1];rw[show(List.range' 0 b.Phis.length).flatMap (fun(k:Nat)=>[(⟨(b.Phis.getD k default).Dst,i,-1,((b.Phis.getD k default).Bits,1)⟩:Bk)])=M7 b i by rw[M7,List.range_eq_range']];unfold resD
 cases h1:(Ic vs (M7 b i)).1 with
 | false=>simp only[cond_false];rw[h1]
 | true=>
  simp only[cond_true];rw[c_ops hf hb i f l t u b.Ops.length 0 _ (by omega),Option.bind_some];rw[show(List.range' 0 b.Ops.length).flatMap (fun(k:Nat)=>bif decide (0<(I6 (b.Ops.getD k default)).1) then[(⟨(b.Ops.getD k default).Dst,i,k,I6 (b.Ops.getD k default)⟩:Bk)] else[])=Sy b i by rw[Sy,List.range_eq_range']];unfold resD;cases h2:(Ic (Ic vs (M7 b i)).2 (Sy b i)).1<;>rfl
theorem Xd{l:List Bk}{i:Nat}(hi:i<l.length):Km l i=true↔valS (l.getD i default).V=true∧∀ j,j<i→(l.getD j default).V≠(l.getD i default).V:=by
 unfold Km;rw[Bool.and_eq_true];refine and_congr Iff.rfl ?_;unfold I5
 cases hx:l.findIdx? (fun d=>d.V==(l.getD i default).V) with
 | none=>
  rw[List.findIdx?_eq_none_iff]at hx;have:=hx _ (As (d:=default) hi);simp at this
 | some j=>
  obtain⟨hj,h1,h2⟩:=List.findIdx?_eq_some_iff_getElem.1 hx;simp only[beq_iff_eq,Int.natCast_inj]
  constructor
  ·rintro rfl k hk he;have:=h2 k hk;rw[Ai _ _ _ (by omega:k<l.length)]at he;simp at this;exact this he
  ·intro h
   have hv:(l.getD j default).V=(l.getD i default).V:=by rw[Ai _ _ _ hj];simpa using h1
   rcases Nat.lt_trichotomy j i with hlt|rfl|hgt
   ·exact absurd hv (h j hlt)
   ·rfl
   ·have:=h2 i hgt;rw[← Ai l i default hi]at this;simp at this
theorem mhas_dv(l:List Bk)(v:Int):Gh (dv l) v=l.any fun d=>v==d.V:=by
 rw[Ta,dv,List.any_map];rfl
theorem Zt:∀(ds pre:List Bk),(Ic (dv pre) ds).1=(List.range' pre.length ds.length).all (Km (pre++ds))∧((Ic (dv pre) ds).1=true→(Ic (dv pre) ds).2=dv (pre++ds))
 | [],pre=>by simp[Ic]
 | d::ds,pre=>by
  have hi:pre.length<(pre++d::ds).length:=by simp
  have hg:(pre++d::ds).getD pre.length default=d:=by simp[List.getD]
  have hj:∀ j,j<pre.length→(pre++d::ds).getD j default=pre.getD j default:=fun j h=>by simp[List.getD,List.getElem?_append_left h]
  have hok:Km (pre++d::ds) pre.length = !badD (dv pre) d.V:=by
   rw[Bool.eq_iff_iff,Xd hi,hg];unfold badD valS;rw[mhas_dv];simp only[Bool.not_eq_true',Bool.or_eq_false_iff,decide_eq_false_iff_not,List.any_eq_false,beq_iff_eq,Bool.and_eq_true,decide_eq_true_eq]
   constructor
   ·rintro⟨⟨h1,h2⟩,h3⟩;refine⟨⟨fun x hx he=>?_,by omega⟩,by omega⟩;obtain⟨j,hjl,rfl⟩:=List.getElem_of_mem hx;have:=h3 j hjl;rw[hj j hjl,Ai _ _ _ hjl]at this;exact this he.symm
   ·rintro⟨⟨h1,h2⟩,h3⟩;refine⟨⟨by omega,by omega⟩,fun j hjl he=>?_⟩;rw[hj j hjl,Ai _ _ _ hjl]at he;exact h1 _ (List.getElem_mem hjl) he.symm
  rw[List.length_cons,List.range'_succ,List.all_cons,hok];simp only[Ic]
  cases hb:badD (dv pre) d.V with
  | true=>exact⟨rfl,fun h=>by cases h⟩
  | false=>
   have hn:Gh (dv pre) d.V=false:=by
    unfold badD at hb;simp only[Bool.or_eq_false_iff]at hb;exact hb.1.1
   have hs:J4 (dv pre) d.V (Yw d)=dv (pre++[d]):=by rw[Wd _ _ hn,dv,dv,List.map_append];rfl
   have:=Zt ds (pre++[d]);rw[List.length_append,List.append_assoc,List.singleton_append]at this;rw[cond_false,hs,Bool.not_false,Bool.true_and];exact this
def pv(f:Ab)(n:Nat):List (Int×Aj):=(List.range n).map fun(j:Nat)=>((j:Int)+1,⟨(f.Params.getD j 0,1),⟨0,-1⟩⟩)
theorem pv_dv(f:Ab):pv f f.Params.length=dv (L0 f):=by
 unfold pv dv L0;rw[List.map_flatMap]
 induction List.range f.Params.length with
 | nil=>rfl
 | cons a l ih=>rw[List.map_cons,List.flatMap_cons,ih];rfl
theorem c_params{f:Ab}(hf:OkF f):∀(k i:Nat),i+k=f.Params.length→Ah (Ej f) ((i:Int),pv f i)=some (pv f f.Params.length):=by
 intro k
 induction k with
 | zero=>
  intro i h
  obtain rfl:i=f.Params.length:=by omega
  exact Ao (by unfold Ej;simp)
 | succ k ih=>
  intro i h
  have hi:i<f.Params.length:=by omega
  have hd:decide ((i:Int)<(f.Params.length:Int))=true:=by simpa using hi
  have hn:Gh (pv f i) ((i:Int)+1)=false:=by
   rw[Ta,pv,List.any_map,List.any_eq_false];intro j hj;have:=List.mem_range.1 hj
   simp;omega
  have hs:J4 (pv f i) ((i:Int)+1) ⟨(f.Params.getD i 0,1),⟨0,-1⟩⟩=pv f (i+1):=by
   rw[Wd _ _ hn,pv,pv,List.range_succ,List.map_append];rfl
  rw[Aw (s':=(((i+1:Nat):Int),pv f (i+1))) (by
   unfold Ej Dw;simp only[hd,cond_true,Af (Ap hi),Int.toNat_natCast,Option.bind_some,A4 hi (by have:=hf.few;omega),hs]
   rfl)]
  exact ih (i+1) (by omega)
theorem c_blocks{f:Ab}(hf:OkF f)(l:Int)(t:List Int)(u:List An):∀(k i:Nat) (vs:List (Int×Aj)),i+k=f.Blocks.length→
  Ah (Df f) ((i:Int),vs,f.Params,f.Ret,f.Blocks,l,t,u)=some (bif (Ic vs ((List.range' i k).flatMap fun i=>Li (f.Blocks.getD i default) i)).1 then .inl ((Ic vs ((List.range' i k).flatMap fun i=>Li (f.Blocks.getD i default) i)).2,f.Params,f.Ret,f.Blocks,l,t,u) else
   .inr (7,f,l,t,u,(Ic vs ((List.range' i k).flatMap fun i=>Li (f.Blocks.getD i default) i)).2)):=by
 intro k
 induction k with
 | zero=>
  intro i vs h
  obtain rfl:i=f.Blocks.length:=by omega
  rw[Ao (x:=.inl (vs,f.Params,f.Ret,f.Blocks,l,t,u)) (by unfold Df;simp)]
  rfl
 | succ k ih=>
  intro i vs h
  have hi:i<f.Blocks.length:=by omega
  have hd:decide ((i:Int)<(f.Blocks.length:Int))=true:=by simpa using hi
  have hx:=c_defineAll hf (As (d:=default) hi) i l t u vs;rw[List.range'_succ,List.flatMap_cons,W1]
  cases hb:(Ic vs (Li (f.Blocks.getD i default) i)).1 with
  | false=>
   rw[hb]at hx
   rw[Ao (x:=.inr (7,f,l,t,u,(Ic vs (Li (f.Blocks.getD i default) i)).2)) (by
    unfold Df;simp only[hd,cond_true,Af (Ap hi),Int.toNat_natCast];rw[show(⟨f.Params,f.Ret,f.Blocks⟩:Ab)=f from rfl,hx]
    rfl),cond_false,hb]
   rfl
  | true=>
   rw[hb]at hx
   rw[Aw (s':=(((i+1:Nat):Int),(Ic vs (Li (f.Blocks.getD i default) i)).2,f.Params,f.Ret,f.Blocks,l,t,u)) (by
    unfold Df;simp only[hd,cond_true,Af (Ap hi),Int.toNat_natCast];rw[show(⟨f.Params,f.Ret,f.Blocks⟩:Ab)=f from rfl,hx,A4 hi (by have:=hf.blocks;omega)]
    rfl),ih (i+1) _ (by omega),cond_true]
theorem okP{f:Ab}(hf:OkF f):∀ i,i<f.Params.length→Km (Aq f) i=true:=fun i hi=>by
 have hl:=T9 f
 have hg:∀ j,j<f.Params.length→(Aq f).getD j default=⟨(j:Int)+1,-1,0,(f.Params.getD j 0,1)⟩:=fun j hj=>by
  have e:L0 f=(List.range f.Params.length).map fun(i:Nat)=>(⟨(i:Int)+1,-1,0,(f.Params.getD i 0,1)⟩:Bk):=by
   unfold L0
   induction List.range f.Params.length with
   | nil=>rfl
   | cons a l ih=>rw[List.map_cons,List.flatMap_cons,ih];rfl
  rw[Aq,List.getD,List.getElem?_append_left (by omega),e];simp[hj]
 have hle:i<(Aq f).length:=by rw[Aq,List.length_append];omega
 rw[Xd hle,hg i hi];refine⟨?_,fun j hj=>?_⟩
 ·have:=hf.few;simp only[valS,Bool.and_eq_true,decide_eq_true_eq];omega
 ·rw[hg j (by omega)];simp only;omega
theorem c_defined{f:Ab}(hf:OkF f)(l:Int)(t:List Int)(u:List An):∃ vs,Fs f l t u=some (bif (List.range (Aq f).length).all (Km (Aq f)) then 0 else 7,f,l,t,u,vs)∧((List.range (Aq f).length).all (Km (Aq f))=true→vs=dv (Aq f)):=by
 have hsp:=Zt ((List.range f.Blocks.length).flatMap fun i=>Li (f.Blocks.getD i default) i) (L0 f)
 have hall:(List.range (Aq f).length).all (Km (Aq f))=(Ic (dv (L0 f)) ((List.range f.Blocks.length).flatMap fun i=>Li (f.Blocks.getD i default) i)).1:=by
  rw[hsp.1]
  show(List.range (Aq f).length).all (Km (Aq f))=(List.range' (L0 f).length _).all (Km (Aq f))
  have hs:List.range (Aq f).length=List.range (L0 f).length++List.range' (L0 f).length ((List.range f.Blocks.length).flatMap fun i=>Li (f.Blocks.getD i default) i).length:=by
   rw[List.range_eq_range',List.range_eq_range',Aq,List.length_append];have:=List.range'_append_1 (s:=0) (m:=(L0 f).length) (n:=((List.range f.Blocks.length).flatMap fun i=>Li (f.Blocks.getD i default) i).length);rw[Nat.zero_add]at this;exact this.symm
  rw[hs,List.all_append];have:(List.range (L0 f).length).all (Km (Aq f))=true:=List.all_eq_true.2 fun i hi=>okP hf i (by rw[← T9 f];exact List.mem_range.1 hi);rw[this,Bool.true_and]
 unfold Fs;have hp:=c_params hf f.Params.length 0 (by omega);have e0:pv f 0=[]:=rfl;rw[e0,show(((0:Nat):Int))=0 from rfl]at hp;rw[hp,Option.bind_some,pv_dv];have hb:=c_blocks hf l t u f.Blocks.length 0 (dv (L0 f)) (by omega);rw[show(((0:Nat):Int))=0 from rfl,← List.range_eq_range']at hb;rw[hb,Option.bind_some,hall];refine⟨(Ic (dv (L0 f)) ((List.range f.Blocks.length).flatMap fun i=>Li (f.Blocks.getD i default) i)).2,?_,hsp.2⟩
 cases(Ic (dv (L0 f)) ((List.range f.Blocks.length).flatMap fun i=>Li (f.Blocks.getD i default) i)).1<;>rfl
theorem Ue{β S X:Type}(B:Nat)(mk:Int→List β→S)(out:List β→X)(n:Nat)(E:Nat→List β)(f:S→Option (LR S X))(hn:∀(acc:List β) (i:Nat),i<n→(acc++E i).length≤B→f (mk i acc)=some (.next (mk ((i:Int)+1) (acc++E i))))
  (hd:∀ acc:List β,f (mk n acc)=some (.done (out acc))):∀(k i:Nat) (acc:List β),i+k=n→(acc++(List.range' i k).flatMap E).length≤B→Ah f (mk i acc)=some (out (acc++(List.range' i k).flatMap E))
 | 0,i,acc,h,_=>by
  obtain rfl:i=n:=by omega
  rw[Ao (hd acc)]
  simp
 | k+1,i,acc,h,hB=>by
  have hi:i<n:=by omega
  rw[List.range'_succ,List.flatMap_cons,← List.append_assoc]at hB ⊢;rw[Aw (hn acc i hi (by rw[List.length_append]at hB;omega)),show((i:Int)+1)=((i+1:Nat):Int) by omega,Ue B mk out n E f hn hd k (i+1) _ (by omega) hB]
theorem map_sing{β γ:Type}(h:β→γ)(n:Nat)(g:Nat→β):(List.range' 0 n).flatMap (fun j=>[h (g j)])=((List.range n).flatMap fun j=>[g j]).map h:=by
 rw[List.map_flatMap,List.range_eq_range'];rfl
theorem Aan{β γ:Type}(h:β→γ)(n:Nat)(g:Nat→List β):(List.range' 0 n).flatMap (fun j=>(g j).map h)=((List.range n).flatMap g).map h:=by
 rw[List.map_flatMap,List.range_eq_range']
def Mh(f:Ab)(b:Int):Int:=((f.Blocks.getD b.toNat default).Ops.length:Int)
def Fk(f:Ab)(u:Bz):An:=⟨u.V,u.Shape,⟨u.Block,bif u.At==1000 then Mh f u.Block else u.At⟩⟩
theorem c_use(f:Ab)(l:Int)(t:List Int)(vs:List (Int×Aj))(v:Int)(s:Int×Int)(p:Hu)(u:List An)(h:(u++[(⟨v,s,p⟩:An)]).length≤10000000):D4 v s p f l t vs u=some (f,l,t,u++[⟨v,s,p⟩]):=by
 unfold D4;rw[Ac (by rw[List.length_append]at h;rw[Wq];omega)]
theorem c_end(f:Ab)(l:Int)(t:List Int)(vs:List (Int×Aj))(b:Int)(hb:Bb b f.Blocks.length)(u:List An):E3 b f l t vs u=some (⟨b,Mh f b⟩,f,l,t,u):=by
 unfold E3;rw[Ac hb];rfl
section
variable {f:Ab} (hf:OkF f) (l:Int) (t:List Int) (vs:List (Int×Aj))
include hf
theorem c_phi1(i k:Nat)(hi:i<f.Blocks.length)(hk:k<(f.Blocks.getD i default).Phis.length)(hfit:((f.Blocks.getD i default).Phis.getD k default).Args.length≤((f.Blocks.getD i default).Phis.getD k default).From.length)
  (hin:∀ x∈((f.Blocks.getD i default).Phis.getD k default).From,Bb x f.Blocks.length) (u:List An) (hB:(u++(Kt ((f.Blocks.getD i default).Phis.getD k default)).map (Fk f)).length≤10000000) :
  Ah (Da f vs (i:Int) (k:Int)) ((0:Int),f.Params,f.Ret,f.Blocks,l,t,u)=some (f.Params,f.Ret,f.Blocks,l,t,u++(Kt ((f.Blocks.getD i default).Phis.getD k default)).map (Fk f)):=by
 have hlen:=ok_phi hf (As (d:=(default:Ad)) hi) (As (d:=(default:Er)) hk)
 generalize hp:(f.Blocks.getD i default).Phis.getD k default=p at *
 have e:=map_sing (Fk f) p.Args.length fun(j:Nat)=>(⟨p.Args.getD j 0,p.From.getD j 0,1000,(p.Bits,1)⟩:Bz)
 have:=Ue 10000000 (fun j u=>(j,f.Params,f.Ret,f.Blocks,l,t,u)) (fun u=>(f.Params,f.Ret,f.Blocks,l,t,u)) p.Args.length (fun(j:Nat)=>[Fk f ⟨p.Args.getD j 0,p.From.getD j 0,1000,(p.Bits,1)⟩]) (Da f vs (i:Int) (k:Int)) (fun acc j hj hacc=>by
  unfold Da Dw
  have hd:decide ((j:Int)<(p.Args.length:Int))=true:=by simpa using hj
  have hjf:j<p.From.length:=by omega
  simp only[Int.toNat_natCast,hp,hd,cond_true,Af (Ap hj),Option.bind_some,Af (Ap hjf)];rw[show(⟨f.Params,f.Ret,f.Blocks⟩:Ab)=f from rfl,c_end f l t vs _ (hin _ (As hjf)),Option.bind_some];simp only;have eu:Fk f ⟨p.Args.getD j 0,p.From.getD j 0,1000,(p.Bits,1)⟩=⟨p.Args.getD j 0,(p.Bits,1),⟨p.From.getD j 0,Mh f (p.From.getD j 0)⟩⟩:=rfl;rw[eu]at hacc ⊢
  rw[c_use f l t vs _ _ _ acc hacc,Option.bind_some,A4 hj (by omega)]) (fun acc=>by unfold Da;simp only[Int.toNat_natCast,hp,show decide ((p.Args.length:Int)<(p.Args.length:Int))=false by simp,cond_false]) p.Args.length 0 u (by omega) (by rw[e];exact hB)
 rw[e]at this;exact this
theorem c_phis'(i:Nat)(hi:i<f.Blocks.length)(hfit:∀ p∈(f.Blocks.getD i default).Phis,p.Args.length≤p.From.length∧∀ x∈p.From,Bb x f.Blocks.length)(u:List An)(hB:(u++(K5 (f.Blocks.getD i default)).map (Fk f)).length≤10000000) :
  Ah (Db f vs (i:Int)) ((0:Int),f.Params,f.Ret,f.Blocks,l,t,u)=some (f.Params,f.Ret,f.Blocks,l,t,u++(K5 (f.Blocks.getD i default)).map (Fk f)):=by
 have hBk:=hf.block _ (As (d:=(default:Ad)) hi);have e:=Aan (Fk f) (f.Blocks.getD i default).Phis.length fun(k:Nat)=>Kt ((f.Blocks.getD i default).Phis.getD k default)
 have:=Ue 10000000 (fun j u=>(j,f.Params,f.Ret,f.Blocks,l,t,u)) (fun u=>(f.Params,f.Ret,f.Blocks,l,t,u)) (f.Blocks.getD i default).Phis.length (fun(k:Nat)=>(Kt ((f.Blocks.getD i default).Phis.getD k default)).map (Fk f)) (Db f vs (i:Int)) (fun acc k hk hacc=>by
  have hq:=hfit _ (As (d:=(default:Er)) hk);have h1:=c_phi1 hf l t vs i k hi hk hq.1 hq.2 acc hacc;unfold Db
  have hd:decide ((k:Int)<((f.Blocks.getD i default).Phis.length:Int))=true:=by simpa using hk
  simp only[Int.toNat_natCast,hd,cond_true,Af (Ap hk),h1,Option.bind_some,A4 hk (by have:=hBk.phis;omega)]) (fun acc=>by unfold Db;simp) (f.Blocks.getD i default).Phis.length 0 u (by omega) (by rw[e];exact hB)
 rw[e]at this;exact this
theorem c_op1(i k:Nat)(hi:i<f.Blocks.length)(hk:k<(f.Blocks.getD i default).Ops.length)(u:List An)(hB:(u++(Mn ((f.Blocks.getD i default).Ops.getD k default) i k).map (Fk f)).length≤10000000) :
  Ah (Dc f vs (i:Int) (k:Int) (Hh ((f.Blocks.getD i default).Ops.getD k default))) ((0:Int),f.Params,f.Ret,f.Blocks,l,t,u)=some (f.Params,f.Ret,f.Blocks,l,t,u++(Mn ((f.Blocks.getD i default).Ops.getD k default) i k).map (Fk f)):=by
 have hBk:=hf.block _ (As (d:=(default:Ad)) hi);have hlen:=Rg (ok_op hf (As (d:=(default:Ad)) hi) (As (d:=(default:Dv)) hk));have hk512:=hBk.ops
 generalize hp:(f.Blocks.getD i default).Ops.getD k default=o at *
 have e:=map_sing (Fk f) (Hh o).length fun(j:Nat)=>(⟨o.Args.getD j 0,i,k,(Hh o).getD j (0,0)⟩:Bz)
 have:=Ue 10000000 (fun j u=>(j,f.Params,f.Ret,f.Blocks,l,t,u)) (fun u=>(f.Params,f.Ret,f.Blocks,l,t,u)) (Hh o).length (fun(j:Nat)=>[Fk f ⟨o.Args.getD j 0,i,k,(Hh o).getD j (0,0)⟩]) (Dc f vs (i:Int) (k:Int) (Hh o)) (fun acc j hj hacc=>by
  have hkk:((k:Int)==1000)=false:=by simp;omega
  have eu:Fk f ⟨o.Args.getD j 0,i,k,(Hh o).getD j (0,0)⟩=⟨o.Args.getD j 0,(Hh o).getD j (0,0),⟨(i:Int),(k:Int)⟩⟩:=by unfold Fk;simp only[hkk,cond_false]
  rw[eu]at hacc ⊢;unfold Dc
  have hd:decide ((j:Int)<((Hh o).length:Int))=true:=by simpa using hj
  have hja:j<o.Args.length:=by omega
  simp only[Int.toNat_natCast,hp,hd,cond_true,Af (Ap hj),Af (Ap hja)]
  rw[show(⟨f.Params,f.Ret,f.Blocks⟩:Ab)=f from rfl,c_use f l t vs _ _ _ acc hacc,Option.bind_some,A4 hj (by omega)]) (fun acc=>by unfold Dc;simp) (Hh o).length 0 u (by omega) (by rw[e];exact hB)
 rw[e]at this;exact this
theorem c_ops'(i:Nat)(hi:i<f.Blocks.length)(u:List An)(hB:(u++(Ov (f.Blocks.getD i default) i).map (Fk f)).length≤10000000) :
  Ah (Dd f vs (i:Int)) ((0:Int),f.Params,f.Ret,f.Blocks,l,t,u)=some (f.Params,f.Ret,f.Blocks,l,t,u++(Ov (f.Blocks.getD i default) i).map (Fk f)):=by
 have hmem:=As (d:=(default:Ad)) hi;have hBk:=hf.block _ hmem;have e:=Aan (Fk f) (f.Blocks.getD i default).Ops.length fun(k:Nat)=>Mn ((f.Blocks.getD i default).Ops.getD k default) i k
 have:=Ue 10000000 (fun j u=>(j,f.Params,f.Ret,f.Blocks,l,t,u)) (fun u=>(f.Params,f.Ret,f.Blocks,l,t,u)) (f.Blocks.getD i default).Ops.length (fun(k:Nat)=>(Mn ((f.Blocks.getD i default).Ops.getD k default) i k).map (Fk f)) (Dd f vs (i:Int)) (fun acc k hk hacc=>by
  have h1:=c_op1 hf l t vs i k hi hk acc hacc;have ht:Kz ((f.Blocks.getD i default).Ops.getD k default)=some (Hh ((f.Blocks.getD i default).Ops.getD k default)):=kind_Takes _ (opOk hf hmem (As hk));unfold Dd
  have hd:decide ((k:Int)<((f.Blocks.getD i default).Ops.length:Int))=true:=by simpa using hk
  simp only[Int.toNat_natCast,hd,cond_true,Af (Ap hk),ht,h1,Option.bind_some,A4 hk (by have:=hBk.ops;omega)]) (fun acc=>by unfold Dd;simp) (f.Blocks.getD i default).Ops.length 0 u (by omega) (by rw[e];exact hB)
 rw[e]at this;exact this
theorem c_collect (hfit : ∀ b ∈ f.Blocks, ∀ p ∈ b.Phis, p.Args.length ≤ p.From.length ∧ ∀ x ∈ p.From, Bb x f.Blocks.length) : Fq f l t vs [] = some (f, l, t, (Bs f).map (Fk f)) := by
  have e := Aan (Fk f) f.Blocks.length fun (i : Nat) => Wt f (f.Blocks.getD i default) i; have hul := Xp hf
  have := Ue 10000000 (fun j u => (j, f.Params, f.Ret, f.Blocks, l, t, u)) (fun u => (f.Params, f.Ret, f.Blocks, l, t, u)) f.Blocks.length (fun (i : Nat) => (Wt f (f.Blocks.getD i default) i).map (Fk f)) (De f vs) (fun acc i hi hacc => by
    have hmem := As (d := (default : Ad)) hi; unfold Wt at hacc ⊢; rw [List.map_append, List.map_append, ← List.append_assoc, ← List.append_assoc] at hacc ⊢; have l1 := hacc; simp only [List.length_append, List.length_map] at l1; have h1 := c_phis' hf l t vs i hi (hfit _ hmem) acc (by simp only [List.length_append, List.length_map]; omega); have h2 := c_ops' hf l t vs i hi (acc ++ (K5 (f.Blocks.getD i default)).map (Fk f)) (by simp only [List.length_append, List.length_map]; omega); have hinb : Bb (i : Int) f.Blocks.length := Ap hi; unfold De Dw
    have hd : decide ((i : Int) < (f.Blocks.length : Int)) = true := by simpa using hi
    simp only [hd, cond_true, Af (Ap hi), h1, Option.bind_some, h2, Int.toNat_natCast]; have hF : (⟨f.Params, f.Ret, f.Blocks⟩ : Ab) = f := rfl; have hw : w64 ((i : Int) + 1) = (i : Int) + 1 := A4 hi (by have := hf.blocks; omega); unfold Um at hacc ⊢
    cases hz : ((f.Blocks.getD i default).End.Kind == 0) with
    | true =>
      have hz2 : ((f.Blocks.getD i default).End.Kind == 2) = false := by have : (f.Blocks.getD i default).End.Kind = 0 := by simpa using hz
                                                                         rw [this]; rfl
      rw [hz, hz2] at hacc; simp only [cond_true, cond_false, hz2, List.append_nil, List.map_cons, List.map_nil] at hacc ⊢; rw [hF, c_end f l t vs _ hinb, Option.bind_some]; simp only; rw [c_use f l t vs _ _ _ _ (show (_ ++ [(⟨_, _, ⟨(i : Int), Mh f (i : Int)⟩⟩ : An)]).length ≤ 10000000 from hacc), Option.bind_some, Option.bind_some, hw]
      rfl
    | false =>
      rw [hz] at hacc
      cases hz2 : ((f.Blocks.getD i default).End.Kind == 2) with
      | true =>
        rw [hz2] at hacc; simp only [cond_true, cond_false, List.nil_append, List.map_cons, List.map_nil] at hacc ⊢; rw [hF, c_end f l t vs _ hinb, Option.bind_some]; simp only; rw [c_use f l t vs _ _ _ _ (show (_ ++ [(⟨_, _, ⟨(i : Int), Mh f (i : Int)⟩⟩ : An)]).length ≤ 10000000 from hacc), Option.bind_some, Option.bind_some, hw]
        rfl
      | false =>
        simp only [cond_false, List.nil_append, List.map_nil, List.append_nil, Option.bind_some, hw]) (fun acc => by unfold De; simp) f.Blocks.length 0 [] (by omega) (by rw [e]; simpa [Bs] using (by omega : (Bs f).length ≤ 10000000))
  rw [e, List.nil_append] at this; unfold Fq; rw [show (0 : Int) = ((0 : Nat) : Int) from rfl]
  show ((Ah (De f vs) (((0 : Nat) : Int), f.Params, f.Ret, f.Blocks, l, t, [])).bind _) = _
  rw [this, Option.bind_some]
  rfl
end
theorem allS{σ X:Type}(mk:Int→σ)(U:List An)(p:An→Bool)(f:σ→Option (LR σ X))(yes no:X)(hk:∀ i:Nat,i<U.length→f (mk i)=some (bif p (U.getD i default) then .next (mk ((i:Int)+1)) else .done no))(he:f (mk U.length)=some (.done yes)) :
  ∀ k i:Nat,i+k=U.length→Ah f (mk i)=some (bif (U.drop i).all p then yes else no)
 | 0,i,h=>by
  obtain rfl:i=U.length:=by omega
  rw[Ao he]
  simp
 | k+1,i,h=>by
  have hi:i<U.length:=by omega
  have hdr:U.drop i=U.getD i default::U.drop (i+1):=by rw[List.drop_eq_getElem_cons hi,Ai _ _ _ hi]
  have hx:=hk i hi;rw[hdr,List.all_cons]
  cases hp:p (U.getD i default) with
  | true=>
   rw[hp]at hx;rw[Aw hx,show((i:Int)+1)=((i+1:Nat):Int) by omega,allS mk U p f yes no hk he k (i+1) (by omega),Bool.true_and]
  | false=>
   rw[hp]at hx;rw[Ao hx]
   rfl
theorem Zx(d:Bk)(l:List Bk)(v:Int):I5 (d::l) v=bif d.V==v then 0 else bif decide (I5 l v<0) then -1 else I5 l v+1:=by
 unfold I5;rw[List.findIdx?_cons]
 cases d.V==v with
 | true=>rfl
 | false=>
  cases l.findIdx? (fun d=>d.V==v) with
  | none=>rfl
  | some i=>
   simp only[cond_false,Option.map_some];rw[decide_eq_false (by omega)]
   simp
theorem Aao(v:Int):∀ l:List Bk,Gh (dv l) v = !decide (I5 l v<0)
 | []=>rfl
 | d::l=>by
  rw[Zx]
  show((v==d.V) || Gh (dv l) v)=_
  rw[Aao v l,show(v==d.V)=(d.V==v) by rw[Bool.eq_iff_iff];simp;exact eq_comm]
  cases d.V==v with
  | true=>rfl
  | false=>
   by_cases h:I5 l v<0
   ·simp[h]
   ·simp[h];omega
theorem Vl(v:Int):∀ l:List Bk,¬ I5 l v<0→Fh (default:Aj) (dv l) v=Yw (defOf l v)
 | [],h=>absurd (show(-1:Int)<0 by decide) h
 | d::l,h=>by
  unfold defOf;rw[Zx]at h ⊢
  show(bif v==d.V then Yw d else Fh default (dv l) v)=_
  rw[show(v==d.V)=(d.V==v) by rw[Bool.eq_iff_iff];simp;exact eq_comm]
  cases hb:d.V==v with
  | true=>rfl
  | false=>
   rw[hb]at h
   by_cases hn:I5 l v<0
   ·simp[hn]at h
   ·have hz:decide (I5 l v<0)=false:=decide_eq_false hn;simp only[cond_false,hz];rw[Vl v l hn,show(I5 l v+1).toNat=(I5 l v).toNat+1 by omega]
    rfl
def DefIn(f:Ab)(d:Bk):Prop:=d.Block = -1∨(Bb d.Block f.Blocks.length∧d.At<Mh f d.Block∧d.At<1000)
def UseIn(f:Ab)(u:Bz):Prop:=Bb u.Block f.Blocks.length∧0≤u.At
theorem defs_in{f:Ab}(hf:OkF f):∀ d∈Aq f,DefIn f d:=fun d hd=>by
 rcases List.mem_append.1 hd with h|h
 ·obtain⟨i,_,hi⟩:=List.mem_flatMap.1 h;rw[List.mem_singleton.1 hi];exact .inl rfl
 ·obtain⟨i,hi,h⟩:=List.mem_flatMap.1 h
  have hi:i<f.Blocks.length:=by simpa using hi
  have hB:=hf.block _ (As (d:=(default:Ad)) hi);have ho:Mh f (i:Int)=((f.Blocks.getD i default).Ops.length:Int):=rfl;rcases List.mem_append.1 h with h|h
  ·obtain⟨k,hk,h⟩:=List.mem_flatMap.1 h;rw[List.mem_singleton.1 h];refine .inr ⟨Ap hi,?_,?_⟩
   ·show(-1:Int)<Mh f (i:Int);rw[ho];omega
   ·show(-1:Int)<1000;omega
  ·obtain⟨k,hk,h⟩:=List.mem_flatMap.1 h
   have hk:k<(f.Blocks.getD i default).Ops.length:=by simpa using hk
   cases hg:decide (0<(I6 ((f.Blocks.getD i default).Ops.getD k default)).1) with
   | false=>rw[hg]at h;cases h
   | true=>
    rw[hg]at h;rw[List.mem_singleton.1 h];refine .inr ⟨Ap hi,?_,?_⟩
    ·show(k:Int)<Mh f (i:Int);rw[ho];omega
    ·show(k:Int)<1000;have:=hB.ops;omega
theorem uses_in{f:Ab}(hfit:∀ b∈f.Blocks,∀ p∈b.Phis,p.Args.length≤p.From.length∧∀ x∈p.From,Bb x f.Blocks.length):∀ u∈Bs f,UseIn f u:=fun u hu=>by
 obtain⟨i,hi,h⟩:=List.mem_flatMap.1 hu
 have hi:i<f.Blocks.length:=by simpa using hi
 have hmem:=As (d:=(default:Ad)) hi;rcases List.mem_append.1 h with h|h
 ·rcases List.mem_append.1 h with h|h
  ·obtain⟨k,hk,h⟩:=List.mem_flatMap.1 h
   have hk:k<(f.Blocks.getD i default).Phis.length:=by simpa using hk
   obtain⟨j,hj,h⟩:=List.mem_flatMap.1 h;have hj:=List.mem_range.1 hj;have hq:=hfit _ hmem _ (As (d:=(default:Er)) hk);rw[List.mem_singleton.1 h];exact⟨hq.2 _ (As (by omega)),by show(0:Int)≤1000;omega⟩
  ·obtain⟨k,hk,h⟩:=List.mem_flatMap.1 h;obtain⟨j,hj,h⟩:=List.mem_flatMap.1 h;rw[List.mem_singleton.1 h];exact⟨Ap hi,by show(0:Int)≤(k:Int);omega⟩
 ·unfold Um at h
  have:u=⟨(f.Blocks.getD i default).End.Arg,i,1000,(f.Ret,1)⟩∨u=⟨(f.Blocks.getD i default).End.Arg,i,1000,(1,1)⟩:=by
   rcases List.mem_append.1 h with h|h
   ·cases hz:((f.Blocks.getD i default).End.Kind==0) with
    | true=>rw[hz]at h;exact .inl (List.mem_singleton.1 h)
    | false=>rw[hz]at h;cases h
   ·cases hz:((f.Blocks.getD i default).End.Kind==2) with
    | true=>rw[hz]at h;exact .inr (List.mem_singleton.1 h)
    | false=>rw[hz]at h;cases h
  rcases this with rfl|rfl<;>exact⟨Ap hi,by show(0:Int)≤1000;omega⟩
theorem fit_of{f:Ab}(h:Fo f=true):∀ b∈f.Blocks,∀ p∈b.Phis,p.Args.length≤p.From.length∧∀ x∈p.From,Bb x f.Blocks.length:=fun b hb p hp=>by
 have hs:Ld f=true:=by simp only[Fo,Bool.and_eq_true]at h;exact h.1
 refine⟨shape_fit h b hb p hp,fun x hx=>?_⟩;obtain⟨i,hi,rfl⟩:=List.getElem_of_mem hb;simp only[Fo,Bool.and_eq_true]at h;have h1:=allN h.2 i hi;simp only[Kd,Bool.and_eq_true,List.all_eq_true]at h1;rw[Ai _ _ _ hi]at h1;have h2:=h1.2 p hp;simp only[Gv,Bool.and_eq_true,decide_eq_true_eq]at h2;rw[h2.1]at hx;obtain⟨q,rfl,hq,_⟩:=(Wl (L:=Ch f) (Nm hs) (y:=i) (by rw[Tn];exact hi)).1 hx;exact Ap (by rw[Tn]at hq;exact hq)
theorem over_first{f:Ab}(h:Fo f=true){b:Int}(hb:Bb b f.Blocks.length):U7 (Cs f) 0 b=true:=by
 have hs:Ld f=true:=by simp only[Fo,Bool.and_eq_true]at h;exact h.1
 have hm:=Nm hs;have hlen:=Tn f
 have hpos:0<(Ch f).length:=by have:=(shape_iff.1 hs).1.1;omega
 obtain⟨P,hP,o,ht⟩:=treeD_dom hm hpos
 have e:Cs f=Tz (Ch f) 0:=by
  unfold Cs treeG;rw[if_pos ⟨mayG_gOf hm,Int.le_refl _,by show(0:Int)<((Ch f).length:Int);omega⟩]
  rfl
 obtain⟨k,rfl⟩:∃ k:Nat,b=(k:Int):=⟨b.toNat,(Int.toNat_of_nonneg hb.1).symm⟩
 have hk:k<f.Blocks.length:=by have:=hb.2;omega
 simp only[Fo,Bool.and_eq_true]at h;have h1:=allN h.2 k hk;simp only[Kd,Bool.and_eq_true]at h1;have hr:Rch (sN (Ch f)) 0 k:=(Wn (Rw hm) hpos k).1 h1.1.1;rw[e];refine(ht.over_dom o hpos (by omega)).2 ⟨rc_iff.2 hr,fun ha=>?_⟩;exact(av_iff.1 ha).1 rfl
theorem Sv{l:List Bz}{g:Bz→An}{p:An→Bool}{q:Bz→Bool}(h:∀ u∈l,p (g u)=q u):(l.map g).all p=l.all q:=by
 induction l with
 | nil=>rfl
 | cons a l ih=>rw[List.map_cons,List.all_cons,List.all_cons,h a (by simp),ih fun u hu=>h u (by simp[hu])]
def fitP(vs:List (Int×Aj))(u:An):Bool:=((Fh (default:Aj) vs u.v).shape.1==u.shape.1)&&(((Fh (default:Aj) vs u.v).shape.2==u.shape.2)&&true)
def Vd(vs:List (Int×Aj))(t:List Int)(u:An):Bool:=bif (Fh (default:Aj) vs u.v).place.block==u.place.block then decide ((Fh (default:Aj) vs u.v).place.at_<u.place.at_) else U7 t (Fh (default:Aj) vs u.v).place.block u.place.block
theorem ahead_eq{f:Ab}(hs:Fo f=true){D:List Bk}(hD:∀ d∈D,DefIn f d){u:Bz}(hu:UseIn f u)(hfd:Iy D u=true):Vd (dv D) (Cs f) (Fk f u)=O8 D (Cs f) u:=by
 have hF:¬ I5 D u.V<0:=by simpa [Iy] using hfd
 have hin:=findD_in hF;have hd:DefIn f (defOf D u.V):=hD _ (by unfold defOf;exact As (by have:=hin.1;have:=hin.2;omega));have hg:Fh (default:Aj) (dv D) (Fk f u).v=Yw (defOf D u.V):=Vl u.V D hF;unfold Vd O8;rw[hg]
 generalize defOf D u.V=d at *
 have hub:=hu.1.1
 have hul:0≤Mh f u.Block:=by unfold Mh;omega
 have hat:∀ a:Int,a<0∨(a<Mh f u.Block∧a<1000)→decide (a<(Fk f u).place.at_)=decide (a<u.At)∨a<0:=fun a ha=>by
  rcases ha with ha|ha
  ·exact .inr ha
  ·refine .inl ?_
   show decide (a<bif u.At==1000 then Mh f u.Block else u.At)=_
   by_cases h:u.At=1000
   ·rw[h];simp only[show((1000:Int)==1000)=true from rfl,cond_true];rw[decide_eq_true ha.1,decide_eq_true ha.2]
   ·have:(u.At==1000)=false:=by simpa using h
    rw[this];rfl
 have hpos:0≤(Fk f u).place.at_:=by
  show 0≤bif u.At==1000 then Mh f u.Block else u.At
  cases u.At==1000
  ·exact hu.2
  ·exact hul
 have hblk:(Fk f u).place.block=u.Block:=rfl;rw[hblk];rcases hd with hd|⟨hd1,hd2,hd3⟩
 ·have e:(Yw d).place=⟨0,-1⟩:=by show atD d=_;unfold atD;rw[hd];rfl
  rw[e,hd,decide_eq_true (show(-1:Int)<0 by decide)]
  show(bif (0:Int)==u.Block then decide ((-1:Int)<(Fk f u).place.at_) else U7 (Cs f) 0 u.Block)=_
  rw[Bool.true_or,Bool.true_or,over_first hs hu.1,decide_eq_true (show(-1:Int)<(Fk f u).place.at_ by omega)]
  cases(0:Int)==u.Block<;>rfl
 ·have hn:¬ d.Block<0:=by have:=hd1.1;omega
  have e:(Yw d).place=⟨d.Block,d.At⟩:=by show atD d=_;unfold atD;rw[decide_eq_false hn];rfl
  rw[e,decide_eq_false hn,Bool.false_or]
  show(bif d.Block==u.Block then decide (d.At<(Fk f u).place.at_) else U7 (Cs f) d.Block u.Block)=_
  cases hb:d.Block==u.Block with
  | true=>
   have hbe:d.Block=u.Block:=by simpa using hb
   simp only[cond_true,Bool.true_and,Bool.not_true,Bool.false_and,Bool.or_false];rcases hat d.At (.inr ⟨by rw[← hbe];exact hd2,hd3⟩) with h|h
   ·exact h
   ·rw[decide_eq_true (by omega),decide_eq_true (by have:=hu.2;omega)]
  | false=>
   simp only[cond_false,Bool.false_and,Bool.false_or,Bool.not_false,Bool.true_and];unfold U7
   by_cases hm:Ms (Cs f) d.Block u.Block=d.Block
   ·rw[hm]
    have:(d.Block !=-2)=true:=by simp;omega
    simp[this]
   ·have:(Ms (Cs f) d.Block u.Block==d.Block)=false:=by simpa using hm
    simp[this,bne]
section
variable {f:Ab} (l:Int) (vs:List (Int×Aj))
def stU(f:Ab)(l:Int)(U:List An)(i:Int):Int×List Int×Int×List Ad×Int×List Int×List An:=(i,f.Params,f.Ret,f.Blocks,l,Cs f,U)
def stX(f:Ab)(l:Int)(U:List An):List Int×Int×List Ad×Int×List Int×List An:=(f.Params,f.Ret,f.Blocks,l,Cs f,U)
theorem c_used1(U:List An)(hU:U.length<9223372036854775808):Ah (Dg vs (f,l,Cs f,U)) (stU f l U 0)=some (bif U.all (fun u=>Gh vs u.v) then .inl (stX f l U) else .inr (stX f l U)):=by
 have:=allS (stU f l U) U (fun u=>Gh vs u.v) (Dg vs (f,l,Cs f,U)) (.inl (stX f l U)) (.inr (stX f l U)) (fun i hi=>by
  unfold Dg stU Hl
  have hd:decide ((i:Int)<(U.length:Int))=true:=by simpa using hi
  simp only[hd,cond_true,Af (Ap hi),Int.toNat_natCast,Option.bind_some,A4 hi hU]
  cases Gh vs (U.getD i default).v<;>rfl) (by unfold Dg stU;simp;rfl) U.length 0 (by omega)
 rw[List.drop_zero]at this;exact this
theorem c_used2(U:List An)(hU:U.length<9223372036854775808):Ah (Dh vs U) (stU f l U 0)=some (bif U.all (fitP vs) then .inl (stX f l U) else .inr (stX f l U)):=by
 have:=allS (stU f l U) U (fitP vs) (Dh vs U) (.inl (stX f l U)) (.inr (stX f l U)) (fun i hi=>by
  unfold Dh stU Io
  have hd:decide ((i:Int)<(U.length:Int))=true:=by simpa using hi
  simp only[hd,cond_true,Af (Ap hi),Int.toNat_natCast,Option.bind_some,A4 hi hU];unfold fitP
  cases(((Fh (default:Aj) vs (U.getD i default).v).shape.1==(U.getD i default).shape.1)&&(((Fh (default:Aj) vs (U.getD i default).v).shape.2==(U.getD i default).shape.2)&&true))<;>rfl) (by unfold Dh stU;simp;rfl) U.length 0 (by omega)
 rw[List.drop_zero]at this;exact this
theorem c_used3(htl:(Cs f).length≤1000)(U:List An)(hU:U.length<9223372036854775808):Ah (Di vs U) (stU f l U 0)=some (bif U.all (Vd vs (Cs f)) then .inl (stX f l U) else .inr (stX f l U)):=by
 have:=allS (stU f l U) U (Vd vs (Cs f)) (Di vs U) (.inl (stX f l U)) (.inr (stX f l U)) (fun i hi=>by
  have hx:Ft (U.getD i default) f l (Cs f) vs U=some (Vd vs (Cs f) (U.getD i default),f,l,Cs f,U):=by
   unfold Ft Vd;rw[m_Over htl]
   cases(Fh (default:Aj) vs (U.getD i default).v).place.block==(U.getD i default).place.block<;>rfl
  unfold Di stU
  have hd:decide ((i:Int)<(U.length:Int))=true:=by simpa using hi
  simp only[hd,cond_true,Af (Ap hi),Int.toNat_natCast];rw[show(⟨f.Params,f.Ret,f.Blocks⟩:Ab)=f from rfl,hx,Option.bind_some,A4 hi hU]
  cases Vd vs (Cs f) (U.getD i default)<;>rfl) (by unfold Di stU;simp;rfl) U.length 0 (by omega)
 rw[List.drop_zero]at this;exact this
end
def usedD(f:Ab):Int:=bif !(Bs f).all (Iy (Aq f)) then 7 else bif !(Bs f).all (O9 (Aq f)) then 6 else bif !(Bs f).all (O8 (Aq f) (Cs f)) then 7 else 0
theorem c_used{f:Ab}(hf:OkF f)(hs:Fo f=true)(l:Int):∃ U,G6 f l (Cs f) (dv (Aq f)) []=some (usedD f,f,l,Cs f,U):=by
 have hfit:=fit_of hs;have hul:=Xp hf
 have hsB:Ld f=true:=by simp only[Fo,Bool.and_eq_true]at hs;exact hs.1
 refine⟨(Bs f).map (Fk f),?_⟩
 have hU:((Bs f).map (Fk f)).length<9223372036854775808:=by rw[List.length_map];omega
 have h1:=c_used1 (f:=f) l (dv (Aq f)) _ hU;have h2:=c_used2 (f:=f) l (dv (Aq f)) _ hU;have h3:=c_used3 (f:=f) l (dv (Aq f)) (tree_len hsB) _ hU;rw[Sv (q:=Iy (Aq f)) (fun u _=>Aao u.V _)]at h1;unfold G6 usedD Pq;rw[c_collect hf l (Cs f) (dv (Aq f)) hfit,Option.bind_some];simp only;rw[show(Ah (Dg (dv (Aq f)) (f,l,Cs f,(Bs f).map (Fk f))) ((0:Int),f.Params,f.Ret,f.Blocks,l,Cs f,(Bs f).map (Fk f)))=_ from h1,Option.bind_some];have fin:∀ e:Int,Ah I7 (e,f.Params,f.Ret,f.Blocks,l,Cs f,(Bs f).map (Fk f))=some (e,f,l,Cs f,(Bs f).map (Fk f)):=fun e=>Ao rfl
 cases hfd:(Bs f).all (Iy (Aq f)) with
 | false=>simp only[cond_false,Bool.not_false,cond_true,stX,Option.bind_some,fin]
 | true=>
  have hmf:=List.all_eq_true.1 hfd
  rw[Sv (q:=O9 (Aq f)) (fun u hu=>by
   have:=hmf u hu;simp only[Iy,Bool.not_eq_true',decide_eq_false_iff_not]at this;have hg:Fh (default:Aj) (dv (Aq f)) (Fk f u).v=Yw (defOf (Aq f) u.V):=Vl u.V _ this;unfold fitP O9
   rw[hg];rfl)]at h2
  rw[Sv (q:=O8 (Aq f) (Cs f)) (fun u hu=>ahead_eq hs (defs_in hf) (uses_in hfit u hu) (hmf u hu))]at h3;simp only[cond_true,Bool.not_true,cond_false,stX];rw[show(Ah (Dh (dv (Aq f)) ((Bs f).map (Fk f))) ((0:Int),f.Params,f.Ret,f.Blocks,l,Cs f,(Bs f).map (Fk f)))=_ from h2,Option.bind_some]
  cases(Bs f).all (O9 (Aq f)) with
  | false=>simp only[cond_false,Bool.not_false,cond_true,stX,Option.bind_some,fin]
  | true=>
   simp only[cond_true,Bool.not_true,cond_false,stX];rw[show(Ah (Di (dv (Aq f)) ((Bs f).map (Fk f))) ((0:Int),f.Params,f.Ret,f.Blocks,l,Cs f,(Bs f).map (Fk f)))=_ from h3,Option.bind_some]
   cases(Bs f).all (O8 (Aq f) (Cs f)) with
   | false=>simp only[cond_false,Bool.not_false,cond_true,stX,Option.bind_some,fin]
   | true=>simp only[cond_true,Bool.not_true,cond_false,stX,Option.bind_some]
theorem c_wrong{f:Ab}(h:Sm f)(l:Int)(h0:0≤l)(h2:l≤2):∃ t u vs,E9 f l [] []=some (Fl f l,f,l,t,u,vs)∧(Fl f l=0→vs=dv (Aq f)):=by
 have hc:Fl f l=bif !Oy f then 4 else Vp f l:=by
  unfold Fl;rw[decide_eq_false (by omega),decide_eq_false (by omega)];rfl
 rw[hc];unfold E9;rw[c_told f h.1,Option.bind_some]
 cases hm:Oy f with
 | false=>exact⟨[],[],[],rfl,fun h=>by cases h⟩
 | true=>
  have hf:=sm_ok h hm;simp only[cond_true,Bool.not_true,cond_false,show((0:Int)!=0)=false from rfl,Vp];obtain⟨t',hsh,hst⟩:=c_shaped hf l [] [];rw[hsh,Option.bind_some]
  cases hs:Fo f with
  | false=>exact⟨t',[],[],rfl,fun h=>by cases h⟩
  | true=>
   obtain rfl:=hst hs;simp only[cond_true,Bool.not_true,cond_false,show((0:Int)!=0)=false from rfl];rw[c_typed hf l h0 h2,Option.bind_some]
   cases Ou f l with
   | false=>exact⟨Cs f,[],[],rfl,fun h=>by cases h⟩
   | true=>
    simp only[cond_true,Bool.not_true,cond_false,show((0:Int)!=0)=false from rfl];obtain⟨vs,hd,hv⟩:=c_defined hf l (Cs f) [];rw[hd,Option.bind_some]
    cases hdd:(List.range (Aq f).length).all (Km (Aq f)) with
    | false=>exact⟨Cs f,[],vs,rfl,fun h=>by cases h⟩
    | true=>
     obtain rfl:=hv hdd;simp only[cond_true,Bool.not_true,cond_false,show((0:Int)!=0)=false from rfl];obtain⟨U,hu⟩:=c_used hf hs l;rw[hu,Option.bind_some];refine⟨Cs f,U,dv (Aq f),?_,fun _=>rfl⟩
     show(bif usedD f !=0 then some (usedD f,f,l,Cs f,U,dv (Aq f)) else some (0,f,l,Cs f,U,dv (Aq f)))=some (usedD f,f,l,Cs f,U,dv (Aq f))
     cases hz:usedD f !=0 with
     | true=>rfl
     | false=>
      have:usedD f=0:=by simpa using hz
      rw[this];rfl
theorem c_check(f:Ab)(l:Int)(h:Sm f):Dn f l=some (Fl f l):=by
 unfold Dn
 by_cases h0:l<0
 ·rw[decide_eq_true h0];unfold Fl;rw[decide_eq_true h0];rfl
 ·by_cases h2:2<l
  ·rw[decide_eq_false h0,decide_eq_true h2];unfold Fl;rw[decide_eq_false h0,decide_eq_true h2];rfl
  ·obtain⟨t,u,vs,hw,_⟩:=c_wrong h l (by omega) (by omega);rw[decide_eq_false h0,decide_eq_false h2,hw];rfl
def lone(e:Ga)(b r:Int):Ab:=⟨[b],r,[⟨[],[],e⟩]⟩
theorem lone_in(k a b r:Int):InF (lone ⟨k,a,[]⟩ b r):=by
 have hb:∀ x∈(lone ⟨k,a,[]⟩ b r).Blocks,x=⟨[],[],⟨k,a,[]⟩⟩:=fun x hx=>by simpa [lone] using hx
 have hM:(2:Nat)≤maxLen:=by decide
 refine⟨by show 1≤maxLen;omega,by show 1≤maxLen;omega,fun x h=>?_,fun x h p hp=>?_,fun x h o ho=>?_⟩
 ·rw[hb x h];exact⟨Nat.zero_le _,Nat.zero_le _,Nat.zero_le _⟩
 ·rw[hb x h]at hp;cases hp
 ·rw[hb x h]at ho;cases ho
theorem sm_lone(k a b r:Int):Sm (lone ⟨k,a,[]⟩ b r):=by
 have hb:∀ x∈(lone ⟨k,a,[]⟩ b r).Blocks,x=⟨[],[],⟨k,a,[]⟩⟩:=fun x hx=>by simpa [lone] using hx
 refine sm_of (lone_in k a b r) (by show 1≤64;omega) (fun x h=>?_) (by show 2≤20000;omega);rw[hb x h];exact⟨Nat.zero_le _,(fun p hp=>by cases hp),fun o ho=>by cases ho⟩
theorem Y9{n:Int}(h0:0≤n)(h1:n≤1073741824):numB n=true:=by
 unfold numB;rw[decide_eq_true h0,decide_eq_true (by omega)];rfl
theorem lone_may{k a b r:Int}(hk:numB k=true)(ha:numB a=true)(hb:numB b=true)(hr:numB r=true):Oy (lone ⟨k,a,[]⟩ b r)=true:=by
 have hs:sizeW (lone ⟨k,a,[]⟩ b r)=1:=by show w64 ((1:Nat):Int)=1;decide
 unfold Oy;rw[hs];simp[lone,blockB,endB,listB,hk,ha,hb,hr]
theorem Aaj(e:Ga)(b r l:Int):Ou (lone e b r) l=(widthB b&&widthB r):=by
 have e1:Ou (lone e b r) l=((widthB b&&true)&&((true&&true)&&true)&&widthB r):=rfl;rw[e1]
 cases widthB b<;>cases widthB r<;>rfl
theorem ret_shape(b r:Int):Fo (lone ⟨0,1,[]⟩ b r)=true:=by
 have:Fo (lone ⟨0,1,[]⟩ b r)=Fo (lone ⟨0,1,[]⟩ 0 0):=rfl;rw[this];decide +kernel
theorem trap_shape(b r:Int):Fo (lone ⟨3,0,[]⟩ b r)=true:=by
 have:Fo (lone ⟨3,0,[]⟩ b r)=Fo (lone ⟨3,0,[]⟩ 0 0):=rfl;rw[this];decide +kernel
theorem lone_defs(e:Ga)(b r:Int):Aq (lone e b r)=[⟨1,-1,0,(b,1)⟩]:=rfl
theorem ret_uses(b r:Int):Bs (lone ⟨0,1,[]⟩ b r)=[⟨1,0,1000,(r,1)⟩]:=rfl
theorem trap_uses(b r:Int):Bs (lone ⟨3,0,[]⟩ b r)=[]:=rfl
theorem lone_def(b:Int):(List.range ([⟨1,-1,0,(b,1)⟩]:List Bk).length).all (Km [⟨1,-1,0,(b,1)⟩])=true:=rfl
theorem lone_found(b r:Int):([⟨1,0,1000,(r,1)⟩]:List Bz).all (Iy [⟨1,-1,0,(b,1)⟩])=true:=rfl
theorem lone_fit(b r:Int):([⟨1,0,1000,(r,1)⟩]:List Bz).all (O9 [⟨1,-1,0,(b,1)⟩])=(b==r):=by
 have:([⟨1,0,1000,(r,1)⟩]:List Bz).all (O9 [⟨1,-1,0,(b,1)⟩])=(((b==r)&&(true&&true))&&true):=rfl;rw[this];cases b==r<;>rfl
theorem lone_dom(b r:Int)(t:List Int):([⟨1,0,1000,(r,1)⟩]:List Bz).all (O8 [⟨1,-1,0,(b,1)⟩] t)=true:=rfl
theorem ret_check{b r:Int}(hb:0≤b∧b≤1073741824)(hr:0≤r∧r≤1073741824):Fl (lone ⟨0,1,[]⟩ b r) 0=bif (widthB b&&widthB r) then(bif b==r then 0 else 6) else 6:=by
 unfold Fl Vp;rw[lone_may rfl rfl (Y9 hb.1 hb.2) (Y9 hr.1 hr.2),ret_shape,Aaj,lone_defs,ret_uses,lone_def,lone_found,lone_fit,lone_dom]
 cases widthB b&&widthB r<;>cases b==r<;>rfl
theorem trap_check{b r:Int}(hb:0≤b∧b≤1073741824)(hr:0≤r∧r≤1073741824):Fl (lone ⟨3,0,[]⟩ b r) 0=bif (widthB b&&widthB r) then 0 else 6:=by
 unfold Fl Vp;rw[lone_may rfl rfl (Y9 hb.1 hb.2) (Y9 hr.1 hr.2),trap_shape,Aaj,lone_defs,trap_uses,lone_def]
 cases widthB b&&widthB r<;>rfl
theorem ret11(F:Facts11)(b r:Int):G4 b r=some true:=by
 unfold G4;rw[m_awake11 F,Option.bind_some,Bool.not_true,cond_false];have h1:=F.check _ 0 (sm_lone 0 1 b r);have h2:=F.check _ 0 (sm_lone 3 0 b r);have h3:=m_check_ref (sm_lone 0 1 b r) 0;unfold lone at h1 h2 h3;rw[h1,h2,h3];simp only[Option.bind_some,Mi]
 by_cases hb0:b<0
 ·rw[decide_eq_true hb0];simp
 by_cases hb1:1073741824<b
 ·rw[decide_eq_true hb1];simp
 by_cases hr0:r<0
 ·rw[decide_eq_true hr0];simp
 by_cases hr1:1073741824<r
 ·rw[decide_eq_true hr1];simp
 rw[decide_eq_false hb0,decide_eq_false hb1,decide_eq_false hr0,decide_eq_false hr1];have e1:=ret_check (b:=b) (r:=r) (by omega) (by omega);have e2:=trap_check (b:=b) (r:=r) (by omega) (by omega);unfold lone at e1 e2;rw[e1,e2]
 cases widthB b<;>cases widthB r<;>cases b==r<;>rfl
theorem ones{α:Type}(l:List α):(l.map fun _=>1).sum=l.length:=by induction l with|nil=>rfl|cons a l ih=>simp[ih];omega
theorem grow_if(n d:Int):(if n<d then d else n)=grow n d:=by
 unfold grow
 by_cases h:n<d<;>simp[h]
theorem c_last(f:Ab)(h:Sm f):Jk f=some (lastD f):=by
 have hf:=h.1
 have h1:∀(i:Nat),i<f.Blocks.length→∀ n:Int,Ah (Jr f (i:Int)) (n,(0:Int))=some ((f.Blocks.getD i default).Phis.foldl (fun n p=>grow n p.Dst) n):=fun i hi n=>by
  have hB:=hf.block _ (As (d:=(default:Ad)) hi);refine Vk (f.Blocks.getD i default).Phis (default:Er) _ _ (fun s j hj=>?_) (fun s=>?_) n
  ·unfold Jr
   have hd:decide ((j:Int)<((f.Blocks.getD i default).Phis.length:Int))=true:=by simpa using hj
   simp only[Int.toNat_natCast,hd,cond_true,Af (Ap hj),w64_nx hj hB.1,grow_if]
  ·unfold Jr
   simp
 have h2:∀(i:Nat),i<f.Blocks.length→∀ n:Int,Ah (Js f (i:Int)) (n,(0:Int))=some ((f.Blocks.getD i default).Ops.foldl (fun n p=>grow n p.Dst) n):=fun i hi n=>by
  have hB:=hf.block _ (As (d:=(default:Ad)) hi);refine Vk (f.Blocks.getD i default).Ops (default:Dv) _ _ (fun s j hj=>?_) (fun s=>?_) n
  ·unfold Js
   have hd:decide ((j:Int)<((f.Blocks.getD i default).Ops.length:Int))=true:=by simpa using hj
   simp only[Int.toNat_natCast,hd,cond_true,Af (Ap hj),w64_nx hj hB.2.1,grow_if]
  ·unfold Js
   simp
 unfold Jk lastD
 rw[Vk f.Blocks (default:Ad) (fun n b=>b.Ops.foldl (fun n o=>grow n o.Dst) (b.Phis.foldl (fun n p=>grow n p.Dst) n)) (Jt f) (fun s i hi=>by
  unfold Jt
  have hd:decide ((i:Int)<(f.Blocks.length:Int))=true:=by simpa using hi
  simp only[hd,cond_true,Af (Ap hi),h1 i hi,h2 i hi,Option.bind_some,w64_nx hi hf.blocks]) (fun s=>by unfold Jt;simp)]
 rfl
def shv(l:List Bk):List (Int×(Int×Int)):=l.map fun d=>(d.V,d.Shape)
theorem defs_nodup{f:Ab}(h:(List.range (Aq f).length).all (Km (Aq f))=true):((Aq f).map (·.V)).Nodup:=by
 rw[List.nodup_iff_pairwise_ne,List.pairwise_map,List.pairwise_iff_getElem];intro i j hi hj hij he;have:=((Xd hj).1 (allN h j hj)).2 i hij;rw[Ai _ _ _ hi,Ai _ _ _ hj]at this;exact this he
theorem run_shapes{x1:Int×Ab×Int×List Int×List An×List (Int×Aj)}(D:List Bk)(hx:x1.2.2.2.2.2=dv D)(hn:(D.map (·.V)).Nodup):∀(τ:List Nat) (acc:List (Int×(Int×Int))),τ.Nodup→(∀ i∈τ,i<D.length)→(∀ i∈τ,Gh acc (D.getD i default).V=false)→
  Tq (Hk x1) In τ acc=some (acc++τ.map fun i=>((D.getD i default).V,(D.getD i default).Shape))
 | [],acc,_,_,_=>by simp[Tq,In]
 | i::τ,acc,hd,hin,hf=>by
  have hi:=hin i (by simp)
  have hg:(dv D).getD i ((0:Int),(default:Aj))=((D.getD i default).V,Yw (D.getD i default)):=by
   unfold dv;simp[List.getD,hi]
  have hm:=Wd (D.getD i default).V (D.getD i default).Shape (hf i (by simp))
  have hstep:Hk x1 i acc=some (.next (acc++[((D.getD i default).V,(D.getD i default).Shape)])):=by
   unfold Hk;rw[hx,hg]
   show some (LR.next (J4 acc (D.getD i default).V ((D.getD i default).Shape.1,(D.getD i default).Shape.2)))=_
   rw[show((D.getD i default).Shape.1,(D.getD i default).Shape.2)=(D.getD i default).Shape from rfl,hm]
  unfold Tq;rw[hstep]
  show Tq _ _ τ _=_
  rw[run_shapes D hx hn τ _ (List.nodup_cons.1 hd).2 (fun j hj=>hin j (by simp[hj])) (fun j hj=>?_),List.map_cons,List.append_assoc]
  ·rfl
  ·have h1:=hf j (by simp[hj]);rw[Ta]at h1 ⊢;rw[List.any_append,h1,Bool.false_or];have hj':=hin j (by simp[hj]);have hne:j≠i:=fun e=>(List.nodup_cons.1 hd).1 (e▸hj)
   have:(D.getD j default).V≠(D.getD i default).V:=fun e=>by
    rw[List.nodup_iff_pairwise_ne,List.pairwise_map,List.pairwise_iff_getElem]at hn;rw[Ai _ _ _ hi,Ai _ _ _ hj']at e;rcases Nat.lt_or_gt_of_ne hne with h|h
    ·exact hn j i hj' hi h e
    ·exact hn i j hi hj' h e.symm
   simpa using this
theorem c_shapes(f:Ab)(h:Sm f):∃ s,H4 f=some s∧ShapesOf f s:=by
 obtain⟨t,u,vs,hw,hv⟩:=c_wrong h 2 (by omega) (by omega);unfold H4;rw[hw,Option.bind_some]
 cases hc:(Fl f 2 !=0) with
 | true=>
  have hne:Fl f 2≠0:=by simpa using hc
  exact⟨[],rfl,fun _=>rfl,fun e=>absurd e hne,fun e=>absurd e hne,fun e=>absurd e hne⟩
 | false=>
  have h0:Fl f 2=0:=by simpa using hc
  obtain rfl:=hv h0;have hz:=(check_zero (f:=f) (l:=2) (by omega) (by omega)).1 h0
  have hall:(List.range (Aq f).length).all (Km (Aq f))=true:=by
   have:=hz.2.2.2;unfold restD at this
   cases hb:(List.range (Aq f).length).all (Km (Aq f)) with
   | true=>rfl
   | false=>rw[hb]at this;cases this
  have hn:=defs_nodup hall
  have hlen:(mapE (fun(v_:Aj)=>((.agg (Eu v_)):AV)) (dv (Aq f))).length=(Aq f).length:=by simp[mapE,dv]
  have hkeys:((shv (Aq f)).map (·.1)).Nodup:=by
   have:(shv (Aq f)).map (·.1)=(Aq f).map (·.V):=by unfold shv;rw[List.map_map];rfl
   rw[this];exact hn
  have hrun:∀ τ:List Nat,τ.Perm (List.range (mapE (fun(v_:Aj)=>((.agg (Eu v_)):AV)) (dv (Aq f))).length)→∃ x',Tq (Hk (Fl f 2,f,2,t,u,dv (Aq f))) In τ ([]:List (Int×(Int×Int)))=some x'∧permN x' (shv (Aq f)):=fun τ hτ=>by
   rw[hlen]at hτ;have hr:=run_shapes (x1:=(Fl f 2,f,2,t,u,dv (Aq f))) (Aq f) rfl hn τ [] (hτ.nodup_iff.2 List.nodup_range) (fun i hi=>List.mem_range.1 (hτ.mem_iff.1 hi)) (fun _ _=>rfl);refine⟨_,hr,?_,hkeys⟩;rw[List.nil_append];have:=hτ.map fun i=>(((Aq f).getD i default).V,((Aq f).getD i default).Shape);refine this.trans ?_
   have e:(List.range (Aq f).length).map (fun i=>(((Aq f).getD i default).V,((Aq f).getD i default).Shape))=shv (Aq f):=by
    unfold shv
    apply List.ext_getElem
    ·simp
    ·intro i h1 h2;simp only[List.length_map,List.length_range]at h1;simp only[List.getElem_map,List.getElem_range,Ai _ _ _ h1]
   rw[e]
  obtain⟨s,hs⟩:=rangeP_ex ⟨shv (Aq f),hrun⟩
  have hp:s.Perm (shv (Aq f))∧(s.map (·.1)).Nodup:=by
   have hsp:=X6 hs (List.range _) (List.Perm.refl _);obtain⟨x',h1,h2⟩:=hsp;obtain⟨x2,h3,h4⟩:=hrun (List.range _) (List.Perm.refl _);rw[h1]at h3;obtain rfl:=OI h3;exact⟨h2.1.symm.trans h4.1,h2.2⟩
  refine⟨s,?_,fun hne=>absurd h0 hne,fun _=>?_,fun _ d hd=>?_,fun _ v hv=>?_⟩
  ·show(Vm permN _ _ _ _).bind _=_
   rw[hs];rfl
  ·rw[hp.1.length_eq];simp[shv]
  ·have hm:(d.V,d.Shape)∈s:=hp.1.mem_iff.2 (List.mem_map.2 ⟨d,hd,rfl⟩);exact Wc hp.2 hm
  ·rw[Ta,List.any_eq_true]at hv;obtain⟨q,hq,he⟩:=hv;obtain⟨d,hd,rfl⟩:=List.mem_map.1 (hp.1.mem_iff.1 hq);exact⟨d,hd,by simpa using(by simpa using he:v=d.V).symm⟩
theorem facts11:Facts11:=⟨fun f l h=>c_check f l h,fun f h=>c_last f h,fun f h=>c_shapes f h⟩
end
end Go.Proofs.YtggpeloimmlkgaaGreat
