/-
  The machine, the program's functions and the laws' arithmetic: part 7 of 7.
-/
import Derived.Test.YtggpeloimmlkgaaGreatPk6
set_option linter.unusedVariables false
set_option linter.unusedSimpArgs false
namespace Go.Proofs.YtggpeloimmlkgaaGreat
noncomputable section
open Go Go.RowKit
theorem m_index(t:List Int)(v:Int)(ht:t.length≤1000):(∃ r:Nat,r<t.length∧t.getD r 0=v∧(∀ i,i<r→t.getD i 0≠v)∧E7 t v=some (r:Int))∨((∀ i,i<t.length→t.getD i 0≠v)∧E7 t v=some (-1)):=by
 have key:∀ k i:Nat,i+k=t.length→(∀ j,j<i→t.getD j 0≠v)→
   (∃ r:Nat,r<t.length∧t.getD r 0=v∧(∀ i,i<r→t.getD i 0≠v)∧Ag (B6 t v) (i:Int)=some (.inr (r:Int)))∨((∀ i,i<t.length→t.getD i 0≠v)∧Ag (B6 t v) (i:Int)=some (.inl ())):=by
  intro k
  induction k with
  | zero=>
   intro i hi hj
   obtain rfl:i=t.length:=by omega
   refine .inr ⟨hj,An ?_⟩;unfold B6;rw[Gj];rfl
  | succ k ih=>
   intro i hi hj
   by_cases e:v=t.getD i 0
   ·refine .inl ⟨i,by omega,e.symm,hj,An ?_⟩;unfold B6;have hb:((v:Int)==t.getD i 0)=true:=beq_iff_eq.2 e;simp only[Dz (show i<t.length by omega),cond_true,Au,hb];rw[Ab (Fp (by omega))]
   ·have hs:B6 t v (i:Int)=some (.next ((i+1:Nat):Int)):=by
     unfold B6;have hb:((v:Int)==t.getD i 0)=false:=beq_eq_false_iff_ne.2 e;simp only[Dz (show i<t.length by omega),cond_true,Au,hb,cond_false];rw[Ab (Fp (by omega)),w1 (by omega)]
    rw[As hs]
    exact ih (i+1) (by omega) fun j hj2=>by
     by_cases ej:j=i
     ·subst ej;exact fun h=>e h.symm
     ·exact hj j (by omega)
 have h0:=key t.length 0 (by omega) (fun j hj=>absurd hj (Nat.not_lt_zero _));unfold E7;rcases h0 with⟨r,h1,h2,h3,h4⟩|⟨h1,h2⟩
 ·exact .inl ⟨r,h1,h2,h3,by rw[show((0:Int))=((0:Nat):Int) from rfl,h4];rfl⟩
 ·exact .inr ⟨h1,by rw[show((0:Int))=((0:Nat):Int) from rfl,h2];rfl⟩
section
variable {t:List Int}
structure Vg(t:List Int)(r f:Nat)(w:List Int):Prop where
 len:w.length=t.length
 old:∀ y,y<t.length→w.getD y 0≠0→(w.getD y 0≤(f:Int))∧∃ k,Tp t y r k
structure Walk(t:List Int)(r f x:Nat)(w:List Int):Prop where
 len:w.length=t.length
 hx:x<t.length
 old:∀ y,y<t.length→w.getD y 0≠0→w.getD y 0≤(f:Int)∧(∃ k,Tp t y r k)∨w.getD y 0=((f+1:Nat):Int)∧∀ r' k,Tp t x r' k→∃ j,k<j∧Tp t y r' j
 fwd:∀ r' k,Tp t x r' k→∃ j,k≤j∧Tp t f r' j
 back:∀ r' k,Tp t f r' k→∃ j,Tp t x r' j
def zeros(w:List Int):Nat:=w.countP fun z=>z==0
theorem zeros_set{w:List Int}{x:Nat}{v:Int}(hx:x<w.length)(h0:w.getD x 0=0)(hv:v≠0):zeros (w.set x v)<zeros w:=by
 unfold zeros;rw[List.countP_set hx];rw[Ah _ _ _ hx]at h0;have hp:0<w.countP fun z=>z==0:=List.countP_pos_iff.2 ⟨w[x],List.getElem_mem hx,by simp[h0]⟩;have hb:(v==0)=false:=beq_eq_false_iff_ne.2 hv;simp only[h0,beq_self_eq_true,if_true,hb,Bool.false_eq_true,if_false];omega
theorem leads_loop(ht:t.length≤1000){r:Nat}(hr:r<t.length)(htop:t.getD r 0 = -1){f:Nat}(hf:f<t.length):∀(m x:Nat) (w:List Int),zeros w≤m→Walk t r f x w→
  (∃ w',Ag (Dk t (f:Int) (r:Int)) ((x:Int),w)=some (.inl w')∧Vg t r (f+1) w'∧∃ k,Tp t f r k) ∨
  ∃ b w',Ag (Dk t (f:Int) (r:Int)) ((x:Int),w)=some (.inr (b,w'))∧w'.length=t.length∧(b=true→Vg t r (f+1) w'∧∃ k,Tp t f r k)∧(b=false→∀ k,¬ Tp t f r k):=by
 intro m
 induction m with
 | zero=>
  intro x w hz hw;exact go 0 (fun x w hz=>absurd hz (Nat.not_lt_zero _)) x w hz hw
 | succ m ih=>
  intro x w hz hw;exact go (m+1) (fun x w hz=>ih x w (Nat.le_of_lt_succ hz)) x w hz hw
where
 go (m:Nat) (ih:∀(x:Nat) (w:List Int),zeros w<m→Walk t r f x w→
  (∃ w',Ag (Dk t (f:Int) (r:Int)) ((x:Int),w)=some (.inl w')∧Vg t r (f+1) w'∧∃ k,Tp t f r k) ∨
  ∃ b w',Ag (Dk t (f:Int) (r:Int)) ((x:Int),w)=some (.inr (b,w'))∧w'.length=t.length∧(b=true→Vg t r (f+1) w'∧∃ k,Tp t f r k)∧(b=false→∀ k,¬ Tp t f r k)) (x:Nat) (w:List Int) (hz:zeros w≤m) (hw:Walk t r f x w) :
  (∃ w',Ag (Dk t (f:Int) (r:Int)) ((x:Int),w)=some (.inl w')∧Vg t r (f+1) w'∧∃ k,Tp t f r k) ∨
  ∃ b w',Ag (Dk t (f:Int) (r:Int)) ((x:Int),w)=some (.inr (b,w'))∧w'.length=t.length∧(b=true→Vg t r (f+1) w'∧∃ k,Tp t f r k)∧(b=false→∀ k,¬ Tp t f r k):=by
  have hxl:=hw.hx
  have told:∀ k,Tp t x r k→Vg t r (f+1) w∧∃ k,Tp t f r k:=fun k hk=>by
   obtain⟨j,_,hj⟩:=hw.fwd _ _ hk;refine⟨⟨hw.len,fun y hy hy0=>?_⟩,j,hj⟩;rcases hw.old y hy hy0 with⟨h1,h2⟩|⟨h1,h2⟩
   ·exact⟨by omega,h2⟩
   ·obtain⟨i,_,hi⟩:=h2 _ _ hk;exact⟨by omega,i,hi⟩
  by_cases hxr:x=r
  ·subst hxr;refine .inl ⟨w,An ?_,told 0 (.top hr htop)⟩;unfold Dk
   have hb:((x:Int)!=(x:Int))=false:=by simp
   simp only[hb,cond_false]
  ·have hb:((x:Int)!=(r:Int))=true:=by rw[bne_iff_ne];omega
   have hin:Ba (x:Int) w.length:=Fp (by rw[hw.len];exact hxl)
   by_cases hw0:w.getD x 0=0
   ·have hb0:((w.getD x 0:Int)!=0)=false:=by rw[hw0];rfl
    by_cases hpl:0≤t.getD x 0∧t.getD x 0<(t.length:Int)
    ·have hwf:w64 ((f:Int)+1)=((f+1:Nat):Int):=w1 (by omega)
     have hs:Dk t (f:Int) (r:Int) ((x:Int),w)=some (.next (t.getD x 0,w.set x ((f+1:Nat):Int))):=by
      unfold Dk I6;simp only[hb,cond_true,Au,hb0,cond_false];rw[Ab hin,Ab (Fp hxl),decide_eq_true hpl.1,decide_eq_true hpl.2,cond_true,Option.bind_some,Bool.not_true,cond_false,Ab hin,Ab (Fp hxl),hwf]
     rw[As hs];obtain⟨y,hy⟩:∃ y:Nat,t.getD x 0=(y:Int):=⟨(t.getD x 0).toNat,(Int.toNat_of_nonneg hpl.1).symm⟩;rw[hy]at hpl ⊢
     have hyl:y<t.length:=by omega
     have hst:∀ r' k,Tp t y r' k→Tp t x r' (k+1):=fun r' k hk=>.up hxl hy hk
     have hset:∀ z,z<t.length→(w.set x ((f+1:Nat):Int)).getD z 0=if z=x then((f+1:Nat):Int) else w.getD z 0:=fun z _=>Aao (by rw[hw.len];exact hxl)
     have hW:Walk t r f y (w.set x ((f+1:Nat):Int)):=by
      refine⟨by simp[hw.len],hyl,fun z hzl hz0=>?_,fun r' k hk=>?_,fun r' k hk=>?_⟩
      ·rw[hset z hzl]at hz0 ⊢
       by_cases e:z=x
       ·subst e;rw[if_pos rfl];exact .inr ⟨rfl,fun r' k hk=>⟨k+1,by omega,hst r' k hk⟩⟩
       ·rw[if_neg e]at hz0 ⊢;rcases hw.old z hzl hz0 with h1|⟨h1,h2⟩
        ·exact .inl h1
        ·refine .inr ⟨h1,fun r' k hk=>?_⟩;obtain⟨j,hj1,hj2⟩:=h2 _ _ (hst r' k hk);exact⟨j,by omega,hj2⟩
      ·obtain⟨j,hj1,hj2⟩:=hw.fwd _ _ (hst r' k hk);exact⟨j,by omega,hj2⟩
      ·obtain⟨j,hj⟩:=hw.back _ _ hk
       cases hj with
       | top _ h2=>omega
       | up _ h2 h3=>
        have:=hy.symm.trans h2
        cases Int.ofNat.inj this
        exact⟨_,h3⟩
     have hzz:=zeros_set (x:=x) (v:=((f+1:Nat):Int)) (by rw[hw.len];exact hxl) hw0 (by omega);exact ih y _ (by omega) hW
    ·refine .inr ⟨false,w,An ?_,hw.len,⟨fun h=>(by cases h),fun _ k hk=>?_⟩⟩
     ·unfold Dk I6;simp only[hb,cond_true,Au,hb0,cond_false];rw[Ab hin,Ab (Fp hxl)]
      have:(bif decide ((0:Int)≤t.getD x 0) then decide (t.getD x 0<(t.length:Int)) else false)=false:=by
       cases h1:decide ((0:Int)≤t.getD x 0) with
       | false=>rfl
       | true=>rw[cond_true];exact decide_eq_false fun h2=>hpl ⟨of_decide_eq_true h1,h2⟩
      rw[this,Option.bind_some]
      rfl
     ·obtain⟨j,hj⟩:=hw.back _ _ hk
      cases hj with
      | top=>exact hxr rfl
      | up _ h2 h3=>have:=h3.lt;exact hpl ⟨by omega,by omega⟩
   ·have hb0:((w.getD x 0:Int)!=0)=true:=by rw[bne_iff_ne];exact hw0
    have hwf:w64 ((f:Int)+1)=((f+1:Nat):Int):=w1 (by omega);refine .inr ⟨w.getD x 0 !=((f+1:Nat):Int),w,An ?_,hw.len,⟨fun h=>?_,fun h k hk=>?_⟩⟩
    ·unfold Dk;simp only[hb,cond_true,Au,hb0];rw[Ab hin,Ab hin,hwf]
    ·rcases hw.old x hxl hw0 with⟨_,k,hk⟩|⟨h1,_⟩
     ·exact told k hk
     ·rw[h1]at h;simp at h
    ·have he:w.getD x 0=((f+1:Nat):Int):=by simpa using h
     obtain⟨j,hj⟩:=hw.back _ _ hk;rcases hw.old x hxl hw0 with⟨h1,_⟩|⟨_,h2⟩
     ·omega
     ·obtain⟨i,hi1,hi2⟩:=h2 _ _ hj;have:=hj.det hi2;omega
end
section
variable {t:List Int}
theorem m_leads(ht:t.length≤1000){r:Nat}(hr:r<t.length)(htop:t.getD r 0 = -1){f:Nat}(hf:f<t.length){w:List Int}(hw:Vg t r f w) :
  ∃ b w',Nn t w (f:Int) (r:Int)=some (b,w')∧w'.length=t.length∧(b=true→Vg t r (f+1) w'∧∃ k,Tp t f r k)∧(b=false→∀ k,¬ Tp t f r k):=by
 unfold Nn;have hW:Walk t r f f w:=⟨hw.len,hf,fun y hy h0=>.inl (hw.old y hy h0),fun r' k hk=>⟨k,Nat.le_refl _,hk⟩,fun r' k hk=>⟨k,hk⟩⟩;rcases leads_loop ht hr htop hf _ f w (Nat.le_refl _) hW with⟨w',e1,e2⟩|⟨b,w',e1,e2,e3,e4⟩
 ·exact⟨true,w',by rw[e1];rfl,e2.1.len,fun _=>e2,fun h=>by cases h⟩
 ·exact⟨b,w',by rw[e1];rfl,e2,e3,e4⟩
def AllUp(t:List Int)(r:Nat):Prop:=∀ f,f<t.length→t.getD f 0≠-2→∃ k,Tp t f r k
open Classical in
theorem isTree_loop(ht:t.length≤1000){r:Nat}(hr:r<t.length)(htop:t.getD r 0 = -1):∀(k f:Nat) (w:List Int),f+k=t.length→Vg t r f w→(∀ y,y<f→t.getD y 0≠-2→∃ k,Tp t y r k)→
  Ag (Fo t (r:Int)) ((f:Int),w)=some (if AllUp t r then .inl () else .inr false):=by
 intro k
 induction k with
 | zero=>
  intro f w hk hw hd
  obtain rfl:f=t.length:=by omega
  apply An
  unfold Fo;simp only[Gj,cond_false];rw[if_pos (show AllUp t r from hd)]
 | succ k ih=>
  intro f w hk hw hd
  have hf:f<t.length:=by omega
  by_cases h2:t.getD f 0 = -2
  ·have hb:((t.getD f 0:Int)!=(-2))=false:=by rw[h2];rfl
   have hs:Fo t (r:Int) ((f:Int),w)=some (.next (((f+1:Nat):Int),w)):=by
    unfold Fo;simp only[Dz hf,cond_true,Au,hb,show(false==true)=false from rfl,cond_false,Option.bind_some];rw[Ab (Fp hf),Ab (fun h=>by cases h),w1 (by omega)]
   rw[As hs];refine ih (f+1) w (by omega) ⟨hw.len,fun y hy h0=>?_⟩ fun y hy hy2=>?_
   ·obtain⟨e1,e2⟩:=hw.old y hy h0;exact⟨by omega,e2⟩
   ·by_cases e:y=f
    ·subst e;exact absurd h2 hy2
    ·exact hd y (by omega) hy2
  ·have hb:((t.getD f 0:Int)!=(-2))=true:=by rw[bne_iff_ne];exact h2
   obtain⟨b,w',e1,e2,e3,e4⟩:=m_leads ht hr htop hf hw
   cases b with
   | false=>
    rw[if_neg (fun hA:AllUp t r=>by obtain⟨k,hk⟩:=hA f hf h2;exact e4 rfl k hk)]
    apply An
    unfold Fo;simp only[Dz hf,cond_true,Au,hb,show(true==true)=true from rfl,e1,Option.bind_some];rw[Ab (Fp hf),Ab (fun _=>by rw[hw.len,e2])]
    rfl
   | true=>
    have hs:Fo t (r:Int) ((f:Int),w)=some (.next (((f+1:Nat):Int),w')):=by
     unfold Fo;simp only[Dz hf,cond_true,Au,hb,show(true==true)=true from rfl,e1,Option.bind_some];rw[Ab (Fp hf),Ab (fun _=>by rw[hw.len,e2]),w1 (by omega)]
     rfl
    rw[As hs];obtain⟨e5,e6⟩:=e3 rfl;refine ih (f+1) w' (by omega) e5 fun y hy hy2=>?_
    by_cases e:y=f
    ·subst e;exact e6
    ·exact hd y (by omega) hy2
theorem tops_one:topsK t t.length=1↔∃ r,r<t.length∧t.getD r 0 = -1∧∀ x,x<t.length→t.getD x 0 = -1→x=r:=by
 have key:∀ n,(topsK t n=0↔∀ x,x<n→t.getD x 0≠-1)∧(topsK t n=1↔∃ r,r<n∧t.getD r 0 = -1∧∀ x,x<n→t.getD x 0 = -1→x=r):=by
  intro n
  induction n with
  | zero=>exact⟨⟨fun _ x hx=>absurd hx (Nat.not_lt_zero _),fun _=>rfl⟩,⟨fun h=>by simp[topsK]at h,fun⟨r,h,_⟩=>absurd h (Nat.not_lt_zero _)⟩⟩
  | succ n ih=>
   rw[V7]
   by_cases e:t.getD n 0 = -1
   ·rw[if_pos e];refine⟨⟨fun h=>by omega,fun h=>absurd e (h n (by omega))⟩,⟨fun h=>⟨n,by omega,e,fun x hx hx1=>?_⟩,fun⟨r,h1,h2,h3⟩=>?_⟩⟩
    ·by_cases ex:x=n
     ·exact ex
     ·exact absurd hx1 (ih.1.1 (by omega) x (by omega))
    ·have:=ih.1.2 fun x hx hx1=>by
      have:=h3 x (by omega) hx1;have:=h3 n (by omega) e;omega
     omega
   ·rw[if_neg e,Nat.add_zero];refine⟨⟨fun h x hx=>?_,fun h=>ih.1.2 fun x hx=>h x (by omega)⟩,⟨fun h=>?_,fun⟨r,h1,h2,h3⟩=>?_⟩⟩
    ·by_cases ex:x=n
     ·subst ex;exact e
     ·exact ih.1.1 h x (by omega)
    ·obtain⟨r,h1,h2,h3⟩:=ih.2.1 h;refine⟨r,by omega,h2,fun x hx hx1=>?_⟩
     by_cases ex:x=n
     ·subst ex;exact absurd hx1 e
     ·exact h3 x (by omega) hx1
    ·refine ih.2.2 ⟨r,?_,h2,fun x hx hx1=>h3 x (by omega) hx1⟩
     by_cases ex:r=n
     ·subst ex;exact absurd h2 e
     ·omega
 exact(key _).2
theorem rightD_iff:Jp t=true↔∃ r,r<t.length∧t.getD r 0 = -1∧AllUp t r:=by
 unfold Jp;rw[Bool.and_eq_true,all_range,decide_eq_true_eq,tops_one]
 constructor
 ·rintro⟨h1,r,h2,h3,h4⟩;refine⟨r,h2,h3,fun f hf hf2=>?_⟩;have:=h1 f hf;unfold okR at this;rw[Bool.or_eq_true,decide_eq_true_eq,Bool.not_eq_true',decide_eq_false_iff_not]at this;rcases this with h|h
  ·exact absurd h hf2
  ·obtain⟨x,r',k,e,hk⟩:=pathD_tp.1 h
   cases Int.ofNat.inj e
   have:=h4 _ hk.tops.1 hk.tops.2;subst this;exact⟨k,hk⟩
 ·rintro⟨r,h2,h3,h4⟩;refine⟨fun f hf=>?_,r,h2,h3,fun x hx hx1=>?_⟩
  ·unfold okR;rw[Bool.or_eq_true,decide_eq_true_eq,Bool.not_eq_true',decide_eq_false_iff_not]
   by_cases e:t.getD f 0 = -2
   ·exact .inl e
   ·obtain⟨k,hk⟩:=h4 f hf e;exact .inr (pathD_tp.2 ⟨f,r,k,rfl,hk⟩)
  ·obtain⟨k,hk⟩:=h4 x hx (by omega);exact((hk.det (.top hx hx1)).1).symm
theorem rightD_at(hR:Jp t=true):∃ r,AllUp t r:=by obtain⟨r,_,_,h⟩:=rightD_iff.1 hR;exact⟨r,h⟩
theorem m_isTree(ht:t.length≤1000):Mn t=some (Jp t):=by
 unfold Mn
 have hroom:(1000:Nat)≤room:=by decide
 rcases m_index t (-1) ht with⟨r,h1,h2,h3,h4⟩|⟨h1,h2⟩
 ·rw[h4,Option.bind_some,show decide ((r:Int)<0)=false from decide_eq_false (by omega),cond_false,Ab ⟨by omega,by omega,by omega⟩,Au];have hl:=isTree_loop ht h1 h2 t.length 0 (List.replicate t.length 0) (by omega) ⟨by simp,fun y hy h0=>absurd Ox h0⟩ (fun y hy=>absurd hy (Nat.not_lt_zero _));rw[show(((0:Nat):Int))=0 from rfl]at hl;rw[hl,Option.bind_some]
  by_cases hA:AllUp t r
  ·rw[if_pos hA,rightD_iff.2 ⟨r,h1,h2,hA⟩]
  ·rw[if_neg hA]
   have:Jp t=false:=Bool.eq_false_iff.2 fun hR=>by
    obtain⟨r',g1,g2,g3⟩:=rightD_iff.1 hR;obtain⟨k,hk⟩:=g3 r h1 (by omega);have:=(hk.det (.top h1 h2)).1;subst this;exact hA g3
   rw[this]
 ·rw[h2,Option.bind_some]
  have:Jp t=false:=Bool.eq_false_iff.2 fun hR=>by
   obtain⟨r',g1,g2,g3⟩:=rightD_iff.1 hR;exact h1 r' g1 g2
  rw[this]
  rfl
def V1(t:List Int)(a:Int):Bool:=decide (0≤a)&&decide (a<(t.length:Int))&&decide (t.getD a.toNat 0≠-2)
theorem Aap(hR:Jp t=true){a:Int}:V1 t a=true↔∃ x k r:Nat,a=(x:Int)∧Tp t x r k:=by
 unfold V1;rw[Bool.and_eq_true,Bool.and_eq_true,decide_eq_true_eq,decide_eq_true_eq,decide_eq_true_eq]
 constructor
 ·rintro⟨⟨h1,h2⟩,h3⟩;obtain⟨r,hA⟩:=rightD_at hR;obtain⟨k,hk⟩:=hA a.toNat (by omega) h3;exact⟨a.toNat,k,r,(Int.toNat_of_nonneg h1).symm,hk⟩
 ·rintro⟨x,k,r,rfl,h⟩;have:=h.lt;refine⟨⟨by omega,by omega⟩,?_⟩;rw[Au]
  cases h with
  | top _ h2=>omega
  | up _ h2 _=>omega
theorem Aa2(a:Int):Ji t a=some (V1 t a):=by
 unfold Ji I6 V1;rw[Option.bind_some]
 cases h1:decide ((0:Int)≤a) with
 | false=>rfl
 | true=>
  rw[cond_true,Bool.true_and]
  cases h2:decide (a<(t.length:Int)) with
  | false=>rfl
  | true=>
   rw[Ab (fun _=>⟨of_decide_eq_true h1,of_decide_eq_true h2⟩),cond_true,Bool.true_and]
   congr 1
   rw[Bool.eq_iff_iff,bne_iff_ne,decide_eq_true_eq]
theorem m_areIn(ht:t.length≤1000)(a b:Int):Nm t a b=some (Jp t&&V1 t a&&V1 t b):=by
 unfold Nm;rw[m_isTree ht,Option.bind_some]
 cases Jp t with
 | false=>rfl
 | true=>
  simp only[show(true==true)=true from rfl,cond_true,Aa2,Option.bind_some,Bool.true_and]
  cases V1 t a with
  | false=>rfl
  | true=>simp only[show(true==true)=true from rfl,cond_true,Aa2,Option.bind_some,Bool.true_and]
theorem meetD_out{a b:Int}(h:(Jp t&&V1 t a&&V1 t b)=false):Mz t a b = -2:=by
 unfold Mz
 by_cases hR:Jp t=true
 ·rw[if_pos hR];rw[hR,Bool.true_and]at h
  have hno:∀ c,V1 t c=false→D0 t c=[]:=fun c hc=>by
   by_cases e:D0 t c=[]
   ·exact e
   ·obtain⟨x,r,k,e1,e2⟩:=pathD_tp.1 e;rw[(Aap hR).2 ⟨x,k,r,e1,e2⟩]at hc;cases hc
  cases ha:V1 t a with
  | false=>rw[hno a ha];rfl
  | true=>
   rw[ha,Bool.true_and]at h;rw[hno b h]
   have:((D0 t a).find? fun x=>([]:List Int).contains x)=none:=List.find?_eq_none.2 fun x _=>by simp
   rw[this]
   rfl
 ·rw[if_neg hR]
theorem meet_prog_doc(ht:t.length≤1000){a b:Int}(h:(Jp t&&V1 t a&&V1 t b)=true):Kq t a b=some (Mz t a b)∧0≤Mz t a b:=by
 rw[Bool.and_eq_true,Bool.and_eq_true]at h;obtain⟨⟨hR,ha⟩,hb⟩:=h;obtain⟨x,k,r,rfl,hx⟩:=(Aap hR).1 ha;obtain⟨y,m,r',rfl,hy⟩:=(Aap hR).1 hb;obtain⟨rr,hA⟩:=rightD_at hR
 have top:∀{x r k},Tp t x r k→r=rr:=fun{x r k} h=>by
  obtain⟨i,hi⟩:=hA r h.tops.1 (by rw[h.tops.2];omega);exact((Tp.top h.tops.1 h.tops.2).det hi).1
 obtain rfl:=top hx;obtain rfl:=top hy;obtain⟨c,h1,h2⟩:=Yl ht hx hy;obtain⟨d,h3,h4⟩:=meetD_at hR hx hy;have:=h2.same hx h4;subst this;exact⟨by rw[h1,h3],by omega⟩
theorem m_Over(ht:t.length≤1000)(a b:Int):On t a b=some (Vr t a b):=by
 unfold On Vr;rw[m_areIn ht,Option.bind_some]
 cases h:(Jp t&&V1 t a&&V1 t b) with
 | false=>
  rw[meetD_out h]
  have:((-2:Int)==a&&((-2:Int)!=-2))=false:=by simp
  rw[this]
  rfl
 | true=>
  obtain⟨h1,h2⟩:=meet_prog_doc ht h;simp only[show(true==true)=true from rfl,cond_true,h1,Option.bind_some]
  have:(Mz t a b !=-2)=true:=by rw[bne_iff_ne];omega
  rw[this,Bool.and_true]
end
theorem mul_fin:∀ n:Fin 65,L5 (Ho 1) (Ho ((n.val:Nat):Int))=some (0,((n.val:Nat):Int)):=by decide +kernel
theorem mul_small{n:Nat}(h:n≤64):L5 (Ho 1) (Ho (n:Int))=some (0,(n:Int)):=mul_fin ⟨n,by omega⟩
theorem repeat_loop{v:Int}{n:Nat}(hn:n≤64):∀(m i:Nat) (l:List Int),n-i≤m→1≤i→i≤n→l.length=n→(∀ j,j<i→l.getD j 0=v)→Ag Cl ((i:Int),l)=some (List.replicate n v):=by
 intro m
 induction m with
 | zero=>
  intro i l hm h1 h2 hl hv
  obtain rfl:i=n:=by omega
  exact fin l hl hv
 | succ m ih=>
  intro i l hm h1 h2 hl hv
  by_cases e:i=n
  ·subst e;exact fin l hl hv
  ·have hs:Cl ((i:Int),l)=some (.next (((i+Nat.min i (n-i):Nat):Int),cpL l i (Nat.min i (n-i)) (fun j=>l.getD (0+j) 0))):=by
    unfold Cl;simp only[hl,Dz (show i<n by omega),cond_true,Au,Nat.zero_add,Nat.sub_zero];have hc:(0:Int)≤(i:Int)∧i≤n:=⟨by omega,h2⟩;have hmn:Nat.min i (n-i)≤i:=Nat.min_le_left _ _;rw[Ab hc,Ab hc,I9 (by omega) (by omega),Int.natCast_add]
   rw[As hs];have hmn:Nat.min i (n-i)≤i∧Nat.min i (n-i)≤n-i:=⟨Nat.min_le_left _ _,Nat.min_le_right _ _⟩;have hge:1≤Nat.min i (n-i):=Nat.le_min.2 ⟨h1,by omega⟩;refine ih _ _ (by omega) (by omega) (by omega) (by rw[← Ia];exact hl) fun j hj=>?_;rw[Aah _ _ _ _ _ _ (by omega)]
   by_cases hji:i≤j∧j<i+Nat.min i (n-i)
   ·rw[if_pos hji,Nat.zero_add];exact hv _ (by omega)
   ·rw[if_neg hji];exact hv _ (by omega)
where
 fin {v:Int} {i:Nat} (l:List Int) (hl:l.length=i) (hv:∀ j,j<i→l.getD j 0=v):Ag Cl ((i:Int),l)=some (List.replicate i v):=by
  apply An
  unfold Cl;simp only[hl,Gj,cond_false]
  congr 2
  refine List.ext_getElem (by simp[hl]) fun j h1 h2=>?_;rw[← Ah _ _ 0 h1,hv j (by omega)]
  simp
theorem m_repeat{v:Int}{n:Nat}(h1:1≤n)(hn:n≤64):F9 [v] (n:Int)=some (List.replicate n v):=by
 have hroom:(64:Nat)≤room:=by decide
 unfold F9;rw[show decide ((n:Int)<0)=false from decide_eq_false (by omega),cond_false,Option.bind_some]
 show Option.bind (L5 (Ho 1) (Ho (n:Int))) _=_
 rw[mul_small hn,Option.bind_some];have e1:decide ((0:Int)<(0:Int))=false:=rfl;have e2:decide ((9223372036854775807:Int)<(n:Int))=false:=decide_eq_false (by omega);simp only[e1,e2,cond_false,Option.bind_some];have ew:w64 (n:Int)=(n:Int):=I9 (by omega) (by omega);rw[ew,Ab ⟨by omega,by omega,by omega⟩,Au,List.length_replicate,Nat.sub_zero];have em:Nat.min [v].length n=1:=Nat.min_eq_left h1;rw[em,repeat_loop hn n 1 _ (by omega) (Nat.le_refl _) h1 (by rw[← Ia];simp) (fun j hj=>?_)]
 ·rfl
 ·rw[Aah _ _ _ _ _ _ (by simp;omega),if_pos ⟨by omega,by omega⟩]
  have:j-0=0:=by omega
  rw[this];rfl
theorem meet_v2(t:List Int)(a b:Int):Lw t a b=(Kq t a b).map fun c=>(c,t):=by
 have e1:M5 t=Fk t:=rfl;have e2:M6 t=Fl t:=rfl;unfold Lw Kq;rw[e1,e2]
 by_cases hc:0≤(t.length:Int)∧(t.length:Int)≤(t.length:Int)∧(t.length:Int)≤(room:Int)
 ·rw[Ab hc,Ab hc]
  cases Ag (Fk t) (a,List.replicate ((t.length:Int)).toNat false) with
  | none=>rfl
  | some x=>
   rw[Option.bind_some,Option.bind_some]
   cases Ag (Fl t x) b with
   | none=>rfl
   | some y=>rfl
 ·have hf:∀{R:Type} (k:Option R),A9 (0≤(t.length:Int)∧(t.length:Int)≤(t.length:Int)∧(t.length:Int)≤(room:Int)) k=none:=fun k=>if_neg hc;rw[hf,hf]
  rfl
section
variable {S:Nat→List Nat} {r n:Nat} {P:List Nat}
theorem Inv.tp{at_:Nat→Nat}{t:List Int}(h:Inv S r n at_ (Bh t))(hl:t.length=n):∀ m x,at_ x≤m→x<n→Bh t x≠-2→∃ k,Tp t x r k:=by
 intro m
 induction m with
 | zero=>
  intro x hm hx hp;rcases h.kind x hx with h1|h1|⟨z,hz⟩
  ·exact absurd h1 hp
  ·subst h1;exact⟨0,.top (by omega) h.top⟩
  ·obtain⟨_,_,h3,_⟩:=h.up x hx z hz;omega
 | succ m ih=>
  intro x hm hx hp;rcases h.kind x hx with h1|h1|⟨z,hz⟩
  ·exact absurd h1 hp
  ·subst h1;exact⟨0,.top (by omega) h.top⟩
  ·obtain⟨z1,z2,z3,_⟩:=h.up x hx z hz;obtain⟨k,hk⟩:=ih z (by omega) z1 z2;exact⟨k+1,.up (by omega) hz hk⟩
def V8(t l:List Int)(i:Nat)(v:Int):Prop:=
 (v = -2∧∀ j,j<i→Bh t (l.getD j 0).toNat = -2) ∨
 ∃ z:Nat,v=(z:Int)∧z<t.length∧Bh t z≠-2∧(∀ w,UpTo (Bh t) z w↔∀ j,j<i→Bh t (l.getD j 0).toNat≠-2→UpTo (Bh t) (l.getD j 0).toNat w)
theorem meetAll_loop{at_:Nat→Nat}{t l:List Int}(ht:t.length≤64)(hll:l.length≤64)(h:Inv S r n at_ (Bh t))(hl:t.length=n)(hin:∀ x∈l,0≤x∧x<(n:Int)):∀(k i:Nat) (v:Int),i+k=l.length→V8 t l i v→
  ∃ v',Ag (Da l) (v,(i:Int),t)=some (v',t)∧V8 t l l.length v':=by
 intro k
 induction k with
 | zero=>
  intro i v hi hv
  obtain rfl:i=l.length:=by omega
  refine⟨v,An ?_,hv⟩;unfold Da;simp only[Gj,cond_false]
 | succ k ih=>
  intro i v hi hv
  have hil:i<l.length:=by omega
  obtain⟨x0,x1⟩:=hin _ (Aq (d:=0) hil);have hxe:(((l.getD i 0).toNat:Nat):Int)=l.getD i 0:=Int.toNat_of_nonneg x0;have hxin:Ba (l.getD i 0) t.length:=inbz x0 (by omega)
  have next:∀ v',Da l (v,(i:Int),t)=some (.next (v',((i+1:Nat):Int),t))→V8 t l (i+1) v'→∃ v',Ag (Da l) (v,(i:Int),t)=some (v',t)∧V8 t l l.length v':=fun v' hs hv'=>by
   rw[As hs];exact ih (i+1) v' (by omega) hv'
  by_cases hp:Bh t (l.getD i 0).toNat = -2
  ·have hb:((t.getD (l.getD i 0).toNat 0:Int)==-2)=true:=beq_iff_eq.2 hp;refine next v ?_ ?_
   ·unfold Da;simp only[Dz hil,cond_true,Au,hb];rw[Ab (Fp hil),Ab hxin,Option.bind_some,w1 (by omega)]
   ·have hstep:∀ w,(∀ j,j<i→Bh t (l.getD j 0).toNat≠-2→UpTo (Bh t) (l.getD j 0).toNat w)↔∀ j,j<i+1→Bh t (l.getD j 0).toNat≠-2→UpTo (Bh t) (l.getD j 0).toNat w:=fun w=>by
     refine⟨fun hj j hj1 hj2=>?_,fun hj j hj1=>hj j (by omega)⟩
     by_cases e:j=i
     ·subst e;exact absurd hp hj2
     ·exact hj j (by omega) hj2
    rcases hv with⟨h1,h2⟩|⟨z,h1,h2,h3,h4⟩
    ·refine .inl ⟨h1,fun j hj=>?_⟩
     by_cases e:j=i
     ·subst e;exact hp
     ·exact h2 j (by omega)
    ·exact .inr ⟨z,h1,h2,h3,fun w=>by rw[h4 w,hstep w]⟩
  ·have hb:((t.getD (l.getD i 0).toNat 0:Int)==-2)=false:=beq_eq_false_iff_ne.2 hp;rcases hv with⟨h1,h2⟩|⟨z,h1,h2,h3,h4⟩
   ·subst h1;refine next (l.getD i 0) ?_ (.inr ⟨(l.getD i 0).toNat,hxe.symm,by omega,hp,fun w=>⟨fun hw j hj hj2=>?_,fun hw=>hw i (by omega) hp⟩⟩)
    ·unfold Da;simp only[Dz hil,cond_true,Au,hb,cond_false,show((-2:Int)==-2)=true from rfl];rw[Ab (Fp hil),Ab hxin,Option.bind_some,w1 (by omega)]
    ·by_cases e:j=i
     ·subst e;exact hw
     ·exact absurd (h2 j (by omega)) hj2
   ·subst h1;have hb2:((z:Int)==-2)=false:=beq_eq_false_iff_ne.2 (by omega);obtain⟨k1,hk1⟩:=h.tp hl _ z (Nat.le_refl _) (by omega) h3;obtain⟨k2,hk2⟩:=h.tp hl _ (l.getD i 0).toNat (Nat.le_refl _) (by omega) hp;obtain⟨c,c1,c2⟩:=Yl (by omega) hk1 hk2;have hcz:=(c2 c).1 (.refl _);obtain⟨jc,_,hjc,_⟩:=hk1.on hcz.1
    have hcp:Bh t c≠-2:=by
     show t.getD c 0≠-2
     cases hjc with
     | top _ h=>omega
     | up _ h _=>omega
    refine next (c:Int) ?_ (.inr ⟨c,rfl,hjc.lt,hcp,fun w=>?_⟩)
    ·rw[hxe]at c1;unfold Da;simp only[Dz hil,cond_true,Au,hb,cond_false,hb2,meet_v2,c1,Option.map_some,Option.bind_some];rw[Ab (Fp hil),Ab hxin,Ab trivial,Option.bind_some,w1 (by omega)]
    ·rw[c2 w,h4 w];refine⟨fun⟨a1,a2⟩ j hj hj2=>?_,fun ha=>⟨fun j hj=>ha j (by omega),ha i (by omega) hp⟩⟩
     by_cases e:j=i
     ·subst e;exact a2
     ·exact a1 j (by omega) hj2
theorem m_meetAll{at_:Nat→Nat}{t l:List Int}(ht:t.length≤64)(hll:l.length≤64)(h:Inv S r n at_ (Bh t))(hl:t.length=n)(hin:∀ x∈l,0≤x∧x<(n:Int)) :
  ∃ v,G3 t l=some (v,t)∧V8 t l l.length v:=by
 obtain⟨v,h1,h2⟩:=meetAll_loop ht hll h hl hin l.length 0 (-2) (by omega) (.inl ⟨rfl,fun j hj=>absurd hj (Nat.not_lt_zero _)⟩);refine⟨v,?_,h2⟩;unfold G3;rw[show((0:Int))=((0:Nat):Int) from rfl,h1]
 rfl
end
section
variable {L:List (List Int)} (hm:Lp L=true) {r:Nat} {P:List Nat}
include hm
theorem sN_iff{p y:Nat}(hp:p<L.length):y∈sN L p↔Tk L p y=true:=by
 rw[goes_iff];obtain⟨_,_,h3⟩:=mayS_iff.1 hm
 constructor
 ·intro h;obtain⟨x,hx,rfl⟩:=List.mem_map.1 h;have:=okL_mem (h3 p hp) hx;rw[Int.toNat_of_nonneg this.1];exact hx
 ·intro h;exact List.mem_map.2 ⟨_,h,Au y⟩
theorem W6{y:Nat}(hy:y<L.length){x:Int}:x∈(Ec L).getD y []↔∃ p:Nat,x=(p:Int)∧p<L.length∧y∈sN L p:=by
 rw[predOf_at hy];unfold I7;rw[mem_filt]
 constructor
 ·rintro⟨k,h1,h2,h3⟩;exact⟨k,h1,h2,(sN_iff hm h2).2 h3⟩
 ·rintro⟨k,h1,h2,h3⟩;exact⟨k,h1,h2,(sN_iff hm h2).1 h3⟩
theorem meetAll_best(o:Ordered (sN L) r L.length P){t:List Int}{i:Nat}(h:Ready (sN L) r L.length P t i)(hi:i<P.length) :
  G3 t ((Ec L).getD (P.getD i 0) [])=some ((L4 (sN L) L.length t (P.getD i 0):Int),t):=by
 obtain⟨hL1,hL64,_⟩:=mayS_iff.1 hm;have hyn:P.getD i 0<L.length:=o.lt (List.mem_cons_of_mem _ (Ob hi))
 have hlen:((Ec L).getD (P.getD i 0) []).length≤64:=by
  rw[predOf_at hyn];have:=Rp L L.length (P.getD i 0);omega
 obtain⟨v,h1,h2⟩:=m_meetAll (by rw[h.len];exact hL64) hlen h.inv h.len fun x hx=>by
  obtain⟨p,rfl,hp,_⟩:=(W6 hm hyn).1 hx;omega
 rw[h1];have hb:=h.best o hi
 have mem:∀ p,p<L.length→P.getD i 0∈sN L p→∃ j,j<((Ec L).getD (P.getD i 0) []).length∧(((Ec L).getD (P.getD i 0) []).getD j 0).toNat=p:=fun p hp hy=>by
  obtain⟨j,hj,e⟩:=List.getElem_of_mem ((W6 hm hyn).2 ⟨p,rfl,hp,hy⟩);exact⟨j,hj,by rw[Ah _ _ _ hj,e,Au]⟩
 have mem':∀ j,j<((Ec L).getD (P.getD i 0) []).length→(((Ec L).getD (P.getD i 0) []).getD j 0).toNat<L.length∧P.getD i 0∈sN L (((Ec L).getD (P.getD i 0) []).getD j 0).toNat:=fun j hj=>by
  obtain⟨p,e,hp,hy⟩:=(W6 hm hyn).1 (Aq (d:=(0:Int)) hj);rw[e,Au];exact⟨hp,hy⟩
 rcases h2 with⟨rfl,h3⟩|⟨z,rfl,hz,hz2,h4⟩
 ·obtain⟨p,hp,hyp,hp2,_⟩:=hb.fwd;obtain⟨j,hj,e⟩:=mem p hp hyp;exact absurd (by rw[← e];exact h3 j hj) hp2
 ·have hbest:Best (sN L) L.length (Bh t) (P.getD i 0) z:=fun w=>by
   rw[h4 w];refine⟨fun ha p hp hyp hp2=>?_,fun ha j hj hj2=>?_⟩
   ·obtain⟨j,hj,e⟩:=mem p hp hyp;have:=ha j hj (by rw[e];exact hp2);rwa[e]at this
   ·obtain⟨q1,q2⟩:=mem' j hj;exact ha _ q1 q2 hj2
  rw[h.best_eq o hi (by rw[← h.len];exact hz) hz2 hbest]
end
theorem ofN_getD{P:List Nat}{i:Nat}(h:i<P.length):(Pr P).getD i 0=((P.getD i 0:Nat):Int):=by
 unfold Pr;rw[Ah _ _ _ (by simpa using h),Ah _ _ _ h,List.getElem_map]
 rfl
theorem set_same{t:List Int}{x:Nat}{v:Int}(hx:x<t.length)(h:t.getD x 0=v):t.set x v=t:=by
 subst h;rw[Ah _ _ _ hx];exact List.set_getElem_self hx
section
variable {L:List (List Int)} (hm:Lp L=true) {r:Nat} {P:List Nat} (o:Ordered (sN L) r L.length P)
include hm o
theorem round_loop{t0:List Int}(h:Ready (sN L) r L.length P t0 0):∀(k i:Nat) (b:Bool),i+k=P.length→
  ∃ b',Ag (Ex (Ij L) (Pr (r::P))) (b,(i:Int),S0 (sN L) L.length P t0 i)=some (b',S0 (sN L) L.length P t0 P.length) ∧
   (b'=false↔b=false∧∀ j,i≤j→j<P.length→Bh (S0 (sN L) L.length P t0 j) (P.getD j 0)=(L4 (sN L) L.length (S0 (sN L) L.length P t0 j) (P.getD j 0):Int)):=by
 have hP64:P.length≤64:=by
  have h1:=M7 L.length (r::P) o.nodup fun x hx=>o.lt hx;have h2:=(mayS_iff.1 hm).2.1;simp at h1;omega
 have hdl:(Pr (r::P)).drop (1:Int).toNat=Pr P:=rfl
 have hlen:(Pr P).length=P.length:=by simp[Pr]
 intro k
 induction k with
 | zero=>
  intro i b hi
  obtain rfl:i=P.length:=by omega
  refine⟨b,An ?_,fun h=>⟨h,fun j h1 h2=>by omega⟩,fun h=>h.1⟩;unfold Ex;simp only[hdl,hlen,Gj,cond_false]
 | succ k ih=>
  intro i b hi
  have hil:i<P.length:=by omega
  have rd:=h.round o i (by omega);have hma:=meetAll_best hm o rd hil;have hyn:P.getD i 0<L.length:=o.lt (List.mem_cons_of_mem _ (Ob hil))
  have hyt:P.getD i 0<(S0 (sN L) L.length P t0 i).length:=by rw[rd.len];exact hyn
  have hpred:(Ij L).Pred=Ec L:=rfl
  by_cases he:Bh (S0 (sN L) L.length P t0 i) (P.getD i 0)=(L4 (sN L) L.length (S0 (sN L) L.length P t0 i) (P.getD i 0):Int)
  ·have hb:((L4 (sN L) L.length (S0 (sN L) L.length P t0 i) (P.getD i 0):Int)!=(S0 (sN L) L.length P t0 i).getD (P.getD i 0) 0)=false:=by
    have:(S0 (sN L) L.length P t0 i).getD (P.getD i 0) 0=_:=he;rw[this];simp
   have hnx:S0 (sN L) L.length P t0 (i+1)=S0 (sN L) L.length P t0 i:=set_same hyt he
   have hs:Ex (Ij L) (Pr (r::P)) (b,(i:Int),S0 (sN L) L.length P t0 i)=some (.next (b,((i+1:Nat):Int),S0 (sN L) L.length P t0 (i+1))):=by
    unfold Ex;simp only[hdl,hlen,Dz hil,cond_true,Au,ofN_getD hil,hpred,hma,Option.bind_some,hb,cond_false];rw[Ab (Fp hil),Ab (Fp (by rw[M9];exact hyn)),Ab trivial,Ab (Fp hyt),Option.bind_some,w1 (by omega),hnx]
   obtain⟨b',e1,e2⟩:=ih (i+1) b (by omega);refine⟨b',by rw[As hs,e1],fun h=>?_,fun⟨h1,h2⟩=>e2.2 ⟨h1,fun j hj=>h2 j (by omega)⟩⟩;obtain⟨h1,h2⟩:=e2.1 h;refine⟨h1,fun j hj1 hj2=>?_⟩
   by_cases e:j=i
   ·subst e;exact he
   ·exact h2 j (by omega) hj2
  ·have hb:((L4 (sN L) L.length (S0 (sN L) L.length P t0 i) (P.getD i 0):Int)!=(S0 (sN L) L.length P t0 i).getD (P.getD i 0) 0)=true:=by
    rw[bne_iff_ne];exact fun e=>he e.symm
   have hs:Ex (Ij L) (Pr (r::P)) (b,(i:Int),S0 (sN L) L.length P t0 i)=some (.next (true,((i+1:Nat):Int),S0 (sN L) L.length P t0 (i+1))):=by
    unfold Ex;simp only[hdl,hlen,Dz hil,cond_true,Au,ofN_getD hil,hpred,hma,Option.bind_some,hb];rw[Ab (Fp hil),Ab (Fp (by rw[M9];exact hyn)),Ab trivial,Ab (Fp hyt),Ab (Fp hyt),Option.bind_some,w1 (by omega)]
    rfl
   obtain⟨b',e1,e2⟩:=ih (i+1) true (by omega);refine⟨b',by rw[As hs,e1],fun h=>?_,fun⟨h1,h2⟩=>absurd (h2 i (Nat.le_refl _) hil) he⟩;obtain⟨h1,_⟩:=e2.1 h;cases h1
theorem round_all{t0:List Int}(h:Ready (sN L) r L.length P t0 0):∃ b,Ag (Ex (Ij L) (Pr (r::P))) (false,(0:Int),t0)=some (b,S0 (sN L) L.length P t0 P.length)∧(b=false↔R0 (sN L) L.length P t0):=by
 obtain⟨b,e1,e2⟩:=round_loop hm o h P.length 0 false (by omega);refine⟨b,e1,e2.trans ⟨fun⟨_,h2⟩=>?_,fun hs=>⟨rfl,fun j _ hj=>?_⟩⟩⟩
 ·have key:∀ j,j≤P.length→S0 (sN L) L.length P t0 j=t0:=by
   intro j
   induction j with
   | zero=>intro _;rfl
   | succ j ih=>
    intro hj;have ih':=ih (by omega);have rd:=h.round o j (by omega)
    have hyn:P.getD j 0<(S0 (sN L) L.length P t0 j).length:=by rw[rd.len];exact o.lt (List.mem_cons_of_mem _ (Ob (by omega)))
    have:S0 (sN L) L.length P t0 (j+1)=S0 (sN L) L.length P t0 j:=set_same hyn (h2 j (Nat.zero_le _) (by omega));rw[this,ih']
  intro i hi;have:=h2 i (Nat.zero_le _) hi;rwa[key i (by omega)]at this
 ·rw[Ug o h.len hs j (by omega)];exact hs j hj
open Classical in
theorem tree_F3(j:Nat):Gc (Ij L) (Pr (r::P),Zs (sN L) L.length P (G8 L.length r) j)=some (if R0 (sN L) L.length P (Zs (sN L) L.length P (G8 L.length r) j) then .done (Zs (sN L) L.length P (G8 L.length r) (j+1)) else .next (Pr (r::P),Zs (sN L) L.length P (G8 L.length r) (j+1))):=by
 obtain⟨b,e1,e2⟩:=round_all hm o (Ready.rounds o j);have hL2:Nf (Ij L) (Pr (r::P))=Ex (Ij L) (Pr (r::P)):=rfl
 have hlen:(0:Int)≤1∧(1:Int)≤((Pr (r::P)).length:Int):=by simp[Pr];omega
 unfold Gc;simp only[hL2,e1,Option.bind_some];rw[Ab hlen]
 cases b with
 | false=>rw[if_pos (e2.1 rfl)];rfl
 | true=>rw[if_neg (fun h=>by have:=e2.2 h;cases this)];rfl
theorem tree_rounds:∃ J,R0 (sN L) L.length P (Zs (sN L) L.length P (G8 L.length r) J)∧Ag (Gc (Ij L)) (Pr (r::P),G8 L.length r)=some (Zs (sN L) L.length P (G8 L.length r) J):=by
 obtain⟨J,h1,h2⟩:=stops o;refine⟨J,h2,?_⟩
 have key:∀ d j,j+d=J→Ag (Gc (Ij L)) (Pr (r::P),Zs (sN L) L.length P (G8 L.length r) j)=some (Zs (sN L) L.length P (G8 L.length r) J):=by
  intro d
  induction d with
  | zero=>
   intro j hj
   obtain rfl:j=J:=by omega
   have hF:=tree_F3 hm o j;rw[if_pos h2]at hF;rw[An hF];have:Zs (sN L) L.length P (G8 L.length r) (j+1)=Zs (sN L) L.length P (G8 L.length r) j:=Ug o (Ready.rounds o j).len h2 P.length (Nat.le_refl _);rw[this]
  | succ d ih=>
   intro j hj;have hF:=tree_F3 hm o j;rw[if_neg (h1 j (by omega))]at hF;rw[As hF];exact ih (j+1) (by omega)
 exact key J 0 (by omega)
end
theorem m_Tree(g:TGraph)(r:Int)(h1:Fits g.Succ)(h2:Fits g.Pred):M4 g r=some (treeG g r):=by
 unfold treeG
 by_cases hc:Vd g=true∧0≤r∧r<(g.Succ.length:Int)
 ·rw[if_pos hc];obtain⟨hG,h0,hlt⟩:=hc;obtain⟨hm,hg⟩:=mayG_eq hG;obtain⟨hL1,hL64,_⟩:=mayS_iff.1 hm
  have hr:r.toNat<g.Succ.length:=by omega
  have hrn:((r.toNat:Nat):Int)=r:=Int.toNat_of_nonneg h0;obtain⟨O,hO⟩:=Ord.exist (Sf hm) hr;have hord:=(m_order g h1 trivial r).1 hG h0 hlt O hO;obtain⟨P,rfl,o⟩:=hO.ordered hr (Sf hm);obtain⟨J,hJ,hl⟩:=tree_rounds hm o;have ht:=(Yy o hJ).eq hm hr o;rw[ht]at hl;have hlen:(((Pr (r.toNat::P)).length:Int)==0)=false:=beq_eq_false_iff_ne.2 (by simp[Pr];omega)
  have hlen2:(0:Int)≤1∧(1:Int)≤((Pr (r.toNat::P)).length:Int):=by simp[Pr];omega
  have hL2:Nf g (Pr (r.toNat::P))=Ex g (Pr (r.toNat::P)):=rfl
  have hst:(Pz (Gc g (Pr (r.toNat::P),G8 g.Succ.length r.toNat)) (Gc g))=some (Uh g.Succ r.toNat):=by
   rw[Yx,hg];exact hl
  unfold M4;rw[hord,Option.bind_some,hlen,cond_false,m_repeat hL1 hL64,Option.bind_some,Ab (inbz h0 (by simpa using hlt)),Ab hlen2]
  have:(Gc g (Pr (r.toNat::P),G8 g.Succ.length r.toNat))=(Ag (Ex g (Pr (r.toNat::P))) (false,0,(List.replicate g.Succ.length (-2:Int)).set r.toNat (-1))).bind (fun x22=>(match x22 with|(b10,l11)=>(bif b10 then(some (.next (Pr (r.toNat::P),l11))) else(some (.done l11))))):=by
   unfold Gc G8;simp only[hL2];rw[Ab hlen2]
  rw[this]at hst;refine Eq.trans ?_ (congrArg (fun x:Option (List Int)=>x.bind fun x42=>some x42) hst)
  rfl
 ·rw[if_neg hc];unfold M4
  have:(Vd g&&(decide (0≤r)&&decide (r<(g.Succ.length:Int))))=false:=by
   rw[Bool.eq_false_iff];intro h;rw[Bool.and_eq_true,Bool.and_eq_true,decide_eq_true_eq,decide_eq_true_eq]at h;exact hc h
  rw[(m_order g h1 trivial r).2 this,Option.bind_some]
  rfl
theorem allR{α:Type}(l:List α)(d:α)(p:α→Bool){X:Type}(f:Int→Option (LR Int X))(yes no:X)(hl:l.length<9223372036854775808)(hk:∀ i:Nat,i<l.length→f i=some (bif p (l.getD i d) then .next (w64 ((i:Int)+1)) else .done no))
  (he:f l.length=some (.done yes)):Ag f (0:Int)=some (bif l.all p then yes else no):=by
 have:=Gn l d p f yes no (fun i hi hp=>by rw[hk i hi,hp,cond_true,A1 hi hl]) (fun i hi hp=>by rw[hk i hi,hp,cond_false]) he l.length 0 (by omega);rwa[List.drop_zero]at this
theorem c_told(f:TFunc)(hf:InF f)(l:Int)(t:List Int)(u:List Ao):Ha f l t u=some (bif Qa f then 0 else 4,f,l,t,u):=by
 unfold Ha Jg;rw[xmay f hf,Option.bind_some]
 cases Qa f<;>rfl
theorem c_phisFit(phis:List Ey)(l:List Int)(h1:phis.length<9223372036854775808)(h2:l.length<4611686018427387904):J3 phis l=some (phis.all (Gz l)):=by
 unfold J3
 rw[allR phis (default:Ey) (Gz l) (Ig phis l) (.inl ()) (.inr false) h1 (fun i hi=>by
  unfold Ig
  have hd:decide ((i:Int)<(phis.length:Int))=true:=by simpa using hi
  simp only[hd,cond_true,Ae (Am hi),Int.toNat_natCast,m_equal _ _ h2,Option.bind_some,Gz]
  cases decide ((phis.getD i default).From=l) with
  | false=>rfl
  | true=>
   simp only[Bool.not_true,cond_false,Bool.true_and,bne]
   cases(((phis.getD i default).Args.length:Int)==(l.length:Int))<;>rfl) (by unfold Ig;simp),Option.bind_some]
 cases phis.all (Gz l)<;>rfl
def argF(e:Hn):Bool:=!((e.Kind==1 || e.Kind==3)&&(e.Arg !=0))
theorem c_argFits{n:Nat}(e:Hn)(hk:Lu e n=true):Ip e=some (argF e):=by
 have h4:0≤e.Kind∧e.Kind≤3:=by
  have:=(Bool.and_eq_true _ _▸hk:Wp e=true∧toB n e.To=true).1;unfold Wp at this;simp only[Bool.and_eq_true,decide_eq_true_eq]at this;omega
 unfold Ip argF
 have:e.Kind=0∨e.Kind=1∨e.Kind=2∨e.Kind=3:=by omega
 rcases this with h|h|h|h<;>rw[h]<;>cases hb:(e.Arg==0)<;>simp[hb,bne]
theorem order_full{L:List (List Int)}(hm:Lp L=true){P:List Nat}(h0:0<L.length)(o:Ord (sN L) 0 P):decide (P.length<L.length) = !(List.range L.length).all fun i=>(Lh L).getD i false:=by
 have hin:∀ x∈P,x<L.length:=fun x hx=>(by obtain⟨Q,rfl,oo⟩:=o.ordered h0 (Sf hm);exact oo.lt hx)
 have hr:∀ z,(Lh L).getD z false=true↔z∈P:=fun z=>by
  rw[o.mem z];exact W8 (Sf hm) h0 z
 have hle:=M7 L.length P o.nodup hin
 cases ha:(List.range L.length).all fun i=>(Lh L).getD i false with
 | true=>
  have:=((List.perm_ext_iff_of_nodup o.nodup List.nodup_range).2 fun i=>⟨fun h=>List.mem_range.2 (hin i h),fun h=>(hr i).1 (List.all_eq_true.1 ha i h)⟩:P.Perm (List.range L.length)).length_eq;rw[List.length_range]at this
  simp;omega
 | false=>
  obtain⟨i,hi,hni⟩:∃ i,i<L.length∧i∉P:=Classical.byContradiction fun hc=>by
   have:(List.range L.length).all (fun i=>(Lh L).getD i false)=true:=List.all_eq_true.2 fun i hi=>(hr i).2 (Classical.byContradiction fun hn=>hc ⟨i,by simpa using hi,hn⟩);rw[this]at ha;cases ha
  have:(i::P).length≤L.length:=M7 L.length (i::P) (List.nodup_cons.2 ⟨hni,o.nodup⟩) (fun x hx=>by rcases List.mem_cons.1 hx with rfl|hx;exact hi;exact hin x hx);simp at this ⊢;omega
theorem c_shaped {f : TFunc} (hf : OkF f) (l : Int) (t : List Int) (u : List Ao) : ∃ t', Gg f l t u = some (bif Hv f then 0 else 5, f, l, t', u) ∧ (Hv f = true → t' = Cw f) := by
  have hmax : f.Blocks.length ≤ maxLen := by have := hf.blocks; have : (64 : Nat) ≤ maxLen := by decide
                                             omega
  unfold Gg; rw [m_of f hmax, Option.bind_some]
  cases hs : Lq f with
  | false => exact ⟨t, by unfold Hv; rw [hs]; rfl, fun h => by unfold Hv at h; rw [hs] at h; cases h⟩
  | true =>
    have hm := Nt hs; have hlen := T8 f
    have hpos : 0 < (Ci f).length := by have := (shape_iff.1 hs).1.1; omega
    obtain ⟨h1, h2⟩ := Wn hm; obtain ⟨P, hP⟩ := Ord.exist (Sf hm) hpos; have ho := (m_order (Ij (Ci f)) h1 trivial 0).1 (mayG_gOf hm) (by omega) (by show (0 : Int) < ((Ci f).length : Int); omega) P hP; have hfull := order_full hm hpos hP; simp only [cond_true, show (((0 : Int) != 0) == false) = true from rfl, show ((0 : Int) != 0) = false from rfl, cond_false, ho, Option.bind_some, show (false == false) = true from rfl]
    have e1 : decide (((Pr P).length : Int) < (f.Blocks.length : Int)) = decide (P.length < (Ci f).length) := by
      rw [hlen]; apply decide_eq_decide.2; simp [Pr]
    rw [e1, hfull]
    have hsd : Hv f = (((List.range f.Blocks.length).all fun i => (Lh (Ci f)).getD i false) && (List.range f.Blocks.length).all fun i => argF (f.Blocks.getD i default).End && (f.Blocks.getD i default).Phis.all (Gz ((Ec (Ci f)).getD i []))) := by
      unfold Hv; rw [hs, Bool.true_and]
      have : ∀ (n : Nat) (p q : Nat → Bool), ((List.range n).all fun i => p i && q i) = ((List.range n).all p && (List.range n).all q) := fun n p q => by
        rw [Bool.eq_iff_iff, Bool.and_eq_true, List.all_eq_true, List.all_eq_true, List.all_eq_true]
        constructor
        · intro h; exact ⟨fun x hx => ((Bool.and_eq_true _ _).mp (h x hx)).1, fun x hx => ((Bool.and_eq_true _ _).mp (h x hx)).2⟩
        · intro h x hx; rw [Bool.and_eq_true]; exact ⟨h.1 x hx, h.2 x hx⟩
      rw [← this]
      congr 1
      funext i
      show (_ && _ && _) = _
      rw [Bool.and_assoc]
      rfl
    rw [hlen]; rw [hsd]
    cases hr : (List.range f.Blocks.length).all fun i => (Lh (Ci f)).getD i false with
    | false => exact ⟨t, rfl, fun h => by cases h⟩
    | true =>
      refine ⟨Cw f, ?_, fun _ => rfl⟩; rw [Bool.not_true, cond_false, m_Tree _ 0 h1 h2, Option.bind_some, Bool.true_and]; have hp := Rq hm
      have hpl : (Ij (Ci f)).Pred.length = f.Blocks.length := by rw [← hlen]; exact M9 _
      have key : Ag (Cv f l u (Ij (Ci f), 0) (Cw f)) (0 : Int) = some (bif (List.range f.Blocks.length).all (fun i => argF (f.Blocks.getD i default).End && (f.Blocks.getD i default).Phis.all (Gz ((Ec (Ci f)).getD i []))) then .inl () else .inr ((5 : Int), f, l, Cw f, u)) := by
        have hk : ∀ i : Nat, i < f.Blocks.length → Cv f l u (Ij (Ci f), 0) (Cw f) (i : Int) = some (bif (argF (f.Blocks.getD i default).End && (f.Blocks.getD i default).Phis.all (Gz ((Ec (Ci f)).getD i []))) then .next ((i : Int) + 1) else .done (.inr ((5 : Int), f, l, Cw f, u))) := fun i hi => by
          have hB := hf.block _ (Aq (d := (default : Ad)) hi); have hpi : Ba (i : Int) (Ij (Ci f)).Pred.length := Am (by omega); have hpg : ((Ij (Ci f)).Pred.getD i []).length ≤ 64 := hp.2 _ (Aq (by rw [M9]; omega)); unfold Cv
          have hd : decide ((i : Int) < (f.Blocks.length : Int)) = true := by simpa using hi
          simp only [hd, cond_true, Ae (Am hi), Ae hpi, Int.toNat_natCast, c_phisFit (f.Blocks.getD i default).Phis ((Ij (Ci f)).Pred.getD i []) (by have := hB.phis; omega) (by omega), Option.bind_some]; have ha : Ip (⟨(f.Blocks.getD i default).End.Kind, (f.Blocks.getD i default).End.Arg, (f.Blocks.getD i default).End.To⟩ : Hn) = some (argF (f.Blocks.getD i default).End) := c_argFits (n := f.Blocks.length) (f.Blocks.getD i default).End ((shape_iff.1 hs).2 i hi); rw [ha, A1 hi (by have := hf.blocks; omega)]
          show _ = some (bif (argF (f.Blocks.getD i default).End && (f.Blocks.getD i default).Phis.all (Gz ((Ij (Ci f)).Pred.getD i []))) then _ else _)
          cases (f.Blocks.getD i default).Phis.all (Gz ((Ij (Ci f)).Pred.getD i [])) <;> cases argF (f.Blocks.getD i default).End <;> rfl
        exact Ut _ _ _ _ _ (fun i hi hp => by rw [hk i hi, hp]; rfl) (fun i hi hp => by rw [hk i hi, hp]; rfl) (by unfold Cv; simp)
      show ((Ag (Cv f l u (Ij (Ci f), 0) (Cw f)) (0 : Int)).bind _) = _
      rw [key, Option.bind_some]
      cases (List.range f.Blocks.length).all (fun i => argF (f.Blocks.getD i default).End && (f.Blocks.getD i default).Phis.all (Gz ((Ec (Ci f)).getD i []))) <;> rfl
theorem c_isOf(o:Dv)(l:Int)(h0:0≤l)(h2:l≤2)(hk:Iv o=true):Mm o l=some (!decide (Wr l<o.Kind)&&!(decide (l<2)&&decide (1<o.Lanes))):=by
 have hl:=lanes_of hk
 have hK:o.Kind≤22:=by
  simp only[Iv,Bool.and_eq_true]at hk;have:=hk.1.2.1.1.1;unfold isK at this;simp only[Bool.and_eq_true,decide_eq_true_eq]at this;omega
 unfold Mm Wr
 have:l=0∨l=1∨l=2:=by omega
 rcases this with rfl|rfl|rfl
 ·have ha:decide (o.Kind≤17) = !decide (17<o.Kind):=by rw[Bool.eq_iff_iff];simp
  have hb:(o.Lanes==1) = !decide (1<o.Lanes):=by rw[Bool.eq_iff_iff];simp;omega
  show some (bif decide (o.Kind≤17) then(o.Lanes==1) else false)=some (!decide (17<o.Kind)&&!(true&&decide (1<o.Lanes)))
  rw[ha,hb]
  cases decide (17<o.Kind)<;>cases decide (1<o.Lanes)<;>rfl
 ·have ha:decide (o.Kind≤20) = !decide (20<o.Kind):=by rw[Bool.eq_iff_iff];simp
  have hb:(o.Lanes==1) = !decide (1<o.Lanes):=by rw[Bool.eq_iff_iff];simp;omega
  show some (bif decide (o.Kind≤20) then(o.Lanes==1) else false)=some (!decide (20<o.Kind)&&!(true&&decide (1<o.Lanes)))
  rw[ha,hb]
  cases decide (20<o.Kind)<;>cases decide (1<o.Lanes)<;>rfl
 ·show some true=some (!decide (22<o.Kind)&&!(false&&decide (1<o.Lanes)))
  rw[decide_eq_false (by omega)]
  rfl
theorem c_opTyped(o:Dv)(ho:OpOk o)(f:TFunc)(l:Int)(h0:0≤l)(h2:l≤2)(t:List Int)(u:List Ao):Fz o f l t u=some (Lg l o,f,l,t,u):=by
 unfold Fz Lg;rw[Aau o ho,Option.bind_some]
 cases hk:Iv o with
 | false=>rfl
 | true=>
  rw[show(true==true)=true from rfl,cond_true,c_isOf o l h0 h2 hk,Option.bind_some,cond_true,Bool.true_and]
theorem c_allOp(b:Ad){f:TFunc}(hf:OkF f)(hb:b∈f.Blocks)(l:Int)(h0:0≤l)(h2:l≤2)(t:List Int)(u:List Ao):Id b.Ops f l t u=some (b.Ops.all (Lg l),f,l,t,u):=by
 have hB:=hf.block b hb
 have key:∀ k i:Nat,i+k=b.Ops.length→Ag (Fe b.Ops) ((i:Int),f.Params,f.Ret,f.Blocks,l,t,u)=some (bif (b.Ops.drop i).all (Lg l) then .inl (f.Params,f.Ret,f.Blocks,l,t,u) else .inr (false,f,l,t,u)):=by
  intro k
  induction k with
  | zero=>
   intro i h
   obtain rfl:i=b.Ops.length:=by omega
   rw[An (x:=.inl (f.Params,f.Ret,f.Blocks,l,t,u)) (by unfold Fe;simp)]
   simp
  | succ k ih=>
   intro i h
   have hi:i<b.Ops.length:=by omega
   have hd:decide ((i:Int)<(b.Ops.length:Int))=true:=by simpa using hi
   have hdr:b.Ops.drop i=b.Ops.getD i default::b.Ops.drop (i+1):=by rw[List.drop_eq_getElem_cons hi,Ah _ _ _ hi]
   have hx:=c_opTyped (b.Ops.getD i default) (opOk hf hb (Aq hi)) f l h0 h2 t u;rw[hdr,List.all_cons]
   cases ho:Lg l (b.Ops.getD i default) with
   | true=>
    rw[ho]at hx
    rw[As (s':=(((i+1:Nat):Int),f.Params,f.Ret,f.Blocks,l,t,u)) (by
     unfold Fe;simp only[hd,cond_true,Ae (Am hi),Int.toNat_natCast,hx,Option.bind_some,Bool.not_true,cond_false,A1 hi (by have:=hB.ops;omega)]
     rfl),ih (i+1) (by omega),Bool.true_and]
   | false=>
    rw[ho]at hx
    rw[An (x:=.inr (false,f,l,t,u)) (by
     unfold Fe
     simp only[hd,cond_true,Ae (Am hi),Int.toNat_natCast,hx,Option.bind_some,Bool.not_false])]
    rfl
 unfold Id;rw[show(0:Int)=((0:Nat):Int) from rfl,key b.Ops.length 0 (by omega),List.drop_zero,Option.bind_some]
 cases b.Ops.all (Lg l)<;>rfl
theorem c_allPhi(b:Ad)(h:b.Phis.length<9223372036854775808):Hw b.Phis=some (b.Phis.all fun p=>widthB p.Bits):=by
 unfold Hw
 rw[allR b.Phis (default:Ey) (fun p=>widthB p.Bits) (Gf b.Phis) (.inl ()) (.inr false) h (fun i hi=>by
  unfold Gf K7
  have hd:decide ((i:Int)<(b.Phis.length:Int))=true:=by simpa using hi
  simp only[hd,cond_true,Ae (Am hi),Int.toNat_natCast,Qk,Option.bind_some]
  cases widthB (b.Phis.getD i default).Bits<;>rfl) (by unfold Gf;simp),Option.bind_some]
 cases b.Phis.all fun p=>widthB p.Bits<;>rfl
theorem c_allInt(p:List Int)(h:p.length<9223372036854775808):J2 p=some (p.all widthB):=by
 unfold J2
 rw[allR p (0:Int) widthB (Ie p) (.inl ()) (.inr false) h (fun i hi=>by
  unfold Ie
  have hd:decide ((i:Int)<(p.length:Int))=true:=by simpa using hi
  simp only[hd,cond_true,Ae (Am hi),Int.toNat_natCast,Qk,Option.bind_some]
  cases widthB (p.getD i 0)<;>rfl) (by unfold Ie;simp),Option.bind_some]
 cases p.all widthB<;>rfl
theorem c_blockTyped(b:Ad){f:TFunc}(hf:OkF f)(hb:b∈f.Blocks)(l:Int)(h0:0≤l)(h2:l≤2)(t:List Int)(u:List Ao):En b f l t u=some (G1 l b,f,l,t,u):=by
 unfold En G1;rw[c_allPhi b (by have:=(hf.block b hb).phis;omega),Option.bind_some,c_allOp b hf hb l h0 h2 t u]
 cases(b.Phis.all fun p=>widthB p.Bits)<;>rfl
theorem c_typed{f:TFunc}(hf:OkF f)(l:Int)(h0:0≤l)(h2:l≤2)(t:List Int)(u:List Ao):Gq f l t u=some (bif N0 f l then 0 else 6,f,l,t,u):=by
 have key:∀ k i:Nat,i+k=f.Blocks.length→Ag (D2 f.Blocks) ((i:Int),f.Params,f.Ret,f.Blocks,l,t,u)=some (bif (f.Blocks.drop i).all (G1 l) then .inl (f.Params,f.Ret,f.Blocks,l,t,u) else .inr (false,f,l,t,u)):=by
  intro k
  induction k with
  | zero=>
   intro i h
   obtain rfl:i=f.Blocks.length:=by omega
   rw[An (x:=.inl (f.Params,f.Ret,f.Blocks,l,t,u)) (by unfold D2;simp)]
   simp
  | succ k ih=>
   intro i h
   have hi:i<f.Blocks.length:=by omega
   have hd:decide ((i:Int)<(f.Blocks.length:Int))=true:=by simpa using hi
   have hdr:f.Blocks.drop i=f.Blocks.getD i default::f.Blocks.drop (i+1):=by rw[List.drop_eq_getElem_cons hi,Ah _ _ _ hi]
   have hx:=c_blockTyped (f.Blocks.getD i default) hf (Aq hi) l h0 h2 t u;rw[hdr,List.all_cons]
   cases ho:G1 l (f.Blocks.getD i default) with
   | true=>
    rw[ho]at hx
    rw[As (s':=(((i+1:Nat):Int),f.Params,f.Ret,f.Blocks,l,t,u)) (by
     unfold D2;simp only[hd,cond_true,Ae (Am hi),Int.toNat_natCast,hx,Option.bind_some,Bool.not_true,cond_false,A1 hi (by have:=hf.blocks;omega)]
     rfl),ih (i+1) (by omega),Bool.true_and]
   | false=>
    rw[ho]at hx
    rw[An (x:=.inr (false,f,l,t,u)) (by
     unfold D2
     simp only[hd,cond_true,Ae (Am hi),Int.toNat_natCast,hx,Option.bind_some,Bool.not_false])]
    rfl
 have hall:Gp f.Blocks f l t u=some (f.Blocks.all (G1 l),f,l,t,u):=by
  unfold Gp;rw[show(0:Int)=((0:Nat):Int) from rfl,key f.Blocks.length 0 (by omega),List.drop_zero,Option.bind_some]
  cases f.Blocks.all (G1 l)<;>rfl
 unfold Gq N0 Jg;rw[c_allInt _ (by have:=hf.few;omega),Option.bind_some,hall,Qk]
 cases f.Params.all widthB<;>cases widthB f.Ret<;>cases f.Blocks.all (G1 l)<;>rfl
def atD(d:Bi):H1:=bif decide (d.Block<0) then⟨0,-1⟩ else⟨d.Block,d.At⟩
def Zf(d:Bi):Ai:=⟨d.Shape,atD d⟩
def dv(l:List Bi):List (Int×Ai):=l.map fun d=>(d.V,Zf d)
def badD(acc:List (Int×Ai))(v:Int):Bool:=(Fn acc v || decide (v<1)) || decide (1023<v)
def Il:List (Int×Ai)→List Bi→Bool×List (Int×Ai)
 | acc,[]=>(true,acc)
 | acc,d::ds=>bif badD acc d.V then(false,acc) else Il (Kc acc d.V (Zf d)) ds
theorem Xl:∀(a b:List Bi) (acc:List (Int×Ai)),Il acc (a++b)=bif (Il acc a).1 then Il (Il acc a).2 b else Il acc a
 | [],b,acc=>rfl
 | d::a,b,acc=>by
  rw[List.cons_append];simp only[Il]
  cases badD acc d.V with
  | true=>rfl
  | false=>simp only[cond_false];exact Xl a b _
theorem Tt{V:Type}(k:Int):∀ l:List (Int×V),Fn l k=l.any fun q=>k==q.1
 | []=>rfl
 | (a,b)::l=>by rw[List.any_cons,← Tt k l];rfl
theorem Ww{V:Type}(k:Int)(v:V):∀{l:List (Int×V)},Fn l k=false→Kc l k v=l++[(k,v)]
 | [],_=>rfl
 | (a,b)::l,h=>by
  simp only[Fn,Bool.or_eq_false_iff]at h;simp only[Kc,h.1,cond_false,Ww k v h.2,List.cons_append]
theorem c_define(v:Int)(s:Int×Int)(p:H1)(f:TFunc)(l:Int)(t:List Int)(vs:List (Int×Ai))(u:List Ao) :
  E2 v s p f l t vs u=some (bif badD vs v then(false,f,l,t,u,vs) else(true,f,l,t,u,Kc vs v ⟨s,p⟩)):=by
 unfold E2 badD
 cases Fn vs v<;>cases decide (v<1)<;>cases decide (1023<v)<;>rfl
def resD(f:TFunc)(l:Int)(t:List Int)(u:List Ao)(r:Bool×List (Int×Ai)):(List Int×Int×List Ad×Int×List Int×List Ao×List (Int×Ai)) ⊕ (Bool×TFunc×Int×List Int×List Ao×List (Int×Ai)):=
 bif r.1 then .inl (f.Params,f.Ret,f.Blocks,l,t,u,r.2) else .inr (false,f,l,t,u,r.2)
theorem c_phis(b:Ad)(h:b.Phis.length<9223372036854775808)(i:Nat)(f:TFunc)(l:Int)(t:List Int)(u:List Ao):∀(k j:Nat) (vs:List (Int×Ai)),j+k=b.Phis.length→
  Ag (Cx (i:Int) b) ((j:Int),f.Params,f.Ret,f.Blocks,l,t,u,vs)=some (resD f l t u (Il vs ((List.range' j k).flatMap fun(k:Nat)=>[(⟨(b.Phis.getD k default).Dst,i,-1,((b.Phis.getD k default).Bits,1)⟩:Bi)]))):=by
 intro k
 induction k with
 | zero=>
  intro j vs hj
  obtain rfl:j=b.Phis.length:=by omega
  rw[An (x:=.inl (f.Params,f.Ret,f.Blocks,l,t,u,vs)) (by unfold Cx;simp)]
  rfl
 | succ k ih=>
  intro j vs hj
  have hi:j<b.Phis.length:=by omega
  have hd:decide ((j:Int)<(b.Phis.length:Int))=true:=by simpa using hi
  have hx:=c_define (b.Phis.getD j default).Dst ((b.Phis.getD j default).Bits,1) (⟨(i:Int),-1⟩:H1) f l t vs u
  have hat:atD (⟨(b.Phis.getD j default).Dst,i,-1,((b.Phis.getD j default).Bits,1)⟩:Bi)=⟨(i:Int),-1⟩:=by unfold atD;rw[decide_eq_false (by show ¬ (i:Int)<0;omega)];rfl
  rw[List.range'_succ,List.flatMap_cons,List.singleton_append];simp only[Il]
  cases hb:badD vs (b.Phis.getD j default).Dst with
  | true=>
   rw[hb]at hx
   rw[An (x:=.inr (false,f,l,t,u,vs)) (by
    unfold Cx D1;simp only[hd,cond_true,Ae (Am hi),Int.toNat_natCast,Option.bind_some];rw[show(⟨f.Params,f.Ret,f.Blocks⟩:TFunc)=f from rfl,hx]
    rfl)]
   rfl
  | false=>
   rw[hb]at hx
   rw[As (s':=(((j+1:Nat):Int),f.Params,f.Ret,f.Blocks,l,t,u,Kc vs (b.Phis.getD j default).Dst ⟨((b.Phis.getD j default).Bits,1),⟨(i:Int),-1⟩⟩)) (by
    unfold Cx D1;simp only[hd,cond_true,Ae (Am hi),Int.toNat_natCast,Option.bind_some];rw[show(⟨f.Params,f.Ret,f.Blocks⟩:TFunc)=f from rfl,hx,A1 hi h]
    rfl),ih (j+1) _ (by omega)]
   unfold Zf;rw[hat]
   rfl
theorem c_ops{f0:TFunc}(hf:OkF f0){b:Ad}(hb:b∈f0.Blocks)(i:Nat)(f:TFunc)(l:Int)(t:List Int)(u:List Ao):∀(k j:Nat) (vs:List (Int×Ai)),j+k=b.Ops.length→
  Ag (B4 (i:Int) b) ((j:Int),f.Params,f.Ret,f.Blocks,l,t,u,vs)=some (resD f l t u (Il vs ((List.range' j k).flatMap fun(k:Nat)=>bif decide (0<(H3 (b.Ops.getD k default)).1) then[(⟨(b.Ops.getD k default).Dst,i,k,H3 (b.Ops.getD k default)⟩:Bi)] else[]))):=by
 have hB:=hf.block b hb;intro k
 induction k with
 | zero=>
  intro j vs hj
  obtain rfl:j=b.Ops.length:=by omega
  rw[An (x:=.inl (f.Params,f.Ret,f.Blocks,l,t,u,vs)) (by unfold B4;simp)]
  rfl
 | succ k ih=>
  intro j vs hj
  have hi:j<b.Ops.length:=by omega
  have hd:decide ((j:Int)<(b.Ops.length:Int))=true:=by simpa using hi
  have hg:K8 (b.Ops.getD j default)=some (H3 (b.Ops.getD j default)):=kind_Gives _ (opOk hf hb (Aq hi));have hx:=c_define (b.Ops.getD j default).Dst (H3 (b.Ops.getD j default)) (⟨(i:Int),(j:Int)⟩:H1) f l t vs u
  have hat:atD (⟨(b.Ops.getD j default).Dst,i,j,H3 (b.Ops.getD j default)⟩:Bi)=⟨(i:Int),(j:Int)⟩:=by unfold atD;rw[decide_eq_false (by show ¬ (i:Int)<0;omega)];rfl
  rw[List.range'_succ,List.flatMap_cons]
  cases hp:decide (0<(H3 (b.Ops.getD j default)).1) with
  | false=>
   rw[cond_false,List.nil_append,← ih (j+1) vs (by omega),As (s':=(((j+1:Nat):Int),f.Params,f.Ret,f.Blocks,l,t,u,vs)) (by
    unfold B4;simp only[hd,cond_true,Ae (Am hi),Int.toNat_natCast,hg,Option.bind_some,hp];rw[A1 hi (by have:=hB.ops;omega)]
    rfl)]
  | true=>
   rw[cond_true,List.singleton_append];simp only[Il]
   cases hb:badD vs (b.Ops.getD j default).Dst with
   | true=>
    rw[hb]at hx
    rw[An (x:=.inr (false,f,l,t,u,vs)) (by
     unfold B4;simp only[hd,cond_true,Ae (Am hi),Int.toNat_natCast,hg,Option.bind_some,hp];rw[show(true==true)=true from rfl,cond_true,show(⟨f.Params,f.Ret,f.Blocks⟩:TFunc)=f from rfl,hx]
     rfl)]
    rfl
   | false=>
    rw[hb]at hx
    rw[As (s':=(((j+1:Nat):Int),f.Params,f.Ret,f.Blocks,l,t,u,Kc vs (b.Ops.getD j default).Dst ⟨H3 (b.Ops.getD j default),⟨(i:Int),(j:Int)⟩⟩)) (by
     unfold B4;simp only[hd,cond_true,Ae (Am hi),Int.toNat_natCast,hg,Option.bind_some,hp];rw[show(true==true)=true from rfl,cond_true,show(⟨f.Params,f.Ret,f.Blocks⟩:TFunc)=f from rfl,hx,A1 hi (by have:=hB.ops;omega)]
     rfl),ih (j+1) _ (by omega)]
    unfold Zf;rw[hat]
    rfl
theorem c_defineAll{f:TFunc}(hf:OkF f){b:Ad}(hb:b∈f.Blocks)(i:Nat)(l:Int)(t:List Int)(u:List Ao)(vs:List (Int×Ai)) :
  E8 (i:Int) b f l t vs u=some ((Il vs (Kh b i)).1,f,l,t,u,(Il vs (Kh b i)).2):=by
 unfold E8 Kh;rw[show(0:Int)=((0:Nat):Int) from rfl,c_phis b (by have:=(hf.block b hb).phis;omega) i f l t u b.Phis.length 0 vs (by omega),Option.bind_some,Xl];rw[show(List.range' 0 b.Phis.length).flatMap (fun(k:Nat)=>[(⟨(b.Phis.getD k default).Dst,i,-1,((b.Phis.getD k default).Bits,1)⟩:Bi)])=K4 b i by rw[K4,List.range_eq_range']];unfold resD
 cases h1:(Il vs (K4 b i)).1 with
 | false=>simp only[cond_false];rw[h1]
 | true=>
  simp only[cond_true];rw[c_ops hf hb i f l t u b.Ops.length 0 _ (by omega),Option.bind_some];rw[show(List.range' 0 b.Ops.length).flatMap (fun(k:Nat)=>bif decide (0<(H3 (b.Ops.getD k default)).1) then[(⟨(b.Ops.getD k default).Dst,i,k,H3 (b.Ops.getD k default)⟩:Bi)] else[])=Pm b i by rw[Pm,List.range_eq_range']];unfold resD;cases h2:(Il (Il vs (K4 b i)).2 (Pm b i)).1<;>rfl
theorem Xv{l:List Bi}{i:Nat}(hi:i<l.length):J6 l i=true↔valS (l.getD i default).V=true∧∀ j,j<i→(l.getD j default).V≠(l.getD i default).V:=by
 unfold J6;rw[Bool.and_eq_true];refine and_congr Iff.rfl ?_;unfold Je
 cases hx:l.findIdx? (fun d=>d.V==(l.getD i default).V) with
 | none=>
  rw[List.findIdx?_eq_none_iff]at hx;have:=hx _ (Aq (d:=default) hi);simp at this
 | some j=>
  obtain⟨hj,h1,h2⟩:=List.findIdx?_eq_some_iff_getElem.1 hx;simp only[beq_iff_eq,Int.natCast_inj]
  constructor
  ·rintro rfl k hk he;have:=h2 k hk;rw[Ah _ _ _ (by omega:k<l.length)]at he;simp at this;exact this he
  ·intro h
   have hv:(l.getD j default).V=(l.getD i default).V:=by rw[Ah _ _ _ hj];simpa using h1
   rcases Nat.lt_trichotomy j i with hlt|rfl|hgt
   ·exact absurd hv (h j hlt)
   ·rfl
   ·have:=h2 i hgt;rw[← Ah l i default hi]at this;simp at this
theorem mhas_dv(l:List Bi)(v:Int):Fn (dv l) v=l.any fun d=>v==d.V:=by
 rw[Tt,dv,List.any_map];rfl
theorem Aaj:∀(ds pre:List Bi),(Il (dv pre) ds).1=(List.range' pre.length ds.length).all (J6 (pre++ds))∧((Il (dv pre) ds).1=true→(Il (dv pre) ds).2=dv (pre++ds))
 | [],pre=>by simp[Il]
 | d::ds,pre=>by
  have hi:pre.length<(pre++d::ds).length:=by simp
  have hg:(pre++d::ds).getD pre.length default=d:=by simp[List.getD]
  have hj:∀ j,j<pre.length→(pre++d::ds).getD j default=pre.getD j default:=fun j h=>by simp[List.getD,List.getElem?_append_left h]
  have hok:J6 (pre++d::ds) pre.length = !badD (dv pre) d.V:=by
   rw[Bool.eq_iff_iff,Xv hi,hg];unfold badD valS;rw[mhas_dv];simp only[Bool.not_eq_true',Bool.or_eq_false_iff,decide_eq_false_iff_not,List.any_eq_false,beq_iff_eq,Bool.and_eq_true,decide_eq_true_eq]
   constructor
   ·rintro⟨⟨h1,h2⟩,h3⟩;refine⟨⟨fun x hx he=>?_,by omega⟩,by omega⟩;obtain⟨j,hjl,rfl⟩:=List.getElem_of_mem hx;have:=h3 j hjl;rw[hj j hjl,Ah _ _ _ hjl]at this;exact this he.symm
   ·rintro⟨⟨h1,h2⟩,h3⟩;refine⟨⟨by omega,by omega⟩,fun j hjl he=>?_⟩;rw[hj j hjl,Ah _ _ _ hjl]at he;exact h1 _ (List.getElem_mem hjl) he.symm
  rw[List.length_cons,List.range'_succ,List.all_cons,hok];simp only[Il]
  cases hb:badD (dv pre) d.V with
  | true=>exact⟨rfl,fun h=>by cases h⟩
  | false=>
   have hn:Fn (dv pre) d.V=false:=by
    unfold badD at hb;simp only[Bool.or_eq_false_iff]at hb;exact hb.1.1
   have hs:Kc (dv pre) d.V (Zf d)=dv (pre++[d]):=by rw[Ww _ _ hn,dv,dv,List.map_append];rfl
   have:=Aaj ds (pre++[d]);rw[List.length_append,List.append_assoc,List.singleton_append]at this;rw[cond_false,hs,Bool.not_false,Bool.true_and];exact this
def pv(f:TFunc)(n:Nat):List (Int×Ai):=(List.range n).map fun(j:Nat)=>((j:Int)+1,⟨(f.Params.getD j 0,1),⟨0,-1⟩⟩)
theorem pv_dv(f:TFunc):pv f f.Params.length=dv (Ll f):=by
 unfold pv dv Ll;rw[List.map_flatMap]
 induction List.range f.Params.length with
 | nil=>rfl
 | cons a l ih=>rw[List.map_cons,List.flatMap_cons,ih];rfl
theorem c_params{f:TFunc}(hf:OkF f):∀(k i:Nat),i+k=f.Params.length→Ag (Eo f) ((i:Int),pv f i)=some (pv f f.Params.length):=by
 intro k
 induction k with
 | zero=>
  intro i h
  obtain rfl:i=f.Params.length:=by omega
  exact An (by unfold Eo;simp)
 | succ k ih=>
  intro i h
  have hi:i<f.Params.length:=by omega
  have hd:decide ((i:Int)<(f.Params.length:Int))=true:=by simpa using hi
  have hn:Fn (pv f i) ((i:Int)+1)=false:=by
   rw[Tt,pv,List.any_map,List.any_eq_false];intro j hj;have:=List.mem_range.1 hj
   simp;omega
  have hs:Kc (pv f i) ((i:Int)+1) ⟨(f.Params.getD i 0,1),⟨0,-1⟩⟩=pv f (i+1):=by
   rw[Ww _ _ hn,pv,pv,List.range_succ,List.map_append];rfl
  rw[As (s':=(((i+1:Nat):Int),pv f (i+1))) (by
   unfold Eo D1;simp only[hd,cond_true,Ae (Am hi),Int.toNat_natCast,Option.bind_some,A1 hi (by have:=hf.few;omega),hs]
   rfl)]
  exact ih (i+1) (by omega)
theorem c_blocks{f:TFunc}(hf:OkF f)(l:Int)(t:List Int)(u:List Ao):∀(k i:Nat) (vs:List (Int×Ai)),i+k=f.Blocks.length→
  Ag (Dg f) ((i:Int),vs,f.Params,f.Ret,f.Blocks,l,t,u)=some (bif (Il vs ((List.range' i k).flatMap fun i=>Kh (f.Blocks.getD i default) i)).1 then .inl ((Il vs ((List.range' i k).flatMap fun i=>Kh (f.Blocks.getD i default) i)).2,f.Params,f.Ret,f.Blocks,l,t,u) else
   .inr (7,f,l,t,u,(Il vs ((List.range' i k).flatMap fun i=>Kh (f.Blocks.getD i default) i)).2)):=by
 intro k
 induction k with
 | zero=>
  intro i vs h
  obtain rfl:i=f.Blocks.length:=by omega
  rw[An (x:=.inl (vs,f.Params,f.Ret,f.Blocks,l,t,u)) (by unfold Dg;simp)]
  rfl
 | succ k ih=>
  intro i vs h
  have hi:i<f.Blocks.length:=by omega
  have hd:decide ((i:Int)<(f.Blocks.length:Int))=true:=by simpa using hi
  have hx:=c_defineAll hf (Aq (d:=default) hi) i l t u vs;rw[List.range'_succ,List.flatMap_cons,Xl]
  cases hb:(Il vs (Kh (f.Blocks.getD i default) i)).1 with
  | false=>
   rw[hb]at hx
   rw[An (x:=.inr (7,f,l,t,u,(Il vs (Kh (f.Blocks.getD i default) i)).2)) (by
    unfold Dg;simp only[hd,cond_true,Ae (Am hi),Int.toNat_natCast];rw[show(⟨f.Params,f.Ret,f.Blocks⟩:TFunc)=f from rfl,hx]
    rfl),cond_false,hb]
   rfl
  | true=>
   rw[hb]at hx
   rw[As (s':=(((i+1:Nat):Int),(Il vs (Kh (f.Blocks.getD i default) i)).2,f.Params,f.Ret,f.Blocks,l,t,u)) (by
    unfold Dg;simp only[hd,cond_true,Ae (Am hi),Int.toNat_natCast];rw[show(⟨f.Params,f.Ret,f.Blocks⟩:TFunc)=f from rfl,hx,A1 hi (by have:=hf.blocks;omega)]
    rfl),ih (i+1) _ (by omega),cond_true]
theorem okP{f:TFunc}(hf:OkF f):∀ i,i<f.Params.length→J6 (Ap f) i=true:=fun i hi=>by
 have hl:=P4 f
 have hg:∀ j,j<f.Params.length→(Ap f).getD j default=⟨(j:Int)+1,-1,0,(f.Params.getD j 0,1)⟩:=fun j hj=>by
  have e:Ll f=(List.range f.Params.length).map fun(i:Nat)=>(⟨(i:Int)+1,-1,0,(f.Params.getD i 0,1)⟩:Bi):=by
   unfold Ll
   induction List.range f.Params.length with
   | nil=>rfl
   | cons a l ih=>rw[List.map_cons,List.flatMap_cons,ih];rfl
  rw[Ap,List.getD,List.getElem?_append_left (by omega),e];simp[hj]
 have hle:i<(Ap f).length:=by rw[Ap,List.length_append];omega
 rw[Xv hle,hg i hi];refine⟨?_,fun j hj=>?_⟩
 ·have:=hf.few;simp only[valS,Bool.and_eq_true,decide_eq_true_eq];omega
 ·rw[hg j (by omega)];simp only;omega
theorem c_defined{f:TFunc}(hf:OkF f)(l:Int)(t:List Int)(u:List Ao):∃ vs,Fx f l t u=some (bif (List.range (Ap f).length).all (J6 (Ap f)) then 0 else 7,f,l,t,u,vs)∧((List.range (Ap f).length).all (J6 (Ap f))=true→vs=dv (Ap f)):=by
 have hsp:=Aaj ((List.range f.Blocks.length).flatMap fun i=>Kh (f.Blocks.getD i default) i) (Ll f)
 have hall:(List.range (Ap f).length).all (J6 (Ap f))=(Il (dv (Ll f)) ((List.range f.Blocks.length).flatMap fun i=>Kh (f.Blocks.getD i default) i)).1:=by
  rw[hsp.1]
  show(List.range (Ap f).length).all (J6 (Ap f))=(List.range' (Ll f).length _).all (J6 (Ap f))
  have hs:List.range (Ap f).length=List.range (Ll f).length++List.range' (Ll f).length ((List.range f.Blocks.length).flatMap fun i=>Kh (f.Blocks.getD i default) i).length:=by
   rw[List.range_eq_range',List.range_eq_range',Ap,List.length_append];have:=List.range'_append_1 (s:=0) (m:=(Ll f).length) (n:=((List.range f.Blocks.length).flatMap fun i=>Kh (f.Blocks.getD i default) i).length);rw[Nat.zero_add]at this;exact this.symm
  rw[hs,List.all_append];have:(List.range (Ll f).length).all (J6 (Ap f))=true:=List.all_eq_true.2 fun i hi=>okP hf i (by rw[← P4 f];exact List.mem_range.1 hi);rw[this,Bool.true_and]
 unfold Fx;have hp:=c_params hf f.Params.length 0 (by omega);have e0:pv f 0=[]:=rfl;rw[e0,show(((0:Nat):Int))=0 from rfl]at hp;rw[hp,Option.bind_some,pv_dv];have hb:=c_blocks hf l t u f.Blocks.length 0 (dv (Ll f)) (by omega);rw[show(((0:Nat):Int))=0 from rfl,← List.range_eq_range']at hb;rw[hb,Option.bind_some,hall];refine⟨(Il (dv (Ll f)) ((List.range f.Blocks.length).flatMap fun i=>Kh (f.Blocks.getD i default) i)).2,?_,hsp.2⟩
 cases(Il (dv (Ll f)) ((List.range f.Blocks.length).flatMap fun i=>Kh (f.Blocks.getD i default) i)).1<;>rfl
theorem Uu{β S X:Type}(B:Nat)(mk:Int→List β→S)(out:List β→X)(n:Nat)(E:Nat→List β)(f:S→Option (LR S X))(hn:∀(acc:List β) (i:Nat),i<n→(acc++E i).length≤B→f (mk i acc)=some (.next (mk ((i:Int)+1) (acc++E i))))
  (hd:∀ acc:List β,f (mk n acc)=some (.done (out acc))):∀(k i:Nat) (acc:List β),i+k=n→(acc++(List.range' i k).flatMap E).length≤B→Ag f (mk i acc)=some (out (acc++(List.range' i k).flatMap E))
 | 0,i,acc,h,_=>by
  obtain rfl:i=n:=by omega
  rw[An (hd acc)]
  simp
 | k+1,i,acc,h,hB=>by
  have hi:i<n:=by omega
  rw[List.range'_succ,List.flatMap_cons,← List.append_assoc]at hB ⊢;rw[As (hn acc i hi (by rw[List.length_append]at hB;omega)),show((i:Int)+1)=((i+1:Nat):Int) by omega,Uu B mk out n E f hn hd k (i+1) _ (by omega) hB]
theorem map_sing{β γ:Type}(h:β→γ)(n:Nat)(g:Nat→β):(List.range' 0 n).flatMap (fun j=>[h (g j)])=((List.range n).flatMap fun j=>[g j]).map h:=by
 rw[List.map_flatMap,List.range_eq_range'];rfl
theorem Aa4{β γ:Type}(h:β→γ)(n:Nat)(g:Nat→List β):(List.range' 0 n).flatMap (fun j=>(g j).map h)=((List.range n).flatMap g).map h:=by
 rw[List.map_flatMap,List.range_eq_range']
def Mr(f:TFunc)(b:Int):Int:=((f.Blocks.getD b.toNat default).Ops.length:Int)
def Fq(f:TFunc)(u:B9):Ao:=⟨u.V,u.Shape,⟨u.Block,bif u.At==1000 then Mr f u.Block else u.At⟩⟩
theorem c_use(f:TFunc)(l:Int)(t:List Int)(vs:List (Int×Ai))(v:Int)(s:Int×Int)(p:H1)(u:List Ao)(h:(u++[(⟨v,s,p⟩:Ao)]).length≤10000000):D9 v s p f l t vs u=some (f,l,t,u++[⟨v,s,p⟩]):=by
 unfold D9;rw[Ab (by rw[List.length_append]at h;rw[Xb];omega)]
theorem c_end(f:TFunc)(l:Int)(t:List Int)(vs:List (Int×Ai))(b:Int)(hb:Ba b f.Blocks.length)(u:List Ao):E9 b f l t vs u=some (⟨b,Mr f b⟩,f,l,t,u):=by
 unfold E9;rw[Ab hb];rfl
section
variable {f:TFunc} (hf:OkF f) (l:Int) (t:List Int) (vs:List (Int×Ai))
include hf
theorem c_phi1(i k:Nat)(hi:i<f.Blocks.length)(hk:k<(f.Blocks.getD i default).Phis.length)(hfit:((f.Blocks.getD i default).Phis.getD k default).Args.length≤((f.Blocks.getD i default).Phis.getD k default).From.length)
  (hin:∀ x∈((f.Blocks.getD i default).Phis.getD k default).From,Ba x f.Blocks.length) (u:List Ao) (hB:(u++(K0 ((f.Blocks.getD i default).Phis.getD k default)).map (Fq f)).length≤10000000) :
  Ag (Db f vs (i:Int) (k:Int)) ((0:Int),f.Params,f.Ret,f.Blocks,l,t,u)=some (f.Params,f.Ret,f.Blocks,l,t,u++(K0 ((f.Blocks.getD i default).Phis.getD k default)).map (Fq f)):=by
 have hlen:=ok_phi hf (Aq (d:=(default:Ad)) hi) (Aq (d:=(default:Ey)) hk)
 generalize hp:(f.Blocks.getD i default).Phis.getD k default=p at *
 have e:=map_sing (Fq f) p.Args.length fun(j:Nat)=>(⟨p.Args.getD j 0,p.From.getD j 0,1000,(p.Bits,1)⟩:B9)
 have:=Uu 10000000 (fun j u=>(j,f.Params,f.Ret,f.Blocks,l,t,u)) (fun u=>(f.Params,f.Ret,f.Blocks,l,t,u)) p.Args.length (fun(j:Nat)=>[Fq f ⟨p.Args.getD j 0,p.From.getD j 0,1000,(p.Bits,1)⟩]) (Db f vs (i:Int) (k:Int)) (fun acc j hj hacc=>by
  unfold Db D1
  have hd:decide ((j:Int)<(p.Args.length:Int))=true:=by simpa using hj
  have hjf:j<p.From.length:=by omega
  simp only[Int.toNat_natCast,hp,hd,cond_true,Ae (Am hj),Option.bind_some,Ae (Am hjf)];rw[show(⟨f.Params,f.Ret,f.Blocks⟩:TFunc)=f from rfl,c_end f l t vs _ (hin _ (Aq hjf)),Option.bind_some];simp only;have eu:Fq f ⟨p.Args.getD j 0,p.From.getD j 0,1000,(p.Bits,1)⟩=⟨p.Args.getD j 0,(p.Bits,1),⟨p.From.getD j 0,Mr f (p.From.getD j 0)⟩⟩:=rfl;rw[eu]at hacc ⊢
  rw[c_use f l t vs _ _ _ acc hacc,Option.bind_some,A1 hj (by omega)]) (fun acc=>by unfold Db;simp only[Int.toNat_natCast,hp,show decide ((p.Args.length:Int)<(p.Args.length:Int))=false by simp,cond_false]) p.Args.length 0 u (by omega) (by rw[e];exact hB)
 rw[e]at this;exact this
theorem c_phis'(i:Nat)(hi:i<f.Blocks.length)(hfit:∀ p∈(f.Blocks.getD i default).Phis,p.Args.length≤p.From.length∧∀ x∈p.From,Ba x f.Blocks.length)(u:List Ao)(hB:(u++(Li (f.Blocks.getD i default)).map (Fq f)).length≤10000000) :
  Ag (Dc f vs (i:Int)) ((0:Int),f.Params,f.Ret,f.Blocks,l,t,u)=some (f.Params,f.Ret,f.Blocks,l,t,u++(Li (f.Blocks.getD i default)).map (Fq f)):=by
 have hBk:=hf.block _ (Aq (d:=(default:Ad)) hi);have e:=Aa4 (Fq f) (f.Blocks.getD i default).Phis.length fun(k:Nat)=>K0 ((f.Blocks.getD i default).Phis.getD k default)
 have:=Uu 10000000 (fun j u=>(j,f.Params,f.Ret,f.Blocks,l,t,u)) (fun u=>(f.Params,f.Ret,f.Blocks,l,t,u)) (f.Blocks.getD i default).Phis.length (fun(k:Nat)=>(K0 ((f.Blocks.getD i default).Phis.getD k default)).map (Fq f)) (Dc f vs (i:Int)) (fun acc k hk hacc=>by
  have hq:=hfit _ (Aq (d:=(default:Ey)) hk);have h1:=c_phi1 hf l t vs i k hi hk hq.1 hq.2 acc hacc;unfold Dc
  have hd:decide ((k:Int)<((f.Blocks.getD i default).Phis.length:Int))=true:=by simpa using hk
  simp only[Int.toNat_natCast,hd,cond_true,Ae (Am hk),h1,Option.bind_some,A1 hk (by have:=hBk.phis;omega)]) (fun acc=>by unfold Dc;simp) (f.Blocks.getD i default).Phis.length 0 u (by omega) (by rw[e];exact hB)
 rw[e]at this;exact this
theorem c_op1(i k:Nat)(hi:i<f.Blocks.length)(hk:k<(f.Blocks.getD i default).Ops.length)(u:List Ao)(hB:(u++(Mv ((f.Blocks.getD i default).Ops.getD k default) i k).map (Fq f)).length≤10000000) :
  Ag (Dd f vs (i:Int) (k:Int) (Hm ((f.Blocks.getD i default).Ops.getD k default))) ((0:Int),f.Params,f.Ret,f.Blocks,l,t,u)=some (f.Params,f.Ret,f.Blocks,l,t,u++(Mv ((f.Blocks.getD i default).Ops.getD k default) i k).map (Fq f)):=by
 have hBk:=hf.block _ (Aq (d:=(default:Ad)) hi);have hlen:=Ru (ok_op hf (Aq (d:=(default:Ad)) hi) (Aq (d:=(default:Dv)) hk));have hk512:=hBk.ops
 generalize hp:(f.Blocks.getD i default).Ops.getD k default=o at *
 have e:=map_sing (Fq f) (Hm o).length fun(j:Nat)=>(⟨o.Args.getD j 0,i,k,(Hm o).getD j (0,0)⟩:B9)
 have:=Uu 10000000 (fun j u=>(j,f.Params,f.Ret,f.Blocks,l,t,u)) (fun u=>(f.Params,f.Ret,f.Blocks,l,t,u)) (Hm o).length (fun(j:Nat)=>[Fq f ⟨o.Args.getD j 0,i,k,(Hm o).getD j (0,0)⟩]) (Dd f vs (i:Int) (k:Int) (Hm o)) (fun acc j hj hacc=>by
  have hkk:((k:Int)==1000)=false:=by simp;omega
  have eu:Fq f ⟨o.Args.getD j 0,i,k,(Hm o).getD j (0,0)⟩=⟨o.Args.getD j 0,(Hm o).getD j (0,0),⟨(i:Int),(k:Int)⟩⟩:=by unfold Fq;simp only[hkk,cond_false]
  rw[eu]at hacc ⊢;unfold Dd
  have hd:decide ((j:Int)<((Hm o).length:Int))=true:=by simpa using hj
  have hja:j<o.Args.length:=by omega
  simp only[Int.toNat_natCast,hp,hd,cond_true,Ae (Am hj),Ae (Am hja)]
  rw[show(⟨f.Params,f.Ret,f.Blocks⟩:TFunc)=f from rfl,c_use f l t vs _ _ _ acc hacc,Option.bind_some,A1 hj (by omega)]) (fun acc=>by unfold Dd;simp) (Hm o).length 0 u (by omega) (by rw[e];exact hB)
 rw[e]at this;exact this
theorem c_ops'(i:Nat)(hi:i<f.Blocks.length)(u:List Ao)(hB:(u++(O4 (f.Blocks.getD i default) i).map (Fq f)).length≤10000000) :
  Ag (De f vs (i:Int)) ((0:Int),f.Params,f.Ret,f.Blocks,l,t,u)=some (f.Params,f.Ret,f.Blocks,l,t,u++(O4 (f.Blocks.getD i default) i).map (Fq f)):=by
 have hmem:=Aq (d:=(default:Ad)) hi;have hBk:=hf.block _ hmem;have e:=Aa4 (Fq f) (f.Blocks.getD i default).Ops.length fun(k:Nat)=>Mv ((f.Blocks.getD i default).Ops.getD k default) i k
 have:=Uu 10000000 (fun j u=>(j,f.Params,f.Ret,f.Blocks,l,t,u)) (fun u=>(f.Params,f.Ret,f.Blocks,l,t,u)) (f.Blocks.getD i default).Ops.length (fun(k:Nat)=>(Mv ((f.Blocks.getD i default).Ops.getD k default) i k).map (Fq f)) (De f vs (i:Int)) (fun acc k hk hacc=>by
  have h1:=c_op1 hf l t vs i k hi hk acc hacc;have ht:K9 ((f.Blocks.getD i default).Ops.getD k default)=some (Hm ((f.Blocks.getD i default).Ops.getD k default)):=kind_Takes _ (opOk hf hmem (Aq hk));unfold De
  have hd:decide ((k:Int)<((f.Blocks.getD i default).Ops.length:Int))=true:=by simpa using hk
  simp only[Int.toNat_natCast,hd,cond_true,Ae (Am hk),ht,h1,Option.bind_some,A1 hk (by have:=hBk.ops;omega)]) (fun acc=>by unfold De;simp) (f.Blocks.getD i default).Ops.length 0 u (by omega) (by rw[e];exact hB)
 rw[e]at this;exact this
theorem c_collect (hfit : ∀ b ∈ f.Blocks, ∀ p ∈ b.Phis, p.Args.length ≤ p.From.length ∧ ∀ x ∈ p.From, Ba x f.Blocks.length) : Fv f l t vs [] = some (f, l, t, (Bw f).map (Fq f)) := by
  have e := Aa4 (Fq f) f.Blocks.length fun (i : Nat) => Xe f (f.Blocks.getD i default) i; have hul := X8 hf
  have := Uu 10000000 (fun j u => (j, f.Params, f.Ret, f.Blocks, l, t, u)) (fun u => (f.Params, f.Ret, f.Blocks, l, t, u)) f.Blocks.length (fun (i : Nat) => (Xe f (f.Blocks.getD i default) i).map (Fq f)) (Df f vs) (fun acc i hi hacc => by
    have hmem := Aq (d := (default : Ad)) hi; unfold Xe at hacc ⊢; rw [List.map_append, List.map_append, ← List.append_assoc, ← List.append_assoc] at hacc ⊢; have l1 := hacc; simp only [List.length_append, List.length_map] at l1; have h1 := c_phis' hf l t vs i hi (hfit _ hmem) acc (by simp only [List.length_append, List.length_map]; omega); have h2 := c_ops' hf l t vs i hi (acc ++ (Li (f.Blocks.getD i default)).map (Fq f)) (by simp only [List.length_append, List.length_map]; omega); have hinb : Ba (i : Int) f.Blocks.length := Am hi; unfold Df D1
    have hd : decide ((i : Int) < (f.Blocks.length : Int)) = true := by simpa using hi
    simp only [hd, cond_true, Ae (Am hi), h1, Option.bind_some, h2, Int.toNat_natCast]; have hF : (⟨f.Params, f.Ret, f.Blocks⟩ : TFunc) = f := rfl; have hw : w64 ((i : Int) + 1) = (i : Int) + 1 := A1 hi (by have := hf.blocks; omega); unfold U3 at hacc ⊢
    cases hz : ((f.Blocks.getD i default).End.Kind == 0) with
    | true =>
      have hz2 : ((f.Blocks.getD i default).End.Kind == 2) = false := by have : (f.Blocks.getD i default).End.Kind = 0 := by simpa using hz
                                                                         rw [this]; rfl
      rw [hz, hz2] at hacc; simp only [cond_true, cond_false, hz2, List.append_nil, List.map_cons, List.map_nil] at hacc ⊢; rw [hF, c_end f l t vs _ hinb, Option.bind_some]; simp only; rw [c_use f l t vs _ _ _ _ (show (_ ++ [(⟨_, _, ⟨(i : Int), Mr f (i : Int)⟩⟩ : Ao)]).length ≤ 10000000 from hacc), Option.bind_some, Option.bind_some, hw]
      rfl
    | false =>
      rw [hz] at hacc
      cases hz2 : ((f.Blocks.getD i default).End.Kind == 2) with
      | true =>
        rw [hz2] at hacc; simp only [cond_true, cond_false, List.nil_append, List.map_cons, List.map_nil] at hacc ⊢; rw [hF, c_end f l t vs _ hinb, Option.bind_some]; simp only; rw [c_use f l t vs _ _ _ _ (show (_ ++ [(⟨_, _, ⟨(i : Int), Mr f (i : Int)⟩⟩ : Ao)]).length ≤ 10000000 from hacc), Option.bind_some, Option.bind_some, hw]
        rfl
      | false =>
        simp only [cond_false, List.nil_append, List.map_nil, List.append_nil, Option.bind_some, hw]) (fun acc => by unfold Df; simp) f.Blocks.length 0 [] (by omega) (by rw [e]; simpa [Bw] using (by omega : (Bw f).length ≤ 10000000))
  rw [e, List.nil_append] at this; unfold Fv; rw [show (0 : Int) = ((0 : Nat) : Int) from rfl]
  show ((Ag (Df f vs) (((0 : Nat) : Int), f.Params, f.Ret, f.Blocks, l, t, [])).bind _) = _
  rw [this, Option.bind_some]
  rfl
end
theorem allS{σ X:Type}(mk:Int→σ)(U:List Ao)(p:Ao→Bool)(f:σ→Option (LR σ X))(yes no:X)(hk:∀ i:Nat,i<U.length→f (mk i)=some (bif p (U.getD i default) then .next (mk ((i:Int)+1)) else .done no))(he:f (mk U.length)=some (.done yes)) :
  ∀ k i:Nat,i+k=U.length→Ag f (mk i)=some (bif (U.drop i).all p then yes else no)
 | 0,i,h=>by
  obtain rfl:i=U.length:=by omega
  rw[An he]
  simp
 | k+1,i,h=>by
  have hi:i<U.length:=by omega
  have hdr:U.drop i=U.getD i default::U.drop (i+1):=by rw[List.drop_eq_getElem_cons hi,Ah _ _ _ hi]
  have hx:=hk i hi;rw[hdr,List.all_cons]
  cases hp:p (U.getD i default) with
  | true=>
   rw[hp]at hx;rw[As hx,show((i:Int)+1)=((i+1:Nat):Int) by omega,allS mk U p f yes no hk he k (i+1) (by omega),Bool.true_and]
  | false=>
   rw[hp]at hx;rw[An hx]
   rfl
theorem Aan(d:Bi)(l:List Bi)(v:Int):Je (d::l) v=bif d.V==v then 0 else bif decide (Je l v<0) then -1 else Je l v+1:=by
 unfold Je;rw[List.findIdx?_cons]
 cases d.V==v with
 | true=>rfl
 | false=>
  cases l.findIdx? (fun d=>d.V==v) with
  | none=>rfl
  | some i=>
   simp only[cond_false,Option.map_some];rw[decide_eq_false (by omega)]
   simp
theorem Aa5(v:Int):∀ l:List Bi,Fn (dv l) v = !decide (Je l v<0)
 | []=>rfl
 | d::l=>by
  rw[Aan]
  show((v==d.V) || Fn (dv l) v)=_
  rw[Aa5 v l,show(v==d.V)=(d.V==v) by rw[Bool.eq_iff_iff];simp;exact eq_comm]
  cases d.V==v with
  | true=>rfl
  | false=>
   by_cases h:Je l v<0
   ·simp[h]
   ·simp[h];omega
theorem V4(v:Int):∀ l:List Bi,¬ Je l v<0→Dy (default:Ai) (dv l) v=Zf (defOf l v)
 | [],h=>absurd (show(-1:Int)<0 by decide) h
 | d::l,h=>by
  unfold defOf;rw[Aan]at h ⊢
  show(bif v==d.V then Zf d else Dy default (dv l) v)=_
  rw[show(v==d.V)=(d.V==v) by rw[Bool.eq_iff_iff];simp;exact eq_comm]
  cases hb:d.V==v with
  | true=>rfl
  | false=>
   rw[hb]at h
   by_cases hn:Je l v<0
   ·simp[hn]at h
   ·have hz:decide (Je l v<0)=false:=decide_eq_false hn;simp only[cond_false,hz];rw[V4 v l hn,show(Je l v+1).toNat=(Je l v).toNat+1 by omega]
    rfl
def DefIn(f:TFunc)(d:Bi):Prop:=d.Block = -1∨(Ba d.Block f.Blocks.length∧d.At<Mr f d.Block∧d.At<1000)
def UseIn(f:TFunc)(u:B9):Prop:=Ba u.Block f.Blocks.length∧0≤u.At
theorem defs_in{f:TFunc}(hf:OkF f):∀ d∈Ap f,DefIn f d:=fun d hd=>by
 rcases List.mem_append.1 hd with h|h
 ·obtain⟨i,_,hi⟩:=List.mem_flatMap.1 h;rw[List.mem_singleton.1 hi];exact .inl rfl
 ·obtain⟨i,hi,h⟩:=List.mem_flatMap.1 h
  have hi:i<f.Blocks.length:=by simpa using hi
  have hB:=hf.block _ (Aq (d:=(default:Ad)) hi);have ho:Mr f (i:Int)=((f.Blocks.getD i default).Ops.length:Int):=rfl;rcases List.mem_append.1 h with h|h
  ·obtain⟨k,hk,h⟩:=List.mem_flatMap.1 h;rw[List.mem_singleton.1 h];refine .inr ⟨Am hi,?_,?_⟩
   ·show(-1:Int)<Mr f (i:Int);rw[ho];omega
   ·show(-1:Int)<1000;omega
  ·obtain⟨k,hk,h⟩:=List.mem_flatMap.1 h
   have hk:k<(f.Blocks.getD i default).Ops.length:=by simpa using hk
   cases hg:decide (0<(H3 ((f.Blocks.getD i default).Ops.getD k default)).1) with
   | false=>rw[hg]at h;cases h
   | true=>
    rw[hg]at h;rw[List.mem_singleton.1 h];refine .inr ⟨Am hi,?_,?_⟩
    ·show(k:Int)<Mr f (i:Int);rw[ho];omega
    ·show(k:Int)<1000;have:=hB.ops;omega
theorem uses_in{f:TFunc}(hfit:∀ b∈f.Blocks,∀ p∈b.Phis,p.Args.length≤p.From.length∧∀ x∈p.From,Ba x f.Blocks.length):∀ u∈Bw f,UseIn f u:=fun u hu=>by
 obtain⟨i,hi,h⟩:=List.mem_flatMap.1 hu
 have hi:i<f.Blocks.length:=by simpa using hi
 have hmem:=Aq (d:=(default:Ad)) hi;rcases List.mem_append.1 h with h|h
 ·rcases List.mem_append.1 h with h|h
  ·obtain⟨k,hk,h⟩:=List.mem_flatMap.1 h
   have hk:k<(f.Blocks.getD i default).Phis.length:=by simpa using hk
   obtain⟨j,hj,h⟩:=List.mem_flatMap.1 h;have hj:=List.mem_range.1 hj;have hq:=hfit _ hmem _ (Aq (d:=(default:Ey)) hk);rw[List.mem_singleton.1 h];exact⟨hq.2 _ (Aq (by omega)),by show(0:Int)≤1000;omega⟩
  ·obtain⟨k,hk,h⟩:=List.mem_flatMap.1 h;obtain⟨j,hj,h⟩:=List.mem_flatMap.1 h;rw[List.mem_singleton.1 h];exact⟨Am hi,by show(0:Int)≤(k:Int);omega⟩
 ·unfold U3 at h
  have:u=⟨(f.Blocks.getD i default).End.Arg,i,1000,(f.Ret,1)⟩∨u=⟨(f.Blocks.getD i default).End.Arg,i,1000,(1,1)⟩:=by
   rcases List.mem_append.1 h with h|h
   ·cases hz:((f.Blocks.getD i default).End.Kind==0) with
    | true=>rw[hz]at h;exact .inl (List.mem_singleton.1 h)
    | false=>rw[hz]at h;cases h
   ·cases hz:((f.Blocks.getD i default).End.Kind==2) with
    | true=>rw[hz]at h;exact .inr (List.mem_singleton.1 h)
    | false=>rw[hz]at h;cases h
  rcases this with rfl|rfl<;>exact⟨Am hi,by show(0:Int)≤1000;omega⟩
theorem fit_of{f:TFunc}(h:Hv f=true):∀ b∈f.Blocks,∀ p∈b.Phis,p.Args.length≤p.From.length∧∀ x∈p.From,Ba x f.Blocks.length:=fun b hb p hp=>by
 have hs:Lq f=true:=by simp only[Hv,Bool.and_eq_true]at h;exact h.1
 refine⟨shape_fit h b hb p hp,fun x hx=>?_⟩;obtain⟨i,hi,rfl⟩:=List.getElem_of_mem hb;simp only[Hv,Bool.and_eq_true]at h;have h1:=allN h.2 i hi;simp only[Kl,Bool.and_eq_true,List.all_eq_true]at h1;rw[Ah _ _ _ hi]at h1;have h2:=h1.2 p hp;simp only[Gz,Bool.and_eq_true,decide_eq_true_eq]at h2;rw[h2.1]at hx;obtain⟨q,rfl,hq,_⟩:=(W6 (L:=Ci f) (Nt hs) (y:=i) (by rw[T8];exact hi)).1 hx;exact Am (by rw[T8]at hq;exact hq)
theorem over_first{f:TFunc}(h:Hv f=true){b:Int}(hb:Ba b f.Blocks.length):Vr (Cw f) 0 b=true:=by
 have hs:Lq f=true:=by simp only[Hv,Bool.and_eq_true]at h;exact h.1
 have hm:=Nt hs;have hlen:=T8 f
 have hpos:0<(Ci f).length:=by have:=(shape_iff.1 hs).1.1;omega
 obtain⟨P,hP,o,ht⟩:=treeD_dom hm hpos
 have e:Cw f=Uh (Ci f) 0:=by
  unfold Cw treeG;rw[if_pos ⟨mayG_gOf hm,Int.le_refl _,by show(0:Int)<((Ci f).length:Int);omega⟩]
  rfl
 obtain⟨k,rfl⟩:∃ k:Nat,b=(k:Int):=⟨b.toNat,(Int.toNat_of_nonneg hb.1).symm⟩
 have hk:k<f.Blocks.length:=by have:=hb.2;omega
 simp only[Hv,Bool.and_eq_true]at h;have h1:=allN h.2 k hk;simp only[Kl,Bool.and_eq_true]at h1;have hr:Rch (sN (Ci f)) 0 k:=(W8 (Sf hm) hpos k).1 h1.1.1;rw[e];refine(ht.over_dom o hpos (by omega)).2 ⟨rc_iff.2 hr,fun ha=>?_⟩;exact(av_iff.1 ha).1 rfl
theorem Tc{l:List B9}{g:B9→Ao}{p:Ao→Bool}{q:B9→Bool}(h:∀ u∈l,p (g u)=q u):(l.map g).all p=l.all q:=by
 induction l with
 | nil=>rfl
 | cons a l ih=>rw[List.map_cons,List.all_cons,List.all_cons,h a (by simp),ih fun u hu=>h u (by simp[hu])]
def fitP(vs:List (Int×Ai))(u:Ao):Bool:=((Dy (default:Ai) vs u.v).shape.1==u.shape.1)&&(((Dy (default:Ai) vs u.v).shape.2==u.shape.2)&&true)
def Vx(vs:List (Int×Ai))(t:List Int)(u:Ao):Bool:=bif (Dy (default:Ai) vs u.v).place.block==u.place.block then decide ((Dy (default:Ai) vs u.v).place.at_<u.place.at_) else Vr t (Dy (default:Ai) vs u.v).place.block u.place.block
theorem ahead_eq{f:TFunc}(hs:Hv f=true){D:List Bi}(hD:∀ d∈D,DefIn f d){u:B9}(hu:UseIn f u)(hfd:Jt D u=true):Vx (dv D) (Cw f) (Fq f u)=Qc D (Cw f) u:=by
 have hF:¬ Je D u.V<0:=by simpa [Jt] using hfd
 have hin:=findD_in hF;have hd:DefIn f (defOf D u.V):=hD _ (by unfold defOf;exact Aq (by have:=hin.1;have:=hin.2;omega));have hg:Dy (default:Ai) (dv D) (Fq f u).v=Zf (defOf D u.V):=V4 u.V D hF;unfold Vx Qc;rw[hg]
 generalize defOf D u.V=d at *
 have hub:=hu.1.1
 have hul:0≤Mr f u.Block:=by unfold Mr;omega
 have hat:∀ a:Int,a<0∨(a<Mr f u.Block∧a<1000)→decide (a<(Fq f u).place.at_)=decide (a<u.At)∨a<0:=fun a ha=>by
  rcases ha with ha|ha
  ·exact .inr ha
  ·refine .inl ?_
   show decide (a<bif u.At==1000 then Mr f u.Block else u.At)=_
   by_cases h:u.At=1000
   ·rw[h];simp only[show((1000:Int)==1000)=true from rfl,cond_true];rw[decide_eq_true ha.1,decide_eq_true ha.2]
   ·have:(u.At==1000)=false:=by simpa using h
    rw[this];rfl
 have hpos:0≤(Fq f u).place.at_:=by
  show 0≤bif u.At==1000 then Mr f u.Block else u.At
  cases u.At==1000
  ·exact hu.2
  ·exact hul
 have hblk:(Fq f u).place.block=u.Block:=rfl;rw[hblk];rcases hd with hd|⟨hd1,hd2,hd3⟩
 ·have e:(Zf d).place=⟨0,-1⟩:=by show atD d=_;unfold atD;rw[hd];rfl
  rw[e,hd,decide_eq_true (show(-1:Int)<0 by decide)]
  show(bif (0:Int)==u.Block then decide ((-1:Int)<(Fq f u).place.at_) else Vr (Cw f) 0 u.Block)=_
  rw[Bool.true_or,Bool.true_or,over_first hs hu.1,decide_eq_true (show(-1:Int)<(Fq f u).place.at_ by omega)]
  cases(0:Int)==u.Block<;>rfl
 ·have hn:¬ d.Block<0:=by have:=hd1.1;omega
  have e:(Zf d).place=⟨d.Block,d.At⟩:=by show atD d=_;unfold atD;rw[decide_eq_false hn];rfl
  rw[e,decide_eq_false hn,Bool.false_or]
  show(bif d.Block==u.Block then decide (d.At<(Fq f u).place.at_) else Vr (Cw f) d.Block u.Block)=_
  cases hb:d.Block==u.Block with
  | true=>
   have hbe:d.Block=u.Block:=by simpa using hb
   simp only[cond_true,Bool.true_and,Bool.not_true,Bool.false_and,Bool.or_false];rcases hat d.At (.inr ⟨by rw[← hbe];exact hd2,hd3⟩) with h|h
   ·exact h
   ·rw[decide_eq_true (by omega),decide_eq_true (by have:=hu.2;omega)]
  | false=>
   simp only[cond_false,Bool.false_and,Bool.false_or,Bool.not_false,Bool.true_and];unfold Vr
   by_cases hm:Mz (Cw f) d.Block u.Block=d.Block
   ·rw[hm]
    have:(d.Block !=-2)=true:=by simp;omega
    simp[this]
   ·have:(Mz (Cw f) d.Block u.Block==d.Block)=false:=by simpa using hm
    simp[this,bne]
section
variable {f:TFunc} (l:Int) (vs:List (Int×Ai))
def stU(f:TFunc)(l:Int)(U:List Ao)(i:Int):Int×List Int×Int×List Ad×Int×List Int×List Ao:=(i,f.Params,f.Ret,f.Blocks,l,Cw f,U)
def stX(f:TFunc)(l:Int)(U:List Ao):List Int×Int×List Ad×Int×List Int×List Ao:=(f.Params,f.Ret,f.Blocks,l,Cw f,U)
theorem c_used1(U:List Ao)(hU:U.length<9223372036854775808):Ag (Dh vs (f,l,Cw f,U)) (stU f l U 0)=some (bif U.all (fun u=>Fn vs u.v) then .inl (stX f l U) else .inr (stX f l U)):=by
 have:=allS (stU f l U) U (fun u=>Fn vs u.v) (Dh vs (f,l,Cw f,U)) (.inl (stX f l U)) (.inr (stX f l U)) (fun i hi=>by
  unfold Dh stU Hs
  have hd:decide ((i:Int)<(U.length:Int))=true:=by simpa using hi
  simp only[hd,cond_true,Ae (Am hi),Int.toNat_natCast,Option.bind_some,A1 hi hU]
  cases Fn vs (U.getD i default).v<;>rfl) (by unfold Dh stU;simp;rfl) U.length 0 (by omega)
 rw[List.drop_zero]at this;exact this
theorem c_used2(U:List Ao)(hU:U.length<9223372036854775808):Ag (Di vs U) (stU f l U 0)=some (bif U.all (fitP vs) then .inl (stX f l U) else .inr (stX f l U)):=by
 have:=allS (stU f l U) U (fitP vs) (Di vs U) (.inl (stX f l U)) (.inr (stX f l U)) (fun i hi=>by
  unfold Di stU Iy
  have hd:decide ((i:Int)<(U.length:Int))=true:=by simpa using hi
  simp only[hd,cond_true,Ae (Am hi),Int.toNat_natCast,Option.bind_some,A1 hi hU];unfold fitP
  cases(((Dy (default:Ai) vs (U.getD i default).v).shape.1==(U.getD i default).shape.1)&&(((Dy (default:Ai) vs (U.getD i default).v).shape.2==(U.getD i default).shape.2)&&true))<;>rfl) (by unfold Di stU;simp;rfl) U.length 0 (by omega)
 rw[List.drop_zero]at this;exact this
theorem c_used3(htl:(Cw f).length≤1000)(U:List Ao)(hU:U.length<9223372036854775808):Ag (Dj vs U) (stU f l U 0)=some (bif U.all (Vx vs (Cw f)) then .inl (stX f l U) else .inr (stX f l U)):=by
 have:=allS (stU f l U) U (Vx vs (Cw f)) (Dj vs U) (.inl (stX f l U)) (.inr (stX f l U)) (fun i hi=>by
  have hx:Fy (U.getD i default) f l (Cw f) vs U=some (Vx vs (Cw f) (U.getD i default),f,l,Cw f,U):=by
   unfold Fy Vx;rw[m_Over htl]
   cases(Dy (default:Ai) vs (U.getD i default).v).place.block==(U.getD i default).place.block<;>rfl
  unfold Dj stU
  have hd:decide ((i:Int)<(U.length:Int))=true:=by simpa using hi
  simp only[hd,cond_true,Ae (Am hi),Int.toNat_natCast];rw[show(⟨f.Params,f.Ret,f.Blocks⟩:TFunc)=f from rfl,hx,Option.bind_some,A1 hi hU]
  cases Vx vs (Cw f) (U.getD i default)<;>rfl) (by unfold Dj stU;simp;rfl) U.length 0 (by omega)
 rw[List.drop_zero]at this;exact this
end
def usedD(f:TFunc):Int:=bif !(Bw f).all (Jt (Ap f)) then 7 else bif !(Bw f).all (R7 (Ap f)) then 6 else bif !(Bw f).all (Qc (Ap f) (Cw f)) then 7 else 0
theorem c_used{f:TFunc}(hf:OkF f)(hs:Hv f=true)(l:Int):∃ U,Hb f l (Cw f) (dv (Ap f)) []=some (usedD f,f,l,Cw f,U):=by
 have hfit:=fit_of hs;have hul:=X8 hf
 have hsB:Lq f=true:=by simp only[Hv,Bool.and_eq_true]at hs;exact hs.1
 refine⟨(Bw f).map (Fq f),?_⟩
 have hU:((Bw f).map (Fq f)).length<9223372036854775808:=by rw[List.length_map];omega
 have h1:=c_used1 (f:=f) l (dv (Ap f)) _ hU;have h2:=c_used2 (f:=f) l (dv (Ap f)) _ hU;have h3:=c_used3 (f:=f) l (dv (Ap f)) (tree_len hsB) _ hU;rw[Tc (q:=Jt (Ap f)) (fun u _=>Aa5 u.V _)]at h1;unfold Hb usedD Pz;rw[c_collect hf l (Cw f) (dv (Ap f)) hfit,Option.bind_some];simp only;rw[show(Ag (Dh (dv (Ap f)) (f,l,Cw f,(Bw f).map (Fq f))) ((0:Int),f.Params,f.Ret,f.Blocks,l,Cw f,(Bw f).map (Fq f)))=_ from h1,Option.bind_some];have fin:∀ e:Int,Ag Jf (e,f.Params,f.Ret,f.Blocks,l,Cw f,(Bw f).map (Fq f))=some (e,f,l,Cw f,(Bw f).map (Fq f)):=fun e=>An rfl
 cases hfd:(Bw f).all (Jt (Ap f)) with
 | false=>simp only[cond_false,Bool.not_false,cond_true,stX,Option.bind_some,fin]
 | true=>
  have hmf:=List.all_eq_true.1 hfd
  rw[Tc (q:=R7 (Ap f)) (fun u hu=>by
   have:=hmf u hu;simp only[Jt,Bool.not_eq_true',decide_eq_false_iff_not]at this;have hg:Dy (default:Ai) (dv (Ap f)) (Fq f u).v=Zf (defOf (Ap f) u.V):=V4 u.V _ this;unfold fitP R7
   rw[hg];rfl)]at h2
  rw[Tc (q:=Qc (Ap f) (Cw f)) (fun u hu=>ahead_eq hs (defs_in hf) (uses_in hfit u hu) (hmf u hu))]at h3;simp only[cond_true,Bool.not_true,cond_false,stX];rw[show(Ag (Di (dv (Ap f)) ((Bw f).map (Fq f))) ((0:Int),f.Params,f.Ret,f.Blocks,l,Cw f,(Bw f).map (Fq f)))=_ from h2,Option.bind_some]
  cases(Bw f).all (R7 (Ap f)) with
  | false=>simp only[cond_false,Bool.not_false,cond_true,stX,Option.bind_some,fin]
  | true=>
   simp only[cond_true,Bool.not_true,cond_false,stX];rw[show(Ag (Dj (dv (Ap f)) ((Bw f).map (Fq f))) ((0:Int),f.Params,f.Ret,f.Blocks,l,Cw f,(Bw f).map (Fq f)))=_ from h3,Option.bind_some]
   cases(Bw f).all (Qc (Ap f) (Cw f)) with
   | false=>simp only[cond_false,Bool.not_false,cond_true,stX,Option.bind_some,fin]
   | true=>simp only[cond_true,Bool.not_true,cond_false,stX,Option.bind_some]
theorem c_wrong{f:TFunc}(h:Sm f)(l:Int)(h0:0≤l)(h2:l≤2):∃ t u vs,Ff f l [] []=some (Ge f l,f,l,t,u,vs)∧(Ge f l=0→vs=dv (Ap f)):=by
 have hc:Ge f l=bif !Qa f then 4 else wrongD f l:=by
  unfold Ge;rw[decide_eq_false (by omega),decide_eq_false (by omega)];rfl
 rw[hc];unfold Ff;rw[c_told f h.1,Option.bind_some]
 cases hm:Qa f with
 | false=>exact⟨[],[],[],rfl,fun h=>by cases h⟩
 | true=>
  have hf:=sm_ok h hm;simp only[cond_true,Bool.not_true,cond_false,show((0:Int)!=0)=false from rfl,wrongD];obtain⟨t',hsh,hst⟩:=c_shaped hf l [] [];rw[hsh,Option.bind_some]
  cases hs:Hv f with
  | false=>exact⟨t',[],[],rfl,fun h=>by cases h⟩
  | true=>
   obtain rfl:=hst hs;simp only[cond_true,Bool.not_true,cond_false,show((0:Int)!=0)=false from rfl];rw[c_typed hf l h0 h2,Option.bind_some]
   cases N0 f l with
   | false=>exact⟨Cw f,[],[],rfl,fun h=>by cases h⟩
   | true=>
    simp only[cond_true,Bool.not_true,cond_false,show((0:Int)!=0)=false from rfl];obtain⟨vs,hd,hv⟩:=c_defined hf l (Cw f) [];rw[hd,Option.bind_some]
    cases hdd:(List.range (Ap f).length).all (J6 (Ap f)) with
    | false=>exact⟨Cw f,[],vs,rfl,fun h=>by cases h⟩
    | true=>
     obtain rfl:=hv hdd;simp only[cond_true,Bool.not_true,cond_false,show((0:Int)!=0)=false from rfl];obtain⟨U,hu⟩:=c_used hf hs l;rw[hu,Option.bind_some];refine⟨Cw f,U,dv (Ap f),?_,fun _=>rfl⟩
     show(bif usedD f !=0 then some (usedD f,f,l,Cw f,U,dv (Ap f)) else some (0,f,l,Cw f,U,dv (Ap f)))=some (usedD f,f,l,Cw f,U,dv (Ap f))
     cases hz:usedD f !=0 with
     | true=>rfl
     | false=>
      have:usedD f=0:=by simpa using hz
      rw[this];rfl
theorem c_check(f:TFunc)(l:Int)(h:Sm f):Fi f l=some (Ge f l):=by
 unfold Fi
 by_cases h0:l<0
 ·rw[decide_eq_true h0];unfold Ge;rw[decide_eq_true h0];rfl
 ·by_cases h2:2<l
  ·rw[decide_eq_false h0,decide_eq_true h2];unfold Ge;rw[decide_eq_false h0,decide_eq_true h2];rfl
  ·obtain⟨t,u,vs,hw,_⟩:=c_wrong h l (by omega) (by omega);rw[decide_eq_false h0,decide_eq_false h2,hw];rfl
def lone(e:Hn)(b r:Int):TFunc:=⟨[b],r,[⟨[],[],e⟩]⟩
theorem Aa1{α S X:Type}(l:List α)(d:α)(g:S→α→S)(out:S→X)(f:S×Int→Option (LR (S×Int) X))(hn:∀(s:S) (i:Nat),i<l.length→f (s,(i:Int))=some (.next (g s (l.getD i d),(i:Int)+1)))
  (hd:∀ s:S,f (s,(l.length:Int))=some (.done (out s))):∀(k i:Nat) (s:S),i+k=l.length→Ag f (s,(i:Int))=some (out ((l.drop i).foldl g s))
 | 0,i,s,h=>by
  obtain rfl:i=l.length:=by omega
  rw[An (hd s)]
  simp
 | k+1,i,s,h=>by
  have hi:i<l.length:=by omega
  have hdr:l.drop i=l.getD i d::l.drop (i+1):=by rw[List.drop_eq_getElem_cons hi,Ah _ _ _ hi]
  rw[As (hn s i hi),show((i:Int)+1)=((i+1:Nat):Int) by omega,Aa1 l d g out f hn hd k (i+1) _ (by omega),hdr,List.foldl_cons]
theorem Yk{α S X:Type}(l:List α)(d:α)(g:S→α→S)(out:S→X)(f:S×Int→Option (LR (S×Int) X))(hn:∀(s:S) (i:Nat),i<l.length→f (s,(i:Int))=some (.next (g s (l.getD i d),(i:Int)+1)))
  (hd:∀ s:S,f (s,(l.length:Int))=some (.done (out s))) (s:S):Ag f (s,(0:Int))=some (out (l.foldl g s)):=by
 have:=Aa1 l d g out f hn hd l.length 0 s (by omega);rw[List.drop_zero]at this;exact this
theorem range_getD11{α:Type}(l:List α)(d:α):(List.range l.length).map (fun k=>l.getD k d)=l:=by
 apply List.ext_getElem
 ·simp
 ·intro i h1 h2;simp[List.getD,h2]
theorem V0{α β:Type}(l:List α)(d:α)(E:Nat→List β)(c:α→Nat)(h:∀ k,k<l.length→(E k).length=c (l.getD k d)):((List.range l.length).flatMap E).length=(l.map c).sum:=by
 rw[List.length_flatMap]
 have:(List.range l.length).map (fun a=>(E a).length)=((List.range l.length).map (fun k=>l.getD k d)).map c:=by
  rw[List.map_map]
  apply List.map_congr_left
  intro k hk;exact h k (by simpa using hk)
 rw[this,range_getD11]
def oneN(p:Bool):Nat:=bif p then 1 else 0
def defN(o:Dv):Nat:=oneN (decide (0<(H3 o).1))
def dstN(o:Dv):Nat:=oneN (decide (0<o.Dst))
theorem ones{α:Type}(l:List α):(l.map fun _=>1).sum=l.length:=by induction l with|nil=>rfl|cons a l ih=>simp[ih];omega
theorem defs_count(f:TFunc):(Ap f).length=f.Params.length+(f.Blocks.map fun b=>b.Phis.length+(b.Ops.map defN).sum).sum:=by
 rw[Ap,List.length_append,P4]
 congr 1
 refine V0 f.Blocks default _ (fun b=>b.Phis.length+(b.Ops.map defN).sum) fun i hi=>?_;rw[Kh,List.length_append,K4,Pm]
 congr 1
 ·rw[V0 (f.Blocks.getD i default).Phis default _ (fun _=>1) (fun _ _=>rfl),ones]
 ·refine V0 (f.Blocks.getD i default).Ops default _ defN fun k hk=>?_;unfold defN oneN
  cases decide (0<(H3 ((f.Blocks.getD i default).Ops.getD k default)).1)<;>rfl
theorem gives_dst{o:Dv}(h:Iv o=true):defN o=dstN o:=by
 unfold defN dstN H3;rw[h,cond_true]
 congr 2
 have hs:=h;simp only[Iv,Bool.and_eq_true]at hs;have hd:=hs.2.2
 have hw:0<o.Bits:=by
  have:=hs.1.1;simp only[P5,Bool.and_eq_true]at this
  have h2:widthB o.Bits=true:=by first|exact this.1|exact this.1.1
  unfold widthB at h2;simp at h2;omega
 unfold dstS at hd;unfold Tj
 cases hk:(o.Kind==17 || o.Kind==19) with
 | true=>
  rw[hk]at hd
  have:o.Dst=0:=by simpa using hd
  simp[this]
 | false=>
  rw[hk]at hd
  have h1:1≤o.Dst:=by
   simp only[cond_false,valS,Bool.and_eq_true,decide_eq_true_eq]at hd;exact hd.1
  simp only[cond_false]
  cases(o.Kind==10 || o.Kind==11 || o.Kind==12)<;>cases(o.Kind==22)<;>simp[hw,show(0:Int)<o.Dst by omega]
theorem typed_op{f:TFunc}(h:N0 f 2=true){b:Ad}(hb:b∈f.Blocks){o:Dv}(ho:o∈b.Ops):Iv o=true:=by
 simp only[N0,G1,Bool.and_eq_true,List.all_eq_true]at h;have:=(h.1.2 b hb).2 o ho;rw[opTyped_iff (m:=22) rfl]at this;exact this.1
def cntB(b:Ad):Nat:=b.Phis.length+(b.Ops.map dstN).sum
theorem defs_count2{f:TFunc}(h:N0 f 2=true):(Ap f).length=f.Params.length+(f.Blocks.map cntB).sum:=by
 rw[defs_count]
 congr 2
 apply List.map_congr_left
 intro b hb;unfold cntB
 congr 2
 apply List.map_congr_left
 intro o ho;exact gives_dst (typed_op h hb ho)
theorem fold_w{α:Type}(c:α→Nat)(g:Int→α→Int)(hg:∀ n a,w64 n=n→g n a=w64 (n+c a)):∀(l:List α) (n:Int),w64 n=n→l.foldl g n=w64 (n+((l.map c).sum:Nat))∧w64 (l.foldl g n)=l.foldl g n
 | [],n,hn=>by simp[hn]
 | a::l,n,hn=>by
  have hw:w64 (w64 (n+c a))=w64 (n+c a):=by have:=Pl (n+c a) 0;simpa using this
  obtain⟨h1,h2⟩:=fold_w c g hg l (g n a) (by rw[hg n a hn];exact hw);rw[List.foldl_cons];refine⟨?_,h2⟩;rw[h1,hg n a hn,Pl,List.map_cons,List.sum_cons]
  congr 1
  omega
theorem grow_ge(n d:Int):n≤grow n d∧d≤grow n d:=by
 unfold grow
 by_cases h:n<d
 ·rw[decide_eq_true h,cond_true];omega
 ·rw[decide_eq_false h,cond_false];omega
theorem Xn{α:Type}(v:α→Int):∀(l:List α) (n:Int),n≤l.foldl (fun n a=>grow n (v a)) n∧∀ a∈l,v a≤l.foldl (fun n a=>grow n (v a)) n
 | [],n=>by simp
 | a::l,n=>by
  obtain⟨h1,h2⟩:=Xn v l (grow n (v a));have h3:=grow_ge n (v a);rw[List.foldl_cons];refine⟨by omega,fun x hx=>?_⟩;rcases List.mem_cons.1 hx with rfl|hx
  ·omega
  ·exact h2 x hx
theorem Yh:∀(l:List Ad) (n:Int),n≤l.foldl (fun n b=>b.Ops.foldl (fun n o=>grow n o.Dst) (b.Phis.foldl (fun n p=>grow n p.Dst) n)) n ∧
  ∀ b∈l,(∀ p∈b.Phis,p.Dst≤l.foldl (fun n b=>b.Ops.foldl (fun n o=>grow n o.Dst) (b.Phis.foldl (fun n p=>grow n p.Dst) n)) n)∧∀ o∈b.Ops,o.Dst≤l.foldl (fun n b=>b.Ops.foldl (fun n o=>grow n o.Dst) (b.Phis.foldl (fun n p=>grow n p.Dst) n)) n
 | [],n=>by simp
 | b::l,n=>by
  obtain⟨p1,p2⟩:=Xn (fun p:Ey=>p.Dst) b.Phis n;obtain⟨q1,q2⟩:=Xn (fun o:Dv=>o.Dst) b.Ops (b.Phis.foldl (fun n p=>grow n p.Dst) n);obtain⟨h1,h2⟩:=Yh l (b.Ops.foldl (fun n o=>grow n o.Dst) (b.Phis.foldl (fun n p=>grow n p.Dst) n));rw[List.foldl_cons];refine⟨by omega,fun x hx=>?_⟩;rcases List.mem_cons.1 hx with rfl|hx
  ·exact⟨fun p hp=>by have:=p2 p hp;omega,fun o ho=>by have:=q2 o ho;omega⟩
  ·exact h2 x hx
theorem defs_last{f:TFunc}{d:Bi}(hd:d∈Ap f):d.V≤lastD f:=by
 obtain⟨h1,h2⟩:=Yh f.Blocks (f.Params.length:Int);unfold lastD;rw[Ap,List.mem_append]at hd;rcases hd with hd|hd
 ·simp only[Ll,List.mem_flatMap,List.mem_range,List.mem_singleton]at hd;obtain⟨i,hi,rfl⟩:=hd
  show(i:Int)+1≤_
  omega
 ·simp only[List.mem_flatMap,List.mem_range]at hd;obtain⟨i,hi,hd⟩:=hd;have hmem:=Aq (d:=(default:Ad)) hi;rw[Kh,List.mem_append]at hd;rcases hd with hd|hd
  ·simp only[K4,List.mem_flatMap,List.mem_range,List.mem_singleton]at hd;obtain⟨k,hk,rfl⟩:=hd;exact(h2 _ hmem).1 _ (Aq hk)
  ·simp only[Pm,List.mem_flatMap,List.mem_range]at hd;obtain⟨k,hk,hd⟩:=hd
   cases hg:decide (0<(H3 ((f.Blocks.getD i default).Ops.getD k default)).1) with
   | false=>rw[hg]at hd;cases hd
   | true=>
    rw[hg]at hd;obtain rfl:=List.mem_singleton.1 hd;exact(h2 _ hmem).2 _ (Aq hk)
theorem param_def{f:TFunc}{i:Nat}(hi:i<f.Params.length):(⟨(i:Int)+1,-1,0,(f.Params.getD i 0,1)⟩:Bi)∈Ap f:=by
 rw[Ap,List.mem_append]
 left
 simp only[Ll,List.mem_flatMap,List.mem_range,List.mem_singleton];exact⟨i,hi,rfl⟩
theorem phi_def{f:TFunc}{i k:Nat}(hi:i<f.Blocks.length)(hk:k<(f.Blocks.getD i default).Phis.length):(⟨((f.Blocks.getD i default).Phis.getD k default).Dst,i,-1,(((f.Blocks.getD i default).Phis.getD k default).Bits,1)⟩:Bi)∈Ap f:=by
 rw[Ap,List.mem_append]
 right
 simp only[List.mem_flatMap,List.mem_range,Kh,List.mem_append,K4,List.mem_singleton];exact⟨i,hi,.inl ⟨k,hk,rfl⟩⟩
theorem def_pos{f:TFunc}(h:restD f=0){d:Bi}(hd:d∈Ap f):1≤d.V:=by
 have ha:(List.range (Ap f).length).all (J6 (Ap f))=true:=by
  unfold restD at h
  cases hx:(List.range (Ap f).length).all (J6 (Ap f)) with
  | true=>rfl
  | false=>rw[hx]at h;exact absurd (show(7:Int)=0 from h) (by decide)
 obtain⟨i,hi,rfl⟩:=List.getElem_of_mem hd;have:=allN ha i hi;simp only[J6,Bool.and_eq_true]at this;rw[Ah _ _ _ hi]at this;have h2:=this.1;simp only[valS,Bool.and_eq_true,decide_eq_true_eq]at h2;exact h2.1
theorem shapes11(F:Facts11)(f:TFunc)(v:Int)(hf:InF f):Gb f v=some true:=by
 unfold Gb;rw[m_awake11 F,Option.bind_some,Bool.not_true,cond_false];obtain⟨b,hb,hsm⟩:=m_small11 hf;rw[hb,Option.bind_some]
 cases b with
 | false=>rfl
 | true=>
 have hs:=hsm rfl;simp only[Bool.not_true,cond_false];rw[show((false==false)=true) from rfl,cond_true,m_check_ref hs,Option.bind_some]
 cases hc:(Ge f 2 !=0) with
 | true=>rfl
 | false=>
 have h0:Ge f 2=0:=by simpa using hc
 obtain⟨hmay,hsh,hty,hrest⟩:=(Aag (f:=f) (l:=2) (by omega) (by omega)).1 h0;have hok:=sm_ok hs hmay;obtain⟨s,hss,hS⟩:=F.shapes f hs;have hget:=hS.get h0;rw[cond_false,hss,Option.bind_some]
 have hL1:Ag (S:=Int) (X:=(Unit ⊕ Bool)) (Cg f s) (0:Int)=some (.inl ()):=by
  have:=Ut f.Params.length (fun _=>true) (Cg f s) (.inl ()) (.inr false) (fun i hi _=>by
   unfold Cg
   have hd:decide ((i:Int)<(f.Params.length:Int))=true:=by simpa using hi
   have hg:=hget _ (param_def hi);have hg:Dy ((0:Int),(0:Int)) s ((i:Int)+1)=(f.Params.getD i 0,1):=hg;simp only[hd,cond_true,Ae (Am hi),Int.toNat_natCast,A1 hi (by have:=hok.few;omega),hg]
   simp) (fun i hi h=>by cases h) (by unfold Cg;simp)
  rw[this,List.all_eq_true.2 (fun _ _=>rfl)];rfl
 rw[hL1,Option.bind_some]
 have hphi:∀(i:Nat),i<f.Blocks.length→∀ n:Int,Ag (Dm f s (i:Int)) (n,(0:Int))=some (.inl ((f.Blocks.getD i default).Phis.foldl (fun n _=>w64 (n+1)) n)):=fun i hi n=>by
  have hB:=hok.block _ (Aq (d:=(default:Ad)) hi);refine Yk (f.Blocks.getD i default).Phis (default:Ey) (fun n _=>w64 (n+1)) Sum.inl _ (fun n j hj=>?_) (fun n=>?_) n
  ·unfold Dm
   have hd:decide ((j:Int)<((f.Blocks.getD i default).Phis.length:Int))=true:=by simpa using hj
   have hg:=hget _ (phi_def hi hj);simp only[Ae (Am hi),Int.toNat_natCast,hd,cond_true,Ae (Am hj),A1 hj (by have:=hB.phis;omega),hg]
   simp
  ·unfold Dm;simp[Ae (Am hi)]
 have hop:∀(i:Nat),i<f.Blocks.length→∀ n:Int,Ag (Dn f (i:Int)) (n,(0:Int))=some ((f.Blocks.getD i default).Ops.foldl (fun n o=>bif decide (0<o.Dst) then w64 (n+1) else n) n):=fun i hi n=>by
  have hB:=hok.block _ (Aq (d:=(default:Ad)) hi);refine Qy (f.Blocks.getD i default).Ops (default:Dv) _ _ (fun n j hj=>?_) (fun n=>?_) n
  ·unfold Dn
   have hd:decide ((j:Int)<((f.Blocks.getD i default).Ops.length:Int))=true:=by simpa using hj
   simp only[Ae (Am hi),Int.toNat_natCast,hd,cond_true,Ae (Am hj),A1 hj (by have:=hB.ops;omega)]
   cases decide (0<((f.Blocks.getD i default).Ops.getD j default).Dst)<;>rfl
  ·unfold Dn;simp[Ae (Am hi)]
 have hL4:=Yk f.Blocks (default:Ad) (fun n b=>b.Ops.foldl (fun n o=>bif decide (0<o.Dst) then w64 (n+1) else n) (b.Phis.foldl (fun n _=>w64 (n+1)) n)) (Sum.inl (β:=Bool)) (Do f s) (fun n i hi=>by
  unfold Do
  have hd:decide ((i:Int)<(f.Blocks.length:Int))=true:=by simpa using hi
  simp only[hd,cond_true,hphi i hi,hop i hi,Option.bind_some,A1 hi (by have:=hok.blocks;omega)]) (fun n=>by unfold Do;simp) (f.Params.length:Int)
 have hcount:=defs_count2 hty;have hdl:=defsF_len hok
 have hn:f.Blocks.foldl (fun n b=>b.Ops.foldl (fun n o=>bif decide (0<o.Dst) then w64 (n+1) else n) (b.Phis.foldl (fun n _=>w64 (n+1)) n)) (f.Params.length:Int)=((Ap f).length:Int):=by
  have:=(fold_w cntB (fun n b=>b.Ops.foldl (fun n o=>bif decide (0<o.Dst) then w64 (n+1) else n) (b.Phis.foldl (fun n _=>w64 (n+1)) n)) (fun n b hn=>by
   obtain⟨p1,p2⟩:=fold_w (fun _:Ey=>1) (fun n _=>w64 (n+1)) (fun n a _=>rfl) b.Phis n hn
   obtain⟨q1,q2⟩:=fold_w dstN (fun n o=>bif decide (0<o.Dst) then w64 (n+1) else n) (fun n o hn=>by
    unfold dstN oneN
    cases decide (0<o.Dst) with
    | true=>rfl
    | false=>simp[hn]) b.Ops (b.Phis.foldl (fun n _=>w64 (n+1)) n) p2
   rw[q1,p1,Pl,ones]
   congr 1
   unfold cntB
   omega) f.Blocks (f.Params.length:Int) (U4 (by have:=hok.few;omega))).1
  rw[this,show((f.Params.length:Int)+((f.Blocks.map cntB).sum:Nat))=((Ap f).length:Int) by rw[hcount];omega,U4 (by omega)]
 rw[hL4,Option.bind_some,hn];have hlen:=hS.len h0;simp only[hlen,F.last f hs]
 have e1:(((Ap f).length:Int)==((Ap f).length:Int))=true:=by simp
 rw[e1]
 cases hv:Fn s v with
 | false=>rfl
 | true=>
  obtain⟨d,hd,rfl⟩:=hS.has h0 v hv;have h1:=def_pos hrest hd;have h2:=defs_last hd;rw[decide_eq_true h1];simp[h2]
theorem grow_if(n d:Int):(if n<d then d else n)=grow n d:=by
 unfold grow
 by_cases h:n<d<;>simp[h]
theorem c_last(f:TFunc)(h:Sm f):Iw f=some (lastD f):=by
 have hf:=h.1
 have h1:∀(i:Nat),i<f.Blocks.length→∀ n:Int,Ag (Jz f (i:Int)) (n,(0:Int))=some ((f.Blocks.getD i default).Phis.foldl (fun n p=>grow n p.Dst) n):=fun i hi n=>by
  have hB:=hf.block _ (Aq (d:=(default:Ad)) hi);refine Qy (f.Blocks.getD i default).Phis (default:Ey) _ _ (fun s j hj=>?_) (fun s=>?_) n
  ·unfold Jz
   have hd:decide ((j:Int)<((f.Blocks.getD i default).Phis.length:Int))=true:=by simpa using hj
   simp only[Int.toNat_natCast,hd,cond_true,Ae (Am hj),w64_nx hj hB.1,grow_if]
  ·unfold Jz
   simp
 have h2:∀(i:Nat),i<f.Blocks.length→∀ n:Int,Ag (J0 f (i:Int)) (n,(0:Int))=some ((f.Blocks.getD i default).Ops.foldl (fun n p=>grow n p.Dst) n):=fun i hi n=>by
  have hB:=hf.block _ (Aq (d:=(default:Ad)) hi);refine Qy (f.Blocks.getD i default).Ops (default:Dv) _ _ (fun s j hj=>?_) (fun s=>?_) n
  ·unfold J0
   have hd:decide ((j:Int)<((f.Blocks.getD i default).Ops.length:Int))=true:=by simpa using hj
   simp only[Int.toNat_natCast,hd,cond_true,Ae (Am hj),w64_nx hj hB.2.1,grow_if]
  ·unfold J0
   simp
 unfold Iw lastD
 rw[Qy f.Blocks (default:Ad) (fun n b=>b.Ops.foldl (fun n o=>grow n o.Dst) (b.Phis.foldl (fun n p=>grow n p.Dst) n)) (J1 f) (fun s i hi=>by
  unfold J1
  have hd:decide ((i:Int)<(f.Blocks.length:Int))=true:=by simpa using hi
  simp only[hd,cond_true,Ae (Am hi),h1 i hi,h2 i hi,Option.bind_some,w64_nx hi hf.blocks]) (fun s=>by unfold J1;simp)]
 rfl
def shv(l:List Bi):List (Int×(Int×Int)):=l.map fun d=>(d.V,d.Shape)
theorem defs_nodup{f:TFunc}(h:(List.range (Ap f).length).all (J6 (Ap f))=true):((Ap f).map (·.V)).Nodup:=by
 rw[List.nodup_iff_pairwise_ne,List.pairwise_map,List.pairwise_iff_getElem];intro i j hi hj hij he;have:=((Xv hj).1 (allN h j hj)).2 i hij;rw[Ah _ _ _ hi,Ah _ _ _ hj]at this;exact this he
theorem run_shapes{x1:Int×TFunc×Int×List Int×List Ao×List (Int×Ai)}(D:List Bi)(hx:x1.2.2.2.2.2=dv D)(hn:(D.map (·.V)).Nodup):∀(τ:List Nat) (acc:List (Int×(Int×Int))),τ.Nodup→(∀ i∈τ,i<D.length)→(∀ i∈τ,Fn acc (D.getD i default).V=false)→
  T9 (Hr x1) Ix τ acc=some (acc++τ.map fun i=>((D.getD i default).V,(D.getD i default).Shape))
 | [],acc,_,_,_=>by simp[T9,Ix]
 | i::τ,acc,hd,hin,hf=>by
  have hi:=hin i (by simp)
  have hg:(dv D).getD i ((0:Int),(default:Ai))=((D.getD i default).V,Zf (D.getD i default)):=by
   unfold dv;simp[List.getD,hi]
  have hm:=Ww (D.getD i default).V (D.getD i default).Shape (hf i (by simp))
  have hstep:Hr x1 i acc=some (.next (acc++[((D.getD i default).V,(D.getD i default).Shape)])):=by
   unfold Hr;rw[hx,hg]
   show some (LR.next (Kc acc (D.getD i default).V ((D.getD i default).Shape.1,(D.getD i default).Shape.2)))=_
   rw[show((D.getD i default).Shape.1,(D.getD i default).Shape.2)=(D.getD i default).Shape from rfl,hm]
  unfold T9;rw[hstep]
  show T9 _ _ τ _=_
  rw[run_shapes D hx hn τ _ (List.nodup_cons.1 hd).2 (fun j hj=>hin j (by simp[hj])) (fun j hj=>?_),List.map_cons,List.append_assoc]
  ·rfl
  ·have h1:=hf j (by simp[hj]);rw[Tt]at h1 ⊢;rw[List.any_append,h1,Bool.false_or];have hj':=hin j (by simp[hj]);have hne:j≠i:=fun e=>(List.nodup_cons.1 hd).1 (e▸hj)
   have:(D.getD j default).V≠(D.getD i default).V:=fun e=>by
    rw[List.nodup_iff_pairwise_ne,List.pairwise_map,List.pairwise_iff_getElem]at hn;rw[Ah _ _ _ hi,Ah _ _ _ hj']at e;rcases Nat.lt_or_gt_of_ne hne with h|h
    ·exact hn j i hj' hi h e
    ·exact hn i j hi hj' h e.symm
   simpa using this
theorem c_shapes(f:TFunc)(h:Sm f):∃ s,G9 f=some s∧ShapesOf f s:=by
 obtain⟨t,u,vs,hw,hv⟩:=c_wrong h 2 (by omega) (by omega);unfold G9;rw[hw,Option.bind_some]
 cases hc:(Ge f 2 !=0) with
 | true=>
  have hne:Ge f 2≠0:=by simpa using hc
  exact⟨[],rfl,fun _=>rfl,fun e=>absurd e hne,fun e=>absurd e hne,fun e=>absurd e hne⟩
 | false=>
  have h0:Ge f 2=0:=by simpa using hc
  obtain rfl:=hv h0;have hz:=(Aag (f:=f) (l:=2) (by omega) (by omega)).1 h0
  have hall:(List.range (Ap f).length).all (J6 (Ap f))=true:=by
   have:=hz.2.2.2;unfold restD at this
   cases hb:(List.range (Ap f).length).all (J6 (Ap f)) with
   | true=>rfl
   | false=>rw[hb]at this;cases this
  have hn:=defs_nodup hall
  have hlen:(mapE (fun(v_:Ai)=>((.agg (E1 v_)):AV)) (dv (Ap f))).length=(Ap f).length:=by simp[mapE,dv]
  have hkeys:((shv (Ap f)).map (·.1)).Nodup:=by
   have:(shv (Ap f)).map (·.1)=(Ap f).map (·.V):=by unfold shv;rw[List.map_map];rfl
   rw[this];exact hn
  have hrun:∀ τ:List Nat,τ.Perm (List.range (mapE (fun(v_:Ai)=>((.agg (E1 v_)):AV)) (dv (Ap f))).length)→∃ x',T9 (Hr (Ge f 2,f,2,t,u,dv (Ap f))) Ix τ ([]:List (Int×(Int×Int)))=some x'∧permN x' (shv (Ap f)):=fun τ hτ=>by
   rw[hlen]at hτ;have hr:=run_shapes (x1:=(Ge f 2,f,2,t,u,dv (Ap f))) (Ap f) rfl hn τ [] (hτ.nodup_iff.2 List.nodup_range) (fun i hi=>List.mem_range.1 (hτ.mem_iff.1 hi)) (fun _ _=>rfl);refine⟨_,hr,?_,hkeys⟩;rw[List.nil_append];have:=hτ.map fun i=>(((Ap f).getD i default).V,((Ap f).getD i default).Shape);refine this.trans ?_
   have e:(List.range (Ap f).length).map (fun i=>(((Ap f).getD i default).V,((Ap f).getD i default).Shape))=shv (Ap f):=by
    unfold shv
    apply List.ext_getElem
    ·simp
    ·intro i h1 h2;simp only[List.length_map,List.length_range]at h1;simp only[List.getElem_map,List.getElem_range,Ah _ _ _ h1]
   rw[e]
  obtain⟨s,hs⟩:=rangeP_ex ⟨shv (Ap f),hrun⟩
  have hp:s.Perm (shv (Ap f))∧(s.map (·.1)).Nodup:=by
   have hsp:=Yr hs (List.range _) (List.Perm.refl _);obtain⟨x',h1,h2⟩:=hsp;obtain⟨x2,h3,h4⟩:=hrun (List.range _) (List.Perm.refl _);rw[h1]at h3;obtain rfl:=OI h3;exact⟨h2.1.symm.trans h4.1,h2.2⟩
  refine⟨s,?_,fun hne=>absurd h0 hne,fun _=>?_,fun _ d hd=>?_,fun _ v hv=>?_⟩
  ·show(V5 permN _ _ _ _).bind _=_
   rw[hs];rfl
  ·rw[hp.1.length_eq];simp[shv]
  ·have hm:(d.V,d.Shape)∈s:=hp.1.mem_iff.2 (List.mem_map.2 ⟨d,hd,rfl⟩);exact Wv hp.2 hm
  ·rw[Tt,List.any_eq_true]at hv;obtain⟨q,hq,he⟩:=hv;obtain⟨d,hd,rfl⟩:=List.mem_map.1 (hp.1.mem_iff.1 hq);exact⟨d,hd,by simpa using(by simpa using he:v=d.V).symm⟩
theorem facts11:Facts11:=⟨fun f l h=>c_check f l h,fun f h=>c_last f h,fun f h=>c_shapes f h⟩
end
end Go.Proofs.YtggpeloimmlkgaaGreat
