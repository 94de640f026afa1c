/-
  The machine, the program's functions and the laws' arithmetic: part 7 of 7.
-/
import Derived.Test.YtggpeloimmlkgaaGreatPk6
set_option linter.unusedVariables false
set_option linter.unusedSimpArgs false
namespace Go.Proofs.YtggpeloimmlkgaaGreat
noncomputable section
open Go Go.RowKit
theorem m_index(t:List Int)(v:Int)(ht:t.length≤1000):(∃ r:Nat,r<t.length∧t.getD r 0=v∧(∀ i,i<r→t.getD i 0≠v)∧E4 t v=some (r:Int))∨((∀ i,i<t.length→t.getD i 0≠v)∧E4 t v=some (-1)):=by
 have key:∀ k i:Nat,i+k=t.length→(∀ j,j<i→t.getD j 0≠v)→
   (∃ r:Nat,r<t.length∧t.getD r 0=v∧(∀ i,i<r→t.getD i 0≠v)∧Ag (B6 t v) (i:Int)=some (.inr (r:Int)))∨((∀ i,i<t.length→t.getD i 0≠v)∧Ag (B6 t v) (i:Int)=some (.inl ())):=by
  intro k
  induction k with
  | zero=>
   intro i hi hj
   obtain rfl:i=t.length:=by omega
   refine .inr ⟨hj,Ao ?_⟩;unfold B6;rw[Gi];rfl
  | succ k ih=>
   intro i hi hj
   by_cases e:v=t.getD i 0
   ·refine .inl ⟨i,by omega,e.symm,hj,Ao ?_⟩;unfold B6;have hb:((v:Int)==t.getD i 0)=true:=beq_iff_eq.2 e;simp only[Dv (show i<t.length by omega),cond_true,As,hb];rw[Ab (Fm (by omega))]
   ·have hs:B6 t v (i:Int)=some (.next ((i+1:Nat):Int)):=by
     unfold B6;have hb:((v:Int)==t.getD i 0)=false:=beq_eq_false_iff_ne.2 e;simp only[Dv (show i<t.length by omega),cond_true,As,hb,cond_false];rw[Ab (Fm (by omega)),w1 (by omega)]
    rw[Au hs]
    exact ih (i+1) (by omega) fun j hj2=>by
     by_cases ej:j=i
     ·subst ej;exact fun h=>e h.symm
     ·exact hj j (by omega)
 have h0:=key t.length 0 (by omega) (fun j hj=>absurd hj (Nat.not_lt_zero _));unfold E4;rcases h0 with⟨r,h1,h2,h3,h4⟩|⟨h1,h2⟩
 ·exact .inl ⟨r,h1,h2,h3,by rw[show((0:Int))=((0:Nat):Int) from rfl,h4];rfl⟩
 ·exact .inr ⟨h1,by rw[show((0:Int))=((0:Nat):Int) from rfl,h2];rfl⟩
section
variable {t:List Int}
structure Ve(t:List Int)(r f:Nat)(w:List Int):Prop where
 len:w.length=t.length
 old:∀ y,y<t.length→w.getD y 0≠0→(w.getD y 0≤(f:Int))∧∃ k,Tp t y r k
structure Walk(t:List Int)(r f x:Nat)(w:List Int):Prop where
 len:w.length=t.length
 hx:x<t.length
 old:∀ y,y<t.length→w.getD y 0≠0→w.getD y 0≤(f:Int)∧(∃ k,Tp t y r k)∨w.getD y 0=((f+1:Nat):Int)∧∀ r' k,Tp t x r' k→∃ j,k<j∧Tp t y r' j
 fwd:∀ r' k,Tp t x r' k→∃ j,k≤j∧Tp t f r' j
 back:∀ r' k,Tp t f r' k→∃ j,Tp t x r' j
def zeros(w:List Int):Nat:=w.countP fun z=>z==0
theorem zeros_set{w:List Int}{x:Nat}{v:Int}(hx:x<w.length)(h0:w.getD x 0=0)(hv:v≠0):zeros (w.set x v)<zeros w:=by
 unfold zeros;rw[List.countP_set hx];rw[Ah _ _ _ hx]at h0;have hp:0<w.countP fun z=>z==0:=List.countP_pos_iff.2 ⟨w[x],List.getElem_mem hx,by simp[h0]⟩;have hb:(v==0)=false:=beq_eq_false_iff_ne.2 hv;simp only[h0,beq_self_eq_true,if_true,hb,Bool.false_eq_true,if_false];omega
theorem leads_loop(ht:t.length≤1000){r:Nat}(hr:r<t.length)(htop:t.getD r 0 = -1){f:Nat}(hf:f<t.length):∀(m x:Nat) (w:List Int),zeros w≤m→Walk t r f x w→
  (∃ w',Ag (Dl t (f:Int) (r:Int)) ((x:Int),w)=some (.inl w')∧Ve t r (f+1) w'∧∃ k,Tp t f r k) ∨
  ∃ b w',Ag (Dl t (f:Int) (r:Int)) ((x:Int),w)=some (.inr (b,w'))∧w'.length=t.length∧(b=true→Ve t r (f+1) w'∧∃ k,Tp t f r k)∧(b=false→∀ k,¬ Tp t f r k):=by
 intro m
 induction m with
 | zero=>
  intro x w hz hw;exact go 0 (fun x w hz=>absurd hz (Nat.not_lt_zero _)) x w hz hw
 | succ m ih=>
  intro x w hz hw;exact go (m+1) (fun x w hz=>ih x w (Nat.le_of_lt_succ hz)) x w hz hw
where
 go (m:Nat) (ih:∀(x:Nat) (w:List Int),zeros w<m→Walk t r f x w→
  (∃ w',Ag (Dl t (f:Int) (r:Int)) ((x:Int),w)=some (.inl w')∧Ve t r (f+1) w'∧∃ k,Tp t f r k) ∨
  ∃ b w',Ag (Dl t (f:Int) (r:Int)) ((x:Int),w)=some (.inr (b,w'))∧w'.length=t.length∧(b=true→Ve t r (f+1) w'∧∃ k,Tp t f r k)∧(b=false→∀ k,¬ Tp t f r k)) (x:Nat) (w:List Int) (hz:zeros w≤m) (hw:Walk t r f x w) :
  (∃ w',Ag (Dl t (f:Int) (r:Int)) ((x:Int),w)=some (.inl w')∧Ve t r (f+1) w'∧∃ k,Tp t f r k) ∨
  ∃ b w',Ag (Dl t (f:Int) (r:Int)) ((x:Int),w)=some (.inr (b,w'))∧w'.length=t.length∧(b=true→Ve t r (f+1) w'∧∃ k,Tp t f r k)∧(b=false→∀ k,¬ Tp t f r k):=by
  have hxl:=hw.hx
  have told:∀ k,Tp t x r k→Ve t r (f+1) w∧∃ k,Tp t f r k:=fun k hk=>by
   obtain⟨j,_,hj⟩:=hw.fwd _ _ hk;refine⟨⟨hw.len,fun y hy hy0=>?_⟩,j,hj⟩;rcases hw.old y hy hy0 with⟨h1,h2⟩|⟨h1,h2⟩
   ·exact⟨by omega,h2⟩
   ·obtain⟨i,_,hi⟩:=h2 _ _ hk;exact⟨by omega,i,hi⟩
  by_cases hxr:x=r
  ·subst hxr;refine .inl ⟨w,Ao ?_,told 0 (.top hr htop)⟩;unfold Dl
   have hb:((x:Int)!=(x:Int))=false:=by simp
   simp only[hb,cond_false]
  ·have hb:((x:Int)!=(r:Int))=true:=by rw[bne_iff_ne];omega
   have hin:A9 (x:Int) w.length:=Fm (by rw[hw.len];exact hxl)
   by_cases hw0:w.getD x 0=0
   ·have hb0:((w.getD x 0:Int)!=0)=false:=by rw[hw0];rfl
    by_cases hpl:0≤t.getD x 0∧t.getD x 0<(t.length:Int)
    ·have hwf:w64 ((f:Int)+1)=((f+1:Nat):Int):=w1 (by omega)
     have hs:Dl t (f:Int) (r:Int) ((x:Int),w)=some (.next (t.getD x 0,w.set x ((f+1:Nat):Int))):=by
      unfold Dl I4;simp only[hb,cond_true,As,hb0,cond_false];rw[Ab hin,Ab (Fm hxl),decide_eq_true hpl.1,decide_eq_true hpl.2,cond_true,Option.bind_some,Bool.not_true,cond_false,Ab hin,Ab (Fm hxl),hwf]
     rw[Au hs];obtain⟨y,hy⟩:∃ y:Nat,t.getD x 0=(y:Int):=⟨(t.getD x 0).toNat,(Int.toNat_of_nonneg hpl.1).symm⟩;rw[hy]at hpl ⊢
     have hyl:y<t.length:=by omega
     have hst:∀ r' k,Tp t y r' k→Tp t x r' (k+1):=fun r' k hk=>.up hxl hy hk
     have hset:∀ z,z<t.length→(w.set x ((f+1:Nat):Int)).getD z 0=if z=x then((f+1:Nat):Int) else w.getD z 0:=fun z _=>Aao (by rw[hw.len];exact hxl)
     have hW:Walk t r f y (w.set x ((f+1:Nat):Int)):=by
      refine⟨by simp[hw.len],hyl,fun z hzl hz0=>?_,fun r' k hk=>?_,fun r' k hk=>?_⟩
      ·rw[hset z hzl]at hz0 ⊢
       by_cases e:z=x
       ·subst e;rw[if_pos rfl];exact .inr ⟨rfl,fun r' k hk=>⟨k+1,by omega,hst r' k hk⟩⟩
       ·rw[if_neg e]at hz0 ⊢;rcases hw.old z hzl hz0 with h1|⟨h1,h2⟩
        ·exact .inl h1
        ·refine .inr ⟨h1,fun r' k hk=>?_⟩;obtain⟨j,hj1,hj2⟩:=h2 _ _ (hst r' k hk);exact⟨j,by omega,hj2⟩
      ·obtain⟨j,hj1,hj2⟩:=hw.fwd _ _ (hst r' k hk);exact⟨j,by omega,hj2⟩
      ·obtain⟨j,hj⟩:=hw.back _ _ hk
       cases hj with
       | top _ h2=>omega
       | up _ h2 h3=>
        have:=hy.symm.trans h2
        cases Int.ofNat.inj this
        exact⟨_,h3⟩
     have hzz:=zeros_set (x:=x) (v:=((f+1:Nat):Int)) (by rw[hw.len];exact hxl) hw0 (by omega);exact ih y _ (by omega) hW
    ·refine .inr ⟨false,w,Ao ?_,hw.len,⟨fun h=>(by cases h),fun _ k hk=>?_⟩⟩
     ·unfold Dl I4;simp only[hb,cond_true,As,hb0,cond_false];rw[Ab hin,Ab (Fm hxl)]
      have:(bif decide ((0:Int)≤t.getD x 0) then decide (t.getD x 0<(t.length:Int)) else false)=false:=by
       cases h1:decide ((0:Int)≤t.getD x 0) with
       | false=>rfl
       | true=>rw[cond_true];exact decide_eq_false fun h2=>hpl ⟨of_decide_eq_true h1,h2⟩
      rw[this,Option.bind_some]
      rfl
     ·obtain⟨j,hj⟩:=hw.back _ _ hk
      cases hj with
      | top=>exact hxr rfl
      | up _ h2 h3=>have:=h3.lt;exact hpl ⟨by omega,by omega⟩
   ·have hb0:((w.getD x 0:Int)!=0)=true:=by rw[bne_iff_ne];exact hw0
    have hwf:w64 ((f:Int)+1)=((f+1:Nat):Int):=w1 (by omega);refine .inr ⟨w.getD x 0 !=((f+1:Nat):Int),w,Ao ?_,hw.len,⟨fun h=>?_,fun h k hk=>?_⟩⟩
    ·unfold Dl;simp only[hb,cond_true,As,hb0];rw[Ab hin,Ab hin,hwf]
    ·rcases hw.old x hxl hw0 with⟨_,k,hk⟩|⟨h1,_⟩
     ·exact told k hk
     ·rw[h1]at h;simp at h
    ·have he:w.getD x 0=((f+1:Nat):Int):=by simpa using h
     obtain⟨j,hj⟩:=hw.back _ _ hk;rcases hw.old x hxl hw0 with⟨h1,_⟩|⟨_,h2⟩
     ·omega
     ·obtain⟨i,hi1,hi2⟩:=h2 _ _ hj;have:=hj.det hi2;omega
end
section
variable {t:List Int}
theorem m_leads(ht:t.length≤1000){r:Nat}(hr:r<t.length)(htop:t.getD r 0 = -1){f:Nat}(hf:f<t.length){w:List Int}(hw:Ve t r f w) :
  ∃ b w',Ns t w (f:Int) (r:Int)=some (b,w')∧w'.length=t.length∧(b=true→Ve t r (f+1) w'∧∃ k,Tp t f r k)∧(b=false→∀ k,¬ Tp t f r k):=by
 unfold Ns;have hW:Walk t r f f w:=⟨hw.len,hf,fun y hy h0=>.inl (hw.old y hy h0),fun r' k hk=>⟨k,Nat.le_refl _,hk⟩,fun r' k hk=>⟨k,hk⟩⟩;rcases leads_loop ht hr htop hf _ f w (Nat.le_refl _) hW with⟨w',e1,e2⟩|⟨b,w',e1,e2,e3,e4⟩
 ·exact⟨true,w',by rw[e1];rfl,e2.1.len,fun _=>e2,fun h=>by cases h⟩
 ·exact⟨b,w',by rw[e1];rfl,e2,e3,e4⟩
def AllUp(t:List Int)(r:Nat):Prop:=∀ f,f<t.length→t.getD f 0≠-2→∃ k,Tp t f r k
open Classical in
theorem isTree_loop(ht:t.length≤1000){r:Nat}(hr:r<t.length)(htop:t.getD r 0 = -1):∀(k f:Nat) (w:List Int),f+k=t.length→Ve t r f w→(∀ y,y<f→t.getD y 0≠-2→∃ k,Tp t y r k)→
  Ag (Fl t (r:Int)) ((f:Int),w)=some (if AllUp t r then .inl () else .inr false):=by
 intro k
 induction k with
 | zero=>
  intro f w hk hw hd
  obtain rfl:f=t.length:=by omega
  apply Ao
  unfold Fl;simp only[Gi,cond_false];rw[if_pos (show AllUp t r from hd)]
 | succ k ih=>
  intro f w hk hw hd
  have hf:f<t.length:=by omega
  by_cases h2:t.getD f 0 = -2
  ·have hb:((t.getD f 0:Int)!=(-2))=false:=by rw[h2];rfl
   have hs:Fl t (r:Int) ((f:Int),w)=some (.next (((f+1:Nat):Int),w)):=by
    unfold Fl;simp only[Dv hf,cond_true,As,hb,show(false==true)=false from rfl,cond_false,Option.bind_some];rw[Ab (Fm hf),Ab (fun h=>by cases h),w1 (by omega)]
   rw[Au hs];refine ih (f+1) w (by omega) ⟨hw.len,fun y hy h0=>?_⟩ fun y hy hy2=>?_
   ·obtain⟨e1,e2⟩:=hw.old y hy h0;exact⟨by omega,e2⟩
   ·by_cases e:y=f
    ·subst e;exact absurd h2 hy2
    ·exact hd y (by omega) hy2
  ·have hb:((t.getD f 0:Int)!=(-2))=true:=by rw[bne_iff_ne];exact h2
   obtain⟨b,w',e1,e2,e3,e4⟩:=m_leads ht hr htop hf hw
   cases b with
   | false=>
    rw[if_neg (fun hA:AllUp t r=>by obtain⟨k,hk⟩:=hA f hf h2;exact e4 rfl k hk)]
    apply Ao
    unfold Fl;simp only[Dv hf,cond_true,As,hb,show(true==true)=true from rfl,e1,Option.bind_some];rw[Ab (Fm hf),Ab (fun _=>by rw[hw.len,e2])]
    rfl
   | true=>
    have hs:Fl t (r:Int) ((f:Int),w)=some (.next (((f+1:Nat):Int),w')):=by
     unfold Fl;simp only[Dv hf,cond_true,As,hb,show(true==true)=true from rfl,e1,Option.bind_some];rw[Ab (Fm hf),Ab (fun _=>by rw[hw.len,e2]),w1 (by omega)]
     rfl
    rw[Au hs];obtain⟨e5,e6⟩:=e3 rfl;refine ih (f+1) w' (by omega) e5 fun y hy hy2=>?_
    by_cases e:y=f
    ·subst e;exact e6
    ·exact hd y (by omega) hy2
theorem tops_one:topsK t t.length=1↔∃ r,r<t.length∧t.getD r 0 = -1∧∀ x,x<t.length→t.getD x 0 = -1→x=r:=by
 have key:∀ n,(topsK t n=0↔∀ x,x<n→t.getD x 0≠-1)∧(topsK t n=1↔∃ r,r<n∧t.getD r 0 = -1∧∀ x,x<n→t.getD x 0 = -1→x=r):=by
  intro n
  induction n with
  | zero=>exact⟨⟨fun _ x hx=>absurd hx (Nat.not_lt_zero _),fun _=>rfl⟩,⟨fun h=>by simp[topsK]at h,fun⟨r,h,_⟩=>absurd h (Nat.not_lt_zero _)⟩⟩
  | succ n ih=>
   rw[V4]
   by_cases e:t.getD n 0 = -1
   ·rw[if_pos e];refine⟨⟨fun h=>by omega,fun h=>absurd e (h n (by omega))⟩,⟨fun h=>⟨n,by omega,e,fun x hx hx1=>?_⟩,fun⟨r,h1,h2,h3⟩=>?_⟩⟩
    ·by_cases ex:x=n
     ·exact ex
     ·exact absurd hx1 (ih.1.1 (by omega) x (by omega))
    ·have:=ih.1.2 fun x hx hx1=>by
      have:=h3 x (by omega) hx1;have:=h3 n (by omega) e;omega
     omega
   ·rw[if_neg e,Nat.add_zero];refine⟨⟨fun h x hx=>?_,fun h=>ih.1.2 fun x hx=>h x (by omega)⟩,⟨fun h=>?_,fun⟨r,h1,h2,h3⟩=>?_⟩⟩
    ·by_cases ex:x=n
     ·subst ex;exact e
     ·exact ih.1.1 h x (by omega)
    ·obtain⟨r,h1,h2,h3⟩:=ih.2.1 h;refine⟨r,by omega,h2,fun x hx hx1=>?_⟩
     by_cases ex:x=n
     ·subst ex;exact absurd hx1 e
     ·exact h3 x (by omega) hx1
    ·refine ih.2.2 ⟨r,?_,h2,fun x hx hx1=>h3 x (by omega) hx1⟩
     by_cases ex:r=n
     ·subst ex;exact absurd h2 e
     ·omega
 exact(key _).2
theorem rightD_iff:Jo t=true↔∃ r,r<t.length∧t.getD r 0 = -1∧AllUp t r:=by
 unfold Jo;rw[Bool.and_eq_true,all_range,decide_eq_true_eq,tops_one]
 constructor
 ·rintro⟨h1,r,h2,h3,h4⟩;refine⟨r,h2,h3,fun f hf hf2=>?_⟩;have:=h1 f hf;unfold okR at this;rw[Bool.or_eq_true,decide_eq_true_eq,Bool.not_eq_true',decide_eq_false_iff_not]at this;rcases this with h|h
  ·exact absurd h hf2
  ·obtain⟨x,r',k,e,hk⟩:=pathD_tp.1 h
   cases Int.ofNat.inj e
   have:=h4 _ hk.tops.1 hk.tops.2;subst this;exact⟨k,hk⟩
 ·rintro⟨r,h2,h3,h4⟩;refine⟨fun f hf=>?_,r,h2,h3,fun x hx hx1=>?_⟩
  ·unfold okR;rw[Bool.or_eq_true,decide_eq_true_eq,Bool.not_eq_true',decide_eq_false_iff_not]
   by_cases e:t.getD f 0 = -2
   ·exact .inl e
   ·obtain⟨k,hk⟩:=h4 f hf e;exact .inr (pathD_tp.2 ⟨f,r,k,rfl,hk⟩)
  ·obtain⟨k,hk⟩:=h4 x hx (by omega);exact((hk.det (.top hx hx1)).1).symm
theorem rightD_at(hR:Jo t=true):∃ r,AllUp t r:=by obtain⟨r,_,_,h⟩:=rightD_iff.1 hR;exact⟨r,h⟩
theorem m_isTree(ht:t.length≤1000):Mk t=some (Jo t):=by
 unfold Mk
 have hroom:(1000:Nat)≤room:=by decide
 rcases m_index t (-1) ht with⟨r,h1,h2,h3,h4⟩|⟨h1,h2⟩
 ·rw[h4,Option.bind_some,show decide ((r:Int)<0)=false from decide_eq_false (by omega),cond_false,Ab ⟨by omega,by omega,by omega⟩,As];have hl:=isTree_loop ht h1 h2 t.length 0 (List.replicate t.length 0) (by omega) ⟨by simp,fun y hy h0=>absurd Oz h0⟩ (fun y hy=>absurd hy (Nat.not_lt_zero _));rw[show(((0:Nat):Int))=0 from rfl]at hl;rw[hl,Option.bind_some]
  by_cases hA:AllUp t r
  ·rw[if_pos hA,rightD_iff.2 ⟨r,h1,h2,hA⟩]
  ·rw[if_neg hA]
   have:Jo t=false:=Bool.eq_false_iff.2 fun hR=>by
    obtain⟨r',g1,g2,g3⟩:=rightD_iff.1 hR;obtain⟨k,hk⟩:=g3 r h1 (by omega);have:=(hk.det (.top h1 h2)).1;subst this;exact hA g3
   rw[this]
 ·rw[h2,Option.bind_some]
  have:Jo t=false:=Bool.eq_false_iff.2 fun hR=>by
   obtain⟨r',g1,g2,g3⟩:=rightD_iff.1 hR;exact h1 r' g1 g2
  rw[this]
  rfl
def Vy(t:List Int)(a:Int):Bool:=decide (0≤a)&&decide (a<(t.length:Int))&&decide (t.getD a.toNat 0≠-2)
theorem Aap(hR:Jo t=true){a:Int}:Vy t a=true↔∃ x k r:Nat,a=(x:Int)∧Tp t x r k:=by
 unfold Vy;rw[Bool.and_eq_true,Bool.and_eq_true,decide_eq_true_eq,decide_eq_true_eq,decide_eq_true_eq]
 constructor
 ·rintro⟨⟨h1,h2⟩,h3⟩;obtain⟨r,hA⟩:=rightD_at hR;obtain⟨k,hk⟩:=hA a.toNat (by omega) h3;exact⟨a.toNat,k,r,(Int.toNat_of_nonneg h1).symm,hk⟩
 ·rintro⟨x,k,r,rfl,h⟩;have:=h.lt;refine⟨⟨by omega,by omega⟩,?_⟩;rw[As]
  cases h with
  | top _ h2=>omega
  | up _ h2 _=>omega
theorem Aa1(a:Int):Jh t a=some (Vy t a):=by
 unfold Jh I4 Vy;rw[Option.bind_some]
 cases h1:decide ((0:Int)≤a) with
 | false=>rfl
 | true=>
  rw[cond_true,Bool.true_and]
  cases h2:decide (a<(t.length:Int)) with
  | false=>rfl
  | true=>
   rw[Ab (fun _=>⟨of_decide_eq_true h1,of_decide_eq_true h2⟩),cond_true,Bool.true_and]
   congr 1
   rw[Bool.eq_iff_iff,bne_iff_ne,decide_eq_true_eq]
theorem m_areIn(ht:t.length≤1000)(a b:Int):Nr t a b=some (Jo t&&Vy t a&&Vy t b):=by
 unfold Nr;rw[m_isTree ht,Option.bind_some]
 cases Jo t with
 | false=>rfl
 | true=>
  simp only[show(true==true)=true from rfl,cond_true,Aa1,Option.bind_some,Bool.true_and]
  cases Vy t a with
  | false=>rfl
  | true=>simp only[show(true==true)=true from rfl,cond_true,Aa1,Option.bind_some,Bool.true_and]
theorem meetD_out{a b:Int}(h:(Jo t&&Vy t a&&Vy t b)=false):Mz t a b = -2:=by
 unfold Mz
 by_cases hR:Jo t=true
 ·rw[if_pos hR];rw[hR,Bool.true_and]at h
  have hno:∀ c,Vy t c=false→Dw t c=[]:=fun c hc=>by
   by_cases e:Dw t c=[]
   ·exact e
   ·obtain⟨x,r,k,e1,e2⟩:=pathD_tp.1 e;rw[(Aap hR).2 ⟨x,k,r,e1,e2⟩]at hc;cases hc
  cases ha:Vy t a with
  | false=>rw[hno a ha];rfl
  | true=>
   rw[ha,Bool.true_and]at h;rw[hno b h]
   have:((Dw t a).find? fun x=>([]:List Int).contains x)=none:=List.find?_eq_none.2 fun x _=>by simp
   rw[this]
   rfl
 ·rw[if_neg hR]
theorem meet_prog_doc(ht:t.length≤1000){a b:Int}(h:(Jo t&&Vy t a&&Vy t b)=true):Ko t a b=some (Mz t a b)∧0≤Mz t a b:=by
 rw[Bool.and_eq_true,Bool.and_eq_true]at h;obtain⟨⟨hR,ha⟩,hb⟩:=h;obtain⟨x,k,r,rfl,hx⟩:=(Aap hR).1 ha;obtain⟨y,m,r',rfl,hy⟩:=(Aap hR).1 hb;obtain⟨rr,hA⟩:=rightD_at hR
 have top:∀{x r k},Tp t x r k→r=rr:=fun{x r k} h=>by
  obtain⟨i,hi⟩:=hA r h.tops.1 (by rw[h.tops.2];omega);exact((Tp.top h.tops.1 h.tops.2).det hi).1
 obtain rfl:=top hx;obtain rfl:=top hy;obtain⟨c,h1,h2⟩:=Yj ht hx hy;obtain⟨d,h3,h4⟩:=meetD_at hR hx hy;have:=h2.same hx h4;subst this;exact⟨by rw[h1,h3],by omega⟩
theorem m_Over(ht:t.length≤1000)(a b:Int):Or t a b=some (Vo t a b):=by
 unfold Or Vo;rw[m_areIn ht,Option.bind_some]
 cases h:(Jo t&&Vy t a&&Vy t b) with
 | false=>
  rw[meetD_out h]
  have:((-2:Int)==a&&((-2:Int)!=-2))=false:=by simp
  rw[this]
  rfl
 | true=>
  obtain⟨h1,h2⟩:=meet_prog_doc ht h;simp only[show(true==true)=true from rfl,cond_true,h1,Option.bind_some]
  have:(Mz t a b !=-2)=true:=by rw[bne_iff_ne];omega
  rw[this,Bool.and_true]
end
theorem mul_fin:∀ n:Fin 65,L3 (Ho 1) (Ho ((n.val:Nat):Int))=some (0,((n.val:Nat):Int)):=by decide +kernel
theorem mul_small{n:Nat}(h:n≤64):L3 (Ho 1) (Ho (n:Int))=some (0,(n:Int)):=mul_fin ⟨n,by omega⟩
theorem repeat_loop{v:Int}{n:Nat}(hn:n≤64):∀(m i:Nat) (l:List Int),n-i≤m→1≤i→i≤n→l.length=n→(∀ j,j<i→l.getD j 0=v)→Ag Cl ((i:Int),l)=some (List.replicate n v):=by
 intro m
 induction m with
 | zero=>
  intro i l hm h1 h2 hl hv
  obtain rfl:i=n:=by omega
  exact fin l hl hv
 | succ m ih=>
  intro i l hm h1 h2 hl hv
  by_cases e:i=n
  ·subst e;exact fin l hl hv
  ·have hs:Cl ((i:Int),l)=some (.next (((i+Nat.min i (n-i):Nat):Int),cpL l i (Nat.min i (n-i)) (fun j=>l.getD (0+j) 0))):=by
    unfold Cl;simp only[hl,Dv (show i<n by omega),cond_true,As,Nat.zero_add,Nat.sub_zero];have hc:(0:Int)≤(i:Int)∧i≤n:=⟨by omega,h2⟩;have hmn:Nat.min i (n-i)≤i:=Nat.min_le_left _ _;rw[Ab hc,Ab hc,I7 (by omega) (by omega),Int.natCast_add]
   rw[Au hs];have hmn:Nat.min i (n-i)≤i∧Nat.min i (n-i)≤n-i:=⟨Nat.min_le_left _ _,Nat.min_le_right _ _⟩;have hge:1≤Nat.min i (n-i):=Nat.le_min.2 ⟨h1,by omega⟩;refine ih _ _ (by omega) (by omega) (by omega) (by rw[← H9];exact hl) fun j hj=>?_;rw[Aah _ _ _ _ _ _ (by omega)]
   by_cases hji:i≤j∧j<i+Nat.min i (n-i)
   ·rw[if_pos hji,Nat.zero_add];exact hv _ (by omega)
   ·rw[if_neg hji];exact hv _ (by omega)
where
 fin {v:Int} {i:Nat} (l:List Int) (hl:l.length=i) (hv:∀ j,j<i→l.getD j 0=v):Ag Cl ((i:Int),l)=some (List.replicate i v):=by
  apply Ao
  unfold Cl;simp only[hl,Gi,cond_false]
  congr 2
  refine List.ext_getElem (by simp[hl]) fun j h1 h2=>?_;rw[← Ah _ _ 0 h1,hv j (by omega)]
  simp
theorem m_repeat{v:Int}{n:Nat}(h1:1≤n)(hn:n≤64):Ga [v] (n:Int)=some (List.replicate n v):=by
 have hroom:(64:Nat)≤room:=by decide
 unfold Ga;rw[show decide ((n:Int)<0)=false from decide_eq_false (by omega),cond_false,Option.bind_some]
 show Option.bind (L3 (Ho 1) (Ho (n:Int))) _=_
 rw[mul_small hn,Option.bind_some];have e1:decide ((0:Int)<(0:Int))=false:=rfl;have e2:decide ((9223372036854775807:Int)<(n:Int))=false:=decide_eq_false (by omega);simp only[e1,e2,cond_false,Option.bind_some];have ew:w64 (n:Int)=(n:Int):=I7 (by omega) (by omega);rw[ew,Ab ⟨by omega,by omega,by omega⟩,As,List.length_replicate,Nat.sub_zero];have em:Nat.min [v].length n=1:=Nat.min_eq_left h1;rw[em,repeat_loop hn n 1 _ (by omega) (Nat.le_refl _) h1 (by rw[← H9];simp) (fun j hj=>?_)]
 ·rfl
 ·rw[Aah _ _ _ _ _ _ (by simp;omega),if_pos ⟨by omega,by omega⟩]
  have:j-0=0:=by omega
  rw[this];rfl
theorem meet_v2(t:List Int)(a b:Int):Lt t a b=(Ko t a b).map fun c=>(c,t):=by
 have e1:M7 t=Fi t:=rfl;have e2:M8 t=Fj t:=rfl;unfold Lt Ko;rw[e1,e2]
 by_cases hc:0≤(t.length:Int)∧(t.length:Int)≤(t.length:Int)∧(t.length:Int)≤(room:Int)
 ·rw[Ab hc,Ab hc]
  cases Ag (Fi t) (a,List.replicate ((t.length:Int)).toNat false) with
  | none=>rfl
  | some x=>
   rw[Option.bind_some,Option.bind_some]
   cases Ag (Fj t x) b with
   | none=>rfl
   | some y=>rfl
 ·have hf:∀{R:Type} (k:Option R),A8 (0≤(t.length:Int)∧(t.length:Int)≤(t.length:Int)∧(t.length:Int)≤(room:Int)) k=none:=fun k=>if_neg hc;rw[hf,hf]
  rfl
section
variable {S:Nat→List Nat} {r n:Nat} {P:List Nat}
theorem Inv.tp{at_:Nat→Nat}{t:List Int}(h:Inv S r n at_ (Bh t))(hl:t.length=n):∀ m x,at_ x≤m→x<n→Bh t x≠-2→∃ k,Tp t x r k:=by
 intro m
 induction m with
 | zero=>
  intro x hm hx hp;rcases h.kind x hx with h1|h1|⟨z,hz⟩
  ·exact absurd h1 hp
  ·subst h1;exact⟨0,.top (by omega) h.top⟩
  ·obtain⟨_,_,h3,_⟩:=h.up x hx z hz;omega
 | succ m ih=>
  intro x hm hx hp;rcases h.kind x hx with h1|h1|⟨z,hz⟩
  ·exact absurd h1 hp
  ·subst h1;exact⟨0,.top (by omega) h.top⟩
  ·obtain⟨z1,z2,z3,_⟩:=h.up x hx z hz;obtain⟨k,hk⟩:=ih z (by omega) z1 z2;exact⟨k+1,.up (by omega) hz hk⟩
def V5(t l:List Int)(i:Nat)(v:Int):Prop:=
 (v = -2∧∀ j,j<i→Bh t (l.getD j 0).toNat = -2) ∨
 ∃ z:Nat,v=(z:Int)∧z<t.length∧Bh t z≠-2∧(∀ w,UpTo (Bh t) z w↔∀ j,j<i→Bh t (l.getD j 0).toNat≠-2→UpTo (Bh t) (l.getD j 0).toNat w)
theorem meetAll_loop{at_:Nat→Nat}{t l:List Int}(ht:t.length≤64)(hll:l.length≤64)(h:Inv S r n at_ (Bh t))(hl:t.length=n)(hin:∀ x∈l,0≤x∧x<(n:Int)):∀(k i:Nat) (v:Int),i+k=l.length→V5 t l i v→
  ∃ v',Ag (Db l) (v,(i:Int),t)=some (v',t)∧V5 t l l.length v':=by
 intro k
 induction k with
 | zero=>
  intro i v hi hv
  obtain rfl:i=l.length:=by omega
  refine⟨v,Ao ?_,hv⟩;unfold Db;simp only[Gi,cond_false]
 | succ k ih=>
  intro i v hi hv
  have hil:i<l.length:=by omega
  obtain⟨x0,x1⟩:=hin _ (Aq (d:=0) hil);have hxe:(((l.getD i 0).toNat:Nat):Int)=l.getD i 0:=Int.toNat_of_nonneg x0;have hxin:A9 (l.getD i 0) t.length:=inbz x0 (by omega)
  have next:∀ v',Db l (v,(i:Int),t)=some (.next (v',((i+1:Nat):Int),t))→V5 t l (i+1) v'→∃ v',Ag (Db l) (v,(i:Int),t)=some (v',t)∧V5 t l l.length v':=fun v' hs hv'=>by
   rw[Au hs];exact ih (i+1) v' (by omega) hv'
  by_cases hp:Bh t (l.getD i 0).toNat = -2
  ·have hb:((t.getD (l.getD i 0).toNat 0:Int)==-2)=true:=beq_iff_eq.2 hp;refine next v ?_ ?_
   ·unfold Db;simp only[Dv hil,cond_true,As,hb];rw[Ab (Fm hil),Ab hxin,Option.bind_some,w1 (by omega)]
   ·have hstep:∀ w,(∀ j,j<i→Bh t (l.getD j 0).toNat≠-2→UpTo (Bh t) (l.getD j 0).toNat w)↔∀ j,j<i+1→Bh t (l.getD j 0).toNat≠-2→UpTo (Bh t) (l.getD j 0).toNat w:=fun w=>by
     refine⟨fun hj j hj1 hj2=>?_,fun hj j hj1=>hj j (by omega)⟩
     by_cases e:j=i
     ·subst e;exact absurd hp hj2
     ·exact hj j (by omega) hj2
    rcases hv with⟨h1,h2⟩|⟨z,h1,h2,h3,h4⟩
    ·refine .inl ⟨h1,fun j hj=>?_⟩
     by_cases e:j=i
     ·subst e;exact hp
     ·exact h2 j (by omega)
    ·exact .inr ⟨z,h1,h2,h3,fun w=>by rw[h4 w,hstep w]⟩
  ·have hb:((t.getD (l.getD i 0).toNat 0:Int)==-2)=false:=beq_eq_false_iff_ne.2 hp;rcases hv with⟨h1,h2⟩|⟨z,h1,h2,h3,h4⟩
   ·subst h1;refine next (l.getD i 0) ?_ (.inr ⟨(l.getD i 0).toNat,hxe.symm,by omega,hp,fun w=>⟨fun hw j hj hj2=>?_,fun hw=>hw i (by omega) hp⟩⟩)
    ·unfold Db;simp only[Dv hil,cond_true,As,hb,cond_false,show((-2:Int)==-2)=true from rfl];rw[Ab (Fm hil),Ab hxin,Option.bind_some,w1 (by omega)]
    ·by_cases e:j=i
     ·subst e;exact hw
     ·exact absurd (h2 j (by omega)) hj2
   ·subst h1;have hb2:((z:Int)==-2)=false:=beq_eq_false_iff_ne.2 (by omega);obtain⟨k1,hk1⟩:=h.tp hl _ z (Nat.le_refl _) (by omega) h3;obtain⟨k2,hk2⟩:=h.tp hl _ (l.getD i 0).toNat (Nat.le_refl _) (by omega) hp;obtain⟨c,c1,c2⟩:=Yj (by omega) hk1 hk2;have hcz:=(c2 c).1 (.refl _);obtain⟨jc,_,hjc,_⟩:=hk1.on hcz.1
    have hcp:Bh t c≠-2:=by
     show t.getD c 0≠-2
     cases hjc with
     | top _ h=>omega
     | up _ h _=>omega
    refine next (c:Int) ?_ (.inr ⟨c,rfl,hjc.lt,hcp,fun w=>?_⟩)
    ·rw[hxe]at c1;unfold Db;simp only[Dv hil,cond_true,As,hb,cond_false,hb2,meet_v2,c1,Option.map_some,Option.bind_some];rw[Ab (Fm hil),Ab hxin,Ab trivial,Option.bind_some,w1 (by omega)]
    ·rw[c2 w,h4 w];refine⟨fun⟨a1,a2⟩ j hj hj2=>?_,fun ha=>⟨fun j hj=>ha j (by omega),ha i (by omega) hp⟩⟩
     by_cases e:j=i
     ·subst e;exact a2
     ·exact a1 j (by omega) hj2
theorem m_meetAll{at_:Nat→Nat}{t l:List Int}(ht:t.length≤64)(hll:l.length≤64)(h:Inv S r n at_ (Bh t))(hl:t.length=n)(hin:∀ x∈l,0≤x∧x<(n:Int)) :
  ∃ v,G2 t l=some (v,t)∧V5 t l l.length v:=by
 obtain⟨v,h1,h2⟩:=meetAll_loop ht hll h hl hin l.length 0 (-2) (by omega) (.inl ⟨rfl,fun j hj=>absurd hj (Nat.not_lt_zero _)⟩);refine⟨v,?_,h2⟩;unfold G2;rw[show((0:Int))=((0:Nat):Int) from rfl,h1]
 rfl
end
section
variable {L:List (List Int)} (hm:Ll L=true) {r:Nat} {P:List Nat}
include hm
theorem sN_iff{p y:Nat}(hp:p<L.length):y∈sN L p↔Tj L p y=true:=by
 rw[goes_iff];obtain⟨_,_,h3⟩:=mayS_iff.1 hm
 constructor
 ·intro h;obtain⟨x,hx,rfl⟩:=List.mem_map.1 h;have:=okL_mem (h3 p hp) hx;rw[Int.toNat_of_nonneg this.1];exact hx
 ·intro h;exact List.mem_map.2 ⟨_,h,As y⟩
theorem W4{y:Nat}(hy:y<L.length){x:Int}:x∈(D8 L).getD y []↔∃ p:Nat,x=(p:Int)∧p<L.length∧y∈sN L p:=by
 rw[predOf_at hy];unfold I5;rw[mem_filt]
 constructor
 ·rintro⟨k,h1,h2,h3⟩;exact⟨k,h1,h2,(sN_iff hm h2).2 h3⟩
 ·rintro⟨k,h1,h2,h3⟩;exact⟨k,h1,h2,(sN_iff hm h2).1 h3⟩
theorem meetAll_best(o:Ordered (sN L) r L.length P){t:List Int}{i:Nat}(h:Ready (sN L) r L.length P t i)(hi:i<P.length) :
  G2 t ((D8 L).getD (P.getD i 0) [])=some ((L2 (sN L) L.length t (P.getD i 0):Int),t):=by
 obtain⟨hL1,hL64,_⟩:=mayS_iff.1 hm;have hyn:P.getD i 0<L.length:=o.lt (List.mem_cons_of_mem _ (Oe hi))
 have hlen:((D8 L).getD (P.getD i 0) []).length≤64:=by
  rw[predOf_at hyn];have:=Rn L L.length (P.getD i 0);omega
 obtain⟨v,h1,h2⟩:=m_meetAll (by rw[h.len];exact hL64) hlen h.inv h.len fun x hx=>by
  obtain⟨p,rfl,hp,_⟩:=(W4 hm hyn).1 hx;omega
 rw[h1];have hb:=h.best o hi
 have mem:∀ p,p<L.length→P.getD i 0∈sN L p→∃ j,j<((D8 L).getD (P.getD i 0) []).length∧(((D8 L).getD (P.getD i 0) []).getD j 0).toNat=p:=fun p hp hy=>by
  obtain⟨j,hj,e⟩:=List.getElem_of_mem ((W4 hm hyn).2 ⟨p,rfl,hp,hy⟩);exact⟨j,hj,by rw[Ah _ _ _ hj,e,As]⟩
 have mem':∀ j,j<((D8 L).getD (P.getD i 0) []).length→(((D8 L).getD (P.getD i 0) []).getD j 0).toNat<L.length∧P.getD i 0∈sN L (((D8 L).getD (P.getD i 0) []).getD j 0).toNat:=fun j hj=>by
  obtain⟨p,e,hp,hy⟩:=(W4 hm hyn).1 (Aq (d:=(0:Int)) hj);rw[e,As];exact⟨hp,hy⟩
 rcases h2 with⟨rfl,h3⟩|⟨z,rfl,hz,hz2,h4⟩
 ·obtain⟨p,hp,hyp,hp2,_⟩:=hb.fwd;obtain⟨j,hj,e⟩:=mem p hp hyp;exact absurd (by rw[← e];exact h3 j hj) hp2
 ·have hbest:Best (sN L) L.length (Bh t) (P.getD i 0) z:=fun w=>by
   rw[h4 w];refine⟨fun ha p hp hyp hp2=>?_,fun ha j hj hj2=>?_⟩
   ·obtain⟨j,hj,e⟩:=mem p hp hyp;have:=ha j hj (by rw[e];exact hp2);rwa[e]at this
   ·obtain⟨q1,q2⟩:=mem' j hj;exact ha _ q1 q2 hj2
  rw[h.best_eq o hi (by rw[← h.len];exact hz) hz2 hbest]
end
theorem ofN_getD{P:List Nat}{i:Nat}(h:i<P.length):(Pt P).getD i 0=((P.getD i 0:Nat):Int):=by
 unfold Pt;rw[Ah _ _ _ (by simpa using h),Ah _ _ _ h,List.getElem_map]
 rfl
theorem set_same{t:List Int}{x:Nat}{v:Int}(hx:x<t.length)(h:t.getD x 0=v):t.set x v=t:=by
 subst h;rw[Ah _ _ _ hx];exact List.set_getElem_self hx
section
variable {L:List (List Int)} (hm:Ll L=true) {r:Nat} {P:List Nat} (o:Ordered (sN L) r L.length P)
include hm o
theorem round_loop{t0:List Int}(h:Ready (sN L) r L.length P t0 0):∀(k i:Nat) (b:Bool),i+k=P.length→
  ∃ b',Ag (Et (Ii L) (Pt (r::P))) (b,(i:Int),Sz (sN L) L.length P t0 i)=some (b',Sz (sN L) L.length P t0 P.length) ∧
   (b'=false↔b=false∧∀ j,i≤j→j<P.length→Bh (Sz (sN L) L.length P t0 j) (P.getD j 0)=(L2 (sN L) L.length (Sz (sN L) L.length P t0 j) (P.getD j 0):Int)):=by
 have hP64:P.length≤64:=by
  have h1:=M9 L.length (r::P) o.nodup fun x hx=>o.lt hx;have h2:=(mayS_iff.1 hm).2.1;simp at h1;omega
 have hdl:(Pt (r::P)).drop (1:Int).toNat=Pt P:=rfl
 have hlen:(Pt P).length=P.length:=by simp[Pt]
 intro k
 induction k with
 | zero=>
  intro i b hi
  obtain rfl:i=P.length:=by omega
  refine⟨b,Ao ?_,fun h=>⟨h,fun j h1 h2=>by omega⟩,fun h=>h.1⟩;unfold Et;simp only[hdl,hlen,Gi,cond_false]
 | succ k ih=>
  intro i b hi
  have hil:i<P.length:=by omega
  have rd:=h.round o i (by omega);have hma:=meetAll_best hm o rd hil;have hyn:P.getD i 0<L.length:=o.lt (List.mem_cons_of_mem _ (Oe hil))
  have hyt:P.getD i 0<(Sz (sN L) L.length P t0 i).length:=by rw[rd.len];exact hyn
  have hpred:(Ii L).Pred=D8 L:=rfl
  by_cases he:Bh (Sz (sN L) L.length P t0 i) (P.getD i 0)=(L2 (sN L) L.length (Sz (sN L) L.length P t0 i) (P.getD i 0):Int)
  ·have hb:((L2 (sN L) L.length (Sz (sN L) L.length P t0 i) (P.getD i 0):Int)!=(Sz (sN L) L.length P t0 i).getD (P.getD i 0) 0)=false:=by
    have:(Sz (sN L) L.length P t0 i).getD (P.getD i 0) 0=_:=he;rw[this];simp
   have hnx:Sz (sN L) L.length P t0 (i+1)=Sz (sN L) L.length P t0 i:=set_same hyt he
   have hs:Et (Ii L) (Pt (r::P)) (b,(i:Int),Sz (sN L) L.length P t0 i)=some (.next (b,((i+1:Nat):Int),Sz (sN L) L.length P t0 (i+1))):=by
    unfold Et;simp only[hdl,hlen,Dv hil,cond_true,As,ofN_getD hil,hpred,hma,Option.bind_some,hb,cond_false];rw[Ab (Fm hil),Ab (Fm (by rw[Nb];exact hyn)),Ab trivial,Ab (Fm hyt),Option.bind_some,w1 (by omega),hnx]
   obtain⟨b',e1,e2⟩:=ih (i+1) b (by omega);refine⟨b',by rw[Au hs,e1],fun h=>?_,fun⟨h1,h2⟩=>e2.2 ⟨h1,fun j hj=>h2 j (by omega)⟩⟩;obtain⟨h1,h2⟩:=e2.1 h;refine⟨h1,fun j hj1 hj2=>?_⟩
   by_cases e:j=i
   ·subst e;exact he
   ·exact h2 j (by omega) hj2
  ·have hb:((L2 (sN L) L.length (Sz (sN L) L.length P t0 i) (P.getD i 0):Int)!=(Sz (sN L) L.length P t0 i).getD (P.getD i 0) 0)=true:=by
    rw[bne_iff_ne];exact fun e=>he e.symm
   have hs:Et (Ii L) (Pt (r::P)) (b,(i:Int),Sz (sN L) L.length P t0 i)=some (.next (true,((i+1:Nat):Int),Sz (sN L) L.length P t0 (i+1))):=by
    unfold Et;simp only[hdl,hlen,Dv hil,cond_true,As,ofN_getD hil,hpred,hma,Option.bind_some,hb];rw[Ab (Fm hil),Ab (Fm (by rw[Nb];exact hyn)),Ab trivial,Ab (Fm hyt),Ab (Fm hyt),Option.bind_some,w1 (by omega)]
    rfl
   obtain⟨b',e1,e2⟩:=ih (i+1) true (by omega);refine⟨b',by rw[Au hs,e1],fun h=>?_,fun⟨h1,h2⟩=>absurd (h2 i (Nat.le_refl _) hil) he⟩;obtain⟨h1,_⟩:=e2.1 h;cases h1
theorem round_all{t0:List Int}(h:Ready (sN L) r L.length P t0 0):∃ b,Ag (Et (Ii L) (Pt (r::P))) (false,(0:Int),t0)=some (b,Sz (sN L) L.length P t0 P.length)∧(b=false↔Rz (sN L) L.length P t0):=by
 obtain⟨b,e1,e2⟩:=round_loop hm o h P.length 0 false (by omega);refine⟨b,e1,e2.trans ⟨fun⟨_,h2⟩=>?_,fun hs=>⟨rfl,fun j _ hj=>?_⟩⟩⟩
 ·have key:∀ j,j≤P.length→Sz (sN L) L.length P t0 j=t0:=by
   intro j
   induction j with
   | zero=>intro _;rfl
   | succ j ih=>
    intro hj;have ih':=ih (by omega);have rd:=h.round o j (by omega)
    have hyn:P.getD j 0<(Sz (sN L) L.length P t0 j).length:=by rw[rd.len];exact o.lt (List.mem_cons_of_mem _ (Oe (by omega)))
    have:Sz (sN L) L.length P t0 (j+1)=Sz (sN L) L.length P t0 j:=set_same hyn (h2 j (Nat.zero_le _) (by omega));rw[this,ih']
  intro i hi;have:=h2 i (Nat.zero_le _) hi;rwa[key i (by omega)]at this
 ·rw[Uf o h.len hs j (by omega)];exact hs j hj
open Classical in
theorem tree_F3(j:Nat):Gc (Ii L) (Pt (r::P),Zs (sN L) L.length P (G7 L.length r) j)=some (if Rz (sN L) L.length P (Zs (sN L) L.length P (G7 L.length r) j) then .done (Zs (sN L) L.length P (G7 L.length r) (j+1)) else .next (Pt (r::P),Zs (sN L) L.length P (G7 L.length r) (j+1))):=by
 obtain⟨b,e1,e2⟩:=round_all hm o (Ready.rounds o j);have hL2:Nj (Ii L) (Pt (r::P))=Et (Ii L) (Pt (r::P)):=rfl
 have hlen:(0:Int)≤1∧(1:Int)≤((Pt (r::P)).length:Int):=by simp[Pt];omega
 unfold Gc;simp only[hL2,e1,Option.bind_some];rw[Ab hlen]
 cases b with
 | false=>rw[if_pos (e2.1 rfl)];rfl
 | true=>rw[if_neg (fun h=>by have:=e2.2 h;cases this)];rfl
theorem tree_rounds:∃ J,Rz (sN L) L.length P (Zs (sN L) L.length P (G7 L.length r) J)∧Ag (Gc (Ii L)) (Pt (r::P),G7 L.length r)=some (Zs (sN L) L.length P (G7 L.length r) J):=by
 obtain⟨J,h1,h2⟩:=stops o;refine⟨J,h2,?_⟩
 have key:∀ d j,j+d=J→Ag (Gc (Ii L)) (Pt (r::P),Zs (sN L) L.length P (G7 L.length r) j)=some (Zs (sN L) L.length P (G7 L.length r) J):=by
  intro d
  induction d with
  | zero=>
   intro j hj
   obtain rfl:j=J:=by omega
   have hF:=tree_F3 hm o j;rw[if_pos h2]at hF;rw[Ao hF];have:Zs (sN L) L.length P (G7 L.length r) (j+1)=Zs (sN L) L.length P (G7 L.length r) j:=Uf o (Ready.rounds o j).len h2 P.length (Nat.le_refl _);rw[this]
  | succ d ih=>
   intro j hj;have hF:=tree_F3 hm o j;rw[if_neg (h1 j (by omega))]at hF;rw[Au hF];exact ih (j+1) (by omega)
 exact key J 0 (by omega)
end
theorem m_Tree(g:TGraph)(r:Int)(h1:Fits g.Succ)(h2:Fits g.Pred):M6 g r=some (treeG g r):=by
 unfold treeG
 by_cases hc:Vb g=true∧0≤r∧r<(g.Succ.length:Int)
 ·rw[if_pos hc];obtain⟨hG,h0,hlt⟩:=hc;obtain⟨hm,hg⟩:=mayG_eq hG;obtain⟨hL1,hL64,_⟩:=mayS_iff.1 hm
  have hr:r.toNat<g.Succ.length:=by omega
  have hrn:((r.toNat:Nat):Int)=r:=Int.toNat_of_nonneg h0;obtain⟨O,hO⟩:=Ord.exist (Se hm) hr;have hord:=(m_order g h1 trivial r).1 hG h0 hlt O hO;obtain⟨P,rfl,o⟩:=hO.ordered hr (Se hm);obtain⟨J,hJ,hl⟩:=tree_rounds hm o;have ht:=(Yw o hJ).eq hm hr o;rw[ht]at hl;have hlen:(((Pt (r.toNat::P)).length:Int)==0)=false:=beq_eq_false_iff_ne.2 (by simp[Pt];omega)
  have hlen2:(0:Int)≤1∧(1:Int)≤((Pt (r.toNat::P)).length:Int):=by simp[Pt];omega
  have hL2:Nj g (Pt (r.toNat::P))=Et g (Pt (r.toNat::P)):=rfl
  have hst:(P1 (Gc g (Pt (r.toNat::P),G7 g.Succ.length r.toNat)) (Gc g))=some (Ug g.Succ r.toNat):=by
   rw[Yv,hg];exact hl
  unfold M6;rw[hord,Option.bind_some,hlen,cond_false,m_repeat hL1 hL64,Option.bind_some,Ab (inbz h0 (by simpa using hlt)),Ab hlen2]
  have:(Gc g (Pt (r.toNat::P),G7 g.Succ.length r.toNat))=(Ag (Et g (Pt (r.toNat::P))) (false,0,(List.replicate g.Succ.length (-2:Int)).set r.toNat (-1))).bind (fun x22=>(match x22 with|(b10,l11)=>(bif b10 then(some (.next (Pt (r.toNat::P),l11))) else(some (.done l11))))):=by
   unfold Gc G7;simp only[hL2];rw[Ab hlen2]
  rw[this]at hst;refine Eq.trans ?_ (congrArg (fun x:Option (List Int)=>x.bind fun x42=>some x42) hst)
  rfl
 ·rw[if_neg hc];unfold M6
  have:(Vb g&&(decide (0≤r)&&decide (r<(g.Succ.length:Int))))=false:=by
   rw[Bool.eq_false_iff];intro h;rw[Bool.and_eq_true,Bool.and_eq_true,decide_eq_true_eq,decide_eq_true_eq]at h;exact hc h
  rw[(m_order g h1 trivial r).2 this,Option.bind_some]
  rfl
theorem allR{α:Type}(l:List α)(d:α)(p:α→Bool){X:Type}(f:Int→Option (LR Int X))(yes no:X)(hl:l.length<9223372036854775808)(hk:∀ i:Nat,i<l.length→f i=some (bif p (l.getD i d) then .next (w64 ((i:Int)+1)) else .done no))
  (he:f l.length=some (.done yes)):Ag f (0:Int)=some (bif l.all p then yes else no):=by
 have:=Gn l d p f yes no (fun i hi hp=>by rw[hk i hi,hp,cond_true,A1 hi hl]) (fun i hi hp=>by rw[hk i hi,hp,cond_false]) he l.length 0 (by omega);rwa[List.drop_zero]at this
theorem c_told(f:TFunc)(hf:InF f)(l:Int)(t:List Int)(u:List An):Ha f l t u=some (bif O9 f then 0 else 4,f,l,t,u):=by
 unfold Ha Jf;rw[xmay f hf,Option.bind_some]
 cases O9 f<;>rfl
theorem c_phisFit(phis:List E5)(l:List Int)(h1:phis.length<9223372036854775808)(h2:l.length<4611686018427387904):J2 phis l=some (phis.all (Gz l)):=by
 unfold J2
 rw[allR phis (default:E5) (Gz l) (Ie phis l) (.inl ()) (.inr false) h1 (fun i hi=>by
  unfold Ie
  have hd:decide ((i:Int)<(phis.length:Int))=true:=by simpa using hi
  simp only[hd,cond_true,Ad (Am hi),Int.toNat_natCast,m_equal _ _ h2,Option.bind_some,Gz]
  cases decide ((phis.getD i default).From=l) with
  | false=>rfl
  | true=>
   simp only[Bool.not_true,cond_false,Bool.true_and,bne]
   cases(((phis.getD i default).Args.length:Int)==(l.length:Int))<;>rfl) (by unfold Ie;simp),Option.bind_some]
 cases phis.all (Gz l)<;>rfl
def argF(e:Hn):Bool:=!((e.Kind==1 || e.Kind==3)&&(e.Arg !=0))
theorem c_argFits{n:Nat}(e:Hn)(hk:Lr e n=true):Io e=some (argF e):=by
 have h4:0≤e.Kind∧e.Kind≤3:=by
  have:=(Bool.and_eq_true _ _▸hk:Wn e=true∧toB n e.To=true).1;unfold Wn at this;simp only[Bool.and_eq_true,decide_eq_true_eq]at this;omega
 unfold Io argF
 have:e.Kind=0∨e.Kind=1∨e.Kind=2∨e.Kind=3:=by omega
 rcases this with h|h|h|h<;>rw[h]<;>cases hb:(e.Arg==0)<;>simp[hb,bne]
theorem order_full{L:List (List Int)}(hm:Ll L=true){P:List Nat}(h0:0<L.length)(o:Ord (sN L) 0 P):decide (P.length<L.length) = !(List.range L.length).all fun i=>(La L).getD i false:=by
 have hin:∀ x∈P,x<L.length:=fun x hx=>(by obtain⟨Q,rfl,oo⟩:=o.ordered h0 (Se hm);exact oo.lt hx)
 have hr:∀ z,(La L).getD z false=true↔z∈P:=fun z=>by
  rw[o.mem z];exact W6 (Se hm) h0 z
 have hle:=M9 L.length P o.nodup hin
 cases ha:(List.range L.length).all fun i=>(La L).getD i false with
 | true=>
  have:=((List.perm_ext_iff_of_nodup o.nodup List.nodup_range).2 fun i=>⟨fun h=>List.mem_range.2 (hin i h),fun h=>(hr i).1 (List.all_eq_true.1 ha i h)⟩:P.Perm (List.range L.length)).length_eq;rw[List.length_range]at this
  simp;omega
 | false=>
  obtain⟨i,hi,hni⟩:∃ i,i<L.length∧i∉P:=Classical.byContradiction fun hc=>by
   have:(List.range L.length).all (fun i=>(La L).getD i false)=true:=List.all_eq_true.2 fun i hi=>(hr i).2 (Classical.byContradiction fun hn=>hc ⟨i,by simpa using hi,hn⟩);rw[this]at ha;cases ha
  have:(i::P).length≤L.length:=M9 L.length (i::P) (List.nodup_cons.2 ⟨hni,o.nodup⟩) (fun x hx=>by rcases List.mem_cons.1 hx with rfl|hx;exact hi;exact hin x hx);simp at this ⊢;omega
theorem c_shaped {f : TFunc} (hf : OkF f) (l : Int) (t : List Int) (u : List An) : ∃ t', Gf f l t u = some (bif Hw f then 0 else 5, f, l, t', u) ∧ (Hw f = true → t' = Cv f) := by
  have hmax : f.Blocks.length ≤ maxLen := by have := hf.blocks; have : (64 : Nat) ≤ maxLen := by decide
                                             omega
  unfold Gf; rw [m_of f hmax, Option.bind_some]
  cases hs : Lm f with
  | false => exact ⟨t, by unfold Hw; rw [hs]; rfl, fun h => by unfold Hw at h; rw [hs] at h; cases h⟩
  | true =>
    have hm := Nx hs; have hlen := T7 f
    have hpos : 0 < (Ch f).length := by have := (shape_iff.1 hs).1.1; omega
    obtain ⟨h1, h2⟩ := Wl hm; obtain ⟨P, hP⟩ := Ord.exist (Se hm) hpos; have ho := (m_order (Ii (Ch f)) h1 trivial 0).1 (mayG_gOf hm) (by omega) (by show (0 : Int) < ((Ch f).length : Int); omega) P hP; have hfull := order_full hm hpos hP; simp only [cond_true, show (((0 : Int) != 0) == false) = true from rfl, show ((0 : Int) != 0) = false from rfl, cond_false, ho, Option.bind_some, show (false == false) = true from rfl]
    have e1 : decide (((Pt P).length : Int) < (f.Blocks.length : Int)) = decide (P.length < (Ch f).length) := by
      rw [hlen]; apply decide_eq_decide.2; simp [Pt]
    rw [e1, hfull]
    have hsd : Hw f = (((List.range f.Blocks.length).all fun i => (La (Ch f)).getD i false) && (List.range f.Blocks.length).all fun i => argF (f.Blocks.getD i default).End && (f.Blocks.getD i default).Phis.all (Gz ((D8 (Ch f)).getD i []))) := by
      unfold Hw; rw [hs, Bool.true_and]
      have : ∀ (n : Nat) (p q : Nat → Bool), ((List.range n).all fun i => p i && q i) = ((List.range n).all p && (List.range n).all q) := fun n p q => by
        rw [Bool.eq_iff_iff, Bool.and_eq_true, List.all_eq_true, List.all_eq_true, List.all_eq_true]
        constructor
        · intro h; exact ⟨fun x hx => ((Bool.and_eq_true _ _).mp (h x hx)).1, fun x hx => ((Bool.and_eq_true _ _).mp (h x hx)).2⟩
        · intro h x hx; rw [Bool.and_eq_true]; exact ⟨h.1 x hx, h.2 x hx⟩
      rw [← this]
      congr 1
      funext i
      show (_ && _ && _) = _
      rw [Bool.and_assoc]
      rfl
    rw [hlen]; rw [hsd]
    cases hr : (List.range f.Blocks.length).all fun i => (La (Ch f)).getD i false with
    | false => exact ⟨t, rfl, fun h => by cases h⟩
    | true =>
      refine ⟨Cv f, ?_, fun _ => rfl⟩; rw [Bool.not_true, cond_false, m_Tree _ 0 h1 h2, Option.bind_some, Bool.true_and]; have hp := Ro hm
      have hpl : (Ii (Ch f)).Pred.length = f.Blocks.length := by rw [← hlen]; exact Nb _
      have key : Ag (Cu f l u (Ii (Ch f), 0) (Cv f)) (0 : Int) = some (bif (List.range f.Blocks.length).all (fun i => argF (f.Blocks.getD i default).End && (f.Blocks.getD i default).Phis.all (Gz ((D8 (Ch f)).getD i []))) then .inl () else .inr ((5 : Int), f, l, Cv f, u)) := by
        have hk : ∀ i : Nat, i < f.Blocks.length → Cu f l u (Ii (Ch f), 0) (Cv f) (i : Int) = some (bif (argF (f.Blocks.getD i default).End && (f.Blocks.getD i default).Phis.all (Gz ((D8 (Ch f)).getD i []))) then .next ((i : Int) + 1) else .done (.inr ((5 : Int), f, l, Cv f, u))) := fun i hi => by
          have hB := hf.block _ (Aq (d := (default : Ae)) hi); have hpi : A9 (i : Int) (Ii (Ch f)).Pred.length := Am (by omega); have hpg : ((Ii (Ch f)).Pred.getD i []).length ≤ 64 := hp.2 _ (Aq (by rw [Nb]; omega)); unfold Cu
          have hd : decide ((i : Int) < (f.Blocks.length : Int)) = true := by simpa using hi
          simp only [hd, cond_true, Ad (Am hi), Ad hpi, Int.toNat_natCast, c_phisFit (f.Blocks.getD i default).Phis ((Ii (Ch f)).Pred.getD i []) (by have := hB.phis; omega) (by omega), Option.bind_some]; have ha : Io (⟨(f.Blocks.getD i default).End.Kind, (f.Blocks.getD i default).End.Arg, (f.Blocks.getD i default).End.To⟩ : Hn) = some (argF (f.Blocks.getD i default).End) := c_argFits (n := f.Blocks.length) (f.Blocks.getD i default).End ((shape_iff.1 hs).2 i hi); rw [ha, A1 hi (by have := hf.blocks; omega)]
          show _ = some (bif (argF (f.Blocks.getD i default).End && (f.Blocks.getD i default).Phis.all (Gz ((Ii (Ch f)).Pred.getD i []))) then _ else _)
          cases (f.Blocks.getD i default).Phis.all (Gz ((Ii (Ch f)).Pred.getD i [])) <;> cases argF (f.Blocks.getD i default).End <;> rfl
        exact Uu _ _ _ _ _ (fun i hi hp => by rw [hk i hi, hp]; rfl) (fun i hi hp => by rw [hk i hi, hp]; rfl) (by unfold Cu; simp)
      show ((Ag (Cu f l u (Ii (Ch f), 0) (Cv f)) (0 : Int)).bind _) = _
      rw [key, Option.bind_some]
      cases (List.range f.Blocks.length).all (fun i => argF (f.Blocks.getD i default).End && (f.Blocks.getD i default).Phis.all (Gz ((D8 (Ch f)).getD i []))) <;> rfl
theorem c_isOf(o:Dy)(l:Int)(h0:0≤l)(h2:l≤2)(hk:Kf o=true):Mj o l=some (!decide (Zn l<o.Kind)&&!(decide (l<2)&&decide (1<o.Lanes))):=by
 have hl:=lanes_of hk
 have hK:o.Kind≤22:=by
  simp only[Kf,Bool.and_eq_true]at hk;have:=hk.1.2.1.1.1;unfold isK at this;simp only[Bool.and_eq_true,decide_eq_true_eq]at this;omega
 unfold Mj Zn
 have:l=0∨l=1∨l=2:=by omega
 rcases this with rfl|rfl|rfl
 ·have ha:decide (o.Kind≤17) = !decide (17<o.Kind):=by rw[Bool.eq_iff_iff];simp
  have hb:(o.Lanes==1) = !decide (1<o.Lanes):=by rw[Bool.eq_iff_iff];simp;omega
  show some (bif decide (o.Kind≤17) then(o.Lanes==1) else false)=some (!decide (17<o.Kind)&&!(true&&decide (1<o.Lanes)))
  rw[ha,hb]
  cases decide (17<o.Kind)<;>cases decide (1<o.Lanes)<;>rfl
 ·have ha:decide (o.Kind≤20) = !decide (20<o.Kind):=by rw[Bool.eq_iff_iff];simp
  have hb:(o.Lanes==1) = !decide (1<o.Lanes):=by rw[Bool.eq_iff_iff];simp;omega
  show some (bif decide (o.Kind≤20) then(o.Lanes==1) else false)=some (!decide (20<o.Kind)&&!(true&&decide (1<o.Lanes)))
  rw[ha,hb]
  cases decide (20<o.Kind)<;>cases decide (1<o.Lanes)<;>rfl
 ·show some true=some (!decide (22<o.Kind)&&!(false&&decide (1<o.Lanes)))
  rw[decide_eq_false (by omega)]
  rfl
theorem c_opTyped(o:Dy)(ho:OpOk o)(f:TFunc)(l:Int)(h0:0≤l)(h2:l≤2)(t:List Int)(u:List An):Fv o f l t u=some (Mp l o,f,l,t,u):=by
 unfold Fv Mp;rw[Aau o ho,Option.bind_some]
 cases hk:Kf o with
 | false=>rfl
 | true=>
  rw[show(true==true)=true from rfl,cond_true,c_isOf o l h0 h2 hk,Option.bind_some,cond_true,Bool.true_and]
theorem c_allOp(b:Ae){f:TFunc}(hf:OkF f)(hb:b∈f.Blocks)(l:Int)(h0:0≤l)(h2:l≤2)(t:List Int)(u:List An):Ic b.Ops f l t u=some (b.Ops.all (Mp l),f,l,t,u):=by
 have hB:=hf.block b hb
 have key:∀ k i:Nat,i+k=b.Ops.length→Ag (Fd b.Ops) ((i:Int),f.Params,f.Ret,f.Blocks,l,t,u)=some (bif (b.Ops.drop i).all (Mp l) then .inl (f.Params,f.Ret,f.Blocks,l,t,u) else .inr (false,f,l,t,u)):=by
  intro k
  induction k with
  | zero=>
   intro i h
   obtain rfl:i=b.Ops.length:=by omega
   rw[Ao (x:=.inl (f.Params,f.Ret,f.Blocks,l,t,u)) (by unfold Fd;simp)]
   simp
  | succ k ih=>
   intro i h
   have hi:i<b.Ops.length:=by omega
   have hd:decide ((i:Int)<(b.Ops.length:Int))=true:=by simpa using hi
   have hdr:b.Ops.drop i=b.Ops.getD i default::b.Ops.drop (i+1):=by rw[List.drop_eq_getElem_cons hi,Ah _ _ _ hi]
   have hx:=c_opTyped (b.Ops.getD i default) (opOk hf hb (Aq hi)) f l h0 h2 t u;rw[hdr,List.all_cons]
   cases ho:Mp l (b.Ops.getD i default) with
   | true=>
    rw[ho]at hx
    rw[Au (s':=(((i+1:Nat):Int),f.Params,f.Ret,f.Blocks,l,t,u)) (by
     unfold Fd;simp only[hd,cond_true,Ad (Am hi),Int.toNat_natCast,hx,Option.bind_some,Bool.not_true,cond_false,A1 hi (by have:=hB.ops;omega)]
     rfl),ih (i+1) (by omega),Bool.true_and]
   | false=>
    rw[ho]at hx
    rw[Ao (x:=.inr (false,f,l,t,u)) (by
     unfold Fd
     simp only[hd,cond_true,Ad (Am hi),Int.toNat_natCast,hx,Option.bind_some,Bool.not_false])]
    rfl
 unfold Ic;rw[show(0:Int)=((0:Nat):Int) from rfl,key b.Ops.length 0 (by omega),List.drop_zero,Option.bind_some]
 cases b.Ops.all (Mp l)<;>rfl
theorem c_allPhi(b:Ae)(h:b.Phis.length<9223372036854775808):Hx b.Phis=some (b.Phis.all fun p=>widthB p.Bits):=by
 unfold Hx
 rw[allR b.Phis (default:E5) (fun p=>widthB p.Bits) (Ge b.Phis) (.inl ()) (.inr false) h (fun i hi=>by
  unfold Ge K3
  have hd:decide ((i:Int)<(b.Phis.length:Int))=true:=by simpa using hi
  simp only[hd,cond_true,Ad (Am hi),Int.toNat_natCast,Qj,Option.bind_some]
  cases widthB (b.Phis.getD i default).Bits<;>rfl) (by unfold Ge;simp),Option.bind_some]
 cases b.Phis.all fun p=>widthB p.Bits<;>rfl
theorem c_allInt(p:List Int)(h:p.length<9223372036854775808):J1 p=some (p.all widthB):=by
 unfold J1
 rw[allR p (0:Int) widthB (Id p) (.inl ()) (.inr false) h (fun i hi=>by
  unfold Id
  have hd:decide ((i:Int)<(p.length:Int))=true:=by simpa using hi
  simp only[hd,cond_true,Ad (Am hi),Int.toNat_natCast,Qj,Option.bind_some]
  cases widthB (p.getD i 0)<;>rfl) (by unfold Id;simp),Option.bind_some]
 cases p.all widthB<;>rfl
theorem c_blockTyped(b:Ae){f:TFunc}(hf:OkF f)(hb:b∈f.Blocks)(l:Int)(h0:0≤l)(h2:l≤2)(t:List Int)(u:List An):Ej b f l t u=some (Hu l b,f,l,t,u):=by
 unfold Ej Hu;rw[c_allPhi b (by have:=(hf.block b hb).phis;omega),Option.bind_some,c_allOp b hf hb l h0 h2 t u]
 cases(b.Phis.all fun p=>widthB p.Bits)<;>rfl
theorem c_typed{f:TFunc}(hf:OkF f)(l:Int)(h0:0≤l)(h2:l≤2)(t:List Int)(u:List An):Gq f l t u=some (bif Rv f l then 0 else 6,f,l,t,u):=by
 have key:∀ k i:Nat,i+k=f.Blocks.length→Ag (Dz f.Blocks) ((i:Int),f.Params,f.Ret,f.Blocks,l,t,u)=some (bif (f.Blocks.drop i).all (Hu l) then .inl (f.Params,f.Ret,f.Blocks,l,t,u) else .inr (false,f,l,t,u)):=by
  intro k
  induction k with
  | zero=>
   intro i h
   obtain rfl:i=f.Blocks.length:=by omega
   rw[Ao (x:=.inl (f.Params,f.Ret,f.Blocks,l,t,u)) (by unfold Dz;simp)]
   simp
  | succ k ih=>
   intro i h
   have hi:i<f.Blocks.length:=by omega
   have hd:decide ((i:Int)<(f.Blocks.length:Int))=true:=by simpa using hi
   have hdr:f.Blocks.drop i=f.Blocks.getD i default::f.Blocks.drop (i+1):=by rw[List.drop_eq_getElem_cons hi,Ah _ _ _ hi]
   have hx:=c_blockTyped (f.Blocks.getD i default) hf (Aq hi) l h0 h2 t u;rw[hdr,List.all_cons]
   cases ho:Hu l (f.Blocks.getD i default) with
   | true=>
    rw[ho]at hx
    rw[Au (s':=(((i+1:Nat):Int),f.Params,f.Ret,f.Blocks,l,t,u)) (by
     unfold Dz;simp only[hd,cond_true,Ad (Am hi),Int.toNat_natCast,hx,Option.bind_some,Bool.not_true,cond_false,A1 hi (by have:=hf.blocks;omega)]
     rfl),ih (i+1) (by omega),Bool.true_and]
   | false=>
    rw[ho]at hx
    rw[Ao (x:=.inr (false,f,l,t,u)) (by
     unfold Dz
     simp only[hd,cond_true,Ad (Am hi),Int.toNat_natCast,hx,Option.bind_some,Bool.not_false])]
    rfl
 have hall:Gp f.Blocks f l t u=some (f.Blocks.all (Hu l),f,l,t,u):=by
  unfold Gp;rw[show(0:Int)=((0:Nat):Int) from rfl,key f.Blocks.length 0 (by omega),List.drop_zero,Option.bind_some]
  cases f.Blocks.all (Hu l)<;>rfl
 unfold Gq Rv Jf;rw[c_allInt _ (by have:=hf.few;omega),Option.bind_some,hall,Qj]
 cases f.Params.all widthB<;>cases widthB f.Ret<;>cases f.Blocks.all (Hu l)<;>rfl
def atD(d:Bi):H1:=bif decide (d.Block<0) then⟨0,-1⟩ else⟨d.Block,d.At⟩
def Zd(d:Bi):Ai:=⟨d.Shape,atD d⟩
def dv(l:List Bi):List (Int×Ai):=l.map fun d=>(d.V,Zd d)
def badD(acc:List (Int×Ai))(v:Int):Bool:=(Gk acc v || decide (v<1)) || decide (1023<v)
def Ik:List (Int×Ai)→List Bi→Bool×List (Int×Ai)
 | acc,[]=>(true,acc)
 | acc,d::ds=>bif badD acc d.V then(false,acc) else Ik (Ka acc d.V (Zd d)) ds
theorem Xk:∀(a b:List Bi) (acc:List (Int×Ai)),Ik acc (a++b)=bif (Ik acc a).1 then Ik (Ik acc a).2 b else Ik acc a
 | [],b,acc=>rfl
 | d::a,b,acc=>by
  rw[List.cons_append];simp only[Ik]
  cases badD acc d.V with
  | true=>rfl
  | false=>simp only[cond_false];exact Xk a b _
theorem Ts{V:Type}(k:Int):∀ l:List (Int×V),Gk l k=l.any fun q=>k==q.1
 | []=>rfl
 | (a,b)::l=>by rw[List.any_cons,← Ts k l];rfl
theorem Wu{V:Type}(k:Int)(v:V):∀{l:List (Int×V)},Gk l k=false→Ka l k v=l++[(k,v)]
 | [],_=>rfl
 | (a,b)::l,h=>by
  simp only[Gk,Bool.or_eq_false_iff]at h;simp only[Ka,h.1,cond_false,Wu k v h.2,List.cons_append]
theorem c_define(v:Int)(s:Int×Int)(p:H1)(f:TFunc)(l:Int)(t:List Int)(vs:List (Int×Ai))(u:List An) :
  Ez v s p f l t vs u=some (bif badD vs v then(false,f,l,t,u,vs) else(true,f,l,t,u,Ka vs v ⟨s,p⟩)):=by
 unfold Ez badD
 cases Gk vs v<;>cases decide (v<1)<;>cases decide (1023<v)<;>rfl
def resD(f:TFunc)(l:Int)(t:List Int)(u:List An)(r:Bool×List (Int×Ai)):(List Int×Int×List Ae×Int×List Int×List An×List (Int×Ai)) ⊕ (Bool×TFunc×Int×List Int×List An×List (Int×Ai)):=
 bif r.1 then .inl (f.Params,f.Ret,f.Blocks,l,t,u,r.2) else .inr (false,f,l,t,u,r.2)
theorem c_phis(b:Ae)(h:b.Phis.length<9223372036854775808)(i:Nat)(f:TFunc)(l:Int)(t:List Int)(u:List An):∀(k j:Nat) (vs:List (Int×Ai)),j+k=b.Phis.length→
  Ag (Cw (i:Int) b) ((j:Int),f.Params,f.Ret,f.Blocks,l,t,u,vs)=some (resD f l t u (Ik vs ((List.range' j k).flatMap fun(k:Nat)=>[(⟨(b.Phis.getD k default).Dst,i,-1,((b.Phis.getD k default).Bits,1)⟩:Bi)]))):=by
 intro k
 induction k with
 | zero=>
  intro j vs hj
  obtain rfl:j=b.Phis.length:=by omega
  rw[Ao (x:=.inl (f.Params,f.Ret,f.Blocks,l,t,u,vs)) (by unfold Cw;simp)]
  rfl
 | succ k ih=>
  intro j vs hj
  have hi:j<b.Phis.length:=by omega
  have hd:decide ((j:Int)<(b.Phis.length:Int))=true:=by simpa using hi
  have hx:=c_define (b.Phis.getD j default).Dst ((b.Phis.getD j default).Bits,1) (⟨(i:Int),-1⟩:H1) f l t vs u
  have hat:atD (⟨(b.Phis.getD j default).Dst,i,-1,((b.Phis.getD j default).Bits,1)⟩:Bi)=⟨(i:Int),-1⟩:=by unfold atD;rw[decide_eq_false (by show ¬ (i:Int)<0;omega)];rfl
  rw[List.range'_succ,List.flatMap_cons,List.singleton_append];simp only[Ik]
  cases hb:badD vs (b.Phis.getD j default).Dst with
  | true=>
   rw[hb]at hx
   rw[Ao (x:=.inr (false,f,l,t,u,vs)) (by
    unfold Cw Dx;simp only[hd,cond_true,Ad (Am hi),Int.toNat_natCast,Option.bind_some];rw[show(⟨f.Params,f.Ret,f.Blocks⟩:TFunc)=f from rfl,hx]
    rfl)]
   rfl
  | false=>
   rw[hb]at hx
   rw[Au (s':=(((j+1:Nat):Int),f.Params,f.Ret,f.Blocks,l,t,u,Ka vs (b.Phis.getD j default).Dst ⟨((b.Phis.getD j default).Bits,1),⟨(i:Int),-1⟩⟩)) (by
    unfold Cw Dx;simp only[hd,cond_true,Ad (Am hi),Int.toNat_natCast,Option.bind_some];rw[show(⟨f.Params,f.Ret,f.Blocks⟩:TFunc)=f from rfl,hx,A1 hi h]
    rfl),ih (j+1) _ (by omega)]
   unfold Zd;rw[hat]
   rfl
theorem c_ops{f0:TFunc}(hf:OkF f0){b:Ae}(hb:b∈f0.Blocks)(i:Nat)(f:TFunc)(l:Int)(t:List Int)(u:List An):∀(k j:Nat) (vs:List (Int×Ai)),j+k=b.Ops.length→
  Ag (B4 (i:Int) b) ((j:Int),f.Params,f.Ret,f.Blocks,l,t,u,vs)=some (resD f l t u (Ik vs ((List.range' j k).flatMap fun(k:Nat)=>bif decide (0<(Jd (b.Ops.getD k default)).1) then[(⟨(b.Ops.getD k default).Dst,i,k,Jd (b.Ops.getD k default)⟩:Bi)] else[]))):=by
 have hB:=hf.block b hb;intro k
 induction k with
 | zero=>
  intro j vs hj
  obtain rfl:j=b.Ops.length:=by omega
  rw[Ao (x:=.inl (f.Params,f.Ret,f.Blocks,l,t,u,vs)) (by unfold B4;simp)]
  rfl
 | succ k ih=>
  intro j vs hj
  have hi:j<b.Ops.length:=by omega
  have hd:decide ((j:Int)<(b.Ops.length:Int))=true:=by simpa using hi
  have hg:K4 (b.Ops.getD j default)=some (Jd (b.Ops.getD j default)):=kind_Gives _ (opOk hf hb (Aq hi));have hx:=c_define (b.Ops.getD j default).Dst (Jd (b.Ops.getD j default)) (⟨(i:Int),(j:Int)⟩:H1) f l t vs u
  have hat:atD (⟨(b.Ops.getD j default).Dst,i,j,Jd (b.Ops.getD j default)⟩:Bi)=⟨(i:Int),(j:Int)⟩:=by unfold atD;rw[decide_eq_false (by show ¬ (i:Int)<0;omega)];rfl
  rw[List.range'_succ,List.flatMap_cons]
  cases hp:decide (0<(Jd (b.Ops.getD j default)).1) with
  | false=>
   rw[cond_false,List.nil_append,← ih (j+1) vs (by omega),Au (s':=(((j+1:Nat):Int),f.Params,f.Ret,f.Blocks,l,t,u,vs)) (by
    unfold B4;simp only[hd,cond_true,Ad (Am hi),Int.toNat_natCast,hg,Option.bind_some,hp];rw[A1 hi (by have:=hB.ops;omega)]
    rfl)]
  | true=>
   rw[cond_true,List.singleton_append];simp only[Ik]
   cases hb:badD vs (b.Ops.getD j default).Dst with
   | true=>
    rw[hb]at hx
    rw[Ao (x:=.inr (false,f,l,t,u,vs)) (by
     unfold B4;simp only[hd,cond_true,Ad (Am hi),Int.toNat_natCast,hg,Option.bind_some,hp];rw[show(true==true)=true from rfl,cond_true,show(⟨f.Params,f.Ret,f.Blocks⟩:TFunc)=f from rfl,hx]
     rfl)]
    rfl
   | false=>
    rw[hb]at hx
    rw[Au (s':=(((j+1:Nat):Int),f.Params,f.Ret,f.Blocks,l,t,u,Ka vs (b.Ops.getD j default).Dst ⟨Jd (b.Ops.getD j default),⟨(i:Int),(j:Int)⟩⟩)) (by
     unfold B4;simp only[hd,cond_true,Ad (Am hi),Int.toNat_natCast,hg,Option.bind_some,hp];rw[show(true==true)=true from rfl,cond_true,show(⟨f.Params,f.Ret,f.Blocks⟩:TFunc)=f from rfl,hx,A1 hi (by have:=hB.ops;omega)]
     rfl),ih (j+1) _ (by omega)]
    unfold Zd;rw[hat]
    rfl
theorem c_defineAll{f:TFunc}(hf:OkF f){b:Ae}(hb:b∈f.Blocks)(i:Nat)(l:Int)(t:List Int)(u:List An)(vs:List (Int×Ai)) :
  E6 (i:Int) b f l t vs u=some ((Ik vs (Lo b i)).1,f,l,t,u,(Ik vs (Lo b i)).2):=by
 unfold E6 Lo;rw[show(0:Int)=((0:Nat):Int) from rfl,c_phis b (by have:=(hf.block b hb).phis;omega) i f l t u b.Phis.length 0 vs (by omega),Option.bind_some,Xk];rw[show(List.range' 0 b.Phis.length).flatMap (fun(k:Nat)=>[(⟨(b.Phis.getD k default).Dst,i,-1,((b.Phis.getD k default).Bits,1)⟩:Bi)])=Ni b i by rw[Ni,List.range_eq_range']];unfold resD
 cases h1:(Ik vs (Ni b i)).1 with
 | false=>simp only[cond_false];rw[h1]
 | true=>
  simp only[cond_true];rw[c_ops hf hb i f l t u b.Ops.length 0 _ (by omega),Option.bind_some];rw[show(List.range' 0 b.Ops.length).flatMap (fun(k:Nat)=>bif decide (0<(Jd (b.Ops.getD k default)).1) then[(⟨(b.Ops.getD k default).Dst,i,k,Jd (b.Ops.getD k default)⟩:Bi)] else[])=Te b i by rw[Te,List.range_eq_range']];unfold resD;cases h2:(Ik (Ik vs (Ni b i)).2 (Te b i)).1<;>rfl
theorem Xt{l:List Bi}{i:Nat}(hi:i<l.length):Lh l i=true↔valS (l.getD i default).V=true∧∀ j,j<i→(l.getD j default).V≠(l.getD i default).V:=by
 unfold Lh;rw[Bool.and_eq_true];refine and_congr Iff.rfl ?_;unfold Jc
 cases hx:l.findIdx? (fun d=>d.V==(l.getD i default).V) with
 | none=>
  rw[List.findIdx?_eq_none_iff]at hx;have:=hx _ (Aq (d:=default) hi);simp at this
 | some j=>
  obtain⟨hj,h1,h2⟩:=List.findIdx?_eq_some_iff_getElem.1 hx;simp only[beq_iff_eq,Int.natCast_inj]
  constructor
  ·rintro rfl k hk he;have:=h2 k hk;rw[Ah _ _ _ (by omega:k<l.length)]at he;simp at this;exact this he
  ·intro h
   have hv:(l.getD j default).V=(l.getD i default).V:=by rw[Ah _ _ _ hj];simpa using h1
   rcases Nat.lt_trichotomy j i with hlt|rfl|hgt
   ·exact absurd hv (h j hlt)
   ·rfl
   ·have:=h2 i hgt;rw[← Ah l i default hi]at this;simp at this
theorem mhas_dv(l:List Bi)(v:Int):Gk (dv l) v=l.any fun d=>v==d.V:=by
 rw[Ts,dv,List.any_map];rfl
theorem Aaj:∀(ds pre:List Bi),(Ik (dv pre) ds).1=(List.range' pre.length ds.length).all (Lh (pre++ds))∧((Ik (dv pre) ds).1=true→(Ik (dv pre) ds).2=dv (pre++ds))
 | [],pre=>by simp[Ik]
 | d::ds,pre=>by
  have hi:pre.length<(pre++d::ds).length:=by simp
  have hg:(pre++d::ds).getD pre.length default=d:=by simp[List.getD]
  have hj:∀ j,j<pre.length→(pre++d::ds).getD j default=pre.getD j default:=fun j h=>by simp[List.getD,List.getElem?_append_left h]
  have hok:Lh (pre++d::ds) pre.length = !badD (dv pre) d.V:=by
   rw[Bool.eq_iff_iff,Xt hi,hg];unfold badD valS;rw[mhas_dv];simp only[Bool.not_eq_true',Bool.or_eq_false_iff,decide_eq_false_iff_not,List.any_eq_false,beq_iff_eq,Bool.and_eq_true,decide_eq_true_eq]
   constructor
   ·rintro⟨⟨h1,h2⟩,h3⟩;refine⟨⟨fun x hx he=>?_,by omega⟩,by omega⟩;obtain⟨j,hjl,rfl⟩:=List.getElem_of_mem hx;have:=h3 j hjl;rw[hj j hjl,Ah _ _ _ hjl]at this;exact this he.symm
   ·rintro⟨⟨h1,h2⟩,h3⟩;refine⟨⟨by omega,by omega⟩,fun j hjl he=>?_⟩;rw[hj j hjl,Ah _ _ _ hjl]at he;exact h1 _ (List.getElem_mem hjl) he.symm
  rw[List.length_cons,List.range'_succ,List.all_cons,hok];simp only[Ik]
  cases hb:badD (dv pre) d.V with
  | true=>exact⟨rfl,fun h=>by cases h⟩
  | false=>
   have hn:Gk (dv pre) d.V=false:=by
    unfold badD at hb;simp only[Bool.or_eq_false_iff]at hb;exact hb.1.1
   have hs:Ka (dv pre) d.V (Zd d)=dv (pre++[d]):=by rw[Wu _ _ hn,dv,dv,List.map_append];rfl
   have:=Aaj ds (pre++[d]);rw[List.length_append,List.append_assoc,List.singleton_append]at this;rw[cond_false,hs,Bool.not_false,Bool.true_and];exact this
def pv(f:TFunc)(n:Nat):List (Int×Ai):=(List.range n).map fun(j:Nat)=>((j:Int)+1,⟨(f.Params.getD j 0,1),⟨0,-1⟩⟩)
theorem pv_dv(f:TFunc):pv f f.Params.length=dv (L8 f):=by
 unfold pv dv L8;rw[List.map_flatMap]
 induction List.range f.Params.length with
 | nil=>rfl
 | cons a l ih=>rw[List.map_cons,List.flatMap_cons,ih];rfl
theorem c_params{f:TFunc}(hf:OkF f):∀(k i:Nat),i+k=f.Params.length→Ag (Ek f) ((i:Int),pv f i)=some (pv f f.Params.length):=by
 intro k
 induction k with
 | zero=>
  intro i h
  obtain rfl:i=f.Params.length:=by omega
  exact Ao (by unfold Ek;simp)
 | succ k ih=>
  intro i h
  have hi:i<f.Params.length:=by omega
  have hd:decide ((i:Int)<(f.Params.length:Int))=true:=by simpa using hi
  have hn:Gk (pv f i) ((i:Int)+1)=false:=by
   rw[Ts,pv,List.any_map,List.any_eq_false];intro j hj;have:=List.mem_range.1 hj
   simp;omega
  have hs:Ka (pv f i) ((i:Int)+1) ⟨(f.Params.getD i 0,1),⟨0,-1⟩⟩=pv f (i+1):=by
   rw[Wu _ _ hn,pv,pv,List.range_succ,List.map_append];rfl
  rw[Au (s':=(((i+1:Nat):Int),pv f (i+1))) (by
   unfold Ek Dx;simp only[hd,cond_true,Ad (Am hi),Int.toNat_natCast,Option.bind_some,A1 hi (by have:=hf.few;omega),hs]
   rfl)]
  exact ih (i+1) (by omega)
theorem c_blocks{f:TFunc}(hf:OkF f)(l:Int)(t:List Int)(u:List An):∀(k i:Nat) (vs:List (Int×Ai)),i+k=f.Blocks.length→
  Ag (Dh f) ((i:Int),vs,f.Params,f.Ret,f.Blocks,l,t,u)=some (bif (Ik vs ((List.range' i k).flatMap fun i=>Lo (f.Blocks.getD i default) i)).1 then .inl ((Ik vs ((List.range' i k).flatMap fun i=>Lo (f.Blocks.getD i default) i)).2,f.Params,f.Ret,f.Blocks,l,t,u) else
   .inr (7,f,l,t,u,(Ik vs ((List.range' i k).flatMap fun i=>Lo (f.Blocks.getD i default) i)).2)):=by
 intro k
 induction k with
 | zero=>
  intro i vs h
  obtain rfl:i=f.Blocks.length:=by omega
  rw[Ao (x:=.inl (vs,f.Params,f.Ret,f.Blocks,l,t,u)) (by unfold Dh;simp)]
  rfl
 | succ k ih=>
  intro i vs h
  have hi:i<f.Blocks.length:=by omega
  have hd:decide ((i:Int)<(f.Blocks.length:Int))=true:=by simpa using hi
  have hx:=c_defineAll hf (Aq (d:=default) hi) i l t u vs;rw[List.range'_succ,List.flatMap_cons,Xk]
  cases hb:(Ik vs (Lo (f.Blocks.getD i default) i)).1 with
  | false=>
   rw[hb]at hx
   rw[Ao (x:=.inr (7,f,l,t,u,(Ik vs (Lo (f.Blocks.getD i default) i)).2)) (by
    unfold Dh;simp only[hd,cond_true,Ad (Am hi),Int.toNat_natCast];rw[show(⟨f.Params,f.Ret,f.Blocks⟩:TFunc)=f from rfl,hx]
    rfl),cond_false,hb]
   rfl
  | true=>
   rw[hb]at hx
   rw[Au (s':=(((i+1:Nat):Int),(Ik vs (Lo (f.Blocks.getD i default) i)).2,f.Params,f.Ret,f.Blocks,l,t,u)) (by
    unfold Dh;simp only[hd,cond_true,Ad (Am hi),Int.toNat_natCast];rw[show(⟨f.Params,f.Ret,f.Blocks⟩:TFunc)=f from rfl,hx,A1 hi (by have:=hf.blocks;omega)]
    rfl),ih (i+1) _ (by omega),cond_true]
theorem okP{f:TFunc}(hf:OkF f):∀ i,i<f.Params.length→Lh (Ap f) i=true:=fun i hi=>by
 have hl:=Up f
 have hg:∀ j,j<f.Params.length→(Ap f).getD j default=⟨(j:Int)+1,-1,0,(f.Params.getD j 0,1)⟩:=fun j hj=>by
  have e:L8 f=(List.range f.Params.length).map fun(i:Nat)=>(⟨(i:Int)+1,-1,0,(f.Params.getD i 0,1)⟩:Bi):=by
   unfold L8
   induction List.range f.Params.length with
   | nil=>rfl
   | cons a l ih=>rw[List.map_cons,List.flatMap_cons,ih];rfl
  rw[Ap,List.getD,List.getElem?_append_left (by omega),e];simp[hj]
 have hle:i<(Ap f).length:=by rw[Ap,List.length_append];omega
 rw[Xt hle,hg i hi];refine⟨?_,fun j hj=>?_⟩
 ·have:=hf.few;simp only[valS,Bool.and_eq_true,decide_eq_true_eq];omega
 ·rw[hg j (by omega)];simp only;omega
theorem c_defined{f:TFunc}(hf:OkF f)(l:Int)(t:List Int)(u:List An):∃ vs,Ft f l t u=some (bif (List.range (Ap f).length).all (Lh (Ap f)) then 0 else 7,f,l,t,u,vs)∧((List.range (Ap f).length).all (Lh (Ap f))=true→vs=dv (Ap f)):=by
 have hsp:=Aaj ((List.range f.Blocks.length).flatMap fun i=>Lo (f.Blocks.getD i default) i) (L8 f)
 have hall:(List.range (Ap f).length).all (Lh (Ap f))=(Ik (dv (L8 f)) ((List.range f.Blocks.length).flatMap fun i=>Lo (f.Blocks.getD i default) i)).1:=by
  rw[hsp.1]
  show(List.range (Ap f).length).all (Lh (Ap f))=(List.range' (L8 f).length _).all (Lh (Ap f))
  have hs:List.range (Ap f).length=List.range (L8 f).length++List.range' (L8 f).length ((List.range f.Blocks.length).flatMap fun i=>Lo (f.Blocks.getD i default) i).length:=by
   rw[List.range_eq_range',List.range_eq_range',Ap,List.length_append];have:=List.range'_append_1 (s:=0) (m:=(L8 f).length) (n:=((List.range f.Blocks.length).flatMap fun i=>Lo (f.Blocks.getD i default) i).length);rw[Nat.zero_add]at this;exact this.symm
  rw[hs,List.all_append];have:(List.range (L8 f).length).all (Lh (Ap f))=true:=List.all_eq_true.2 fun i hi=>okP hf i (by rw[← Up f];exact List.mem_range.1 hi);rw[this,Bool.true_and]
 unfold Ft;have hp:=c_params hf f.Params.length 0 (by omega);have e0:pv f 0=[]:=rfl;rw[e0,show(((0:Nat):Int))=0 from rfl]at hp;rw[hp,Option.bind_some,pv_dv];have hb:=c_blocks hf l t u f.Blocks.length 0 (dv (L8 f)) (by omega);rw[show(((0:Nat):Int))=0 from rfl,← List.range_eq_range']at hb;rw[hb,Option.bind_some,hall];refine⟨(Ik (dv (L8 f)) ((List.range f.Blocks.length).flatMap fun i=>Lo (f.Blocks.getD i default) i)).2,?_,hsp.2⟩
 cases(Ik (dv (L8 f)) ((List.range f.Blocks.length).flatMap fun i=>Lo (f.Blocks.getD i default) i)).1<;>rfl
theorem Uv{β S X:Type}(B:Nat)(mk:Int→List β→S)(out:List β→X)(n:Nat)(E:Nat→List β)(f:S→Option (LR S X))(hn:∀(acc:List β) (i:Nat),i<n→(acc++E i).length≤B→f (mk i acc)=some (.next (mk ((i:Int)+1) (acc++E i))))
  (hd:∀ acc:List β,f (mk n acc)=some (.done (out acc))):∀(k i:Nat) (acc:List β),i+k=n→(acc++(List.range' i k).flatMap E).length≤B→Ag f (mk i acc)=some (out (acc++(List.range' i k).flatMap E))
 | 0,i,acc,h,_=>by
  obtain rfl:i=n:=by omega
  rw[Ao (hd acc)]
  simp
 | k+1,i,acc,h,hB=>by
  have hi:i<n:=by omega
  rw[List.range'_succ,List.flatMap_cons,← List.append_assoc]at hB ⊢;rw[Au (hn acc i hi (by rw[List.length_append]at hB;omega)),show((i:Int)+1)=((i+1:Nat):Int) by omega,Uv B mk out n E f hn hd k (i+1) _ (by omega) hB]
theorem map_sing{β γ:Type}(h:β→γ)(n:Nat)(g:Nat→β):(List.range' 0 n).flatMap (fun j=>[h (g j)])=((List.range n).flatMap fun j=>[g j]).map h:=by
 rw[List.map_flatMap,List.range_eq_range'];rfl
theorem Aa3{β γ:Type}(h:β→γ)(n:Nat)(g:Nat→List β):(List.range' 0 n).flatMap (fun j=>(g j).map h)=((List.range n).flatMap g).map h:=by
 rw[List.map_flatMap,List.range_eq_range']
def Mr(f:TFunc)(b:Int):Int:=((f.Blocks.getD b.toNat default).Ops.length:Int)
def Fn(f:TFunc)(u:B9):An:=⟨u.V,u.Shape,⟨u.Block,bif u.At==1000 then Mr f u.Block else u.At⟩⟩
theorem c_use(f:TFunc)(l:Int)(t:List Int)(vs:List (Int×Ai))(v:Int)(s:Int×Int)(p:H1)(u:List An)(h:(u++[(⟨v,s,p⟩:An)]).length≤10000000):D6 v s p f l t vs u=some (f,l,t,u++[⟨v,s,p⟩]):=by
 unfold D6;rw[Ab (by rw[List.length_append]at h;rw[W9];omega)]
theorem c_end(f:TFunc)(l:Int)(t:List Int)(vs:List (Int×Ai))(b:Int)(hb:A9 b f.Blocks.length)(u:List An):E8 b f l t vs u=some (⟨b,Mr f b⟩,f,l,t,u):=by
 unfold E8;rw[Ab hb];rfl
section
variable {f:TFunc} (hf:OkF f) (l:Int) (t:List Int) (vs:List (Int×Ai))
include hf
theorem c_phi1(i k:Nat)(hi:i<f.Blocks.length)(hk:k<(f.Blocks.getD i default).Phis.length)(hfit:((f.Blocks.getD i default).Phis.getD k default).Args.length≤((f.Blocks.getD i default).Phis.getD k default).From.length)
  (hin:∀ x∈((f.Blocks.getD i default).Phis.getD k default).From,A9 x f.Blocks.length) (u:List An) (hB:(u++(Ky ((f.Blocks.getD i default).Phis.getD k default)).map (Fn f)).length≤10000000) :
  Ag (Dc f vs (i:Int) (k:Int)) ((0:Int),f.Params,f.Ret,f.Blocks,l,t,u)=some (f.Params,f.Ret,f.Blocks,l,t,u++(Ky ((f.Blocks.getD i default).Phis.getD k default)).map (Fn f)):=by
 have hlen:=ok_phi hf (Aq (d:=(default:Ae)) hi) (Aq (d:=(default:E5)) hk)
 generalize hp:(f.Blocks.getD i default).Phis.getD k default=p at *
 have e:=map_sing (Fn f) p.Args.length fun(j:Nat)=>(⟨p.Args.getD j 0,p.From.getD j 0,1000,(p.Bits,1)⟩:B9)
 have:=Uv 10000000 (fun j u=>(j,f.Params,f.Ret,f.Blocks,l,t,u)) (fun u=>(f.Params,f.Ret,f.Blocks,l,t,u)) p.Args.length (fun(j:Nat)=>[Fn f ⟨p.Args.getD j 0,p.From.getD j 0,1000,(p.Bits,1)⟩]) (Dc f vs (i:Int) (k:Int)) (fun acc j hj hacc=>by
  unfold Dc Dx
  have hd:decide ((j:Int)<(p.Args.length:Int))=true:=by simpa using hj
  have hjf:j<p.From.length:=by omega
  simp only[Int.toNat_natCast,hp,hd,cond_true,Ad (Am hj),Option.bind_some,Ad (Am hjf)];rw[show(⟨f.Params,f.Ret,f.Blocks⟩:TFunc)=f from rfl,c_end f l t vs _ (hin _ (Aq hjf)),Option.bind_some];simp only;have eu:Fn f ⟨p.Args.getD j 0,p.From.getD j 0,1000,(p.Bits,1)⟩=⟨p.Args.getD j 0,(p.Bits,1),⟨p.From.getD j 0,Mr f (p.From.getD j 0)⟩⟩:=rfl;rw[eu]at hacc ⊢
  rw[c_use f l t vs _ _ _ acc hacc,Option.bind_some,A1 hj (by omega)]) (fun acc=>by unfold Dc;simp only[Int.toNat_natCast,hp,show decide ((p.Args.length:Int)<(p.Args.length:Int))=false by simp,cond_false]) p.Args.length 0 u (by omega) (by rw[e];exact hB)
 rw[e]at this;exact this
theorem c_phis'(i:Nat)(hi:i<f.Blocks.length)(hfit:∀ p∈(f.Blocks.getD i default).Phis,p.Args.length≤p.From.length∧∀ x∈p.From,A9 x f.Blocks.length)(u:List An)(hB:(u++(Lb (f.Blocks.getD i default)).map (Fn f)).length≤10000000) :
  Ag (Dd f vs (i:Int)) ((0:Int),f.Params,f.Ret,f.Blocks,l,t,u)=some (f.Params,f.Ret,f.Blocks,l,t,u++(Lb (f.Blocks.getD i default)).map (Fn f)):=by
 have hBk:=hf.block _ (Aq (d:=(default:Ae)) hi);have e:=Aa3 (Fn f) (f.Blocks.getD i default).Phis.length fun(k:Nat)=>Ky ((f.Blocks.getD i default).Phis.getD k default)
 have:=Uv 10000000 (fun j u=>(j,f.Params,f.Ret,f.Blocks,l,t,u)) (fun u=>(f.Params,f.Ret,f.Blocks,l,t,u)) (f.Blocks.getD i default).Phis.length (fun(k:Nat)=>(Ky ((f.Blocks.getD i default).Phis.getD k default)).map (Fn f)) (Dd f vs (i:Int)) (fun acc k hk hacc=>by
  have hq:=hfit _ (Aq (d:=(default:E5)) hk);have h1:=c_phi1 hf l t vs i k hi hk hq.1 hq.2 acc hacc;unfold Dd
  have hd:decide ((k:Int)<((f.Blocks.getD i default).Phis.length:Int))=true:=by simpa using hk
  simp only[Int.toNat_natCast,hd,cond_true,Ad (Am hk),h1,Option.bind_some,A1 hk (by have:=hBk.phis;omega)]) (fun acc=>by unfold Dd;simp) (f.Blocks.getD i default).Phis.length 0 u (by omega) (by rw[e];exact hB)
 rw[e]at this;exact this
theorem c_op1(i k:Nat)(hi:i<f.Blocks.length)(hk:k<(f.Blocks.getD i default).Ops.length)(u:List An)(hB:(u++(Mv ((f.Blocks.getD i default).Ops.getD k default) i k).map (Fn f)).length≤10000000) :
  Ag (De f vs (i:Int) (k:Int) (Hm ((f.Blocks.getD i default).Ops.getD k default))) ((0:Int),f.Params,f.Ret,f.Blocks,l,t,u)=some (f.Params,f.Ret,f.Blocks,l,t,u++(Mv ((f.Blocks.getD i default).Ops.getD k default) i k).map (Fn f)):=by
 have hBk:=hf.block _ (Aq (d:=(default:Ae)) hi);have hlen:=Rs (ok_op hf (Aq (d:=(default:Ae)) hi) (Aq (d:=(default:Dy)) hk));have hk512:=hBk.ops
 generalize hp:(f.Blocks.getD i default).Ops.getD k default=o at *
 have e:=map_sing (Fn f) (Hm o).length fun(j:Nat)=>(⟨o.Args.getD j 0,i,k,(Hm o).getD j (0,0)⟩:B9)
 have:=Uv 10000000 (fun j u=>(j,f.Params,f.Ret,f.Blocks,l,t,u)) (fun u=>(f.Params,f.Ret,f.Blocks,l,t,u)) (Hm o).length (fun(j:Nat)=>[Fn f ⟨o.Args.getD j 0,i,k,(Hm o).getD j (0,0)⟩]) (De f vs (i:Int) (k:Int) (Hm o)) (fun acc j hj hacc=>by
  have hkk:((k:Int)==1000)=false:=by simp;omega
  have eu:Fn f ⟨o.Args.getD j 0,i,k,(Hm o).getD j (0,0)⟩=⟨o.Args.getD j 0,(Hm o).getD j (0,0),⟨(i:Int),(k:Int)⟩⟩:=by unfold Fn;simp only[hkk,cond_false]
  rw[eu]at hacc ⊢;unfold De
  have hd:decide ((j:Int)<((Hm o).length:Int))=true:=by simpa using hj
  have hja:j<o.Args.length:=by omega
  simp only[Int.toNat_natCast,hp,hd,cond_true,Ad (Am hj),Ad (Am hja)]
  rw[show(⟨f.Params,f.Ret,f.Blocks⟩:TFunc)=f from rfl,c_use f l t vs _ _ _ acc hacc,Option.bind_some,A1 hj (by omega)]) (fun acc=>by unfold De;simp) (Hm o).length 0 u (by omega) (by rw[e];exact hB)
 rw[e]at this;exact this
theorem c_ops'(i:Nat)(hi:i<f.Blocks.length)(u:List An)(hB:(u++(O6 (f.Blocks.getD i default) i).map (Fn f)).length≤10000000) :
  Ag (Df f vs (i:Int)) ((0:Int),f.Params,f.Ret,f.Blocks,l,t,u)=some (f.Params,f.Ret,f.Blocks,l,t,u++(O6 (f.Blocks.getD i default) i).map (Fn f)):=by
 have hmem:=Aq (d:=(default:Ae)) hi;have hBk:=hf.block _ hmem;have e:=Aa3 (Fn f) (f.Blocks.getD i default).Ops.length fun(k:Nat)=>Mv ((f.Blocks.getD i default).Ops.getD k default) i k
 have:=Uv 10000000 (fun j u=>(j,f.Params,f.Ret,f.Blocks,l,t,u)) (fun u=>(f.Params,f.Ret,f.Blocks,l,t,u)) (f.Blocks.getD i default).Ops.length (fun(k:Nat)=>(Mv ((f.Blocks.getD i default).Ops.getD k default) i k).map (Fn f)) (Df f vs (i:Int)) (fun acc k hk hacc=>by
  have h1:=c_op1 hf l t vs i k hi hk acc hacc;have ht:K5 ((f.Blocks.getD i default).Ops.getD k default)=some (Hm ((f.Blocks.getD i default).Ops.getD k default)):=kind_Takes _ (opOk hf hmem (Aq hk));unfold Df
  have hd:decide ((k:Int)<((f.Blocks.getD i default).Ops.length:Int))=true:=by simpa using hk
  simp only[Int.toNat_natCast,hd,cond_true,Ad (Am hk),ht,h1,Option.bind_some,A1 hk (by have:=hBk.ops;omega)]) (fun acc=>by unfold Df;simp) (f.Blocks.getD i default).Ops.length 0 u (by omega) (by rw[e];exact hB)
 rw[e]at this;exact this
theorem c_collect (hfit : ∀ b ∈ f.Blocks, ∀ p ∈ b.Phis, p.Args.length ≤ p.From.length ∧ ∀ x ∈ p.From, A9 x f.Blocks.length) : Fs f l t vs [] = some (f, l, t, (Bw f).map (Fn f)) := by
  have e := Aa3 (Fn f) f.Blocks.length fun (i : Nat) => Xc f (f.Blocks.getD i default) i; have hul := X6 hf
  have := Uv 10000000 (fun j u => (j, f.Params, f.Ret, f.Blocks, l, t, u)) (fun u => (f.Params, f.Ret, f.Blocks, l, t, u)) f.Blocks.length (fun (i : Nat) => (Xc f (f.Blocks.getD i default) i).map (Fn f)) (Dg f vs) (fun acc i hi hacc => by
    have hmem := Aq (d := (default : Ae)) hi; unfold Xc at hacc ⊢; rw [List.map_append, List.map_append, ← List.append_assoc, ← List.append_assoc] at hacc ⊢; have l1 := hacc; simp only [List.length_append, List.length_map] at l1; have h1 := c_phis' hf l t vs i hi (hfit _ hmem) acc (by simp only [List.length_append, List.length_map]; omega); have h2 := c_ops' hf l t vs i hi (acc ++ (Lb (f.Blocks.getD i default)).map (Fn f)) (by simp only [List.length_append, List.length_map]; omega); have hinb : A9 (i : Int) f.Blocks.length := Am hi; unfold Dg Dx
    have hd : decide ((i : Int) < (f.Blocks.length : Int)) = true := by simpa using hi
    simp only [hd, cond_true, Ad (Am hi), h1, Option.bind_some, h2, Int.toNat_natCast]; have hF : (⟨f.Params, f.Ret, f.Blocks⟩ : TFunc) = f := rfl; have hw : w64 ((i : Int) + 1) = (i : Int) + 1 := A1 hi (by have := hf.blocks; omega); unfold U3 at hacc ⊢
    cases hz : ((f.Blocks.getD i default).End.Kind == 0) with
    | true =>
      have hz2 : ((f.Blocks.getD i default).End.Kind == 2) = false := by have : (f.Blocks.getD i default).End.Kind = 0 := by simpa using hz
                                                                         rw [this]; rfl
      rw [hz, hz2] at hacc; simp only [cond_true, cond_false, hz2, List.append_nil, List.map_cons, List.map_nil] at hacc ⊢; rw [hF, c_end f l t vs _ hinb, Option.bind_some]; simp only; rw [c_use f l t vs _ _ _ _ (show (_ ++ [(⟨_, _, ⟨(i : Int), Mr f (i : Int)⟩⟩ : An)]).length ≤ 10000000 from hacc), Option.bind_some, Option.bind_some, hw]
      rfl
    | false =>
      rw [hz] at hacc
      cases hz2 : ((f.Blocks.getD i default).End.Kind == 2) with
      | true =>
        rw [hz2] at hacc; simp only [cond_true, cond_false, List.nil_append, List.map_cons, List.map_nil] at hacc ⊢; rw [hF, c_end f l t vs _ hinb, Option.bind_some]; simp only; rw [c_use f l t vs _ _ _ _ (show (_ ++ [(⟨_, _, ⟨(i : Int), Mr f (i : Int)⟩⟩ : An)]).length ≤ 10000000 from hacc), Option.bind_some, Option.bind_some, hw]
        rfl
      | false =>
        simp only [cond_false, List.nil_append, List.map_nil, List.append_nil, Option.bind_some, hw]) (fun acc => by unfold Dg; simp) f.Blocks.length 0 [] (by omega) (by rw [e]; simpa [Bw] using (by omega : (Bw f).length ≤ 10000000))
  rw [e, List.nil_append] at this; unfold Fs; rw [show (0 : Int) = ((0 : Nat) : Int) from rfl]
  show ((Ag (Dg f vs) (((0 : Nat) : Int), f.Params, f.Ret, f.Blocks, l, t, [])).bind _) = _
  rw [this, Option.bind_some]
  rfl
end
theorem allS{σ X:Type}(mk:Int→σ)(U:List An)(p:An→Bool)(f:σ→Option (LR σ X))(yes no:X)(hk:∀ i:Nat,i<U.length→f (mk i)=some (bif p (U.getD i default) then .next (mk ((i:Int)+1)) else .done no))(he:f (mk U.length)=some (.done yes)) :
  ∀ k i:Nat,i+k=U.length→Ag f (mk i)=some (bif (U.drop i).all p then yes else no)
 | 0,i,h=>by
  obtain rfl:i=U.length:=by omega
  rw[Ao he]
  simp
 | k+1,i,h=>by
  have hi:i<U.length:=by omega
  have hdr:U.drop i=U.getD i default::U.drop (i+1):=by rw[List.drop_eq_getElem_cons hi,Ah _ _ _ hi]
  have hx:=hk i hi;rw[hdr,List.all_cons]
  cases hp:p (U.getD i default) with
  | true=>
   rw[hp]at hx;rw[Au hx,show((i:Int)+1)=((i+1:Nat):Int) by omega,allS mk U p f yes no hk he k (i+1) (by omega),Bool.true_and]
  | false=>
   rw[hp]at hx;rw[Ao hx]
   rfl
theorem Aan(d:Bi)(l:List Bi)(v:Int):Jc (d::l) v=bif d.V==v then 0 else bif decide (Jc l v<0) then -1 else Jc l v+1:=by
 unfold Jc;rw[List.findIdx?_cons]
 cases d.V==v with
 | true=>rfl
 | false=>
  cases l.findIdx? (fun d=>d.V==v) with
  | none=>rfl
  | some i=>
   simp only[cond_false,Option.map_some];rw[decide_eq_false (by omega)]
   simp
theorem Aa4(v:Int):∀ l:List Bi,Gk (dv l) v = !decide (Jc l v<0)
 | []=>rfl
 | d::l=>by
  rw[Aan]
  show((v==d.V) || Gk (dv l) v)=_
  rw[Aa4 v l,show(v==d.V)=(d.V==v) by rw[Bool.eq_iff_iff];simp;exact eq_comm]
  cases d.V==v with
  | true=>rfl
  | false=>
   by_cases h:Jc l v<0
   ·simp[h]
   ·simp[h];omega
theorem V1(v:Int):∀ l:List Bi,¬ Jc l v<0→Eu (default:Ai) (dv l) v=Zd (defOf l v)
 | [],h=>absurd (show(-1:Int)<0 by decide) h
 | d::l,h=>by
  unfold defOf;rw[Aan]at h ⊢
  show(bif v==d.V then Zd d else Eu default (dv l) v)=_
  rw[show(v==d.V)=(d.V==v) by rw[Bool.eq_iff_iff];simp;exact eq_comm]
  cases hb:d.V==v with
  | true=>rfl
  | false=>
   rw[hb]at h
   by_cases hn:Jc l v<0
   ·simp[hn]at h
   ·have hz:decide (Jc l v<0)=false:=decide_eq_false hn;simp only[cond_false,hz];rw[V1 v l hn,show(Jc l v+1).toNat=(Jc l v).toNat+1 by omega]
    rfl
def DefIn(f:TFunc)(d:Bi):Prop:=d.Block = -1∨(A9 d.Block f.Blocks.length∧d.At<Mr f d.Block∧d.At<1000)
def UseIn(f:TFunc)(u:B9):Prop:=A9 u.Block f.Blocks.length∧0≤u.At
theorem defs_in{f:TFunc}(hf:OkF f):∀ d∈Ap f,DefIn f d:=fun d hd=>by
 rcases List.mem_append.1 hd with h|h
 ·obtain⟨i,_,hi⟩:=List.mem_flatMap.1 h;rw[List.mem_singleton.1 hi];exact .inl rfl
 ·obtain⟨i,hi,h⟩:=List.mem_flatMap.1 h
  have hi:i<f.Blocks.length:=by simpa using hi
  have hB:=hf.block _ (Aq (d:=(default:Ae)) hi);have ho:Mr f (i:Int)=((f.Blocks.getD i default).Ops.length:Int):=rfl;rcases List.mem_append.1 h with h|h
  ·obtain⟨k,hk,h⟩:=List.mem_flatMap.1 h;rw[List.mem_singleton.1 h];refine .inr ⟨Am hi,?_,?_⟩
   ·show(-1:Int)<Mr f (i:Int);rw[ho];omega
   ·show(-1:Int)<1000;omega
  ·obtain⟨k,hk,h⟩:=List.mem_flatMap.1 h
   have hk:k<(f.Blocks.getD i default).Ops.length:=by simpa using hk
   cases hg:decide (0<(Jd ((f.Blocks.getD i default).Ops.getD k default)).1) with
   | false=>rw[hg]at h;cases h
   | true=>
    rw[hg]at h;rw[List.mem_singleton.1 h];refine .inr ⟨Am hi,?_,?_⟩
    ·show(k:Int)<Mr f (i:Int);rw[ho];omega
    ·show(k:Int)<1000;have:=hB.ops;omega
theorem uses_in{f:TFunc}(hfit:∀ b∈f.Blocks,∀ p∈b.Phis,p.Args.length≤p.From.length∧∀ x∈p.From,A9 x f.Blocks.length):∀ u∈Bw f,UseIn f u:=fun u hu=>by
 obtain⟨i,hi,h⟩:=List.mem_flatMap.1 hu
 have hi:i<f.Blocks.length:=by simpa using hi
 have hmem:=Aq (d:=(default:Ae)) hi;rcases List.mem_append.1 h with h|h
 ·rcases List.mem_append.1 h with h|h
  ·obtain⟨k,hk,h⟩:=List.mem_flatMap.1 h
   have hk:k<(f.Blocks.getD i default).Phis.length:=by simpa using hk
   obtain⟨j,hj,h⟩:=List.mem_flatMap.1 h;have hj:=List.mem_range.1 hj;have hq:=hfit _ hmem _ (Aq (d:=(default:E5)) hk);rw[List.mem_singleton.1 h];exact⟨hq.2 _ (Aq (by omega)),by show(0:Int)≤1000;omega⟩
  ·obtain⟨k,hk,h⟩:=List.mem_flatMap.1 h;obtain⟨j,hj,h⟩:=List.mem_flatMap.1 h;rw[List.mem_singleton.1 h];exact⟨Am hi,by show(0:Int)≤(k:Int);omega⟩
 ·unfold U3 at h
  have:u=⟨(f.Blocks.getD i default).End.Arg,i,1000,(f.Ret,1)⟩∨u=⟨(f.Blocks.getD i default).End.Arg,i,1000,(1,1)⟩:=by
   rcases List.mem_append.1 h with h|h
   ·cases hz:((f.Blocks.getD i default).End.Kind==0) with
    | true=>rw[hz]at h;exact .inl (List.mem_singleton.1 h)
    | false=>rw[hz]at h;cases h
   ·cases hz:((f.Blocks.getD i default).End.Kind==2) with
    | true=>rw[hz]at h;exact .inr (List.mem_singleton.1 h)
    | false=>rw[hz]at h;cases h
  rcases this with rfl|rfl<;>exact⟨Am hi,by show(0:Int)≤1000;omega⟩
theorem fit_of{f:TFunc}(h:Hw f=true):∀ b∈f.Blocks,∀ p∈b.Phis,p.Args.length≤p.From.length∧∀ x∈p.From,A9 x f.Blocks.length:=fun b hb p hp=>by
 have hs:Lm f=true:=by simp only[Hw,Bool.and_eq_true]at h;exact h.1
 refine⟨shape_fit h b hb p hp,fun x hx=>?_⟩;obtain⟨i,hi,rfl⟩:=List.getElem_of_mem hb;simp only[Hw,Bool.and_eq_true]at h;have h1:=allN h.2 i hi;simp only[Kj,Bool.and_eq_true,List.all_eq_true]at h1;rw[Ah _ _ _ hi]at h1;have h2:=h1.2 p hp;simp only[Gz,Bool.and_eq_true,decide_eq_true_eq]at h2;rw[h2.1]at hx;obtain⟨q,rfl,hq,_⟩:=(W4 (L:=Ch f) (Nx hs) (y:=i) (by rw[T7];exact hi)).1 hx;exact Am (by rw[T7]at hq;exact hq)
theorem over_first{f:TFunc}(h:Hw f=true){b:Int}(hb:A9 b f.Blocks.length):Vo (Cv f) 0 b=true:=by
 have hs:Lm f=true:=by simp only[Hw,Bool.and_eq_true]at h;exact h.1
 have hm:=Nx hs;have hlen:=T7 f
 have hpos:0<(Ch f).length:=by have:=(shape_iff.1 hs).1.1;omega
 obtain⟨P,hP,o,ht⟩:=treeD_dom hm hpos
 have e:Cv f=Ug (Ch f) 0:=by
  unfold Cv treeG;rw[if_pos ⟨mayG_gOf hm,Int.le_refl _,by show(0:Int)<((Ch f).length:Int);omega⟩]
  rfl
 obtain⟨k,rfl⟩:∃ k:Nat,b=(k:Int):=⟨b.toNat,(Int.toNat_of_nonneg hb.1).symm⟩
 have hk:k<f.Blocks.length:=by have:=hb.2;omega
 simp only[Hw,Bool.and_eq_true]at h;have h1:=allN h.2 k hk;simp only[Kj,Bool.and_eq_true]at h1;have hr:Rch (sN (Ch f)) 0 k:=(W6 (Se hm) hpos k).1 h1.1.1;rw[e];refine(ht.over_dom o hpos (by omega)).2 ⟨rc_iff.2 hr,fun ha=>?_⟩;exact(av_iff.1 ha).1 rfl
theorem Tb{l:List B9}{g:B9→An}{p:An→Bool}{q:B9→Bool}(h:∀ u∈l,p (g u)=q u):(l.map g).all p=l.all q:=by
 induction l with
 | nil=>rfl
 | cons a l ih=>rw[List.map_cons,List.all_cons,List.all_cons,h a (by simp),ih fun u hu=>h u (by simp[hu])]
def fitP(vs:List (Int×Ai))(u:An):Bool:=((Eu (default:Ai) vs u.v).shape.1==u.shape.1)&&(((Eu (default:Ai) vs u.v).shape.2==u.shape.2)&&true)
def Vu(vs:List (Int×Ai))(t:List Int)(u:An):Bool:=bif (Eu (default:Ai) vs u.v).place.block==u.place.block then decide ((Eu (default:Ai) vs u.v).place.at_<u.place.at_) else Vo t (Eu (default:Ai) vs u.v).place.block u.place.block
theorem ahead_eq{f:TFunc}(hs:Hw f=true){D:List Bi}(hD:∀ d∈D,DefIn f d){u:B9}(hu:UseIn f u)(hfd:Js D u=true):Vu (dv D) (Cv f) (Fn f u)=Qb D (Cv f) u:=by
 have hF:¬ Jc D u.V<0:=by simpa [Js] using hfd
 have hin:=findD_in hF;have hd:DefIn f (defOf D u.V):=hD _ (by unfold defOf;exact Aq (by have:=hin.1;have:=hin.2;omega));have hg:Eu (default:Ai) (dv D) (Fn f u).v=Zd (defOf D u.V):=V1 u.V D hF;unfold Vu Qb;rw[hg]
 generalize defOf D u.V=d at *
 have hub:=hu.1.1
 have hul:0≤Mr f u.Block:=by unfold Mr;omega
 have hat:∀ a:Int,a<0∨(a<Mr f u.Block∧a<1000)→decide (a<(Fn f u).place.at_)=decide (a<u.At)∨a<0:=fun a ha=>by
  rcases ha with ha|ha
  ·exact .inr ha
  ·refine .inl ?_
   show decide (a<bif u.At==1000 then Mr f u.Block else u.At)=_
   by_cases h:u.At=1000
   ·rw[h];simp only[show((1000:Int)==1000)=true from rfl,cond_true];rw[decide_eq_true ha.1,decide_eq_true ha.2]
   ·have:(u.At==1000)=false:=by simpa using h
    rw[this];rfl
 have hpos:0≤(Fn f u).place.at_:=by
  show 0≤bif u.At==1000 then Mr f u.Block else u.At
  cases u.At==1000
  ·exact hu.2
  ·exact hul
 have hblk:(Fn f u).place.block=u.Block:=rfl;rw[hblk];rcases hd with hd|⟨hd1,hd2,hd3⟩
 ·have e:(Zd d).place=⟨0,-1⟩:=by show atD d=_;unfold atD;rw[hd];rfl
  rw[e,hd,decide_eq_true (show(-1:Int)<0 by decide)]
  show(bif (0:Int)==u.Block then decide ((-1:Int)<(Fn f u).place.at_) else Vo (Cv f) 0 u.Block)=_
  rw[Bool.true_or,Bool.true_or,over_first hs hu.1,decide_eq_true (show(-1:Int)<(Fn f u).place.at_ by omega)]
  cases(0:Int)==u.Block<;>rfl
 ·have hn:¬ d.Block<0:=by have:=hd1.1;omega
  have e:(Zd d).place=⟨d.Block,d.At⟩:=by show atD d=_;unfold atD;rw[decide_eq_false hn];rfl
  rw[e,decide_eq_false hn,Bool.false_or]
  show(bif d.Block==u.Block then decide (d.At<(Fn f u).place.at_) else Vo (Cv f) d.Block u.Block)=_
  cases hb:d.Block==u.Block with
  | true=>
   have hbe:d.Block=u.Block:=by simpa using hb
   simp only[cond_true,Bool.true_and,Bool.not_true,Bool.false_and,Bool.or_false];rcases hat d.At (.inr ⟨by rw[← hbe];exact hd2,hd3⟩) with h|h
   ·exact h
   ·rw[decide_eq_true (by omega),decide_eq_true (by have:=hu.2;omega)]
  | false=>
   simp only[cond_false,Bool.false_and,Bool.false_or,Bool.not_false,Bool.true_and];unfold Vo
   by_cases hm:Mz (Cv f) d.Block u.Block=d.Block
   ·rw[hm]
    have:(d.Block !=-2)=true:=by simp;omega
    simp[this]
   ·have:(Mz (Cv f) d.Block u.Block==d.Block)=false:=by simpa using hm
    simp[this,bne]
section
variable {f:TFunc} (l:Int) (vs:List (Int×Ai))
def stU(f:TFunc)(l:Int)(U:List An)(i:Int):Int×List Int×Int×List Ae×Int×List Int×List An:=(i,f.Params,f.Ret,f.Blocks,l,Cv f,U)
def stX(f:TFunc)(l:Int)(U:List An):List Int×Int×List Ae×Int×List Int×List An:=(f.Params,f.Ret,f.Blocks,l,Cv f,U)
theorem c_used1(U:List An)(hU:U.length<9223372036854775808):Ag (Di vs (f,l,Cv f,U)) (stU f l U 0)=some (bif U.all (fun u=>Gk vs u.v) then .inl (stX f l U) else .inr (stX f l U)):=by
 have:=allS (stU f l U) U (fun u=>Gk vs u.v) (Di vs (f,l,Cv f,U)) (.inl (stX f l U)) (.inr (stX f l U)) (fun i hi=>by
  unfold Di stU Hs
  have hd:decide ((i:Int)<(U.length:Int))=true:=by simpa using hi
  simp only[hd,cond_true,Ad (Am hi),Int.toNat_natCast,Option.bind_some,A1 hi hU]
  cases Gk vs (U.getD i default).v<;>rfl) (by unfold Di stU;simp;rfl) U.length 0 (by omega)
 rw[List.drop_zero]at this;exact this
theorem c_used2(U:List An)(hU:U.length<9223372036854775808):Ag (Dj vs U) (stU f l U 0)=some (bif U.all (fitP vs) then .inl (stX f l U) else .inr (stX f l U)):=by
 have:=allS (stU f l U) U (fitP vs) (Dj vs U) (.inl (stX f l U)) (.inr (stX f l U)) (fun i hi=>by
  unfold Dj stU Iw
  have hd:decide ((i:Int)<(U.length:Int))=true:=by simpa using hi
  simp only[hd,cond_true,Ad (Am hi),Int.toNat_natCast,Option.bind_some,A1 hi hU];unfold fitP
  cases(((Eu (default:Ai) vs (U.getD i default).v).shape.1==(U.getD i default).shape.1)&&(((Eu (default:Ai) vs (U.getD i default).v).shape.2==(U.getD i default).shape.2)&&true))<;>rfl) (by unfold Dj stU;simp;rfl) U.length 0 (by omega)
 rw[List.drop_zero]at this;exact this
theorem c_used3(htl:(Cv f).length≤1000)(U:List An)(hU:U.length<9223372036854775808):Ag (Dk vs U) (stU f l U 0)=some (bif U.all (Vu vs (Cv f)) then .inl (stX f l U) else .inr (stX f l U)):=by
 have:=allS (stU f l U) U (Vu vs (Cv f)) (Dk vs U) (.inl (stX f l U)) (.inr (stX f l U)) (fun i hi=>by
  have hx:Fu (U.getD i default) f l (Cv f) vs U=some (Vu vs (Cv f) (U.getD i default),f,l,Cv f,U):=by
   unfold Fu Vu;rw[m_Over htl]
   cases(Eu (default:Ai) vs (U.getD i default).v).place.block==(U.getD i default).place.block<;>rfl
  unfold Dk stU
  have hd:decide ((i:Int)<(U.length:Int))=true:=by simpa using hi
  simp only[hd,cond_true,Ad (Am hi),Int.toNat_natCast];rw[show(⟨f.Params,f.Ret,f.Blocks⟩:TFunc)=f from rfl,hx,Option.bind_some,A1 hi hU]
  cases Vu vs (Cv f) (U.getD i default)<;>rfl) (by unfold Dk stU;simp;rfl) U.length 0 (by omega)
 rw[List.drop_zero]at this;exact this
end
def usedD(f:TFunc):Int:=bif !(Bw f).all (Js (Ap f)) then 7 else bif !(Bw f).all (R6 (Ap f)) then 6 else bif !(Bw f).all (Qb (Ap f) (Cv f)) then 7 else 0
theorem c_used{f:TFunc}(hf:OkF f)(hs:Hw f=true)(l:Int):∃ U,Hb f l (Cv f) (dv (Ap f)) []=some (usedD f,f,l,Cv f,U):=by
 have hfit:=fit_of hs;have hul:=X6 hf
 have hsB:Lm f=true:=by simp only[Hw,Bool.and_eq_true]at hs;exact hs.1
 refine⟨(Bw f).map (Fn f),?_⟩
 have hU:((Bw f).map (Fn f)).length<9223372036854775808:=by rw[List.length_map];omega
 have h1:=c_used1 (f:=f) l (dv (Ap f)) _ hU;have h2:=c_used2 (f:=f) l (dv (Ap f)) _ hU;have h3:=c_used3 (f:=f) l (dv (Ap f)) (tree_len hsB) _ hU;rw[Tb (q:=Js (Ap f)) (fun u _=>Aa4 u.V _)]at h1;unfold Hb usedD P1;rw[c_collect hf l (Cv f) (dv (Ap f)) hfit,Option.bind_some];simp only;rw[show(Ag (Di (dv (Ap f)) (f,l,Cv f,(Bw f).map (Fn f))) ((0:Int),f.Params,f.Ret,f.Blocks,l,Cv f,(Bw f).map (Fn f)))=_ from h1,Option.bind_some];have fin:∀ e:Int,Ag Je (e,f.Params,f.Ret,f.Blocks,l,Cv f,(Bw f).map (Fn f))=some (e,f,l,Cv f,(Bw f).map (Fn f)):=fun e=>Ao rfl
 cases hfd:(Bw f).all (Js (Ap f)) with
 | false=>simp only[cond_false,Bool.not_false,cond_true,stX,Option.bind_some,fin]
 | true=>
  have hmf:=List.all_eq_true.1 hfd
  rw[Tb (q:=R6 (Ap f)) (fun u hu=>by
   have:=hmf u hu;simp only[Js,Bool.not_eq_true',decide_eq_false_iff_not]at this;have hg:Eu (default:Ai) (dv (Ap f)) (Fn f u).v=Zd (defOf (Ap f) u.V):=V1 u.V _ this;unfold fitP R6
   rw[hg];rfl)]at h2
  rw[Tb (q:=Qb (Ap f) (Cv f)) (fun u hu=>ahead_eq hs (defs_in hf) (uses_in hfit u hu) (hmf u hu))]at h3;simp only[cond_true,Bool.not_true,cond_false,stX];rw[show(Ag (Dj (dv (Ap f)) ((Bw f).map (Fn f))) ((0:Int),f.Params,f.Ret,f.Blocks,l,Cv f,(Bw f).map (Fn f)))=_ from h2,Option.bind_some]
  cases(Bw f).all (R6 (Ap f)) with
  | false=>simp only[cond_false,Bool.not_false,cond_true,stX,Option.bind_some,fin]
  | true=>
   simp only[cond_true,Bool.not_true,cond_false,stX];rw[show(Ag (Dk (dv (Ap f)) ((Bw f).map (Fn f))) ((0:Int),f.Params,f.Ret,f.Blocks,l,Cv f,(Bw f).map (Fn f)))=_ from h3,Option.bind_some]
   cases(Bw f).all (Qb (Ap f) (Cv f)) with
   | false=>simp only[cond_false,Bool.not_false,cond_true,stX,Option.bind_some,fin]
   | true=>simp only[cond_true,Bool.not_true,cond_false,stX,Option.bind_some]
theorem c_wrong{f:TFunc}(h:Sm f)(l:Int)(h0:0≤l)(h2:l≤2):∃ t u vs,Fe f l [] []=some (E7 f l,f,l,t,u,vs)∧(E7 f l=0→vs=dv (Ap f)):=by
 have hc:E7 f l=bif !O9 f then 4 else wrongD f l:=by
  unfold E7;rw[decide_eq_false (by omega),decide_eq_false (by omega)];rfl
 rw[hc];unfold Fe;rw[c_told f h.1,Option.bind_some]
 cases hm:O9 f with
 | false=>exact⟨[],[],[],rfl,fun h=>by cases h⟩
 | true=>
  have hf:=sm_ok h hm;simp only[cond_true,Bool.not_true,cond_false,show((0:Int)!=0)=false from rfl,wrongD];obtain⟨t',hsh,hst⟩:=c_shaped hf l [] [];rw[hsh,Option.bind_some]
  cases hs:Hw f with
  | false=>exact⟨t',[],[],rfl,fun h=>by cases h⟩
  | true=>
   obtain rfl:=hst hs;simp only[cond_true,Bool.not_true,cond_false,show((0:Int)!=0)=false from rfl];rw[c_typed hf l h0 h2,Option.bind_some]
   cases Rv f l with
   | false=>exact⟨Cv f,[],[],rfl,fun h=>by cases h⟩
   | true=>
    simp only[cond_true,Bool.not_true,cond_false,show((0:Int)!=0)=false from rfl];obtain⟨vs,hd,hv⟩:=c_defined hf l (Cv f) [];rw[hd,Option.bind_some]
    cases hdd:(List.range (Ap f).length).all (Lh (Ap f)) with
    | false=>exact⟨Cv f,[],vs,rfl,fun h=>by cases h⟩
    | true=>
     obtain rfl:=hv hdd;simp only[cond_true,Bool.not_true,cond_false,show((0:Int)!=0)=false from rfl];obtain⟨U,hu⟩:=c_used hf hs l;rw[hu,Option.bind_some];refine⟨Cv f,U,dv (Ap f),?_,fun _=>rfl⟩
     show(bif usedD f !=0 then some (usedD f,f,l,Cv f,U,dv (Ap f)) else some (0,f,l,Cv f,U,dv (Ap f)))=some (usedD f,f,l,Cv f,U,dv (Ap f))
     cases hz:usedD f !=0 with
     | true=>rfl
     | false=>
      have:usedD f=0:=by simpa using hz
      rw[this];rfl
theorem c_check(f:TFunc)(l:Int)(h:Sm f):Es f l=some (E7 f l):=by
 unfold Es
 by_cases h0:l<0
 ·rw[decide_eq_true h0];unfold E7;rw[decide_eq_true h0];rfl
 ·by_cases h2:2<l
  ·rw[decide_eq_false h0,decide_eq_true h2];unfold E7;rw[decide_eq_false h0,decide_eq_true h2];rfl
  ·obtain⟨t,u,vs,hw,_⟩:=c_wrong h l (by omega) (by omega);rw[decide_eq_false h0,decide_eq_false h2,hw];rfl
def lone(e:Hn)(b r:Int):TFunc:=⟨[b],r,[⟨[],[],e⟩]⟩
theorem ones{α:Type}(l:List α):(l.map fun _=>1).sum=l.length:=by induction l with|nil=>rfl|cons a l ih=>simp[ih];omega
theorem grow_if(n d:Int):(if n<d then d else n)=grow n d:=by
 unfold grow
 by_cases h:n<d<;>simp[h]
theorem c_last(f:TFunc)(h:Sm f):Iu f=some (Yg f):=by
 have hf:=h.1
 have h1:∀(i:Nat),i<f.Blocks.length→∀ n:Int,Ag (Jy f (i:Int)) (n,(0:Int))=some ((f.Blocks.getD i default).Phis.foldl (fun n p=>grow n p.Dst) n):=fun i hi n=>by
  have hB:=hf.block _ (Aq (d:=(default:Ae)) hi);refine M5 (f.Blocks.getD i default).Phis (default:E5) _ _ (fun s j hj=>?_) (fun s=>?_) n
  ·unfold Jy
   have hd:decide ((j:Int)<((f.Blocks.getD i default).Phis.length:Int))=true:=by simpa using hj
   simp only[Int.toNat_natCast,hd,cond_true,Ad (Am hj),X7 hj hB.1,grow_if]
  ·unfold Jy
   simp
 have h2:∀(i:Nat),i<f.Blocks.length→∀ n:Int,Ag (Jz f (i:Int)) (n,(0:Int))=some ((f.Blocks.getD i default).Ops.foldl (fun n p=>grow n p.Dst) n):=fun i hi n=>by
  have hB:=hf.block _ (Aq (d:=(default:Ae)) hi);refine M5 (f.Blocks.getD i default).Ops (default:Dy) _ _ (fun s j hj=>?_) (fun s=>?_) n
  ·unfold Jz
   have hd:decide ((j:Int)<((f.Blocks.getD i default).Ops.length:Int))=true:=by simpa using hj
   simp only[Int.toNat_natCast,hd,cond_true,Ad (Am hj),X7 hj hB.2.1,grow_if]
  ·unfold Jz
   simp
 unfold Iu Yg
 rw[M5 f.Blocks (default:Ae) (fun n b=>b.Ops.foldl (fun n o=>grow n o.Dst) (b.Phis.foldl (fun n p=>grow n p.Dst) n)) (J0 f) (fun s i hi=>by
  unfold J0
  have hd:decide ((i:Int)<(f.Blocks.length:Int))=true:=by simpa using hi
  simp only[hd,cond_true,Ad (Am hi),h1 i hi,h2 i hi,Option.bind_some,X7 hi hf.blocks]) (fun s=>by unfold J0;simp)]
 rfl
def shv(l:List Bi):List (Int×(Int×Int)):=l.map fun d=>(d.V,d.Shape)
theorem defs_nodup{f:TFunc}(h:(List.range (Ap f).length).all (Lh (Ap f))=true):((Ap f).map (·.V)).Nodup:=by
 rw[List.nodup_iff_pairwise_ne,List.pairwise_map,List.pairwise_iff_getElem];intro i j hi hj hij he;have:=((Xt hj).1 (allN h j hj)).2 i hij;rw[Ah _ _ _ hi,Ah _ _ _ hj]at this;exact this he
theorem run_shapes{x1:Int×TFunc×Int×List Int×List An×List (Int×Ai)}(D:List Bi)(hx:x1.2.2.2.2.2=dv D)(hn:(D.map (·.V)).Nodup):∀(τ:List Nat) (acc:List (Int×(Int×Int))),τ.Nodup→(∀ i∈τ,i<D.length)→(∀ i∈τ,Gk acc (D.getD i default).V=false)→
  T8 (Hr x1) Iv τ acc=some (acc++τ.map fun i=>((D.getD i default).V,(D.getD i default).Shape))
 | [],acc,_,_,_=>by simp[T8,Iv]
 | i::τ,acc,hd,hin,hf=>by
  have hi:=hin i (by simp)
  have hg:(dv D).getD i ((0:Int),(default:Ai))=((D.getD i default).V,Zd (D.getD i default)):=by
   unfold dv;simp[List.getD,hi]
  have hm:=Wu (D.getD i default).V (D.getD i default).Shape (hf i (by simp))
  have hstep:Hr x1 i acc=some (.next (acc++[((D.getD i default).V,(D.getD i default).Shape)])):=by
   unfold Hr;rw[hx,hg]
   show some (LR.next (Ka acc (D.getD i default).V ((D.getD i default).Shape.1,(D.getD i default).Shape.2)))=_
   rw[show((D.getD i default).Shape.1,(D.getD i default).Shape.2)=(D.getD i default).Shape from rfl,hm]
  unfold T8;rw[hstep]
  show T8 _ _ τ _=_
  rw[run_shapes D hx hn τ _ (List.nodup_cons.1 hd).2 (fun j hj=>hin j (by simp[hj])) (fun j hj=>?_),List.map_cons,List.append_assoc]
  ·rfl
  ·have h1:=hf j (by simp[hj]);rw[Ts]at h1 ⊢;rw[List.any_append,h1,Bool.false_or];have hj':=hin j (by simp[hj]);have hne:j≠i:=fun e=>(List.nodup_cons.1 hd).1 (e▸hj)
   have:(D.getD j default).V≠(D.getD i default).V:=fun e=>by
    rw[List.nodup_iff_pairwise_ne,List.pairwise_map,List.pairwise_iff_getElem]at hn;rw[Ah _ _ _ hi,Ah _ _ _ hj']at e;rcases Nat.lt_or_gt_of_ne hne with h|h
    ·exact hn j i hj' hi h e
    ·exact hn i j hi hj' h e.symm
   simpa using this
theorem c_shapes(f:TFunc)(h:Sm f):∃ s,G9 f=some s∧ShapesOf f s:=by
 obtain⟨t,u,vs,hw,hv⟩:=c_wrong h 2 (by omega) (by omega);unfold G9;rw[hw,Option.bind_some]
 cases hc:(E7 f 2 !=0) with
 | true=>
  have hne:E7 f 2≠0:=by simpa using hc
  exact⟨[],rfl,fun _=>rfl,fun e=>absurd e hne,fun e=>absurd e hne,fun e=>absurd e hne⟩
 | false=>
  have h0:E7 f 2=0:=by simpa using hc
  obtain rfl:=hv h0;have hz:=(check_zero (f:=f) (l:=2) (by omega) (by omega)).1 h0
  have hall:(List.range (Ap f).length).all (Lh (Ap f))=true:=by
   have:=hz.2.2.2;unfold restD at this
   cases hb:(List.range (Ap f).length).all (Lh (Ap f)) with
   | true=>rfl
   | false=>rw[hb]at this;cases this
  have hn:=defs_nodup hall
  have hlen:(mapE (fun(v_:Ai)=>((.agg (Ey v_)):AV)) (dv (Ap f))).length=(Ap f).length:=by simp[mapE,dv]
  have hkeys:((shv (Ap f)).map (·.1)).Nodup:=by
   have:(shv (Ap f)).map (·.1)=(Ap f).map (·.V):=by unfold shv;rw[List.map_map];rfl
   rw[this];exact hn
  have hrun:∀ τ:List Nat,τ.Perm (List.range (mapE (fun(v_:Ai)=>((.agg (Ey v_)):AV)) (dv (Ap f))).length)→∃ x',T8 (Hr (E7 f 2,f,2,t,u,dv (Ap f))) Iv τ ([]:List (Int×(Int×Int)))=some x'∧permN x' (shv (Ap f)):=fun τ hτ=>by
   rw[hlen]at hτ;have hr:=run_shapes (x1:=(E7 f 2,f,2,t,u,dv (Ap f))) (Ap f) rfl hn τ [] (hτ.nodup_iff.2 List.nodup_range) (fun i hi=>List.mem_range.1 (hτ.mem_iff.1 hi)) (fun _ _=>rfl);refine⟨_,hr,?_,hkeys⟩;rw[List.nil_append];have:=hτ.map fun i=>(((Ap f).getD i default).V,((Ap f).getD i default).Shape);refine this.trans ?_
   have e:(List.range (Ap f).length).map (fun i=>(((Ap f).getD i default).V,((Ap f).getD i default).Shape))=shv (Ap f):=by
    unfold shv
    apply List.ext_getElem
    ·simp
    ·intro i h1 h2;simp only[List.length_map,List.length_range]at h1;simp only[List.getElem_map,List.getElem_range,Ah _ _ _ h1]
   rw[e]
  obtain⟨s,hs⟩:=rangeP_ex ⟨shv (Ap f),hrun⟩
  have hp:s.Perm (shv (Ap f))∧(s.map (·.1)).Nodup:=by
   have hsp:=Yp hs (List.range _) (List.Perm.refl _);obtain⟨x',h1,h2⟩:=hsp;obtain⟨x2,h3,h4⟩:=hrun (List.range _) (List.Perm.refl _);rw[h1]at h3;obtain rfl:=OI h3;exact⟨h2.1.symm.trans h4.1,h2.2⟩
  refine⟨s,?_,fun hne=>absurd h0 hne,fun _=>?_,fun _ d hd=>?_,fun _ v hv=>?_⟩
  ·show(V2 permN _ _ _ _).bind _=_
   rw[hs];rfl
  ·rw[hp.1.length_eq];simp[shv]
  ·have hm:(d.V,d.Shape)∈s:=hp.1.mem_iff.2 (List.mem_map.2 ⟨d,hd,rfl⟩);exact Wt hp.2 hm
  ·rw[Ts,List.any_eq_true]at hv;obtain⟨q,hq,he⟩:=hv;obtain⟨d,hd,rfl⟩:=List.mem_map.1 (hp.1.mem_iff.1 hq);exact⟨d,hd,by simpa using(by simpa using he:v=d.V).symm⟩
theorem facts11:Facts11:=⟨fun f l h=>c_check f l h,fun f h=>c_last f h,fun f h=>c_shapes f h⟩
end
end Go.Proofs.YtggpeloimmlkgaaGreat
