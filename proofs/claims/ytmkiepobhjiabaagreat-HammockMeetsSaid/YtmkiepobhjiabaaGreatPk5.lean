/-
  The machine, the program's functions and the laws' arithmetic: part 5 of 5.
-/
import Derived.Test.YtmkiepobhjiabaaGreatPk4
import Derived.Lib.RowBridge
set_option linter.unusedVariables false
set_option linter.unusedSimpArgs false
namespace Go.Proofs.YtmkiepobhjiabaaGreat
noncomputable section
open Go Go.RowKit
theorem compact_inv(d:Array Int)(hs:∀ i j,i<=j->j<d.size->d[i]!<=d[j]!):∀ m,m<=d.size->(∀ x∈Lib.compactUpTo d m,∃ j,j<m/\x=d[j]!)/\(∀ j,j<m->d[j]!∈Lib.compactUpTo d m)/\(Lib.compactUpTo d m).Pairwise (·<·):=by
 intro m
 induction m with
 | zero=>intro _;exact⟨(fun x hx=>by simp[Lib.compactUpTo]at hx),(fun j hj=>by omega),by simp[Lib.compactUpTo]⟩
 | succ m ih=>
  intro hm;obtain⟨h1,h2,h3⟩:=ih (by omega);rw[Lib.compactUpTo_succ]
  cases hk:Lib.keeps d m with
  | true=>
   rw[if_pos rfl];refine⟨fun x hx=>?_,fun j hj=>?_,?_⟩
   ·rcases zzL13.1 hx with h|h
    ·obtain⟨j,hj,he⟩:=h1 x h;exact⟨j,by omega,he⟩
    ·exact⟨m,by omega,by simpa using h⟩
   ·by_cases hjm:j=m
    ·subst hjm;simp
    ·exact zzL13.2 (.inl (h2 j (by omega)))
   ·rw[zzL126];refine⟨h3,List.pairwise_singleton _ _,fun x hx y hy=>?_⟩;obtain⟨j,hj,rfl⟩:=h1 x hx
    have hy':y=d[m]!:=by simpa using hy
    subst hy'
    have hk':m=0\/d[m]!≠d[m-1]!:=by simpa [Lib.keeps] using hk
    rcases hk' with h0|h0
    ·omega
    ·have a1:=hs j (m-1) (by omega) (by omega);have a2:=hs (m-1) m (by omega) (by omega);omega
  | false=>
   have hk':m≠0/\d[m]! = d[m-1]!:=by
    have:¬ (m=0\/d[m]!≠d[m-1]!):=by
     intro h
     have:Lib.keeps d m=true:=by simpa [Lib.keeps] using h
     rw[hk]at this;cases this
    exact⟨fun h=>this (.inl h),Classical.not_not.1 fun h=>this (.inr h)⟩
   simp only[Xf,Em,List.append_nil];refine⟨fun x hx=>by obtain⟨j,hj,he⟩:=h1 x hx;exact⟨j,by omega,he⟩,fun j hj=>?_,h3⟩
   by_cases hjm:j=m
   ·subst hjm;rw[hk'.2];exact h2 _ (by omega)
   ·exact h2 j (by omega)
def Yi(l:List Int):List Int:=Lib.compact (l.mergeSort fun x y=>decide (x<=y))
theorem Vp(l:List Int):(Yi l).Pairwise (·<·)/\∀ x,x∈Yi l↔x∈l:=by
 unfold Yi Lib.compact;have hp:(l.mergeSort fun x y=>decide (x<=y)).Pairwise (fun a b=>decide (a<=b)=true):=List.pairwise_mergeSort (fun a b c h1 h2=>by simp at *;omega) (fun a b=>by simp;omega) l;have hm:∀ x,x∈(l.mergeSort fun x y=>decide (x<=y))↔x∈l:=fun x=>List.mem_mergeSort
 generalize l.mergeSort (fun x y=>decide (x<=y))=z at hp hm ⊢
 have hz:∀ j,j<z.length->z.toArray[j]! = z.getD j 0:=fun j hj=>by simp[List.getD,hj]
 obtain⟨h1,h2,h3⟩:=compact_inv z.toArray (fun i j hij hj=>by
  have hj':j<z.length:=by simpa using hj
  rw[hz i (by omega),hz j hj']
  by_cases he:i=j
  ·rw[he];exact Int.le_refl _
  ·have:=(zzL125.1 hp) i j (by omega) hj' (by omega);rw[Ag _ _ _ (by omega),Ag _ _ _ hj']
   simpa using this) z.length (by simp)
 refine⟨h3,fun x=>?_⟩;rw[<- hm x]
 constructor
 ·intro hx;obtain⟨j,hj,rfl⟩:=h1 x hx;rw[hz j hj];exact A8 hj
 ·intro hx;obtain⟨j,hj,rfl⟩:=Rb hx;have:=h2 j hj;rwa[hz j hj,Ag _ _ _ hj]at this
def toB(n:Nat)(l:List Int):Bool:=(List.range l.length).all fun i=>decide (0<l.getD i 0)&&decide (l.getD i 0<(n:Int))
def wantK(k:Int):Int:=([0,1,2,0]:List Int).getD k.toNat 0
def kindB(e:I4):Bool:=(decide (0<=e.Kind)&&decide (e.Kind<=3))&&decide ((e.To.length:Int)=wantK e.Kind)
def N0(e:I4)(n:Nat):Bool:=kindB e&&toB n e.To
theorem toB_iff{n:Nat}{l:List Int}:toB n l=true↔∀ x∈l,0<x/\x<n:=by
 unfold toB;rw[all_range];simp only[A7,Gs]
 constructor
 ·intro h x hx;obtain⟨i,hi,rfl⟩:=Rb hx;have:=h i hi;rwa[Ag _ _ _ hi]at this
 ·intro h i hi;exact h _ (A8 hi)
theorem end_loop(e:I4)(n:Nat)(hl:e.To.length<4611686018427387904):An (B7 e (n:Int)) (0:Int)=some (bif toB n e.To then .inl () else .inr false):=by
 have step:∀ j:Nat,j<e.To.length->B7 e (n:Int) (j:Int)=bif (decide (0<e.To.getD j 0)&&decide (e.To.getD j 0<(n:Int))) then some (.next (((j+1:Nat):Int))) else some (.done (.inr false)):=fun j hj=>by
  unfold B7;simp only[Au,E8 hj,Aj,Qs,w1 (show j<4611686018427387904 by omega)];rw[Ae (Hz hj)]
  by_cases h0:e.To.getD j 0=0
  ·rw[h0];rfl
  ·have:(e.To.getD j 0==0)=false:=by rw[zzL37];exact h0
   rw[this];simp only[Rd,Aj,A0,Ax]
   have e1:decide (0<e.To.getD j 0)=decide (0<=e.To.getD j 0):=by apply zzL113.2;omega
   rw[e1]
   cases(decide (0<=e.To.getD j 0)&&decide (e.To.getD j 0<(n:Int)))<;>rfl
 have:=Om (B7 e (n:Int)) (fun j=>((j:Nat):Int)) (fun i=>decide (0<e.To.getD i 0)&&decide (e.To.getD i 0<(n:Int))) (.inl ()) (.inr false) e.To.length (fun j hj hp=>?_) (fun j hj hp=>?_) ?_
 ·exact this
 ·show B7 e (n:Int) (j:Int)=_
  rw[step j hj,hp];rfl
 ·show B7 e (n:Int) (j:Int)=_
  rw[step j hj,hp];rfl
 ·show B7 e (n:Int) _=_
  unfold B7;simp only[I6,A0]
theorem Xw(e:I4)(n:Nat)(w:Int)(hw:0<=w/\w<=2) :
  (bif ((e.To.length:Int)!=w) then(some false) else((An (B7 e (n:Int)) (0:Int)).bind (fun x10=>(match x10 with|(.inl _)=>(some true)|(.inr r12)=>(some r12)))))=some (decide ((e.To.length:Int)=w)&&toB n e.To):=by
 by_cases h:(e.To.length:Int)=w
 ·rw[show((e.To.length:Int)!=w)=false by simpa using h,A0,end_loop e n (by omega),Fu h]
  cases toB n e.To<;>rfl
 ·rw[show((e.To.length:Int)!=w)=true by simpa using h,Aj,Gl h];rfl
theorem m_endFits(e:I4)(n:Nat):I9 e (n:Int)=some (N0 e n):=by
 unfold I9 N0 kindB
 by_cases h0:e.Kind=0
 ·rw[h0];exact Xw e n 0 (by omega)
 by_cases h1:e.Kind=1
 ·rw[h1];exact Xw e n 1 (by omega)
 by_cases h2:e.Kind=2
 ·rw[h2];exact Xw e n 2 (by omega)
 by_cases h3:e.Kind=3
 ·rw[h3];exact Xw e n 0 (by omega)
 have e0:(e.Kind==0)=false:=by rw[zzL37];exact h0
 have e1:(e.Kind==1)=false:=by rw[zzL37];exact h1
 have e2:(e.Kind==2)=false:=by rw[zzL37];exact h2
 have e3:(e.Kind==3)=false:=by rw[zzL37];exact h3
 rw[e0,e1,e2,e3]
 have:(decide (0<=e.Kind)&&decide (e.Kind<=3))=false:=by
  by_cases h:0<=e.Kind
  ·rw[Gl (show ¬ e.Kind<=3 by omega)];simp
  ·rw[Gl h];rfl
 rw[this]
 rfl
theorem fits_len{e:I4}{n:Nat}(h:N0 e n=true):e.To.length<=2:=by
 unfold N0 kindB at h;simp only[A7,Gs]at h;obtain⟨⟨⟨h0,h1⟩,h2⟩,_⟩:=h
 have:wantK e.Kind<=2:=by
  have:e.Kind=0\/e.Kind=1\/e.Kind=2\/e.Kind=3:=by omega
  rcases this with h|h|h|h<;>rw[h]<;>decide
 omega
theorem fits_to{e:I4}{n:Nat}(h:N0 e n=true):toB n e.To=true:=by unfold N0 at h;exact(A7 _ _▸h).2
def Or(f:TFunc)(i:Nat):I4:=(f.Blocks.getD i (default:Ad)).End
def rowsF(f:TFunc):List (List Int):=(List.range f.Blocks.length).map fun i=>Yi (Or f i).To
def Mi(f:TFunc):Bool:=(decide (1<=f.Blocks.length)&&decide (f.Blocks.length<=64))&&(List.range f.Blocks.length).all fun i=>N0 (Or f i) f.Blocks.length
theorem shape_iff{f:TFunc}:Mi f=true↔(1<=f.Blocks.length/\f.Blocks.length<=64)/\∀ i,i<f.Blocks.length->N0 (Or f i) f.Blocks.length=true:=by
 unfold Mi;rw[A7,A7,all_range];simp only[Gs]
theorem rise_ok{f:TFunc}{i:Nat}(h:N0 (Or f i) f.Blocks.length=true):okL f.Blocks.length (Yi (Or f i).To)=true:=by
 obtain⟨h1,h2⟩:=Vp (Or f i).To;exact okL_of (fun x hx=>by have:=(toB_iff.1 (fits_to h)) x ((h2 x).1 hx);omega) h1
theorem O8{f:TFunc}(h:Mi f=true):G4 (rowsF f)=true:=by
 obtain⟨⟨h1,h2⟩,h3⟩:=shape_iff.1 h
 have hl:(rowsF f).length=f.Blocks.length:=by simp[rowsF]
 refine mayS_iff.2 ⟨by omega,by omega,fun i hi=>?_⟩;rw[hl]at hi ⊢;unfold rowsF;rw[Pq hi];exact rise_ok (h3 i hi)
theorem m_of(f:TFunc)(hf:f.Blocks.length<=maxLen):Lh f=some (bif Mi f then(H3 (rowsF f),0) else(g0,5)):=by
 have hroom:(1000:Nat)<=room:=by decide
 unfold Lh;rw[m_isCount,Ax];have hsh:Mi f=((decide (1<=f.Blocks.length)&&decide (f.Blocks.length<=64))&&(List.range f.Blocks.length).all fun i=>N0 (Or f i) f.Blocks.length):=rfl
 cases hc:(decide (1<=f.Blocks.length)&&decide (f.Blocks.length<=64)) with
 | false=>rw[hsh,hc];rfl
 | true=>
  have hc':=hc;simp only[A7,Gs]at hc';simp only[E6,A0];rw[Ae ⟨by omega,Int.le_refl _,by omega⟩,Au]
  let U:Nat->List (List Int):=fun i=>(List.range f.Blocks.length).map fun j=>if j<i then Yi (Or f j).To else[]
  have e0:List.replicate f.Blocks.length ([]:List Int)=U 0:=by
   simp only[U]
   apply List.ext_getElem?
   intro j
   by_cases hj:j<f.Blocks.length<;>simp[hj,List.getElem?_replicate]
  have eN:U f.Blocks.length=rowsF f:=by
   simp only[U,rowsF]
   apply Kz
   intro j hj;rw[if_pos hj]
  rw[e0]
  have hstep:∀ i:Nat,i<f.Blocks.length->Ez f ((i:Int),U i)=bif N0 (Or f i) f.Blocks.length then some (.next (((i+1:Nat):Int),U (i+1))) else some (.done (.inr (g0,5))):=fun i hi=>by
   unfold Ez;simp only[E8 hi,Aj,Au];rw[Ae (Hz hi)];have he:(⟨(f.Blocks.getD i (default:Ad)).End.Kind,(f.Blocks.getD i (default:Ad)).End.Arg,(f.Blocks.getD i (default:Ad)).End.To⟩:I4)=Or f i:=rfl;rw[he,m_endFits,Ax]
   cases hfit:N0 (Or f i) f.Blocks.length with
   | false=>rfl
   | true=>
    have hl2:=fits_len hfit;simp only[E6,A0,Aj]
    have hx:Yo (f.Blocks.getD i (default:Ad)).End.To=some (Yi (Or f i).To):=by
     unfold Yo;rw[isoI_eq,Ae (by show(Or f i).To.length<=_;omega)]
     rfl
    rw[hx,Ax,Ae (Hz (by simp[U];omega)),w1 (by omega)]
    congr 3
    simp only[U];rw[Xb]
    apply Kz
    intro j hj
    by_cases h1:j=i
    ·subst h1;rw[if_pos rfl,if_pos (by omega)]
    ·rw[if_neg h1]
     by_cases h2:j<i
     ·rw[if_pos h2,if_pos (by omega)]
     ·rw[if_neg h2,if_neg (by omega)]
  have:=Om (Ez f) (fun i=>(((i:Nat):Int),U i)) (fun i=>N0 (Or f i) f.Blocks.length) (.inl (U f.Blocks.length)) (.inr (g0,5)) f.Blocks.length (fun i hi hp=>?_) (fun i hi hp=>?_) ?_
  ·rw[show An (Ez f) ((0:Int),U 0)=_ from this,hsh,hc,eN,G2]
   cases hall:(List.range f.Blocks.length).all fun i=>N0 (Or f i) f.Blocks.length with
   | false=>rfl
   | true=>
    simp only[Aj,Ax];rw[m_comers _ (O8 (by rw[hsh,hc,hall];rfl))]
    rfl
  ·show Ez f (_,_)=_
   rw[hstep i hi,hp];rfl
  ·show Ez f (_,_)=_
   rw[hstep i hi,hp];rfl
  ·show Ez f (_,_)=_
   unfold Ez;simp only[I6,A0]
inductive Rc (S:Nat->List Nat) (r:Nat):Nat->Prop
 | root:Rc S r r
 | step {x y:Nat} (h:Rc S r x) (hy:y∈S x):Rc S r y
inductive Av (S:Nat->List Nat) (r z:Nat):Nat->Prop
 | root (h:r≠z):Av S r z r
 | step {x y:Nat} (h:Av S r z x) (hy:y∈S x) (hz:y≠z):Av S r z y
inductive AvN (S:Nat->List Nat) (r z:Nat):Nat->Nat->Prop
 | root (h:r≠z) (k:Nat):AvN S r z k r
 | step {k x y:Nat} (h:AvN S r z k x) (hy:y∈S x) (hz:y≠z):AvN S r z (k+1) y
section
variable {S:Nat->List Nat} {r:Nat}
theorem rc_iff{x:Nat}:Rc S r x↔Rch S r x:=by
 constructor
 ·intro h
  induction h with
  | root=>exact .refl _
  | step _ hy ih=>exact ih.tail hy
 ·intro h
  have key:∀ a b,Rch S a b->Rc S r a->Rc S r b:=by
   intro a b hab
   induction hab with
   | refl x=>exact id
   | head hy _ ih=>exact fun ha=>ih (.step ha hy)
  exact key _ _ h .root
def wo(S:Nat->List Nat)(z:Nat):Nat->List Nat:=fun x=>(S x).filter fun y=>decide (y≠z)
theorem av_iff{z x:Nat}:Av S r z x↔r≠z/\Rch (wo S z) r x:=by
 constructor
 ·intro h
  induction h with
  | root h=>exact⟨h,.refl _⟩
  | step _ hy hz ih=>exact⟨ih.1,ih.2.tail (zzL87.2 ⟨hy,by simpa using hz⟩)⟩
 ·rintro⟨hr,h⟩
  have key:∀ a b,Rch (wo S z) a b->Av S r z a->Av S r z b:=by
   intro a b hab
   induction hab with
   | refl x=>exact id
   | head hy _ ih=>
    obtain⟨h1,h2⟩:=zzL87.1 hy;exact fun ha=>ih (.step ha h1 (by simpa using h2))
  exact key _ _ h (.root hr)
theorem Av.rc{z x:Nat}(h:Av S r z x):Rc S r x:=by
 induction h with
 | root _=>exact .root
 | step _ hy _ ih=>exact .step ih hy
theorem Av.ne{z x:Nat}(h:Av S r z x):x≠z:=by
 cases h with
 | root h=>exact h
 | step _ _ hz=>exact hz
theorem AvN.av{z k x:Nat}(h:AvN S r z k x):Av S r z x:=by
 induction h with
 | root h=>exact .root h
 | step _ hy hz ih=>exact .step ih hy hz
theorem AvN.up{z k x:Nat}(h:AvN S r z k x):AvN S r z (k+1) x:=by
 induction h with
 | root h k=>exact .root h _
 | step _ hy hz ih=>exact .step ih hy hz
theorem AvN.mono{z k m x:Nat}(h:AvN S r z k x)(hm:k<=m):AvN S r z m x:=by
 obtain⟨d,rfl⟩:=Nat.exists_eq_add_of_le hm;clear hm
 induction d with
 | zero=>exact h
 | succ d ih=>exact ih.up
theorem Av.avn{z x:Nat}(h:Av S r z x):∃ k,AvN S r z k x:=by
 induction h with
 | root h=>exact⟨0,.root h 0⟩
 | step _ hy hz ih=>obtain⟨k,hk⟩:=ih;exact⟨k+1,.step hk hy hz⟩
theorem AvN.via {z k x : Nat} (h : AvN S r z k x) (y : Nat) : AvN S r y k x ∨ AvN S r z k y := by
  induction h with
  | root h k => by_cases hy : r = y
                · subst hy; exact .inr (.root h _)
                · exact .inl (.root hy _)
  | @step k x w h hy hz ih =>
    rcases ih with h1 | h1
    · by_cases hw : w = y
      · subst hw; exact .inr (.step h hy hz)
      · exact .inl (.step h1 hy hw)
    · exact .inr h1.up
theorem avn_bound(n:Nat):∃ K,∀ z,z<n->∀ x,x<n->Av S r z x->AvN S r z K x:=by
 have one:∀ z m,∃ K,∀ x,x<m->Av S r z x->AvN S r z K x:=by
  intro z m
  induction m with
  | zero=>exact⟨0,fun x hx=>absurd hx (N5 x)⟩
  | succ m ih=>
   obtain⟨K,hK⟩:=ih
   by_cases h:Av S r z m
   ·obtain⟨k,hk⟩:=h.avn;refine⟨max K k,fun x hx ha=>?_⟩;rcases zzL129.1 hx with h1|rfl
    ·exact(hK x h1 ha).mono (Nat.le_max_left ..)
    ·exact hk.mono (Nat.le_max_right ..)
   ·refine⟨K,fun x hx ha=>?_⟩;rcases zzL129.1 hx with h1|rfl
    ·exact hK x h1 ha
    ·exact absurd ha h
 have two:∀ m,∃ K,∀ z,z<m->∀ x,x<n->Av S r z x->AvN S r z K x:=by
  intro m
  induction m with
  | zero=>exact⟨0,fun x hx=>absurd hx (N5 x)⟩
  | succ m ih=>
   obtain⟨K,hK⟩:=ih;obtain⟨k,hk⟩:=one m n;refine⟨max K k,fun z hz x hx ha=>?_⟩;rcases zzL129.1 hz with h1|rfl
   ·exact(hK z h1 x hx ha).mono (Nat.le_max_left ..)
   ·exact(hk x hx ha).mono (Nat.le_max_right ..)
 exact two n
end
inductive UpTo (par:Nat->Int):Nat->Nat->Prop
 | refl (x:Nat):UpTo par x x
 | up {x y z:Nat} (h:par x=(y:Int)) (t:UpTo par y z):UpTo par x z
inductive Fw (S:Nat->List Nat) (at_:Nat->Nat) (u:Nat):Nat->Prop
 | refl:Fw S at_ u u
 | step {v w:Nat} (h:Fw S at_ u v) (hw:w∈S v) (hl:at_ v<at_ w):Fw S at_ u w
section
variable {S:Nat->List Nat} {at_:Nat->Nat} {par:Nat->Int}
theorem Fw.le{u w:Nat}(h:Fw S at_ u w):at_ u<=at_ w:=by
 induction h with
 | refl=>exact zzL8 _
 | step _ _ hl ih=>omega
theorem Fw.trans{u v w:Nat}(h:Fw S at_ u v)(k:Fw S at_ v w):Fw S at_ u w:=by
 induction k with
 | refl=>exact h
 | step _ hw hl ih=>exact .step ih hw hl
theorem Fw.av{r d u w:Nat}(h:Fw S at_ u w)(ha:Av S r d u)(hd:at_ d<at_ u):Av S r d w:=by
 induction h with
 | refl=>exact ha
 | @step v w h hw hl ih=>exact .step ih hw (by rintro rfl;have:=h.le;omega)
theorem UpTo.trans{x y z:Nat}(h:UpTo par x y)(k:UpTo par y z):UpTo par x z:=by
 induction h with
 | refl x=>exact k
 | up h _ ih=>exact .up h (ih k)
theorem anc_up{x p z:Nat}(h:par x=(p:Int)):UpTo par x z↔z=x\/UpTo par p z:=by
 constructor
 ·intro k
  cases k with
  | refl=>exact .inl rfl
  | up h' t=>rw[h]at h';cases Ql h';exact .inr t
 ·rintro(rfl|k)
  ·exact .refl _
  ·exact .up h k
theorem anc_top{x z:Nat}(h:∀ p:Nat,par x≠(p:Int)):UpTo par x z↔z=x:=by
 constructor
 ·intro k
  cases k with
  | refl=>rfl
  | up h' t=>exact absurd h' (h _)
 ·rintro rfl;exact .refl _
structure Inv(S:Nat->List Nat)(r n:Nat)(at_:Nat->Nat)(par:Nat->Int):Prop where
 top:par r = -1
 kind:∀ x,x<n->par x = -2\/x=r\/∃ z:Nat,par x=(z:Int)
 up:∀ x,x<n->∀ z:Nat,par x=(z:Int)->z<n/\par z≠-2/\at_ z<at_ x/\Fw S at_ z x
 rc:∀ x,x<n->par x≠-2->Rc S r x
 all:∀ x,x<n->par x≠-2->∀ d,¬ UpTo par x d->Av S r d x
end
section
variable {S:Nat->List Nat} {at_:Nat->Nat} {par:Nat->Int} {r n:Nat}
theorem Inv.anc(h:Inv S r n at_ par){x z:Nat}(k:UpTo par x z)(hx:x<n)(hp:par x≠-2):z<n/\par z≠-2/\at_ z<=at_ x/\Fw S at_ z x:=by
 induction k with
 | refl x=>exact⟨hx,hp,zzL8 _,.refl⟩
 | @up x y z hxy t ih=>
  obtain⟨h1,h2,h3,h4⟩:=h.up x hx y hxy;obtain⟨i1,i2,i3,i4⟩:=ih h1 h2;exact⟨i1,i2,by omega,i4.trans h4⟩
theorem Inv.root_anc(h:Inv S r n at_ par){z:Nat}:UpTo par r z↔z=r:=anc_top fun p hp=>by rw[h.top]at hp;omega
theorem Inv.strict(h:Inv S r n at_ par){x z:Nat}(k:UpTo par x z)(hx:x<n)(hp:par x≠-2):z=x\/at_ z<at_ x:=by
 cases k with
 | refl=>exact .inl rfl
 | up hxy t=>
  obtain⟨h1,h2,h3,h4⟩:=h.up x hx _ hxy;obtain⟨i1,i2,i3,i4⟩:=h.anc t h1 h2;exact .inr (by omega)
theorem Inv.antisymm(h:Inv S r n at_ par){x z:Nat}(k:UpTo par x z)(m:UpTo par z x)(hx:x<n)(hp:par x≠-2):z=x:=by
 rcases h.strict k hx hp with rfl|h1
 ·rfl
 ·obtain⟨i1,i2,i3,i4⟩:=h.anc k hx hp;have:=(h.anc m i1 i2).2.2.1;omega
def MeetAt(par:Nat->Int)(a b m:Nat):Prop:=∀ w,UpTo par m w↔UpTo par a w/\UpTo par b w
theorem meet_self{a:Nat}:MeetAt par a a a:=fun w=>by simp
theorem meet_swap{a b m:Nat}(h:MeetAt par a b m):MeetAt par b a m:=fun w=>by rw[h w];exact And.comm
theorem Inv.meet_left(h:Inv S r n at_ par)(hinj:∀ x y,x<n->y<n->par x≠-2->par y≠-2->at_ x=at_ y->x=y){a b p m:Nat}(ha:a<n)(hpa:par a≠-2)(hb:b<n)(hpb:par b≠-2)(hab:a≠b)(hl:at_ b<=at_ a)(hp:par a=(p:Int))(k:MeetAt par p b m):MeetAt par a b m:=fun w=>by
 rw[k w]
 constructor
 ·rintro⟨h1,h2⟩;exact⟨.up hp h1,h2⟩
 ·rintro⟨h1,h2⟩;rcases(anc_up hp).1 h1 with rfl|h1
  ·exfalso
   rcases h.strict h2 hb hpb with h3|h3
   ·exact hab h3
   ·omega
  ·exact⟨h1,h2⟩
end
section
variable {S:Nat->List Nat} {at_:Nat->Nat} {par:Nat->Int} {r n:Nat}
def Mj(par:Nat->Int)(y:Nat)(v:Int):Nat->Int:=fun x=>if x=y then v else par x
def Best(S:Nat->List Nat)(n:Nat)(par:Nat->Int)(y z:Nat):Prop:=∀ w,UpTo par z w↔∀ p,p<n->y∈S p->par p≠-2->UpTo par p w
theorem Aak{y:Nat}{v:Int}{x z:Nat}(k:UpTo par x z)(hy:¬ UpTo par x y):UpTo (Mj par y v) x z:=by
 induction k with
 | refl x=>exact .refl _
 | @up x q z h t ih=>
  have hxy:x≠y:=by rintro rfl;exact hy (.refl _)
  refine .up (y:=q) ?_ (ih fun k=>hy (.up h k));unfold Mj;rw[if_neg hxy];exact h
theorem anc_upd_low{y:Nat}{v:Int}{x:Nat}(k:UpTo par x y):UpTo (Mj par y v) x y:=by
 induction k with
 | refl x=>exact .refl _
 | @up x q z h t ih=>
  by_cases hxy:x=z
  ·subst hxy;exact .refl _
  ·refine .up (y:=q) ?_ ih;unfold Mj;rw[if_neg hxy];exact h
theorem anc_upd_inv{y:Nat}{v:Int}{x w:Nat}(k:UpTo (Mj par y v) x w):UpTo par x w\/(UpTo par x y/\UpTo (Mj par y v) y w):=by
 induction k with
 | refl x=>exact .inl (.refl _)
 | @up x q w h t ih=>
  by_cases hxy:x=y
  ·subst hxy;exact .inr ⟨.refl _,.up h t⟩
  ·unfold Mj at h;rw[if_neg hxy]at h;rcases ih with h1|⟨h1,h2⟩
   ·exact .inl (.up h h1)
   ·exact .inr ⟨.up h h1,h2⟩
theorem low_or{y:Nat}{v:Int}{x d:Nat}(k:UpTo par x y)(hd:UpTo par x d):UpTo par y d\/UpTo (Mj par y v) x d:=by
 induction k with
 | refl x=>exact .inl hd
 | @up x q y hq t ih=>
  by_cases e:x=y
  ·subst e;exact .inl hd
  ·rcases(anc_up hq).1 hd with rfl|k
   ·exact .inr (.refl _)
   ·rcases ih k with h1|h1
    ·exact .inl h1
    ·exact .inr (.up (y:=q) (by unfold Mj;rw[if_neg e];exact hq) h1)
structure Better(S:Nat->List Nat)(r n:Nat)(at_:Nat->Nat)(par:Nat->Int)(y z:Nat):Prop where
 inv:Inv S r n at_ par
 hy:y<n
 hr:y≠r
 hz:z<n
 best:Best S n par y z
 fwd:∃ p,p<n/\y∈S p/\par p≠-2/\at_ p<at_ y
variable {y z:Nat}
theorem Better.zlt(h:Better S r n at_ par y z):UpTo par z z/\par z≠-2/\at_ z<at_ y/\Fw S at_ z y:=by
 obtain⟨p,hp,hyp,hpp,hl⟩:=h.fwd;obtain⟨h1,h2,h3,h4⟩:=h.inv.anc ((h.best z).1 (.refl _) p hp hyp hpp) hp hpp;exact⟨.refl _,h2,by omega,.step h4 hyp hl⟩
theorem Better.above(h:Better S r n at_ par y z){w:Nat}:UpTo (Mj par y z) z w↔UpTo par z w:=by
 obtain⟨_,h2,h3,_⟩:=h.zlt
 have hn:¬ UpTo par z y:=fun k=>by have:=(h.inv.anc k h.hz h2).2.2.1;omega
 constructor
 ·intro k;rcases anc_upd_inv k with h1|⟨h1,_⟩
  ·exact h1
  ·exact absurd h1 hn
 ·intro k;exact Aak k hn
theorem Better.here(h:Better S r n at_ par y z){w:Nat}:UpTo (Mj par y z) y w↔w=y\/UpTo par z w:=by
 rw[anc_up (p:=z) (by simp[Mj]),h.above]
theorem Better.av_here(h:Better S r n at_ par y z){d:Nat}(hd:¬ UpTo (Mj par y z) y d):Av S r d y:=by
 rw[h.here]at hd;have h1:¬ ∀ p,p<n->y∈S p->par p≠-2->UpTo par p d:=fun hh=>hd (.inr ((h.best d).2 hh));simp only[Classical.not_forall]at h1;obtain⟨p,hp,hyp,hpp,hnp⟩:=h1;exact .step (h.inv.all p hp hpp d hnp) hyp fun e=>hd (.inl e.symm)
theorem Better.inv'(h:Better S r n at_ par y z):Inv S r n at_ (Mj par y z):=by
 obtain⟨hzz,hz2,hzl,hzf⟩:=h.zlt;obtain⟨p,hp,hyp,hpp,hl⟩:=h.fwd
 have hne:∀ x,Mj par y z x≠-2->x=y\/par x≠-2:=fun x hx=>by
  by_cases e:x=y
  ·exact .inl e
  ·unfold Mj at hx;rw[if_neg e]at hx;exact .inr hx
 have hyv:Mj par y z y=(z:Int):=by simp[Mj]
 have hyo:∀ x,x≠y->Mj par y z x=par x:=fun x e=>by unfold Mj;rw[if_neg e]
 refine⟨by rw[hyo _ (Hj h.hr)];exact h.inv.top,fun x hx=>?_,fun x hx w hw=>?_,fun x hx hxp=>?_,fun x hx hxp d hd=>?_⟩
 ·by_cases e:x=y
  ·subst e;exact .inr (.inr ⟨z,hyv⟩)
  ·rw[hyo x e];exact h.inv.kind x hx
 ·have hzn:∀ w,par w≠-2->Mj par y z w≠-2:=fun w hw=>by
   by_cases e:w=y
   ·subst e;rw[hyv];omega
   ·rw[hyo w e];exact hw
  by_cases e:x=y
  ·subst e;rw[hyv]at hw
   cases Ql hw
   exact⟨h.hz,hzn _ hz2,hzl,hzf⟩
  ·rw[hyo x e]at hw;obtain⟨h1,h2,h3,h4⟩:=h.inv.up x hx w hw;exact⟨h1,hzn _ h2,h3,h4⟩
 ·rcases hne x hxp with rfl|h1
  ·exact .step (h.inv.rc p hp hpp) hyp
  ·exact h.inv.rc x hx h1
 ·by_cases e:x=y
  ·subst e;exact h.av_here hd
  ·rw[hyo x e]at hxp
   by_cases hxd:UpTo par x d
   ·
    by_cases hxy:UpTo par x y
    ·have hyd:¬ UpTo (Mj par y z) y d:=fun k=>hd ((anc_upd_low hxy).trans k);have hav:=h.av_here hyd;have hf:=(h.inv.anc hxy hx hxp).2.2.2
     have hdy:UpTo par y d:=by
      rcases low_or (v:=(z:Int)) hxy hxd with h1|h1
      ·exact h1
      ·exact absurd h1 hd
     by_cases hpy:par y = -2
     ·
      have:d=y:=by
       refine(anc_top (par:=par) fun p hp=>?_).1 hdy;rw[hpy]at hp;omega
      subst this;exact absurd (.refl _) hyd
     ·rcases h.inv.strict hdy h.hy hpy with rfl|hlt
      ·exact absurd (.refl _) hyd
      ·exact hf.av hav hlt
    ·exact absurd (Aak hxd hxy) hd
   ·exact h.inv.all x hx hxp d hxd
end
section
variable {S:Nat->List Nat} {at_:Nat->Nat} {par:Nat->Int} {r n:Nat}
def QB(S:Nat->List Nat)(r n:Nat)(par:Nat->Int)(b:Nat->Nat):Prop:=∀ x,x<n->par x≠-2->∀ z,AvN S r z (b x) x->¬ UpTo par x z
def Full(S:Nat->List Nat)(r n:Nat)(par:Nat->Int):Prop:=∀ x,x<n->Rc S r x->par x≠-2
def Exact(S:Nat->List Nat)(r n:Nat)(par:Nat->Int):Prop:=∀ x,x<n->par x≠-2->∀ d,UpTo par x d↔¬ Av S r d x
theorem qb_zero(h:Inv S r n at_ par):QB S r n par fun _=>0:=fun x hx hp z hz k=>by
 cases hz with
 | root hr _=>exact hr (h.root_anc.1 k).symm
theorem rc_lt(hS:∀ x,x<n->∀ w∈S x,w<n)(hr:r<n){x:Nat}(h:Rc S r x):x<n:=by
 induction h with
 | root=>exact hr
 | step _ hy ih=>exact hS _ ih _ hy
theorem Better.qb{y z k:Nat}{b:Nat->Nat}(h:Better S r n at_ par y z)(hS:∀ x,x<n->∀ w∈S x,w<n)(hrn:r<n)(full:Full S r n par)(hb:∀ x,x<n->k<=b x/\b x<=k+1)(q:QB S r n par b) :
  QB S r n (Mj par y z) fun x=>if x=y then k+1 else b x:=by
 have here:∀ w,AvN S r w (k+1) y->¬ UpTo (Mj par y z) y w:=fun w hw hu=>by
  rcases h.here.1 hu with rfl|hu
  ·exact hw.av.ne rfl
  ·cases hw with
   | root hr _=>exact h.hr rfl
   | @step _ p _ hp hyp hne=>
    have hpn:=rc_lt hS hrn hp.av.rc;have hpp:=full p hpn hp.av.rc;exact q p hpn hpp w (hp.mono (hb p hpn).1) ((h.best w).1 hu p hpn hyp hpp)
 intro x hx hxp w hw hu
 dsimp only at hw
 by_cases e:x=y
 ·subst e;rw[if_pos rfl]at hw;exact here w hw hu
 ·rw[if_neg e]at hw;unfold Mj at hxp;rw[if_neg e]at hxp;rcases anc_upd_inv hu with h1|⟨h1,h2⟩
  ·exact q x hx hxp w hw h1
  ·rcases hw.via y with h3|h3
   ·exact q x hx hxp y h3 h1
   ·exact here w (h3.mono (hb x hx).2) h2
theorem exact_of(h:Inv S r n at_ par){K:Nat}(hK:∀ z,z<n->∀ x,x<n->Av S r z x->AvN S r z K x)(q:QB S r n par fun _=>K):Exact S r n par:=fun x hx hp d=>by
 constructor
 ·intro hu ha;exact q x hx hp d (hK d (h.anc hu hx hp).1 x hx ha) hu
 ·intro ha;exact zzL108 fun hn=>ha (h.all x hx hp d hn)
theorem Better.same{y z:Nat}(h:Better S r n at_ par y z)(hS:∀ x,x<n->∀ w∈S x,w<n)(hrn:r<n)(full:Full S r n par)(hy2:par y≠-2)(ex:Exact S r n par):par y=(z:Int):=by
 obtain⟨hzz,hz2,hzl,hzf⟩:=h.zlt;rcases h.inv.kind y h.hy with h1|h1|⟨q,hq⟩
 ·exact absurd h1 hy2
 ·exact absurd h1 h.hr
 ·obtain⟨q1,q2,q3,q4⟩:=h.inv.up y h.hy q hq
  have key:∀ w,UpTo par z w↔UpTo par q w:=fun w=>by
   rw[h.best w]
   constructor
   ·intro hall
    have hwy:¬ Av S r w y:=fun ha=>by
     cases ha with
     | root _=>exact h.hr rfl
     | @step p _ hp hyp hne=>
      have hpn:=rc_lt hS hrn hp.rc;have hpp:=full p hpn hp.rc;exact(ex p hpn hpp w).1 (hall p hpn hyp hpp) hp
    rcases(anc_up hq).1 ((ex y h.hy hy2 w).2 hwy) with rfl|hu
    ·have:=(h.inv.anc ((h.best _).2 hall) h.hz hz2).2.2.1;omega
    ·exact hu
   ·intro hu p hp hyp hpp;have hwy:UpTo par y w:=.up hq hu;refine(ex p hp hpp w).2 fun ha=>?_
    have hne:y≠w:=by rintro rfl;have:=(h.inv.anc hu q1 q2).2.2.1;omega
    exact(ex y h.hy hy2 w).1 hwy (.step ha hyp hne)
  have:=h.inv.antisymm ((key q).2 (.refl _)) ((key z).1 (.refl _)) h.hz hz2;rw[hq,this]
theorem exact_fix(h:Inv S r n at_ par)(hS:∀ x,x<n->∀ w∈S x,w<n)(hrn:r<n)(full:Full S r n par)(fix:∀ y,y<n->y≠r->Rc S r y->∃ z:Nat,par y=(z:Int)/\Best S n par y z):Exact S r n par:=fun x hx hp d=>by
 constructor
 ·intro hu ha
  induction ha with
  | root hne=>exact hne (h.root_anc.1 hu).symm
  | @step p y hp' hyp hne ih=>
   have hpn:=rc_lt hS hrn hp'.rc;have hpp:=full p hpn hp'.rc
   by_cases e:y=r
   ·subst e;exact hne (h.root_anc.1 hu).symm
   ·obtain⟨z,hz,hb⟩:=fix y hx e (.step hp'.rc hyp);rcases(anc_up hz).1 hu with rfl|hu
    ·exact hne rfl
    ·exact ih hpn hpp ((hb d).1 hu p hpn hyp hpp)
 ·intro ha;exact zzL108 fun hn=>ha (h.all x hx hp d hn)
end
def Bf(t:List Int):Nat->Int:=fun x=>t.getD x 0
theorem parL_set{t:List Int}{y:Nat}{v:Int}(hy:y<t.length):Bf (t.set y v)=Mj (Bf t) y v:=by
 funext x
 unfold Bf Mj
 by_cases e:x=y
 ·subst e;simp[List.getD,hy]
 ·simp[List.getD,e,Hj e]
open Classical in
def K9(S:Nat->List Nat)(n:Nat)(t:List Int)(y:Nat):Nat:=if h:∃ z,z<n/\Best S n (Bf t) y z then Classical.choose h else 0
def Tm(S:Nat->List Nat)(n:Nat)(P:List Nat)(t:List Int):Nat->List Int
 | 0=>t
 | i+1=>(Tm S n P t i).set (P.getD i 0) (K9 S n (Tm S n P t i) (P.getD i 0):Int)
def rnR(S:Nat->List Nat)(n:Nat)(P:List Nat)(t:List Int):Nat->List Int
 | 0=>t
 | j+1=>Tm S n P (rnR S n P t j) P.length
def Ft(n r:Nat):List Int:=(List.replicate n (-2:Int)).set r (-1)
structure Ordered(S:Nat->List Nat)(r n:Nat)(P:List Nat):Prop where
 hr:r<n
 hS:∀ x,x<n->∀ w∈S x,w<n
 nodup:(r::P).Nodup
 mem:∀ x,x∈r::P↔Rc S r x
 fwd:∀ i,i<P.length->∃ p,p∈r::P.take i/\P.getD i 0∈S p
section
variable {S:Nat->List Nat} {r n:Nat} {P:List Nat}
theorem Ordered.lt(o:Ordered S r n P){x:Nat}(h:x∈r::P):x<n:=rc_lt o.hS o.hr ((o.mem x).1 h)
theorem Ol{i:Nat}(hi:i<P.length):P.getD i 0∈P:=by rw[Ag _ _ _ hi];exact S7 hi
theorem Ordered.at_lt(o:Ordered S r n P){i:Nat}(hi:i<P.length){p:Nat}(hp:p∈r::P.take i):pos (r::P) p<pos (r::P) (P.getD i 0):=by
 have hd:=o.nodup
 have h1:pos (r::P) (P.getD i 0)=i+1:=by
  have:=(pos_get hd (i:=i+1) (by simpa using hi)).2;rw[Ag _ _ _ hi]
  simpa using this
 rw[h1];obtain⟨j,hj,rfl⟩:=Rb hp
 have hj':j<i+1:=by simp at hj;omega
 have hjl:j<(r::P).length:=by simp;omega
 have e:(r::P.take i)[j]=(r::P)[j]:=by
  cases j with
  | zero=>rfl
  | succ j=>simp
 rw[e,(pos_get hd hjl).2];exact hj'
theorem inv0(o:Ordered S r n P):Inv S r n (pos (r::P)) (Bf (Ft n r))/\(Ft n r).length=n/\Bf (Ft n r) r≠-2:=by
 have hlen:(Ft n r).length=n:=by simp[Ft]
 have hr:=o.hr
 have at_:∀ x,x<n->Bf (Ft n r) x=if x=r then -1 else -2:=fun x hx=>by
  unfold Bf Ft
  by_cases e:x=r
  ·subst e;simp[List.getD,hx]
  ·simp[List.getD,hx,e,Hj e]
 have hno:∀ x,x<n->∀ p:Nat,Bf (Ft n r) x≠(p:Int):=fun x hx p hp=>by rw[at_ x hx]at hp;split at hp<;>omega
 refine⟨⟨by rw[at_ r hr,if_pos rfl],fun x hx=>?_,fun x hx z hz=>absurd hz (hno x hx z),fun x hx hp=>?_,fun x hx hp d hd=>?_⟩,hlen,by rw[at_ r hr,if_pos rfl];omega⟩
 ·by_cases e:x=r
  ·exact .inr (.inl e)
  ·exact .inl (by rw[at_ x hx,if_neg e])
 ·by_cases e:x=r
  ·subst e;exact .root
  ·exact absurd (by rw[at_ x hx,if_neg e]) hp
 ·by_cases e:x=r
  ·subst e;exact .root (fun e=>hd (by rw[e];exact .refl _))
  ·exact absurd (by rw[at_ x hx,if_neg e]) hp
structure Ready(S:Nat->List Nat)(r n:Nat)(P:List Nat)(t:List Int)(i:Nat):Prop where
 inv:Inv S r n (pos (r::P)) (Bf t)
 len:t.length=n
 done:∀ x∈r::P.take i,Bf t x≠-2
theorem Inv.meets{at_:Nat->Nat}{par:Nat->Int}(h:Inv S r n at_ par)(hinj:∀ x y,x<n->y<n->par x≠-2->par y≠-2->at_ x=at_ y->x=y)(hr:at_ r=0):∀ m a b,at_ a+at_ b<=m->a<n->b<n->par a≠-2->par b≠-2->∃ c,MeetAt par a b c/\c<n/\par c≠-2:=by
 intro m
 induction m with
 | zero=>
  intro a b hm ha hb hpa hpb;have:a=b:=hinj a b ha hb hpa hpb (by omega);subst this;exact⟨a,meet_self,ha,hpa⟩
 | succ m ih=>
  have go:∀ a b,at_ a+at_ b<=m+1->a<n->b<n->par a≠-2->par b≠-2->at_ b<=at_ a->∃ c,MeetAt par a b c/\c<n/\par c≠-2:=fun a b hm ha hb hpa hpb hl=>by
   by_cases e:a=b
   ·subst e;exact⟨a,meet_self,ha,hpa⟩
   ·rcases h.kind a ha with h1|h1|⟨p,hp⟩
    ·exact absurd h1 hpa
    ·subst h1;exact absurd (hinj a b ha hb hpa hpb (by omega)) e
    ·obtain⟨p1,p2,p3,p4⟩:=h.up a ha p hp;obtain⟨c,hc,hc2⟩:=ih p b (by omega) p1 hb p2 hpb;exact⟨c,h.meet_left hinj ha hpa hb hpb e hl hp hc,hc2⟩
  intro a b hm ha hb hpa hpb;rcases Nat.le_total (at_ b) (at_ a) with hl|hl
  ·exact go a b hm ha hb hpa hpb hl
  ·obtain⟨c,hc,hc2⟩:=go b a (by omega) hb ha hpb hpa hl;exact⟨c,meet_swap hc,hc2⟩
theorem Ready.inj(o:Ordered S r n P){t:List Int}{i:Nat}(h:Ready S r n P t i):∀ x y,x<n->y<n->Bf t x≠-2->Bf t y≠-2->pos (r::P) x=pos (r::P) y->x=y:=fun x y hx hy hpx hpy he=>by
 have hm:∀ x,x<n->Bf t x≠-2->x∈r::P:=fun x hx hp=>(o.mem x).2 (h.inv.rc x hx hp)
 have back:∀ x∈r::P,(r::P).getD (pos (r::P) x) 0=x:=fun x hx=>by
  obtain⟨j,hj,rfl⟩:=Rb hx;rw[(pos_get o.nodup hj).2,Ag _ _ _ hj]
 rw[<- back x (hm x hx hpx),<- back y (hm y hy hpy),he]
theorem pos_root:pos (r::P) r=0:=by rw[pos_cons,if_pos rfl]
theorem Ready.meetAll(o:Ordered S r n P){t:List Int}{i:Nat}(h:Ready S r n P t i):∀ l:List Nat,(∀ p∈l,p<n/\Bf t p≠-2)->l≠[]->∃ z,z<n/\Bf t z≠-2/\∀ w,UpTo (Bf t) z w↔∀ p∈l,UpTo (Bf t) p w:=by
 intro l
 induction l with
 | nil=>intro _ hn;exact absurd rfl hn
 | cons p l ih=>
  intro hl _;obtain⟨hp1,hp2⟩:=hl p (zzL39 ..)
  by_cases hl0:l=[]
  ·subst hl0;exact⟨p,hp1,hp2,fun w=>by simp⟩
  ·obtain⟨z,hz1,hz2,hz3⟩:=ih (fun q hq=>hl q (zzL15 _ hq)) hl0;obtain⟨c,hc1,hc2,hc3⟩:=h.inv.meets (h.inj o) pos_root _ p z (zzL8 _) hp1 hz1 hp2 hz2;exact⟨c,hc2,hc3,fun w=>by rw[hc1 w,hz3 w];simp⟩
theorem Ready.best(o:Ordered S r n P){t:List Int}{i:Nat}(h:Ready S r n P t i)(hi:i<P.length):Better S r n (pos (r::P)) (Bf t) (P.getD i 0) (K9 S n t (P.getD i 0)):=by
 have hy:=Ol hi;have hyr:P.getD i 0≠r:=fun e=>(zzL97.1 o.nodup).1 (e▸hy);have hyn:=o.lt (zzL15 _ hy);obtain⟨p,hp,hyp⟩:=o.fwd i hi;have hp2:=h.done p hp
 have hpP:p∈r::P:=by
  rcases zzL28.1 hp with rfl|hp
  ·exact zzL39 ..
  ·exact zzL15 _ (List.mem_of_mem_take hp)
 have hpn:=o.lt hpP
 have hex:∃ z,z<n/\Best S n (Bf t) (P.getD i 0) z:=by
  classical
  obtain⟨z,hz1,hz2,hz3⟩:=h.meetAll o ((List.range n).filter fun p=>decide (P.getD i 0∈S p/\Bf t p≠-2)) (fun p hp=>by
   obtain⟨h1,h2⟩:=zzL87.1 hp
   exact⟨zzL43.1 h1,(Abh h2).2⟩) (fun e=>by
   have:p∈(List.range n).filter fun p=>decide (P.getD i 0∈S p/\Bf t p≠-2):=zzL87.2 ⟨zzL43.2 hpn,Fu ⟨hyp,hp2⟩⟩
   rw[e]at this;cases this)
  refine⟨z,hz1,fun w=>?_⟩;rw[hz3 w]
  constructor
  ·intro k p hp hyp hpp;exact k p (zzL87.2 ⟨zzL43.2 hp,Fu ⟨hyp,hpp⟩⟩)
  ·intro k p hp;obtain⟨h1,h2⟩:=zzL87.1 hp;exact k p (zzL43.1 h1) (Abh h2).1 (Abh h2).2
 have hb:K9 S n t (P.getD i 0)<n/\Best S n (Bf t) (P.getD i 0) (K9 S n t (P.getD i 0)):=by
  unfold K9;rw[dif_pos hex];exact Classical.choose_spec hex
 exact⟨h.inv,hyn,hyr,hb.1,hb.2,p,hpn,hyp,hp2,o.at_lt hi hp⟩
theorem Ready.best_eq(o:Ordered S r n P){t:List Int}{i:Nat}(h:Ready S r n P t i)(hi:i<P.length){z:Nat}(hz:z<n)(hz2:Bf t z≠-2)(hb:Best S n (Bf t) (P.getD i 0) z):z=K9 S n t (P.getD i 0):=by
 have b:=h.best o hi;exact(h.inv.antisymm ((hb _).2 ((b.best _).1 (.refl _))) ((b.best _).2 ((hb _).1 (.refl _))) hz hz2).symm
theorem Ready.next(o:Ordered S r n P){t:List Int}{i:Nat}(h:Ready S r n P t i)(hi:i<P.length):Ready S r n P (t.set (P.getD i 0) (K9 S n t (P.getD i 0):Int)) (i+1):=by
 have b:=h.best o hi;have e:=parL_set (t:=t) (y:=P.getD i 0) (v:=(K9 S n t (P.getD i 0):Int)) (by rw[h.len];exact b.hy);refine⟨by rw[e];exact b.inv',by rw[E5];exact h.len,fun x hx=>?_⟩;rw[e];unfold Mj
 split
 ·omega
 ·rename_i hne
  refine h.done x ?_;rcases zzL28.1 hx with rfl|hx
  ·exact zzL39 ..
  ·rw[zzL103 hi]at hx;rcases zzL13.1 hx with hx|hx
   ·exact zzL15 _ hx
   ·rw[zzL14,<- Ag _ _ 0 hi]at hx;exact absurd hx hne
theorem Ready.more(o:Ordered S r n P){t:List Int}(h:Ready S r n P t P.length)(i:Nat):Ready S r n P t i:=
 ⟨h.inv,h.len,fun x hx=>h.done x (by
  rw[Uv];rcases zzL28.1 hx with rfl|hx
  ·exact zzL39 ..
  ·exact zzL15 _ (List.mem_of_mem_take hx))⟩
theorem Ready.full(o:Ordered S r n P){t:List Int}(h:Ready S r n P t P.length):Full S r n (Bf t):=fun x hx hr=>h.done x (by rw[Uv];exact(o.mem x).2 hr)
theorem Ready.round(o:Ordered S r n P){t:List Int}(h:Ready S r n P t 0):∀ i,i<=P.length->Ready S r n P (Tm S n P t i) i:=by
 intro i
 induction i with
 | zero=>intro _;exact h
 | succ i ih=>intro hi;exact(ih (by omega)).next o (by omega)
theorem ready0(o:Ordered S r n P):Ready S r n P (Ft n r) 0:=by
 obtain⟨h1,h2,h3⟩:=inv0 o;exact⟨h1,h2,fun x hx=>by simp at hx;subst hx;exact h3⟩
theorem Ready.rounds(o:Ordered S r n P):∀ j,Ready S r n P (rnR S n P (Ft n r) j) 0:=by
 intro j
 induction j with
 | zero=>exact ready0 o
 | succ j ih=>exact((ih.round o) P.length (zzL8 _)).more o 0
theorem Ready.rounds'(o:Ordered S r n P)(j:Nat):Ready S r n P (rnR S n P (Ft n r) (j+1)) P.length:=(Ready.rounds o j).round o P.length (zzL8 _)
theorem qb_round(o:Ordered S r n P){t:List Int}{k:Nat}(h:Ready S r n P t P.length)(q:QB S r n (Bf t) fun _=>k):QB S r n (Bf (Tm S n P t P.length)) fun _=>k+1:=by
 have key:∀ i,i<=P.length->QB S r n (Bf (Tm S n P t i)) (fun x=>if x∈P.take i then k+1 else k)/\Full S r n (Bf (Tm S n P t i)):=by
  intro i
  induction i with
  | zero=>intro _;exact⟨by simpa [Tm] using q,h.full o⟩
  | succ i ih=>
   intro hi;obtain⟨q1,f1⟩:=ih (by omega);have rd:=(h.more o 0).round o i (by omega);have b:=rd.best o (by omega);have e:=parL_set (t:=Tm S n P t i) (y:=P.getD i 0) (v:=(K9 S n (Tm S n P t i) (P.getD i 0):Int)) (by rw[rd.len];exact b.hy)
   constructor
   ·show QB S r n (Bf ((Tm S n P t i).set _ _)) _
    rw[e];have:=b.qb (k:=k) o.hS o.hr f1 (fun x _=>by split<;>omega) q1;intro x hx hp z hz;refine this x hx hp z ?_
    dsimp only at hz ⊢
    rw[zzL103 (by omega:i<P.length)]at hz
    by_cases e1:x=P.getD i 0
    ·rw[if_pos e1];rwa[if_pos (zzL13.2 (.inr (zzL14.2 (by rw[e1,Ag _ _ _ (by omega:i<P.length)]))))]at hz
    ·rw[if_neg e1]
     by_cases e2:x∈P.take i
     ·rw[if_pos e2];rwa[if_pos (zzL13.2 (.inl e2))]at hz
     ·rw[if_neg e2]
      rwa[if_neg (fun hm=>by
       rcases zzL13.1 hm with hm|hm
       ·exact e2 hm
       ·rw[zzL14,<- Ag _ _ 0 (by omega:i<P.length)]at hm;exact e1 hm)]at hz
   ·show Full S r n (Bf ((Tm S n P t i).set _ _))
    rw[e];intro x hx hr;unfold Mj
    split
    ·omega
    ·exact f1 x hx hr
 have q1:=(key P.length (zzL8 _)).1;rw[Uv]at q1;have rd:=(h.more o 0).round o P.length (zzL8 _);intro x hx hp z hz;refine q1 x hx hp z ?_
 dsimp only at hz ⊢
 by_cases e:x∈P
 ·rw[if_pos e];exact hz
 ·rw[if_neg e]
  have hxr:x=r:=by
   rcases zzL28.1 ((o.mem x).2 (rd.inv.rc x hx hp)) with h1|h1
   ·exact h1
   ·exact absurd h1 e
  subst hxr;exact .root hz.av.ne k
def Su(S:Nat->List Nat)(n:Nat)(P:List Nat)(t:List Int):Prop:=∀ i,i<P.length->Bf t (P.getD i 0)=(K9 S n t (P.getD i 0):Int)
theorem Up{t:List Int}(o:Ordered S r n P)(hl:t.length=n)(h:Su S n P t):∀ i,i<=P.length->Tm S n P t i=t:=by
 intro i
 induction i with
 | zero=>intro _;rfl
 | succ i ih=>
  intro hi;unfold Tm;rw[ih (by omega),<- h i (by omega)]
  have hlt:P.getD i 0<t.length:=by rw[hl];exact o.lt (zzL15 _ (Ol (by omega)))
  unfold Bf;rw[Ag _ _ _ hlt];exact List.set_getElem_self hlt
theorem stops(o:Ordered S r n P):∃ J,(∀ j,j<J->¬ Su S n P (rnR S n P (Ft n r) j))/\Su S n P (rnR S n P (Ft n r) J):=by
 obtain⟨K,hK⟩:=avn_bound (S:=S) (r:=r) n
 have hq:∀ k,QB S r n (Bf (rnR S n P (Ft n r) (k+1))) fun _=>k:=by
  intro k
  induction k with
  | zero=>exact qb_zero (Ready.rounds' o 0).inv
  | succ k ih=>exact qb_round o (Ready.rounds' o k) ih
 have hst:Su S n P (rnR S n P (Ft n r) (K+1)):=fun i hi=>by
  have rd:=Ready.rounds' o K;exact((rd.more o i).best o hi).same o.hS o.hr (rd.full o) (rd.done _ (zzL15 _ (by rw[Uv];exact Ol hi))) (exact_of rd.inv hK (hq K))
 have key:∀ m,(∃ J,J<=m/\Su S n P (rnR S n P (Ft n r) J))->∃ J,(∀ j,j<J->¬ Su S n P (rnR S n P (Ft n r) j))/\Su S n P (rnR S n P (Ft n r) J):=by
  intro m
  induction m with
  | zero=>rintro⟨J,hJ,h⟩;exact⟨J,fun j hj=>by omega,h⟩
  | succ m ih=>
   rintro⟨J,hJ,h⟩
   by_cases hm:∃ J,J<=m/\Su S n P (rnR S n P (Ft n r) J)
   ·exact ih hm
   ·exact⟨J,fun j hj hs=>hm ⟨j,by omega,hs⟩,h⟩
 exact key (K+1) ⟨K+1,zzL8 _,hst⟩
structure DomTree(S:Nat->List Nat)(r n:Nat)(P:List Nat)(t:List Int):Prop where
 inv:Inv S r n (pos (r::P)) (Bf t)
 len:t.length=n
 full:Full S r n (Bf t)
 exact_:Exact S r n (Bf t)
theorem Aba(o:Ordered S r n P){j:Nat}(h:Su S n P (rnR S n P (Ft n r) j)):DomTree S r n P (rnR S n P (Ft n r) j):=by
 have rd:=Ready.rounds o j
 have hall:Ready S r n P (rnR S n P (Ft n r) j) P.length:=by
  have:=rd.round o P.length (zzL8 _);rwa[Up o rd.len h P.length (zzL8 _)]at this
 refine⟨rd.inv,rd.len,hall.full o,exact_fix rd.inv o.hS o.hr (hall.full o) fun y hy hne hr=>?_⟩
 have hm:y∈P:=by
  rcases zzL28.1 ((o.mem y).2 hr) with h1|h1
  ·exact absurd h1 hne
  ·exact h1
 obtain⟨i,hi,rfl⟩:=Rb hm;have b:=(hall.more o i).best o hi;rw[Ag _ _ _ hi]at b;have hs:=h i hi;rw[Ag _ _ _ hi]at hs;exact⟨_,hs,b.best⟩
end
section
variable {S:Nat->List Nat} {s s':Nat->Bool} {l o:List Nat}
theorem VL.before(h:VL S s l s' o):∀ A z B,o=A++z::B->z∈l\/∃ p∈B,z∈S p:=by
 induction h with
 | nil s=>intro A z B e;simp at e
 | skip h _ ih=>
  intro A z B e;rcases ih A z B e with h1|h1
  ·exact .inl (zzL15 _ h1)
  ·exact .inr h1
 | @step s s1 s2 y l o1 o2 h a b iha ihb=>
  intro A z B e;rcases List.append_eq_append_iff.1 e with⟨C,hC1,hC2⟩|⟨C,hC1,hC2⟩
  ·
   cases C with
   | nil=>
    simp at hC2;obtain⟨rfl,rfl⟩:=hC2;exact .inl (zzL39 ..)
   | cons c C=>
    simp at hC2;obtain⟨rfl,hC2⟩:=hC2;rcases ihb C z B hC2 with h1|h1
    ·exact .inl (zzL15 _ h1)
    ·exact .inr h1
  ·cases C with
   | nil=>
    simp at hC2;obtain⟨rfl,rfl⟩:=hC2;exact .inl (zzL39 ..)
   | cons c C=>
    simp at hC2;obtain⟨rfl,rfl⟩:=hC2;rcases iha A z C hC1 with h1|⟨p,hp,hz⟩
    ·exact .inr ⟨y,by simp,h1⟩
    ·exact .inr ⟨p,by simp[hp],hz⟩
theorem Ord.ordered{n r:Nat}{L:List Nat}(hr:r<n)(hS:∀ x,x<n->∀ w∈S x,w<n)(h:Ord S r L):∃ P,L=r::P/\Ordered S r n P:=by
 have h1:=h.nodup;have h2:=h.mem;obtain⟨s',o,hv,rfl⟩:=h;refine⟨o.reverse,rfl,hr,hS,h1,fun x=>by rw[h2 x,rc_iff],fun i hi=>?_⟩
 have hi':i<o.length:=by simpa using hi
 have e:o.reverse=o.reverse.take i++o.reverse[i]::o.reverse.drop (i+1):=by rw[<- Uz hi,List.take_append_drop]
 have e2:o=(o.reverse.drop (i+1)).reverse++o.reverse[i]::(o.reverse.take i).reverse:=by
  have:=Bq List.reverse e;rw[List.reverse_reverse]at this;rw[List.reverse_append,List.reverse_cons]at this
  simpa using this
 rw[Ag _ _ _ hi];rcases hv.before _ _ _ e2 with h3|⟨p,hp,hz⟩
 ·exact⟨r,zzL39 ..,h3⟩
 ·exact⟨p,zzL15 _ (zzL128.1 hp),hz⟩
end
def woI(S:Nat->List Nat)(w:Int):Nat->List Nat:=fun x=>(S x).filter fun y=>decide ((y:Int)≠w)
theorem woI_none(S:Nat->List Nat):woI S (-1)=S:=by
 funext x
 unfold woI;exact List.filter_eq_self.2 fun y _=>Fu (by omega)
theorem woI_nat(S:Nat->List Nat)(z:Nat):woI S (z:Int)=wo S z:=by
 funext x
 unfold woI wo
 congr 1
 funext y
 exact zzL113.2 ⟨fun h e=>h (by rw[e]),fun h e=>h (Ql e)⟩
def W7(L:List (List Int))(r:Nat)(w:Int):List Bool:=if(r:Int)=w then List.replicate L.length false else rds (woI (sN L) w) L.length ((List.replicate L.length false).set r true) L.length
theorem reach_at{L:List (List Int)}(hm:G4 L=true){r:Nat}(hr:r<L.length){b:Nat}:(W7 L r (-1)).getD b false=true↔Rc (sN L) r b:=by
 unfold W7;rw[if_neg (by omega),woI_none,Ug (Nk hm) hr b,rc_iff]
theorem reachWo_at{L:List (List Int)}(hm:G4 L=true){r:Nat}(hr:r<L.length){a b:Nat}(hb:b<L.length):(W7 L r (a:Int)).getD b false=true↔Av (sN L) r a b:=by
 unfold W7;rw[av_iff]
 by_cases h:r=a
 ·subst h;rw[if_pos rfl,Ni]
  simp
 ·rw[if_neg (by omega),woI_nat,Ug (S:=wo (sN L) a) (fun z hz y hy=>Nk hm z hz y (zzL87.1 hy).1) hr b];simp[h]
def Uf(L:List (List Int))(r a b:Nat):Bool:=(W7 L r (-1)).getD b false&&!(W7 L r (a:Int)).getD b false
theorem over_iff{L:List (List Int)}(hm:G4 L=true){r a b:Nat}(hr:r<L.length)(hb:b<L.length):Uf L r a b=true↔Rc (sN L) r b/\¬ Av (sN L) r a b:=by
 unfold Uf;rw[A7,Pg,<- Bool.not_eq_true,reach_at hm hr,reachWo_at hm hr hb]
def nearB(L:List (List Int))(r a b:Nat):Bool:=(List.range L.length).all fun c=>decide (c=b) || !Uf L r c b || Uf L r c a
def pickD(L:List (List Int))(r b:Nat):Nat->Int
 | 0=>-2
 | a+1=>if a≠b/\Uf L r a b=true/\nearB L r a b=true then(a:Int) else pickD L r b a
def treeAt(L:List (List Int))(r b:Nat):Int:=if b=r then -1 else pickD L r b L.length
def Wf(L:List (List Int))(r:Nat):List Int:=(List.range L.length).map (treeAt L r)
theorem Zx(L:List (List Int))(r:Nat):(Wf L r).length=L.length:=by simp[Wf]
theorem treeD_at{L:List (List Int)}{r b:Nat}(hb:b<L.length):(Wf L r).getD b 0=treeAt L r b:=by unfold Wf;rw[Pq hb]
theorem pick_cases(L:List (List Int))(r b:Nat):∀ m,(pickD L r b m = -2/\∀ a,a<m->¬ (a≠b/\Uf L r a b=true/\nearB L r a b=true))\/∃ a,a<m/\pickD L r b m=(a:Int)/\a≠b/\Uf L r a b=true/\nearB L r a b=true:=by
 intro m
 induction m with
 | zero=>exact .inl ⟨rfl,fun a ha=>absurd ha (N5 a)⟩
 | succ m ih=>
  unfold pickD
  by_cases h:m≠b/\Uf L r m b=true/\nearB L r m b=true
  ·rw[if_pos h];exact .inr ⟨m,by omega,rfl,h⟩
  ·rw[if_neg h];rcases ih with⟨h1,h2⟩|⟨a,h1,h2⟩
   ·refine .inl ⟨h1,fun a ha=>?_⟩;rcases zzL129.1 ha with h3|rfl
    ·exact h2 a h3
    ·exact h
   ·exact .inr ⟨a,by omega,h2⟩
theorem DomTree.eq{L:List (List Int)}(hm:G4 L=true){r:Nat}(hr:r<L.length){P t:List _}(o:Ordered (sN L) r L.length P)(h:DomTree (sN L) r L.length P t):t=Wf L r:=by
 refine Xh (by rw[h.len,Zx]) fun b h1 h2=>?_
 have hb:b<L.length:=by rw[<- h.len];exact h1
 rw[<- Ag _ _ 0 h1,<- Ag _ _ 0 h2,treeD_at hb]
 show Bf t b=_
 have hov:∀ a b,b<L.length->Bf t b≠-2->(Uf L r a b=true↔UpTo (Bf t) b a):=fun a b hb hp=>by
  rw[over_iff hm hr hb,h.exact_ b hb hp];exact⟨fun k=>k.2,fun k=>⟨h.inv.rc b hb hp,k⟩⟩
 unfold treeAt
 by_cases hbr:b=r
 ·subst hbr;rw[if_pos rfl];exact h.inv.top
 ·rw[if_neg hbr];rcases h.inv.kind b hb with hk|hk|⟨z,hz⟩
  ·
   have hn:¬ Rc (sN L) r b:=fun k=>h.full b hb k hk;rcases pick_cases L r b L.length with⟨h3,_⟩|⟨a,_,_,_,h6,_⟩
   ·rw[hk,h3]
   ·exact absurd ((over_iff hm hr hb).1 h6).1 hn
  ·exact absurd hk hbr
  ·obtain⟨z1,z2,z3,z4⟩:=h.inv.up b hb z hz
   have hp:Bf t b≠-2:=by omega
   have hzo:Uf L r z b=true:=(hov z b hb hp).2 (.up hz (.refl _))
   have hzb:z≠b:=by rintro rfl;omega
   have hnear:nearB L r z b=true:=all_range.2 fun c hc=>by
    by_cases e:c=b
    ·simp[e]
    ·cases ho:Uf L r c b with
     | false=>simp
     | true=>
      have:=(hov c b hb hp).1 ho;rcases(anc_up hz).1 this with h3|h3
      ·exact absurd h3 e
      ·rw[(hov c z z1 z2).2 h3];simp
   rcases pick_cases L r b L.length with⟨_,h3⟩|⟨a,h3,h4,h5,h6,h7⟩
   ·exact absurd ⟨hzb,hzo,hnear⟩ (h3 z z1)
   ·rw[h4,hz];have haU:=(hov a b hb hp).1 h6
    have ha1:UpTo (Bf t) z a:=by
     rcases(anc_up hz).1 haU with h8|h8
     ·exact absurd h8 h5
     ·exact h8
    have hap:=(h.inv.anc ha1 z1 z2).2.1
    have hza:UpTo (Bf t) a z:=by
     have:=all_range.1 h7 z z1;simp only[hzo,hzb,decide_false,E6,zzL142]at this;exact(hov z a h3 hap).1 this
    rw[h.inv.antisymm ha1 hza z1 z2]
theorem mayG_eq{g:Ap}(h:Ma g=true):G4 g.Succ=true/\g=H3 g.Succ:=by
 unfold Ma at h;rw[A7]at h;refine⟨h.1,?_⟩;obtain⟨s,p⟩:=g;have:=Abh h.2;simp only at this;unfold H3;rw[this]
section
variable {L:List (List Int)} (hm:G4 L=true) {r:Nat} (hr:r<L.length)
include hm hr
omit hr in
omit hr in
omit hm hr in
omit hm hr in
omit hm hr in
omit hr in
omit hr in
end
def treeG(g:Ap)(r:Int):List Int:=if Ma g=true/\0<=r/\r<(g.Succ.length:Int) then Wf g.Succ r.toNat else[]
def upD(t:List Int):Nat->Int->Option (List Int)
 | 0,_=>none
 | k+1,a=>if 0<=a/\a<(t.length:Int) then(if t.getD a.toNat 0 = -1 then some [a] else(upD t k (t.getD a.toNat 0)).map fun l=>a::l) else none
def Io(t:List Int)(a:Int):List Int:=(upD t t.length a).getD []
theorem upD_len(t:List Int):∀ k a q,upD t k a=some q->q.length<=k/\1<=q.length:=by
 intro k
 induction k with
 | zero=>intro a q h;cases h
 | succ k ih=>
  intro a q h;unfold upD at h
  split at h
  ·split at h
   ·cases h;simp
   ·cases hu:upD t k (t.getD a.toNat 0) with
    | none=>rw[hu]at h;cases h
    | some q'=>rw[hu]at h;cases h;have:=ih _ _ hu;simp;omega
  ·cases h
theorem pathD_nil{t:List Int}{a:Int}:Io t a=[]↔upD t t.length a=none:=by
 unfold Io
 cases h:upD t t.length a with
 | none=>simp
 | some q=>have:=(upD_len t _ _ _ h).2;simp;intro e;subst e;simp at this
def Yl(t:List Int)(k:Nat):Nat:=((List.range k).filter fun a=>decide (t.getD a 0 = -1)).length
def okR(t:List Int)(a:Nat):Bool:=decide (t.getD a 0 = -2) || !decide (Io t (a:Int)=[])
def J2(t:List Int):Bool:=(List.range t.length).all (okR t)&&decide (Yl t t.length=1)
theorem topsK_succ(t:List Int)(k:Nat):Yl t (k+1)=Yl t k+if t.getD k 0 = -1 then 1 else 0:=by
 unfold Yl;rw[Ys,Aab,Fb]
 by_cases h:t.getD k 0 = -1
 ·rw[if_pos h]
  have:List.filter (fun a=>decide (t.getD a 0 = -1)) [k]=[k]:=by rw[List.filter_cons,if_pos (Fu h)];rfl
  rw[this];rfl
 ·rw[if_neg h]
  have:List.filter (fun a=>decide (t.getD a 0 = -1)) [k]=[]:=by rw[List.filter_cons,if_neg (by simpa using h)];rfl
  rw[this];rfl
def N1(t:List Int)(a b:Int):Int:=if J2 t=true then((Io t a).find? fun x=>(Io t b).contains x).getD (-2) else -2
def Pv(t:List Int)(a b:Int):Bool:=N1 t a b==a&&N1 t a b !=-2
section
variable {S:Nat->List Nat} {r n:Nat} {P:List Nat} {t:List Int}
theorem DomTree.up(h:DomTree S r n P t):∀ k x,x<n->Bf t x≠-2->pos (r::P) x<k->∃ q,upD t k (x:Int)=some q/\(∀ w:Int,w∈q↔∃ z:Nat,w=(z:Int)/\UpTo (Bf t) x z) /\
  ∀ p:Int->Bool,(q.find? p=none/\∀ z:Nat,UpTo (Bf t) x z->p (z:Int)=false)\/∃ f:Nat,q.find? p=some (f:Int)/\UpTo (Bf t) x f/\p (f:Int)=true/\∀ z:Nat,UpTo (Bf t) x z->p (z:Int)=true->UpTo (Bf t) f z:=by
 intro k
 induction k with
 | zero=>intro x _ _ hk;exact absurd hk (N5 _)
 | succ k ih=>
  intro x hx hp hk
  have hxt:(0:Int)<=(x:Int)/\(x:Int)<(t.length:Int):=by rw[h.len];omega
  unfold upD;rw[if_pos hxt,Au];have hpx:t.getD x 0=Bf t x:=rfl;rw[hpx];rcases h.inv.kind x hx with h1|rfl|⟨z,hz⟩
  ·exact absurd h1 hp
  ·rw[if_pos h.inv.top];refine⟨_,rfl,fun w=>?_,fun p=>?_⟩
   ·rw[zzL14]
    constructor
    ·rintro rfl;exact⟨x,rfl,.refl _⟩
    ·rintro⟨z,rfl,hz⟩;rw[h.inv.root_anc.1 hz]
   ·cases hpp:p (x:Int) with
    | false=>exact .inl ⟨by simp[List.find?,hpp],fun z hz=>by rw[h.inv.root_anc.1 hz];exact hpp⟩
    | true=>exact .inr ⟨x,by simp[List.find?,hpp],.refl _,hpp,fun z hz _=>hz⟩
  ·obtain⟨z1,z2,z3,z4⟩:=h.inv.up x hx z hz;rw[hz,if_neg (by omega)];obtain⟨q,hq1,hq2,hq3⟩:=ih z z1 z2 (by omega);rw[hq1];refine⟨(x:Int)::q,rfl,fun w=>?_,fun p=>?_⟩
   ·rw[zzL28,hq2 w]
    constructor
    ·rintro(rfl|⟨y,rfl,hy⟩)
     ·exact⟨x,rfl,.refl _⟩
     ·exact⟨y,rfl,.up hz hy⟩
    ·rintro⟨y,rfl,hy⟩;rcases(anc_up hz).1 hy with rfl|hy
     ·exact .inl rfl
     ·exact .inr ⟨y,rfl,hy⟩
   ·cases hpp:p (x:Int) with
    | true=>exact .inr ⟨x,by simp[List.find?,hpp],.refl _,hpp,fun y hy _=>hy⟩
    | false=>
     have hf:((x:Int)::q).find? p=q.find? p:=by simp[List.find?,hpp]
     rw[hf];rcases hq3 p with⟨e1,e2⟩|⟨f,e1,e2,e3,e4⟩
     ·refine .inl ⟨e1,fun y hy=>?_⟩;rcases(anc_up hz).1 hy with rfl|hy
      ·exact hpp
      ·exact e2 y hy
     ·refine .inr ⟨f,e1,.up hz e2,e3,fun y hy hpy=>?_⟩;rcases(anc_up hz).1 hy with rfl|hy
      ·rw[hpp]at hpy;cases hpy
      ·exact e4 y hy hpy
theorem Ordered.pos_lt(o:Ordered S r n P){x:Nat}(hx:x∈r::P):pos (r::P) x<n:=by
 obtain⟨j,hj,rfl⟩:=Rb hx;rw[(pos_get o.nodup hj).2];have:=Ln n (r::P) o.nodup fun y hy=>o.lt hy;omega
theorem DomTree.path(h:DomTree S r n P t)(o:Ordered S r n P){x:Nat}(hx:x<n)(hp:Bf t x≠-2):Io t (x:Int)≠[]/\(∀ w:Int,w∈Io t (x:Int)↔∃ z:Nat,w=(z:Int)/\UpTo (Bf t) x z) /\
  ∀ p:Int->Bool,((Io t (x:Int)).find? p=none/\∀ z:Nat,UpTo (Bf t) x z->p (z:Int)=false)\/∃ f:Nat,(Io t (x:Int)).find? p=some (f:Int)/\UpTo (Bf t) x f/\p (f:Int)=true/\∀ z:Nat,UpTo (Bf t) x z->p (z:Int)=true->UpTo (Bf t) f z:=by
 have hm:=(o.mem x).2 (h.inv.rc x hx hp);obtain⟨q,h1,h2,h3⟩:=h.up n x hx hp (o.pos_lt hm)
 have e:Io t (x:Int)=q:=by unfold Io;rw[h.len,h1];rfl
 rw[e];refine⟨fun e=>?_,h2,h3⟩;have:=(h2 (x:Int)).2 ⟨x,rfl,.refl _⟩;rw[e]at this
 cases this
theorem DomTree.nopath(h:DomTree S r n P t){x:Nat}(hx:x<n)(hp:Bf t x = -2):Io t (x:Int)=[]:=by
 rw[pathD_nil]
 cases hl:t.length with
 | zero=>rfl
 | succ k=>
  unfold upD;rw[if_pos ⟨by omega,by rw[h.len];omega⟩,Au,show t.getD x 0=Bf t x from rfl,hp,if_neg (by omega)]
  cases k with
  | zero=>rfl
  | succ k=>unfold upD;rw[if_neg (by omega)];rfl
theorem DomTree.right(h:DomTree S r n P t)(o:Ordered S r n P):J2 t=true:=by
 unfold J2;rw[A7]
 constructor
 ·refine all_range.2 fun x hx=>?_;rw[h.len]at hx;unfold okR
  by_cases hp:Bf t x = -2
  ·rw[show t.getD x 0=Bf t x from rfl,hp];rfl
  ·rw[Gl (h.path o hx hp).1];simp
 ·apply Fu
  have key:∀ k,k<=n->Yl t k=if r<k then 1 else 0:=by
   intro k
   induction k with
   | zero=>intro _;rfl
   | succ k ih=>
    intro hk;rw[topsK_succ,ih (by omega)]
    have hr:t.getD k 0 = -1↔k=r:=by
     constructor
     ·intro he;rcases h.inv.kind k (by omega) with h1|h1|⟨z,hz⟩
      ·rw[show t.getD k 0=Bf t k from rfl,h1]at he;omega
      ·exact h1
      ·rw[show t.getD k 0=Bf t k from rfl,hz]at he;omega
     ·rintro rfl;exact h.inv.top
    by_cases hkr:k=r
    ·subst hkr;rw[if_neg (by omega),if_pos (hr.2 rfl),if_pos (by omega)]
    ·rw[if_neg (fun e=>hkr (hr.1 e))]
     by_cases h2:r<k
     ·rw[if_pos h2,if_pos (by omega)]
     ·rw[if_neg h2,if_neg (by omega)]
  rw[h.len,key n (zzL8 _),if_pos o.hr]
theorem DomTree.meet(h:DomTree S r n P t)(o:Ordered S r n P){a b:Nat}(ha:a<n)(hb:b<n)(hpa:Bf t a≠-2)(hpb:Bf t b≠-2):∃ m:Nat,N1 t (a:Int) (b:Int)=(m:Int)/\MeetAt (Bf t) a b m/\m<n/\Bf t m≠-2:=by
 have rd:Ready S r n P t P.length:=⟨h.inv,h.len,fun x hx=>by rw[Uv]at hx;exact h.full x (o.lt hx) ((o.mem x).1 hx)⟩;obtain⟨c,hc1,hc2,hc3⟩:=h.inv.meets (rd.inj o) pos_root _ a b (zzL8 _) ha hb hpa hpb;refine⟨c,?_,hc1,hc2,hc3⟩;unfold N1;rw[if_pos (h.right o)];obtain⟨hca,hcb⟩:=(hc1 c).1 (.refl _)
 have hin:∀ z:Nat,(Io t (b:Int)).contains (z:Int)=true↔UpTo (Bf t) b z:=fun z=>by
  rw[Abd,(h.path o hb hpb).2.1]
  constructor
  ·rintro⟨y,hy,hu⟩;cases Ql hy;exact hu
  ·intro hu;exact⟨z,rfl,hu⟩
 rcases(h.path o ha hpa).2.2 fun x=>(Io t (b:Int)).contains x with⟨_,h2⟩|⟨f,h1,h2,h3,h4⟩
 ·have:=h2 c hca;rw[(hin c).2 hcb]at this
  cases this
 ·rw[h1];have hfc:=h4 c hca ((hin c).2 hcb);have hcf:=(hc1 f).2 ⟨h2,(hin f).1 h3⟩;rw[h.inv.antisymm hcf hfc hc2 hc3]
  rfl
theorem DomTree.meet_none(h:DomTree S r n P t)(o:Ordered S r n P){a b:Nat}(ha:a<n)(hb:b<n)(hp:Bf t a = -2\/Bf t b = -2):N1 t (a:Int) (b:Int) = -2:=by
 unfold N1;rw[if_pos (h.right o)];rcases hp with hp|hp
 ·rw[h.nopath ha hp];rfl
 ·rw[h.nopath hb hp]
  have:(Io t (a:Int)).find? (fun x=>([]:List Int).contains x)=none:=List.find?_eq_none.2 fun x _=>by simp
  rw[this];rfl
theorem DomTree.over(h:DomTree S r n P t)(o:Ordered S r n P){a b:Nat}(ha:a<n)(hb:b<n):Pv t (a:Int) (b:Int)=true↔Bf t b≠-2/\UpTo (Bf t) b a:=by
 unfold Pv;rw[A7,zzL59,Pd]
 by_cases hpa:Bf t a = -2
 ·rw[h.meet_none o ha hb (.inl hpa)]
  constructor
  ·rintro⟨h1,_⟩;omega
  ·rintro⟨h1,h2⟩;exact absurd hpa (h.inv.anc h2 hb h1).2.1
 ·by_cases hpb:Bf t b = -2
  ·rw[h.meet_none o ha hb (.inr hpb)]
   constructor
   ·rintro⟨h1,_⟩;omega
   ·rintro⟨h1,_⟩;exact absurd hpb h1
  ·obtain⟨m,hm1,hm2,hm3,hm4⟩:=h.meet o ha hb hpa hpb;rw[hm1]
   constructor
   ·rintro⟨h1,_⟩;have h1:=Ql h1;subst h1;exact⟨hpb,((hm2 _).1 (.refl _)).2⟩
   ·rintro⟨_,h2⟩;have:=(hm2 a).2 ⟨.refl _,h2⟩;have h3:=((hm2 m).1 (.refl _)).1;rw[h.inv.antisymm h3 this ha hpa];exact⟨rfl,by omega⟩
theorem DomTree.over_dom(h:DomTree S r n P t)(o:Ordered S r n P){a b:Nat}(ha:a<n)(hb:b<n):Pv t (a:Int) (b:Int)=true↔Rc S r b/\¬ Av S r a b:=by
 rw[h.over o ha hb]
 constructor
 ·rintro⟨h1,h2⟩;exact⟨h.inv.rc b hb h1,(h.exact_ b hb h1 a).1 h2⟩
 ·rintro⟨h1,h2⟩;have:=h.full b hb h1;exact⟨this,(h.exact_ b hb this a).2 h2⟩
end
section
variable {L:List (List Int)} (hm:G4 L=true) {r:Nat} (hr:r<L.length)
include hm hr
theorem treeD_dom:∃ P,Ord (sN L) r (r::P)/\Ordered (sN L) r L.length P/\DomTree (sN L) r L.length P (Wf L r):=by
 obtain⟨O,hO⟩:=Ord.exist (Nk hm) hr;obtain⟨P,rfl,o⟩:=hO.ordered hr (Nk hm);obtain⟨J,_,hJ⟩:=stops o;have hd:=Aba o hJ;refine⟨P,hO,o,?_⟩;rw[<- hd.eq hm hr o];exact hd
end
theorem loop_allN{X:Type}(n:Nat)(p:Nat->Bool)(f:Int->Option (LR Int X))(yes no:X)(hn:∀ i:Nat,i<n->p i=true->f (i:Int)=some (.next ((i:Int)+1)))
  (hf:∀ i:Nat,i<n->p i=false->f (i:Int)=some (.done no)) (he:f (n:Int)=some (.done yes)):An f (0:Int)=some (bif (List.range n).all p then yes else no):=by
 have hg:∀ i,i<(List.range n).length->(List.range n).getD i 0=i:=fun i hi=>by rw[Ag _ _ _ hi];simp
 have:=T7 (List.range n) 0 p f yes no (fun i hi hp=>by rw[hg i hi]at hp;exact hn i (by simpa using hi) hp) (fun i hi hp=>by rw[hg i hi]at hp;exact hf i (by simpa using hi) hp) (by simpa using he) n 0 (by simp);rw[show(0:Int)=((0:Nat):Int) from rfl,this,N6]
theorem allN{n:Nat}{p:Nat->Bool}(h:(List.range n).all p=true):∀ i,i<n->p i=true:=fun i hi=>zzL33.1 h i (by simpa using hi)
def Sh(L:List (List Int)):List Bool:=rds (sN L) L.length ((List.replicate L.length false).set 0 true) L.length
def Ie(l:List Int)(p:Hg):Bool:=decide (p.From=l)&&((p.Args.length:Int)==(l.length:Int))
def Rl(L:List (List Int))(b:Ad)(i:Nat):Bool:=(Sh L).getD i false&&!((b.End.Kind==1 || b.End.Kind==3)&&(b.End.Arg !=0))&&b.Phis.all (Ie ((A4 L).getD i []))
def Gw(f:TFunc):Bool:=Mi f&&(List.range f.Blocks.length).all fun i=>Rl (rowsF f) (f.Blocks.getD i default) i
theorem Mf(f:TFunc):(rowsF f).length=f.Blocks.length:=by simp[rowsF]
theorem shape_fit{f:TFunc}(h:Gw f=true):phisFit f:=fun b hb p hp=>by
 simp only[Gw,A7]at h;obtain⟨i,hi,rfl⟩:=Rb hb;have h1:=allN h.2 i hi;rw[Ag _ _ _ hi]at h1;simp only[Rl,A7]at h1;have h2:=zzL33.1 h1.2 p hp;simp only[Ie,A7,Gs,zzL59]at h2;rw[h2.1];omega
def O0(l:List J6)(i:Nat):Bool:=valS (l.getD i default).V&&(L1 l (l.getD i default).V==(i:Int))
def Oc(l:List J6)(u:Qp):Bool:=!decide (L1 l u.V<0)
def defOf(l:List J6)(v:Int):J6:=l.getD (L1 l v).toNat default
def okFit(l:List J6)(u:Qp):Bool:=((defOf l u.V).Shape.1==u.Shape.1)&&(((defOf l u.V).Shape.2==u.Shape.2)&&true)
def Aay(l:List J6)(t:List Int)(u:Qp):Bool:=
 (decide ((defOf l u.V).Block<0) || ((defOf l u.V).Block==u.Block&&decide ((defOf l u.V).At<u.At))) || (!((defOf l u.V).Block==u.Block)&&!(N1 t (defOf l u.V).Block u.Block !=(defOf l u.V).Block))
def Db(f:TFunc):List Int:=treeG (H3 (rowsF f)) 0
def wrongD(f:TFunc)(l:Int):Int:=
 bif !Gw f then 5 else bif !Zy f l then 6 else bif !(List.range (B6 f).length).all (O0 (B6 f)) then 7 else bif !(Hd f).all (Oc (B6 f)) then 7 else
 bif !(Hd f).all (okFit (B6 f)) then 6 else bif !(Hd f).all (Aay (B6 f) (Db f)) then 7 else 0
def Ir(f:TFunc)(l:Int):Int:=bif decide (l<0) || decide (2<l) then 1 else bif !Tf f then 4 else wrongD f l
theorem findD_in{l:List J6}{v:Int}(h:¬ L1 l v<0):Bd (L1 l v) l.length:=by
 unfold L1 at h ⊢
 cases hx:l.findIdx? (fun d=>d.V==v) with
 | none=>rw[hx]at h;exact absurd (by decide) h
 | some i=>
  obtain⟨hi,_⟩:=List.findIdx?_eq_some_iff_getElem.1 hx;exact A5 hi
theorem tree_len{f:TFunc}(h:Mi f=true):(Db f).length<=1000:=by
 have h1:=(Lm (O8 h)).1;unfold Db treeG
 split
 ·rw[Zx];show(rowsF f).length<=1000;omega
 ·simp
def grow(n d:Int):Int:=bif decide (n<d) then d else n
def Sm(f:TFunc):Prop:=InF f/\Cb f=some true
theorem sm_ok{f:TFunc}(h:Sm f)(hm:Tf f=true):OkF f:=by
 obtain⟨sm,h1,h2⟩:=small_parts f h.1;rw[h.2]at h1;exact(h2 (OI h1).symm hm).1
theorem m_small11{f:TFunc}(hf:InF f):∃ b,Di f=some b/\(b=true->Sm f):=by
 obtain⟨x,hx⟩:∃ x,An (Be f) ((0:Int),(0:Int))=some x:=by
  refine Ot f.Blocks.length (Be f) (fun n i hi=>.inl ?_) (fun n=>?_) f.Blocks.length 0 0 (by omega)
  ·unfold Be
   have hd:decide ((i:Int)<(f.Blocks.length:Int))=true:=by simpa using hi
   simp only[hd,Aj,Am (A5 hi),Ih hi hf.blocks];exact⟨_,rfl⟩
  ·unfold Be;exact⟨n,by simp⟩
 obtain⟨sm,h1⟩:=small_some f hf;unfold Di;rw[hx,Ax,h1,Ax];refine⟨_,rfl,fun hb=>⟨hf,?_⟩⟩
 cases sm with
 | true=>exact h1
 | false=>cases hb
structure ShapesOf(f:TFunc)(s:List (Int×(Int×Int))):Prop where
 none:Ir f 2≠0->s.length=0
 len:Ir f 2=0->s.length=(B6 f).length
 get:Ir f 2=0->∀ d∈B6 f,Fq ((0:Int),(0:Int)) s d.V=d.Shape
 has:Ir f 2=0->∀ v,Ei s v=true->∃ d∈B6 f,d.V=v
def restD(f:TFunc):Int:=
 bif !(List.range (B6 f).length).all (O0 (B6 f)) then 7 else bif !(Hd f).all (Oc (B6 f)) then 7 else
 bif !(Hd f).all (okFit (B6 f)) then 6 else bif !(Hd f).all (Aay (B6 f) (Db f)) then 7 else 0
theorem Rn{f:TFunc}{l:Int}(h0:0<=l)(h2:l<=2):Ir f l=0↔Tf f=true/\Gw f=true/\Zy f l=true/\restD f=0:=by
 unfold Ir wrongD;rw[Gl (show ¬ l<0 by omega),Gl (show ¬ 2<l by omega)]
 show _↔_/\_/\_/\restD f=0
 have e:(bif !(List.range (B6 f).length).all (O0 (B6 f)) then(7:Int) else bif !(Hd f).all (Oc (B6 f)) then 7 else
  bif !(Hd f).all (okFit (B6 f)) then 6 else bif !(Hd f).all (Aay (B6 f) (Db f)) then 7 else 0)=restD f:=rfl
 rw[e]
 cases Tf f<;>cases Gw f<;>cases Zy f l<;>simp
theorem lanes_of{o:E7}(h:Mo o=true):1<=o.Lanes:=by
 simp only[Mo,A7]at h;have:=Pz h.1.1;omega
theorem sum_suc{α:Type}(l:List α)(g:α->Nat):(l.map fun a=>g a+1).sum=l.length+(l.map g).sum:=by
 induction l with
 | nil=>rfl
 | cons a l ih=>simp only[B0,Sl,ih,U1];omega
theorem w64_plus(a b:Int):Bb (a+Bb b)=Bb (a+b):=by rw[Int.add_comm,Yn,Int.add_comm]
theorem xsize(f:TFunc)(hf:InF f):Nc f=some (sizeW f):=by
 have hl:=Zh f.Blocks (default:Ad) (fun b=>b.Phis.length+b.Ops.length) id (Jq f) (fun n i hi=>?_) (fun n=>?_) f.Blocks.length 0 f.Blocks.length (Fl _)
 ·unfold Nc;rw[w64_nat (by have:=hf.blocks;rw[Zj]at this;omega),show((0:Nat):Int)=0 from rfl]at hl;rw[hl,Ax,N6,sizeW,P0,show(sizeB:Ad->Nat)=(fun b=>(b.Phis.length+b.Ops.length)+1) from rfl,sum_suc]
  rfl
 ·have e1:decide ((i:Int)<(f.Blocks.length:Int))=true:=Fu (by omega);unfold Jq;simp only[e1,Aj,Am (A5 hi),Dw,Ih hi hf.blocks,w64_plus,Yn];rw[show(n:Int)+(((f.Blocks.getD i default).Phis.length:Int)+((f.Blocks.getD i default).Ops.length:Int))=((n+((f.Blocks.getD i default).Phis.length+(f.Blocks.getD i default).Ops.length):Nat):Int) by omega]
 ·have e1:decide ((f.Blocks.length:Int)<(f.Blocks.length:Int))=false:=by simp
  unfold Jq;simp only[e1,A0,id]
theorem Xo{α:Type}(l:List α)(d:α)(p:α->Bool)(f:Int->Option (LR Int (Unit ⊕ Bool)))(hn:∀ i:Nat,i<l.length->f i=bif p (l.getD i d) then some (.next ((i:Int)+1)) else some (.done (.inr false)))
  (he:f l.length=some (.done (.inl ()))):An f 0=some (bif l.all p then .inl () else .inr false):=by
 have:=T7 l d p f (.inl ()) (.inr false) (fun i hi hp=>by rw[hn i hi,hp];rfl) (fun i hi hp=>by rw[hn i hi,hp];rfl) he l.length 0 (Fl _)
 simpa using this
theorem numB_cond(x:Int):(bif decide (x<0) then true else decide (2147483647<x)) = !numB x:=by
 unfold numB
 by_cases h1:x<0
 ·have:¬ 0<=x:=by omega
  simp[h1,this]
 ·by_cases h2:2147483647<x
  ·have:¬ x<=2147483647:=by omega
   simp[h1,h2,this]
  ·have h3:0<=x:=by omega
   have h4:x<=2147483647:=by omega
   simp[h1,h2,h3,h4]
theorem xfits(l:List Int)(h:l.length<=maxLen):C0 l=some (l.all numB):=by
 have hl:=Xo l 0 numB (F9 l) (fun i hi=>?_) ?_
 ·unfold C0;rw[hl]
  cases l.all numB<;>rfl
 ·have e1:decide ((i:Int)<(l.length:Int))=true:=Fu (by omega);unfold F9;simp only[e1,Aj,Am (A5 hi),Dw,numB_cond,Ih hi h]
  cases numB (l.getD i 0)<;>simp
 ·unfold F9
  simp
theorem Vu(l:List Int)(h:l.length<=maxLen):E9 l=some (Nb l):=by
 unfold E9;rw[xfits l h]
 by_cases h1:l.length<=64
 ·have e1:decide ((l.length:Int)<=64)=true:=Fu (by omega);rw[e1];simp[Nb,h1]
 ·have e1:decide ((l.length:Int)<=64)=false:=Gl (by omega);rw[e1];simp[Nb,h1]
theorem Vr{l:List Int}(h:l.length<=10):l.length<=maxLen:=by rw[Zj];omega
theorem xphiFits(p:Hg)(h1:p.From.length<=maxLen)(h2:p.Args.length<=maxLen):Js p=some (phiB p):=by
 unfold Js phiB;rw[xfits _ (Vr (by simp)),Vu _ h1,Vu _ h2];simp only[S9,List.all_nil,zzL143]
 cases numB p.Bits<;>cases numB p.Dst<;>cases Nb p.From<;>cases Nb p.Args<;>rfl
theorem xopFits(o:E7)(h1:o.Args.length<=maxLen):Kx o=some (opB o):=by
 unfold Kx opB;rw[xfits _ (Vr (by simp)),Vu _ h1];simp only[S9,List.all_nil,zzL143]
 cases numB o.Kind<;>cases numB o.Bits<;>cases numB o.Lanes<;>cases numB o.Dst<;>cases Nb o.Args<;>rfl
theorem xendFits(e:I4)(h1:e.To.length<=maxLen):Jr e=some (endB e):=by
 unfold Jr endB;rw[xfits _ (Vr (by simp)),Vu _ h1];simp only[S9,List.all_nil,zzL143]
 cases numB e.Kind<;>cases numB e.Arg<;>cases Nb e.To<;>rfl
theorem not_cond{X:Type}(b:Bool)(x y:X):(bif !b then x else y)=bif b then y else x:=by cases b<;>rfl
theorem xphis_fit(l:List Hg)(hl:l.length<=maxLen)(h:∀ p∈l,p.From.length<=maxLen/\p.Args.length<=maxLen):Fi l=some (l.all phiB):=by
 have hl':=Xo l (default:Hg) phiB (Ed l) (fun i hi=>?_) ?_
 ·unfold Fi;rw[hl']
  cases l.all phiB<;>rfl
 ·have e1:decide ((i:Int)<(l.length:Int))=true:=Fu (by omega);have:=h _ (A8 (d:=(default:Hg)) hi);unfold Ed;simp only[e1,Aj,Am (A5 hi),Dw,xphiFits _ this.1 this.2,Ax,not_cond,Ih hi hl,Int.natCast_add,Int.natCast_one]
 ·unfold Ed
  simp
theorem xops_fit(l:List E7)(hl:l.length<=maxLen)(h:∀ o∈l,o.Args.length<=maxLen):F8 l=some (l.all opB):=by
 have hl':=Xo l (default:E7) opB (Eu l) (fun i hi=>?_) ?_
 ·unfold F8;rw[hl']
  cases l.all opB<;>rfl
 ·have e1:decide ((i:Int)<(l.length:Int))=true:=Fu (by omega);have:=h _ (A8 (d:=(default:E7)) hi);unfold Eu;simp only[e1,Aj,Am (A5 hi),Dw,xopFits _ this,Ax,not_cond,Ih hi hl,Int.natCast_add,Int.natCast_one]
 ·unfold Eu
  simp
theorem xblockFits(b:Ad)(h1:b.Phis.length<=maxLen)(h2:b.Ops.length<=maxLen)(h3:b.End.To.length<=maxLen)(h4:∀ p∈b.Phis,p.From.length<=maxLen/\p.Args.length<=maxLen)(h5:∀ o∈b.Ops,o.Args.length<=maxLen):H7 b=some (blockB b):=by
 unfold H7 blockB;rw[xphis_fit _ h1 h4,xops_fit _ h2 h5,xendFits _ h3]
 cases b.Phis.all phiB<;>cases b.Ops.all opB<;>cases endB b.End<;>rfl
theorem xblocks_fit(f:TFunc)(hf:InF f):Et f.Blocks=some (f.Blocks.all blockB):=by
 have hl':=Xo f.Blocks (default:Ad) blockB (Dq f.Blocks) (fun i hi=>?_) ?_
 ·unfold Et;rw[hl']
  cases f.Blocks.all blockB<;>rfl
 ·have e1:decide ((i:Int)<(f.Blocks.length:Int))=true:=Fu (by omega);have hm:=A8 (d:=(default:Ad)) hi;have q:=hf.block _ hm;unfold Dq;simp only[e1,Aj,Am (A5 hi),Dw,xblockFits _ q.1 q.2.1 q.2.2 (hf.phi _ hm) (fun o ho=>(hf.op _ hm o ho).1),Ax,not_cond,Ih hi hf.blocks,Int.natCast_add,Int.natCast_one]
 ·unfold Dq
  simp
theorem xmay(f:TFunc)(hf:InF f):Ou f=some (Tf f):=by
 unfold Ou Tf;rw[xsize f hf,xfits _ hf.params,xfits _ (Vr (by simp)),xblocks_fit f hf];simp only[S9,List.all_nil,zzL143,Nb]
 have d1:∀ n:Nat,decide ((n:Int)<1) = !decide (1<=n):=fun n=>by by_cases h:1<=n<;>simp[h]<;>omega
 have d2:∀ n:Nat,decide ((64:Int)<(n:Int)) = !decide (n<=64):=fun n=>by by_cases h:n<=64<;>simp[h]<;>omega
 have d3:∀ n:Nat,decide ((16:Int)<(n:Int)) = !decide (n<=16):=fun n=>by by_cases h:n<=16<;>simp[h]<;>omega
 have d4:∀ n:Int,decide ((512:Int)<n) = !decide (n<=512):=fun n=>by by_cases h:n<=512<;>simp[h]<;>omega
 simp only[d1,d2,d3,d4]
 have himp:decide (f.Params.length<=16)=true->decide (f.Params.length<=64)=true:=fun h=>by simp at h ⊢;omega
 revert himp
 generalize decide (1<=f.Blocks.length)=c1
 generalize decide (f.Blocks.length<=64)=c2
 generalize decide (f.Params.length<=16)=c3
 generalize decide (f.Params.length<=64)=c4
 generalize f.Params.all numB=c6
 generalize numB f.Ret=c7
 generalize f.Blocks.all blockB=c8
 cases c3 with
 | true=>
  intro h;obtain rfl:=h rfl;simp only[E6,Rd,Aj,Ax,A0]
  generalize decide (sizeW f<=512)=c5
  cases c1<;>cases c2<;>cases c6<;>cases c7<;>cases c8<;>cases c5<;>rfl
 | false=>
  intro _
  cases c1<;>cases c2<;>rfl
inductive Tp (t:List Int):Nat->Nat->Nat->Prop
 | top {x:Nat} (hx:x<t.length) (h:t.getD x 0 = -1):Tp t x x 0
 | up {x y r k:Nat} (hx:x<t.length) (h:t.getD x 0=(y:Int)) (hk:Tp t y r k):Tp t x r (k+1)
section
variable {t:List Int}
theorem Tp.lt{x r k:Nat}(h:Tp t x r k):x<t.length:=by cases h<;>assumption
theorem Tp.tops{x r k:Nat}(h:Tp t x r k):r<t.length/\t.getD r 0 = -1:=by
 induction h with
 | top hx h=>exact⟨hx,h⟩
 | up _ _ _ ih=>exact ih
theorem Tp.det{x r k r' k':Nat}(h:Tp t x r k)(h':Tp t x r' k'):r=r'/\k=k':=by
 induction h generalizing k' with
 | top hx h=>cases h' with
  | top=>exact⟨rfl,rfl⟩
  | up _ h2 _=>omega
 | up hx h1 _ ih=>cases h' with
  | top _ h2=>omega
  | up _ h2 k2=>
   have:_=_:=h1.symm.trans h2
   cases Ql this
   obtain⟨e1,e2⟩:=ih k2;exact⟨e1,by omega⟩
theorem Tp.upTo{x r k:Nat}(h:Tp t x r k):UpTo (Bf t) x r:=by
 induction h with
 | top=>exact .refl _
 | up _ h _ ih=>exact .up h ih
theorem Tp.on{x r k z:Nat}(h:Tp t x r k)(hz:UpTo (Bf t) x z):∃ j,j<=k/\Tp t z r j/\(j=k->z=x):=by
 induction hz generalizing k with
 | refl x=>exact⟨k,zzL8 _,h,fun _=>rfl⟩
 | up hp _ ih=>
  cases h with
  | top _ h2=>have:_=_:=hp.symm.trans h2;omega
  | up _ h2 k2=>
   have:_=_:=hp.symm.trans h2
   cases Ql this
   obtain⟨j,h1,h3,_⟩:=ih k2;exact⟨j,by omega,h3,fun e=>by omega⟩
theorem Tp.anti{x r k z:Nat}(h:Tp t x r k)(h1:UpTo (Bf t) x z)(h2:UpTo (Bf t) z x):z=x:=by
 obtain⟨j,j1,j2,j3⟩:=h.on h1;obtain⟨i,i1,i2,i3⟩:=j2.on h2;have:=h.det i2;exact j3 (by omega)
theorem Tp.list{x r k:Nat}(h:Tp t x r k):∃ l:List Nat,l.length=k+1/\l.Nodup/\∀ y∈l,y<t.length/\∃ j,j<=k/\Tp t y r j:=by
 induction h with
 | top hx h=>exact⟨[_],rfl,by simp,fun y hy=>by rw[zzL14.1 hy];exact⟨hx,0,zzL8 _,.top hx h⟩⟩
 | @up x y r k hx h hk ih=>
  obtain⟨l,h1,h2,h3⟩:=ih;refine⟨x::l,by simp[h1],zzL97.2 ⟨fun hm=>?_,h2⟩,fun z hz=>?_⟩
  ·obtain⟨_,j,hj,hj2⟩:=h3 _ hm;have:=(Tp.up hx h hk).det hj2;omega
  ·rcases zzL28.1 hz with rfl|hz
   ·exact⟨hx,k+1,zzL8 _,.up hx h hk⟩
   ·obtain⟨e1,j,e2,e3⟩:=h3 z hz;exact⟨e1,j,by omega,e3⟩
theorem Tp.short{x r k:Nat}(h:Tp t x r k):k<t.length:=by
 obtain⟨l,h1,h2,h3⟩:=h.list;have:=Ln t.length l h2 fun y hy=>(h3 y hy).1;omega
theorem Tp.upD{x r k:Nat}(h:Tp t x r k):∀ m,k<m->∃ q,upD t m (x:Int)=some q/\(∀ w:Int,w∈q↔∃ z:Nat,w=(z:Int)/\UpTo (Bf t) x z) /\
  ∀ p:Int->Bool,(q.find? p=none/\∀ z:Nat,UpTo (Bf t) x z->p (z:Int)=false)\/∃ f:Nat,q.find? p=some (f:Int)/\UpTo (Bf t) x f/\p (f:Int)=true/\∀ z:Nat,UpTo (Bf t) x z->p (z:Int)=true->UpTo (Bf t) f z:=by
 induction h with
 | @top x hx h=>
  intro m hm;obtain⟨m,rfl⟩:∃ i,m=i+1:=⟨m-1,by omega⟩
  have htop:∀ z,UpTo (Bf t) x z↔z=x:=fun z=>anc_top fun p hp=>by have:_=_:=hp.symm.trans h;omega
  unfold Go.Proofs.YtmkiepobhjiabaaGreat.upD;rw[if_pos ⟨by omega,by omega⟩,Au,if_pos h];refine⟨_,rfl,fun w=>?_,fun p=>?_⟩
  ·rw[zzL14]
   constructor
   ·rintro rfl;exact⟨x,rfl,.refl _⟩
   ·rintro⟨z,rfl,hz⟩;rw[(htop z).1 hz]
  ·cases hpp:p (x:Int) with
   | false=>exact .inl ⟨by simp[List.find?,hpp],fun z hz=>by rw[(htop z).1 hz];exact hpp⟩
   | true=>exact .inr ⟨x,by simp[List.find?,hpp],.refl _,hpp,fun z hz _=>hz⟩
 | @up x y r k hx h hk ih=>
  intro m hm;obtain⟨m,rfl⟩:∃ i,m=i+1:=⟨m-1,by omega⟩;unfold Go.Proofs.YtmkiepobhjiabaaGreat.upD;rw[if_pos ⟨by omega,by omega⟩,Au,if_neg (by omega),h];obtain⟨q,hq1,hq2,hq3⟩:=ih m (by omega);rw[hq1];refine⟨(x:Int)::q,rfl,fun w=>?_,fun p=>?_⟩
  ·rw[zzL28,hq2 w]
   constructor
   ·rintro(rfl|⟨y,rfl,hy⟩)
    ·exact⟨x,rfl,.refl _⟩
    ·exact⟨y,rfl,.up h hy⟩
   ·rintro⟨y,rfl,hy⟩;rcases(anc_up h).1 hy with rfl|hy
    ·exact .inl rfl
    ·exact .inr ⟨y,rfl,hy⟩
  ·cases hpp:p (x:Int) with
   | true=>exact .inr ⟨x,by simp[List.find?,hpp],.refl _,hpp,fun y hy _=>hy⟩
   | false=>
    have hf:((x:Int)::q).find? p=q.find? p:=by simp[List.find?,hpp]
    rw[hf];rcases hq3 p with⟨e1,e2⟩|⟨f,e1,e2,e3,e4⟩
    ·refine .inl ⟨e1,fun y hy=>?_⟩;rcases(anc_up h).1 hy with rfl|hy
     ·exact hpp
     ·exact e2 y hy
    ·refine .inr ⟨f,e1,.up h e2,e3,fun y hy hpy=>?_⟩;rcases(anc_up h).1 hy with rfl|hy
     ·rw[hpp]at hpy;cases hpy
     ·exact e4 y hy hpy
theorem upD_tp:∀ m (a:Int) q,upD t m a=some q->∃ x r k:Nat,a=(x:Int)/\k<m/\Tp t x r k:=by
 intro m
 induction m with
 | zero=>intro a q h;cases h
 | succ m ih=>
  intro a q h;unfold Go.Proofs.YtmkiepobhjiabaaGreat.upD at h
  by_cases ha:0<=a/\a<(t.length:Int)
  ·rw[if_pos ha]at h;have e:((a.toNat:Nat):Int)=a:=N3 ha.1
   by_cases h1:t.getD a.toNat 0 = -1
   ·exact⟨a.toNat,a.toNat,0,e.symm,by omega,.top (by omega) h1⟩
   ·rw[if_neg h1]at h
    cases hu:Go.Proofs.YtmkiepobhjiabaaGreat.upD t m (t.getD a.toNat 0) with
    | none=>rw[hu]at h;cases h
    | some q'=>
     obtain⟨y,r,k,e1,e2,e3⟩:=ih _ _ hu;exact⟨a.toNat,r,k+1,e.symm,by omega,.up (by omega) e1 e3⟩
  ·rw[if_neg ha]at h;cases h
theorem pathD_tp{a:Int}:Io t a≠[]↔∃ x r k:Nat,a=(x:Int)/\Tp t x r k:=by
 constructor
 ·intro h
  cases hu:upD t t.length a with
  | none=>exact absurd (pathD_nil.2 hu) h
  | some q=>obtain⟨x,r,k,e1,_,e2⟩:=upD_tp _ _ _ hu;exact⟨x,r,k,e1,e2⟩
 ·rintro⟨x,r,k,rfl,h⟩ e;obtain⟨q,hq,_⟩:=h.upD t.length h.short;rw[pathD_nil.1 e]at hq;cases hq
theorem Tp.path{x r k:Nat}(h:Tp t x r k):(∀ w:Int,w∈Io t (x:Int)↔∃ z:Nat,w=(z:Int)/\UpTo (Bf t) x z) /\
  ∀ p:Int->Bool,((Io t (x:Int)).find? p=none/\∀ z:Nat,UpTo (Bf t) x z->p (z:Int)=false)\/∃ f:Nat,(Io t (x:Int)).find? p=some (f:Int)/\UpTo (Bf t) x f/\p (f:Int)=true/\∀ z:Nat,UpTo (Bf t) x z->p (z:Int)=true->UpTo (Bf t) f z:=by
 obtain⟨q,h1,h2,h3⟩:=h.upD t.length h.short
 have e:Io t (x:Int)=q:=by unfold Io;rw[h1];rfl
 rw[e];exact⟨h2,h3⟩
theorem getD_set{α:Type}{l:List α}{i j:Nat}{x d:α}(hi:i<l.length):(l.set i x).getD j d=if j=i then x else l.getD j d:=by
 by_cases h:j=i
 ·subst h;simp[List.getD,hi]
 ·simp[List.getD,h,Hj h]
theorem meet_L1{x r k:Nat}(h:Tp t x r k):∀ l:List Bool,l.length=t.length->∃ l',An (Fz t) ((x:Int),l)=some l'/\l'.length=t.length/\∀ z,z<t.length->(l'.getD z false=true↔l.getD z false=true\/UpTo (Bf t) x z):=by
 induction h with
 | @top x hx h=>
  intro l hl
  have hs:Fz t ((x:Int),l)=some (.next (-1,l.set x true)):=by
   unfold Fz
   have hb:((x:Int)!=(-1:Int))=true:=by rw[Pd];omega
   simp only[hb,Aj,Au,h];rw[Ae (Hz (by omega)),Ae (Hz hx)]
  have hd:Fz t (-1,l.set x true)=some (.done (l.set x true)):=by
   unfold Fz
   rfl
  refine⟨l.set x true,by rw[Aw hs,Aq hd],by simp[hl],fun z hz=>?_⟩;rw[getD_set (by omega)]
  have htop:UpTo (Bf t) x z↔z=x:=anc_top fun p hp=>by have:_=_:=hp.symm.trans h;omega
  rw[htop]
  by_cases e:z=x
  ·simp[e]
  ·simp[e]
 | @up x y r k hx h hk ih=>
  intro l hl
  have hs:Fz t ((x:Int),l)=some (.next ((y:Int),l.set x true)):=by
   unfold Fz
   have hb:((x:Int)!=(-1:Int))=true:=by rw[Pd];omega
   simp only[hb,Aj,Au,h];rw[Ae (Hz (by omega)),Ae (Hz hx)]
  obtain⟨l',e1,e2,e3⟩:=ih (l.set x true) (by simp[hl]);refine⟨l',by rw[Aw hs,e1],e2,fun z hz=>?_⟩;rw[e3 z hz,getD_set (by omega),anc_up (par:=Bf t) h]
  by_cases e:z=x
  ·simp[e]
  ·simp[e]
theorem meet_L2{b r k:Nat}(h:Tp t b r k)(l:List Bool)(hl:l.length=t.length):l.getD r false=true->∃ c:Nat,An (F0 t l) (b:Int)=some (c:Int)/\UpTo (Bf t) b c/\l.getD c false=true/\∀ z,UpTo (Bf t) b z->l.getD z false=true->UpTo (Bf t) c z:=by
 induction h with
 | @top x hx h=>
  intro hr
  have hd:F0 t l (x:Int)=some (.done (x:Int)):=by
   unfold F0;rw[Ae (Hz (by omega)),Au,hr]
   rfl
  exact⟨x,Aq hd,.refl _,hr,fun z hz _=>hz⟩
 | @up x y r k hx h hk ih=>
  intro hr
  cases hx2:l.getD x false with
  | true=>
   have hd:F0 t l (x:Int)=some (.done (x:Int)):=by
    unfold F0;rw[Ae (Hz (by omega)),Au,hx2]
    rfl
   exact⟨x,Aq hd,.refl _,hx2,fun z hz _=>hz⟩
  | false=>
   have hs:F0 t l (x:Int)=some (.next (y:Int)):=by
    unfold F0;rw[Ae (Hz (by omega)),Au,hx2,Mp,Aj,Ae (Hz hx),h]
   obtain⟨c,e1,e2,e3,e4⟩:=ih hr;refine⟨c,by rw[Aw hs,e1],.up h e2,e3,fun z hz hlz=>?_⟩;rcases(anc_up (par:=Bf t) h).1 hz with rfl|hz
   ·rw[hx2]at hlz;cases hlz
   ·exact e4 z hz hlz
theorem Aav(ht:t.length<=1000){a b r k m:Nat}(ha:Tp t a r k)(hb:Tp t b r m):∃ c:Nat,Lg t (a:Int) (b:Int)=some (c:Int)/\MeetAt (Bf t) a b c:=by
 unfold Lg
 have hroom:(1000:Nat)<=room:=by decide
 rw[Ae ⟨by omega,by omega,by omega⟩,Au];obtain⟨l',h1,h2,h3⟩:=meet_L1 ha (List.replicate t.length false) (by simp);rw[h1,Ax]
 have h3':∀ z,z<t.length->(l'.getD z false=true↔UpTo (Bf t) a z):=fun z hz=>by rw[h3 z hz,Ni];simp
 obtain⟨c,e1,e2,e3,e4⟩:=meet_L2 hb l' h2 ((h3' r ha.tops.1).2 ha.upTo)
 have hc:c<t.length:=by obtain⟨j,_,hj,_⟩:=hb.on e2;exact hj.lt
 refine⟨c,by rw[e1];rfl,fun w=>⟨fun hw=>⟨((h3' c hc).1 e3).trans hw,e2.trans hw⟩,fun⟨hw1,hw2⟩=>?_⟩⟩;obtain⟨j,_,hj,_⟩:=ha.on hw1;exact e4 w hw2 ((h3' w hj.lt).2 hw1)
theorem meetD_at(hR:J2 t=true){a b r k m:Nat}(ha:Tp t a r k)(hb:Tp t b r m):∃ c:Nat,N1 t (a:Int) (b:Int)=(c:Int)/\MeetAt (Bf t) a b c:=by
 unfold N1;rw[if_pos hR]
 have hcon:∀ z:Nat,(Io t (b:Int)).contains (z:Int)=true↔UpTo (Bf t) b z:=fun z=>by
  rw[Abd,hb.path.1]
  constructor
  ·rintro⟨y,e,hy⟩;cases Ql e;exact hy
  ·intro hz;exact⟨z,rfl,hz⟩
 rcases ha.path.2 (fun x=>(Io t (b:Int)).contains x) with⟨e1,e2⟩|⟨f,e1,e2,e3,e4⟩
 ·have:=e2 r ha.upTo;rw[(hcon r).2 hb.upTo]at this
  cases this
 ·exact⟨f,by rw[e1];rfl,fun w=>⟨fun hw=>⟨e2.trans hw,((hcon f).1 e3).trans hw⟩,fun⟨hw1,hw2⟩=>e4 w hw1 ((hcon w).2 hw2)⟩⟩
theorem MeetAt.same{a b r k c d:Nat}(ha:Tp t a r k)(hc:MeetAt (Bf t) a b c)(hd:MeetAt (Bf t) a b d):c=d:=by
 obtain⟨j,_,hj,_⟩:=ha.on ((hc c).1 (.refl _)).1;exact(hj.anti ((hc d).2 ((hd d).1 (.refl _))) ((hd c).2 ((hc c).1 (.refl _)))).symm
end
theorem m_index(t:List Int)(v:Int)(ht:t.length<=1000):(∃ r:Nat,r<t.length/\t.getD r 0=v/\(∀ i,i<r->t.getD i 0≠v)/\D1 t v=some (r:Int))\/((∀ i,i<t.length->t.getD i 0≠v)/\D1 t v=some (-1)):=by
 have key:∀ k i:Nat,i+k=t.length->(∀ j,j<i->t.getD j 0≠v)->
   (∃ r:Nat,r<t.length/\t.getD r 0=v/\(∀ i,i<r->t.getD i 0≠v)/\An (Bu t v) (i:Int)=some (.inr (r:Int)))\/((∀ i,i<t.length->t.getD i 0≠v)/\An (Bu t v) (i:Int)=some (.inl ())):=by
  intro k
  induction k with
  | zero=>
   intro i hi hj
   obtain rfl:i=t.length:=by omega
   refine .inr ⟨hj,Aq ?_⟩;unfold Bu;rw[I6];rfl
  | succ k ih=>
   intro i hi hj
   by_cases e:v=t.getD i 0
   ·refine .inl ⟨i,by omega,e.symm,hj,Aq ?_⟩;unfold Bu;have hb:((v:Int)==t.getD i 0)=true:=zzL59.2 e;simp only[E8 (show i<t.length by omega),Aj,Au,hb];rw[Ae (Hz (by omega))]
   ·have hs:Bu t v (i:Int)=some (.next ((i+1:Nat):Int)):=by
     unfold Bu;have hb:((v:Int)==t.getD i 0)=false:=zzL37.2 e;simp only[E8 (show i<t.length by omega),Aj,Au,hb,A0];rw[Ae (Hz (by omega)),w1 (by omega)]
    rw[Aw hs]
    exact ih (i+1) (by omega) fun j hj2=>by
     by_cases ej:j=i
     ·subst ej;exact fun h=>e h.symm
     ·exact hj j (by omega)
 have h0:=key t.length 0 (by omega) (fun j hj=>absurd hj (N5 _));unfold D1;rcases h0 with⟨r,h1,h2,h3,h4⟩|⟨h1,h2⟩
 ·exact .inl ⟨r,h1,h2,h3,by rw[show((0:Int))=((0:Nat):Int) from rfl,h4];rfl⟩
 ·exact .inr ⟨h1,by rw[show((0:Int))=((0:Nat):Int) from rfl,h2];rfl⟩
section
variable {t:List Int}
structure V2(t:List Int)(r f:Nat)(w:List Int):Prop where
 len:w.length=t.length
 old:∀ y,y<t.length->w.getD y 0≠0->(w.getD y 0<=(f:Int))/\∃ k,Tp t y r k
structure Walk(t:List Int)(r f x:Nat)(w:List Int):Prop where
 len:w.length=t.length
 hx:x<t.length
 old:∀ y,y<t.length->w.getD y 0≠0->w.getD y 0<=(f:Int)/\(∃ k,Tp t y r k)\/w.getD y 0=((f+1:Nat):Int)/\∀ r' k,Tp t x r' k->∃ j,k<j/\Tp t y r' j
 fwd:∀ r' k,Tp t x r' k->∃ j,k<=j/\Tp t f r' j
 back:∀ r' k,Tp t f r' k->∃ j,Tp t x r' j
def zeros(w:List Int):Nat:=w.countP fun z=>z==0
theorem zeros_set{w:List Int}{x:Nat}{v:Int}(hx:x<w.length)(h0:w.getD x 0=0)(hv:v≠0):zeros (w.set x v)<zeros w:=by
 unfold zeros;rw[List.countP_set hx];rw[Ag _ _ _ hx]at h0;have hp:0<w.countP fun z=>z==0:=List.countP_pos_iff.2 ⟨w[x],S7 hx,by simp[h0]⟩;have hb:(v==0)=false:=zzL37.2 hv;simp only[h0,Rd,Hx,hb,Xf,Em];omega
theorem leads_loop(ht:t.length<=1000){r:Nat}(hr:r<t.length)(htop:t.getD r 0 = -1){f:Nat}(hf:f<t.length):∀(m x:Nat) (w:List Int),zeros w<=m->Walk t r f x w->
  (∃ w',An (Cy t (f:Int) (r:Int)) ((x:Int),w)=some (.inl w')/\V2 t r (f+1) w'/\∃ k,Tp t f r k) \/
  ∃ b w',An (Cy t (f:Int) (r:Int)) ((x:Int),w)=some (.inr (b,w'))/\w'.length=t.length/\(b=true->V2 t r (f+1) w'/\∃ k,Tp t f r k)/\(b=false->∀ k,¬ Tp t f r k):=by
 intro m
 induction m with
 | zero=>
  intro x w hz hw;exact go 0 (fun x w hz=>absurd hz (N5 _)) x w hz hw
 | succ m ih=>
  intro x w hz hw;exact go (m+1) (fun x w hz=>ih x w (Nat.le_of_lt_succ hz)) x w hz hw
where
 go (m:Nat) (ih:∀(x:Nat) (w:List Int),zeros w<m->Walk t r f x w->
  (∃ w',An (Cy t (f:Int) (r:Int)) ((x:Int),w)=some (.inl w')/\V2 t r (f+1) w'/\∃ k,Tp t f r k) \/
  ∃ b w',An (Cy t (f:Int) (r:Int)) ((x:Int),w)=some (.inr (b,w'))/\w'.length=t.length/\(b=true->V2 t r (f+1) w'/\∃ k,Tp t f r k)/\(b=false->∀ k,¬ Tp t f r k)) (x:Nat) (w:List Int) (hz:zeros w<=m) (hw:Walk t r f x w) :
  (∃ w',An (Cy t (f:Int) (r:Int)) ((x:Int),w)=some (.inl w')/\V2 t r (f+1) w'/\∃ k,Tp t f r k) \/
  ∃ b w',An (Cy t (f:Int) (r:Int)) ((x:Int),w)=some (.inr (b,w'))/\w'.length=t.length/\(b=true->V2 t r (f+1) w'/\∃ k,Tp t f r k)/\(b=false->∀ k,¬ Tp t f r k):=by
  have hxl:=hw.hx
  have told:∀ k,Tp t x r k->V2 t r (f+1) w/\∃ k,Tp t f r k:=fun k hk=>by
   obtain⟨j,_,hj⟩:=hw.fwd _ _ hk;refine⟨⟨hw.len,fun y hy hy0=>?_⟩,j,hj⟩;rcases hw.old y hy hy0 with⟨h1,h2⟩|⟨h1,h2⟩
   ·exact⟨by omega,h2⟩
   ·obtain⟨i,_,hi⟩:=h2 _ _ hk;exact⟨by omega,i,hi⟩
  by_cases hxr:x=r
  ·subst hxr;refine .inl ⟨w,Aq ?_,told 0 (.top hr htop)⟩;unfold Cy
   have hb:((x:Int)!=(x:Int))=false:=by simp
   simp only[hb,A0]
  ·have hb:((x:Int)!=(r:Int))=true:=by rw[Pd];omega
   have hin:Bd (x:Int) w.length:=Hz (by rw[hw.len];exact hxl)
   by_cases hw0:w.getD x 0=0
   ·have hb0:((w.getD x 0:Int)!=0)=false:=by rw[hw0];rfl
    by_cases hpl:0<=t.getD x 0/\t.getD x 0<(t.length:Int)
    ·have hwf:Bb ((f:Int)+1)=((f+1:Nat):Int):=w1 (by omega)
     have hs:Cy t (f:Int) (r:Int) ((x:Int),w)=some (.next (t.getD x 0,w.set x ((f+1:Nat):Int))):=by
      unfold Cy H0;simp only[hb,Aj,Au,hb0,A0];rw[Ae hin,Ae (Hz hxl),Fu hpl.1,Fu hpl.2,Aj,Ax,E6,A0,Ae hin,Ae (Hz hxl),hwf]
     rw[Aw hs];obtain⟨y,hy⟩:∃ y:Nat,t.getD x 0=(y:Int):=⟨(t.getD x 0).toNat,(N3 hpl.1).symm⟩;rw[hy]at hpl ⊢
     have hyl:y<t.length:=by omega
     have hst:∀ r' k,Tp t y r' k->Tp t x r' (k+1):=fun r' k hk=>.up hxl hy hk
     have hset:∀ z,z<t.length->(w.set x ((f+1:Nat):Int)).getD z 0=if z=x then((f+1:Nat):Int) else w.getD z 0:=fun z _=>getD_set (by rw[hw.len];exact hxl)
     have hW:Walk t r f y (w.set x ((f+1:Nat):Int)):=by
      refine⟨by simp[hw.len],hyl,fun z hzl hz0=>?_,fun r' k hk=>?_,fun r' k hk=>?_⟩
      ·rw[hset z hzl]at hz0 ⊢
       by_cases e:z=x
       ·subst e;rw[if_pos rfl];exact .inr ⟨rfl,fun r' k hk=>⟨k+1,by omega,hst r' k hk⟩⟩
       ·rw[if_neg e]at hz0 ⊢;rcases hw.old z hzl hz0 with h1|⟨h1,h2⟩
        ·exact .inl h1
        ·refine .inr ⟨h1,fun r' k hk=>?_⟩;obtain⟨j,hj1,hj2⟩:=h2 _ _ (hst r' k hk);exact⟨j,by omega,hj2⟩
      ·obtain⟨j,hj1,hj2⟩:=hw.fwd _ _ (hst r' k hk);exact⟨j,by omega,hj2⟩
      ·obtain⟨j,hj⟩:=hw.back _ _ hk
       cases hj with
       | top _ h2=>omega
       | up _ h2 h3=>
        have:=hy.symm.trans h2
        cases Ql this
        exact⟨_,h3⟩
     have hzz:=zeros_set (x:=x) (v:=((f+1:Nat):Int)) (by rw[hw.len];exact hxl) hw0 (by omega);exact ih y _ (by omega) hW
    ·refine .inr ⟨false,w,Aq ?_,hw.len,⟨fun h=>(by cases h),fun _ k hk=>?_⟩⟩
     ·unfold Cy H0;simp only[hb,Aj,Au,hb0,A0];rw[Ae hin,Ae (Hz hxl)]
      have:(bif decide ((0:Int)<=t.getD x 0) then decide (t.getD x 0<(t.length:Int)) else false)=false:=by
       cases h1:decide ((0:Int)<=t.getD x 0) with
       | false=>rfl
       | true=>rw[Aj];exact Gl fun h2=>hpl ⟨Abh h1,h2⟩
      rw[this,Ax]
      rfl
     ·obtain⟨j,hj⟩:=hw.back _ _ hk
      cases hj with
      | top=>exact hxr rfl
      | up _ h2 h3=>have:=h3.lt;exact hpl ⟨by omega,by omega⟩
   ·have hb0:((w.getD x 0:Int)!=0)=true:=by rw[Pd];exact hw0
    have hwf:Bb ((f:Int)+1)=((f+1:Nat):Int):=w1 (by omega);refine .inr ⟨w.getD x 0 !=((f+1:Nat):Int),w,Aq ?_,hw.len,⟨fun h=>?_,fun h k hk=>?_⟩⟩
    ·unfold Cy;simp only[hb,Aj,Au,hb0];rw[Ae hin,Ae hin,hwf]
    ·rcases hw.old x hxl hw0 with⟨_,k,hk⟩|⟨h1,_⟩
     ·exact told k hk
     ·rw[h1]at h;simp at h
    ·have he:w.getD x 0=((f+1:Nat):Int):=by simpa using h
     obtain⟨j,hj⟩:=hw.back _ _ hk;rcases hw.old x hxl hw0 with⟨h1,_⟩|⟨_,h2⟩
     ·omega
     ·obtain⟨i,hi1,hi2⟩:=h2 _ _ hj;have:=hj.det hi2;omega
end
section
variable {t:List Int}
theorem m_leads(ht:t.length<=1000){r:Nat}(hr:r<t.length)(htop:t.getD r 0 = -1){f:Nat}(hf:f<t.length){w:List Int}(hw:V2 t r f w) :
  ∃ b w',Nf t w (f:Int) (r:Int)=some (b,w')/\w'.length=t.length/\(b=true->V2 t r (f+1) w'/\∃ k,Tp t f r k)/\(b=false->∀ k,¬ Tp t f r k):=by
 unfold Nf;have hW:Walk t r f f w:=⟨hw.len,hf,fun y hy h0=>.inl (hw.old y hy h0),fun r' k hk=>⟨k,zzL8 _,hk⟩,fun r' k hk=>⟨k,hk⟩⟩;rcases leads_loop ht hr htop hf _ f w (zzL8 _) hW with⟨w',e1,e2⟩|⟨b,w',e1,e2,e3,e4⟩
 ·exact⟨true,w',by rw[e1];rfl,e2.1.len,fun _=>e2,fun h=>by cases h⟩
 ·exact⟨b,w',by rw[e1];rfl,e2,e3,e4⟩
def AllUp(t:List Int)(r:Nat):Prop:=∀ f,f<t.length->t.getD f 0≠-2->∃ k,Tp t f r k
open Classical in
theorem isTree_loop(ht:t.length<=1000){r:Nat}(hr:r<t.length)(htop:t.getD r 0 = -1):∀(k f:Nat) (w:List Int),f+k=t.length->V2 t r f w->(∀ y,y<f->t.getD y 0≠-2->∃ k,Tp t y r k)->
  An (Eg t (r:Int)) ((f:Int),w)=some (if AllUp t r then .inl () else .inr false):=by
 intro k
 induction k with
 | zero=>
  intro f w hk hw hd
  obtain rfl:f=t.length:=by omega
  apply Aq
  unfold Eg;simp only[I6,A0];rw[if_pos (show AllUp t r from hd)]
 | succ k ih=>
  intro f w hk hw hd
  have hf:f<t.length:=by omega
  by_cases h2:t.getD f 0 = -2
  ·have hb:((t.getD f 0:Int)!=(-2))=false:=by rw[h2];rfl
   have hs:Eg t (r:Int) ((f:Int),w)=some (.next (((f+1:Nat):Int),w)):=by
    unfold Eg;simp only[E8 hf,Aj,Au,hb,show(false==true)=false from rfl,A0,Ax];rw[Ae (Hz hf),Ae (fun h=>by cases h),w1 (by omega)]
   rw[Aw hs];refine ih (f+1) w (by omega) ⟨hw.len,fun y hy h0=>?_⟩ fun y hy hy2=>?_
   ·obtain⟨e1,e2⟩:=hw.old y hy h0;exact⟨by omega,e2⟩
   ·by_cases e:y=f
    ·subst e;exact absurd h2 hy2
    ·exact hd y (by omega) hy2
  ·have hb:((t.getD f 0:Int)!=(-2))=true:=by rw[Pd];exact h2
   obtain⟨b,w',e1,e2,e3,e4⟩:=m_leads ht hr htop hf hw
   cases b with
   | false=>
    rw[if_neg (fun hA:AllUp t r=>by obtain⟨k,hk⟩:=hA f hf h2;exact e4 rfl k hk)]
    apply Aq
    unfold Eg;simp only[E8 hf,Aj,Au,hb,show(true==true)=true from rfl,e1,Ax];rw[Ae (Hz hf),Ae (fun _=>by rw[hw.len,e2])]
    rfl
   | true=>
    have hs:Eg t (r:Int) ((f:Int),w)=some (.next (((f+1:Nat):Int),w')):=by
     unfold Eg;simp only[E8 hf,Aj,Au,hb,show(true==true)=true from rfl,e1,Ax];rw[Ae (Hz hf),Ae (fun _=>by rw[hw.len,e2]),w1 (by omega)]
     rfl
    rw[Aw hs];obtain⟨e5,e6⟩:=e3 rfl;refine ih (f+1) w' (by omega) e5 fun y hy hy2=>?_
    by_cases e:y=f
    ·subst e;exact e6
    ·exact hd y (by omega) hy2
theorem tops_one:Yl t t.length=1↔∃ r,r<t.length/\t.getD r 0 = -1/\∀ x,x<t.length->t.getD x 0 = -1->x=r:=by
 have key:∀ n,(Yl t n=0↔∀ x,x<n->t.getD x 0≠-1)/\(Yl t n=1↔∃ r,r<n/\t.getD r 0 = -1/\∀ x,x<n->t.getD x 0 = -1->x=r):=by
  intro n
  induction n with
  | zero=>exact⟨⟨fun _ x hx=>absurd hx (N5 _),fun _=>rfl⟩,⟨fun h=>by simp[Yl]at h,fun⟨r,h,_⟩=>absurd h (N5 _)⟩⟩
  | succ n ih=>
   rw[topsK_succ]
   by_cases e:t.getD n 0 = -1
   ·rw[if_pos e];refine⟨⟨fun h=>by omega,fun h=>absurd e (h n (by omega))⟩,⟨fun h=>⟨n,by omega,e,fun x hx hx1=>?_⟩,fun⟨r,h1,h2,h3⟩=>?_⟩⟩
    ·by_cases ex:x=n
     ·exact ex
     ·exact absurd hx1 (ih.1.1 (by omega) x (by omega))
    ·have:=ih.1.2 fun x hx hx1=>by
      have:=h3 x (by omega) hx1;have:=h3 n (by omega) e;omega
     omega
   ·rw[if_neg e,Mq];refine⟨⟨fun h x hx=>?_,fun h=>ih.1.2 fun x hx=>h x (by omega)⟩,⟨fun h=>?_,fun⟨r,h1,h2,h3⟩=>?_⟩⟩
    ·by_cases ex:x=n
     ·subst ex;exact e
     ·exact ih.1.1 h x (by omega)
    ·obtain⟨r,h1,h2,h3⟩:=ih.2.1 h;refine⟨r,by omega,h2,fun x hx hx1=>?_⟩
     by_cases ex:x=n
     ·subst ex;exact absurd hx1 e
     ·exact h3 x (by omega) hx1
    ·refine ih.2.2 ⟨r,?_,h2,fun x hx hx1=>h3 x (by omega) hx1⟩
     by_cases ex:r=n
     ·subst ex;exact absurd h2 e
     ·omega
 exact(key _).2
theorem rightD_iff:J2 t=true↔∃ r,r<t.length/\t.getD r 0 = -1/\AllUp t r:=by
 unfold J2;rw[A7,all_range,Gs,tops_one]
 constructor
 ·rintro⟨h1,r,h2,h3,h4⟩;refine⟨r,h2,h3,fun f hf hf2=>?_⟩;have:=h1 f hf;unfold okR at this;rw[U2,Gs,Pg,zzL131]at this;rcases this with h|h
  ·exact absurd h hf2
  ·obtain⟨x,r',k,e,hk⟩:=pathD_tp.1 h
   cases Ql e
   have:=h4 _ hk.tops.1 hk.tops.2;subst this;exact⟨k,hk⟩
 ·rintro⟨r,h2,h3,h4⟩;refine⟨fun f hf=>?_,r,h2,h3,fun x hx hx1=>?_⟩
  ·unfold okR;rw[U2,Gs,Pg,zzL131]
   by_cases e:t.getD f 0 = -2
   ·exact .inl e
   ·obtain⟨k,hk⟩:=h4 f hf e;exact .inr (pathD_tp.2 ⟨f,r,k,rfl,hk⟩)
  ·obtain⟨k,hk⟩:=h4 x hx (by omega);exact((hk.det (.top hx hx1)).1).symm
theorem rightD_at(hR:J2 t=true):∃ r,AllUp t r:=by obtain⟨r,_,_,h⟩:=rightD_iff.1 hR;exact⟨r,h⟩
theorem m_isTree(ht:t.length<=1000):L6 t=some (J2 t):=by
 unfold L6
 have hroom:(1000:Nat)<=room:=by decide
 rcases m_index t (-1) ht with⟨r,h1,h2,h3,h4⟩|⟨h1,h2⟩
 ·rw[h4,Ax,show decide ((r:Int)<0)=false from Gl (by omega),A0,Ae ⟨by omega,by omega,by omega⟩,Au];have hl:=isTree_loop ht h1 h2 t.length 0 (List.replicate t.length 0) (by omega) ⟨by simp,fun y hy h0=>absurd Ni h0⟩ (fun y hy=>absurd hy (N5 _));rw[show(((0:Nat):Int))=0 from rfl]at hl;rw[hl,Ax]
  by_cases hA:AllUp t r
  ·rw[if_pos hA,rightD_iff.2 ⟨r,h1,h2,hA⟩]
  ·rw[if_neg hA]
   have:J2 t=false:=Bool.eq_false_iff.2 fun hR=>by
    obtain⟨r',g1,g2,g3⟩:=rightD_iff.1 hR;obtain⟨k,hk⟩:=g3 r h1 (by omega);have:=(hk.det (.top h1 h2)).1;subst this;exact hA g3
   rw[this]
 ·rw[h2,Ax]
  have:J2 t=false:=Bool.eq_false_iff.2 fun hR=>by
   obtain⟨r',g1,g2,g3⟩:=rightD_iff.1 hR;exact h1 r' g1 g2
  rw[this]
  rfl
def Wy(t:List Int)(a:Int):Bool:=decide (0<=a)&&decide (a<(t.length:Int))&&decide (t.getD a.toNat 0≠-2)
theorem hasB_iff(hR:J2 t=true){a:Int}:Wy t a=true↔∃ x k r:Nat,a=(x:Int)/\Tp t x r k:=by
 unfold Wy;rw[A7,A7,Gs,Gs,Gs]
 constructor
 ·rintro⟨⟨h1,h2⟩,h3⟩;obtain⟨r,hA⟩:=rightD_at hR;obtain⟨k,hk⟩:=hA a.toNat (by omega) h3;exact⟨a.toNat,k,r,(N3 h1).symm,hk⟩
 ·rintro⟨x,k,r,rfl,h⟩;have:=h.lt;refine⟨⟨by omega,by omega⟩,?_⟩;rw[Au]
  cases h with
  | top _ h2=>omega
  | up _ h2 _=>omega
theorem m_hasEntry(a:Int):H8 t a=some (Wy t a):=by
 unfold H8 H0 Wy;rw[Ax]
 cases h1:decide ((0:Int)<=a) with
 | false=>rfl
 | true=>
  rw[Aj,G2]
  cases h2:decide (a<(t.length:Int)) with
  | false=>rfl
  | true=>
   rw[Ae (fun _=>⟨Abh h1,Abh h2⟩),Aj,G2]
   congr 1
   rw[Lr,Pd,Gs]
theorem m_areIn(ht:t.length<=1000)(a b:Int):Nd t a b=some (J2 t&&Wy t a&&Wy t b):=by
 unfold Nd;rw[m_isTree ht,Ax]
 cases J2 t with
 | false=>rfl
 | true=>
  simp only[show(true==true)=true from rfl,Aj,m_hasEntry,Ax,G2]
  cases Wy t a with
  | false=>rfl
  | true=>simp only[show(true==true)=true from rfl,Aj,m_hasEntry,Ax,G2]
theorem meetD_out{a b:Int}(h:(J2 t&&Wy t a&&Wy t b)=false):N1 t a b = -2:=by
 unfold N1
 by_cases hR:J2 t=true
 ·rw[if_pos hR];rw[hR,G2]at h
  have hno:∀ c,Wy t c=false->Io t c=[]:=fun c hc=>by
   by_cases e:Io t c=[]
   ·exact e
   ·obtain⟨x,r,k,e1,e2⟩:=pathD_tp.1 e;rw[(hasB_iff hR).2 ⟨x,k,r,e1,e2⟩]at hc;cases hc
  cases ha:Wy t a with
  | false=>rw[hno a ha];rfl
  | true=>
   rw[ha,G2]at h;rw[hno b h]
   have:((Io t a).find? fun x=>([]:List Int).contains x)=none:=List.find?_eq_none.2 fun x _=>by simp
   rw[this]
   rfl
 ·rw[if_neg hR]
theorem meet_prog_doc(ht:t.length<=1000){a b:Int}(h:(J2 t&&Wy t a&&Wy t b)=true):Lg t a b=some (N1 t a b)/\0<=N1 t a b:=by
 rw[A7,A7]at h;obtain⟨⟨hR,ha⟩,hb⟩:=h;obtain⟨x,k,r,rfl,hx⟩:=(hasB_iff hR).1 ha;obtain⟨y,m,r',rfl,hy⟩:=(hasB_iff hR).1 hb;obtain⟨rr,hA⟩:=rightD_at hR
 have top:∀{x r k},Tp t x r k->r=rr:=fun{x r k} h=>by
  obtain⟨i,hi⟩:=hA r h.tops.1 (by rw[h.tops.2];omega);exact((Tp.top h.tops.1 h.tops.2).det hi).1
 obtain rfl:=top hx;obtain rfl:=top hy;obtain⟨c,h1,h2⟩:=Aav ht hx hy;obtain⟨d,h3,h4⟩:=meetD_at hR hx hy;have:=h2.same hx h4;subst this;exact⟨by rw[h1,h3],by omega⟩
theorem m_Over(ht:t.length<=1000)(a b:Int):Mt t a b=some (Pv t a b):=by
 unfold Mt Pv;rw[m_areIn ht,Ax]
 cases h:(J2 t&&Wy t a&&Wy t b) with
 | false=>
  rw[meetD_out h]
  have:((-2:Int)==a&&((-2:Int)!=-2))=false:=by simp
  rw[this]
  rfl
 | true=>
  obtain⟨h1,h2⟩:=meet_prog_doc ht h;simp only[show(true==true)=true from rfl,Aj,h1,Ax]
  have:(N1 t a b !=-2)=true:=by rw[Pd];omega
  rw[this,zzL143]
end
theorem mul_fin:∀ n:Fin 65,Lc (Ks 1) (Ks ((n.val:Nat):Int))=some (0,((n.val:Nat):Int)):=by decide +kernel
theorem mul_small{n:Nat}(h:n<=64):Lc (Ks 1) (Ks (n:Int))=some (0,(n:Int)):=mul_fin ⟨n,by omega⟩
theorem repeat_loop{v:Int}{n:Nat}(hn:n<=64):∀(m i:Nat) (l:List Int),n-i<=m->1<=i->i<=n->l.length=n->(∀ j,j<i->l.getD j 0=v)->An B9 ((i:Int),l)=some (List.replicate n v):=by
 intro m
 induction m with
 | zero=>
  intro i l hm h1 h2 hl hv
  obtain rfl:i=n:=by omega
  exact fin l hl hv
 | succ m ih=>
  intro i l hm h1 h2 hl hv
  by_cases e:i=n
  ·subst e;exact fin l hl hv
  ·have hs:B9 ((i:Int),l)=some (.next (((i+Nat.min i (n-i):Nat):Int),cpL l i (Nat.min i (n-i)) (fun j=>l.getD (0+j) 0))):=by
    unfold B9;simp only[hl,E8 (show i<n by omega),Aj,Au,Fl,Uy];have hc:(0:Int)<=(i:Int)/\i<=n:=⟨by omega,h2⟩;have hmn:Nat.min i (n-i)<=i:=Nat.min_le_left _ _;rw[Ae hc,Ae hc,Jg (by omega) (by omega),Int.natCast_add]
   rw[Aw hs];have hmn:Nat.min i (n-i)<=i/\Nat.min i (n-i)<=n-i:=⟨Nat.min_le_left _ _,Nat.min_le_right _ _⟩;have hge:1<=Nat.min i (n-i):=Nat.le_min.2 ⟨h1,by omega⟩;refine ih _ _ (by omega) (by omega) (by omega) (by rw[<- G5];exact hl) fun j hj=>?_;rw[cpL_getD _ _ _ _ _ _ (by omega)]
   by_cases hji:i<=j/\j<i+Nat.min i (n-i)
   ·rw[if_pos hji,Fl];exact hv _ (by omega)
   ·rw[if_neg hji];exact hv _ (by omega)
where
 fin {v:Int} {i:Nat} (l:List Int) (hl:l.length=i) (hv:∀ j,j<i->l.getD j 0=v):An B9 ((i:Int),l)=some (List.replicate i v):=by
  apply Aq
  unfold B9;simp only[hl,I6,A0]
  congr 2
  refine Xh (by simp[hl]) fun j h1 h2=>?_;rw[<- Ag _ _ 0 h1,hv j (by omega)]
  simp
theorem m_repeat{v:Int}{n:Nat}(h1:1<=n)(hn:n<=64):Ex [v] (n:Int)=some (List.replicate n v):=by
 have hroom:(64:Nat)<=room:=by decide
 unfold Ex;rw[show decide ((n:Int)<0)=false from Gl (by omega),A0,Ax]
 show Option.bind (Lc (Ks 1) (Ks (n:Int))) _=_
 rw[mul_small hn,Ax];have e1:decide ((0:Int)<(0:Int))=false:=rfl;have e2:decide ((9223372036854775807:Int)<(n:Int))=false:=Gl (by omega);simp only[e1,e2,A0,Ax];have ew:Bb (n:Int)=(n:Int):=Jg (by omega) (by omega);rw[ew,Ae ⟨by omega,by omega,by omega⟩,Au,Pf,Uy];have em:Nat.min [v].length n=1:=Nat.min_eq_left h1;rw[em,repeat_loop hn n 1 _ (by omega) (zzL8 _) h1 (by rw[<- G5];simp) (fun j hj=>?_)]
 ·rfl
 ·rw[cpL_getD _ _ _ _ _ _ (by simp;omega),if_pos ⟨by omega,by omega⟩]
  have:j-0=0:=by omega
  rw[this];rfl
section
variable {S:Nat->List Nat} {r n:Nat} {P:List Nat}
theorem Inv.tp{at_:Nat->Nat}{t:List Int}(h:Inv S r n at_ (Bf t))(hl:t.length=n):∀ m x,at_ x<=m->x<n->Bf t x≠-2->∃ k,Tp t x r k:=by
 intro m
 induction m with
 | zero=>
  intro x hm hx hp;rcases h.kind x hx with h1|h1|⟨z,hz⟩
  ·exact absurd h1 hp
  ·subst h1;exact⟨0,.top (by omega) h.top⟩
  ·obtain⟨_,_,h3,_⟩:=h.up x hx z hz;omega
 | succ m ih=>
  intro x hm hx hp;rcases h.kind x hx with h1|h1|⟨z,hz⟩
  ·exact absurd h1 hp
  ·subst h1;exact⟨0,.top (by omega) h.top⟩
  ·obtain⟨z1,z2,z3,_⟩:=h.up x hx z hz;obtain⟨k,hk⟩:=ih z (by omega) z1 z2;exact⟨k+1,.up (by omega) hz hk⟩
def Xj(t l:List Int)(i:Nat)(v:Int):Prop:=
 (v = -2/\∀ j,j<i->Bf t (l.getD j 0).toNat = -2) \/
 ∃ z:Nat,v=(z:Int)/\z<t.length/\Bf t z≠-2/\(∀ w,UpTo (Bf t) z w↔∀ j,j<i->Bf t (l.getD j 0).toNat≠-2->UpTo (Bf t) (l.getD j 0).toNat w)
theorem meetAll_loop{at_:Nat->Nat}{t l:List Int}(ht:t.length<=64)(hll:l.length<=64)(h:Inv S r n at_ (Bf t))(hl:t.length=n)(hin:∀ x∈l,0<=x/\x<(n:Int)):∀(k i:Nat) (v:Int),i+k=l.length->Xj t l i v->
  ∃ v',An (Dz t l) (v,(i:Int))=some v'/\Xj t l l.length v':=by
 intro k
 induction k with
 | zero=>
  intro i v hi hv
  obtain rfl:i=l.length:=by omega
  refine⟨v,Aq ?_,hv⟩;unfold Dz;simp only[I6,A0]
 | succ k ih=>
  intro i v hi hv
  have hil:i<l.length:=by omega
  obtain⟨x0,x1⟩:=hin _ (A8 (d:=0) hil);have hxe:(((l.getD i 0).toNat:Nat):Int)=l.getD i 0:=N3 x0;have hxin:Bd (l.getD i 0) t.length:=inbz x0 (by omega)
  have next:∀ v',Dz t l (v,(i:Int))=some (.next (v',((i+1:Nat):Int)))->Xj t l (i+1) v'->∃ v',An (Dz t l) (v,(i:Int))=some v'/\Xj t l l.length v':=fun v' hs hv'=>by
   rw[Aw hs];exact ih (i+1) v' (by omega) hv'
  by_cases hp:Bf t (l.getD i 0).toNat = -2
  ·have hb:((t.getD (l.getD i 0).toNat 0:Int)==-2)=true:=zzL59.2 hp;refine next v ?_ ?_
   ·unfold Dz;simp only[E8 hil,Aj,Au,hb];rw[Ae (Hz hil),Ae hxin,Ax,w1 (by omega)]
   ·have hstep:∀ w,(∀ j,j<i->Bf t (l.getD j 0).toNat≠-2->UpTo (Bf t) (l.getD j 0).toNat w)↔∀ j,j<i+1->Bf t (l.getD j 0).toNat≠-2->UpTo (Bf t) (l.getD j 0).toNat w:=fun w=>by
     refine⟨fun hj j hj1 hj2=>?_,fun hj j hj1=>hj j (by omega)⟩
     by_cases e:j=i
     ·subst e;exact absurd hp hj2
     ·exact hj j (by omega) hj2
    rcases hv with⟨h1,h2⟩|⟨z,h1,h2,h3,h4⟩
    ·refine .inl ⟨h1,fun j hj=>?_⟩
     by_cases e:j=i
     ·subst e;exact hp
     ·exact h2 j (by omega)
    ·exact .inr ⟨z,h1,h2,h3,fun w=>by rw[h4 w,hstep w]⟩
  ·have hb:((t.getD (l.getD i 0).toNat 0:Int)==-2)=false:=zzL37.2 hp;rcases hv with⟨h1,h2⟩|⟨z,h1,h2,h3,h4⟩
   ·subst h1;refine next (l.getD i 0) ?_ (.inr ⟨(l.getD i 0).toNat,hxe.symm,by omega,hp,fun w=>⟨fun hw j hj hj2=>?_,fun hw=>hw i (by omega) hp⟩⟩)
    ·unfold Dz;simp only[E8 hil,Aj,Au,hb,A0,show((-2:Int)==-2)=true from rfl];rw[Ae (Hz hil),Ae hxin,Ax,w1 (by omega)]
    ·by_cases e:j=i
     ·subst e;exact hw
     ·exact absurd (h2 j (by omega)) hj2
   ·subst h1;have hb2:((z:Int)==-2)=false:=zzL37.2 (by omega);obtain⟨k1,hk1⟩:=h.tp hl _ z (zzL8 _) (by omega) h3;obtain⟨k2,hk2⟩:=h.tp hl _ (l.getD i 0).toNat (zzL8 _) (by omega) hp;obtain⟨c,c1,c2⟩:=Aav (by omega) hk1 hk2;have hcz:=(c2 c).1 (.refl _);obtain⟨jc,_,hjc,_⟩:=hk1.on hcz.1
    have hcp:Bf t c≠-2:=by
     show t.getD c 0≠-2
     cases hjc with
     | top _ h=>omega
     | up _ h _=>omega
    refine next (c:Int) ?_ (.inr ⟨c,rfl,hjc.lt,hcp,fun w=>?_⟩)
    ·rw[hxe]at c1;unfold Dz;simp only[E8 hil,Aj,Au,hb,A0,hb2,c1,Ax];rw[Ae (Hz hil),Ae hxin,Ax,w1 (by omega)]
    ·rw[c2 w,h4 w];refine⟨fun⟨a1,a2⟩ j hj hj2=>?_,fun ha=>⟨fun j hj=>ha j (by omega),ha i (by omega) hp⟩⟩
     by_cases e:j=i
     ·subst e;exact a2
     ·exact a1 j (by omega) hj2
theorem m_meetAll{at_:Nat->Nat}{t l:List Int}(ht:t.length<=64)(hll:l.length<=64)(h:Inv S r n at_ (Bf t))(hl:t.length=n)(hin:∀ x∈l,0<=x/\x<(n:Int)) :
  ∃ v,H1 t l=some v/\Xj t l l.length v:=by
 obtain⟨v,h1,h2⟩:=meetAll_loop ht hll h hl hin l.length 0 (-2) (by omega) (.inl ⟨rfl,fun j hj=>absurd hj (N5 _)⟩);refine⟨v,?_,h2⟩;unfold H1;rw[show((0:Int))=((0:Nat):Int) from rfl,h1]
 rfl
end
section
variable {L:List (List Int)} (hm:G4 L=true) {r:Nat} {P:List Nat}
include hm
theorem sN_iff{p y:Nat}(hp:p<L.length):y∈sN L p↔T3 L p y=true:=by
 rw[goes_iff];obtain⟨_,_,h3⟩:=mayS_iff.1 hm
 constructor
 ·intro h;obtain⟨x,hx,rfl⟩:=zzL19.1 h;have:=R7 (h3 p hp) hx;rw[N3 this.1];exact hx
 ·intro h;exact zzL19.2 ⟨_,h,Au y⟩
theorem Yd{y:Nat}(hy:y<L.length){x:Int}:x∈(A4 L).getD y []↔∃ p:Nat,x=(p:Int)/\p<L.length/\y∈sN L p:=by
 rw[Mw hy];unfold Ix;rw[mem_filt]
 constructor
 ·rintro⟨k,h1,h2,h3⟩;exact⟨k,h1,h2,(sN_iff hm h2).2 h3⟩
 ·rintro⟨k,h1,h2,h3⟩;exact⟨k,h1,h2,(sN_iff hm h2).1 h3⟩
theorem meetAll_best(o:Ordered (sN L) r L.length P){t:List Int}{i:Nat}(h:Ready (sN L) r L.length P t i)(hi:i<P.length) :
  H1 t ((A4 L).getD (P.getD i 0) [])=some (K9 (sN L) L.length t (P.getD i 0):Int):=by
 obtain⟨hL1,hL64,_⟩:=mayS_iff.1 hm;have hyn:P.getD i 0<L.length:=o.lt (zzL15 _ (Ol hi))
 have hlen:((A4 L).getD (P.getD i 0) []).length<=64:=by
  rw[Mw hyn];have:=W6 L L.length (P.getD i 0);omega
 obtain⟨v,h1,h2⟩:=m_meetAll (by rw[h.len];exact hL64) hlen h.inv h.len fun x hx=>by
  obtain⟨p,rfl,hp,_⟩:=(Yd hm hyn).1 hx;omega
 rw[h1];have hb:=h.best o hi
 have mem:∀ p,p<L.length->P.getD i 0∈sN L p->∃ j,j<((A4 L).getD (P.getD i 0) []).length/\(((A4 L).getD (P.getD i 0) []).getD j 0).toNat=p:=fun p hp hy=>by
  obtain⟨j,hj,e⟩:=Rb ((Yd hm hyn).2 ⟨p,rfl,hp,hy⟩);exact⟨j,hj,by rw[Ag _ _ _ hj,e,Au]⟩
 have mem':∀ j,j<((A4 L).getD (P.getD i 0) []).length->(((A4 L).getD (P.getD i 0) []).getD j 0).toNat<L.length/\P.getD i 0∈sN L (((A4 L).getD (P.getD i 0) []).getD j 0).toNat:=fun j hj=>by
  obtain⟨p,e,hp,hy⟩:=(Yd hm hyn).1 (A8 (d:=(0:Int)) hj);rw[e,Au];exact⟨hp,hy⟩
 rcases h2 with⟨rfl,h3⟩|⟨z,rfl,hz,hz2,h4⟩
 ·obtain⟨p,hp,hyp,hp2,_⟩:=hb.fwd;obtain⟨j,hj,e⟩:=mem p hp hyp;exact absurd (by rw[<- e];exact h3 j hj) hp2
 ·have hbest:Best (sN L) L.length (Bf t) (P.getD i 0) z:=fun w=>by
   rw[h4 w];refine⟨fun ha p hp hyp hp2=>?_,fun ha j hj hj2=>?_⟩
   ·obtain⟨j,hj,e⟩:=mem p hp hyp;have:=ha j hj (by rw[e];exact hp2);rwa[e]at this
   ·obtain⟨q1,q2⟩:=mem' j hj;exact ha _ q1 q2 hj2
  rw[h.best_eq o hi (by rw[<- h.len];exact hz) hz2 hbest]
end
theorem ofN_getD{P:List Nat}{i:Nat}(h:i<P.length):(Ob P).getD i 0=((P.getD i 0:Nat):Int):=by
 unfold Ob;rw[Ag _ _ _ (by simpa using h),Ag _ _ _ h,List.getElem_map]
 rfl
theorem set_same{t:List Int}{x:Nat}{v:Int}(hx:x<t.length)(h:t.getD x 0=v):t.set x v=t:=by
 subst h;rw[Ag _ _ _ hx];exact List.set_getElem_self hx
section
variable {L:List (List Int)} (hm:G4 L=true) {r:Nat} {P:List Nat} (o:Ordered (sN L) r L.length P)
include hm o
theorem round_loop{t0:List Int}(h:Ready (sN L) r L.length P t0 0):∀(k i:Nat) (b:Bool),i+k=P.length->
  ∃ b',An (Dt (H3 L) (Ob (r::P))) (b,(i:Int),Tm (sN L) L.length P t0 i)=some (b',Tm (sN L) L.length P t0 P.length) /\
   (b'=false↔b=false/\∀ j,i<=j->j<P.length->Bf (Tm (sN L) L.length P t0 j) (P.getD j 0)=(K9 (sN L) L.length (Tm (sN L) L.length P t0 j) (P.getD j 0):Int)):=by
 have hP64:P.length<=64:=by
  have h1:=Ln L.length (r::P) o.nodup fun x hx=>o.lt hx;have h2:=(mayS_iff.1 hm).2.1;simp at h1;omega
 have hdl:(Ob (r::P)).drop (1:Int).toNat=Ob P:=rfl
 have hlen:(Ob P).length=P.length:=by simp[Ob]
 intro k
 induction k with
 | zero=>
  intro i b hi
  obtain rfl:i=P.length:=by omega
  refine⟨b,Aq ?_,fun h=>⟨h,fun j h1 h2=>by omega⟩,fun h=>h.1⟩;unfold Dt;simp only[hdl,hlen,I6,A0]
 | succ k ih=>
  intro i b hi
  have hil:i<P.length:=by omega
  have rd:=h.round o i (by omega);have hma:=meetAll_best hm o rd hil;have hyn:P.getD i 0<L.length:=o.lt (zzL15 _ (Ol hil))
  have hyt:P.getD i 0<(Tm (sN L) L.length P t0 i).length:=by rw[rd.len];exact hyn
  have hpred:(H3 L).Pred=A4 L:=rfl
  by_cases he:Bf (Tm (sN L) L.length P t0 i) (P.getD i 0)=(K9 (sN L) L.length (Tm (sN L) L.length P t0 i) (P.getD i 0):Int)
  ·have hb:((K9 (sN L) L.length (Tm (sN L) L.length P t0 i) (P.getD i 0):Int)!=(Tm (sN L) L.length P t0 i).getD (P.getD i 0) 0)=false:=by
    have:(Tm (sN L) L.length P t0 i).getD (P.getD i 0) 0=_:=he;rw[this];simp
   have hnx:Tm (sN L) L.length P t0 (i+1)=Tm (sN L) L.length P t0 i:=set_same hyt he
   have hs:Dt (H3 L) (Ob (r::P)) (b,(i:Int),Tm (sN L) L.length P t0 i)=some (.next (b,((i+1:Nat):Int),Tm (sN L) L.length P t0 (i+1))):=by
    unfold Dt;simp only[hdl,hlen,E8 hil,Aj,Au,ofN_getD hil,hpred,hma,Ax,hb,A0];rw[Ae (Hz hil),Ae (Hz (by rw[Dj];exact hyn)),Ae (Hz hyt),Ax,w1 (by omega),hnx]
   obtain⟨b',e1,e2⟩:=ih (i+1) b (by omega);refine⟨b',by rw[Aw hs,e1],fun h=>?_,fun⟨h1,h2⟩=>e2.2 ⟨h1,fun j hj=>h2 j (by omega)⟩⟩;obtain⟨h1,h2⟩:=e2.1 h;refine⟨h1,fun j hj1 hj2=>?_⟩
   by_cases e:j=i
   ·subst e;exact he
   ·exact h2 j (by omega) hj2
  ·have hb:((K9 (sN L) L.length (Tm (sN L) L.length P t0 i) (P.getD i 0):Int)!=(Tm (sN L) L.length P t0 i).getD (P.getD i 0) 0)=true:=by
    rw[Pd];exact fun e=>he e.symm
   have hs:Dt (H3 L) (Ob (r::P)) (b,(i:Int),Tm (sN L) L.length P t0 i)=some (.next (true,((i+1:Nat):Int),Tm (sN L) L.length P t0 (i+1))):=by
    unfold Dt;simp only[hdl,hlen,E8 hil,Aj,Au,ofN_getD hil,hpred,hma,Ax,hb];rw[Ae (Hz hil),Ae (Hz (by rw[Dj];exact hyn)),Ae (Hz hyt),Ae (Hz hyt),Ax,w1 (by omega)]
    rfl
   obtain⟨b',e1,e2⟩:=ih (i+1) true (by omega);refine⟨b',by rw[Aw hs,e1],fun h=>?_,fun⟨h1,h2⟩=>absurd (h2 i (zzL8 _) hil) he⟩;obtain⟨h1,_⟩:=e2.1 h;cases h1
theorem round_all{t0:List Int}(h:Ready (sN L) r L.length P t0 0):∃ b,An (Dt (H3 L) (Ob (r::P))) (false,(0:Int),t0)=some (b,Tm (sN L) L.length P t0 P.length)/\(b=false↔Su (sN L) L.length P t0):=by
 obtain⟨b,e1,e2⟩:=round_loop hm o h P.length 0 false (by omega);refine⟨b,e1,e2.trans ⟨fun⟨_,h2⟩=>?_,fun hs=>⟨rfl,fun j _ hj=>?_⟩⟩⟩
 ·have key:∀ j,j<=P.length->Tm (sN L) L.length P t0 j=t0:=by
   intro j
   induction j with
   | zero=>intro _;rfl
   | succ j ih=>
    intro hj;have ih':=ih (by omega);have rd:=h.round o j (by omega)
    have hyn:P.getD j 0<(Tm (sN L) L.length P t0 j).length:=by rw[rd.len];exact o.lt (zzL15 _ (Ol (by omega)))
    have:Tm (sN L) L.length P t0 (j+1)=Tm (sN L) L.length P t0 j:=set_same hyn (h2 j (N7 _) (by omega));rw[this,ih']
  intro i hi;have:=h2 i (N7 _) hi;rwa[key i (by omega)]at this
 ·rw[Up o h.len hs j (by omega)];exact hs j hj
open Classical in
theorem tree_F3(j:Nat):Ey (H3 L) (Ob (r::P),rnR (sN L) L.length P (Ft L.length r) j)=some (if Su (sN L) L.length P (rnR (sN L) L.length P (Ft L.length r) j) then .done (rnR (sN L) L.length P (Ft L.length r) (j+1)) else .next (Ob (r::P),rnR (sN L) L.length P (Ft L.length r) (j+1))):=by
 obtain⟨b,e1,e2⟩:=round_all hm o (Ready.rounds o j);have hL2:M5 (H3 L) (Ob (r::P))=Dt (H3 L) (Ob (r::P)):=rfl
 have hlen:(0:Int)<=1/\(1:Int)<=((Ob (r::P)).length:Int):=by simp[Ob];omega
 unfold Ey;simp only[hL2,e1,Ax];rw[Ae hlen]
 cases b with
 | false=>rw[if_pos (e2.1 rfl)];rfl
 | true=>rw[if_neg (fun h=>by have:=e2.2 h;cases this)];rfl
theorem tree_rounds:∃ J,Su (sN L) L.length P (rnR (sN L) L.length P (Ft L.length r) J)/\An (Ey (H3 L)) (Ob (r::P),Ft L.length r)=some (rnR (sN L) L.length P (Ft L.length r) J):=by
 obtain⟨J,h1,h2⟩:=stops o;refine⟨J,h2,?_⟩
 have key:∀ d j,j+d=J->An (Ey (H3 L)) (Ob (r::P),rnR (sN L) L.length P (Ft L.length r) j)=some (rnR (sN L) L.length P (Ft L.length r) J):=by
  intro d
  induction d with
  | zero=>
   intro j hj
   obtain rfl:j=J:=by omega
   have hF:=tree_F3 hm o j;rw[if_pos h2]at hF;rw[Aq hF];have:rnR (sN L) L.length P (Ft L.length r) (j+1)=rnR (sN L) L.length P (Ft L.length r) j:=Up o (Ready.rounds o j).len h2 P.length (zzL8 _);rw[this]
  | succ d ih=>
   intro j hj;have hF:=tree_F3 hm o j;rw[if_neg (h1 j (by omega))]at hF;rw[Aw hF];exact ih (j+1) (by omega)
 exact key J 0 (by omega)
end
theorem m_Tree(g:Ap)(r:Int)(h1:Fits g.Succ)(h2:Fits g.Pred):Ld g r=some (treeG g r):=by
 unfold treeG
 by_cases hc:Ma g=true/\0<=r/\r<(g.Succ.length:Int)
 ·rw[if_pos hc];obtain⟨hG,h0,hlt⟩:=hc;obtain⟨hm,hg⟩:=mayG_eq hG;obtain⟨hL1,hL64,_⟩:=mayS_iff.1 hm
  have hr:r.toNat<g.Succ.length:=by omega
  have hrn:((r.toNat:Nat):Int)=r:=N3 h0;obtain⟨O,hO⟩:=Ord.exist (Nk hm) hr;have hord:=(m_order g h1 trivial r).1 hG h0 hlt O hO;obtain⟨P,rfl,o⟩:=hO.ordered hr (Nk hm);obtain⟨J,hJ,hl⟩:=tree_rounds hm o;have ht:=(Aba o hJ).eq hm hr o;rw[ht]at hl;have hlen:(((Ob (r.toNat::P)).length:Int)==0)=false:=zzL37.2 (by simp[Ob];omega)
  have hlen2:(0:Int)<=1/\(1:Int)<=((Ob (r.toNat::P)).length:Int):=by simp[Ob];omega
  have hL2:M5 g (Ob (r.toNat::P))=Dt g (Ob (r.toNat::P)):=rfl
  have hst:(My (Ey g (Ob (r.toNat::P),Ft g.Succ.length r.toNat)) (Ey g))=some (Wf g.Succ r.toNat):=by
   rw[Un,hg];exact hl
  unfold Ld;rw[hord,Ax,hlen,A0,m_repeat hL1 hL64,Ax,Ae (inbz h0 (by simpa using hlt)),Ae hlen2]
  have:(Ey g (Ob (r.toNat::P),Ft g.Succ.length r.toNat))=(An (Dt g (Ob (r.toNat::P))) (false,0,(List.replicate g.Succ.length (-2:Int)).set r.toNat (-1))).bind (fun x22=>(match x22 with|(b10,l11)=>(bif b10 then(some (.next (Ob (r.toNat::P),l11))) else(some (.done l11))))):=by
   unfold Ey Ft;simp only[hL2];rw[Ae hlen2]
  rw[this]at hst;refine Eq.trans ?_ (Bq (fun x:Option (List Int)=>x.bind fun x42=>some x42) hst)
  rfl
 ·rw[if_neg hc];unfold Ld
  have:(Ma g&&(decide (0<=r)&&decide (r<(g.Succ.length:Int))))=false:=by
   rw[Bool.eq_false_iff];intro h;rw[A7,A7,Gs,Gs]at h;exact hc h
  rw[(m_order g h1 trivial r).2 this,Ax]
  rfl
theorem allR{α:Type}(l:List α)(d:α)(p:α->Bool){X:Type}(f:Int->Option (LR Int X))(yes no:X)(hl:l.length<9223372036854775808)(hk:∀ i:Nat,i<l.length->f i=some (bif p (l.getD i d) then .next (Bb ((i:Int)+1)) else .done no))
  (he:f l.length=some (.done yes)):An f (0:Int)=some (bif l.all p then yes else no):=by
 have:=T7 l d p f yes no (fun i hi hp=>by rw[hk i hi,hp,Aj,Fk hi hl]) (fun i hi hp=>by rw[hk i hi,hp,A0]) he l.length 0 (by omega);rwa[N6]at this
theorem c_told(f:TFunc)(hf:InF f)(l:Int)(t:List Int)(u:List Ao):F6 f l t u=some (bif Tf f then 0 else 4,f,l,t,u):=by
 unfold F6 H6;rw[xmay f hf,Ax]
 cases Tf f<;>rfl
theorem c_phisFit(phis:List Hg)(l:List Int)(h1:phis.length<9223372036854775808)(h2:l.length<4611686018427387904):I8 phis l=some (phis.all (Ie l)):=by
 unfold I8
 rw[allR phis (default:Hg) (Ie l) (G8 phis l) (.inl ()) (.inr false) h1 (fun i hi=>by
  unfold G8
  have hd:decide ((i:Int)<(phis.length:Int))=true:=by simpa using hi
  simp only[hd,Aj,Am (A5 hi),Dw,m_equal _ _ h2,Ax,Ie]
  cases decide ((phis.getD i default).From=l) with
  | false=>rfl
  | true=>
   simp only[E6,A0,G2,bne]
   cases(((phis.getD i default).Args.length:Int)==(l.length:Int))<;>rfl) (by unfold G8;simp),Ax]
 cases phis.all (Ie l)<;>rfl
def argF(e:I4):Bool:=!((e.Kind==1 || e.Kind==3)&&(e.Arg !=0))
theorem c_argFits{n:Nat}(e:I4)(hk:N0 e n=true):Hn e=some (argF e):=by
 have h4:0<=e.Kind/\e.Kind<=3:=by
  have:=(A7 _ _▸hk:kindB e=true/\toB n e.To=true).1;unfold kindB at this;simp only[A7,Gs]at this;omega
 unfold Hn argF
 have:e.Kind=0\/e.Kind=1\/e.Kind=2\/e.Kind=3:=by omega
 rcases this with h|h|h|h<;>rw[h]<;>cases hb:(e.Arg==0)<;>simp[hb,bne]
theorem order_full{L:List (List Int)}(hm:G4 L=true){P:List Nat}(h0:0<L.length)(o:Ord (sN L) 0 P):decide (P.length<L.length) = !(List.range L.length).all fun i=>(Sh L).getD i false:=by
 have hin:∀ x∈P,x<L.length:=fun x hx=>(by obtain⟨Q,rfl,oo⟩:=o.ordered h0 (Nk hm);exact oo.lt hx)
 have hr:∀ z,(Sh L).getD z false=true↔z∈P:=fun z=>by
  rw[o.mem z];exact Ug (Nk hm) h0 z
 have hle:=Ln L.length P o.nodup hin
 cases ha:(List.range L.length).all fun i=>(Sh L).getD i false with
 | true=>
  have:=((List.perm_ext_iff_of_nodup o.nodup List.nodup_range).2 fun i=>⟨fun h=>zzL43.2 (hin i h),fun h=>(hr i).1 (zzL33.1 ha i h)⟩:P.Perm (List.range L.length)).length_eq;rw[Aae]at this
  simp;omega
 | false=>
  obtain⟨i,hi,hni⟩:∃ i,i<L.length/\i∉P:=zzL108 fun hc=>by
   have:(List.range L.length).all (fun i=>(Sh L).getD i false)=true:=zzL33.2 fun i hi=>(hr i).2 (zzL108 fun hn=>hc ⟨i,by simpa using hi,hn⟩);rw[this]at ha;cases ha
  have:(i::P).length<=L.length:=Ln L.length (i::P) (zzL97.2 ⟨hni,o.nodup⟩) (fun x hx=>by rcases zzL28.1 hx with rfl|hx;exact hi;exact hin x hx);simp at this ⊢;omega
theorem c_shaped {f : TFunc} (hf : OkF f) (l : Int) (t : List Int) (u : List Ao) : ∃ t', E1 f l t u = some (bif Gw f then 0 else 5, f, l, t', u) ∧ (Gw f = true → t' = Db f) := by
  have hmax : f.Blocks.length ≤ maxLen := by have := hf.blocks; have : (64 : Nat) ≤ maxLen := by decide
                                             omega
  unfold E1; rw [m_of f hmax, Ax]
  cases hs : Mi f with
  | false => exact ⟨t, by unfold Gw; rw [hs]; rfl, fun h => by unfold Gw at h; rw [hs] at h; cases h⟩
  | true =>
    have hm := O8 hs; have hlen := Mf f
    have hpos : 0 < (rowsF f).length := by have := (shape_iff.1 hs).1.1; omega
    obtain ⟨h1, h2⟩ := Kv hm; obtain ⟨P, hP⟩ := Ord.exist (Nk hm) hpos; have ho := (m_order (H3 (rowsF f)) h1 trivial 0).1 (Mb hm) (by omega) (by show (0 : Int) < ((rowsF f).length : Int); omega) P hP; have hfull := order_full hm hpos hP; simp only [Aj, show (((0 : Int) != 0) == false) = true from rfl, show ((0 : Int) != 0) = false from rfl, A0, ho, Ax, show (false == false) = true from rfl]
    have e1 : decide (((Ob P).length : Int) < (f.Blocks.length : Int)) = decide (P.length < (rowsF f).length) := by
      rw [hlen]; apply zzL113.2; simp [Ob]
    rw [e1, hfull]
    have hsd : Gw f = (((List.range f.Blocks.length).all fun i => (Sh (rowsF f)).getD i false) && (List.range f.Blocks.length).all fun i => argF (f.Blocks.getD i default).End && (f.Blocks.getD i default).Phis.all (Ie ((A4 (rowsF f)).getD i []))) := by
      unfold Gw; rw [hs, G2]
      have : ∀ (n : Nat) (p q : Nat → Bool), ((List.range n).all fun i => p i && q i) = ((List.range n).all p && (List.range n).all q) := fun n p q => by
        rw [Lr, A7, zzL33, zzL33, zzL33]
        constructor
        · intro h; exact ⟨fun x hx => ((A7 _ _).mp (h x hx)).1, fun x hx => ((A7 _ _).mp (h x hx)).2⟩
        · intro h x hx; rw [A7]; exact ⟨h.1 x hx, h.2 x hx⟩
      rw [← this]
      congr 1
      funext i
      show (_ && _ && _) = _
      rw [Bool.and_assoc]
      rfl
    rw [hlen]; rw [hsd]
    cases hr : (List.range f.Blocks.length).all fun i => (Sh (rowsF f)).getD i false with
    | false => exact ⟨t, rfl, fun h => by cases h⟩
    | true =>
      refine ⟨Db f, ?_, fun _ => rfl⟩; rw [E6, A0, m_Tree _ 0 h1 h2, Ax, G2]; have hp := Of hm
      have hpl : (H3 (rowsF f)).Pred.length = f.Blocks.length := by rw [← hlen]; exact Dj _
      have key : An (Cd f l u (H3 (rowsF f), 0) (Db f)) (0 : Int) = some (bif (List.range f.Blocks.length).all (fun i => argF (f.Blocks.getD i default).End && (f.Blocks.getD i default).Phis.all (Ie ((A4 (rowsF f)).getD i []))) then .inl () else .inr ((5 : Int), f, l, Db f, u)) := by
        have hk : ∀ i : Nat, i < f.Blocks.length → Cd f l u (H3 (rowsF f), 0) (Db f) (i : Int) = some (bif (argF (f.Blocks.getD i default).End && (f.Blocks.getD i default).Phis.all (Ie ((A4 (rowsF f)).getD i []))) then .next ((i : Int) + 1) else .done (.inr ((5 : Int), f, l, Db f, u))) := fun i hi => by
          have hB := hf.block _ (A8 (d := (default : Ad)) hi); have hpi : Bd (i : Int) (H3 (rowsF f)).Pred.length := A5 (by omega); have hpg : ((H3 (rowsF f)).Pred.getD i []).length ≤ 64 := hp.2 _ (A8 (by rw [Dj]; omega)); unfold Cd
          have hd : decide ((i : Int) < (f.Blocks.length : Int)) = true := by simpa using hi
          simp only [hd, Aj, Am (A5 hi), Am hpi, Dw, c_phisFit (f.Blocks.getD i default).Phis ((H3 (rowsF f)).Pred.getD i []) (by have := hB.phis; omega) (by omega), Ax]; have ha : Hn (⟨(f.Blocks.getD i default).End.Kind, (f.Blocks.getD i default).End.Arg, (f.Blocks.getD i default).End.To⟩ : I4) = some (argF (f.Blocks.getD i default).End) := c_argFits (n := f.Blocks.length) (f.Blocks.getD i default).End ((shape_iff.1 hs).2 i hi); rw [ha, Fk hi (by have := hf.blocks; omega)]
          show _ = some (bif (argF (f.Blocks.getD i default).End && (f.Blocks.getD i default).Phis.all (Ie ((H3 (rowsF f)).Pred.getD i []))) then _ else _)
          cases (f.Blocks.getD i default).Phis.all (Ie ((H3 (rowsF f)).Pred.getD i [])) <;> cases argF (f.Blocks.getD i default).End <;> rfl
        exact loop_allN _ _ _ _ _ (fun i hi hp => by rw [hk i hi, hp]; rfl) (fun i hi hp => by rw [hk i hi, hp]; rfl) (by unfold Cd; simp)
      show ((An (Cd f l u (H3 (rowsF f), 0) (Db f)) (0 : Int)).bind _) = _
      rw [key, Ax]
      cases (List.range f.Blocks.length).all (fun i => argF (f.Blocks.getD i default).End && (f.Blocks.getD i default).Phis.all (Ie ((A4 (rowsF f)).getD i []))) <;> rfl
theorem c_isOf(o:E7)(l:Int)(h0:0<=l)(h2:l<=2)(hk:Mo o=true):L5 o l=some (!decide (levMost l<o.Kind)&&!(decide (l<2)&&decide (1<o.Lanes))):=by
 have hl:=lanes_of hk
 have hK:o.Kind<=22:=by
  simp only[Mo,A7]at hk;have:=hk.1.2.1.1.1;unfold isK at this;simp only[A7,Gs]at this;omega
 unfold L5 levMost
 have:l=0\/l=1\/l=2:=by omega
 rcases this with rfl|rfl|rfl
 ·have ha:decide (o.Kind<=17) = !decide (17<o.Kind):=by rw[Lr];simp
  have hb:(o.Lanes==1) = !decide (1<o.Lanes):=by rw[Lr];simp;omega
  show some (bif decide (o.Kind<=17) then(o.Lanes==1) else false)=some (!decide (17<o.Kind)&&!(true&&decide (1<o.Lanes)))
  rw[ha,hb]
  cases decide (17<o.Kind)<;>cases decide (1<o.Lanes)<;>rfl
 ·have ha:decide (o.Kind<=20) = !decide (20<o.Kind):=by rw[Lr];simp
  have hb:(o.Lanes==1) = !decide (1<o.Lanes):=by rw[Lr];simp;omega
  show some (bif decide (o.Kind<=20) then(o.Lanes==1) else false)=some (!decide (20<o.Kind)&&!(true&&decide (1<o.Lanes)))
  rw[ha,hb]
  cases decide (20<o.Kind)<;>cases decide (1<o.Lanes)<;>rfl
 ·show some true=some (!decide (22<o.Kind)&&!(false&&decide (1<o.Lanes)))
  rw[Gl (by omega)]
  rfl
theorem c_opTyped(o:E7)(ho:OpOk o)(f:TFunc)(l:Int)(h0:0<=l)(h2:l<=2)(t:List Int)(u:List Ao):Es o f l t u=some (Sg l o,f,l,t,u):=by
 unfold Es Sg;rw[kind_May o ho,Ax]
 cases hk:Mo o with
 | false=>rfl
 | true=>
  rw[show(true==true)=true from rfl,Aj,c_isOf o l h0 h2 hk,Ax,Aj,G2]
theorem c_allOp(b:Ad){f:TFunc}(hf:OkF f)(hb:b∈f.Blocks)(l:Int)(h0:0<=l)(h2:l<=2)(t:List Int)(u:List Ao):G6 b.Ops f l t u=some (b.Ops.all (Sg l),f,l,t,u):=by
 have hB:=hf.block b hb
 have key:∀ k i:Nat,i+k=b.Ops.length->An (Ec b.Ops) ((i:Int),f.Params,f.Ret,f.Blocks,l,t,u)=some (bif (b.Ops.drop i).all (Sg l) then .inl (f.Params,f.Ret,f.Blocks,l,t,u) else .inr (false,f,l,t,u)):=by
  intro k
  induction k with
  | zero=>
   intro i h
   obtain rfl:i=b.Ops.length:=by omega
   rw[Aq (x:=.inl (f.Params,f.Ret,f.Blocks,l,t,u)) (by unfold Ec;simp)]
   simp
  | succ k ih=>
   intro i h
   have hi:i<b.Ops.length:=by omega
   have hd:decide ((i:Int)<(b.Ops.length:Int))=true:=by simpa using hi
   have hdr:b.Ops.drop i=b.Ops.getD i default::b.Ops.drop (i+1):=by rw[Uz hi,Ag _ _ _ hi]
   have hx:=c_opTyped (b.Ops.getD i default) (opOk hf hb (A8 hi)) f l h0 h2 t u;rw[hdr,S9]
   cases ho:Sg l (b.Ops.getD i default) with
   | true=>
    rw[ho]at hx
    rw[Aw (s':=(((i+1:Nat):Int),f.Params,f.Ret,f.Blocks,l,t,u)) (by
     unfold Ec;simp only[hd,Aj,Am (A5 hi),Dw,hx,Ax,E6,A0,Fk hi (by have:=hB.ops;omega)]
     rfl),ih (i+1) (by omega),G2]
   | false=>
    rw[ho]at hx
    rw[Aq (x:=.inr (false,f,l,t,u)) (by
     unfold Ec
     simp only[hd,Aj,Am (A5 hi),Dw,hx,Ax,Mp])]
    rfl
 unfold G6;rw[show(0:Int)=((0:Nat):Int) from rfl,key b.Ops.length 0 (by omega),N6,Ax]
 cases b.Ops.all (Sg l)<;>rfl
theorem c_allPhi(b:Ad)(h:b.Phis.length<9223372036854775808):Gr b.Phis=some (b.Phis.all fun p=>E4 p.Bits):=by
 unfold Gr
 rw[allR b.Phis (default:Hg) (fun p=>E4 p.Bits) (E0 b.Phis) (.inl ()) (.inr false) h (fun i hi=>by
  unfold E0 Ka
  have hd:decide ((i:Int)<(b.Phis.length:Int))=true:=by simpa using hi
  simp only[hd,Aj,Am (A5 hi),Dw,Q0,Ax]
  cases E4 (b.Phis.getD i default).Bits<;>rfl) (by unfold E0;simp),Ax]
 cases b.Phis.all fun p=>E4 p.Bits<;>rfl
theorem c_allInt(p:List Int)(h:p.length<9223372036854775808):I7 p=some (p.all E4):=by
 unfold I7
 rw[allR p (0:Int) E4 (G7 p) (.inl ()) (.inr false) h (fun i hi=>by
  unfold G7
  have hd:decide ((i:Int)<(p.length:Int))=true:=by simpa using hi
  simp only[hd,Aj,Am (A5 hi),Dw,Q0,Ax]
  cases E4 (p.getD i 0)<;>rfl) (by unfold G7;simp),Ax]
 cases p.all E4<;>rfl
theorem c_blockTyped(b:Ad){f:TFunc}(hf:OkF f)(hb:b∈f.Blocks)(l:Int)(h0:0<=l)(h2:l<=2)(t:List Int)(u:List Ao):Do b f l t u=some (Jm l b,f,l,t,u):=by
 unfold Do Jm;rw[c_allPhi b (by have:=(hf.block b hb).phis;omega),Ax,c_allOp b hf hb l h0 h2 t u]
 cases(b.Phis.all fun p=>E4 p.Bits)<;>rfl
theorem c_typed{f:TFunc}(hf:OkF f)(l:Int)(h0:0<=l)(h2:l<=2)(t:List Int)(u:List Ao):Fg f l t u=some (bif Zy f l then 0 else 6,f,l,t,u):=by
 have key:∀ k i:Nat,i+k=f.Blocks.length->An (Dd f.Blocks) ((i:Int),f.Params,f.Ret,f.Blocks,l,t,u)=some (bif (f.Blocks.drop i).all (Jm l) then .inl (f.Params,f.Ret,f.Blocks,l,t,u) else .inr (false,f,l,t,u)):=by
  intro k
  induction k with
  | zero=>
   intro i h
   obtain rfl:i=f.Blocks.length:=by omega
   rw[Aq (x:=.inl (f.Params,f.Ret,f.Blocks,l,t,u)) (by unfold Dd;simp)]
   simp
  | succ k ih=>
   intro i h
   have hi:i<f.Blocks.length:=by omega
   have hd:decide ((i:Int)<(f.Blocks.length:Int))=true:=by simpa using hi
   have hdr:f.Blocks.drop i=f.Blocks.getD i default::f.Blocks.drop (i+1):=by rw[Uz hi,Ag _ _ _ hi]
   have hx:=c_blockTyped (f.Blocks.getD i default) hf (A8 hi) l h0 h2 t u;rw[hdr,S9]
   cases ho:Jm l (f.Blocks.getD i default) with
   | true=>
    rw[ho]at hx
    rw[Aw (s':=(((i+1:Nat):Int),f.Params,f.Ret,f.Blocks,l,t,u)) (by
     unfold Dd;simp only[hd,Aj,Am (A5 hi),Dw,hx,Ax,E6,A0,Fk hi (by have:=hf.blocks;omega)]
     rfl),ih (i+1) (by omega),G2]
   | false=>
    rw[ho]at hx
    rw[Aq (x:=.inr (false,f,l,t,u)) (by
     unfold Dd
     simp only[hd,Aj,Am (A5 hi),Dw,hx,Ax,Mp])]
    rfl
 have hall:Ff f.Blocks f l t u=some (f.Blocks.all (Jm l),f,l,t,u):=by
  unfold Ff;rw[show(0:Int)=((0:Nat):Int) from rfl,key f.Blocks.length 0 (by omega),N6,Ax]
  cases f.Blocks.all (Jm l)<;>rfl
 unfold Fg Zy H6;rw[c_allInt _ (by have:=hf.few;omega),Ax,hall,Q0]
 cases f.Params.all E4<;>cases E4 f.Ret<;>cases f.Blocks.all (Jm l)<;>rfl
def atD(d:J6):Gu:=bif decide (d.Block<0) then⟨0,-1⟩ else⟨d.Block,d.At⟩
def valD(d:J6):Af:=⟨d.Shape,atD d⟩
def dv(l:List J6):List (Int×Af):=l.map fun d=>(d.V,valD d)
def badD(acc:List (Int×Af))(v:Int):Bool:=(Ei acc v || decide (v<1)) || decide (1023<v)
def Hh:List (Int×Af)->List J6->Bool×List (Int×Af)
 | acc,[]=>(true,acc)
 | acc,d::ds=>bif badD acc d.V then(false,acc) else Hh (Jy acc d.V (valD d)) ds
theorem Y9:∀(a b:List J6) (acc:List (Int×Af)),Hh acc (a++b)=bif (Hh acc a).1 then Hh (Hh acc a).2 b else Hh acc a
 | [],b,acc=>rfl
 | d::a,b,acc=>by
  rw[Yq];simp only[Hh]
  cases badD acc d.V with
  | true=>rfl
  | false=>simp only[A0];exact Y9 a b _
theorem mhas_any{V:Type}(k:Int):∀ l:List (Int×V),Ei l k=l.any fun q=>k==q.1
 | []=>rfl
 | (a,b)::l=>by rw[List.any_cons,<- mhas_any k l];rfl
theorem Zn{V:Type}(k:Int)(v:V):∀{l:List (Int×V)},Ei l k=false->Jy l k v=l++[(k,v)]
 | [],_=>rfl
 | (a,b)::l,h=>by
  simp only[Ei,zzL124]at h;simp only[Jy,h.1,A0,Zn k v h.2,Yq]
theorem c_define(v:Int)(s:Int×Int)(p:Gu)(f:TFunc)(l:Int)(t:List Int)(vs:List (Int×Af))(u:List Ao) :
  Dy v s p f l t vs u=some (bif badD vs v then(false,f,l,t,u,vs) else(true,f,l,t,u,Jy vs v ⟨s,p⟩)):=by
 unfold Dy badD
 cases Ei vs v<;>cases decide (v<1)<;>cases decide (1023<v)<;>rfl
def resD(f:TFunc)(l:Int)(t:List Int)(u:List Ao)(r:Bool×List (Int×Af)):(List Int×Int×List Ad×Int×List Int×List Ao×List (Int×Af)) ⊕ (Bool×TFunc×Int×List Int×List Ao×List (Int×Af)):=
 bif r.1 then .inl (f.Params,f.Ret,f.Blocks,l,t,u,r.2) else .inr (false,f,l,t,u,r.2)
theorem c_phis(b:Ad)(h:b.Phis.length<9223372036854775808)(i:Nat)(f:TFunc)(l:Int)(t:List Int)(u:List Ao):∀(k j:Nat) (vs:List (Int×Af)),j+k=b.Phis.length->
  An (Ce (i:Int) b) ((j:Int),f.Params,f.Ret,f.Blocks,l,t,u,vs)=some (resD f l t u (Hh vs ((List.range' j k).flatMap fun(k:Nat)=>[(⟨(b.Phis.getD k default).Dst,i,-1,((b.Phis.getD k default).Bits,1)⟩:J6)]))):=by
 intro k
 induction k with
 | zero=>
  intro j vs hj
  obtain rfl:j=b.Phis.length:=by omega
  rw[Aq (x:=.inl (f.Params,f.Ret,f.Blocks,l,t,u,vs)) (by unfold Ce;simp)]
  rfl
 | succ k ih=>
  intro j vs hj
  have hi:j<b.Phis.length:=by omega
  have hd:decide ((j:Int)<(b.Phis.length:Int))=true:=by simpa using hi
  have hx:=c_define (b.Phis.getD j default).Dst ((b.Phis.getD j default).Bits,1) (⟨(i:Int),-1⟩:Gu) f l t vs u
  have hat:atD (⟨(b.Phis.getD j default).Dst,i,-1,((b.Phis.getD j default).Bits,1)⟩:J6)=⟨(i:Int),-1⟩:=by unfold atD;rw[Gl (by show ¬ (i:Int)<0;omega)];rfl
  rw[U0,Abi,List.singleton_append];simp only[Hh]
  cases hb:badD vs (b.Phis.getD j default).Dst with
  | true=>
   rw[hb]at hx
   rw[Aq (x:=.inr (false,f,l,t,u,vs)) (by
    unfold Ce C9;simp only[hd,Aj,Am (A5 hi),Dw,Ax];rw[show(⟨f.Params,f.Ret,f.Blocks⟩:TFunc)=f from rfl,hx]
    rfl)]
   rfl
  | false=>
   rw[hb]at hx
   rw[Aw (s':=(((j+1:Nat):Int),f.Params,f.Ret,f.Blocks,l,t,u,Jy vs (b.Phis.getD j default).Dst ⟨((b.Phis.getD j default).Bits,1),⟨(i:Int),-1⟩⟩)) (by
    unfold Ce C9;simp only[hd,Aj,Am (A5 hi),Dw,Ax];rw[show(⟨f.Params,f.Ret,f.Blocks⟩:TFunc)=f from rfl,hx,Fk hi h]
    rfl),ih (j+1) _ (by omega)]
   unfold valD;rw[hat]
   rfl
theorem c_ops{f0:TFunc}(hf:OkF f0){b:Ad}(hb:b∈f0.Blocks)(i:Nat)(f:TFunc)(l:Int)(t:List Int)(u:List Ao):∀(k j:Nat) (vs:List (Int×Af)),j+k=b.Ops.length->
  An (Bt (i:Int) b) ((j:Int),f.Params,f.Ret,f.Blocks,l,t,u,vs)=some (resD f l t u (Hh vs ((List.range' j k).flatMap fun(k:Nat)=>bif decide (0<(Ns (b.Ops.getD k default)).1) then[(⟨(b.Ops.getD k default).Dst,i,k,Ns (b.Ops.getD k default)⟩:J6)] else[]))):=by
 have hB:=hf.block b hb;intro k
 induction k with
 | zero=>
  intro j vs hj
  obtain rfl:j=b.Ops.length:=by omega
  rw[Aq (x:=.inl (f.Params,f.Ret,f.Blocks,l,t,u,vs)) (by unfold Bt;simp)]
  rfl
 | succ k ih=>
  intro j vs hj
  have hi:j<b.Ops.length:=by omega
  have hd:decide ((j:Int)<(b.Ops.length:Int))=true:=by simpa using hi
  have hg:Kc (b.Ops.getD j default)=some (Ns (b.Ops.getD j default)):=kind_Gives _ (opOk hf hb (A8 hi));have hx:=c_define (b.Ops.getD j default).Dst (Ns (b.Ops.getD j default)) (⟨(i:Int),(j:Int)⟩:Gu) f l t vs u
  have hat:atD (⟨(b.Ops.getD j default).Dst,i,j,Ns (b.Ops.getD j default)⟩:J6)=⟨(i:Int),(j:Int)⟩:=by unfold atD;rw[Gl (by show ¬ (i:Int)<0;omega)];rfl
  rw[U0,Abi]
  cases hp:decide (0<(Ns (b.Ops.getD j default)).1) with
  | false=>
   rw[A0,Wg,<- ih (j+1) vs (by omega),Aw (s':=(((j+1:Nat):Int),f.Params,f.Ret,f.Blocks,l,t,u,vs)) (by
    unfold Bt;simp only[hd,Aj,Am (A5 hi),Dw,hg,Ax,hp];rw[Fk hi (by have:=hB.ops;omega)]
    rfl)]
  | true=>
   rw[Aj,List.singleton_append];simp only[Hh]
   cases hb:badD vs (b.Ops.getD j default).Dst with
   | true=>
    rw[hb]at hx
    rw[Aq (x:=.inr (false,f,l,t,u,vs)) (by
     unfold Bt;simp only[hd,Aj,Am (A5 hi),Dw,hg,Ax,hp];rw[show(true==true)=true from rfl,Aj,show(⟨f.Params,f.Ret,f.Blocks⟩:TFunc)=f from rfl,hx]
     rfl)]
    rfl
   | false=>
    rw[hb]at hx
    rw[Aw (s':=(((j+1:Nat):Int),f.Params,f.Ret,f.Blocks,l,t,u,Jy vs (b.Ops.getD j default).Dst ⟨Ns (b.Ops.getD j default),⟨(i:Int),(j:Int)⟩⟩)) (by
     unfold Bt;simp only[hd,Aj,Am (A5 hi),Dw,hg,Ax,hp];rw[show(true==true)=true from rfl,Aj,show(⟨f.Params,f.Ret,f.Blocks⟩:TFunc)=f from rfl,hx,Fk hi (by have:=hB.ops;omega)]
     rfl),ih (j+1) _ (by omega)]
    unfold valD;rw[hat]
    rfl
theorem c_defineAll{f:TFunc}(hf:OkF f){b:Ad}(hb:b∈f.Blocks)(i:Nat)(l:Int)(t:List Int)(u:List Ao)(vs:List (Int×Af)) :
  D2 (i:Int) b f l t vs u=some ((Hh vs (Nz b i)).1,f,l,t,u,(Hh vs (Nz b i)).2):=by
 unfold D2 Nz;rw[show(0:Int)=((0:Nat):Int) from rfl,c_phis b (by have:=(hf.block b hb).phis;omega) i f l t u b.Phis.length 0 vs (by omega),Ax,Y9];rw[show(List.range' 0 b.Phis.length).flatMap (fun(k:Nat)=>[(⟨(b.Phis.getD k default).Dst,i,-1,((b.Phis.getD k default).Bits,1)⟩:J6)])=Xt b i by rw[Xt,Yp]];unfold resD
 cases h1:(Hh vs (Xt b i)).1 with
 | false=>simp only[A0];rw[h1]
 | true=>
  simp only[Aj];rw[c_ops hf hb i f l t u b.Ops.length 0 _ (by omega),Ax];rw[show(List.range' 0 b.Ops.length).flatMap (fun(k:Nat)=>bif decide (0<(Ns (b.Ops.getD k default)).1) then[(⟨(b.Ops.getD k default).Dst,i,k,Ns (b.Ops.getD k default)⟩:J6)] else[])=defsOp b i by rw[defsOp,Yp]];unfold resD;cases h2:(Hh (Hh vs (Xt b i)).2 (defsOp b i)).1<;>rfl
theorem okDef_iff{l:List J6}{i:Nat}(hi:i<l.length):O0 l i=true↔valS (l.getD i default).V=true/\∀ j,j<i->(l.getD j default).V≠(l.getD i default).V:=by
 unfold O0;rw[A7];refine and_congr Iff.rfl ?_;unfold L1
 cases hx:l.findIdx? (fun d=>d.V==(l.getD i default).V) with
 | none=>
  rw[List.findIdx?_eq_none_iff]at hx;have:=hx _ (A8 (d:=default) hi);simp at this
 | some j=>
  obtain⟨hj,h1,h2⟩:=List.findIdx?_eq_some_iff_getElem.1 hx;simp only[zzL59,Int.natCast_inj]
  constructor
  ·rintro rfl k hk he;have:=h2 k hk;rw[Ag _ _ _ (by omega:k<l.length)]at he;simp at this;exact this he
  ·intro h
   have hv:(l.getD j default).V=(l.getD i default).V:=by rw[Ag _ _ _ hj];simpa using h1
   rcases Nat.lt_trichotomy j i with hlt|rfl|hgt
   ·exact absurd hv (h j hlt)
   ·rfl
   ·have:=h2 i hgt;rw[<- Ag l i default hi]at this;simp at this
theorem mhas_dv(l:List J6)(v:Int):Ei (dv l) v=l.any fun d=>v==d.V:=by
 rw[mhas_any,dv,List.any_map];rfl
theorem defGo_spec:∀(ds pre:List J6),(Hh (dv pre) ds).1=(List.range' pre.length ds.length).all (O0 (pre++ds))/\((Hh (dv pre) ds).1=true->(Hh (dv pre) ds).2=dv (pre++ds))
 | [],pre=>by simp[Hh]
 | d::ds,pre=>by
  have hi:pre.length<(pre++d::ds).length:=by simp
  have hg:(pre++d::ds).getD pre.length default=d:=by simp[List.getD]
  have hj:∀ j,j<pre.length->(pre++d::ds).getD j default=pre.getD j default:=fun j h=>by simp[List.getD,Mk h]
  have hok:O0 (pre++d::ds) pre.length = !badD (dv pre) d.V:=by
   rw[Lr,okDef_iff hi,hg];unfold badD valS;rw[mhas_dv];simp only[Pg,zzL124,zzL131,List.any_eq_false,zzL59,A7,Gs]
   constructor
   ·rintro⟨⟨h1,h2⟩,h3⟩;refine⟨⟨fun x hx he=>?_,by omega⟩,by omega⟩;obtain⟨j,hjl,rfl⟩:=Rb hx;have:=h3 j hjl;rw[hj j hjl,Ag _ _ _ hjl]at this;exact this he.symm
   ·rintro⟨⟨h1,h2⟩,h3⟩;refine⟨⟨by omega,by omega⟩,fun j hjl he=>?_⟩;rw[hj j hjl,Ag _ _ _ hjl]at he;exact h1 _ (S7 hjl) he.symm
  rw[U1,U0,S9,hok];simp only[Hh]
  cases hb:badD (dv pre) d.V with
  | true=>exact⟨rfl,fun h=>by cases h⟩
  | false=>
   have hn:Ei (dv pre) d.V=false:=by
    unfold badD at hb;simp only[zzL124]at hb;exact hb.1.1
   have hs:Jy (dv pre) d.V (valD d)=dv (pre++[d]):=by rw[Zn _ _ hn,dv,dv,Yr];rfl
   have:=defGo_spec ds (pre++[d]);rw[Fb,Aac,List.singleton_append]at this;rw[A0,hs,Mp,G2];exact this
def pv(f:TFunc)(n:Nat):List (Int×Af):=(List.range n).map fun(j:Nat)=>((j:Int)+1,⟨(f.Params.getD j 0,1),⟨0,-1⟩⟩)
theorem pv_dv(f:TFunc):pv f f.Params.length=dv (M7 f):=by
 unfold pv dv M7;rw[List.map_flatMap]
 induction List.range f.Params.length with
 | nil=>rfl
 | cons a l ih=>rw[B0,Abi,ih];rfl
theorem c_params{f:TFunc}(hf:OkF f):∀(k i:Nat),i+k=f.Params.length->An (Dp f) ((i:Int),pv f i)=some (pv f f.Params.length):=by
 intro k
 induction k with
 | zero=>
  intro i h
  obtain rfl:i=f.Params.length:=by omega
  exact Aq (by unfold Dp;simp)
 | succ k ih=>
  intro i h
  have hi:i<f.Params.length:=by omega
  have hd:decide ((i:Int)<(f.Params.length:Int))=true:=by simpa using hi
  have hn:Ei (pv f i) ((i:Int)+1)=false:=by
   rw[mhas_any,pv,List.any_map,List.any_eq_false];intro j hj;have:=zzL43.1 hj
   simp;omega
  have hs:Jy (pv f i) ((i:Int)+1) ⟨(f.Params.getD i 0,1),⟨0,-1⟩⟩=pv f (i+1):=by
   rw[Zn _ _ hn,pv,pv,Ys,Yr];rfl
  rw[Aw (s':=(((i+1:Nat):Int),pv f (i+1))) (by
   unfold Dp C9;simp only[hd,Aj,Am (A5 hi),Dw,Ax,Fk hi (by have:=hf.few;omega),hs]
   rfl)]
  exact ih (i+1) (by omega)
theorem c_blocks{f:TFunc}(hf:OkF f)(l:Int)(t:List Int)(u:List Ao):∀(k i:Nat) (vs:List (Int×Af)),i+k=f.Blocks.length->
  An (Cu f) ((i:Int),vs,f.Params,f.Ret,f.Blocks,l,t,u)=some (bif (Hh vs ((List.range' i k).flatMap fun i=>Nz (f.Blocks.getD i default) i)).1 then .inl ((Hh vs ((List.range' i k).flatMap fun i=>Nz (f.Blocks.getD i default) i)).2,f.Params,f.Ret,f.Blocks,l,t,u) else
   .inr (7,f,l,t,u,(Hh vs ((List.range' i k).flatMap fun i=>Nz (f.Blocks.getD i default) i)).2)):=by
 intro k
 induction k with
 | zero=>
  intro i vs h
  obtain rfl:i=f.Blocks.length:=by omega
  rw[Aq (x:=.inl (vs,f.Params,f.Ret,f.Blocks,l,t,u)) (by unfold Cu;simp)]
  rfl
 | succ k ih=>
  intro i vs h
  have hi:i<f.Blocks.length:=by omega
  have hd:decide ((i:Int)<(f.Blocks.length:Int))=true:=by simpa using hi
  have hx:=c_defineAll hf (A8 (d:=default) hi) i l t u vs;rw[U0,Abi,Y9]
  cases hb:(Hh vs (Nz (f.Blocks.getD i default) i)).1 with
  | false=>
   rw[hb]at hx
   rw[Aq (x:=.inr (7,f,l,t,u,(Hh vs (Nz (f.Blocks.getD i default) i)).2)) (by
    unfold Cu;simp only[hd,Aj,Am (A5 hi),Dw];rw[show(⟨f.Params,f.Ret,f.Blocks⟩:TFunc)=f from rfl,hx]
    rfl),A0,hb]
   rfl
  | true=>
   rw[hb]at hx
   rw[Aw (s':=(((i+1:Nat):Int),(Hh vs (Nz (f.Blocks.getD i default) i)).2,f.Params,f.Ret,f.Blocks,l,t,u)) (by
    unfold Cu;simp only[hd,Aj,Am (A5 hi),Dw];rw[show(⟨f.Params,f.Ret,f.Blocks⟩:TFunc)=f from rfl,hx,Fk hi (by have:=hf.blocks;omega)]
    rfl),ih (i+1) _ (by omega),Aj]
theorem okP{f:TFunc}(hf:OkF f):∀ i,i<f.Params.length->O0 (B6 f) i=true:=fun i hi=>by
 have hl:=defsP_len f
 have hg:∀ j,j<f.Params.length->(B6 f).getD j default=⟨(j:Int)+1,-1,0,(f.Params.getD j 0,1)⟩:=fun j hj=>by
  have e:M7 f=(List.range f.Params.length).map fun(i:Nat)=>(⟨(i:Int)+1,-1,0,(f.Params.getD i 0,1)⟩:J6):=by
   unfold M7
   induction List.range f.Params.length with
   | nil=>rfl
   | cons a l ih=>rw[B0,Abi,ih];rfl
  rw[B6,List.getD,Mk (by omega),e];simp[hj]
 have hle:i<(B6 f).length:=by rw[B6,Fb];omega
 rw[okDef_iff hle,hg i hi];refine⟨?_,fun j hj=>?_⟩
 ·have:=hf.few;simp only[valS,A7,Gs];omega
 ·rw[hg j (by omega)];simp only;omega
theorem c_defined{f:TFunc}(hf:OkF f)(l:Int)(t:List Int)(u:List Ao):∃ vs,Ep f l t u=some (bif (List.range (B6 f).length).all (O0 (B6 f)) then 0 else 7,f,l,t,u,vs)/\((List.range (B6 f).length).all (O0 (B6 f))=true->vs=dv (B6 f)):=by
 have hsp:=defGo_spec ((List.range f.Blocks.length).flatMap fun i=>Nz (f.Blocks.getD i default) i) (M7 f)
 have hall:(List.range (B6 f).length).all (O0 (B6 f))=(Hh (dv (M7 f)) ((List.range f.Blocks.length).flatMap fun i=>Nz (f.Blocks.getD i default) i)).1:=by
  rw[hsp.1]
  show(List.range (B6 f).length).all (O0 (B6 f))=(List.range' (M7 f).length _).all (O0 (B6 f))
  have hs:List.range (B6 f).length=List.range (M7 f).length++List.range' (M7 f).length ((List.range f.Blocks.length).flatMap fun i=>Nz (f.Blocks.getD i default) i).length:=by
   rw[Yp,Yp,B6,Fb];have:=List.range'_append_1 (s:=0) (m:=(M7 f).length) (n:=((List.range f.Blocks.length).flatMap fun i=>Nz (f.Blocks.getD i default) i).length);rw[Fl]at this;exact this.symm
  rw[hs,List.all_append];have:(List.range (M7 f).length).all (O0 (B6 f))=true:=zzL33.2 fun i hi=>okP hf i (by rw[<- defsP_len f];exact zzL43.1 hi);rw[this,G2]
 unfold Ep;have hp:=c_params hf f.Params.length 0 (by omega);have e0:pv f 0=[]:=rfl;rw[e0,show(((0:Nat):Int))=0 from rfl]at hp;rw[hp,Ax,pv_dv];have hb:=c_blocks hf l t u f.Blocks.length 0 (dv (M7 f)) (by omega);rw[show(((0:Nat):Int))=0 from rfl,<- Yp]at hb;rw[hb,Ax,hall];refine⟨(Hh (dv (M7 f)) ((List.range f.Blocks.length).flatMap fun i=>Nz (f.Blocks.getD i default) i)).2,?_,hsp.2⟩
 cases(Hh (dv (M7 f)) ((List.range f.Blocks.length).flatMap fun i=>Nz (f.Blocks.getD i default) i)).1<;>rfl
theorem Vi{β S X:Type}(B:Nat)(mk:Int->List β->S)(out:List β->X)(n:Nat)(E:Nat->List β)(f:S->Option (LR S X))(hn:∀(acc:List β) (i:Nat),i<n->(acc++E i).length<=B->f (mk i acc)=some (.next (mk ((i:Int)+1) (acc++E i))))
  (hd:∀ acc:List β,f (mk n acc)=some (.done (out acc))):∀(k i:Nat) (acc:List β),i+k=n->(acc++(List.range' i k).flatMap E).length<=B->An f (mk i acc)=some (out (acc++(List.range' i k).flatMap E))
 | 0,i,acc,h,_=>by
  obtain rfl:i=n:=by omega
  rw[Aq (hd acc)]
  simp
 | k+1,i,acc,h,hB=>by
  have hi:i<n:=by omega
  rw[U0,Abi,<- Aac]at hB ⊢;rw[Aw (hn acc i hi (by rw[Fb]at hB;omega)),show((i:Int)+1)=((i+1:Nat):Int) by omega,Vi B mk out n E f hn hd k (i+1) _ (by omega) hB]
theorem map_sing{β γ:Type}(h:β->γ)(n:Nat)(g:Nat->β):(List.range' 0 n).flatMap (fun j=>[h (g j)])=((List.range n).flatMap fun j=>[g j]).map h:=by
 rw[List.map_flatMap,Yp];rfl
theorem map_flat{β γ:Type}(h:β->γ)(n:Nat)(g:Nat->List β):(List.range' 0 n).flatMap (fun j=>(g j).map h)=((List.range n).flatMap g).map h:=by
 rw[List.map_flatMap,Yp]
def Me(f:TFunc)(b:Int):Int:=((f.Blocks.getD b.toNat default).Ops.length:Int)
def Ek(f:TFunc)(u:Qp):Ao:=⟨u.V,u.Shape,⟨u.Block,bif u.At==1000 then Me f u.Block else u.At⟩⟩
theorem c_use(f:TFunc)(l:Int)(t:List Int)(vs:List (Int×Af))(v:Int)(s:Int×Int)(p:Gu)(u:List Ao)(h:(u++[(⟨v,s,p⟩:Ao)]).length<=10000000):Dg v s p f l t vs u=some (f,l,t,u++[⟨v,s,p⟩]):=by
 unfold Dg;rw[Ae (by rw[Fb]at h;rw[room_is];omega)]
theorem c_end(f:TFunc)(l:Int)(t:List Int)(vs:List (Int×Af))(b:Int)(hb:Bd b f.Blocks.length)(u:List Ao):D6 b f l t vs u=some (⟨b,Me f b⟩,f,l,t,u):=by
 unfold D6;rw[Ae hb];rfl
section
variable {f:TFunc} (hf:OkF f) (l:Int) (t:List Int) (vs:List (Int×Af))
include hf
theorem c_phi1(i k:Nat)(hi:i<f.Blocks.length)(hk:k<(f.Blocks.getD i default).Phis.length)(hfit:((f.Blocks.getD i default).Phis.getD k default).Args.length<=((f.Blocks.getD i default).Phis.getD k default).From.length)
  (hin:∀ x∈((f.Blocks.getD i default).Phis.getD k default).From,Bd x f.Blocks.length) (u:List Ao) (hB:(u++(Nm ((f.Blocks.getD i default).Phis.getD k default)).map (Ek f)).length<=10000000) :
  An (Cp f vs (i:Int) (k:Int)) ((0:Int),f.Params,f.Ret,f.Blocks,l,t,u)=some (f.Params,f.Ret,f.Blocks,l,t,u++(Nm ((f.Blocks.getD i default).Phis.getD k default)).map (Ek f)):=by
 have hlen:=ok_phi hf (A8 (d:=(default:Ad)) hi) (A8 (d:=(default:Hg)) hk)
 generalize hp:(f.Blocks.getD i default).Phis.getD k default=p at *
 have e:=map_sing (Ek f) p.Args.length fun(j:Nat)=>(⟨p.Args.getD j 0,p.From.getD j 0,1000,(p.Bits,1)⟩:Qp)
 have:=Vi 10000000 (fun j u=>(j,f.Params,f.Ret,f.Blocks,l,t,u)) (fun u=>(f.Params,f.Ret,f.Blocks,l,t,u)) p.Args.length (fun(j:Nat)=>[Ek f ⟨p.Args.getD j 0,p.From.getD j 0,1000,(p.Bits,1)⟩]) (Cp f vs (i:Int) (k:Int)) (fun acc j hj hacc=>by
  unfold Cp C9
  have hd:decide ((j:Int)<(p.Args.length:Int))=true:=by simpa using hj
  have hjf:j<p.From.length:=by omega
  simp only[Dw,hp,hd,Aj,Am (A5 hj),Ax,Am (A5 hjf)];rw[show(⟨f.Params,f.Ret,f.Blocks⟩:TFunc)=f from rfl,c_end f l t vs _ (hin _ (A8 hjf)),Ax];simp only;have eu:Ek f ⟨p.Args.getD j 0,p.From.getD j 0,1000,(p.Bits,1)⟩=⟨p.Args.getD j 0,(p.Bits,1),⟨p.From.getD j 0,Me f (p.From.getD j 0)⟩⟩:=rfl;rw[eu]at hacc ⊢
  rw[c_use f l t vs _ _ _ acc hacc,Ax,Fk hj (by omega)]) (fun acc=>by unfold Cp;simp only[Dw,hp,show decide ((p.Args.length:Int)<(p.Args.length:Int))=false by simp,A0]) p.Args.length 0 u (by omega) (by rw[e];exact hB)
 rw[e]at this;exact this
theorem c_phis'(i:Nat)(hi:i<f.Blocks.length)(hfit:∀ p∈(f.Blocks.getD i default).Phis,p.Args.length<=p.From.length/\∀ x∈p.From,Bd x f.Blocks.length)(u:List Ao)(hB:(u++(Vt (f.Blocks.getD i default)).map (Ek f)).length<=10000000) :
  An (Cq f vs (i:Int)) ((0:Int),f.Params,f.Ret,f.Blocks,l,t,u)=some (f.Params,f.Ret,f.Blocks,l,t,u++(Vt (f.Blocks.getD i default)).map (Ek f)):=by
 have hBk:=hf.block _ (A8 (d:=(default:Ad)) hi);have e:=map_flat (Ek f) (f.Blocks.getD i default).Phis.length fun(k:Nat)=>Nm ((f.Blocks.getD i default).Phis.getD k default)
 have:=Vi 10000000 (fun j u=>(j,f.Params,f.Ret,f.Blocks,l,t,u)) (fun u=>(f.Params,f.Ret,f.Blocks,l,t,u)) (f.Blocks.getD i default).Phis.length (fun(k:Nat)=>(Nm ((f.Blocks.getD i default).Phis.getD k default)).map (Ek f)) (Cq f vs (i:Int)) (fun acc k hk hacc=>by
  have hq:=hfit _ (A8 (d:=(default:Hg)) hk);have h1:=c_phi1 hf l t vs i k hi hk hq.1 hq.2 acc hacc;unfold Cq
  have hd:decide ((k:Int)<((f.Blocks.getD i default).Phis.length:Int))=true:=by simpa using hk
  simp only[Dw,hd,Aj,Am (A5 hk),h1,Ax,Fk hk (by have:=hBk.phis;omega)]) (fun acc=>by unfold Cq;simp) (f.Blocks.getD i default).Phis.length 0 u (by omega) (by rw[e];exact hB)
 rw[e]at this;exact this
theorem c_op1(i k:Nat)(hi:i<f.Blocks.length)(hk:k<(f.Blocks.getD i default).Ops.length)(u:List Ao)(hB:(u++(P1 ((f.Blocks.getD i default).Ops.getD k default) i k).map (Ek f)).length<=10000000) :
  An (Cr f vs (i:Int) (k:Int) (Iy ((f.Blocks.getD i default).Ops.getD k default))) ((0:Int),f.Params,f.Ret,f.Blocks,l,t,u)=some (f.Params,f.Ret,f.Blocks,l,t,u++(P1 ((f.Blocks.getD i default).Ops.getD k default) i k).map (Ek f)):=by
 have hBk:=hf.block _ (A8 (d:=(default:Ad)) hi);have hlen:=takesO_len (ok_op hf (A8 (d:=(default:Ad)) hi) (A8 (d:=(default:E7)) hk));have hk512:=hBk.ops
 generalize hp:(f.Blocks.getD i default).Ops.getD k default=o at *
 have e:=map_sing (Ek f) (Iy o).length fun(j:Nat)=>(⟨o.Args.getD j 0,i,k,(Iy o).getD j (0,0)⟩:Qp)
 have:=Vi 10000000 (fun j u=>(j,f.Params,f.Ret,f.Blocks,l,t,u)) (fun u=>(f.Params,f.Ret,f.Blocks,l,t,u)) (Iy o).length (fun(j:Nat)=>[Ek f ⟨o.Args.getD j 0,i,k,(Iy o).getD j (0,0)⟩]) (Cr f vs (i:Int) (k:Int) (Iy o)) (fun acc j hj hacc=>by
  have hkk:((k:Int)==1000)=false:=by simp;omega
  have eu:Ek f ⟨o.Args.getD j 0,i,k,(Iy o).getD j (0,0)⟩=⟨o.Args.getD j 0,(Iy o).getD j (0,0),⟨(i:Int),(k:Int)⟩⟩:=by unfold Ek;simp only[hkk,A0]
  rw[eu]at hacc ⊢;unfold Cr
  have hd:decide ((j:Int)<((Iy o).length:Int))=true:=by simpa using hj
  have hja:j<o.Args.length:=by omega
  simp only[Dw,hp,hd,Aj,Am (A5 hj),Am (A5 hja)]
  rw[show(⟨f.Params,f.Ret,f.Blocks⟩:TFunc)=f from rfl,c_use f l t vs _ _ _ acc hacc,Ax,Fk hj (by omega)]) (fun acc=>by unfold Cr;simp) (Iy o).length 0 u (by omega) (by rw[e];exact hB)
 rw[e]at this;exact this
theorem c_ops'(i:Nat)(hi:i<f.Blocks.length)(u:List Ao)(hB:(u++(usesOp (f.Blocks.getD i default) i).map (Ek f)).length<=10000000) :
  An (Cs f vs (i:Int)) ((0:Int),f.Params,f.Ret,f.Blocks,l,t,u)=some (f.Params,f.Ret,f.Blocks,l,t,u++(usesOp (f.Blocks.getD i default) i).map (Ek f)):=by
 have hmem:=A8 (d:=(default:Ad)) hi;have hBk:=hf.block _ hmem;have e:=map_flat (Ek f) (f.Blocks.getD i default).Ops.length fun(k:Nat)=>P1 ((f.Blocks.getD i default).Ops.getD k default) i k
 have:=Vi 10000000 (fun j u=>(j,f.Params,f.Ret,f.Blocks,l,t,u)) (fun u=>(f.Params,f.Ret,f.Blocks,l,t,u)) (f.Blocks.getD i default).Ops.length (fun(k:Nat)=>(P1 ((f.Blocks.getD i default).Ops.getD k default) i k).map (Ek f)) (Cs f vs (i:Int)) (fun acc k hk hacc=>by
  have h1:=c_op1 hf l t vs i k hi hk acc hacc;have ht:Kd ((f.Blocks.getD i default).Ops.getD k default)=some (Iy ((f.Blocks.getD i default).Ops.getD k default)):=kind_Takes _ (opOk hf hmem (A8 hk));unfold Cs
  have hd:decide ((k:Int)<((f.Blocks.getD i default).Ops.length:Int))=true:=by simpa using hk
  simp only[Dw,hd,Aj,Am (A5 hk),ht,h1,Ax,Fk hk (by have:=hBk.ops;omega)]) (fun acc=>by unfold Cs;simp) (f.Blocks.getD i default).Ops.length 0 u (by omega) (by rw[e];exact hB)
 rw[e]at this;exact this
theorem c_collect (hfit : ∀ b ∈ f.Blocks, ∀ p ∈ b.Phis, p.Args.length ≤ p.From.length ∧ ∀ x ∈ p.From, Bd x f.Blocks.length) : Eo f l t vs [] = some (f, l, t, (Hd f).map (Ek f)) := by
  have e := map_flat (Ek f) f.Blocks.length fun (i : Nat) => usesB f (f.Blocks.getD i default) i; have hul := usesF_len hf
  have := Vi 10000000 (fun j u => (j, f.Params, f.Ret, f.Blocks, l, t, u)) (fun u => (f.Params, f.Ret, f.Blocks, l, t, u)) f.Blocks.length (fun (i : Nat) => (usesB f (f.Blocks.getD i default) i).map (Ek f)) (Ct f vs) (fun acc i hi hacc => by
    have hmem := A8 (d := (default : Ad)) hi; unfold usesB at hacc ⊢; rw [Yr, Yr, ← Aac, ← Aac] at hacc ⊢; have l1 := hacc; simp only [Fb, S8] at l1; have h1 := c_phis' hf l t vs i hi (hfit _ hmem) acc (by simp only [Fb, S8]; omega); have h2 := c_ops' hf l t vs i hi (acc ++ (Vt (f.Blocks.getD i default)).map (Ek f)) (by simp only [Fb, S8]; omega); have hinb : Bd (i : Int) f.Blocks.length := A5 hi; unfold Ct C9
    have hd : decide ((i : Int) < (f.Blocks.length : Int)) = true := by simpa using hi
    simp only [hd, Aj, Am (A5 hi), h1, Ax, h2, Dw]; have hF : (⟨f.Params, f.Ret, f.Blocks⟩ : TFunc) = f := rfl; have hw : Bb ((i : Int) + 1) = (i : Int) + 1 := Fk hi (by have := hf.blocks; omega); unfold Ym at hacc ⊢
    cases hz : ((f.Blocks.getD i default).End.Kind == 0) with
    | true =>
      have hz2 : ((f.Blocks.getD i default).End.Kind == 2) = false := by have : (f.Blocks.getD i default).End.Kind = 0 := by simpa using hz
                                                                         rw [this]; rfl
      rw [hz, hz2] at hacc; simp only [Aj, A0, hz2, List.append_nil, B0, C1] at hacc ⊢; rw [hF, c_end f l t vs _ hinb, Ax]; simp only; rw [c_use f l t vs _ _ _ _ (show (_ ++ [(⟨_, _, ⟨(i : Int), Me f (i : Int)⟩⟩ : Ao)]).length ≤ 10000000 from hacc), Ax, Ax, hw]
      rfl
    | false =>
      rw [hz] at hacc
      cases hz2 : ((f.Blocks.getD i default).End.Kind == 2) with
      | true =>
        rw [hz2] at hacc; simp only [Aj, A0, Wg, B0, C1] at hacc ⊢; rw [hF, c_end f l t vs _ hinb, Ax]; simp only; rw [c_use f l t vs _ _ _ _ (show (_ ++ [(⟨_, _, ⟨(i : Int), Me f (i : Int)⟩⟩ : Ao)]).length ≤ 10000000 from hacc), Ax, Ax, hw]
        rfl
      | false =>
        simp only [A0, Wg, C1, List.append_nil, Ax, hw]) (fun acc => by unfold Ct; simp) f.Blocks.length 0 [] (by omega) (by rw [e]; simpa [Hd] using (by omega : (Hd f).length ≤ 10000000))
  rw [e, Wg] at this; unfold Eo; rw [show (0 : Int) = ((0 : Nat) : Int) from rfl]
  show ((An (Ct f vs) (((0 : Nat) : Int), f.Params, f.Ret, f.Blocks, l, t, [])).bind _) = _
  rw [this, Ax]
  rfl
end
theorem allS{σ X:Type}(mk:Int->σ)(U:List Ao)(p:Ao->Bool)(f:σ->Option (LR σ X))(yes no:X)(hk:∀ i:Nat,i<U.length->f (mk i)=some (bif p (U.getD i default) then .next (mk ((i:Int)+1)) else .done no))(he:f (mk U.length)=some (.done yes)) :
  ∀ k i:Nat,i+k=U.length->An f (mk i)=some (bif (U.drop i).all p then yes else no)
 | 0,i,h=>by
  obtain rfl:i=U.length:=by omega
  rw[Aq he]
  simp
 | k+1,i,h=>by
  have hi:i<U.length:=by omega
  have hdr:U.drop i=U.getD i default::U.drop (i+1):=by rw[Uz hi,Ag _ _ _ hi]
  have hx:=hk i hi;rw[hdr,S9]
  cases hp:p (U.getD i default) with
  | true=>
   rw[hp]at hx;rw[Aw hx,show((i:Int)+1)=((i+1:Nat):Int) by omega,allS mk U p f yes no hk he k (i+1) (by omega),G2]
  | false=>
   rw[hp]at hx;rw[Aq hx]
   rfl
theorem findD_cons(d:J6)(l:List J6)(v:Int):L1 (d::l) v=bif d.V==v then 0 else bif decide (L1 l v<0) then -1 else L1 l v+1:=by
 unfold L1;rw[List.findIdx?_cons]
 cases d.V==v with
 | true=>rfl
 | false=>
  cases l.findIdx? (fun d=>d.V==v) with
  | none=>rfl
  | some i=>
   simp only[A0,U3];rw[Gl (by omega)]
   simp
theorem mhas_found(v:Int):∀ l:List J6,Ei (dv l) v = !decide (L1 l v<0)
 | []=>rfl
 | d::l=>by
  rw[findD_cons]
  show((v==d.V) || Ei (dv l) v)=_
  rw[mhas_found v l,show(v==d.V)=(d.V==v) by rw[Lr];simp;exact M1]
  cases d.V==v with
  | true=>rfl
  | false=>
   by_cases h:L1 l v<0
   ·simp[h]
   ·simp[h];omega
theorem W1(v:Int):∀ l:List J6,¬ L1 l v<0->Fq (default:Af) (dv l) v=valD (defOf l v)
 | [],h=>absurd (show(-1:Int)<0 by decide) h
 | d::l,h=>by
  unfold defOf;rw[findD_cons]at h ⊢
  show(bif v==d.V then valD d else Fq default (dv l) v)=_
  rw[show(v==d.V)=(d.V==v) by rw[Lr];simp;exact M1]
  cases hb:d.V==v with
  | true=>rfl
  | false=>
   rw[hb]at h
   by_cases hn:L1 l v<0
   ·simp[hn]at h
   ·have hz:decide (L1 l v<0)=false:=Gl hn;simp only[A0,hz];rw[W1 v l hn,show(L1 l v+1).toNat=(L1 l v).toNat+1 by omega]
    rfl
def DefIn(f:TFunc)(d:J6):Prop:=d.Block = -1\/(Bd d.Block f.Blocks.length/\d.At<Me f d.Block/\d.At<1000)
def UseIn(f:TFunc)(u:Qp):Prop:=Bd u.Block f.Blocks.length/\0<=u.At
theorem defs_in{f:TFunc}(hf:OkF f):∀ d∈B6 f,DefIn f d:=fun d hd=>by
 rcases zzL13.1 hd with h|h
 ·obtain⟨i,_,hi⟩:=zzL84.1 h;rw[zzL14.1 hi];exact .inl rfl
 ·obtain⟨i,hi,h⟩:=zzL84.1 h
  have hi:i<f.Blocks.length:=by simpa using hi
  have hB:=hf.block _ (A8 (d:=(default:Ad)) hi);have ho:Me f (i:Int)=((f.Blocks.getD i default).Ops.length:Int):=rfl;rcases zzL13.1 h with h|h
  ·obtain⟨k,hk,h⟩:=zzL84.1 h;rw[zzL14.1 h];refine .inr ⟨A5 hi,?_,?_⟩
   ·show(-1:Int)<Me f (i:Int);rw[ho];omega
   ·show(-1:Int)<1000;omega
  ·obtain⟨k,hk,h⟩:=zzL84.1 h
   have hk:k<(f.Blocks.getD i default).Ops.length:=by simpa using hk
   cases hg:decide (0<(Ns ((f.Blocks.getD i default).Ops.getD k default)).1) with
   | false=>rw[hg]at h;cases h
   | true=>
    rw[hg]at h;rw[zzL14.1 h];refine .inr ⟨A5 hi,?_,?_⟩
    ·show(k:Int)<Me f (i:Int);rw[ho];omega
    ·show(k:Int)<1000;have:=hB.ops;omega
theorem uses_in{f:TFunc}(hfit:∀ b∈f.Blocks,∀ p∈b.Phis,p.Args.length<=p.From.length/\∀ x∈p.From,Bd x f.Blocks.length):∀ u∈Hd f,UseIn f u:=fun u hu=>by
 obtain⟨i,hi,h⟩:=zzL84.1 hu
 have hi:i<f.Blocks.length:=by simpa using hi
 have hmem:=A8 (d:=(default:Ad)) hi;rcases zzL13.1 h with h|h
 ·rcases zzL13.1 h with h|h
  ·obtain⟨k,hk,h⟩:=zzL84.1 h
   have hk:k<(f.Blocks.getD i default).Phis.length:=by simpa using hk
   obtain⟨j,hj,h⟩:=zzL84.1 h;have hj:=zzL43.1 hj;have hq:=hfit _ hmem _ (A8 (d:=(default:Hg)) hk);rw[zzL14.1 h];exact⟨hq.2 _ (A8 (by omega)),by show(0:Int)<=1000;omega⟩
  ·obtain⟨k,hk,h⟩:=zzL84.1 h;obtain⟨j,hj,h⟩:=zzL84.1 h;rw[zzL14.1 h];exact⟨A5 hi,by show(0:Int)<=(k:Int);omega⟩
 ·unfold Ym at h
  have:u=⟨(f.Blocks.getD i default).End.Arg,i,1000,(f.Ret,1)⟩\/u=⟨(f.Blocks.getD i default).End.Arg,i,1000,(1,1)⟩:=by
   rcases zzL13.1 h with h|h
   ·cases hz:((f.Blocks.getD i default).End.Kind==0) with
    | true=>rw[hz]at h;exact .inl (zzL14.1 h)
    | false=>rw[hz]at h;cases h
   ·cases hz:((f.Blocks.getD i default).End.Kind==2) with
    | true=>rw[hz]at h;exact .inr (zzL14.1 h)
    | false=>rw[hz]at h;cases h
  rcases this with rfl|rfl<;>exact⟨A5 hi,by show(0:Int)<=1000;omega⟩
theorem fit_of{f:TFunc}(h:Gw f=true):∀ b∈f.Blocks,∀ p∈b.Phis,p.Args.length<=p.From.length/\∀ x∈p.From,Bd x f.Blocks.length:=fun b hb p hp=>by
 have hs:Mi f=true:=by simp only[Gw,A7]at h;exact h.1
 refine⟨shape_fit h b hb p hp,fun x hx=>?_⟩;obtain⟨i,hi,rfl⟩:=Rb hb;simp only[Gw,A7]at h;have h1:=allN h.2 i hi;simp only[Rl,A7,zzL33]at h1;rw[Ag _ _ _ hi]at h1;have h2:=h1.2 p hp;simp only[Ie,A7,Gs]at h2;rw[h2.1]at hx;obtain⟨q,rfl,hq,_⟩:=(Yd (L:=rowsF f) (O8 hs) (y:=i) (by rw[Mf];exact hi)).1 hx;exact A5 (by rw[Mf]at hq;exact hq)
theorem over_first{f:TFunc}(h:Gw f=true){b:Int}(hb:Bd b f.Blocks.length):Pv (Db f) 0 b=true:=by
 have hs:Mi f=true:=by simp only[Gw,A7]at h;exact h.1
 have hm:=O8 hs;have hlen:=Mf f
 have hpos:0<(rowsF f).length:=by have:=(shape_iff.1 hs).1.1;omega
 obtain⟨P,hP,o,ht⟩:=treeD_dom hm hpos
 have e:Db f=Wf (rowsF f) 0:=by
  unfold Db treeG;rw[if_pos ⟨Mb hm,Int.le_refl _,by show(0:Int)<((rowsF f).length:Int);omega⟩]
  rfl
 obtain⟨k,rfl⟩:∃ k:Nat,b=(k:Int):=⟨b.toNat,(N3 hb.1).symm⟩
 have hk:k<f.Blocks.length:=by have:=hb.2;omega
 simp only[Gw,A7]at h;have h1:=allN h.2 k hk;simp only[Rl,A7]at h1;have hr:Rch (sN (rowsF f)) 0 k:=(Ug (Nk hm) hpos k).1 h1.1.1;rw[e];refine(ht.over_dom o hpos (by omega)).2 ⟨rc_iff.2 hr,fun ha=>?_⟩;exact(av_iff.1 ha).1 rfl
theorem Tu{l:List Qp}{g:Qp->Ao}{p:Ao->Bool}{q:Qp->Bool}(h:∀ u∈l,p (g u)=q u):(l.map g).all p=l.all q:=by
 induction l with
 | nil=>rfl
 | cons a l ih=>rw[B0,S9,S9,h a (by simp),ih fun u hu=>h u (by simp[hu])]
def fitP(vs:List (Int×Af))(u:Ao):Bool:=((Fq (default:Af) vs u.v).shape.1==u.shape.1)&&(((Fq (default:Af) vs u.v).shape.2==u.shape.2)&&true)
def Wr(vs:List (Int×Af))(t:List Int)(u:Ao):Bool:=bif (Fq (default:Af) vs u.v).place.block==u.place.block then decide ((Fq (default:Af) vs u.v).place.at_<u.place.at_) else Pv t (Fq (default:Af) vs u.v).place.block u.place.block
theorem ahead_eq{f:TFunc}(hs:Gw f=true){D:List J6}(hD:∀ d∈D,DefIn f d){u:Qp}(hu:UseIn f u)(hfd:Oc D u=true):Wr (dv D) (Db f) (Ek f u)=Aay D (Db f) u:=by
 have hF:¬ L1 D u.V<0:=by simpa [Oc] using hfd
 have hin:=findD_in hF;have hd:DefIn f (defOf D u.V):=hD _ (by unfold defOf;exact A8 (by have:=hin.1;have:=hin.2;omega));have hg:Fq (default:Af) (dv D) (Ek f u).v=valD (defOf D u.V):=W1 u.V D hF;unfold Wr Aay;rw[hg]
 generalize defOf D u.V=d at *
 have hub:=hu.1.1
 have hul:0<=Me f u.Block:=by unfold Me;omega
 have hat:∀ a:Int,a<0\/(a<Me f u.Block/\a<1000)->decide (a<(Ek f u).place.at_)=decide (a<u.At)\/a<0:=fun a ha=>by
  rcases ha with ha|ha
  ·exact .inr ha
  ·refine .inl ?_
   show decide (a<bif u.At==1000 then Me f u.Block else u.At)=_
   by_cases h:u.At=1000
   ·rw[h];simp only[show((1000:Int)==1000)=true from rfl,Aj];rw[Fu ha.1,Fu ha.2]
   ·have:(u.At==1000)=false:=by simpa using h
    rw[this];rfl
 have hpos:0<=(Ek f u).place.at_:=by
  show 0<=bif u.At==1000 then Me f u.Block else u.At
  cases u.At==1000
  ·exact hu.2
  ·exact hul
 have hblk:(Ek f u).place.block=u.Block:=rfl;rw[hblk];rcases hd with hd|⟨hd1,hd2,hd3⟩
 ·have e:(valD d).place=⟨0,-1⟩:=by show atD d=_;unfold atD;rw[hd];rfl
  rw[e,hd,Fu (show(-1:Int)<0 by decide)]
  show(bif (0:Int)==u.Block then decide ((-1:Int)<(Ek f u).place.at_) else Pv (Db f) 0 u.Block)=_
  rw[Bool.true_or,Bool.true_or,over_first hs hu.1,Fu (show(-1:Int)<(Ek f u).place.at_ by omega)]
  cases(0:Int)==u.Block<;>rfl
 ·have hn:¬ d.Block<0:=by have:=hd1.1;omega
  have e:(valD d).place=⟨d.Block,d.At⟩:=by show atD d=_;unfold atD;rw[Gl hn];rfl
  rw[e,Gl hn,zzL142]
  show(bif d.Block==u.Block then decide (d.At<(Ek f u).place.at_) else Pv (Db f) d.Block u.Block)=_
  cases hb:d.Block==u.Block with
  | true=>
   have hbe:d.Block=u.Block:=by simpa using hb
   simp only[Aj,G2,E6,Wh,Bool.or_false];rcases hat d.At (.inr ⟨by rw[<- hbe];exact hd2,hd3⟩) with h|h
   ·exact h
   ·rw[Fu (by omega),Fu (by have:=hu.2;omega)]
  | false=>
   simp only[A0,Wh,zzL142,Mp,G2];unfold Pv
   by_cases hm:N1 (Db f) d.Block u.Block=d.Block
   ·rw[hm]
    have:(d.Block !=-2)=true:=by simp;omega
    simp[this]
   ·have:(N1 (Db f) d.Block u.Block==d.Block)=false:=by simpa using hm
    simp[this,bne]
section
variable {f:TFunc} (l:Int) (vs:List (Int×Af))
def stU(f:TFunc)(l:Int)(U:List Ao)(i:Int):Int×List Int×Int×List Ad×Int×List Int×List Ao:=(i,f.Params,f.Ret,f.Blocks,l,Db f,U)
def stX(f:TFunc)(l:Int)(U:List Ao):List Int×Int×List Ad×Int×List Int×List Ao:=(f.Params,f.Ret,f.Blocks,l,Db f,U)
theorem c_used1(U:List Ao)(hU:U.length<9223372036854775808):An (Cv vs (f,l,Db f,U)) (stU f l U 0)=some (bif U.all (fun u=>Ei vs u.v) then .inl (stX f l U) else .inr (stX f l U)):=by
 have:=allS (stU f l U) U (fun u=>Ei vs u.v) (Cv vs (f,l,Db f,U)) (.inl (stX f l U)) (.inr (stX f l U)) (fun i hi=>by
  unfold Cv stU Gh
  have hd:decide ((i:Int)<(U.length:Int))=true:=by simpa using hi
  simp only[hd,Aj,Am (A5 hi),Dw,Ax,Fk hi hU]
  cases Ei vs (U.getD i default).v<;>rfl) (by unfold Cv stU;simp;rfl) U.length 0 (by omega)
 rw[N6]at this;exact this
theorem c_used2(U:List Ao)(hU:U.length<9223372036854775808):An (Cw vs U) (stU f l U 0)=some (bif U.all (fitP vs) then .inl (stX f l U) else .inr (stX f l U)):=by
 have:=allS (stU f l U) U (fitP vs) (Cw vs U) (.inl (stX f l U)) (.inr (stX f l U)) (fun i hi=>by
  unfold Cw stU Hs
  have hd:decide ((i:Int)<(U.length:Int))=true:=by simpa using hi
  simp only[hd,Aj,Am (A5 hi),Dw,Ax,Fk hi hU];unfold fitP
  cases(((Fq (default:Af) vs (U.getD i default).v).shape.1==(U.getD i default).shape.1)&&(((Fq (default:Af) vs (U.getD i default).v).shape.2==(U.getD i default).shape.2)&&true))<;>rfl) (by unfold Cw stU;simp;rfl) U.length 0 (by omega)
 rw[N6]at this;exact this
theorem c_used3(htl:(Db f).length<=1000)(U:List Ao)(hU:U.length<9223372036854775808):An (Cx vs U) (stU f l U 0)=some (bif U.all (Wr vs (Db f)) then .inl (stX f l U) else .inr (stX f l U)):=by
 have:=allS (stU f l U) U (Wr vs (Db f)) (Cx vs U) (.inl (stX f l U)) (.inr (stX f l U)) (fun i hi=>by
  have hx:Er (U.getD i default) f l (Db f) vs U=some (Wr vs (Db f) (U.getD i default),f,l,Db f,U):=by
   unfold Er Wr;rw[m_Over htl]
   cases(Fq (default:Af) vs (U.getD i default).v).place.block==(U.getD i default).place.block<;>rfl
  unfold Cx stU
  have hd:decide ((i:Int)<(U.length:Int))=true:=by simpa using hi
  simp only[hd,Aj,Am (A5 hi),Dw];rw[show(⟨f.Params,f.Ret,f.Blocks⟩:TFunc)=f from rfl,hx,Ax,Fk hi hU]
  cases Wr vs (Db f) (U.getD i default)<;>rfl) (by unfold Cx stU;simp;rfl) U.length 0 (by omega)
 rw[N6]at this;exact this
end
def usedD(f:TFunc):Int:=bif !(Hd f).all (Oc (B6 f)) then 7 else bif !(Hd f).all (okFit (B6 f)) then 6 else bif !(Hd f).all (Aay (B6 f) (Db f)) then 7 else 0
theorem c_used{f:TFunc}(hf:OkF f)(hs:Gw f=true)(l:Int):∃ U,F7 f l (Db f) (dv (B6 f)) []=some (usedD f,f,l,Db f,U):=by
 have hfit:=fit_of hs;have hul:=usesF_len hf
 have hsB:Mi f=true:=by simp only[Gw,A7]at hs;exact hs.1
 refine⟨(Hd f).map (Ek f),?_⟩
 have hU:((Hd f).map (Ek f)).length<9223372036854775808:=by rw[S8];omega
 have h1:=c_used1 (f:=f) l (dv (B6 f)) _ hU;have h2:=c_used2 (f:=f) l (dv (B6 f)) _ hU;have h3:=c_used3 (f:=f) l (dv (B6 f)) (tree_len hsB) _ hU;rw[Tu (q:=Oc (B6 f)) (fun u _=>mhas_found u.V _)]at h1;unfold F7 usedD My;rw[c_collect hf l (Db f) (dv (B6 f)) hfit,Ax];simp only;rw[show(An (Cv (dv (B6 f)) (f,l,Db f,(Hd f).map (Ek f))) ((0:Int),f.Params,f.Ret,f.Blocks,l,Db f,(Hd f).map (Ek f)))=_ from h1,Ax];have fin:∀ e:Int,An H5 (e,f.Params,f.Ret,f.Blocks,l,Db f,(Hd f).map (Ek f))=some (e,f,l,Db f,(Hd f).map (Ek f)):=fun e=>Aq rfl
 cases hfd:(Hd f).all (Oc (B6 f)) with
 | false=>simp only[A0,Mp,Aj,stX,Ax,fin]
 | true=>
  have hmf:=zzL33.1 hfd
  rw[Tu (q:=okFit (B6 f)) (fun u hu=>by
   have:=hmf u hu;simp only[Oc,Pg,zzL131]at this;have hg:Fq (default:Af) (dv (B6 f)) (Ek f u).v=valD (defOf (B6 f) u.V):=W1 u.V _ this;unfold fitP okFit
   rw[hg];rfl)]at h2
  rw[Tu (q:=Aay (B6 f) (Db f)) (fun u hu=>ahead_eq hs (defs_in hf) (uses_in hfit u hu) (hmf u hu))]at h3;simp only[Aj,E6,A0,stX];rw[show(An (Cw (dv (B6 f)) ((Hd f).map (Ek f))) ((0:Int),f.Params,f.Ret,f.Blocks,l,Db f,(Hd f).map (Ek f)))=_ from h2,Ax]
  cases(Hd f).all (okFit (B6 f)) with
  | false=>simp only[A0,Mp,Aj,stX,Ax,fin]
  | true=>
   simp only[Aj,E6,A0,stX];rw[show(An (Cx (dv (B6 f)) ((Hd f).map (Ek f))) ((0:Int),f.Params,f.Ret,f.Blocks,l,Db f,(Hd f).map (Ek f)))=_ from h3,Ax]
   cases(Hd f).all (Aay (B6 f) (Db f)) with
   | false=>simp only[A0,Mp,Aj,stX,Ax,fin]
   | true=>simp only[Aj,E6,A0,stX,Ax]
theorem c_wrong{f:TFunc}(h:Sm f)(l:Int)(h0:0<=l)(h2:l<=2):∃ t u vs,Fh f l [] []=some (Ir f l,f,l,t,u,vs)/\(Ir f l=0->vs=dv (B6 f)):=by
 have hc:Ir f l=bif !Tf f then 4 else wrongD f l:=by
  unfold Ir;rw[Gl (by omega),Gl (by omega)];rfl
 rw[hc];unfold Fh;rw[c_told f h.1,Ax]
 cases hm:Tf f with
 | false=>exact⟨[],[],[],rfl,fun h=>by cases h⟩
 | true=>
  have hf:=sm_ok h hm;simp only[Aj,E6,A0,show((0:Int)!=0)=false from rfl,wrongD];obtain⟨t',hsh,hst⟩:=c_shaped hf l [] [];rw[hsh,Ax]
  cases hs:Gw f with
  | false=>exact⟨t',[],[],rfl,fun h=>by cases h⟩
  | true=>
   obtain rfl:=hst hs;simp only[Aj,E6,A0,show((0:Int)!=0)=false from rfl];rw[c_typed hf l h0 h2,Ax]
   cases Zy f l with
   | false=>exact⟨Db f,[],[],rfl,fun h=>by cases h⟩
   | true=>
    simp only[Aj,E6,A0,show((0:Int)!=0)=false from rfl];obtain⟨vs,hd,hv⟩:=c_defined hf l (Db f) [];rw[hd,Ax]
    cases hdd:(List.range (B6 f).length).all (O0 (B6 f)) with
    | false=>exact⟨Db f,[],vs,rfl,fun h=>by cases h⟩
    | true=>
     obtain rfl:=hv hdd;simp only[Aj,E6,A0,show((0:Int)!=0)=false from rfl];obtain⟨U,hu⟩:=c_used hf hs l;rw[hu,Ax];refine⟨Db f,U,dv (B6 f),?_,fun _=>rfl⟩
     show(bif usedD f !=0 then some (usedD f,f,l,Db f,U,dv (B6 f)) else some (0,f,l,Db f,U,dv (B6 f)))=some (usedD f,f,l,Db f,U,dv (B6 f))
     cases hz:usedD f !=0 with
     | true=>rfl
     | false=>
      have:usedD f=0:=by simpa using hz
      rw[this];rfl
theorem c_check(f:TFunc)(l:Int)(h:Sm f):Kw f l=some (Ir f l):=by
 unfold Kw
 by_cases h0:l<0
 ·rw[Fu h0];unfold Ir;rw[Fu h0];rfl
 ·by_cases h2:2<l
  ·rw[Gl h0,Fu h2];unfold Ir;rw[Gl h0,Fu h2];rfl
  ·obtain⟨t,u,vs,hw,_⟩:=c_wrong h l (by omega) (by omega);rw[Gl h0,Gl h2,hw];rfl
abbrev bA(f:TFunc)(i:Nat):Ad:=f.Blocks.getD i default
def El(f:TFunc)(i:Nat)(k:Nat):Int:=(bA f i).End.To.getD k 0
def prF(f:TFunc)(i:Nat):List Int:=(A4 (rowsF f)).getD i []
def Pk(f:TFunc)(a x:Int):Bool:=((bA f x.toNat).End.Kind==1)&&decide ((bA f x.toNat).Phis.length=0)&&decide (prF f x.toNat=[a])
structure Rt(f:TFunc):Prop where
 lo:1<=f.Blocks.length
 hi:f.Blocks.length<=64
 to:∀ i,i<f.Blocks.length->∀ k,k<(bA f i).End.To.length->0<El f i k/\El f i k<f.Blocks.length
 one:∀ i,i<f.Blocks.length->(bA f i).End.Kind=1->(bA f i).End.To.length=1
 two:∀ i,i<f.Blocks.length->(bA f i).End.Kind=2->(bA f i).End.To.length=2
 may:G4 (rowsF f)=true
 ok:OkF f
theorem rt_of{f:TFunc}(h:Sm f)(hc:Ir f 2=0):Rt f:=by
 have hz:=(Rn (f:=f) (l:=2) (by omega) (by omega)).1 hc
 have hs:Mi f=true:=by
  have:=hz.2.1;unfold Gw at this;rw[A7]at this;exact this.1
 obtain⟨⟨h1,h2⟩,h3⟩:=shape_iff.1 hs
 have hw:∀ i,i<f.Blocks.length->(((bA f i).End.To.length:Nat):Int)=wantK (bA f i).End.Kind:=fun i hi=>by
  have:=h3 i hi;unfold N0 kindB at this;simp only[A7,Gs]at this;exact this.1.2
 refine⟨h1,h2,fun i hi k hk=>?_,fun i hi hk=>?_,fun i hi hk=>?_,O8 hs,sm_ok h hz.1⟩
 ·exact toB_iff.1 (fits_to (h3 i hi)) _ (A8 (d:=0) hk)
 ·have:=hw i hi;rw[hk,show wantK 1=1 from rfl]at this;omega
 ·have:=hw i hi;rw[hk,show wantK 2=2 from rfl]at this;omega
theorem rows_at{f:TFunc}{i:Nat}(hi:i<f.Blocks.length):(rowsF f).getD i []=Yi (bA f i).End.To:=by
 unfold rowsF;rw[Pq hi];rfl
theorem pr_len(f:TFunc):(A4 (rowsF f)).length=f.Blocks.length:=by rw[Dj,Mf]
theorem c_by{f:TFunc}(R:Rt f)(a x:Int)(hx:Bd x f.Blocks.length):Ea x f.Blocks (A4 (rowsF f)) a=some (bif Pk f a x then(x,El f x.toNat 0,true) else(-1,-1,false)):=by
 have hxn:x.toNat<f.Blocks.length:=by have:=hx.1;have:=hx.2;omega
 unfold Ea Pk;rw[Am hx]
 have hlen:Bd x (A4 (rowsF f)).length:=by rw[pr_len];exact hx
 rw[Am (fun _=>hlen)]
 by_cases hk:(bA f x.toNat).End.Kind=1
 ·have hk':((f.Blocks.getD x.toNat default).End.Kind !=1)=false:=by simpa using hk
  have hto:=R.one _ hxn hk
  by_cases hp:(bA f x.toNat).Phis.length=0
  ·have hp':decide ((0:Int)<((f.Blocks.getD x.toNat default).Phis.length:Int))=false:=by rw[show(f.Blocks.getD x.toNat default).Phis.length=0 from hp];rfl
   rw[hk',A0,hp',show((false:Bool)==false)=true from rfl,Aj,m_equal _ _ (by simp),Ax,A0]
   have e1:((bA f x.toNat).End.Kind==1)=true:=by simpa using hk
   rw[e1,Fu hp,G2,G2];unfold prF El
   cases decide ((A4 (rowsF f)).getD x.toNat []=[a]) with
   | true=>rw[E6,A0,Am (show Bd (0:Int) (f.Blocks.getD x.toNat default).End.To.length from⟨by omega,by rw[show(f.Blocks.getD x.toNat default).End.To.length=1 from hto];omega⟩)];rfl
   | false=>rfl
  ·have hp':decide ((0:Int)<((f.Blocks.getD x.toNat default).Phis.length:Int))=true:=Fu (by have:(f.Blocks.getD x.toNat default).Phis.length≠0:=hp;omega);rw[hk',A0,hp',show((true:Bool)==false)=false from rfl,A0,Ax,Aj,Aj,Gl hp,Bool.and_false,Wh,A0]
 ·have hk':((f.Blocks.getD x.toNat default).End.Kind !=1)=true:=by simpa using hk
  have e1:((bA f x.toNat).End.Kind==1)=false:=by simpa using hk
  rw[hk',Aj,show((true:Bool)==false)=false from rfl,A0,Ax,Aj,Aj,e1,Wh,Wh,A0]
def zH:Ac:=⟨0,0,0,0⟩
def c1H(f:TFunc)(a:Int)(x y:Int):Bool:=Pk f a x&&Pk f a y&&(El f x.toNat 0==El f y.toNat 0)&&!(El f x.toNat 0==a)
def c2H(f:TFunc)(a:Int)(x y:Int):Bool:=Pk f a x&&(El f x.toNat 0==y)&&!(y==a)
def Wx(f:TFunc)(i:Nat):Option Ac:=
 bif ((bA f i).End.Kind==2)&&!(El f i 0==El f i 1) then
  bif c1H f i (El f i 0) (El f i 1) then some ⟨i,El f i 0,El f i 1,El f (El f i 0).toNat 0⟩ else
  bif c2H f i (El f i 0) (El f i 1) then some ⟨i,El f i 0,-1,El f i 1⟩ else
  bif c2H f i (El f i 1) (El f i 0) then some ⟨i,-1,El f i 1,El f i 0⟩ else none
 else none
section
variable {f:TFunc} (R:Rt f) {a:Int} {i:Nat} (hi:i<f.Blocks.length) (hk:(bA f i).End.Kind=2)
include R hi hk
theorem Ur(k:Nat)(hk2:k<2):Bd (El f i k) f.Blocks.length:=by
 have:=R.to i hi k (by rw[R.two i hi hk];exact hk2);exact⟨by omega,this.2⟩
theorem c_meet1:Ht i (bA f i).End.To f.Blocks (A4 (rowsF f)) i f.Blocks (A4 (rowsF f)) i =
  some (bif c1H f i (El f i 0) (El f i 1) then(⟨i,El f i 0,El f i 1,El f (El f i 0).toNat 0⟩,true) else(zH,false)):=by
 have h2:=R.two i hi hk;unfold Ht;rw[Am (show Bd (0:Int) (bA f i).End.To.length from⟨by omega,by omega⟩)];have e0:=c_by R i (El f i 0) (Ur R hi hk 0 (by omega));have e1:=c_by R i (El f i 1) (Ur R hi hk 1 (by omega));have g0:(bA f i).End.To.getD (0:Int).toNat 0=El f i 0:=rfl;have g1:(bA f i).End.To.getD (1:Int).toNat 0=El f i 1:=rfl;rw[g0,g1,e0,Ax,Am (show Bd (1:Int) (bA f i).End.To.length from⟨by omega,by omega⟩),e1,Ax];unfold c1H
 cases Pk f i (El f i 0) with
 | false=>rfl
 | true=>
  cases Pk f i (El f i 1) with
  | false=>rfl
  | true=>
   simp only[Aj,E6,A0,G2,bne]
   cases(El f (El f i 0).toNat 0==El f (El f i 1).toNat 0) with
   | false=>rfl
   | true=>cases(El f (El f i 0).toNat 0==(i:Int))<;>rfl
theorem c_meet2:Ga i (bA f i).End.To f.Blocks (A4 (rowsF f)) i =
  some (bif c2H f i (El f i 0) (El f i 1) then(⟨i,El f i 0,-1,El f i 1⟩,true) else(zH,false)):=by
 have h2:=R.two i hi hk;unfold Ga;rw[Am (show Bd (0:Int) (bA f i).End.To.length from⟨by omega,by omega⟩)];have e0:=c_by R i (El f i 0) (Ur R hi hk 0 (by omega));have g0:(bA f i).End.To.getD (0:Int).toNat 0=El f i 0:=rfl;have g1:(bA f i).End.To.getD (1:Int).toNat 0=El f i 1:=rfl;rw[g0,g1,e0,Ax,Am (show Bd (1:Int) (bA f i).End.To.length from⟨by omega,by omega⟩),Gi,Ax];unfold c2H
 cases Pk f i (El f i 0) with
 | false=>rfl
 | true=>
  simp only[Aj,E6,A0,G2,bne]
  cases h:(El f (El f i 0).toNat 0==El f i 1) with
  | false=>rfl
  | true=>
   have h':El f (El f i 0).toNat 0=El f i 1:=by simpa using h
   rw[h']
   cases(El f i 1==(i:Int))<;>rfl
theorem c_meet3:Gb i (bA f i).End.To f.Blocks (A4 (rowsF f)) i =
  some (bif c2H f i (El f i 1) (El f i 0) then(⟨i,-1,El f i 1,El f i 0⟩,true) else(zH,false)):=by
 have h2:=R.two i hi hk;unfold Gb;rw[Am (show Bd (0:Int) (bA f i).End.To.length from⟨by omega,by omega⟩)];have e1:=c_by R i (El f i 1) (Ur R hi hk 1 (by omega));have g0:(bA f i).End.To.getD (0:Int).toNat 0=El f i 0:=rfl;have g1:(bA f i).End.To.getD (1:Int).toNat 0=El f i 1:=rfl;rw[g0,g1,Gi,Ax,Am (show Bd (1:Int) (bA f i).End.To.length from⟨by omega,by omega⟩),e1,Ax];unfold c2H
 cases Pk f i (El f i 1) with
 | false=>rfl
 | true=>
  simp only[Aj,E6,A0,G2,bne];rw[show(El f i 0==El f (El f i 1).toNat 0)=(El f (El f i 1).toNat 0==El f i 0) by rw[Lr,zzL59,zzL59];exact M1]
  cases(El f (El f i 1).toNat 0==El f i 0) with
  | false=>rfl
  | true=>cases(El f i 0==(i:Int))<;>rfl
end
def allH(f:TFunc):List Ac:=(List.range f.Blocks.length).flatMap fun i=>(Wx f i).toList
theorem toList_le{α:Type}(o:Option α):o.toList.length<=1:=by cases o<;>simp
theorem all_step{f:TFunc}(R:Rt f){i:Nat}(hi:i<f.Blocks.length)(l:List Ac)(hl:l.length<=0+i*1)(c:Int) :
  Fo f (H3 (rowsF f),c) (l,(i:Int))=some (.next (l++(Wx f i).toList,(i:Int)+1)):=by
 have hroom:(1000:Nat)<=room:=by decide
 have hi64:=R.hi;unfold Fo Wx;have hg:f.Blocks.getD (i:Int).toNat default=bA f i:=rfl;simp only[hg,E8 hi,Aj,Am (A5 hi),w1 (show i<4611686018427387904 by omega)]
 have hap:∀ h:Ac,l.length+([h]:List Ac).length<=room:=fun h=>by simp;omega
 have ie:((i+1:Nat):Int)=(i:Int)+1:=by omega
 by_cases hk:(bA f i).End.Kind=2
 ·have hk':((bA f i).End.Kind !=2)=false:=by simpa using hk
  have hk2:((bA f i).End.Kind==2)=true:=by simpa using hk
  have h2:=R.two i hi hk;have i0:Bd (0:Int) (bA f i).End.To.length:=⟨by omega,by omega⟩;have i1:Bd (1:Int) (bA f i).End.To.length:=⟨by omega,by omega⟩;simp only[hk',hk2,Am (fun _=>i0),Am (fun _=>i1),A0,G2];have g0:(bA f i).End.To.getD (0:Int).toNat 0=El f i 0:=rfl;have g1:(bA f i).End.To.getD (1:Int).toNat 0=El f i 1:=rfl;rw[g0,g1]
  cases(El f i 0==El f i 1) with
  | true=>simp[ie]
  | false=>
   have hpred:(H3 (rowsF f)).Pred=A4 (rowsF f):=rfl;simp only[A0,Mp,Aj,K5,Ax,hpred,c_meet1 R hi hk,c_meet2 R hi hk,c_meet3 R hi hk]
   cases c1H f i (El f i 0) (El f i 1) with
   | true=>simp only[Aj];rw[Ae (hap _)];simp[ie]
   | false=>
    simp only[A0]
    cases c2H f i (El f i 0) (El f i 1) with
    | true=>simp only[Aj];rw[Ae (hap _)];simp[ie]
    | false=>
     simp only[A0]
     cases c2H f i (El f i 1) (El f i 0) with
     | true=>simp only[Aj];rw[Ae (hap _)];simp[ie]
     | false=>simp[ie]
 ·have hk':((bA f i).End.Kind !=2)=true:=by simpa using hk
  have hk2:((bA f i).End.Kind==2)=false:=by simpa using hk
  simp only[hk',hk2,Aj,Wh,A0];rw[Am (fun h=>by cases h),Am (fun h=>by cases h)];simp[ie]
theorem m_All{f:TFunc}(h:Sm f):F2 f=some (bif Ir f 2==0 then allH f else[]):=by
 have hmax:f.Blocks.length<=maxLen:=h.1.blocks;unfold F2;rw[c_check f 2 h,Ax]
 by_cases hc:Ir f 2=0
 ·have R:=rt_of h hc
  have hs:Mi f=true:=by
   have:=((Rn (f:=f) (l:=2) (by omega) (by omega)).1 hc).2.1;unfold Gw at this;rw[A7]at this;exact this.1
  rw[hc,show((0:Int)!=0)=false from rfl,show((0:Int)==0)=true from rfl,A0,Aj,m_of f hmax,hs,Aj,Ax];have hL:=loop_flat f.Blocks.length 0 1 (fun i=>(Wx f i).toList) (fun i _=>toList_le _) (Fo f (H3 (rowsF f),0)) (fun acc i hi ha=>all_step R hi acc ha 0)
   (fun acc=>by unfold Fo;simp only[I6,A0]) f.Blocks.length 0 [] (by omega) (by simp)
  have hL':An (Fo f (H3 (rowsF f),0)) (([]:List Ac),(0:Int))=_:=hL;rw[hL',Ax];unfold My allH;rw[Yp];rfl
 ·have e1:((Ir f 2)!=0)=true:=by simpa using hc
  have e2:((Ir f 2)==0)=false:=by simpa using hc
  rw[e1,e2,Aj,A0]
  rfl
theorem ham_at{f:TFunc}{i:Nat}{h:Ac}(hh:Wx f i=some h):h.At=i:=by
 unfold Wx at hh
 revert hh
 cases(((bA f i).End.Kind==2)&&!(El f i 0==El f i 1))<;>cases c1H f i (El f i 0) (El f i 1)<;>cases c2H f i (El f i 0) (El f i 1)<;>cases c2H f i (El f i 1) (El f i 0)<;>intro hh<;>cases hh<;>rfl
theorem mem_all{f:TFunc}{h:Ac}:h∈allH f↔∃ i,i<f.Blocks.length/\Wx f i=some h:=by
 unfold allH;rw[zzL84]
 constructor
 ·rintro⟨i,h1,h2⟩;exact⟨i,zzL43.1 h1,by simpa using h2⟩
 ·rintro⟨i,h1,h2⟩;exact⟨i,zzL43.2 h1,by simpa using h2⟩
theorem all_len{f:TFunc}:(allH f).length<=f.Blocks.length:=by
 unfold allH;have:=Jn 1 (fun i=>(Wx f i).toList) (List.range f.Blocks.length) (fun i _=>toList_le _)
 simpa using this
def isH(f:TFunc)(h:Ac):Bool:=decide (Bd h.At f.Blocks.length)&&decide (Wx f h.At.toNat=some h)
theorem is_mem{f:TFunc}{h:Ac}:isH f h=true↔h∈allH f:=by
 unfold isH;rw[mem_all,A7,Gs,Gs]
 constructor
 ·rintro⟨h1,h2⟩;exact⟨_,by have:=h1.1;have:=h1.2;omega,h2⟩
 ·rintro⟨i,h1,h2⟩;have:=ham_at h2;exact⟨by rw[this];exact A5 h1,by rw[this,Au];exact h2⟩
def okF(f:TFunc):Bool:=Ir f 2==0
def Kt(f:TFunc):List Ac:=bif okF f then allH f else[]
def isHR(f:TFunc)(h:Ac):Bool:=okF f&&isH f h
theorem isHR_mem{f:TFunc}{h:Ac}:isHR f h=true↔h∈Kt f:=by
 unfold isHR Kt
 cases okF f with
 | true=>rw[G2];exact is_mem
 | false=>simp
theorem m_All'{f:TFunc}(h:Sm f):F2 f=some (Kt f):=m_All h
theorem allHR_len{f:TFunc}:(Kt f).length<=f.Blocks.length:=by
 unfold Kt;cases okF f
 ·simp
 ·exact all_len
theorem small_n{f:TFunc}(h:Sm f):(Kt f).length<4611686018427387904:=by
 by_cases hc:okF f=true
 ·have:=(rt_of h (by simpa [okF] using hc)).hi;have:=allHR_len (f:=f);omega
 ·unfold Kt;rw[Bool.eq_false_iff.2 hc];simp
theorem Zd {f : TFunc} (R : Rt f) {i : Nat} (hi : i < f.Blocks.length) {h : Ac} (hh : Wx f i = some h) :
    (bA f i).End.Kind = 2 ∧ El f i 0 ≠ El f i 1 ∧ Bd h.Join f.Blocks.length ∧ h.Join ≠ i ∧
    ((h.Then = El f i 0 ∧ h.Else = El f i 1 ∧ Pk f i h.Then = true ∧ Pk f i h.Else = true ∧ El f h.Then.toNat 0 = h.Join ∧ El f h.Else.toNat 0 = h.Join) ∨
     (h.Then = El f i 0 ∧ h.Else = -1 ∧ h.Join = El f i 1 ∧ Pk f i h.Then = true ∧ El f h.Then.toNat 0 = h.Join) ∨
     (h.Then = -1 ∧ h.Else = El f i 1 ∧ h.Join = El f i 0 ∧ Pk f i h.Else = true ∧ El f h.Else.toNat 0 = h.Join)) := by
  unfold Wx at hh
  cases hk : (((bA f i).End.Kind == 2) && !(El f i 0 == El f i 1)) with
  | false => rw [hk] at hh; cases hh
  | true =>
    rw [hk, Aj] at hh; simp only [A7, zzL59, Pg, zzL37] at hk; obtain ⟨hk1, hk2⟩ := hk; have t0 := Ur R hi hk1 0 (by omega); have t1 := Ur R hi hk1 1 (by omega)
    have hb : ∀ x, Bd x f.Blocks.length → Pk f i x = true → Bd (El f x.toNat 0) f.Blocks.length := fun x hx hm => by
      have hxn : x.toNat < f.Blocks.length := by have := hx.1; have := hx.2; omega
      unfold Pk at hm; simp only [A7, zzL59] at hm; have := R.to _ hxn 0 (by rw [R.one _ hxn hm.1.1]; omega); exact ⟨by omega, this.2⟩
    refine ⟨hk1, hk2, ?_⟩
    cases h1 : c1H f i (El f i 0) (El f i 1) with
    | true =>
      rw [h1, Aj] at hh; cases hh; unfold c1H at h1; simp only [A7, zzL59, Pg, zzL37] at h1; obtain ⟨⟨⟨a1, a2⟩, a3⟩, a4⟩ := h1; exact ⟨hb _ t0 a1, a4, .inl ⟨rfl, rfl, a1, a2, rfl, a3.symm⟩⟩
    | false =>
      rw [h1, A0] at hh
      cases h2 : c2H f i (El f i 0) (El f i 1) with
      | true =>
        rw [h2, Aj] at hh; cases hh; unfold c2H at h2; simp only [A7, zzL59, Pg, zzL37] at h2; obtain ⟨⟨a1, a3⟩, a4⟩ := h2; exact ⟨t1, a4, .inr (.inl ⟨rfl, rfl, rfl, a1, a3⟩)⟩
      | false =>
        rw [h2, A0] at hh
        cases h3 : c2H f i (El f i 1) (El f i 0) with
        | true =>
          rw [h3, Aj] at hh; cases hh; unfold c2H at h3; simp only [A7, zzL59, Pg, zzL37] at h3; obtain ⟨⟨a1, a3⟩, a4⟩ := h3; exact ⟨t0, a4, .inr (.inr ⟨rfl, rfl, rfl, a1, a3⟩)⟩
        | false => rw [h3] at hh; cases hh
theorem mid_kind{f:TFunc}{a x:Int}(hm:Pk f a x=true):(bA f x.toNat).End.Kind=1:=by
 unfold Pk at hm;simp only[A7,zzL59]at hm;exact hm.1.1
def lone(e:I4)(b r:Int):TFunc:=⟨[b],r,[⟨[],[],e⟩]⟩
theorem ones{α:Type}(l:List α):(l.map fun _=>1).sum=l.length:=by induction l with|nil=>rfl|cons a l ih=>simp[ih];omega
set_option maxRecDepth 100000
theorem m_awake14:m_locksteplaw14_awake=some true:=by kernel_rfl
theorem small11_sum{f:TFunc}(hf:InF f):An (Be f) ((0:Int),(0:Int))=some (sizeW f):=by
 have hl:=Zh f.Blocks (default:Ad) sizeB id (Be f) (fun n i hi=>by
   have e1:decide ((i:Int)<(f.Blocks.length:Int))=true:=by simpa using hi
   unfold Be;simp only[e1,Aj,Am (A5 hi),Dw,Ih hi hf.blocks]
   congr 3
   rw[Yn,Yn,Int.add_assoc (Bb _),Yn];unfold sizeB
   congr 1
   omega) (fun n=>by
   unfold Be
   simp) f.Blocks.length 0 0 (Fl _)
 rw[N6]at hl;rw[show Bb ((0:Nat):Int)=0 from rfl,show((0:Nat):Int)=0 from rfl]at hl;rw[hl];simp[P0,sizeW]
theorem m_small16{f:TFunc}(hf:InF f):∃ b,Di f=some b/\(b=true->Sm f/\(Tf f=true->f.Blocks.length<=16)):=by
 obtain⟨b,h1,h2⟩:=m_small11 hf;refine⟨b,h1,fun hb=>⟨h2 hb,fun hm=>?_⟩⟩;unfold Di at h1;rw[small11_sum hf,Ax]at h1;obtain⟨y,hy,h1⟩:=bind_some h1;have h3:=OI h1;rw[hb]at h3;unfold Tf at hm;simp only[A7,Gs]at hm;obtain⟨⟨⟨⟨⟨⟨_,g1⟩,_⟩,_⟩,_⟩,g2⟩,_⟩:=hm;rw[Gl (show ¬ (512:Int)<sizeW f by omega),Gl (show ¬ ((64:Int):Int)<(f.Blocks.length:Int) by omega)]at h3
 by_cases hn:(f.Blocks.length:Int)<=16
 ·omega
 ·rw[Gl hn]at h3
  revert h3
  cases y<;>simp
theorem okF_may{f:TFunc}(h:okF f=true):Tf f=true:=((Rn (f:=f) (l:=2) (by omega) (by omega)).1 (by simpa [okF] using h)).1
theorem mid_at{f:TFunc}(R:Rt f){v:Ac}(hv:v∈allH f){x:Int}(hx:0<=x)(he:x=v.Then\/x=v.Else):prF f x.toNat=[v.At]:=by
 obtain⟨i,hin,ho⟩:=mem_all.1 hv;have ea:=ham_at ho;obtain⟨_,_,_,_,hcs⟩:=Zd R hin ho
 have g:∀ y:Int,Pk f i y=true->prF f y.toNat=[v.At]:=fun y hm=>by
  unfold Pk at hm;simp only[A7,Gs]at hm;rw[ea];exact hm.2
 rcases hcs with⟨a,b,c,d,_⟩|⟨a,b,_,d,_⟩|⟨a,b,_,d,_⟩<;>rcases he with rfl|rfl
 ·exact g _ c
 ·exact g _ d
 ·exact g _ d
 ·rw[b]at hx;omega
 ·rw[a]at hx;omega
 ·exact g _ d
theorem loop_allT{X:Type}(f:Int->Option (LR Int X))(yes:X)(n:Nat)(hn:∀ i,i<n->f (i:Int)=some (.next (((i+1:Nat):Int))))(he:f (n:Int)=some (.done yes)):An f (0:Int)=some yes:=
 Jp f (fun i=>((i:Nat):Int)) yes n hn he
def La(L:List (List Int))(s:Nat->Bool)(i:Nat):Bool:=(List.range L.length).any fun j=>(W7 L i (-1)).getD j false&&s j
def Bg(L:List (List Int)):Nat->Nat->Bool
 | 0=>fun k=>(L.getD k []).isEmpty
 | m+1=>fun k=>Bg L m k || (decide (k=m)&&!La L (Bg L m) m)
def Jh(L:List (List Int))(s:Nat->Bool)(k:Nat):List Int:=L.getD k []++(if s k=true then[(L.length:Int)] else[])
def Kn(L:List (List Int))(s:Nat->Bool):List (List Int):=(List.range L.length).map (Jh L s)++[[]]
def Mn(L:List (List Int)):List (List Int):=Kn L (Bg L L.length)
def N2(L:List (List Int)):List Int:=((List.range L.length).filter fun i=>!La L (Bg L 0) i).map Int.ofNat
section
variable {L:List (List Int)}
theorem Mz{s:Nat->Bool}:(Kn L s).length=L.length+1:=by simp[Kn]
theorem Za:(Mn L).length=L.length+1:=Mz
theorem withE_at{s:Nat->Bool}{k:Nat}(hk:k<L.length):(Kn L s).getD k []=Jh L s k:=by
 unfold Kn;rw[Kp,Mk (by simpa using hk),<- Kp,Pq hk]
theorem withE_last{s:Nat->Bool}:(Kn L s).getD L.length []=[]:=by
 unfold Kn;rw[Kp,P2 (by simp)]
 simp
theorem withE_out{s:Nat->Bool}{k:Nat}(hk:L.length<=k):(Kn L s).getD k []=[]:=by
 by_cases e:k=L.length
 ·rw[e,withE_last]
 ·rw[Kp,Abc (by rw[Mz];omega)];rfl
theorem withE_may(hm:G4 L=true)(hn:L.length<64)(s:Nat->Bool):G4 (Kn L s)=true:=by
 obtain⟨h1,h2,h3⟩:=mayS_iff.1 hm;refine mayS_iff.2 ⟨by rw[Mz];omega,by rw[Mz];omega,fun i hi=>?_⟩;rw[Mz]at hi
 by_cases e:i<L.length
 ·rw[withE_at e,Mz];unfold Jh;have hok:=h3 i e;refine okL_of (fun x hx=>?_) ?_
  ·rcases zzL13.1 hx with hx|hx
   ·have:=R7 hok hx;omega
   ·split at hx
    ·rw[zzL14.1 hx];omega
    ·cases hx
  ·refine zzL126.2 ⟨okL_pair hok,by split<;>simp,fun a ha b hb=>?_⟩;have:=R7 hok ha
   split at hb
   ·rw[zzL14.1 hb];omega
   ·cases hb
 ·rw[withE_out (by omega)]
  rfl
theorem Xe(hm:G4 L=true){s:Nat->Bool}{k y:Nat}:y∈sN (Kn L s) k↔k<L.length/\(y∈sN L k\/(s k=true/\y=L.length)):=by
 unfold sN
 by_cases e:k<L.length
 ·rw[withE_at e];unfold Jh;rw[Yr,zzL13]
  constructor
  ·rintro(h|h)
   ·exact⟨e,.inl h⟩
   ·split at h
    ·rename_i hs
     rw[List.map_singleton,zzL14,Au]at h;exact⟨e,.inr ⟨hs,h⟩⟩
    ·cases h
  ·rintro⟨_,h|⟨h1,h2⟩⟩
   ·exact .inl h
   ·refine .inr ?_;rw[if_pos h1,List.map_singleton,zzL14,Au];exact h2
 ·rw[withE_out (by omega)]
  constructor
  ·intro h;cases h
  ·rintro⟨h,_⟩;exact absurd h e
theorem Rx(hm:G4 L=true){s:Nat->Bool}{i:Nat}(hi:i<L.length):La L s i=true↔∃ j,j<L.length/\Rc (sN L) i j/\s j=true:=by
 unfold La;rw[List.any_eq_true]
 constructor
 ·rintro⟨j,hj,h⟩;rw[A7,reach_at hm hi]at h;exact⟨j,zzL43.1 hj,h⟩
 ·rintro⟨j,hj,h⟩;refine⟨j,zzL43.2 hj,?_⟩;rw[A7,reach_at hm hi];exact h
theorem goesE_mono{m k:Nat}(h:Bg L m k=true):∀ d,Bg L (m+d) k=true:=by
 intro d
 induction d with
 | zero=>exact h
 | succ d ih=>
  show(Bg L (m+d) k || _)=true
  rw[ih,Bool.true_or]
theorem goesE_le{m m' k:Nat}(hm:m<=m')(h:Bg L m k=true):Bg L m' k=true:=by
 have:=goesE_mono h (m'-m);rwa[show m+(m'-m)=m' by omega]at this
theorem all_hit(hm:G4 L=true){i:Nat}(hi:i<L.length):∃ j,j<L.length/\Rc (sN L) i j/\Bg L L.length j=true:=by
 cases hh:La L (Bg L i) i with
 | true=>
  obtain⟨j,h1,h2,h3⟩:=(Rx hm hi).1 hh;exact⟨j,h1,h2,goesE_le (by omega) h3⟩
 | false=>
  refine⟨i,hi,.root,goesE_le (m:=i+1) (by omega) ?_⟩
  show(Bg L i i || (decide (i=i)&&!La L (Bg L i) i))=true
  rw[hh,Fu rfl]
  simp
theorem rc_withE(hm:G4 L=true){s:Nat->Bool}{i j:Nat}(hi:i<L.length)(h:Rc (sN L) i j):Rc (sN (Kn L s)) i j/\j<L.length:=by
 induction h with
 | root=>exact⟨.root,hi⟩
 | step _ hy ih=>exact⟨.step ih.1 ((Xe hm).2 ⟨ih.2,.inl hy⟩),Nk hm _ ih.2 _ hy⟩
theorem rc_exit(hm:G4 L=true){b:Nat}(hb:b<=L.length):Rc (sN (Mn L)) b L.length:=by
 by_cases e:b=L.length
 ·rw[e];exact .root
 ·obtain⟨j,h1,h2,h3⟩:=all_hit hm (i:=b) (by omega);exact .step (rc_withE hm (by omega) h2).1 ((Xe hm).2 ⟨h1,.inr ⟨h3,rfl⟩⟩)
end
section
variable {S T:Nat->List Nat}
theorem Rc.front{a b c:Nat}(h:b∈S a)(k:Rc S b c):Rc S a c:=by
 induction k with
 | root=>exact .step .root h
 | step _ hy ih=>exact .step ih hy
theorem Av.front{z a b c:Nat}(ha:a≠z)(h:b∈S a)(k:Av S b z c):Av S a z c:=by
 induction k with
 | root hb=>exact .step (.root ha) h hb
 | step _ hy hz ih=>exact .step ih hy hz
variable (hT:∀ x y,y∈T x->x∈S y)
include hT
theorem Rc.turn{a b:Nat}(h:Rc T a b):Rc S b a:=by
 induction h with
 | root=>exact .root
 | step _ hy ih=>exact .front (hT _ _ hy) ih
theorem Av.turn{z a b:Nat}(h:Av T a z b):Av S b z a:=by
 induction h with
 | root h=>exact .root h
 | step _ hy hz ih=>exact .front hz (hT _ _ hy) ih
end
section
variable {L:List (List Int)} (hm:G4 L=true)
include hm
theorem pred_succ{x y:Nat}(hx:x<L.length):y∈sN (A4 L) x↔y<L.length/\x∈sN L y:=by
 have hmem:∀ z:Int,z∈(A4 L).getD x []↔∃ p:Nat,z=(p:Int)/\p<L.length/\T3 L p x=true:=fun z=>by
  rw[Mw hx];unfold Ix;rw[mem_filt]
 have hs:∀ p,p<L.length->(x∈sN L p↔T3 L p x=true):=fun p hp=>by
  rw[goes_iff];obtain⟨_,_,h3⟩:=mayS_iff.1 hm
  constructor
  ·intro h;obtain⟨z,hz,rfl⟩:=zzL19.1 h;have:=R7 (h3 p hp) hz;rw[N3 this.1];exact hz
  ·intro h;exact zzL19.2 ⟨_,h,Au x⟩
 constructor
 ·intro h;obtain⟨z,hz,rfl⟩:=zzL19.1 h;obtain⟨p,rfl,h1,h2⟩:=(hmem z).1 hz;rw[Au];exact⟨h1,(hs p h1).2 h2⟩
 ·rintro⟨h1,h2⟩;exact zzL19.2 ⟨(y:Int),(hmem _).2 ⟨y,rfl,h1,(hs y h1).1 h2⟩,Au y⟩
theorem sN_in{x y:Nat}(h:y∈sN L x):x<L.length:=by
 have _hm:=hm
 by_cases e:x<L.length
 ·exact e
 ·unfold sN at h;rw[Kp,Abc (by omega)]at h;cases h
theorem turn_fwd:∀ x y,y∈sN (A4 L) x->x∈sN L y:=fun x y h=>by
 have hx:x<L.length:=by have:=sN_in (Vj hm) h;rwa[Dj]at this
 exact((pred_succ hm hx).1 h).2
theorem turn_back:∀ x y,y∈sN L x->x∈sN (A4 L) y:=fun x y h=>by
 have hx:=sN_in hm h;exact(pred_succ hm (Nk hm x hx y h)).2 ⟨hx,h⟩
theorem rc_turn{a b:Nat}:Rc (sN (A4 L)) a b↔Rc (sN L) b a:=⟨fun h=>h.turn (turn_fwd hm),fun h=>h.turn (turn_back hm)⟩
theorem av_turn{z a b:Nat}:Av (sN (A4 L)) a z b↔Av (sN L) b z a:=⟨fun h=>h.turn (turn_fwd hm),fun h=>h.turn (turn_back hm)⟩
end
def O7(L:List (List Int)):List Int:=Wf (A4 (Mn L)) L.length
structure Facts8:Prop where
 exit:∀(g:Ap),Fits g.Succ->Fits g.Pred->Hu g=some (if Ma g=true/\g.Succ.length<64 then(H3 (Mn g.Succ),0) else(g0,5))
 tree:∀(g:Ap),Fits g.Succ->Fits g.Pred->Jx g=some (if Ma g=true/\g.Succ.length<64 then O7 g.Succ else[])
 over:∀(t:List Int) (a b:Int),t.length<=64->Jw t a b=some (Pv t a b)
 shut:∀(g:Ap),Fits g.Succ->Fits g.Pred->In g=some (if Ma g=true then N2 g.Succ else[])
section
variable {L:List (List Int)} (hm:G4 L=true) (hn:L.length<64)
include hm hn
theorem exit_may:G4 (Mn L)=true:=withE_may hm hn _
theorem ptree_len:(O7 L).length=L.length+1:=by
 have _hm:=hm;have _hn:=hn;unfold O7;rw[Zx,Dj,Za]
theorem ptree_dom:∃ P,Ordered (sN (A4 (Mn L))) L.length (L.length+1) P/\DomTree (sN (A4 (Mn L))) L.length (L.length+1) P (O7 L):=by
 have he:=exit_may hm hn;have hp:=Vj he
 have hlen:(A4 (Mn L)).length=L.length+1:=by rw[Dj,Za]
 obtain⟨P,_,h1,h2⟩:=treeD_dom hp (r:=L.length) (by rw[hlen];omega);rw[hlen]at h1 h2;exact⟨P,h1,h2⟩
theorem pover{a b:Nat}(ha:a<=L.length)(hb:b<=L.length):Pv (O7 L) (a:Int) (b:Int)=true↔¬ Av (sN (Mn L)) b a L.length:=by
 have he:=exit_may hm hn;obtain⟨P,h1,h2⟩:=ptree_dom hm hn;rw[h2.over_dom h1 (by omega) (by omega),rc_turn he,av_turn he];exact⟨fun h=>h.2,fun h=>⟨rc_exit hm hb,h⟩⟩
end
section
variable {L:List (List Int)}
variable (hm:G4 L=true)
include hm
theorem hit_mono{s s':Nat->Bool}{i:Nat}(hi:i<L.length)(h:∀ j,s j=true->s' j=true)(hh:La L s i=true):La L s' i=true:=by
 obtain⟨j,h1,h2,h3⟩:=(Rx hm hi).1 hh;exact(Rx hm hi).2 ⟨j,h1,h2,h j h3⟩
omit hm in
omit hm in
end
theorem m_indexB(t:List Bool)(v:Bool)(ht:t.length<=1000):(∃ r:Nat,r<t.length/\t.getD r false=v/\(∀ i,i<r->t.getD i false≠v)/\Ck t v=some (r:Int))\/((∀ i,i<t.length->t.getD i false≠v)/\Ck t v=some (-1)):=by
 have key:∀ k i:Nat,i+k=t.length->(∀ j,j<i->t.getD j false≠v)->
   (∃ r:Nat,r<t.length/\t.getD r false=v/\(∀ i,i<r->t.getD i false≠v)/\An (Bi t v) (i:Int)=some (.inr (r:Int)))\/((∀ i,i<t.length->t.getD i false≠v)/\An (Bi t v) (i:Int)=some (.inl ())):=by
  intro k
  induction k with
  | zero=>
   intro i hi hj
   obtain rfl:i=t.length:=by omega
   refine .inr ⟨hj,Aq ?_⟩;unfold Bi;rw[I6];rfl
  | succ k ih=>
   intro i hi hj
   by_cases e:v=t.getD i false
   ·refine .inl ⟨i,by omega,e.symm,hj,Aq ?_⟩;unfold Bi;have hb:(v==t.getD i false)=true:=zzL59.2 e;simp only[E8 (show i<t.length by omega),Aj,Au,hb];rw[Ae (Hz (by omega))]
   ·have hs:Bi t v (i:Int)=some (.next ((i+1:Nat):Int)):=by
     unfold Bi;have hb:(v==t.getD i false)=false:=zzL37.2 e;simp only[E8 (show i<t.length by omega),Aj,Au,hb,A0];rw[Ae (Hz (by omega)),w1 (by omega)]
    rw[Aw hs]
    exact ih (i+1) (by omega) fun j hj2=>by
     by_cases ej:j=i
     ·subst ej;exact fun h=>e h.symm
     ·exact hj j (by omega)
 have h0:=key t.length 0 (by omega) (fun j hj=>absurd hj (N5 _));unfold Ck;rcases h0 with⟨r,h1,h2,h3,h4⟩|⟨h1,h2⟩
 ·exact .inl ⟨r,h1,h2,h3,by rw[show((0:Int))=((0:Nat):Int) from rfl,h4];rfl⟩
 ·exact .inr ⟨h1,by rw[show((0:Int))=((0:Nat):Int) from rfl,h2];rfl⟩
def It(L:List (List Int))(S:Nat->Bool)(k:Nat):Bool:=decide (k<L.length)&&La L S k
theorem R5{L:List (List Int)}{S:Nat->Bool}{k:Nat}(h:k<L.length):It L S k=La L S k:=by simp[It,h]
theorem hitB_congr{L:List (List Int)}{S S':Nat->Bool}(h:∀ j,j<L.length->S j=S' j)(k:Nat):La L S k=La L S' k:=by
 unfold La;rw[Lr,List.any_eq_true,List.any_eq_true]
 constructor
 ·rintro⟨j,hj,h'⟩;exact⟨j,hj,by rwa[<- h j (zzL43.1 hj)]⟩
 ·rintro⟨j,hj,h'⟩;exact⟨j,hj,by rwa[h j (zzL43.1 hj)]⟩
theorem P9{L:List (List Int)}{S S':Nat->Bool}(h:∀ j,j<L.length->S j=S' j):It L S=It L S':=by
 funext k
 unfold It;rw[hitB_congr h]
section
variable {L:List (List Int)} (hm:G4 L=true)
include hm
theorem mark_loop{O:List Nat}(hO:∀ z∈O,z<64)(hl:O.length<1000):∀(k i:Nat) (l:List Bool) (s:Nat->Bool),i+k=O.length->RelS l s->
  ∃ l',An (Ew (Ob O)) ((i:Int),l)=some l'/\RelS l' (fun z=>s z || (O.drop i).contains z):=by
 have _hm:=hm
 have hlen:(Ob O).length=O.length:=by simp[Ob]
 intro k
 induction k with
 | zero=>
  intro i l s hi hr
  obtain rfl:i=O.length:=by omega
  refine⟨l,Aq ?_,fun z hz=>?_⟩
  ·unfold Ew;simp only[hlen,I6,A0]
  ·rw[hr z hz,List.drop_length];simp
 | succ k ih=>
  intro i l s hi hr
  have hil:i<O.length:=by omega
  have hz:O[i]<64:=hO _ (S7 hil)
  have hr':RelS (J5 64 false l O[i] true) (fun z=>s z || decide (z=O[i])):=fun z hz'=>by
   rw[M6 hz',hr z hz']
   by_cases e:z=O[i]
   ·simp[e]
   ·simp[e]
  obtain⟨l',h1,h2⟩:=ih (i+1) _ _ (by omega) hr'
  have hs:Ew (Ob O) ((i:Int),l)=some (.next (((i+1:Nat):Int),J5 64 false l O[i] true)):=by
   unfold Ew;simp only[hlen,E8 hil,Aj,Au,ofN_at hil];rw[Ae (Hz hil),Ae (Hz hz),w1 (by omega)]
  refine⟨l',by rw[Aw hs,h1],fun z hz'=>?_⟩;rw[h2 z hz',Uz hil]
  show(s z || decide (z=O[i]) || (List.drop (i+1) O).contains z)=(s z || (O[i]::List.drop (i+1) O).contains z)
  rw[List.contains_cons,Bool.or_assoc]
  rfl
theorem mark_add{l:List Bool}{S:Nat->Bool}(hr:RelS l (It L S)){at_:Nat}(ha:at_<L.length) :
  ∃ l',E2 l ⟨A4 L,L⟩ (at_:Int)=some l'/\RelS l' (It L (fun j=>S j || decide (j=at_))):=by
 obtain⟨h1,h2,_⟩:=mayS_iff.1 hm;have hp:=Vj hm;have hlp:=Dj L;obtain⟨O,hO⟩:=Ord.exist (Nk hp) (r:=at_) (by rw[hlp];exact ha);have hord:=(m_order ⟨A4 L,L⟩ (Kv hm).2 trivial (at_:Int)).1 (Aaw hm) (by omega) (by simp only[hlp];omega) O (by rw[Au];exact hO)
 have hin:∀ z,z∈O↔Rc (sN L) z at_:=fun z=>by rw[hO.mem,<- rc_iff,rc_turn hm]
 have hlt:∀ z∈O,z<L.length:=fun z hz=>by
  have:=rch_lt hp ((hO.mem z).1 hz) (by rw[hlp];exact ha);rwa[hlp]at this
 have hlen:O.length<=64:=Np (Ln L.length O hO.nodup hlt) h2;obtain⟨l',e1,e2⟩:=mark_loop hm (O:=O) (fun z hz=>by have:=hlt z hz;omega) (by omega) O.length 0 l _ (by omega) hr;refine⟨l',?_,fun z hz=>?_⟩
 ·unfold E2;rw[hord,Ax];exact Bq (fun x:Option (List Bool)=>x.bind fun x7=>some x7) e1
 ·rw[e2 z hz,N6,Lr,U2,Abd,hin]
  by_cases hzl:z<L.length
  ·rw[R5 hzl,R5 hzl,Rx hm hzl,Rx hm hzl]
   constructor
   ·rintro(⟨j,a,b,c⟩|h)
    ·exact⟨j,a,b,by simp[c]⟩
    ·exact⟨at_,ha,h,by simp⟩
   ·rintro⟨j,a,b,c⟩;simp only[U2,Gs]at c;rcases c with c|rfl
    ·exact .inl ⟨j,a,b,c⟩
    ·exact .inr b
  ·have:¬ Rc (sN L) z at_:=fun h=>hzl (hlt z ((hin z).2 h));simp[It,hzl,this]
theorem X2:∃ l,Gk (H3 L)=some l/\RelS l (It L (Bg L 0)):=by
 obtain⟨h1,h2,_⟩:=mayS_iff.1 hm
 have ht:Ee (H3 L)=some ⟨A4 L,L⟩:=by rw[m_turned _ (Kv hm).1,Mb hm,Aj];rfl
 have hS:(H3 L).Succ=L:=rfl;have key:∀(k i:Nat) (l:List Bool),i+k=L.length->RelS l (It L (fun j=>decide (j<i)&&Bg L 0 j))->
   ∃ l',An (C4 (H3 L) ⟨A4 L,L⟩) ((i:Int),l)=some l'/\RelS l' (It L (Bg L 0)):=by
  intro k
  induction k with
  | zero=>
   intro i l hi hr
   obtain rfl:i=L.length:=by omega
   refine⟨l,Aq ?_,?_⟩
   ·unfold C4;simp only[hS,I6,A0]
   ·rwa[P9 (S':=Bg L 0) (fun j hj=>by simp[hj])]at hr
  | succ k ih=>
   intro i l hi hr
   have hil:i<L.length:=by omega
   cases he:(L.getD i []).isEmpty with
   | true=>
    obtain⟨l',e1,e2⟩:=mark_add hm hr hil
    have hs:C4 (H3 L) ⟨A4 L,L⟩ ((i:Int),l)=some (.next (((i+1:Nat):Int),l')):=by
     unfold C4
     have hb:(((L.getD i []).length:Int)==0)=true:=by rw[zzL59];have:=List.isEmpty_iff.1 he;rw[this];rfl
     simp only[hS,E8 hil,Aj,Au,hb,e1,Ax];rw[Ae (Hz hil),Ax,w1 (by omega)]
    obtain⟨l'',f1,f2⟩:=ih (i+1) l' (by omega) (by
     rwa[P9 (S':=fun j=>decide (j<i+1)&&Bg L 0 j) (fun j hj=>?_)]at e2;have hg:Bg L 0 i=true:=he
     by_cases e:j=i
     ·subst e;simp[hg]
     ·by_cases h:j<i
      ·simp[h,e,show j<i+1 by omega]
      ·simp[h,e,show ¬ j<i+1 by omega])
    exact⟨l'',by rw[Aw hs,f1],f2⟩
   | false=>
    have hs:C4 (H3 L) ⟨A4 L,L⟩ ((i:Int),l)=some (.next (((i+1:Nat):Int),l)):=by
     unfold C4
     have hb:(((L.getD i []).length:Int)==0)=false:=by
      rw[zzL37];intro h
      have:(L.getD i []).length=0:=by omega
      rw[zzL92.1 this]at he;cases he
     simp only[hS,E8 hil,Aj,Au,hb,A0];rw[Ae (Hz hil),Ax,w1 (by omega)]
    obtain⟨l'',f1,f2⟩:=ih (i+1) l (by omega) (by
     rwa[P9 (S':=fun j=>decide (j<i+1)&&Bg L 0 j) (fun j hj=>?_)]at hr;have hg:Bg L 0 i=false:=he
     by_cases e:j=i
     ·subst e;simp[hg]
     ·by_cases h:j<i
      ·simp[h,e,show j<i+1 by omega]
      ·simp[h,e,show ¬ j<i+1 by omega])
    exact⟨l'',by rw[Aw hs,f1],f2⟩
 obtain⟨l,e1,e2⟩:=key L.length 0 (List.replicate 64 false) (by omega) (fun z hz=>by
  rw[Ni]
  have:La L (fun j=>decide (j<0)&&Bg L 0 j) z=false:=by simp[La]
  unfold It
  rw[this,Bool.and_false])
 refine⟨l,?_,e2⟩;unfold Gk;rw[ht,Ax];exact Bq (fun x:Option (List Bool)=>x.bind fun x7=>some x7) e1
theorem shut_spec:In (H3 L)=some (N2 L):=by
 obtain⟨h1,h2,_⟩:=mayS_iff.1 hm;obtain⟨l,e1,e2⟩:=X2 hm;have hS:(H3 L).Succ=L:=rfl
 have hroom:(1000:Nat)<=room:=by decide
 have hl:An (Ge (H3 L) l) ((((List.range 0).filter fun i=>!La L (Bg L 0) i).map Int.ofNat),((0:Nat):Int))=some (N2 L):=by
  refine Jp (Ge (H3 L) l) (fun i=>((((List.range i).filter fun i=>!La L (Bg L 0) i).map Int.ofNat),((i:Nat):Int))) (N2 L) L.length (fun i hi=>?_) ?_
  ·show Ge (H3 L) l (_,(i:Int))=_
   unfold Ge
   have hg:l.getD i false=La L (Bg L 0) i:=by rw[e2 i (by omega),R5 hi]
   have hfl:(((List.range i).filter fun i=>!La L (Bg L 0) i).map Int.ofNat).length<=64:=by
    have:=List.length_filter_le (fun i=>!La L (Bg L 0) i) (List.range i);simp only[S8,Aae]at this ⊢;omega
   simp only[hS,E8 hi,Aj,Au,hg];rw[Ae (Hz (by omega))]
   cases hh:La L (Bg L 0) i with
   | true=>
    simp only[E6,A0,Ax];rw[w1 (by omega),Ys,Aab];simp[hh]
   | false=>
    simp only[Mp,Aj];rw[Ae (by simp only[Ra];omega),Ax,w1 (by omega),Ys,Aab];simp[hh]
  ·show Ge (H3 L) l (_,(L.length:Int))=_
   unfold Ge;simp only[hS,I6,A0]
   rfl
 unfold In;rw[m_may _ (Kv hm).1,Ax,Mb hm,E6,A0,e1,Ax];exact Bq (fun x:Option (List Int)=>x.bind fun x11=>some x11) hl
theorem goesE_skip{m:Nat}:∀ d,(∀ j,m<=j->j<m+d->La L (Bg L m) j=true)->Bg L (m+d)=Bg L m:=by
 have _hm:=hm;intro d
 induction d with
 | zero=>intro _;rfl
 | succ d ih=>
  intro h;have ih':=ih (fun j h1 h2=>h j h1 (by omega))
  funext k
  show(Bg L (m+d) k || (decide (k=m+d)&&!La L (Bg L (m+d)) (m+d)))=_
  rw[ih',h (m+d) (by omega) (by omega)]
  simp
variable (hn:L.length<64)
include hn
theorem exit_loop(k:Nat):∀(m:Nat) (l:List Bool),L.length-m<=k->m<=L.length->RelS l (It L (Bg L m))->(∀ j,j<m->La L (Bg L m) j=true)->
  An (Gc (H3 L)) (l,A4 L,L,Kn L (Bg L m))=some (H3 (Mn L),0):=by
 obtain⟨h1,h2,_⟩:=mayS_iff.1 hm;have hS:(H3 L).Succ=L:=rfl
 have hroom:(1000:Nat)<=room:=by decide
 have step:∀(m:Nat) (l:List Bool),m<=L.length->RelS l (It L (Bg L m))->(∀ j,j<m->La L (Bg L m) j=true)->
   (∃(r:Nat) (l':List Bool),r<L.length/\m<=r/\Gc (H3 L) (l,A4 L,L,Kn L (Bg L m))=some (.next (l',A4 L,L,Kn L (Bg L (r+1))))/\RelS l' (It L (Bg L (r+1)))/\(∀ j,j<r+1->La L (Bg L (r+1)) j=true)) \/
   Gc (H3 L) (l,A4 L,L,Kn L (Bg L m))=some (.done (H3 (Mn L),0)):=by
  intro m l hmn hr hh
  have hsl:(subN false l 0 ((0+((L.length:Int)).toNat)-0)).length=L.length:=by rw[subN_len,Au];omega
  have hsg:∀ i,i<L.length->(subN false l 0 ((0+((L.length:Int)).toNat)-0)).getD i false=La L (Bg L m) i:=fun i hi=>by
   rw[subN_get (by rw[Au];omega),Fl,hr i (by omega),R5 hi]
  have hwl:(Kn L (Bg L m)).length=L.length+1:=Mz;have hwm:=withE_may hm hn (Bg L m);rcases m_indexB (subN false l 0 ((0+((L.length:Int)).toNat)-0)) false (by rw[hsl];omega) with⟨r,q1,q2,q3,q4⟩|⟨q1,q2⟩
  ·rw[hsl]at q1;rw[hsg r q1]at q2
   have hmr:m<=r:=by
    rcases zzL135 r m with h|h
    ·have:=hh r h;rw[q2]at this;cases this
    ·exact h
   have hsk:Bg L r=Bg L m:=by
    have:=goesE_skip hm (m:=m) (r-m) (fun j a b=>by
     have:=q3 j (by omega);rw[hsg j (by omega)]at this
     simpa using this)
    rwa[show m+(r-m)=r by omega]at this
   have hgr:Bg L m r=false:=by
    cases hg:Bg L m r with
    | false=>rfl
    | true=>rw[(Rx hm q1).2 ⟨r,q1,.root,hg⟩]at q2;cases q2
   have hnew:Bg L (r+1)=fun j=>Bg L m j || decide (j=r):=by
    funext j
    show(Bg L r j || (decide (j=r)&&!La L (Bg L r) r))=_
    rw[hsk,q2];simp
   obtain⟨l',e1,e2⟩:=mark_add hm hr q1;refine .inl ⟨r,l',q1,hmr,?_,by rw[hnew];exact e2,fun j hj=>?_⟩
   ·unfold Gc
    have hrow:(Kn L (Bg L m)).getD r []=L.getD r []:=by rw[withE_at q1];simp[Jh,hgr]
    have hrl:(L.getD r []).length<=64:=by
     have:=(Lm hm).2 (L.getD r []) (A8 (d:=[]) q1);exact this
    have d0:decide ((0:Int)<=(r:Int))=true:=by simp
    simp only[hS];rw[Ae ⟨by omega,by rw[Au];omega⟩,q4,Ax,d0,Aj];simp only[Au,hrow];rw[Ae (Hz (by omega)),Ae (Hz (by omega)),Ae (by simp only[Ra];omega),Ae (Hz (by omega)),e1,Ax]
    have hset:(Kn L (Bg L m)).set r (L.getD r []++[(L.length:Int)])=Kn L (Bg L (r+1)):=by
     unfold Kn;rw[List.set_append_left _ _ (by simpa using q1),Xb]
     congr 1
     refine Kz fun j hj=>?_
     by_cases e:j=r
     ·subst e;simp[Jh,hnew]
     ·simp[Jh,hnew,e]
    rw[hset]
   ·rw[hnew]
    by_cases e:j=r
    ·subst e;exact(Rx hm q1).2 ⟨j,q1,.root,by simp⟩
    ·have hjl:j<L.length:=by omega
     refine hit_mono hm hjl (s:=Bg L m) (fun x hx=>by simp[hx]) ?_
     by_cases hjm:j<m
     ·exact hh j hjm
     ·have:=q3 j (by omega);rw[hsg j hjl]at this
      simpa using this
  ·rw[hsl]at q1
   have hsk:Bg L L.length=Bg L m:=by
    have:=goesE_skip hm (m:=m) (L.length-m) (fun j a b=>by
     have:=q1 j (by omega);rw[hsg j (by omega)]at this
     simpa using this)
    rwa[show m+(L.length-m)=L.length by omega]at this
   refine .inr ?_;unfold Gc
   have d0:decide ((0:Int)<=(-1:Int))=false:=by decide
   simp only[hS];rw[Ae ⟨by omega,by rw[Au];omega⟩,q2,Ax,d0,A0,m_make _ (Sk (Lm hwm)),hwm,Aj,Ax];unfold Mn;rw[hsk]
 induction k with
 | zero=>
  intro m l hk hmn hr hh;rcases step m l hmn hr hh with⟨r,l',a,b,c,d,e⟩|h
  ·omega
  ·exact Aq h
 | succ k ih=>
  intro m l hk hmn hr hh;rcases step m l hmn hr hh with⟨r,l',a,b,c,d,e⟩|h
  ·rw[Aw c];exact ih (r+1) l' (by omega) (by omega) d e
  ·exact Aq h
theorem exit_rows:An (Gd (H3 L)) ((0:Int),List.replicate (L.length+1) [])=some (Kn L (Bg L 0)):=by
 obtain⟨h1,h2,_⟩:=mayS_iff.1 hm;have hS:(H3 L).Succ=L:=rfl
 have hroom:(1000:Nat)<=room:=by decide
 have e0:(List.replicate (L.length+1) ([]:List Int))=(List.range (L.length+1)).map fun k=>if k<0 then Jh L (Bg L 0) k else[]:=by
  apply List.ext_getElem?
  intro i
  by_cases hi:i<L.length+1<;>simp[hi,List.getElem?_replicate]
 rw[e0];refine Jp (Gd (H3 L)) (fun i=>(((i:Nat):Int),(List.range (L.length+1)).map fun k=>if k<i then Jh L (Bg L 0) k else[])) _ L.length (fun i hi=>?_) ?_
 ·show Gd (H3 L) ((i:Int),_)=_
  unfold Gd;have hrl:(L.getD i []).length<=64:=(Lm hm).2 (L.getD i []) (A8 (d:=[]) hi)
  have hrow:∀ x,x=Jh L (Bg L 0) i->((List.range (L.length+1)).map fun k=>if k<i then Jh L (Bg L 0) k else[]).set i x=(List.range (L.length+1)).map fun k=>if k<i+1 then Jh L (Bg L 0) k else[]:=fun x hx=>by
   rw[Xb];refine Kz fun j hj=>?_
   by_cases e:j=i
   ·subst e;simp[hx]
   ·by_cases h:j<i
    ·simp[e,h,show j<i+1 by omega]
    ·simp[e,h,show ¬ j<i+1 by omega]
  simp only[hS,E8 hi,Aj,Au];rw[Ae (Hz hi),Ae (Hz (by simp;omega)),m_clone _ (by omega),Ax,Ae (Hz (by simp;omega))]
  cases he:(L.getD i []).isEmpty with
  | true=>
   have hnil:=List.isEmpty_iff.1 he
   have hb:(((L.getD i []).length:Int)==0)=true:=by rw[zzL59,hnil];rfl
   simp only[hb,Aj]
   rw[Ae (Hz (by simp;omega)),Ae (Hz (by simp;omega)),Ax,w1 (by omega),List.set_set,hrow _ (by
    have hg:Bg L 0 i=true:=he;unfold Jh
    rw[if_pos hg,hnil];rfl)]
  | false=>
   have hb:(((L.getD i []).length:Int)==0)=false:=by
    rw[zzL37];intro h
    have:(L.getD i []).length=0:=by omega
    rw[zzL92.1 this]at he;cases he
   simp only[hb,A0]
   rw[Ax,w1 (by omega),hrow _ (by
    have hg:¬ Bg L 0 i=true:=fun h=>by have h':(L.getD i []).isEmpty=true:=h;rw[he]at h';cases h'
    unfold Jh
    rw[if_neg hg,List.append_nil])]
 ·show Gd (H3 L) ((L.length:Int),_)=_
  unfold Gd;simp only[hS,I6,A0]
  congr 2
  rw[Ys,Yr];unfold Kn
  congr 1
  ·exact Kz fun j hj=>by simp[hj]
  ·simp
theorem exit_spec:Hu (H3 L)=some (H3 (Mn L),0):=by
 obtain⟨h1,h2,_⟩:=mayS_iff.1 hm;obtain⟨l,e1,e2⟩:=X2 hm;have hS:(H3 L).Succ=L:=rfl
 have hroom:(1000:Nat)<=room:=by decide
 have ht:Ee (H3 L)=some ⟨A4 L,L⟩:=by rw[m_turned _ (Kv hm).1,Mb hm,Aj];rfl
 have hx:=exit_loop hm hn L.length 0 l (by omega) (by omega) e2 (fun j hj=>absurd hj (N5 _))
 have hb:(((L.length:Int):Int)==64)=false:=by rw[zzL37];omega
 unfold Hu;simp only[hS];rw[m_may _ (Kv hm).1,Ax,Mb hm,E6,A0,hb,A0,w1 (by omega),Ae ⟨by omega,Int.le_refl _,by omega⟩,Au,exit_rows hm hn,Ax,e1,Ax,ht,Ax];refine Eq.trans ?_ (Bq (fun x:Option (Ap×Int)=>x.bind fun x39=>some x39) hx);rw[<- Un (f:=Gc (H3 L))]
 rfl
end
theorem m_pTree(g:Ap)(h1:Fits g.Succ)(h2:Fits g.Pred):Jx g=some (if Ma g=true/\g.Succ.length<64 then O7 g.Succ else[]):=by
 unfold Jx
 by_cases hc:Ma g=true/\g.Succ.length<64
 ·obtain⟨hm,hg⟩:=mayG_eq hc.1;have hn:=hc.2;have he:=exit_may hm hn
  have hE:Hu g=some (H3 (Mn g.Succ),0):=by rw[hg];exact exit_spec hm hn
  have ht:Ee (H3 (Mn g.Succ))=some ⟨A4 (Mn g.Succ),Mn g.Succ⟩:=by rw[m_turned _ (Kv he).1,Mb he,Aj];rfl
  rw[if_pos hc,hE,Ax,bne_self_eq_false,A0,ht,Ax,m_Tree _ _ (Kv he).2 (Kv he).1,Ax];unfold treeG O7;rw[if_pos ⟨Aaw he,by omega,by simp only[Dj,Za];omega⟩,Au]
 ·have hE:Hu g=some (g0,5):=by
   unfold Hu
   have hb:(bif !(Ma g) then true else(((g.Succ.length:Int):Int)==64))=true:=by
    cases hm:Ma g with
    | false=>rfl
    | true=>
     have h64:=(mayS_iff.1 (mayG_eq hm).1).2.1;have:¬ g.Succ.length<64:=fun h=>hc ⟨hm,h⟩
     show(((g.Succ.length:Int):Int)==64)=true
     rw[zzL59];omega
   rw[m_may _ h1,Ax,hb,Aj]
   rfl
  rw[if_neg hc,hE,Ax]
  rfl
theorem m_pOver(t:List Int)(a b:Int)(ht:t.length<=64):Jw t a b=some (Pv t a b):=by
 unfold Jw;rw[m_Over (by omega) a b,Ax]
theorem m_pShut(g:Ap)(h1:Fits g.Succ)(h2:Fits g.Pred):In g=some (if Ma g=true then N2 g.Succ else[]):=by
 by_cases hc:Ma g=true
 ·obtain⟨hm,hg⟩:=mayG_eq hc;rw[if_pos hc,hg];exact shut_spec hm
 ·rw[if_neg hc];unfold In
  have:Ma g=false:=by simpa using hc
  rw[m_may _ h1,Ax,this]
  rfl
theorem rise_one(x:Int):Yi [x]=[x]:=by
 obtain⟨h1,h2⟩:=Vp [x];exact Xc h1 (by simp) fun y=>h2 y
section
variable {f:TFunc} (R:Rt f)
include R
theorem succ_mid{a:Int}{x:Int}(hx:Bd x f.Blocks.length)(hm:Pk f a x=true):(rowsF f).getD x.toNat []=[El f x.toNat 0]:=by
 have hxn:x.toNat<f.Blocks.length:=by have:=hx.1;have:=hx.2;omega
 have h1:=R.one _ hxn (mid_kind hm);rw[rows_at hxn]
 have e:(bA f x.toNat).End.To=[El f x.toNat 0]:=by
  unfold El;rcases h:(bA f x.toNat).End.To with _|⟨y,_|⟨z,l⟩⟩
  ·rw[h]at h1;cases h1
  ·rfl
  ·rw[h]at h1;simp at h1
 rw[e,rise_one]
theorem succ_if{i:Nat}(hi:i<f.Blocks.length)(hk:(bA f i).End.Kind=2){y:Nat}:y∈sN (rowsF f) i↔(y:Int)=El f i 0\/(y:Int)=El f i 1:=by
 rw[mem_sN R.may (by rw[Mf];exact hi),rows_at hi,(Vp _).2];have h2:=R.two i hi hk;unfold El;rcases h:(bA f i).End.To with _|⟨u,_|⟨v,_|⟨w,l⟩⟩⟩
 ·rw[h]at h2;cases h2
 ·rw[h]at h2;simp at h2
 ·simp
 ·rw[h]at h2;simp at h2
theorem ham_go{i:Nat}(hi:i<f.Blocks.length){v:Ac}(ho:Wx f i=some v){y:Nat}(hy:y∈sN (rowsF f) i):(y:Int)=v.Join\/(rowsF f).getD y []=[v.Join]:=by
 obtain⟨hk,hne,hJ,hAJ,hc⟩:=Zd R hi ho;have t0:=Ur R hi hk 0 (by omega);have t1:=Ur R hi hk 1 (by omega)
 have side:∀ x:Int,Bd x f.Blocks.length->Pk f i x=true->El f x.toNat 0=v.Join->(y:Int)=x->(rowsF f).getD y []=[v.Join]:=fun x hx hm e e2=>by
  have:=succ_mid R hx hm;rw[e,<- e2,Au]at this;exact this
 rcases(succ_if R hi hk).1 hy with e|e
 ·rcases hc with⟨a,b,c,d,g,g2⟩|⟨a,b,c,d,g⟩|⟨a,b,c,d,g⟩
  ·exact .inr (side v.Then (by rw[a];exact t0) c g (by rw[a];exact e))
  ·exact .inr (side v.Then (by rw[a];exact t0) d g (by rw[a];exact e))
  ·exact .inl (by rw[c];exact e)
 ·rcases hc with⟨a,b,c,d,g,g2⟩|⟨a,b,c,d,g⟩|⟨a,b,c,d,g⟩
  ·exact .inr (side v.Else (by rw[b];exact t1) d g2 (by rw[b];exact e))
  ·exact .inl (by rw[c];exact e)
  ·exact .inr (side v.Else (by rw[b];exact t1) d g (by rw[b];exact e))
theorem hm_shut(h0:(N2 (rowsF f)).length=0):∀ m k,Bg (rowsF f) m k=Bg (rowsF f) 0 k\/(rowsF f).length<=k:=by
 have _R:=R
 have hall:∀ k,k<(rowsF f).length->La (rowsF f) (Bg (rowsF f) 0) k=true:=fun k hk=>by
  cases hh:La (rowsF f) (Bg (rowsF f) 0) k with
  | true=>rfl
  | false=>
   have:(k:Int)∈N2 (rowsF f):=by unfold N2;rw[mem_filt];exact⟨k,rfl,hk,by rw[hh];rfl⟩
   have:=List.length_pos_of_mem this;omega
 intro m
 induction m with
 | zero=>intro k;exact .inl rfl
 | succ m ih=>
  intro k
  by_cases hk:k<(rowsF f).length
  ·refine .inl ?_
   have hm:∀ j,j<(rowsF f).length->Bg (rowsF f) m j=Bg (rowsF f) 0 j:=fun j hj=>by
    rcases ih j with e|e
    ·exact e
    ·omega
   show(Bg (rowsF f) m k || (decide (k=m)&&!La (rowsF f) (Bg (rowsF f) m) m))=_
   rw[hm k hk]
   by_cases e:k=m
   ·subst e;rw[hitB_congr hm,hall k hk]
    simp
   ·simp[e]
  ·exact .inr (by omega)
theorem ham_over(hn:f.Blocks.length<64)(h0:(N2 (rowsF f)).length=0){i:Nat}(hi:i<f.Blocks.length){v:Ac}(ho:Wx f i=some v):Pv (O7 (rowsF f)) v.Join (i:Int)=true:=by
 obtain⟨hk,hne,hJ,hAJ,hc⟩:=Zd R hi ho;have hl:=Mf f;have hm:=R.may
 have hJn:v.Join.toNat<f.Blocks.length:=by have:=hJ.1;have:=hJ.2;omega
 have hJc:((v.Join.toNat:Nat):Int)=v.Join:=N3 hJ.1;rw[<- hJc,pover hm (by omega) (by omega) (by omega)]
 have key:∀ y,Av (sN (Mn (rowsF f))) i v.Join.toNat y->y=i\/(y<f.Blocks.length/\(rowsF f).getD y []=[v.Join]):=by
  intro y h
  induction h with
  | root _=>exact .inl rfl
  | @step x y hx hy hz ih=>
   have hs:=(Xe hm).1 hy
   have out:∀ k,k<f.Blocks.length->Bg (rowsF f) (rowsF f).length k=true->(rowsF f).getD k []=[]:=fun k hk hg=>by
    rcases hm_shut R h0 (rowsF f).length k with e|e
    ·rw[e]at hg;have:((rowsF f).getD k []).isEmpty=true:=hg
     simpa using this
    ·omega
   rcases ih with rfl|⟨h1,h2⟩
   ·rcases hs.2 with h3|⟨h3,h4⟩
    ·have hyn:y<f.Blocks.length:=by have:=Nk hm _ (by omega) _ h3;omega
     rcases ham_go R hi ho h3 with e|e
     ·exact absurd (by omega) hz
     ·exact .inr ⟨hyn,e⟩
    ·have hne':El f x 0∈(rowsF f).getD x []:=by rw[rows_at hi,(Vp _).2];exact A8 (by rw[R.two x hi hk];omega)
     rw[out x hi h3]at hne';cases hne'
   ·rcases hs.2 with h3|⟨h3,h4⟩
    ·rw[mem_sN hm (by omega),h2]at h3
     have:(y:Int)=v.Join:=by simpa using h3
     exact absurd (by omega) hz
    ·have:=out x h1 h3;rw[h2]at this
     cases this
 intro hav;rcases key _ hav with e|⟨e,_⟩<;>omega
theorem ham_reach{i:Nat}(hi:i<f.Blocks.length){v:Ac}(ho:Wx f i=some v):Rch (sN (rowsF f)) i v.Join.toNat:=by
 obtain⟨hk,hne,hJ,hAJ,hc⟩:=Zd R hi ho;have t0:=Ur R hi hk 0 (by omega);have hy:(El f i 0).toNat∈sN (rowsF f) i:=(succ_if R hi hk).2 (.inl (N3 t0.1));have hl:=Mf f;have h1:Rch (sN (rowsF f)) i (El f i 0).toNat:=Rch.tail (Rch.refl i) hy;rcases ham_go R hi ho hy with e|e
 ·have:(El f i 0).toNat=v.Join.toNat:=by rw[<- e,Au]
  rw[<- this];exact h1
 ·refine Rch.tail h1 ?_
  have hlt:(El f i 0).toNat<f.Blocks.length:=by have:=t0.1;have:=t0.2;omega
  rw[mem_sN R.may (by omega),e,N3 hJ.1]
  simp
theorem mid_row{i:Nat}(hi:i<f.Blocks.length){v:Ac}(ho:Wx f i=some v){x:Int}(hx:0<=x)(he:x=v.Then\/x=v.Else):x.toNat<f.Blocks.length/\(rowsF f).getD x.toNat []=[v.Join]/\(A4 (rowsF f)).getD x.toNat []=[v.At]:=by
 obtain⟨hk,_,_,_,hcs⟩:=Zd R hi ho;have t0:=Ur R hi hk 0 (by omega);have t1:=Ur R hi hk 1 (by omega);have hp:=mid_at R (mem_all.2 ⟨i,hi,ho⟩) hx he
 have g:∀ y:Int,Bd y f.Blocks.length->Pk f i y=true->El f y.toNat 0=v.Join->x=y->x.toNat<f.Blocks.length/\(rowsF f).getD x.toNat []=[v.Join]/\(A4 (rowsF f)).getD x.toNat []=[v.At]:=fun y hy hm e e2=>by
  subst e2;have:=succ_mid R hy hm;rw[e]at this;exact⟨by have:=hy.1;have:=hy.2;omega,this,hp⟩
 rcases hcs with⟨a,b,c,d,e1,e2⟩|⟨a,b,_,d,e1⟩|⟨a,b,_,d,e1⟩<;>rcases he with rfl|rfl
 ·exact g _ (a▸t0) c e1 rfl
 ·exact g _ (b▸t1) d e2 rfl
 ·exact g _ (a▸t0) d e1 rfl
 ·rw[b]at hx;omega
 ·rw[a]at hx;omega
 ·exact g _ (b▸t1) d e1 rfl
end
theorem meets14(f:TFunc)(hf:InF f):Eh f=some true:=by
 unfold Eh;rw[m_awake14,Ax,E6,A0];obtain⟨b,hb,hsm⟩:=m_small16 hf;rw[hb,Ax]
 cases b with
 | false=>rfl
 | true=>
  obtain⟨h,h16⟩:=hsm rfl;rw[E6,A0,m_of f hf.blocks,Ax,m_All' h,Ax]
  cases hs:Mi f with
  | false=>
   have hA:Kt f=[]:=by
    unfold Kt
    cases hc:okF f with
    | false=>rfl
    | true=>
     have:=((Rn (f:=f) (l:=2) (by omega) (by omega)).1 (by simpa [okF] using hc)).2.1;unfold Gw at this;rw[hs]at this;cases this
   rw[hA];rfl
  | true=>
   have hm:=O8 hs;have hfit:=Kv hm;obtain⟨hg1,hg2⟩:=hfit;rw[Aj]
   show(bif ((0:Int)!=0) then _ else(Jx (H3 (rowsF f))).bind _)=_
   rw[show((0:Int)!=0)=false from rfl,A0,m_pTree _ hg1 hg2,Ax];have hlen:=small_n h
   have hL:An (Cn (H3 (rowsF f),0) (Kt f) (if Ma (H3 (rowsF f))=true/\(H3 (rowsF f)).Succ.length<64 then O7 (H3 (rowsF f)).Succ else[])) (0:Int)=some (.inl ()):=by
    refine loop_allT _ _ (Kt f).length (fun i hi=>?_) (by unfold Cn;simp only[I6,A0]);have hv:=A8 (d:=(default:Ac)) hi;have hiv:=isHR_mem.2 hv;have hiv':=hiv;unfold isHR at hiv';rw[A7]at hiv';obtain⟨hc,hi2⟩:=hiv';have R:=rt_of h (by simpa [okF] using hc);obtain⟨a,ha,ho⟩:=mem_all.1 (is_mem.1 hi2);have hAt:=ham_at ho;have hl:=Mf f;have hn16:=h16 (okF_may hc);have hS:(H3 (rowsF f)).Succ=rowsF f:=rfl;have hP:(H3 (rowsF f)).Pred=A4 (rowsF f):=rfl;rw[if_pos ⟨Mb hm,by rw[hS];omega⟩,hS];obtain⟨_,_,hJ,_,_⟩:=Zd R ha ho
    have hJn:((Kt f).getD i default).Join.toNat<f.Blocks.length:=by have:=hJ.1;have:=hJ.2;omega
    have hin:An (Cm (H3 (rowsF f),0) (Kt f) (i:Int)) (0:Int)=some (.inl ()):=by
     refine loop_allT _ _ 2 (fun k hk=>?_) (by unfold Cm;rfl);unfold Cm;have hd:decide ((k:Int)<2)=true:=Fu (by omega);have e2:Bd (k:Int) ([((Kt f).getD i default).Then,((Kt f).getD i default).Else]:List Int).length:=A5 hk
     obtain⟨x,hx,hxe⟩:∃ x,([((Kt f).getD i default).Then,((Kt f).getD i default).Else]:List Int).getD k 0=x/\(x=((Kt f).getD i default).Then\/x=((Kt f).getD i default).Else):=by
      have hc:k=0\/k=1:=by omega
      rcases hc with rfl|rfl
      ·exact⟨_,rfl,.inl rfl⟩
      ·exact⟨_,rfl,.inr rfl⟩
     simp only[hd,Aj,Am e2,Au,hx,hS,hP,w1 (show k<4611686018427387904 by omega),Am (fun _=>e2)]
     by_cases h0:(0:Int)<=x
     ·obtain⟨m1,m2,m3⟩:=mid_row R ha ho h0 hxe;have ix:Bd x (rowsF f).length:=⟨h0,by omega⟩;have ip:Bd x (A4 (rowsF f)).length:=⟨h0,by rw[pr_len];omega⟩;rw[m2,m3,Fu h0];simp only[Am (fun _=>ix),Am (fun _=>ip)];have i1:∀ z:Int,Bd (0:Int) ([z]:List Int).length:=fun z=>⟨by omega,by simp⟩;rw[Am (fun _=>i1 _),Am (fun _=>i1 _)];have n1:∀ z:Int,((([z]:List Int).length:Int)!=1)=false:=fun z=>rfl
      have n2:∀ z:Int,(([z]:List Int).getD (0:Int).toNat 0 !=z)=false:=fun z=>by simp
      rw[n1,n1,n2,n2];rfl
     ·rw[Gl h0];simp only[show((false:Bool)==true)=false from rfl,Wh,A0];rw[Am (fun hq=>by cases hq),Am (fun hq=>by cases hq),Am (fun hq=>by cases hq),Am (fun hq=>by cases hq),Am (fun hq=>by cases hq),Am (fun hq=>by cases hq)]
    unfold Cn;simp only[E8 hi,Aj,Am (A5 hi),Au,hin,Ax,m_pShut _ hg1 hg2,Mb hm,hS,Hx,w1 (show i<4611686018427387904 by omega)]
    have hptl:(O7 (rowsF f)).length<=64:=by rw[ptree_len hm (by omega)];omega
    have hover:(bif ((((N2 (rowsF f)).length:Int)==0)==true) then Jw (O7 (rowsF f)) ((Kt f).getD i default).Join ((Kt f).getD i default).At else some false)=some (((N2 (rowsF f)).length:Int)==0):=by
     by_cases h0:(N2 (rowsF f)).length=0
     ·rw[h0,show(((0:Nat):Int)==0)=true from rfl,show((true:Bool)==true)=true from rfl,Aj,m_pOver _ _ _ hptl,hAt,ham_over R (by omega) h0 ha ho]
     ·rw[show(((N2 (rowsF f)).length:Int)==0)=false by simpa using h0];rfl
    rw[hover,Ax]
    have hb2:(bif (((N2 (rowsF f)).length:Int)==0) then(!(((N2 (rowsF f)).length:Int)==0)) else false)=false:=by cases(((N2 (rowsF f)).length:Int)==0)<;>rfl
    rw[hb2,show((false:Bool)==false)=true from rfl,Aj,hAt];have hr:=m_reach hm (r:=a) (by omega);rw[hr,Ax,Am (fun _=>⟨hJ.1,by rw[rds_len];simp only[E5,Pf];have:=hJ.2;omega⟩),A0,(Ug (S:=sN (rowsF f)) (n:=(rowsF f).length) (fun z hz y hy=>Nk hm z hz y hy) (by omega) _).2 (ham_reach R ha ho)]
    rfl
   rw[hL];rfl
end
end Go.Proofs.YtmkiepobhjiabaaGreat
