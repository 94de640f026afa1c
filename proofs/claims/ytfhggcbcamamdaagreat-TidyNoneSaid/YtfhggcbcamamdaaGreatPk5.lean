/-
  The machine, the program's functions and the laws' arithmetic: part 5 of 6.
-/
import Derived.Test.YtfhggcbcamamdaaGreatPk4
import Derived.Lib.RowBridge
set_option linter.unusedSectionVars false
set_option linter.unusedVariables false
set_option linter.unusedSimpArgs false
namespace Go.Proofs.YtfhggcbcamamdaaGreat
noncomputable section
open Go Go.RowKit
def gV(n:Nat)(l:List Int)(i:Nat):Bool:=decide ((if i=0 then(-1:Int) else l.getD (i-1) 0)<l.getD i 0)&&(decide (0<=l.getD i 0)&&decide (l.getD i 0<n))
def ma(n:Nat)(l:List Int):Bool:=(List.range l.length).all (gV n l)
def Mq(L:List (List Int)):Bool:=decide (1<=L.length)&&decide (L.length<=64)&&(List.range L.length).all λi=>ma L.length (L.getD i [])
def Yx(L:List (List Int))(k i:Nat):Bool:=(L.getD k []).contains (i:Int)
def J7(L:List (List Int))(m i:Nat):List Int:=((List.range m).filter λk=>Yx L k i).map Int.ofNat
def Cx(L:List (List Int)):List (List Int):=(List.range L.length).map (J7 L L.length)
theorem Wi(a n:Int):Ka a n=some (decide (0<=a)&&decide (a<n)):=by
 unfold Ka
 cases decide (0<=a)<;>rfl
theorem WX(n:Nat):Ml (n:Int)=some (decide (1<=n)&&decide (n<=64)):=by
 unfold Ml
 have h1:decide ((1:Int)<=n)=decide (1<=n):=by grind
 have h2:decide (n<=(64:Int))=decide (n<=64):=by grind
 rw[h1,h2]
 cases decide (1<=n)<;>rfl
theorem SA(L:List (List Int))(i:Nat)(hl:(L.getD i []).length<4611686018427387904) :
  Ac (Hr L (i:Int)) ((-1:Int),(0:Int))=some (bif ma L.length (L.getD i []) then .inl () else .inr false):=by
 refine H8 (Hr L i) (λj=>((if j=0 then -1 else(L.getD i []).getD (j-1) 0),(j:Nat))) _ _ _ _ (λj hj hp=>?_) (λj hj hp=>?_) ?_
 ·unfold gV at hp;simp only[A5,Fz]at hp;obtain⟨h1,h2,h3⟩:=hp;unfold Hr;simp only[Ak,Bt hj, Wi];rw[Ad (Fy hj)]
  have e1:decide ((L.getD i []).getD j 0<=(if j=0 then -1 else(L.getD i []).getD (j-1) 0))=false:=by simpa using h1
  simp only[e1,Dr h2,Dr h3,     D6];rw[w1 (show j<4611686018427387904 by omega)]
  simp
 ·unfold Hr;simp only[Ak,Bt hj, Wi];rw[Ad (Fy hj)]
  cases h1:decide ((L.getD i []).getD j 0<=(if j=0 then -1 else(L.getD i []).getD _ 0)) with
  | true=>grind
  | false=>
   have h1':decide ((if j=0 then -1 else(L.getD i []).getD (j-1) 0)<(L.getD i []).getD j 0)=true:=by simpa using h1
   unfold gV at hp;rw[h1',Mu]at hp;simp only[Ve,Ah,Au,An,hp,L5]
 ·unfold Hr;simp only[Ak,Co,Au]
def Fits(L:List (List Int)):Prop:=L.length<4611686018427387904/\∀ l∈L,l.length<4611686018427387904
theorem Fits.at{L:List (List Int)}(h:Fits L)(i:Nat):(L.getD i []).length<4611686018427387904:=by
 by_cases hi:i<L.length
 ·exact h.2 _ (Ag hi)
 ·grind
theorem lc(L:List (List Int))(h:Fits L):Ph L=some (Mq L):=by
 unfold Ph;rw[WX,An];unfold Mq
 cases hc:(decide (1<=L.length)&&decide (L.length<=64)) with
 | false=>rfl
 | true=>
  simp only[D6,Au,Mu];have:=H8 (Dw L) (λj=>((j:Nat):Int)) (λi=>ma L.length (L.getD i [])) (.inl ()) (.inr false) L.length (λj hj hp=>?_) (λj hj hp=>?_) ?_
  ·rw[show Ac (Dw L) (0:Int)=_ from this]
   cases(List.range L.length).all λi=>ma L.length (L.getD i [])<;>rfl
  ·show Dw L (j:Int)=_
   unfold Dw;simp only[Bt hj,Ah];rw[Ad (Fy hj),SA L j (h.at j),hp];simp only[Ah,An,w1 (show j<4611686018427387904 by have:=h.1;omega)]
  ·show Dw L (j:Int)=_
   unfold Dw;simp only[Bt hj,Ah];rw[Ad (Fy hj),SA L j (h.at j),hp]
   rfl
  ·show Dw L _=_
   unfold Dw;simp only[Co,Au]
theorem Pb{α:Type}{n i:Nat}{g:Nat->α}{d:α}(h:i<n):((List.range n).map g).getD i d=g i:=by simp[ h]
theorem BX{α:Type}{n i:Nat}{g:Nat->α}{x:α}:((List.range n).map g).set i x=(List.range n).map λj=>if j=i then x else g j:=by
 apply List.ext_getElem?
 intro j;rw[List.getElem?_set]
 by_cases hj:j<n
 ·grind
 ·grind
theorem Hn{α:Type}{n:Nat}{g h:Nat->α}(H:∀ i,i<n->g i=h i):(List.range n).map g=(List.range n).map h:=ML λi hi=>H i (zzL41.1 hi)
theorem mayS_iff{L:List (List Int)}:Mq L=true↔1<=L.length/\L.length<=64/\∀ i,i<L.length->ma L.length (L.getD i [])=true:=by
 unfold Mq;rw[A5,A5,all_range];simp only[Fz];exact⟨λ⟨⟨a,b⟩,c⟩=>⟨a,b,c⟩,λ⟨a,b,c⟩=>⟨⟨a,b⟩,c⟩⟩
theorem okL_iff{n:Nat}{l:List Int}:ma n l=true↔∀ i,i<l.length->(0<=l.getD i 0/\l.getD i 0<n)/\(0<i->l.getD (i-1) 0<l.getD i 0):=by
 unfold ma;rw[all_range];unfold gV;simp only[A5,Fz]
 constructor
 ·grind
 ·intro h i hi;obtain⟨⟨h2,h3⟩,h1⟩:=h i hi
  by_cases hz:i=0
  · omega
  ·grind
section
variable {n:Nat} {l:List Int} (h:ma n l=true)
include h
theorem BC{i:Nat}(hi:i<l.length):0<=l.getD i 0/\l.getD i 0<n:=(okL_iff.1 h i hi).1
theorem pP{i j:Nat}(hij:i<j)(hj:j<l.length):l.getD i 0<l.getD j 0:=by
 induction j with
 | zero=>omega
 | succ j ih=>
  have h1:=(okL_iff.1 h _ hj).2 (by omega)
  by_cases he:i=j
  ·rw[he];exact h1
  ·grind
theorem wh{i:Nat}(hi:i<l.length):(i:Int)<=l.getD i 0:=by
 induction i with
 | zero=>exact(BC h hi).1
 | succ i ih=>
  have:=pP h (show i<i+1 by omega) hi;omega
theorem DN:l.length<=n:=by
 by_cases hz:l.length=0
 ·omega
 ·have h1:=wh h (show l.length-1<l.length by omega);have h2:=(BC h (show l.length-1<l.length by omega)).2;omega
theorem am{x:Int}(hx:x∈l):0<=x/\x<n:=by
 obtain⟨i,hi,rfl⟩:=Gr hx;have:=BC h hi;rwa[Ab _ _ _ hi]at this
end
theorem wi{n:Nat}{l:List Int}(h1:∀ x∈l,0<=x/\x<n)(h2:l.Pairwise (·<·)):ma n l=true:=by
 rw[okL_iff];intro i hi;rw[Ab _ _ _ hi];refine⟨h1 _ (KI hi),λhp=>?_⟩;rw[Ab _ _ _ (show i-1<l.length by omega)];exact(zzL91.1 h2) _ _ _ _ (by omega)
theorem Tl{L:List (List Int)}(h:Mq L=true):L.length<=64/\∀ l∈L,l.length<=64:=by
 obtain⟨h1,h2,h3⟩:=mayS_iff.1 h;refine⟨h2,λl hl=>?_⟩;obtain⟨i,hi,rfl⟩:=Gr hl;have:=DN (h3 i hi);rw[Ab _ _ _ hi]at this;omega
theorem sq{L:List (List Int)}(h:L.length<=1000/\∀ l∈L,l.length<=1000):Fits L:=⟨by omega,λl hl=>by have:=h.2 l hl;omega⟩
theorem BN(L:List (List Int))(k i:Nat):J7 L (k+1) i=J7 L k i++(if Yx L k i=true then[(k:Int)] else[]):=by
 unfold J7;rw[Vg,Vd];cases hg:Yx L k i<;>simp[hg]
theorem Yd(L:List (List Int))(k i:Nat):(J7 L k i).length<=k:=by
 unfold J7;have:=List.length_filter_le (λk=>Yx L k i) (List.range k)
 simpa using this
theorem WM{l:List Int}{j:Nat}(hj:j<l.length):l.take (j+1)=l.take j++[l.getD j 0]:=by
 simp_all
def Vo(L:List (List Int))(k j i:Nat):Bool:=((L.getD k []).take j).contains (i:Int)
def Ox(L:List (List Int))(k j:Nat):List (List Int):=(List.range L.length).map λi=>J7 L k i++(if Vo L k j i=true then[(k:Int)] else[])
theorem cS(L:List (List Int))(h:Mq L=true)(k j:Nat)(hk:k<L.length)(hj:j<(L.getD k []).length) :
  (Ox L k j).set ((L.getD k []).getD j 0).toNat ((Ox L k j).getD ((L.getD k []).getD j 0).toNat []++[(k:Int)])=Ox L k (j+1):=by
 obtain⟨h1,h2,h3⟩:=mayS_iff.1 h;have hok:=h3 k hk;obtain⟨a0,a1⟩:=BC hok hj;unfold Ox;rw[Pb (by omega),BX]
 apply Hn
 intro i hi
 have hnot:Vo L k j ((L.getD k []).getD j 0).toNat=false:=by
  unfold Vo;rw[Y8 a0]
  cases hc:((L.getD k []).take j).contains _ with
  | false=>rfl
  | true=>
   rw[zzL60]at hc;obtain⟨m,hm,he⟩:=Gr hc
   have hm':m<j:=by simp at hm;omega
   rw[List.getElem_take]at he;have:=pP hok hm' hj;rw[Ab _ _ _ (show m<(L.getD k []).length by omega)]at this;omega
 by_cases hi2:i=((L.getD k []).getD j 0).toNat
 ·rw[ hnot]
  have:Vo L k (j+1) i=true:=by
   unfold Vo;rw[WM hj, hi2,Y8 a0]
   simp
  rw[this,hi2]
  simp
 ·rw[if_neg hi2]
  have:Vo L k (j+1) i=Vo L k j i:=by
   unfold Vo;rw[WM hj,EZ,zzL60,zzL60,zzL11]
   constructor
   ·grind
   ·exact .inl
  rw[this]
theorem dE(L:List (List Int))(h:Mq L=true):Ns L=some (Cx L):=by
 obtain⟨h1,h2,h3⟩:=mayS_iff.1 h
 have hroom:(1000:Nat)<=room:=by decide
 unfold Ns;rw[Ad ⟨by omega,Int.le_refl _,by omega⟩,Ak]
 have inner:∀ k,k<L.length->Ac _ ((0:Int),Ox L k 0)=some (Ox L k (L.getD k []).length):=λk hk=>by
  have hok:=h3 k hk;refine De (M5 L (k:Int)) (λj=>(((j:Nat):Int),Ox L k j)) _ (L.getD k []).length (λj hj=>?_) ?_
  ·obtain⟨a0,a1⟩:=BC hok hj
   have hlen:(Ox L k j).length=L.length:=by simp[Ox]
   have hl64:=DN hok;unfold M5;simp only[Ak,Bt hj,Ah];have hb:A1 ((L.getD k []).getD j 0) (Ox L k j).length:=⟨a0,by rw[hlen];exact a1⟩
   have hrow:((Ox L k j).getD ((L.getD k []).getD j 0).toNat []).length<=k+1:=by
    unfold Ox;rw[Pb (by omega),Fg];have:=Yd L k ((L.getD k []).getD j 0).toNat
    split
    ·rw[EU];omega
    ·rw[List.length_nil];omega
   rw[Ad (Fy hj),Ad hb,Ad hb,Ad (by grind),Ad hb,cS L h k j hk hj,w1 (by omega)]
  ·unfold M5;simp only[Ak,Co,Au]
 have r0:∀ k,Ox L k 0=(List.range L.length).map (J7 L k):=λk=>by
  unfold Ox
  apply Hn
  intro i _;simp[Vo]
 have r1:∀ k,Ox L k (L.getD k []).length=(List.range L.length).map (J7 L (k+1)):=λk=>by
  unfold Ox
  apply Hn
  intro i _;rw[BN];unfold Vo Yx;rw[W1]
 have:Ac (Kk L) ((0:Int),(List.range L.length).map (J7 L 0))=some (Cx L):=De (Kk L) (λk=>(((k:Nat):Int),(List.range L.length).map (J7 L k))) (Cx L) L.length (λk hk=>?_) ?_
 ·have e0:(List.replicate L.length ([]:List Int))=(List.range L.length).map (J7 L 0):=by
   apply List.ext_getElem?
   intro i
   by_cases hi:i<L.length<;>simp[hi,List.getElem?_replicate,J7]
  rw[e0,this];rfl
 ·unfold Kk;simp only[Bt hk,Ah];rw[Ad (Fy hk),<- r0,inner k hk,r1,w1 (by omega)]
  rfl
 ·unfold Kk;simp only[Co,Au]
  rfl
theorem Ut{α:Type}[DecidableEq α]{a b:List α}{d:α}(h:a.length=b.length):((List.range a.length).all λi=>decide (a.getD i d=b.getD i d))=decide (a=b):=by
 rw[EZ,all_range,Fz]
 constructor
 ·intro hall
  apply CJ h
  intro i h1 h2;have:=KH (hall i h1);rwa[Ab _ _ _ h1,Ab _ _ _ h2]at this
 ·rintro rfl i _
  simp
theorem HG{a b:Nat}:(((a:Nat):Int)!=(b:Int))=decide (a≠b):=by
 grind
theorem ZT{a b:Int}:(a !=b) = !decide (a=b):=by
 grind
theorem aa(a b:List Int)(hb:b.length<4611686018427387904):G2 a b=some (decide (a=b)):=by
 unfold G2;rw[HG]
 by_cases hl:a.length=b.length
 ·rw[C9 (by simpa using hl)];have:Ac (E7 a b) 0=_:=H8 _ (λj=>(j:Int)) (λi=>decide (a.getD i 0=b.getD i 0)) (.inl ()) (.inr false) a.length (λj hj hp=>?_) (λj hj hp=>?_) ?_
  ·rw[this,Ut hl]
   cases decide (a=b)<;>rfl
  ·unfold E7;simp only[Ak,Bt hj];rw[Ad (Fy hj),Ad (Fy (by omega)),ZT,hp,w1 (by omega)]
   rfl
  ·unfold E7;simp only[Ak,Bt hj];rw[Ad (Fy hj),Ad (Fy (by omega)),ZT,hp]
   rfl
  ·unfold E7;simp only[Co,Au]
 ·rw[Dr (by simpa using hl),Ah,C9 (λh=>hl (by rw[h]))]
theorem f8(a b:List Int)(ha:a.length<4611686018427387904):Dp a b=some (decide (a=b)):=by
 unfold Dp;rw[HG]
 by_cases hl:a.length=b.length
 ·rw[C9 (by simpa using hl)];have:Ac _ (0:Int)=_:=H8 (Ga a b) (λj=>(j:Nat)) (λi=>decide (a.getD i 0=b.getD i 0)) (.inl ()) (.inr false) a.length (λj hj hp=>?_) (λj hj hp=>?_) ?_
  ·rw[this,Ut hl]
   cases decide (a=b)<;>rfl
  ·unfold Ga;simp only[Ak,Bt hj];rw[Ad (Fy hj),Ad (Fy (by omega)),ZT,hp,w1 (by omega)]
   rfl
  ·unfold Ga;simp only[Ak,Bt hj];rw[Ad (Fy hj),Ad (Fy (by omega)),ZT,hp]
   rfl
  ·unfold Ga;simp only[Co,Au]
 ·rw[Dr (by simpa using hl),Ah,C9 (λh=>hl (by rw[h]))]
theorem dF(a b:List (List Int))(hb:Fits b):Dx a b=some (decide (a=b)):=by
 unfold Dx;rw[HG]
 by_cases hl:a.length=b.length
 ·rw[C9 (by simpa using hl)];have hb1:=hb.1;have:Ac _ (0:Int)=_:=H8 (B5 a b) (λj=>(j:Nat)) (λi=>decide (a.getD i []=b.getD i [])) (.inl ()) (.inr false) a.length (λj hj hp=>?_) (λj hj hp=>?_) ?_
  ·rw[this,Ut hl]
   cases decide (a=b)<;>rfl
  ·unfold B5;simp only[Ak,Bt hj];rw[Ad (Fy hj),Ad (Fy (by omega)),aa _ _ (hb.at j),hp,w1 (by omega)]
   rfl
  ·unfold B5;simp only[Ak,Bt hj];rw[Ad (Fy hj),Ad (Fy (by omega)),aa _ _ (hb.at j),hp]
   rfl
  ·unfold B5;simp only[Co,Au]
 ·rw[Dr (by simpa using hl),Ah,C9 (λh=>hl (by rw[h]))]
theorem Pt(L:List (List Int)):(Cx L).length=L.length:=by simp[Cx]
theorem DP{L:List (List Int)}{i:Nat}(hi:i<L.length):(Cx L).getD i []=J7 L L.length i:=by unfold Cx;rw[Pb hi]
theorem Ye{L:List (List Int)}(h:Mq L=true):(Cx L).length<=64/\∀ l∈Cx L,l.length<=64:=by
 obtain⟨h1,_⟩:=Tl h;refine⟨by rw[Pt];exact h1,λl hl=>?_⟩;obtain⟨i,hi,rfl⟩:=zzL20.1 hl;have:=Yd L L.length i;omega
theorem Ub{L:List (List Int)}(h:L.length<=64/\∀ l∈L,l.length<=64):Fits L:=sq ⟨by omega,λl hl=>by have:=h.2 l hl;omega⟩
def DZ(g:TGraph):Bool:=Mq g.Succ&&decide (g.Pred=Cx g.Succ)
theorem ut(g:TGraph)(h:Fits g.Succ):Ux g=some (DZ g):=by
 unfold Ux DZ;rw[lc _ h]
 cases hm:Mq _ with
 | false=>rfl
 | true=>
  simp only[Ve,Ah,dE _ hm,An,dF _ _ (Ub (Ye hm)),Mu]
def J4(L:List (List Int)):TGraph:=⟨L,Cx L⟩
def g0:TGraph:=⟨[],[]⟩
theorem QJ{L:List (List Int)}(h:Mq L=true):DZ (J4 L)=true:=by simp[DZ,J4,h]
theorem dG(l:List Int)(x:Int)(h:l.length<4611686018427387904):Cj l x=some (l.contains x):=by
 unfold Cj;have:Ac _ (0:Int)=_:=H8 (G1 l x) (λj=>(j:Nat)) (λi=>!decide (l.getD i 0=x)) (.inl ()) (.inr true) l.length (λj hj hp=>?_) (λj hj hp=>?_) ?_
 ·rw[this]
  have e:l.contains x = !((List.range l.length).all λi=>!decide (l.getD i 0=x)):=by
   rw[EZ,zzL60,Y9,<- Bool.not_eq_true,all_range]
   constructor
   ·intro hx hall;obtain⟨i,hi,rfl⟩:=Gr hx;have:=hall i hi;rw[Ab _ _ _ hi]at this;simp at this
   ·grind
  rw[e]
  cases(List.range _).all _<;>rfl
 ·unfold G1;simp only[Ak,Bt hj]
  have:(l.getD j 0==x)=false:=by simpa using hp
  rw[Ad (Fy hj),this,w1 (by omega)]
  rfl
 ·unfold G1;simp only[Ak,Bt hj]
  have:(l.getD j 0==x)=true:=by simpa using hp
  rw[Ad (Fy hj),this]
  rfl
 ·unfold G1;simp only[Co,Au]
theorem XT{X:Type}(a b:List (List Int))(f:Int->Option (LR Int (Unit ⊕ Bool)))(ha:Fits a)(hl:a.length=b.length)
  (hn:∀ i:Nat,i<a.length->f (i:Int)=(Dp (a.getD i []) (b.getD i [])).bind λx=>bif (!x) then some (.done (.inr false)) else some (.next (w64 ((i:Int)+1)))) (he:f (a.length:Int)=some (.done (.inl ()))) :
  Ac f (0:Int)=some (bif decide (a=b) then .inl () else .inr false):=by
 have ha1:=ha.1;have:Ac f 0=_:=H8 f (λj=>(j:Int)) (λi=>decide (a.getD i []=b.getD i [])) _ (.inr false) _ (λj hj hp=>?_) (λj hj hp=>?_) he
 ·rw[this,Ut hl]
 ·rw[hn j hj,f8 _ _ (ha.at j),hp,w1 (by omega)];rfl
 ·rw[hn j hj,f8 _ _ (ha.at j),hp];rfl
theorem wb(a b:TGraph)(h1:Fits a.Succ)(h2:Fits a.Pred):Kp a b=some (decide (a=b)):=by
 have e:decide (a=b)=(decide (a.Succ=b.Succ)&&decide (a.Pred=b.Pred)):=by
  cases a;cases b
  simp
 rw[e];unfold Kp;rw[HG,HG]
 by_cases hs:a.Succ.length=b.Succ.length
 ·by_cases hp:a.Pred.length=b.Pred.length
  ·rw[C9 (by simpa using hs), C9 (by simpa using hp)]
   have s1:=XT (X:=Unit) _ _ (Ij a b) h1 hs (λi hi=>by
    unfold Ij;simp only[Ak,Bt hi,Ah]
    rw[Ad (Fy hi),Ad (Fy (by omega))]) (by
    unfold Ij
    simp only[Co,Au])
   have s2:=XT (X:=Unit) _ _ (Ik a b) h2 hp (λi hi=>by
    unfold Ik;simp only[Ak,Bt hi,Ah]
    rw[Ad (Fy hi),Ad (Fy (by omega))]) (by
    unfold Ik
    simp only[Co,Au])
   rw[s1]
   cases decide (a.Succ=b.Succ) with
   | false=>rfl
   | true=>
    grind
  ·grind
 ·grind
theorem M3{R:Type}{c:Bool}{q:Prop}[Decidable q]{k:Option R}(h:q):A0 (c=true->q) k=k:=Ad λ_=>h
def nz(n:Nat)(l:List Int)(j:Nat):Bool:=
 bif (bif decide (l.getD j 0<0) then true else decide ((n:Int)<=l.getD j 0)) then true else(bif decide ((0:Int)<(j:Int)) then decide (l.getD j 0<=l.getD (j-1) 0) else false)
theorem n6(n:Nat)(l:List Int)(j:Nat):nz n l j = !gV n l j:=by
 unfold nz gV
 by_cases h0:l.getD j 0<0
 ·grind
 ·grind
theorem LY(L:List (List Int))(i:Nat)(hi:i<L.length)(hl:(L.getD i []).length<4611686018427387904) :
  Ac (Eh L (i:Int)) (0:Int)=some (bif ma L.length (L.getD i []) then .inl () else .inr (g0,5)):=by
 have hw:∀ j:Nat,j<(L.getD i []).length->0<j->w64 (j-1)=(j-1:Nat):=λj hj hp=>by rw[He (by omega) (by omega)];omega
 have step:∀ j,j<(L.getD i []).length->Eh L i j=bif nz _ _ j then some _ else some (.next ((j+1:Nat))):=λj hj=>by
  unfold Eh;simp only[Ak,Bt hj];rw[Ad (Fy hi),Ad (Fy hi),Ad (Fy hj),M3 (Fy hi),M3 (Fy hj),M3 (Fy hi),M3 (Fy hj),M3 (Fy hi),w1 (by omega)]
  by_cases hz:j=0
  ·subst hz
   have:decide (0<((0:Nat):Int))=false:=by decide
   rw[this];rw[show((false==true)=false) from rfl,Bool.and_false]
   rfl
  ·rw[hw j hj (by omega),M3 (Fy (by omega))]
   rfl
 have:=H8 (Eh L i) (λj=>(j:Nat)) (gV L.length (L.getD i [])) (.inl ()) (.inr (g0,5)) (L.getD i []).length (λj hj hp=>?_) (λj hj hp=>?_) ?_
 ·exact this
 ·rw[step j hj,n6,hp];rfl
 ·rw[step j hj,n6,hp];rfl
 ·unfold Eh;simp only[Ak,Co,Au];rw[Ad (Fy hi)]
theorem VM(L:List (List Int))(h:Mq L=true):Ac (Ei L) ((0:Int),List.replicate L.length ([]:List Int))=some (Cx L):=by
 obtain⟨h1,h2,h3⟩:=mayS_iff.1 h
 have hroom:(1000:Nat)<=room:=by decide
 have hfit:=Ub (Tl h)
 let R:Nat->Nat->List (List Int):=λi k=>(List.range L.length).map λj=>if j<i then J7 L L.length j else if j=i then J7 L k i else[]
 have inner:∀ i,i<L.length->Ac _ ((0:Int),R i 0)=some (R i L.length):=λi hi=>by
  refine De (Ii L (i:Int)) (λk=>(((k:Nat):Int),R i k)) (R i L.length) L.length (λk hk=>?_) ?_
  ·have hlen:(R i k).length=L.length:=by simp[R]
   have hat:(R i k).getD i []=J7 L k i:=by simp only[R];rw[Pb hi];simp
   unfold Ii;simp only[Ak,Bt hk,Ah];rw[Ad (Fy hk),dG _ _ (hfit.at k),An,w1 (by omega)];have hg:Yx L k i=(L.getD k []).contains (i:Int):=rfl;rw[<- hg,hat]
   have hs:(if Yx L k i=true then(R i k).set i (J7 L k i++[(k:Int)]) else R i k)=R i (k+1):=by
    split
    ·rename_i hgo
     simp only[R];rw[BX]
     apply Hn
     intro j hj
     by_cases hji:j=i
     ·subst hji;simp[BN,hgo]
     ·simp[hji]
    ·rename_i hgo
     simp only[R]
     apply Hn
     intro j hj
     by_cases hji:j=i
     ·subst hji;simp[BN,hgo]
     ·simp[hji]
   rw[<- hs]
   cases hgo:Yx L k i with
   | false=>rfl
   | true=>
    have:=Yd L k i;simp only[Ah];rw[Ad (by rw[hlen];exact Fy hi),Ad (by rw[hlen];exact Fy hi),Ad (by rw[EU];omega),Ad (by rw[hlen];exact Fy hi)]
    rfl
  ·unfold Ii;simp only[Co,Au]
 have:Ac (Ei L) ((0:Int),R 0 0)=some (Cx L):=De (Ei L) (λi=>(((i:Nat):Int),R i 0)) (Cx L) L.length (λi hi=>?_) ?_
 ·have e0:List.replicate L.length ([]:List Int)=R 0 0:=by
   simp only[R]
   apply List.ext_getElem?
   intro j
   by_cases hj:j<L.length<;>simp[hj,List.getElem?_replicate,J7]
  rw[e0,this]
 ·unfold Ei;simp only[Bt hi,Ah];rw[inner i hi,w1 (by omega)];simp only[An]
  congr 3
  simp only[R]
  apply Hn
  intro j hj
  by_cases h4:j<i
  ·simp[h4,show j<i+1 by omega]
  ·by_cases h5:j=i
   ·subst h5;simp
   ·simp[h4,h5,show ¬ j<i+1 by omega];intro h6;simp[J7]
 ·unfold Ei;simp only[Co,Au]
  congr 2
  simp only[R,Cx]
  apply Hn
  intro j hj;simp[hj]
theorem QF(L:List (List Int))(h:Fits L):H2 L=some (bif Mq L then(J4 L,0) else(g0,5)):=by
 have hroom:1000<=room:=by decide
 unfold H2
 have hc:(bif (L.length==(0:Int)) then true else decide (64<(L.length:Int))) = !(decide (1<=L.length)&&decide (L.length<=64)):=by
  grind
 rw[hc];have hm:Mq L=((decide _&&decide _)&&(List.range _).all _):=rfl
 cases hb:(decide (1<=L.length)&&decide (L.length<=64)) with
 | false=>rw[hm,hb];rfl
 | true=>
  have hb':=hb;simp only[A5,Fz]at hb';have:Ac (Gd L) 0=_:=H8 _ (λj=>(j:Int)) (λi=>ma L.length (L.getD i [])) (.inl ()) (.inr (g0,5)) L.length (λj hj hp=>?_) (λj hj hp=>?_) ?_
  ·rw[this]
   cases hall:(List.range L.length).all _ with
   | false=>rw[hm,hb,hall];rfl
   | true=>
    have hmay:Mq L=true:=by rw[hm,hb,hall];rfl
    rw[hmay];rw[Ad ⟨by omega,Int.le_refl _,by omega⟩,Ak,VM L hmay]
    rfl
  ·unfold Gd;simp only[Bt hj];rw[LY L j hj (h.at j),hp,w1 (by omega)]
   rfl
  ·unfold Gd;simp only[Bt hj];rw[LY L j hj (h.at j),hp]
   rfl
  ·unfold Gd;simp only[Co,Au]
theorem HC{L:List (List Int)}(h:Mq L=true):Fits (J4 L).Succ/\Fits (J4 L).Pred:=⟨Ub (Tl h),Ub (Ye h)⟩
theorem lY(g:TGraph)(h:Fits g.Succ):Lp g=some (DZ g):=by
 unfold Lp DZ;rw[QF _ h,An]
 cases hm:Mq _ with
 | false=>rfl
 | true=>
  simp only[Ah,Ve];rw[wb _ _ (HC hm).1 (HC hm).2];simp only[An]
  congr 1
  apply zzL76.2
  cases g with
  | mk s p=>
   simp only[J4,TGraph.mk.injEq,true_and];exact S1
noncomputable section
def upd(s:Nat->Bool)(y:Nat):Nat->Bool:=λz=>decide (z=y) || s z
theorem upd_true{s:Nat->Bool}{y z:Nat}:upd s y z=true↔z=y\/s z=true:=by simp[upd]
theorem upd_false{s:Nat->Bool}{y z:Nat}:upd s y z=false↔z≠y/\s z=false:=by simp[upd]
inductive VL (S:Nat->List Nat):(Nat->Bool)->List Nat->(Nat->Bool)->List Nat->Prop
 | nil (s:Nat->Bool):VL S s [] s []
 | skip {s s':Nat->Bool} {y:Nat} {l o:List Nat} (h:s y=true) (t:VL S s l s' o):VL S s (y::l) s' o
 | step {s s1 s2:Nat->Bool} {y:Nat} {l o1 o2:List Nat} (h:s y=false) (a:VL S (upd s y) (S y) s1 o1) (b:VL S s1 l s2 o2):VL S s (y::l) s2 (o1++y::o2)
inductive Rch (S:Nat->List Nat):Nat->Nat->Prop
 | refl (x:Nat):Rch S x x
 | head {x y z:Nat} (h:y∈S x) (t:Rch S y z):Rch S x z
theorem Rch.tail{S:Nat->List Nat}{x y z:Nat}(h:Rch S x y)(hz:z∈S y):Rch S x z:=by
 induction h with
 | refl x=>exact .head hz (.refl _)
 | head h _ ih=>exact .head h (ih hz)
theorem Rch.trans{S:Nat->List Nat}{x y z:Nat}(h:Rch S x y)(k:Rch S y z):Rch S x z:=by
 induction h with
 | refl x=>exact k
 | head h _ ih=>exact .head h (ih k)
variable {S:Nat->List Nat} {s s':Nat->Bool} {l o:List Nat}
theorem VL.seen(h:VL S s l s' o)(z:Nat):s' z=true↔s z=true\/z∈o:=by
 induction h with
 | nil s=>simp
 | skip h _ ih=>exact ih
 | @step s s1 s2 y l o1 o2 h a b iha ihb=>
  rw[ihb,iha,upd_true]
  constructor
  ·grind
  ·grind
theorem VL.fresh(h:VL S s l s' o){z:Nat}(hz:z∈o):s z=false:=by
 induction h with
 | nil s=>cases hz
 | skip h _ ih=>exact ih hz
 | @step s s1 s2 y l o1 o2 h a b iha ihb=>
  rcases zzL11.1 hz with h1|h1
  ·exact(upd_false.1 (iha h1)).2
  ·rcases zzL37.1 h1 with rfl|h1
   ·exact h
   ·have:=ihb h1
    cases hs:s z with
    | false=>rfl
    | true=>rw[(a.seen z).2 (.inl (upd_true.2 (.inr hs)))]at this;cases this
theorem VL.nodup(h:VL S s l s' o):o.Nodup:=by
 induction h with
 | nil s=>exact List.nodup_nil
 | skip h _ ih=>exact ih
 | @step s s1 s2 y l o1 o2 h a b iha ihb=>
  rw[List.nodup_append];refine⟨iha,zzL113.2 ⟨λhy=>?_,ihb⟩,λu hu v hv=>?_⟩
  ·have:=b.fresh hy;rw[(a.seen y).2 (.inl (upd_true.2 (.inl rfl)))]at this
   cases this
  ·rintro rfl;rcases zzL37.1 hv with rfl|hv
   ·have:=a.fresh hu;rw[upd_true.2 (.inl rfl)]at this
    cases this
   ·have:=b.fresh hv;rw[(a.seen u).2 (.inr hu)]at this
    cases this
theorem VL.rch(h:VL S s l s' o){z:Nat}(hz:z∈o):∃ y∈l,Rch S y z:=by
 induction h with
 | nil s=>cases hz
 | skip h _ ih=>grind
 | @step s s1 s2 y l o1 o2 h a b iha ihb=>
  rcases zzL11.1 hz with h1|h1
  ·obtain⟨u,hu,hr⟩:=iha h1;exact⟨y,zzL54 ..,.head hu hr⟩
  ·rcases zzL37.1 h1 with rfl|h1
   ·exact⟨z,zzL54 ..,.refl z⟩
   ·grind
theorem VL.closed(h:VL S s l s' o):(∀ y∈l,s' y=true)/\∀ z∈o,∀ y∈S z,s' y=true:=by
 induction h with
 | nil s=>grind
 | @skip s s' y l o h t ih=>
  refine⟨λu hu=>?_,ih.2⟩;rcases zzL37.1 hu with rfl|hu
  ·exact(t.seen u).2 (.inl h)
  ·exact ih.1 u hu
 | @step s s1 s2 y l o1 o2 h a b iha ihb=>
  refine⟨λu hu=>?_,λz hz u hu=>?_⟩
  ·rcases zzL37.1 hu with rfl|hu
   ·exact(b.seen u).2 (.inl ((a.seen u).2 (.inl (upd_true.2 (.inl rfl)))))
   ·exact ihb.1 u hu
  ·rcases zzL11.1 hz with h1|h1
   ·exact(b.seen u).2 (.inl (iha.2 z h1 u hu))
   ·rcases zzL37.1 h1 with rfl|h1
    ·exact(b.seen u).2 (.inl (iha.1 u hu))
    ·exact ihb.2 z h1 u hu
theorem VL.above(h:VL S s l s' o)(hf:∀ z,∀ y∈S z,z<y){b:Nat}(hb:∀ y∈l,b<y):∀ z∈o,b<z:=by
 induction h generalizing b with
 | nil s=>intro z hz;cases hz
 | skip h _ ih=>exact ih (λy hy=>hb y (Oa _ hy))
 | @step s s1 s2 y l o1 o2 h a c iha ihb=>
  intro z hz;have hy:=hb y (zzL54 ..);rcases zzL11.1 hz with h1|h1
  ·exact iha (λu hu=>Nat.lt_trans hy (hf y u hu)) z h1
  ·rcases zzL37.1 h1 with rfl|h1
   ·exact hy
   ·exact ihb (λu hu=>hb u (Oa _ hu)) z h1
theorem VL.ahead(h:VL S s l s' o)(hf:∀ z,∀ y∈S z,z<y):∀ z∈o,∀ y∈S z,s y=true\/∃ A B,o=A++z::B/\y∈A:=by
 induction h with
 | nil s=>intro z hz;cases hz
 | skip h _ ih=>exact ih
 | @step s s1 s2 y l o1 o2 h a c iha ihb=>
  intro z hz u hu;rcases zzL11.1 hz with h1|h1
  ·have hzy :=a.above hf (λv hv=>hf y v hv) z h1;have hzu:=hf z u hu;rcases iha z h1 u hu with h2|⟨A,B,rfl,hA⟩
   ·rcases upd_true.1 h2 with rfl|h2
    ·omega
    ·exact .inl h2
   ·grind
  ·rcases zzL37.1 h1 with rfl|h1z
   ·have hzu:=hf z u hu;rcases(a.seen u).1 (a.closed.1 u hu) with h2|h2
    ·rcases upd_true.1 h2 with rfl|h2
     ·omega
     ·exact .inl h2
    ·grind
   ·rcases ihb z h1z u hu with h2|⟨A,B,rfl,hA⟩
    ·rcases(a.seen u).1 h2 with h3|h3
     ·rcases upd_true.1 h3 with rfl|h3
      ·obtain⟨P,Q,rfl⟩:=List.append_of_mem h1z;exact .inr ⟨o1++u::P,Q,by simp,by simp⟩
      ·exact .inl h3
     ·obtain⟨P,Q,rfl⟩:=List.append_of_mem h1z;exact .inr ⟨o1++y::P,Q,by simp,by simp[h3]⟩
    ·grind
def cQ(n:Nat)(s:Nat->Bool):Nat:=((List.range n).filter λz=>!s z).length
theorem CY{n:Nat}{s:Nat->Bool}{y:Nat}(hy:y<n)(h:s y=false):cQ n (upd s y)+1=cQ n s:=by
 unfold cQ
 induction n with
 | zero=>omega
 | succ n ih=>
  rw[Vg,Vd,Vd,Fg,Fg]
  by_cases hyn:y=n
  ·subst hyn
   have e:(List.range y).filter (λz=>!upd s y z)=(List.range y).filter (λz=>!s z):=by
    apply List.filter_congr
    intro z hz;have:=zzL41.1 hz;simp[upd,show z≠y by omega]
   rw[e];simp[upd,h]
  ·have e:([n].filter λz=>!upd s y z).length=([n].filter λz=>!s z).length:=by
    simp only[List.filter_cons, upd];simp[Q7 hyn]
   omega
theorem cR{n:Nat}{s s':Nat->Bool}(h:∀ z,s z=true->s' z=true):cQ n s'<=cQ n s:=by
 apply List.Sublist.length_le
 have:(List.range n).filter (λz=>!s' z)=((List.range n).filter λz=>!s z).filter λz=>!s' z:=by
  rw[List.filter_filter]
  apply List.filter_congr
  intro z _
  cases hs:s z with
  | false=>simp
  | true=>simp[h z hs]
 rw[this];exact List.filter_sublist
theorem VL.exist{n:Nat}(hS:∀ z,z<n->∀ y∈S z,y<n):∀(m:Nat) (s:Nat->Bool),cQ n s<=m->∀ l:List Nat,(∀ y∈l,y<n)->∃ s' o,VL S s l s' o:=by
 intro m
 induction m with
 | zero=>
  intro s hm l
  induction l with
  | nil=>intro _;exact⟨s,[],.nil s⟩
  | cons y l ih=>
   intro hl;obtain⟨s',o,h⟩:=ih (λz hz=>hl z (Oa _ hz))
   cases hy:s y with
   | true=>exact⟨s',o,.skip hy h⟩
   | false=>have:=CY (hl y (zzL54 ..)) hy;omega
 | succ m ih=>
  intro s hm l
  induction l generalizing s with
  | nil=>intro _;exact⟨s,[],.nil s⟩
  | cons y l ihl=>
   intro hl
   cases hy:s y with
   | true=>
    obtain⟨s',o,h⟩:=ihl s hm (λz hz=>hl z (Oa _ hz));exact⟨s',o,.skip hy h⟩
   | false=>
    have hyn:=hl y (zzL54 ..);have:=CY hyn hy;obtain⟨s1,o1,h1⟩:=ih (upd s y) (by omega) _ (hS y hyn);have h2:cQ n s1<=cQ n s:=cR λz hz=>(h1.seen z).2 (.inl (upd_true.2 (.inr hz)));obtain⟨s2,o2,h3⟩:=ihl s1 (by omega) (λz hz=>hl z (Oa _ hz));exact⟨s2,_,.step hy h1 h3⟩
def one(r:Nat):Nat->Bool:=λz=>decide (z=r)
def Ord(S:Nat->List Nat)(r:Nat)(L:List Nat):Prop:=∃ s' o,VL S (one r) (S r) s' o/\L=r::o.reverse
theorem Ord.exist{n:Nat}(hS:∀ z,z<n->∀ y∈S z,y<n){r:Nat}(hr:r<n):∃ L,Ord S r L:=by
 obtain⟨s',o,h⟩:=VL.exist hS _ _ (zzL6 _) _ (hS r hr);exact⟨_,s',o,h,rfl⟩
theorem Ord.mem{r:Nat}{L:List Nat}(h:Ord S r L)(z:Nat):z∈L↔Rch S r z:=by
 obtain⟨s',o,h,rfl⟩:=h
 have hs:∀ z,s' z=true↔z=r\/z∈o:=λz=>by rw[h.seen];simp[one]
 have hc:∀ x,s' x=true->∀ y∈S x,s' y=true:=λx hx y hy=>by
  rcases(hs x).1 hx with rfl|hx
  ·exact h.closed.1 y hy
  ·exact h.closed.2 x hx y hy
 simp only[zzL37,List.mem_reverse];rw[<- hs z]
 constructor
 ·intro hz;rcases(hs z).1 hz with rfl|hz
  ·exact .refl _
  ·obtain⟨y,hy,hr⟩:=h.rch hz;exact .head hy hr
 ·intro hr
  have key:∀ x z,Rch S x z->s' x=true->s' z=true:=by
   intro x z hxz
   induction hxz with
   | refl x=>exact id
   | head hy _ ih=>grind
  exact key r z hr ((hs r).2 (.inl rfl))
theorem Ord.nodup{r:Nat}{L:List Nat}(h:Ord S r L):L.Nodup:=by
 obtain⟨s',o,h,rfl⟩:=h;refine zzL113.2 ⟨λhr=>?_,(List.reverse_perm o).nodup_iff.2 h.nodup⟩;have:=h.fresh (List.mem_reverse.1 hr);simp[one]at this
theorem Ord.fwd{r:Nat}{L:List Nat}(h:Ord S r L)(hf:∀ z,∀ y∈S z,z<y):∀ z∈L,∀ y∈S z,∃ A B,L=A++z::B/\y∈B:=by
 obtain⟨s',o,h,rfl⟩:=h;intro z hz y hy;have hzy:=hf z y hy;rcases zzL37.1 hz with rfl|hz
 ·refine⟨[],o.reverse,rfl,?_⟩;rcases(h.seen y).1 (h.closed.1 y hy) with h1|h1
  ·simp[one]at h1;omega
  ·grind
 ·have hz:=List.mem_reverse.1 hz;have hrz :=h.above hf (λv hv=>hf r v hv) z hz;rcases h.ahead hf z hz y hy with h1|⟨A,B,rfl,hA⟩
  ·simp[one]at h1;omega
  ·grind
end
theorem lZ(l:List Int)(hl:l.length<4611686018427387904):Ft l=some l.reverse:=by
 unfold Ft
 by_cases h0:l.length=0
 ·obtain rfl:l=[]:=zzL93.1 h0
  have:Ac Bj ((0:Int),(w64 ((([]:List Int).length:Int)-1)),([]:List Int))=some []:=by
   apply Am
   unfold Bj;rw[He (by simp) (by simp)]
   rfl
  rw[this];rfl
 ·have hw:w64 ((l.length:Int)-1)=((l.length-1:Nat):Int):=by rw[He (by omega) (by omega)];omega
  rw[hw]
  let C:Nat->List Int:=λk=>(List.range l.length).map λi=>if i<k\/l.length-1-k<i then l.getD (l.length-1-i) 0 else l.getD i 0
  have hC:∀ k i,i<l.length->(C k).getD i 0=if i<k\/l.length-1-k<i then l.getD (l.length-1-i) 0 else l.getD i 0:=λk i hi=>by simp only[C];rw[Pb hi]
  have hlen:∀ k,(C k).length=l.length:=λk=>by simp[C]
  have:=De Bj (λk=>(((k:Nat):Int),((l.length-1-k:Nat):Int),C k)) l.reverse (l.length / 2) (λk hk=>?_) ?_
  ·have e0:C 0=l:=by
    apply CJ (by simp[C])
    intro i h1 h2;have:=hC 0 i h2;rw[Ab _ _ _ h1,Ab _ _ _ h2]at this;rw[this,if_neg (by omega)]
   have this':Ac Bj ((0:Int),((l.length-1:Nat):Int),l)=some l.reverse:=by
    have h2:=this;simp only[e0]at h2;exact h2
   rw[this'];rfl
  ·show Bj (_,_,_)=_
   unfold Bj
   have hlt:k<l.length-1-k:=by omega
   simp only[Bt hlt,Ah,Ak];rw[Ad (Fy (by rw[hlen];omega)),Ad (Fy (by rw[hlen];omega)),Ad (Fy (by rw[hlen];omega)),Ad (Fy (by rw[hlen];omega))];rw[w1 (by omega),show w64 (((l.length-1-k:Nat):Int)-1)=((l.length-1-(k+1):Nat):Int) by rw[He (by omega) (by omega)];omega]
   congr 4
   rw[hC k _ (by omega),hC k _ (by omega),if_neg (by omega),if_neg (by omega)];simp only[C];rw[BX,BX]
   apply Hn
   intro i hi
   by_cases h1:i=k
   ·subst h1;rw[if_neg (by omega),if_pos rfl,if_pos (by omega)]
   ·by_cases h2:i=l.length-1-k
    ·subst h2;rw[if_pos rfl,if_pos (by omega)]
     congr 1;omega
    ·rw[if_neg h2,if_neg h1]
     by_cases h3:i<k\/l.length-1-k<i
     ·rw[if_pos h3,if_pos (by omega)]
     ·rw[if_neg h3,if_neg (by omega)]
  ·show Bj (_,_,_)=_
   unfold Bj;have hd:decide (((l.length / 2:Nat):Int)<((l.length-1-l.length / 2:Nat):Int))=false:=C9 (by omega);simp only[hd,Au]
   congr 2
   apply CJ (by simp[C])
   intro i h1 h2
   have h3:i<l.length:=by simpa [C] using h1
   have:=hC (l.length / 2) i h3;rw[Ab _ _ _ h1]at this;rw[this,List.getElem_reverse]
   split
   ·rw[Ab _ _ _ (by omega)]
   ·rw[Ab _ _ _ h3]
    congr 1;omega
theorem top{st:List Int}{a:Int}(h:st.length<4611686018427387904):(st++[a]).getD (w64 (((st++[a]).length:Int)-1)).toNat 0=a:=by
 have:w64 ((st++[a]).length-1)=(st.length:Int):=by rw[Fg,EU,He (by omega) (by omega)];omega
 rw[this];simp[List.getD]
theorem zK{st:List Int}{a:Int}(h:st.length<4611686018427387904):w64 (((st++[a]).length:Int)-1)=((st.length:Nat):Int):=by
 rw[Fg,EU,He (by omega) (by omega)];omega
theorem rM{g:TGraph}{R:List Bool}{st T:List Int}{a:Nat}(hst:st.length<64)(ha:a<g.Succ.length)(h64:g.Succ.length<=64)(ht:T.getD a 0=((g.Succ.getD a []).length:Int)) :
  Je g R (st++[(a:Int)]) T=some (.done (.inl T)):=by
 unfold Je;simp only[top (st:=st)  (by omega),Ak];rw[Ad (Fy (by omega)),Ad (Fy ha),ht,Co,Au]
theorem ig{g:TGraph}{R:List Bool}{st T:List Int}{a t y:Nat}(hst:st.length<64)(ha:a<g.Succ.length)(h64:g.Succ.length<=64)(ht:T.getD a 0=(t:Int))(htl:t<(g.Succ.getD a []).length)(htm:t<64)
  (hy:(g.Succ.getD a []).getD t 0=(y:Int)) (hyn:y<g.Succ.length) :
  Je g R (st++[(a:Int)]) T=bif R.getD y false then some (.next (Qa 64 (0:Int) T a ((t+1:Nat):Int))) else some (.done (.inr (Qa 64 false R y true,Qa 64 (0:Int) T a ((t+1:Nat):Int),(st++[(a:Int)])++[(y:Int)]))):=by
 have hroom:1000<=room:=by decide
 unfold Je;simp only[top (st:=st)  (by omega),Ak,ht,hy];rw[Ad (Fy (by omega)),Ad (Fy ha),Bt htl, Ad (Fy ha),Ad (Fy (by omega)),Ad (Fy htl),Ad (Fy (by omega)),Ad (Fy (by omega)),Ad (Fy (by omega)),w1 (by omega)]
 cases R.getD y _ with
 | true=>rfl
 | false=>
  simp only[L5,Ah,Au];rw[Ad (Fy (by omega)),Ad (by grind)]
theorem ie{g:TGraph}{R:List Bool}{st T Lf:List Int}{a:Nat}(hst:st.length<64)(hLf:Lf.length<64) :
  E4 g (R,T,st++[(a:Int)],Lf)=(Ac (Je g R (st++[(a:Int)])) T).bind λx=>match x with
   | .inl T'=>if st=[] then some (.done (Lf++[(a:Int)]).reverse) else some (.next (R,T',st,Lf++[(a:Int)]))
   | .inr (R',T',st')=>some (.next (R',T',st',Lf)):=by
 have hroom:1000<=room:=by decide
 unfold E4;simp only
 have hb:A1 (w64 ((st++[(a:Int)]).length-1)) (st++[(a:Int)]).length:=by rw[zK (by omega)];exact Fy (by simp)
 rw[Ad hb]
 congr 1
 funext x
 cases x with
 | inr y =>  rfl
 | inl T'=>
  simp only[top (st:=st)  (by omega)];rw[zK (by omega),Ak,Ad (by grind),Ad ⟨by omega,by simp⟩];have e:(st++[(a:Int)]).take _=st:=List.take_left' rfl;rw[e]
  cases st with
  | nil=>
   rw[if_pos rfl]
   have:decide (0<(([]:List Int).length:Int))=false:=by decide
   rw[this,Au,lZ _ (by simp;omega)];simp only[An];rw[Ad (by simp)]
  | cons b st'=>
   simp_all
theorem f5{S X:Type}{f:S->Option (LR S X)}{a b:S}(h:f a=f b):Ac f a=Ac f b:=by
 cases hb:f b with
 | none=>rw[Xt (h.trans hb),Xt hb]
 | some r=>cases r with
  | done x=>rw[Am (h.trans hb),Am hb]
  | next s=>rw[Aq (h.trans hb),Aq hb]
theorem MC{S X:Type}{f:S->Option (LR S X)}{s:S}:Rx (f s) f=Ac f s:=by
 cases hb:f s with
 | none=>rw[Xt hb];rfl
 | some r=>cases r with
  | done x=>rw[Am hb];rfl
  | next s'=>rw[Aq hb];rfl
def sN(L:List (List Int))(k:Nat):List Nat:=(L.getD k []).map Int.toNat
def RelS(R:List Bool)(s:Nat->Bool):Prop:=∀ z,z<64->R.getD z false=s z
theorem Ti{α:Type}{d:α}{l:List α}{i:Nat}{x:α}{k:Nat}(hk:k<64):(Qa 64 d l i x).getD k d=if k=i then x else l.getD k d:=by
 rw[XU hk]
 by_cases h:k=i
 · simp
 ·have:Nat.beq k i=false:=by cases hb:Nat.beq k i with|false=>rfl|true=>simp_all
  rw[this,if_neg h];rfl
theorem RelS.set{R:List Bool}{s:Nat->Bool}(h:RelS R s){y:Nat}:RelS (Qa 64 false R y true) (upd s y):=λz hz=>by
 rw[Ti hz,h z hz]
 by_cases hzy:z=y
 ·simp[upd]
 ·simp[upd]
def V9(o:List Nat):List Int:=o.map Int.ofNat
theorem ga{g:TGraph}(hm:Mq g.Succ=true){s s':Nat->Bool}{l o:List Nat}(hv:VL (sN g.Succ) s l s' o) :
  ∀(R:List Bool) (T st Lf:List Int) (a t:Nat),RelS R s->a<g.Succ.length->l=(sN g.Succ a).drop t->T.getD a 0=(t:Int)->t<=(sN g.Succ a).length->s a=true->(∀ z,z<64->s z=false->T.getD z 0=0)->
   Lf.length+cQ 64 s+st.length+1<=64->
   ∃(R':List Bool) (T':List Int),RelS R' s'/\(∀ z,z<64->s' z=false->T'.getD z 0=0)/\(∀ z,z<64->s z=true->z≠a->T'.getD z 0=T.getD z 0)/\Lf.length+o.length+cQ 64 s'+st.length+1<=64 /\
    Ac (E4 g) (R,T,st++[(a:Int)],Lf)=if st=[] then some (Lf++V9 o++[(a:Int)]).reverse else Ac (E4 g) (R',T',st,Lf++V9 o++[(a:Int)]):=by
 obtain⟨hL1,hL64,hLok⟩:=mayS_iff.1 hm
 have hlenS:∀ a,(sN g.Succ a).length=(g.Succ.getD a []).length:=λa=>by simp[sN]
 have hdrop:∀(a t y:Nat) (l':List Nat),a<g.Succ.length->y::l'=(sN g.Succ a).drop t->t<(g.Succ.getD a []).length/\(g.Succ.getD a []).getD t 0=(y:Int)/\y<g.Succ.length/\l'=(sN g.Succ a).drop (t+1):=λa t y l' ha he=>by
  have ht:t<(sN g.Succ a).length:=by
   rcases zzL124 t (sN g.Succ a).length with h|h
   ·exact h
   ·rw[List.drop_eq_nil_of_le h]at he;cases he
  rw[SJ ht]at he;simp only[Ds]at he;obtain⟨h1,h2⟩:=he
  have ht':t<(g.Succ.getD a []).length:=by rw[<- hlenS];exact ht
  obtain⟨b0,b1⟩:=BC (hLok a ha) ht'
  have h3:(sN g.Succ a)[t]=((g.Succ.getD a []).getD t 0).toNat:=by rw[Ab _ _ _ ht'];simp[sN]
  exact⟨ht',by omega,by omega,h2⟩
 induction hv with
 | nil s=>
  intro R T st Lf a t hR ha hl hT htl hsa hz hc
  have ht:t=(g.Succ.getD a []).length:=by
   have:=Bg List.length hl;simp at this;rw[hlenS]at htl this;omega
  refine⟨R,T,hR,hz,λ_ _ _ _=>rfl,by simpa using hc,?_⟩
  have hF:E4 g (R,T,st++[(a:Int)],Lf)=if st=[] then some (.done (Lf++[(a:Int)]).reverse) else some (.next (R,T,st,Lf++[(a:Int)])):=by
   rw[ie (by omega) (by omega),Am (rM (by omega) ha hL64 (by rw[hT,ht]))]
   rfl
  by_cases hst:st=[]
  ·rw[if_pos hst]at hF ⊢;rw[Am hF];simp[V9]
  ·rw[if_neg hst]at hF ⊢;rw[Aq hF];simp[V9]
 | @skip s s' y l o h tl ih=>
  intro R T st Lf a t hR ha hl hT htl hsa hz hc;obtain⟨h1,h2,h3,h4⟩:=hdrop a t y l ha hl;have hb:=DN (hLok a ha);have hs:=ig (g:=g) (R:=R) (st:=st) (T:=T) (a:=a) (t:=t) (y:=y) (by omega) ha hL64 hT h1 (by omega) h2 h3;rw[hR y (by omega),h,Ah]at hs;obtain⟨R',T',a1,a2,a3,a4,a5⟩:=ih R (Qa 64 (0:Int) T a ((t+1:Nat):Int)) st Lf a (t+1) hR ha h4 (by rw[Ti (by omega),if_pos rfl]) (by rw[hlenS];omega) hsa
   (λz hz1 hz2=>by rw[Ti hz1,if_neg (by rintro rfl;rw[hsa]at hz2;cases hz2)];exact hz z hz1 hz2) hc
  refine⟨R',T',a1,a2,λz hz1 hz2 hz3=>by rw[a3 z hz1 hz2 hz3,Ti hz1,if_neg hz3],a4,?_⟩;rw[<- a5]
  apply f5
  rw[ie (by omega) (by omega),ie (by omega) (by omega),Aq hs]
 | @step s s1 s2 y l o1 o2 h tl tr ih1 ih2=>
  intro R T st Lf a t hR ha hl hT htl hsa hz hc;obtain⟨h1,h2,h3,h4⟩:=hdrop a t y l ha hl;have hb:=DN (hLok a ha)
  have hay:y≠a:=by rintro rfl;rw[hsa]at h;cases h
  have hs:=ig (g:=g) (R:=R) (st:=st) (T:=T) (a:=a) (t:=t) (y:=y) (by omega) ha hL64 hT h1 (by omega) h2 h3;rw[hR y (by omega),h,Au]at hs;have hcu:=CY (n:=64) (show y<64 by omega) h
  have hF:E4 g (R,T,st++[(a:Int)],Lf)=some (.next (Qa 64 false R y true,Qa 64 (0:Int) T a ((t+1:Nat):Int),(st++[(a:Int)])++[(y:Int)],Lf)):=by
   rw[ie (by omega) (by omega),Am hs]
   rfl
  obtain⟨R1,T1,b1,b2,b3,b4,b5⟩:=ih1 (Qa 64 false R y true) (Qa 64 (0:Int) T a ((t+1:Nat):Int)) (st++[(a:Int)]) Lf y 0 hR.set h3 (by simp)
   (by rw[Ti (by omega),if_neg hay];exact hz y (by omega) h) (P6 _) (upd_true.2 (.inl rfl))
   (λz hz1 hz2=>by
    obtain⟨c1,c2⟩:=upd_false.1 hz2;rw[Ti hz1,if_neg (by rintro rfl;rw[hsa]at c2;cases c2)]
    exact hz z hz1 c2) (by rw[Fg,EU];omega)
  rw[if_neg (by simp)]at b5
  have hTa:T1.getD a 0=((t+1:Nat):Int):=by rw[b3 a (by omega) (upd_true.2 (.inr hsa)) (Q7 hay),Ti (by omega),if_pos rfl]
  rw[Fg,EU]at b4;obtain⟨R2,T2,c1,c2,c3,c4,c5⟩:=ih2 R1 T1 st (Lf++V9 o1++[(y:Int)]) a (t+1) b1 ha h4 hTa (by rw[hlenS];omega) ((tl.seen a).2 (.inl (upd_true.2 (.inr hsa)))) b2
   (by simp only[Fg,EU,V9,Dn];omega)
  refine⟨R2,T2,c1,c2,λz hz1 hz2 hz3=>?_,?_,?_⟩
  ·rw[c3 z hz1 ((tl.seen z).2 (.inl (upd_true.2 (.inr hz2)))) hz3,b3 z hz1 (upd_true.2 (.inr hz2)) (by rintro rfl;rw[h]at hz2;cases hz2),Ti hz1,if_neg hz3]
  ·simp only[Fg,EU,V9,Dn,EY]at c4 ⊢;omega
  ·rw[Aq hF,b5,c5]
   have e:Lf++V9 o1++[(y:Int)]++V9 o2++[(a:Int)]=Lf++V9 (o1++y::o2)++[(a:Int)]:=by simp[V9]
   rw[e]
theorem Wu{L:List (List Int)}(h:Mq L=true):∀ z,z<L.length->∀ y∈sN L z,y<L.length:=λz hz y hy=>by
 obtain⟨_,_,h3⟩:=mayS_iff.1 h;obtain⟨x,hx,rfl⟩:=zzL20.1 hy;have:=am (h3 z hz) hx;omega
theorem si{r:Nat}(hr:r<64):cQ 64 (one r)=63:=by
 have h:=CY  (s:=λ_=>false) hr rfl
 have e:upd (λ_=>false) r=one r:=by funext z;simp[upd,one]
 rw[e]at h
 have:cQ 64 (λ_=>false)=64:=by decide
 omega
theorem HY{α:Type}{n z:Nat}{d:α}:(List.replicate n d).getD z d=d:=by grind
theorem ae(g:TGraph)(h:Fits g.Succ)(hP:True)(r:Int) :
  (DZ g=true->0<=r->r<(g.Succ.length:Int)->∀ L,Ord (sN g.Succ) r.toNat L->Lb g r=some (V9 L)) /\
  ((DZ g&&(decide (0<=r)&&decide (r<(g.Succ.length:Int))))=false->Lb g r=some []):=by
 refine⟨λhm h0 h1 L hL=>?_,λhf=>?_⟩
 ·have hms:Mq g.Succ=true:=by unfold DZ at hm;exact(A5 _ _▸hm).1
  obtain⟨hL1,hL64,hLok⟩:=mayS_iff.1 hms;obtain⟨s',o,hv,rfl⟩:=hL;have hrn :=Y8 h0
  have hr:r.toNat<g.Succ.length:=by omega
  obtain⟨R',T',_,_,_,_,hmain⟩:=ga hms hv (Qa 64 false (List.replicate 64 false) r.toNat true) _ [] [] r.toNat 0
   (λz hz=>by rw[Ti hz,HY];by_cases hzr:z=r.toNat<;>simp[one,hzr]) hr (by simp) HY (P6 _) (by simp[one])
   (λz hz _=>HY) (by rw[si (by omega)];simp)
  rw[if_pos rfl,hrn]at hmain;unfold Lb;rw[ut _ h,hm,An];simp only[D6,Ve,Ah,Au,Wi,Dr h0,Dr h1,Bool.and_self,An];rw[Ad ⟨h0,by omega⟩];have hF:∀ X,Ac (E4 g) (Qa 64 false (List.replicate 64 false) r.toNat true,List.replicate 64 (0:Int),[]++[r],[])=some X->
    (Rx _ (E4 g)).bind (λx=>some x)=some X:=λX hX=>by
   rw[MC];rw[hX];rfl
  refine(hF _ hmain).trans ?_;simp only[Za,List.reverse_append,V9,Cq,List.map_reverse,List.reverse_cons,List.reverse_nil]
  simp
  omega
 ·unfold Lb;rw[ut _ h,An]
  cases hm:DZ g with
  | false=>rfl
  | true=>
   rw[hm,Mu]at hf;simp only[D6,Ve,Ah,Au,Wi,hf,An,L5]
   rfl
def RelN(n:Nat)(R:List Bool)(s:Nat->Bool):Prop:=R.length=n/\∀ z,z<n->R.getD z false=s z
theorem RelN.set{n:Nat}{R:List Bool}{s:Nat->Bool}(h:RelN n R s){y:Nat}(hy:y<n):RelN n (R.set y true) (upd s y):=by
 refine⟨by rw[C8];exact h.1,λz hz=>?_⟩;rw[Wz,List.getElem?_set]
 by_cases hzy:y=z
 ·subst hzy;simp[upd,h.1,hy]
 ·rw[if_neg hzy,<- Wz,h.2 z hz];simp[upd,Q7 hzy]
theorem Tm:∀(n:Nat) (l:List Nat),l.Nodup->(∀ x∈l,x<n)->l.length<=n
 | 0,l,_,h=>by
  cases l with
  | nil=>simp
  | cons x l=>have:=h x (zzL54 ..);omega
 | n+1,l,hd,h=>by
  by_cases hn:n∈l
  ·have h1:=Tm n _ (hd.erase n) λx hx=>by
    grind
   rw[List.length_erase_of_mem hn]at h1;omega
  ·have h1:=Tm n l hd λx hx=>by
    grind
   omega
theorem FS:∀{a b:List Int},a.Pairwise (·<·)->b.Pairwise (·<·)->(∀ x,x∈a↔x∈b)->a=b
 | [],[],_,_,_=>rfl
 | [],y::b,_,_,h=>by have:=(h y).2 (zzL54 ..);cases this
 | x::a,[],_,_,h=>by have:=(h x).1 (zzL54 ..);cases this
 | x::a,y::b,ha,hb,h=>by
  have ha':=zzL74.1 ha;have hb':=zzL74.1 hb
  have hxy:x=y:=by
   rcases zzL37.1 ((h x).1 (zzL54 ..)) with h1|h1
   ·exact h1
   ·rcases zzL37.1 ((h y).2 (zzL54 ..)) with h2|h2
    ·exact h2.symm
    ·grind
  congr 1
  refine FS ha'.2 hb'.2 λz=>⟨λhz=>?_,λhz=>?_⟩
  ·grind
  ·grind
theorem LF(p:Nat->Bool)(n:Nat):(((List.range n).filter p).map Int.ofNat).Pairwise (·<·):=by
 rw[List.pairwise_map];have:=(List.pairwise_lt_range (n:=n)).filter p
 exact this.imp λh=>by simpa using h
theorem dK{p:Nat->Bool}{n:Nat}{x:Int}:x∈((List.range n).filter p).map Int.ofNat↔∃ k:Nat,x=(k:Int)/\k<n/\p k=true:=by
 grind
theorem om{L:List (List Int)}{k i:Nat}:Yx L k i=true↔(i:Int)∈L.getD k []:=by unfold Yx;rw[zzL60]
theorem n8{b:Bool}{α:Type}{x:α}:(bif b then x else x)=x:=by cases b<;>rfl
theorem wg{L:List (List Int)}(h:Mq L=true){x y:Nat}(hx:x<L.length):y∈sN L x↔(y:Int)∈L.getD x []:=by
 obtain⟨_,_,h3⟩:=mayS_iff.1 h;unfold sN;rw[zzL20]
 constructor
 ·rintro⟨z,hz,rfl⟩;have:=am (h3 x hx) hz;rw[Y8 this.1];exact hz
 ·grind
def mk(o:List Bool)(l:List Nat):List Bool:=l.foldl (λo y=>o.set y true) o
theorem gG(l:List Nat):∀ o:List Bool,(mk o l).length=o.length:=by
 induction l with
 | nil=>intro o;rfl
 | cons y l ih=>intro o;show(mk _ l).length=_;rw[ih,C8]
theorem mk_at{n:Nat}(l:List Nat):∀(o:List Bool),o.length=n->(∀ y∈l,y<n)->∀ z,(mk o l).getD z false=true↔o.getD z false=true\/z∈l:=by
 induction l with
 | nil =>  simp[mk]
 | cons y l ih=>
  intro o ho hl z
  show(mk _ l).getD z _=true↔_
  rw[ih _ (by grind) (λu hu=>hl u (Oa _ hu)) z]
  have e:(o.set y true).getD z false=true↔o.getD z false=true\/z=y:=by
   grind
  rw[e,zzL37]
  constructor
  ·grind
  ·rintro(h|h|h)
   ·exact .inl (.inl h)
   ·exact .inl (.inr h)
   ·exact .inr h
def sw(S:Nat->List Nat)(o:List Bool):Nat->List Bool
 | 0=>o
 | i+1=>if(sw S o i).getD i false=true then mk (sw S o i) (S i) else sw S o i
def HU(S:Nat->List Nat)(n:Nat)(o:List Bool):Nat->List Bool
 | 0=>o
 | j+1=>sw S (HU S n o j) n
section
variable {S:Nat->List Nat} {n:Nat} (hS:∀ z,z<n->∀ y∈S z,y<n)
theorem sw_len(o:List Bool):∀ i,(sw S o i).length=o.length:=by
 intro i
 induction i with
 | zero=>rfl
 | succ i ih=>unfold sw;split;rw[gG,ih];exact ih
theorem Yf(o:List Bool):∀ j,(HU S n o j).length=o.length:=by
 intro j
 induction j with
 | zero=>rfl
 | succ j ih=>unfold HU;rw[sw_len,ih]
include hS
theorem OH{o:List Bool}(ho:o.length=n):∀ i,i<=n->∀ z,o.getD z false=true->(sw S o i).getD z false=true:=by
 intro i
 induction i with
 | zero=>intro _ z h;exact h
 | succ i ih=>
  intro hi z h;unfold sw
  split
  ·exact(mk_at  _ _ (by rw[sw_len];exact ho) (hS i (by omega)) z).2 (.inl (ih (by omega) z h))
  ·exact ih (by omega) z h
theorem qC{o:List Bool}{r:Nat}(ho:o.length=n)(h:∀ z,o.getD z false=true->Rch S r z):∀ i,i<=n->∀ z,(sw S o i).getD z false=true->Rch S r z:=by
 intro i
 induction i with
 | zero=>intro _ z hz;exact h z hz
 | succ i ih=>
  intro hi z hz;unfold sw at hz
  split at hz
  ·rename_i hsi
   rcases(mk_at  _ _ (by rw[sw_len];exact ho) (hS i (by omega)) z).1 hz with h1|h1
   ·exact ih (by omega) z h1
   ·exact(ih (by omega) i hsi).tail h1
  ·exact ih (by omega) z hz
theorem uB{o:List Bool}(ho:o.length=n):∀ i,i<=n->∀ j,j<i->o.getD j false=true->∀ y∈S j,(sw S o i).getD y false=true:=by
 intro i
 induction i with
 | zero =>  omega
 | succ i ih=>
  intro hi j hj hoj y hy;unfold sw
  by_cases hji:j=i
  ·subst hji;have h1:=OH hS ho j (by omega) j hoj;rw[if_pos h1];exact(mk_at  _ _ (by rw[sw_len];exact ho) (hS j (by omega)) y).2 (.inr hy)
  ·have h1:=ih (by omega) j (by omega) hoj y hy
   split
   ·exact(mk_at  _ _ (by rw[sw_len];exact ho) (hS i (by omega)) y).2 (.inl h1)
   ·exact h1
theorem mL{o:List Bool}(ho:o.length=n)(hc:∀ j,j<n->o.getD j false=true->∀ y∈S j,o.getD y false=true):∀ i,i<=n->∀ z,(sw S o i).getD z false=true->o.getD z false=true:=by
 intro i
 induction i with
 | zero=>intro _ z h;exact h
 | succ i ih=>
  intro hi z hz;unfold sw at hz
  split at hz
  ·rcases(mk_at  _ _ (by rw[sw_len];exact ho) (hS i (by omega)) z).1 hz with h1|h1
   ·exact ih (by omega) z h1
   ·grind
  ·exact ih (by omega) z hz
theorem BP{r:Nat}(hr:r<n)(z:Nat):(HU S n ((List.replicate n false).set r true) n).getD z false=true↔Rch S r z:=by
 let o0:=(List.replicate n false).set r true
 have ho0:o0.length=n:=by simp[o0]
 have hat0:∀ z,o0.getD z false=true↔z=r:=λz=>by
  grind
 have hlen:∀ j,(HU S n o0 j).length=n:=λj=>by rw[Yf,ho0]
 have hsound:∀ j z,(HU S n o0 j).getD z false=true->Rch S r z:=by
  intro j
  induction j with
  | zero=>intro z hz;rw[(hat0 z).1 hz];exact .refl _
  | succ j ih=>intro z hz;exact qC hS (hlen j) ih n (zzL6 _) z hz
 have hmono:∀ j,∀ z,o0.getD z false=true->(HU S n o0 j).getD z false=true:=by
  intro j
  induction j with
  | zero=>intro z h;exact h
  | succ j ih=>intro z h;exact OH hS (hlen j) n (zzL6 _) z (ih z h)
 let C:Nat->Prop:=λj=>∀ i,i<n->(HU S n o0 j).getD i false=true->∀ y∈S i,(HU S n o0 j).getD y false=true
 have key:∀ j,C j\/cQ n (λz=>(HU S n o0 j).getD z false)+j+1<=n:=by
  intro j
  induction j with
  | zero=>
   refine .inr ?_;have h1:=CY (n:=n) (s:=λ_=>false) hr rfl
   have e:upd (λ_=>false) r=λz=>(HU S n o0 0).getD z false:=by
    funext z
    rw[EZ,upd_true]
    show _↔o0.getD z false=true
    rw[hat0]
    simp
   rw[e]at h1
   have hcl:cQ n (λ_=>false)=n:=by
    unfold cQ;rw[List.filter_eq_self.2 (by simp)]
    simp
   omega
  | succ j ih=>
   by_cases hc:C j
   ·refine .inl λi hi h y hy=>?_;have h1:=mL hS (hlen j) hc n (zzL6 _) i h;exact OH hS (hlen j) n (zzL6 _) y (hc i hi h1 y hy)
   ·rcases ih with ih|ih
    ·exact(hc ih).elim
    ·refine .inr ?_
     have hex:∃ i,i<n/\(HU S n o0 j).getD i false=true/\∃ y,y∈S i/\(HU S n o0 j).getD y false=false:=by
      grind
     obtain⟨i,hi,h1,y,hy,h2⟩:=hex;have h3:=uB hS (hlen j) n (zzL6 _) i hi h1 y hy;have hyn:=hS i hi y hy;have h4:=CY (n:=n) (s:=λz=>(HU S n o0 j).getD z false) hyn h2
     have h5:cQ n (λz=>(HU S n o0 (j+1)).getD z false)<=cQ n (upd (λz=>(HU S n o0 j).getD z false) y):=cR λz hz=>by
      rcases upd_true.1 hz with rfl|hz
      ·exact h3
      ·exact OH hS (hlen j) n (zzL6 _) z hz
     omega
 constructor
 ·exact hsound n z
 ·intro hrch
  have hlt:∀ x z,Rch S x z->x<n->z<n/\((HU S n o0 n).getD x false=true->(HU S n o0 n).getD z false=true):=by
   intro x z hxz
   induction hxz with
   | refl x=>exact λhx=>⟨hx,id⟩
   | @head x y z hy _ ih=>
    grind
  exact(hlt r z hrch hr).2 (hmono n r ((hat0 r).2 rfl))
end
theorem tE{L:List (List Int)}(hm:Mq L=true){r:Nat}(hr:r<L.length) :
  C7 (J4 L) (r:Int) (-1:Int)=some (HU (sN L) L.length ((List.replicate L.length false).set r true) L.length):=by
 obtain⟨h1,h2,h3⟩:=mayS_iff.1 hm
 have hroom:(1000:Nat)<=room:=by decide
 have hS:=Wu hm;have hgs:(J4 L).Succ=L:=rfl
 have hlenS:∀ a,(sN L a).length=(L.getD a []).length:=λa=>by simp[sN]
 have hin:∀(o:List Bool) (i:Nat),o.length=L.length->i<L.length->Ac (A2 (J4 L) (-1) (i:Int)) ((0:Int),o)=some (if o.getD i false=true then mk o (sN L i) else o):=λo i ho hi=>by
  have hb:=DN (h3 i hi)
  by_cases hoi:o.getD i false=true
  ·rw[if_pos hoi];have hmi:∀ k,(mk o ((sN L i).take k)).getD i false=true:=λk=>(mk_at (n:=L.length) _ _ ho (λy hy=>hS i hi y (List.mem_of_mem_take hy)) i).2 (.inl hoi)
   have hml:∀ k,(mk o ((sN L i).take k)).length=L.length:=λk=>by rw[gG,ho]
   refine De (A2 (J4 L) (-1) (i:Int)) (λk=>(((k:Nat):Int),mk o ((sN L i).take k))) _ (L.getD i []).length (λk hk=>?_) ?_
   ·unfold A2;obtain⟨a0,a1⟩:=BC (h3 i hi) hk;simp only[hgs,Ak,hmi];rw[Ad (Fy (by rw[hml];exact hi)),M3 (Fy hi),Ah,Bt hk,Ah,Ad (Fy hi),Ad (Fy hk)]
    have hne:((L.getD i []).getD k 0 !=(-1:Int))=true:=by rw[zzL101];omega
    rw[hne,Ah,Ad (Fy hi),Ad (Fy hk),Ad ⟨a0,by rw[hml];exact a1⟩,w1 (by omega)]
    have e:mk o ((sN L i).take (k+1))=(mk o ((sN L i).take k)).set ((L.getD i []).getD k 0).toNat true:=by
     have hk':k<(sN L i).length:=by rw[hlenS];exact hk
     rw[bO hk'];unfold mk;rw[List.foldl_append]
     have:(sN L i)[k]=((L.getD i []).getD k 0).toNat:=by rw[Ab _ _ _ hk];simp[sN]
     rw[this]
     rfl
    rw[e]
    rfl
   ·unfold A2;simp only[hgs,Ak,hmi];rw[Ad (Fy (by rw[hml];exact hi)),M3 (Fy hi),Ah,Co,Au]
    have:(sN L i).take (L.getD i []).length=sN L i:=by rw[<- hlenS];exact W1 ..
    rw[this]
  ·have hof:o.getD i false=false:=by simpa using hoi
   rw[if_neg hoi]
   apply Am
   unfold A2;simp only[hgs,Ak,hof];rw[Ad (Fy (by rw[ho];exact hi)),M3 (Fy hi),Au,Au]
 have hsw:∀ o:List Bool,o.length=L.length->Ac (A3 (J4 L) (-1)) ((0:Int),o)=some (sw (sN L) o L.length):=λo ho=>by
  refine De (A3 (J4 L) (-1)) (λi=>(((i:Nat):Int),sw (sN L) o i)) _ L.length (λi hi=>?_) ?_
  ·show A3 (J4 L) (-1) (_,_)=_
   unfold A3
   have hl:(sw (sN L) o i).length=L.length:=by rw[sw_len,ho]
   simp only[hl,Bt hi,Ah];rw[hin _ i hl hi,w1 (by omega)]
   rfl
  ·show A3 (J4 L) (-1) (_,_)=_
   unfold A3
   have hl:(sw (sN L) o L.length).length=L.length:=by rw[sw_len,ho]
   simp only[hl,Co,Au]
 unfold C7;simp only[hgs,Ak];rw[Ad ⟨by omega,Int.le_refl _,by omega⟩]
 have hne:((r:Int)==(-1:Int))=false:=by rw[zzL29];omega
 rw[hne,Au,Ad (Fy (by simpa using hr))]
 have hl0:((List.replicate L.length false).set r true).length=L.length:=by simp
 have:Ac (A4 (J4 L) (-1)) ((0:Int),(List.replicate L.length false).set r true)=some (HU (sN L) L.length ((List.replicate L.length false).set r true) L.length):=by
  refine De (A4 (J4 L) (-1)) (λj=>(((j:Nat):Int),HU (sN L) L.length ((List.replicate L.length false).set r true) j)) _ L.length (λj hj=>?_) ?_
  ·show A4 (J4 L) (-1) (_,_)=_
   unfold A4
   have hl:(HU (sN L) L.length ((List.replicate L.length false).set r true) j).length=L.length:=by rw[Yf,hl0]
   simp only[hl,Bt hj,Ah];rw[hsw _ hl,w1 (by omega)]
   rfl
  ·show A4 (J4 L) (-1) (_,_)=_
   unfold A4
   have hl:(HU (sN L) L.length ((List.replicate L.length false).set r true) L.length).length=L.length:=by rw[Yf,hl0]
   simp only[hl,Co,Au]
 rw[this]
 rfl
def pos:List Nat->Nat->Nat
 | [],_=>0
 | x::l,z=>if x=z then 0 else pos l z+1
theorem RI(x:Nat)(l:List Nat)(z:Nat):pos (x::l) z=if x=z then 0 else pos l z+1:=rfl
theorem tf{A l:List Nat}{z:Nat}(h:z∉A):pos (A++l) z=A.length+pos l z:=by
 induction A with
 | nil=>simp
 | cons x A ih=>
  have h1:x≠z:=λe=>h (by grind);have h2 :=λe=>h (Oa _ e);rw[CG,RI,if_neg h1,ih h2,EY];omega
theorem OE{P:List Nat}(hd:P.Nodup){i:Nat}(hi:i<P.length):P[i]∉P.take i/\pos P P[i]=i:=by
 have e:P=P.take i++P[i]::P.drop (i+1):=by simp_all
 have hn:P[i]∉P.take i:=by
  grind
 refine⟨hn,?_⟩
 have h2:pos (P.take i++P[i]::P.drop (i+1)) P[i]=i:=by
  rw[tf hn]
  have:pos (P[i]::P.drop (i+1)) P[i]=0:=by rw[RI,if_pos rfl]
  rw[ W0];omega
 rw[<- e]at h2;exact h2
theorem nZ{n:Nat}{p:Nat->Bool}:(List.range (n+1)).all p=((List.range n).all p&&p n):=by
 grind
theorem cT(d:Array Int)(hs:∀ i j,i<=j->j<d.size->d[i]!<=d[j]!):∀ m,m<=d.size->(∀ x∈Lib.compactUpTo d m,∃ j,j<m/\x=d[j]!)/\(∀ j,j<m->d[j]!∈Lib.compactUpTo d m)/\(Lib.compactUpTo d m).Pairwise (·<·):=by
 intro m
 induction m with
 | zero=>intro _;exact⟨(λx hx=>by simp[Lib.compactUpTo]at hx),(λj hj=>by omega),by simp[Lib.compactUpTo]⟩
 | succ m ih=>
  intro hm;obtain⟨h1,h2,h3⟩:=ih (by omega);rw[Lib.compactUpTo_succ]
  cases hk:Lib.keeps d m with
  | true=>
   rw[if_pos rfl];refine⟨λx hx=>?_,λj hj=>?_,?_⟩
   ·grind
   ·grind
   ·rw[zzL126];refine⟨h3,List.pairwise_singleton _ _,λx hx y hy=>?_⟩;obtain⟨j,hj,rfl⟩:=h1 x hx
    have hy':y=d[m]!:=by simpa using hy
    subst hy'
    have hk':m=0\/d[m]!≠d[m-1]!:=by simpa [Lib.keeps] using hk
    rcases hk' with h0|h0
    ·omega
    ·have a1:=hs j (m-1) (by omega) (by omega);have a2:=hs (m-1) m (by omega) (by omega);omega
  | false=>
   have hk':m≠0/\d[m]! = d[m-1]!:=by
    have:¬ (m=0\/d[m]!≠d[m-1]!):=by
     intro h
     have:Lib.keeps d m=true:=by simpa [Lib.keeps] using h
     rw[hk]at this;cases this
    exact⟨λh=>this (.inl h),Classical.not_not.1 λh=>this (.inr h)⟩
   simp only[FV,Ix,List.append_nil];refine⟨λx hx=>by grind,λj hj=>?_,h3⟩
   by_cases hjm:j=m
   ·subst hjm;rw[hk'.2];exact h2 _ (by omega)
   ·exact h2 j (by omega)
def BR(l:List Int):List Int:=Lib.compact (l.mergeSort λx y=>decide (x<=y))
theorem JX(l:List Int):(BR l).Pairwise (·<·)/\∀ x,x∈BR l↔x∈l:=by
 unfold BR Lib.compact;have hp:(l.mergeSort _).Pairwise (λa b=>decide (a<=b)=true):=List.pairwise_mergeSort (λa b c h1 h2=>by simp at *;omega) (λa b=>by simp;omega) l;have hm:∀ x,x∈(l.mergeSort λx y=>decide (x<=y))↔x∈l:=λx=>List.mem_mergeSort
 generalize l.mergeSort _=z at hp hm ⊢
 have hz:∀ j,j<z.length->z.toArray[j]! = z.getD j 0:=λj hj=>by simp[ hj]
 obtain⟨h1,h2,h3⟩:=cT z.toArray (λi j hij hj=>by
  have hj' :=by simpa using hj
  rw[hz i (by omega),hz j hj']
  by_cases he:i=j
  ·grind
  ·have:=(zzL91.1 hp) i j (by omega) hj' (by omega);rw[Ab _ _ _ _,Ab _ _ _ hj']
   simpa using this) z.length (by simp)
 refine⟨h3,λx=>?_⟩;rw[<- hm x]
 constructor
 ·grind
 ·intro hx;obtain⟨j,hj,rfl⟩:=Gr hx;have:=h2 j hj;rwa[hz j hj,Ab _ _ _ hj]at this
def rI(n:Nat)(l:List Int):Bool:=(List.range l.length).all λi=>decide (0<l.getD i 0)&&decide (l.getD i 0<(n:Int))
def CC(k:Int):Int:=([0,1,2,0]:List Int).getD k.toNat 0
def Yy(e:Kb):Bool:=(decide (0<=e.Kind)&&decide (e.Kind<=3))&&decide ((e.To.length:Int)=CC e.Kind)
def Kd(e:Kb)(n:Nat):Bool:=Yy e&&rI n e.To
theorem toB_iff{n:Nat}{l:List Int}:rI n l=true↔∀ x∈l,0<x/\x<n:=by
 unfold rI;rw[all_range];simp only[A5,Fz]
 constructor
 ·intro h x hx;obtain⟨i,hi,rfl⟩:=Gr hx;have:=h i hi;rwa[Ab _ _ _ hi]at this
 ·simp_all
theorem oY(e:Kb)(n:Nat)(hl:e.To.length<4611686018427387904):Ac (F3 e (n:Int)) (0:Int)=some (bif rI n e.To then .inl () else .inr false):=by
 have step:∀ j ,j<e.To.length->F3 e n j=bif (decide (0<e.To.getD j 0)&&decide (e.To.getD j 0<n)) then some (.next ((j+1:Int))) else some _:=λj hj=>by
  unfold F3;simp only[Ak,Bt hj, Wi,w1 (show j<4611686018427387904 by omega)];rw[Ad (Fy hj)]
  by_cases h0:e.To.getD j 0=0
  ·rw[h0];rfl
  ·grind
 have:=H8 (F3 e n) (λj=>(j:Nat)) (λi=>decide (0<e.To.getD i 0)&&decide (e.To.getD i 0<n)) (.inl ()) (.inr false) e.To.length (λj hj hp=>?_) (λj hj hp=>?_) ?_
 ·exact this
 ·grind
 ·rw[step j hj,hp];rfl
 ·unfold F3;simp only[Co,Au]
theorem GY(e:Kb)(n:Nat)(w:Int)(hw:0<=w/\w<=2) :
  (bif ((e.To.length:Int)!=w) then(some false) else((Ac (F3 e (n:Int)) (0:Int)).bind (λx10=>(match x10 with|(.inl _)=>(some true)|(.inr r12)=>(some r12)))))=some (decide ((e.To.length:Int)=w)&&rI n e.To):=by
 by_cases h:e.To.length=w
 ·rw[show(e.To.length !=w)=false by simpa using h, oY e n (by omega),Dr h]
  cases rI n _<;>rfl
 ·grind
theorem lW(e:Kb)(n:Nat):Pg e (n:Int)=some (Kd e n):=by
 unfold Pg Kd Yy
 by_cases h0:e.Kind=0
 ·rw[h0];exact GY e n 0 (by omega)
 by_cases h1:e.Kind=1
 ·rw[h1];exact GY e n 1 (by omega)
 by_cases h2:e.Kind=2
 ·rw[h2];exact GY e n 2 (by omega)
 by_cases h3:e.Kind=3
 ·rw[h3];exact GY e n 0 (by omega)
 have e0:(e.Kind==0)=false:=by rw[zzL29];exact h0
 have e1:(e.Kind==1)=false:=by rw[zzL29];exact h1
 have e2:(e.Kind==2)=false:=by rw[zzL29];exact h2
 have e3:(e.Kind==3)=false:=by rw[zzL29];exact h3
 rw[e0,e1,e2,e3]
 have:(decide (0<=e.Kind)&&decide (e.Kind<=3))=false:=by
  by_cases h:0<=e.Kind
  ·rw[C9 (show ¬ e.Kind<=3 by omega)];simp
  ·rw[C9 h];rfl
 rw[this]
 rfl
theorem od{e:Kb}{n:Nat}(h:Kd e n=true):e.To.length<=2:=by
 unfold Kd Yy at h;simp only[A5,Fz]at h;obtain⟨⟨⟨h0,h1⟩,h2⟩,_⟩:=h
 have:CC e.Kind<=2:=by
  have:e.Kind=0\/e.Kind=1\/e.Kind=2\/e.Kind=3:=by omega
  rcases this with h|h|h|h<;>rw[h]<;>decide
 omega
theorem ZQ{e:Kb}{n:Nat}(h:Kd e n=true):rI n e.To=true:=by unfold Kd at h;exact(A5 _ _▸h).2
def Bl(f:TFunc)(i:Nat):Kb:=(f.Blocks.getD i (default:Ae)).End
def Az(f:TFunc):List (List Int):=(List.range f.Blocks.length).map λi=>BR (Bl f i).To
def Gp(f:TFunc):Bool:=(decide (1<=f.Blocks.length)&&decide (f.Blocks.length<=64))&&(List.range f.Blocks.length).all λi=>Kd (Bl f i) f.Blocks.length
theorem shape_iff{f:TFunc}:Gp f=true↔(1<=f.Blocks.length/\f.Blocks.length<=64)/\∀ i,i<f.Blocks.length->Kd (Bl f i) f.Blocks.length=true:=by
 unfold Gp;rw[A5,A5,all_range];simp only[Fz]
theorem tv{f:TFunc}{i:Nat}(h:Kd (Bl f i) f.Blocks.length=true):ma f.Blocks.length (BR (Bl f i).To)=true:=by
 obtain⟨h1,h2⟩:=JX (Bl f i).To;exact wi (λx hx=>by have:=(toB_iff.1 (ZQ h)) x ((h2 x).1 hx);omega) h1
theorem Jq{f:TFunc}(h:Gp f=true):Mq (Az f)=true:=by
 obtain⟨⟨h1,h2⟩,h3⟩:=shape_iff.1 h
 have hl:(Az f).length=f.Blocks.length:=by simp[Az]
 refine mayS_iff.2 ⟨by omega,by omega,λi hi=>?_⟩;rw[hl]at hi ⊢;unfold Az;rw[Pb hi];exact tv (h3 i hi)
theorem yo(f:TFunc)(hf:f.Blocks.length<=maxLen):Tw f=some (bif Gp f then(J4 (Az f),0) else(g0,5)):=by
 have hroom:(1000:Nat)<=room:=by decide
 unfold Tw;rw[WX,An];have hsh:Gp f=((decide (1<=f.Blocks.length)&&decide (f.Blocks.length<=64))&&(List.range f.Blocks.length).all λi=>Kd (Bl f i) f.Blocks.length):=rfl
 cases hc:(decide (1<=f.Blocks.length)&&decide (f.Blocks.length<=64)) with
 | false=>rw[hsh,hc];rfl
 | true=>
  have hc':=hc;simp only[A5,Fz]at hc';simp only[D6,Au];rw[Ad ⟨by omega,Int.le_refl _,by omega⟩,Ak]
  let U:Nat->List (List Int):=λi=>(List.range f.Blocks.length).map λj=>if j<i then BR (Bl f j).To else[]
  have e0:List.replicate f.Blocks.length ([]:List Int)=U 0:=by
   simp only[U]
   apply List.ext_getElem?
   intro j
   by_cases hj:j<f.Blocks.length<;>simp[hj,List.getElem?_replicate]
  have eN:U f.Blocks.length=Az f:=by
   simp only[U,Az]
   apply Hn
   intro j hj;rw[if_pos hj]
  rw[e0]
  have hstep:∀ i:Nat,i<f.Blocks.length->Hy f ((i:Int),U i)=bif Kd (Bl f i) f.Blocks.length then some (.next (((i+1:Nat):Int),U (i+1))) else some (.done (.inr (g0,5))):=λi hi=>by
   unfold Hy;simp only[Bt hi,Ah,Ak];rw[Ad (Fy hi)];have he:(⟨(f.Blocks.getD i (default:Ae)).End.Kind,(f.Blocks.getD i (default:Ae)).End.Arg,(f.Blocks.getD i (default:Ae)).End.To⟩:Kb)=Bl f i:=rfl;rw[he,lW,An]
   cases hfit:Kd (Bl f i) f.Blocks.length with
   | false=>rfl
   | true=>
    have hl2:=od hfit;simp only[D6,Au,Ah]
    have hx:IE (f.Blocks.getD i (default:Ae)).End.To=some (BR (Bl f i).To):=by
     unfold IE;rw[jQ,Ad (by show(Bl f i).To.length<=_;omega)]
     rfl
    rw[hx,An,Ad (Fy (by simp[U];omega)),w1 (by omega)]
    congr 3
    simp only[U];rw[BX]
    apply Hn
    intro j hj
    by_cases h1:j=i
    ·subst h1;rw[if_pos rfl,if_pos (by omega)]
    ·rw[if_neg h1]
     by_cases h2:j<i
     ·rw[if_pos h2,if_pos (by omega)]
     ·rw[if_neg h2,if_neg (by omega)]
  have:=H8 (Hy f) (λi=>(((i:Nat):Int),U i)) (λi=>Kd (Bl f i) f.Blocks.length) (.inl (U f.Blocks.length)) (.inr (g0,5)) f.Blocks.length (λi hi hp=>?_) (λi hi hp=>?_) ?_
  ·rw[show Ac (Hy f) ((0:Int),U 0)=_ from this,hsh,hc,eN,Mu]
   cases hall:(List.range f.Blocks.length).all λi=>Kd (Bl f i) f.Blocks.length with
   | false=>rfl
   | true=>
    simp only[Ah,An];rw[dE _ (Jq (by rw[hsh,hc,hall];rfl))]
    rfl
  ·show Hy f (_,_)=_
   rw[hstep i hi,hp];rfl
  ·show Hy f (_,_)=_
   rw[hstep i hi,hp];rfl
  ·show Hy f (_,_)=_
   unfold Hy;simp only[Co,Au]
def JV(l:List Int)(k:Nat):List Int:=((List.range k).filter λz:Nat=>decide (1<=z)&&l.contains (z:Int)).map Int.ofNat
theorem pm{n:Nat}{l:List Int}(h:rI n l=true):JV l n=BR l:=by
 obtain⟨h1,h2⟩:=JX l;refine FS (LF _ _) h1 λx=>?_;rw[h2 x];unfold JV;rw[dK]
 constructor
 ·grind
 ·intro hx;have:=(toB_iff.1 h) x hx;refine⟨x.toNat,by omega,by omega,?_⟩;rw[Y8 (by omega),zzL60.2 hx,Dr (by omega)]
  rfl
theorem mA(f:TFunc)(i:Nat)(hl:(Bl f i).To.length<4611686018427387904):Ac (Fj f (i:Int)) (0:Int)=some (bif rI f.Blocks.length (Bl f i).To then .inl () else .inr (g0,5)):=by
 have hE:(f.Blocks.getD i _).End=Bl f i:=rfl
 have step:∀ j ,j<(Bl f i).To.length->Fj f i j=bif (decide (0<(Bl f i).To.getD j 0)&&decide ((Bl f i).To.getD j 0<f.Blocks.length)) then some (.next ((j+1:Nat))) else some _:=λj hj=>by
  unfold Fj;simp only[Ak,hE,Bt hj, w1 (show j<4611686018427387904 by omega)];rw[Ad (Fy hj),M3 (Fy hj)]
  by_cases h0:(Bl f i).To.getD j 0<=0
  ·rw[Dr h0,C9 (show ¬ 0<(Bl f i).To.getD j 0 by omega)];rfl
  ·rw[C9 h0,Dr (show 0<(Bl f i).To.getD j 0 by omega)]
   by_cases h1:f.Blocks.length<=(Bl f i).To.getD j 0
   ·rw[Dr h1,C9 (show ¬ (Bl f i).To.getD j 0<f.Blocks.length by omega)];rfl
   ·grind
 have:=H8 (Fj f i) (λj=>(j:Nat)) (λk=>decide (0<(Bl f i).To.getD k 0)&&decide ((Bl f i).To.getD k 0<f.Blocks.length)) (.inl ()) (.inr (g0,5)) (Bl f i).To.length (λj hj hp=>?_) (λj hj hp=>?_) ?_
 ·exact this
 ·grind
 ·rw[step j hj,hp];rfl
 ·unfold Fj;simp only[Ak,hE,Co,Au]
theorem mB(f:TFunc)(i:Nat)(hn:1<=f.Blocks.length/\f.Blocks.length<=64)(hl:(Bl f i).To.length<4611686018427387904):Ac (Hm f (i:Int)) (([]:List Int),(1:Int))=some (JV (Bl f i).To f.Blocks.length):=by
 have hroom:1000<=room:=by decide
 have hE:(f.Blocks.getD i _).End=Bl f i:=rfl
 have e0:JV (Bl f i).To 1=[]:=by unfold JV;simp
 have key:=De (Hm f i) (λk=>(JV (Bl f i).To (k+1),(k+1:Nat))) (JV (Bl f i).To f.Blocks.length) (f.Blocks.length-1) (λk hk=>?_) ?_
 ·grind
 ·unfold Hm
  have hlen:(JV (Bl f i).To (k+1)).length<=k+1:=by
   unfold JV;have:=List.length_filter_le (λz =>decide (1<=z)&&(Bl f i).To.contains (z:Nat)) (List.range (k+1))
   simpa using this
  simp only[Ak,hE,Bt (show k+1<f.Blocks.length by omega)];rw[dG _ _ hl,An,w1 (by omega)]
  have hs:JV (Bl f i).To (k+1+1)=JV (Bl f i).To (k+1)++(if(Bl f i).To.contains ((k+1:Nat))=true then[(k+1:Int)] else[]):=by
   unfold JV;rw[Vg,Vd]
   cases hg:(Bl f i).To.contains _ with
   | true=>grind
   | false=>grind
  rw[hs]
  cases hg:(Bl f i).To.contains _ with
  | true=>
   rw[ Ad (by grind)]
   rfl
  | false =>  simp
 ·unfold Hm;simp only[show f.Blocks.length-1+1=f.Blocks.length by omega,Co,Au]
theorem QG(f:TFunc)(hf:f.Blocks.length<=maxLen):Hs f=some (bif Gp f then(J4 (Az f),0) else(g0,5)):=by
 have hroom:(1000:Nat)<=room:=by decide
 unfold Hs
 have hc:(bif ((f.Blocks.length:Int)==(0:Int)) then true else decide ((64:Int)<(f.Blocks.length:Int))) = !(decide (1<=f.Blocks.length)&&decide (f.Blocks.length<=64)):=by
  grind
 rw[hc];have hsh:Gp f=((decide (1<=f.Blocks.length)&&decide (f.Blocks.length<=64))&&(List.range f.Blocks.length).all λi=>Kd (Bl f i) f.Blocks.length):=rfl
 cases hb:(decide (1<=f.Blocks.length)&&decide (f.Blocks.length<=64)) with
 | false=>rw[hsh,hb];rfl
 | true=>
  have hb':=hb;simp only[A5,Fz]at hb';simp only[D6,Au]
  let U:Nat->List (List Int):=λi=>(List.range i).map λj=>JV (Bl f j).To f.Blocks.length
  have hstep:∀ i:Nat,i<f.Blocks.length->Ch f (U i,(i:Int))=bif Kd (Bl f i) f.Blocks.length then some (.next (U (i+1),((i+1:Nat):Int))) else some (.done (.inr (g0,5))):=λi hi=>by
   unfold Ch;have hE:(f.Blocks.getD i (default:Ae)).End=Bl f i:=rfl;simp only[Bt hi,Ah,Ak,hE];rw[Ad (Fy hi),w1 (by omega)]
   by_cases hk:0<=(Bl f i).Kind/\(Bl f i).Kind<=3
   ·rw[C9 (show ¬ (Bl f i).Kind<0 by omega),C9 (show ¬ (3:Int)<(Bl f i).Kind by omega)];simp only[Au];rw[M3 (show A1 (Bl f i).Kind ([(0:Int),1,2,0]:List Int).length from⟨hk.1,by show(Bl f i).Kind<4;omega⟩)];have hw:([(0:Int),1,2,0]:List Int).getD (Bl f i).Kind.toNat 0=CC (Bl f i).Kind:=rfl;rw[hw]
    have hkb:Yy (Bl f i)=decide (((Bl f i).To.length:Int)=CC (Bl f i).Kind):=by
     unfold Yy;rw[Dr hk.1,Dr hk.2];rfl
    unfold Kd;rw[hkb]
    by_cases hl:((Bl f i).To.length:Int)=CC (Bl f i).Kind
    ·have hw2:CC (Bl f i).Kind<=2:=by
      have:(Bl f i).Kind=0\/(Bl f i).Kind=1\/(Bl f i).Kind=2\/(Bl f i).Kind=3:=by omega
      rcases this with h|h|h|h<;>rw[h]<;>decide
     rw[show(((Bl f i).To.length:Int)!=CC (Bl f i).Kind)=false by simpa using hl,Dr hl,Au,mA f i (by omega),Mu]
     cases htb:rI f.Blocks.length (Bl f i).To with
     | false=>rfl
     | true=>
      simp only[Ah,An];rw[mB f i hb' (by omega)];simp only[An];rw[Ad (by simp only[U,Dn,S4,EU];omega)]
      congr 3
      simp only[U];rw[Vg,Vf]
      rfl
    ·rw[show(((Bl f i).To.length:Int)!=CC (Bl f i).Kind)=true by simpa using hl,C9 hl];rfl
   ·have hbad:(bif decide ((Bl f i).Kind<0) then true else decide ((3:Int)<(Bl f i).Kind))=true:=by
     by_cases h0:(Bl f i).Kind<0
     ·rw[Dr h0];rfl
     ·rw[C9 h0,Dr (show(3:Int)<(Bl f i).Kind by omega)];rfl
    have hkb:Yy (Bl f i)=false:=by
     unfold Yy
     by_cases h0:0<=(Bl f i).Kind
     ·rw[C9 (show ¬ (Bl f i).Kind<=3 by omega)];simp
     ·rw[C9 h0];simp
    simp only[hbad];rw[Ad (by intro h;cases h)];unfold Kd;rw[hkb]
    rfl
  have:=H8 (Ch f) (λi=>(U i,((i:Nat):Int))) (λi=>Kd (Bl f i) f.Blocks.length) (.inl (U f.Blocks.length)) (.inr (g0,5)) f.Blocks.length (λi hi hp=>?_) (λi hi hp=>?_) ?_
  ·rw[show Ac (Ch f) (([]:List (List Int)),(0:Int))=_ from this,hsh,hb,Mu]
   cases hall:(List.range f.Blocks.length).all λi=>Kd (Bl f i) f.Blocks.length with
   | false=>rfl
   | true=>
    have hshape:Gp f=true:=by rw[hsh,hb,hall];rfl
    have hm:=Jq hshape
    have hU:U f.Blocks.length=Az f:=by
     simp only[U,Az]
     apply Hn
     intro j hj;exact pm (ZQ ((shape_iff.1 hshape).2 j hj))
    simp only[Ah,An];rw[hU,QF _ (Ub (Tl hm)),hm]
    rfl
  ·show Ch f (_,_)=_
   rw[hstep i hi,hp];rfl
  ·show Ch f (_,_)=_
   rw[hstep i hi,hp];rfl
  ·show Ch f (_,_)=_
   unfold Ch;simp only[Co,Au]
inductive Rc (S:Nat->List Nat) (r:Nat):Nat->Prop
 | root:Rc S r r
 | step {x y:Nat} (h:Rc S r x) (hy:y∈S x):Rc S r y
inductive Av (S:Nat->List Nat) (r z:Nat):Nat->Prop
 | root (h:r≠z):Av S r z r
 | step {x y:Nat} (h:Av S r z x) (hy:y∈S x) (hz:y≠z):Av S r z y
inductive AvN (S:Nat->List Nat) (r z:Nat):Nat->Nat->Prop
 | root (h:r≠z) (k:Nat):AvN S r z k r
 | step {k x y:Nat} (h:AvN S r z k x) (hy:y∈S x) (hz:y≠z):AvN S r z (k+1) y
section
variable {S:Nat->List Nat} {r:Nat}
theorem rc_iff{x:Nat}:Rc S r x↔Rch S r x:=by
 constructor
 ·intro h
  induction h with
  | root=>exact .refl _
  | step _ hy ih=>exact ih.tail hy
 ·intro h
  have key:∀ a b,Rch S a b->Rc S r a->Rc S r b:=by
   intro a b hab
   induction hab with
   | refl x=>exact id
   | head hy _ ih=>exact λha=>ih (.step ha hy)
  exact key _ _ h .root
def wo(S:Nat->List Nat)(z:Nat):Nat->List Nat:=λx=>(S x).filter λy=>decide (y≠z)
theorem av_iff{z x:Nat}:Av S r z x↔r≠z/\Rch (wo S z) r x:=by
 constructor
 ·intro h
  induction h with
  | root h=>exact⟨h,.refl _⟩
  | step _ hy hz ih=>exact⟨ih.1,ih.2.tail (zzL96.2 ⟨hy,by simpa using hz⟩)⟩
 ·rintro⟨hr,h⟩
  have key:∀ a b,Rch (wo S z) a b->Av S r z a->Av S r z b:=by
   intro a b hab
   induction hab with
   | refl x=>exact id
   | head hy _ ih=>
    obtain⟨h1,h2⟩:=zzL96.1 hy;exact λha=>ih (.step ha h1 (by simpa using h2))
  exact key _ _ h (.root hr)
theorem Av.rc{z x:Nat}(h:Av S r z x):Rc S r x:=by
 induction h with
 | root _=>exact .root
 | step _ hy _ ih=>exact .step ih hy
theorem Av.ne{z x:Nat}(h:Av S r z x):x≠z:=by
 cases h with
 | root h=>exact h
 | step _ _ hz=>exact hz
theorem AvN.av{z k x:Nat}(h:AvN S r z k x):Av S r z x:=by
 induction h with
 | root h=>exact .root h
 | step _ hy hz ih=>exact .step ih hy hz
theorem AvN.up{z k x:Nat}(h:AvN S r z k x):AvN S r z (k+1) x:=by
 induction h with
 | root h k=>exact .root h _
 | step _ hy hz ih=>exact .step ih hy hz
theorem AvN.mono{z k m x:Nat}(h:AvN S r z k x)(hm:k<=m):AvN S r z m x:=by
 obtain⟨d,rfl⟩:=Nat.exists_eq_add_of_le hm;clear hm
 induction d with
 | zero=>exact h
 | succ d ih=>exact ih.up
theorem Av.avn{z x:Nat}(h:Av S r z x):∃ k,AvN S r z k x:=by
 induction h with
 | root h=>exact⟨0,.root h 0⟩
 | step _ hy hz ih=>obtain⟨k,hk⟩:=ih;exact⟨k+1,.step hk hy hz⟩
theorem AvN.via {z k x : Nat} (h : AvN S r z k x) (y : Nat) : AvN S r y k x ∨ AvN S r z k y := by
  induction h with
  | root h k => by_cases hy : r = y
                · subst hy; exact .inr (.root h _)
                · exact .inl (.root hy _)
  | @step k x w h hy hz ih =>
    rcases ih with h1 | h1
    · by_cases hw : w = y
      · subst hw; exact .inr (.step h hy hz)
      · exact .inl (.step h1 hy hw)
    · exact .inr h1.up
theorem k5(n:Nat):∃ K,∀ z,z<n->∀ x,x<n->Av S r z x->AvN S r z K x:=by
 have one:∀ z m,∃ K,∀ x,x<m->Av S r z x->AvN S r z K x:=by
  intro z m
  induction m with
  | zero=>simp_all
  | succ m ih=>
   obtain⟨K,hK⟩:=ih
   by_cases h:Av S r z m
   ·obtain⟨k,hk⟩:=h.avn;refine⟨max K k,λx hx ha=>?_⟩;rcases Nat.lt_succ_iff_lt_or_eq.1 hx with h1|rfl
    ·exact(hK x h1 ha).mono (Nat.le_max_left ..)
    ·exact hk.mono (Nat.le_max_right ..)
   ·refine⟨K,λx hx ha=>?_⟩;rcases Nat.lt_succ_iff_lt_or_eq.1 hx with h1|rfl
    ·exact hK x h1 ha
    ·exact absurd ha h
 have two:∀ m,∃ K,∀ z,z<m->∀ x,x<n->Av S r z x->AvN S r z K x:=by
  intro m
  induction m with
  | zero=>simp_all
  | succ m ih=>
   obtain⟨K,hK⟩:=ih;obtain⟨k,hk⟩:=one m n;refine⟨max K k,λz hz x hx ha=>?_⟩;rcases Nat.lt_succ_iff_lt_or_eq.1 hz with h1|rfl
   ·exact(hK z h1 x hx ha).mono (Nat.le_max_left ..)
   ·exact(hk x hx ha).mono (Nat.le_max_right ..)
 exact two n
end
inductive UpTo (par:Nat->Int):Nat->Nat->Prop
 | refl (x:Nat):UpTo par x x
 | up {x y z:Nat} (h:par x=(y:Int)) (t:UpTo par y z):UpTo par x z
inductive Fw (S:Nat->List Nat) (at_:Nat->Nat) (u:Nat):Nat->Prop
 | refl:Fw S at_ u u
 | step {v w:Nat} (h:Fw S at_ u v) (hw:w∈S v) (hl:at_ v<at_ w):Fw S at_ u w
section
variable {S:Nat->List Nat} {at_:Nat->Nat} {par:Nat->Int}
theorem Fw.le{u w:Nat}(h:Fw S at_ u w):at_ u<=at_ w:=by
 induction h with
 | refl=>exact zzL6 _
 | step _ _ hl ih=>omega
theorem Fw.trans{u v w:Nat}(h:Fw S at_ u v)(k:Fw S at_ v w):Fw S at_ u w:=by
 induction k with
 | refl=>exact h
 | step _ hw hl ih=>exact .step ih hw hl
theorem Fw.av{r d u w:Nat}(h:Fw S at_ u w)(ha:Av S r d u)(hd:at_ d<at_ u):Av S r d w:=by
 induction h with
 | refl=>exact ha
 | @step v w h hw hl ih=>exact .step ih hw (by rintro rfl;have:=h.le;omega)
theorem UpTo.trans{x y z:Nat}(h:UpTo par x y)(k:UpTo par y z):UpTo par x z:=by
 induction h with
 | refl x=>exact k
 | up h _ ih=>exact .up h (ih k)
theorem anc_up{x p z:Nat}(h:par x=(p:Int)):UpTo par x z↔z=x\/UpTo par p z:=by
 constructor
 ·intro k
  cases k with
  | refl=>exact .inl rfl
  | up h' t=>grind
 ·rintro(rfl|k)
  ·exact .refl _
  ·exact .up h k
theorem NO{x z:Nat}(h:∀ p:Nat,par x≠(p:Int)):UpTo par x z↔z=x:=by
 constructor
 ·intro k
  cases k with
  | refl=>rfl
  | up h' t=>exact absurd h' (h _)
 ·rintro rfl;exact .refl _
structure Inv(S:Nat->List Nat)(r n:Nat)(at_:Nat->Nat)(par:Nat->Int):Prop where
 top:par r = -1
 kind:∀ x,x<n->par x = -2\/x=r\/∃ z:Nat,par x=(z:Int)
 up:∀ x,x<n->∀ z:Nat,par x=(z:Int)->z<n/\par z≠-2/\at_ z<at_ x/\Fw S at_ z x
 rc:∀ x,x<n->par x≠-2->Rc S r x
 all:∀ x,x<n->par x≠-2->∀ d,¬ UpTo par x d->Av S r d x
end
section
variable {S:Nat->List Nat} {at_:Nat->Nat} {par:Nat->Int} {r n:Nat}
theorem Inv.anc(h:Inv S r n at_ par){x z:Nat}(k:UpTo par x z)(hx:x<n)(hp:par x≠-2):z<n/\par z≠-2/\at_ z<=at_ x/\Fw S at_ z x:=by
 induction k with
 | refl x=>exact⟨hx,hp,zzL6 _,.refl⟩
 | @up x y z hxy t ih=>
  obtain⟨h1,h2,h3,h4⟩:=h.up x hx y hxy;obtain⟨i1,i2,i3,i4⟩:=ih h1 h2;exact⟨i1,i2,by omega,i4.trans h4⟩
theorem Inv.root_anc(h:Inv S r n at_ par){z:Nat}:UpTo par r z↔z=r:=NO λp hp=>by rw[h.top]at hp;omega
theorem Inv.strict(h:Inv S r n at_ par){x z:Nat}(k:UpTo par x z)(hx:x<n)(hp:par x≠-2):z=x\/at_ z<at_ x:=by
 cases k with
 | refl=>exact .inl rfl
 | up hxy t=>
  obtain⟨h1,h2,h3,h4⟩:=h.up x hx _ hxy;obtain⟨i1,i2,i3,i4⟩:=h.anc t h1 h2;exact .inr (by omega)
theorem Inv.antisymm(h:Inv S r n at_ par){x z:Nat}(k:UpTo par x z)(m:UpTo par z x)(hx:x<n)(hp:par x≠-2):z=x:=by
 rcases h.strict k hx hp with rfl|h1
 ·rfl
 ·obtain⟨i1,i2,i3,i4⟩:=h.anc k hx hp;have:=(h.anc m i1 i2).2.2.1;omega
def MeetAt(par:Nat->Int)(a b m:Nat):Prop:=∀ w,UpTo par m w↔UpTo par a w/\UpTo par b w
theorem WY{a:Nat}:MeetAt par a a a:=λw=>by simp
theorem lh{a b m:Nat}(h:MeetAt par a b m):MeetAt par b a m:=λw=>by rw[h w];exact And.comm
theorem Inv.meet_left(h:Inv S r n at_ par)(hinj:∀ x y,x<n->y<n->par x≠-2->par y≠-2->at_ x=at_ y->x=y){a b p m:Nat}(ha:a<n)(hpa:par a≠-2)(hb:b<n)(hpb:par b≠-2)(hab:a≠b)(hl:at_ b<=at_ a)(hp:par a=(p:Int))(k:MeetAt par p b m):MeetAt par a b m:=λw=>by
 rw[k w]
 constructor
 ·rintro⟨h1,h2⟩;exact⟨.up hp h1,h2⟩
 ·rintro⟨h1,h2⟩;rcases(anc_up hp).1 h1 with rfl|h1
  ·exfalso
   rcases h.strict h2 hb hpb with h3|h3
   ·exact hab h3
   ·omega
  ·exact⟨h1,h2⟩
end
section
variable {S:Nat->List Nat} {at_:Nat->Nat} {par:Nat->Int} {r n:Nat}
def Rz(par:Nat->Int)(y:Nat)(v:Int):Nat->Int:=λx=>if x=y then v else par x
def eh(S:Nat->List Nat)(n:Nat)(par:Nat->Int)(y z:Nat):Prop:=∀ w,UpTo par z w↔∀ p,p<n->y∈S p->par p≠-2->UpTo par p w
theorem KZ{y:Nat}{v:Int}{x z:Nat}(k:UpTo par x z)(hy:¬ UpTo par x y):UpTo (Rz par y v) x z:=by
 induction k with
 | refl x=>exact .refl _
 | @up x q z h t ih=>
  have hxy:x≠y:=by rintro rfl;exact hy (.refl _)
  refine .up  ?_ (ih λk=>hy (.up h k));unfold Rz;rw[if_neg hxy];exact h
theorem cE{y:Nat}{v:Int}{x:Nat}(k:UpTo par x y):UpTo (Rz par y v) x y:=by
 induction k with
 | refl x=>exact .refl _
 | @up x q z h t ih=>
  by_cases hxy:x=z
  ·subst hxy;exact .refl _
  ·refine .up  ?_ ih;unfold Rz;rw[if_neg hxy];exact h
theorem anc_upd_inv{y:Nat}{v:Int}{x w:Nat}(k:UpTo (Rz par y v) x w):UpTo par x w\/(UpTo par x y/\UpTo (Rz par y v) y w):=by
 induction k with
 | refl x=>exact .inl (.refl _)
 | @up x q w h t ih=>
  by_cases hxy:x=y
  ·subst hxy;exact .inr ⟨.refl _,.up h t⟩
  ·unfold Rz at h;rw[if_neg hxy]at h;rcases ih with h1|⟨h1,h2⟩
   ·exact .inl (.up h h1)
   ·exact .inr ⟨.up h h1,h2⟩
theorem low_or{y:Nat}{v:Int}{x d:Nat}(k:UpTo par x y)(hd:UpTo par x d):UpTo par y d\/UpTo (Rz par y v) x d:=by
 induction k with
 | refl x=>exact .inl hd
 | @up x q y hq t ih=>
  by_cases e:x=y
  ·subst e;exact .inl hd
  ·rcases(anc_up hq).1 hd with rfl|k
   ·exact .inr (.refl _)
   ·rcases ih k with h1|h1
    ·exact .inl h1
    ·exact .inr (.up  (by unfold Rz;rw[if_neg e];exact hq) h1)
structure Better(S:Nat->List Nat)(r n:Nat)(at_:Nat->Nat)(par:Nat->Int)(y z:Nat):Prop where
 inv:Inv S r n at_ par
 hy:y<n
 hr:y≠r
 hz:z<n
 best:eh S n par y z
 fwd:∃ p,p<n/\y∈S p/\par p≠-2/\at_ p<at_ y
variable {y z:Nat}
theorem Better.zlt(h:Better S r n at_ par y z):UpTo par z z/\par z≠-2/\at_ z<at_ y/\Fw S at_ z y:=by
 obtain⟨p,hp,hyp,hpp,hl⟩:=h.fwd;obtain⟨h1,h2,h3,h4⟩:=h.inv.anc ((h.best z).1 (.refl _) p hp hyp hpp) hp hpp;exact⟨.refl _,h2,by omega,.step h4 hyp hl⟩
theorem Better.above(h:Better S r n at_ par y z){w:Nat}:UpTo (Rz par y z) z w↔UpTo par z w:=by
 obtain⟨_,h2,h3,_⟩:=h.zlt
 have hn:¬ UpTo par z y:=λk=>by have:=(h.inv.anc k h.hz h2).2.2.1;omega
 constructor
 ·intro k;rcases anc_upd_inv k with h1|⟨h1,_⟩
  ·exact h1
  ·exact absurd h1 hn
 ·intro k;exact KZ k hn
theorem Better.here(h:Better S r n at_ par y z){w:Nat}:UpTo (Rz par y z) y w↔w=y\/UpTo par z w:=by
 rw[anc_up (p:=z) (by simp[Rz]),h.above]
theorem Better.av_here(h:Better S r n at_ par y z){d:Nat}(hd:¬ UpTo (Rz par y z) y d):Av S r d y:=by
 rw[h.here]at hd;have h1:¬ ∀ p,p<n->y∈S p->par p≠-2->UpTo par p d:=λhh=>hd (.inr ((h.best d).2 hh));simp only[Classical.not_forall]at h1;obtain⟨p,hp,hyp,hpp,hnp⟩:=h1;exact .step (h.inv.all p hp hpp d hnp) hyp λe=>hd (.inl e.symm)
theorem Better.inv'(h:Better S r n at_ par y z):Inv S r n at_ (Rz par y z):=by
 obtain⟨hzz,hz2,hzl,hzf⟩:=h.zlt;obtain⟨p,hp,hyp,hpp,hl⟩:=h.fwd
 have hne:∀ x,Rz par y z x≠-2->x=y\/par x≠-2:=λx hx=>by
  by_cases e:x=y
  ·exact .inl e
  ·unfold Rz at hx;rw[if_neg e]at hx;exact .inr hx
 have hyv:Rz par y z y=z:=by simp[Rz]
 have hyo:∀ x,x≠y->Rz par y z x=par x:=λx e=>by unfold Rz;rw[if_neg e]
 refine⟨by rw[hyo _ (Q7 h.hr)];exact h.inv.top,λx hx=>?_,λx hx w hw=>?_,λx hx hxp=>?_,λx hx hxp d hd=>?_⟩
 ·by_cases e:x=y
  ·grind
  ·rw[hyo x e];exact h.inv.kind x hx
 ·have hzn:∀ w,par w≠-2->Rz par y z w≠-2:=λw hw=>by
   grind
  by_cases e:x=y
  ·subst e;rw[hyv]at hw
   cases KK hw
   exact⟨h.hz,hzn _ hz2,hzl,hzf⟩
  ·rw[hyo x e]at hw;obtain⟨h1,h2,h3,h4⟩:=h.inv.up x hx w hw;exact⟨h1,hzn _ h2,h3,h4⟩
 ·rcases hne x hxp with rfl|h1
  ·exact .step (h.inv.rc p hp hpp) hyp
  ·exact h.inv.rc x hx h1
 ·by_cases e:x=y
  ·subst e;exact h.av_here hd
  ·rw[hyo x e]at hxp
   by_cases hxd:UpTo par x d
   ·
    by_cases hxy:UpTo par x y
    ·have hyd :=λk=>hd ((cE hxy).trans k);have hav:=h.av_here hyd;have hf:=(h.inv.anc hxy hx hxp).2.2.2
     have hdy:UpTo par y d:=by
      rcases low_or  hxy hxd with h1|h1
      ·exact h1
      ·exact absurd h1 hd
     by_cases hpy:par y = -2
     ·
      have :=by
       refine(NO  λp hp=>?_).1 hdy;rw[hpy]at hp;omega
      subst this;exact absurd (.refl _) hyd
     ·rcases h.inv.strict hdy h.hy hpy with rfl|hlt
      ·exact absurd (.refl _) hyd
      ·exact hf.av hav hlt
    ·exact absurd (KZ hxd hxy) hd
   ·exact h.inv.all x hx hxp d hxd
end
section
variable {S:Nat->List Nat} {at_:Nat->Nat} {par:Nat->Int} {r n:Nat}
def QB(S:Nat->List Nat)(r n:Nat)(par:Nat->Int)(b:Nat->Nat):Prop:=∀ x,x<n->par x≠-2->∀ z,AvN S r z (b x) x->¬ UpTo par x z
def ei(S:Nat->List Nat)(r n:Nat)(par:Nat->Int):Prop:=∀ x,x<n->Rc S r x->par x≠-2
def ic(S:Nat->List Nat)(r n:Nat)(par:Nat->Int):Prop:=∀ x,x<n->par x≠-2->∀ d,UpTo par x d↔¬ Av S r d x
theorem tj(h:Inv S r n at_ par):QB S r n par λ_=>0:=λx hx hp z hz k=>by
 cases hz with
 | root hr _=>exact hr (h.root_anc.1 k).symm
theorem jq(hS:∀ x,x<n->∀ w∈S x,w<n)(hr:r<n){x:Nat}(h:Rc S r x):x<n:=by
 induction h with
 | root=>exact hr
 | step _ hy ih=>exact hS _ ih _ hy
theorem Better.qb{y z k:Nat}{b:Nat->Nat}(h:Better S r n at_ par y z)(hS:∀ x,x<n->∀ w∈S x,w<n)(hrn:r<n)(full:ei S r n par)(hb:∀ x,x<n->k<=b x/\b x<=k+1)(q:QB S r n par b) :
  QB S r n (Rz par y z) λx=>if x=y then k+1 else b x:=by
 have here:∀ w,AvN S r w (k+1) y->¬ UpTo _ y w:=λw hw hu=>by
  rcases h.here.1 hu with rfl|hu
  ·exact hw.av.ne rfl
  ·cases hw with
   | root hr _=>exact h.hr rfl
   | @step _ p _ hp hyp hne=>
    have hpn:=jq hS hrn hp.av.rc;have hpp:=full p hpn hp.av.rc;exact q p hpn hpp w (hp.mono (hb p hpn).1) ((h.best w).1 hu p hpn hyp hpp)
 intro x hx hxp w hw hu
 dsimp only at hw
 by_cases e:x=y
 ·grind
 ·rw[if_neg e]at hw;unfold Rz at hxp;rw[if_neg e]at hxp;rcases anc_upd_inv hu with h1|⟨h1,h2⟩
  ·exact q x hx hxp w hw h1
  ·rcases hw.via y with h3|h3
   ·exact q x hx hxp y h3 h1
   ·exact here w (h3.mono (hb x hx).2) h2
theorem oZ(h:Inv S r n at_ par){K:Nat}(hK:∀ z,z<n->∀ x,x<n->Av S r z x->AvN S r z K x)(q:QB S r n par λ_=>K):ic S r n par:=λx hx hp d=>by
 constructor
 ·intro hu ha;exact q x hx hp d (hK d (h.anc hu hx hp).1 x hx ha) hu
 ·intro ha;exact bP λhn=>ha (h.all x hx hp d hn)
theorem Better.same{y z:Nat}(h:Better S r n at_ par y z)(hS:∀ x,x<n->∀ w∈S x,w<n)(hrn:r<n)(full:ei S r n par)(hy2:par y≠-2)(ex:ic S r n par):par y=(z:Int):=by
 obtain⟨hzz,hz2,hzl,hzf⟩:=h.zlt;rcases h.inv.kind y h.hy with h1|h1|⟨q,hq⟩
 ·exact absurd h1 hy2
 ·exact absurd h1 h.hr
 ·obtain⟨q1,q2,q3,q4⟩:=h.inv.up y h.hy q hq
  have key:∀ w,UpTo par z w↔UpTo par q w:=λw=>by
   rw[h.best w]
   constructor
   ·intro hall
    have hwy:¬ Av S r w y:=λha=>by
     cases ha with
     | root _=>exact h.hr rfl
     | @step p _ hp hyp hne=>
      have hpn:=jq hS hrn hp.rc;have hpp:=full p hpn hp.rc;exact(ex p hpn hpp w).1 (hall p hpn hyp hpp) hp
    rcases(anc_up hq).1 ((ex y h.hy hy2 w).2 hwy) with rfl|hu
    ·have:=(h.inv.anc ((h.best _).2 hall) h.hz hz2).2.2.1;omega
    ·exact hu
   ·intro hu p hp hyp hpp;have hwy:UpTo par y w:=.up hq hu;refine(ex p hp hpp w).2 λha=>?_
    have hne:y≠w:=by rintro rfl;have:=(h.inv.anc hu q1 q2).2.2.1;omega
    exact(ex y h.hy hy2 w).1 hwy (.step ha hyp hne)
  have:=h.inv.antisymm ((key q).2 (.refl _)) ((key z).1 (.refl _)) h.hz hz2;rw[hq,this]
theorem lN(h:Inv S r n at_ par)(hS:∀ x,x<n->∀ w∈S x,w<n)(hrn:r<n)(full:ei S r n par)(fix:∀ y,y<n->y≠r->Rc S r y->∃ z:Nat,par y=(z:Int)/\eh S n par y z):ic S r n par:=λx hx hp d=>by
 constructor
 ·intro hu ha
  induction ha with
  | root hne=>exact hne (h.root_anc.1 hu).symm
  | @step p y hp' hyp hne ih=>
   have hpn:=jq hS hrn hp'.rc;have hpp:=full p hpn hp'.rc
   by_cases e:y=r
   ·subst e;exact hne (h.root_anc.1 hu).symm
   ·obtain⟨z,hz,hb⟩:=fix y hx e (.step hp'.rc hyp);rcases(anc_up hz).1 hu with rfl|hu
    ·exact hne rfl
    ·exact ih hpn hpp ((hb d).1 hu p hpn hyp hpp)
 ·intro ha;exact bP λhn=>ha (h.all x hx hp d hn)
end
def Br(t:List Int):Nat->Int:=λx=>t.getD x 0
theorem di{t:List Int}{y:Nat}{v:Int}(hy:y<t.length):Br (t.set y v)=Rz (Br t) y v:=by
 funext x
 unfold Br Rz
 by_cases e:x=y
 ·grind
 ·grind
open Classical in
def Pm(S:Nat->List Nat)(n:Nat)(t:List Int)(y:Nat):Nat:=if h:∃ z,z<n/\eh S n (Br t) y z then Classical.choose h else 0
def AA(S:Nat->List Nat)(n:Nat)(P:List Nat)(t:List Int):Nat->List Int
 | 0=>t
 | i+1=>(AA S n P t i).set (P.getD i 0) (Pm S n (AA S n P t i) (P.getD i 0):Int)
def UG(S:Nat->List Nat)(n:Nat)(P:List Nat)(t:List Int):Nat->List Int
 | 0=>t
 | j+1=>AA S n P (UG S n P t j) P.length
def Jd(n r:Nat):List Int:=(List.replicate n (-2:Int)).set r (-1)
structure Ordered(S:Nat->List Nat)(r n:Nat)(P:List Nat):Prop where
 hr:r<n
 hS:∀ x,x<n->∀ w∈S x,w<n
 nodup:(r::P).Nodup
 mem:∀ x,x∈r::P↔Rc S r x
 fwd:∀ i,i<P.length->∃ p,p∈r::P.take i/\P.getD i 0∈S p
section
variable {S:Nat->List Nat} {r n:Nat} {P:List Nat}
theorem Ordered.lt(o:Ordered S r n P){x:Nat}(h:x∈r::P):x<n:=jq o.hS o.hr ((o.mem x).1 h)
theorem We{i:Nat}(hi:i<P.length):P.getD i 0∈P:=by grind
theorem Ordered.at_lt(o:Ordered S r n P){i:Nat}(hi:i<P.length){p:Nat}(hp:p∈r::P.take i):pos (r::P) p<pos (r::P) (P.getD i 0):=by
 have hd:=o.nodup
 have h1:pos (r::P) (P.getD i 0)=i+1:=by
  have:=(OE hd (i:=i+1) (by simpa using hi)).2;rw[Ab _ _ _ hi]
  simpa using this
 rw[h1];obtain⟨j,hj,rfl⟩:=Gr hp
 have hj':j<i+1:=by simp at hj;omega
 have hjl:j<(r::P).length:=by simp;omega
 have e:(r::P.take i)[j]=(r::P)[j]:=by
  grind
 rw[e,(OE hd hjl).2];exact hj'
theorem Aai(o:Ordered S r n P):Inv S r n (pos (r::P)) (Br (Jd n r))/\(Jd n r).length=n/\Br (Jd n r) r≠-2:=by
 have hlen:(Jd n r).length=n:=by simp[Jd]
 have hr:=o.hr
 have at_:∀ x,x<n->Br (Jd n r) x=if x=r then -1 else -2:=λx hx=>by
  unfold Br Jd
  by_cases e:x=r
  ·grind
  ·grind
 have hno:∀ x,x<n->∀ p:Nat,Br (Jd n r) x≠p:=λx hx p hp=>by grind
 refine⟨⟨by grind,λx hx=>?_,λx hx z hz=>absurd hz (hno x hx z),λx hx hp=>?_,λx hx hp d hd=>?_⟩,hlen,by grind⟩
 ·grind
 ·by_cases e:x=r
  ·subst e;exact .root
  ·grind
 ·by_cases e:x=r
  ·subst e;exact .root (λe=>hd (by rw[e];exact .refl _))
  ·grind
structure Ready(S:Nat->List Nat)(r n:Nat)(P:List Nat)(t:List Int)(i:Nat):Prop where
 inv:Inv S r n (pos (r::P)) (Br t)
 len:t.length=n
 done:∀ x∈r::P.take i,Br t x≠-2
theorem Inv.meets{at_:Nat->Nat}{par:Nat->Int}(h:Inv S r n at_ par)(hinj:∀ x y,x<n->y<n->par x≠-2->par y≠-2->at_ x=at_ y->x=y)(hr:at_ r=0):∀ m a b,at_ a+at_ b<=m->a<n->b<n->par a≠-2->par b≠-2->∃ c,MeetAt par a b c/\c<n/\par c≠-2:=by
 intro m
 induction m with
 | zero=>
  intro a b hm ha hb hpa hpb;have:a=b:=hinj a b ha hb hpa hpb (by omega);subst this;exact⟨a,WY,ha,hpa⟩
 | succ m ih=>
  have go:∀ a b,at_ a+at_ b<=m+1->a<n->b<n->par a≠-2->par b≠-2->at_ b<=at_ a->∃ c,MeetAt par a b c/\c<n/\par c≠-2:=λa b hm ha hb hpa hpb hl=>by
   by_cases e:a=b
   ·subst e;exact⟨a,WY,ha,hpa⟩
   ·rcases h.kind a ha with h1|h1|⟨p,hp⟩
    ·exact absurd h1 hpa
    ·subst h1;exact absurd (hinj a b ha hb hpa hpb (by omega)) e
    ·obtain⟨p1,p2,p3,p4⟩:=h.up a ha p hp;obtain⟨c,hc,hc2⟩:=ih p b (by omega) p1 hb p2 hpb;exact⟨c,h.meet_left hinj ha hpa hb hpb e hl hp hc,hc2⟩
  intro a b hm ha hb hpa hpb;rcases Nat.le_total (at_ b) (at_ a) with hl|hl
  ·exact go a b hm ha hb hpa hpb hl
  ·obtain⟨c,hc,hc2⟩:=go b a (by omega) hb ha hpb hpa hl;exact⟨c,lh hc,hc2⟩
theorem Ready.inj(o:Ordered S r n P){t:List Int}{i:Nat}(h:Ready S r n P t i):∀ x y,x<n->y<n->Br t x≠-2->Br t y≠-2->pos (r::P) x=pos (r::P) y->x=y:=λx y hx hy hpx hpy he=>by
 have hm :=λx hx hp=>(o.mem x).2 (h.inv.rc x hx hp)
 have back:∀ x∈r::P,(r::P).getD (pos _ x) 0=x:=λx hx=>by
  obtain⟨j,hj,rfl⟩:=Gr hx;rw[(OE o.nodup hj).2,Ab _ _ _ hj]
 rw[<- back x (hm x hx hpx),<- back y (hm y hy hpy),he]
theorem dl:pos (r::P) r=0:=by rw[RI,if_pos rfl]
theorem Ready.meetAll(o:Ordered S r n P){t:List Int}{i:Nat}(h:Ready S r n P t i):∀ l:List Nat,(∀ p∈l,p<n/\Br t p≠-2)->l≠[]->∃ z,z<n/\Br t z≠-2/\∀ w,UpTo (Br t) z w↔∀ p∈l,UpTo (Br t) p w:=by
 intro l
 induction l with
 | nil=>grind
 | cons p l ih=>
  intro hl _;obtain⟨hp1,hp2⟩:=hl p (zzL54 ..)
  by_cases hl0:l=[]
  ·grind
  ·obtain⟨z,hz1,hz2,hz3⟩:=ih (λq hq=>hl q (Oa _ hq)) hl0;obtain⟨c,hc1,hc2,hc3⟩:=h.inv.meets (h.inj o) dl _ p z (zzL6 _) hp1 hz1 hp2 hz2;exact⟨c,hc2,hc3,λw=>by rw[hc1 w,hz3 w];simp⟩
theorem Ready.best(o:Ordered S r n P){t:List Int}{i:Nat}(h:Ready S r n P t i)(hi:i<P.length):Better S r n (pos (r::P)) (Br t) (P.getD i 0) (Pm S n t (P.getD i 0)):=by
 have hy:=We hi;have hyr:P.getD i 0≠r:=λe=>(zzL113.1 o.nodup).1 (e▸hy);have hyn:=o.lt (Oa _ hy);obtain⟨p,hp,hyp⟩:=o.fwd i hi;have hp2:=h.done p hp
 have hpP:p∈r::P:=by
  grind
 have hpn:=o.lt hpP
 have hex:∃ z,z<n/\eh S n (Br t) (P.getD i 0) z:=by
  classical
  obtain⟨z,hz1,hz2,hz3⟩:=h.meetAll o ((List.range n).filter λp=>decide (P.getD i 0∈S p/\Br t p≠-2)) (λp hp=>by
   grind) (λe=>by
   simp_all)
  refine⟨z,hz1,λw=>?_⟩
  constructor
  ·grind
  ·grind
 have hb:Pm S n t (P.getD i 0)<n/\eh S n (Br t) (P.getD i 0) (Pm S n t (P.getD i 0)):=by
  unfold Pm;rw[dif_pos hex];exact Classical.choose_spec hex
 exact⟨h.inv,hyn,hyr,hb.1,hb.2,p,hpn,hyp,hp2,o.at_lt hi hp⟩
theorem Ready.best_eq(o:Ordered S r n P){t:List Int}{i:Nat}(h:Ready S r n P t i)(hi:i<P.length){z:Nat}(hz:z<n)(hz2:Br t z≠-2)(hb:eh S n (Br t) (P.getD i 0) z):z=Pm S n t (P.getD i 0):=by
 have b:=h.best o hi;exact(h.inv.antisymm ((hb _).2 ((b.best _).1 (.refl _))) ((b.best _).2 ((hb _).1 (.refl _))) hz hz2).symm
theorem Ready.next(o:Ordered S r n P){t:List Int}{i:Nat}(h:Ready S r n P t i)(hi:i<P.length):Ready S r n P (t.set (P.getD i 0) (Pm S n t (P.getD i 0):Int)) (i+1):=by
 have b:=h.best o hi;have e:=di   (v:=Pm S n t (P.getD i 0)) (by rw[h.len];exact b.hy);refine⟨by rw[e];exact b.inv',by rw[C8];exact h.len,λx hx=>?_⟩;rw[e];unfold Rz
 split
 ·omega
 ·refine h.done x ?_;rcases zzL37.1 hx with rfl|hx
  ·grind
  ·rw[bO hi]at hx;rcases zzL11.1 hx with hx|hx
   ·grind
   ·grind
theorem Ready.more(o:Ordered S r n P){t:List Int}(h:Ready S r n P t P.length)(i:Nat):Ready S r n P t i:=
 ⟨h.inv,h.len,λx hx=>h.done x (by
  grind)⟩
theorem Ready.full(o:Ordered S r n P){t:List Int}(h:Ready S r n P t P.length):ei S r n (Br t):=λx hx hr=>h.done x (by rw[W1];exact(o.mem x).2 hr)
theorem Ready.round(o:Ordered S r n P){t:List Int}(h:Ready S r n P t 0):∀ i,i<=P.length->Ready S r n P (AA S n P t i) i:=by
 intro i
 induction i with
 | zero=>intro _;exact h
 | succ i ih=>intro hi;exact(ih (by omega)).next o (by omega)
theorem wr(o:Ordered S r n P):Ready S r n P (Jd n r) 0:=by
 obtain⟨h1,h2,h3⟩:=Aai o;exact⟨h1,h2,λx hx=>by grind⟩
theorem Ready.rounds(o:Ordered S r n P):∀ j,Ready S r n P (UG S n P (Jd n r) j) 0:=by
 intro j
 induction j with
 | zero=>exact wr o
 | succ j ih=>exact((ih.round o) _ (zzL6 _)).more o 0
theorem Ready.rounds'(o:Ordered S r n P)(j:Nat):Ready S r n P (UG S n P (Jd n r) (j+1)) P.length:=(Ready.rounds o j).round o _ (zzL6 _)
theorem ph(o:Ordered S r n P){t:List Int}{k:Nat}(h:Ready S r n P t P.length)(q:QB S r n (Br t) λ_=>k):QB S r n (Br (AA S n P t P.length)) λ_=>k+1:=by
 have key:∀ i,i<=P.length->QB S r n (Br (AA S n P t i)) (λx=>if x∈P.take i then k+1 else k)/\ei S r n (Br (AA S n P t i)):=by
  intro i
  induction i with
  | zero=>intro _;exact⟨by simpa [AA] using q,h.full o⟩
  | succ i ih=>
   intro hi;obtain⟨q1,f1⟩:=ih (by omega);have rd:=(h.more o 0).round o i (by omega);have b:=rd.best o (by omega);have e:=di   (v:=Pm S n (AA S n P t i) (P.getD i 0)) (by rw[rd.len];exact b.hy)
   constructor
   ·show QB S r n (Br ((AA S n P t i).set _ _)) _
    rw[e];have:=b.qb (k:=k) o.hS o.hr f1 (λx _=>by split<;>omega) q1;intro x hx hp z hz;refine this x hx hp z ?_;rw[bO (by omega)]at hz
    by_cases e1:x=P.getD i 0
    ·grind
    ·grind
   ·show ei S r n (Br ((AA S n P t i).set _ _))
    rw[e];intro x hx hr;unfold Rz
    split
    ·omega
    ·exact f1 x hx hr
 have q1:=(key _ (zzL6 _)).1;rw[W1]at q1;have rd:=(h.more o 0).round o _ (zzL6 _);intro x hx hp z hz;refine q1 x hx hp z ?_
 dsimp only at hz ⊢
 by_cases e:x∈P
 ·rw[if_pos e];exact hz
 ·rw[if_neg e]
  have hxr:x=r:=by
   rcases zzL37.1 ((o.mem x).2 (rd.inv.rc x hx hp)) with h1|h1
   ·exact h1
   ·exact absurd h1 e
  subst hxr;exact .root hz.av.ne k
def AK(S:Nat->List Nat)(n:Nat)(P:List Nat)(t:List Int):Prop:=∀ i,i<P.length->Br t (P.getD i 0)=(Pm S n t (P.getD i 0):Int)
theorem CA{t:List Int}(o:Ordered S r n P)(hl:t.length=n)(h:AK S n P t):∀ i,i<=P.length->AA S n P t i=t:=by
 intro i
 induction i with
 | zero=>intro _;rfl
 | succ i ih=>
  intro hi;unfold AA;rw[ih (by omega),<- h i (by omega)]
  have hlt:P.getD i 0<t.length:=by rw[hl];exact o.lt (Oa _ (We (by omega)))
  unfold Br;rw[Ab _ _ _ hlt];exact List.set_getElem_self hlt
theorem uz(o:Ordered S r n P):∃ J,(∀ j,j<J->¬ AK S n P (UG S n P (Jd n r) j))/\AK S n P (UG S n P (Jd n r) J):=by
 obtain⟨K,hK⟩:=k5   n
 have hq:∀ k,QB S r n (Br (UG S n P (Jd n r) (k+1))) λ_=>k:=by
  intro k
  induction k with
  | zero=>exact tj (Ready.rounds' o 0).inv
  | succ k ih=>exact ph o (Ready.rounds' o k) ih
 have hst :=λi hi=>by
  have rd:=Ready.rounds' o K;exact((rd.more o i).best o hi).same o.hS o.hr (rd.full o) (rd.done _ (Oa _ (by grind))) (oZ rd.inv hK (hq K))
 have key:∀ m,(∃ J,J<=m/\AK S n P (UG S n P (Jd n r) J))->∃ J,(∀ j,j<J->¬ AK S n P (UG S n P (Jd n r) j))/\AK S n P (UG S n P (Jd n r) J):=by
  intro m
  induction m with
  | zero=>grind
  | succ m ih=>
   rintro⟨J,hJ,h⟩
   by_cases hm:∃ J,J<=m/\AK S n P (UG S n P (Jd n r) J)
   ·exact ih hm
   ·grind
 exact key _ ⟨K+1,zzL6 _,hst⟩
structure DomTree(S:Nat->List Nat)(r n:Nat)(P:List Nat)(t:List Int):Prop where
 inv:Inv S r n (pos (r::P)) (Br t)
 len:t.length=n
 full:ei S r n (Br t)
 exact_:ic S r n (Br t)
theorem MG(o:Ordered S r n P){j:Nat}(h:AK S n P (UG S n P (Jd n r) j)):DomTree S r n P (UG S n P (Jd n r) j):=by
 have rd:=Ready.rounds o j
 have hall :=by
  have:=rd.round o _ (zzL6 _);rwa[CA o rd.len h _ (zzL6 _)]at this
 refine⟨rd.inv,rd.len,hall.full o,lN rd.inv o.hS o.hr (hall.full o) λy hy hne hr=>?_⟩
 have hm:y∈P:=by
  rcases zzL37.1 ((o.mem y).2 hr) with h1|h1
  ·exact absurd h1 hne
  ·exact h1
 obtain⟨i,hi,rfl⟩:=Gr hm;have b:=(hall.more o i).best o hi;rw[Ab _ _ _ hi]at b;have hs:=h i hi;rw[Ab _ _ _ hi]at hs;exact⟨_,hs,b.best⟩
end
section
variable {S:Nat->List Nat} {s s':Nat->Bool} {l o:List Nat}
theorem VL.before(h:VL S s l s' o):∀ A z B,o=A++z::B->z∈l\/∃ p∈B,z∈S p:=by
 induction h with
 | nil s=>intro A z B e;simp at e
 | skip h _ ih=>
  grind
 | @step s s1 s2 y l o1 o2 h a b iha ihb=>
  intro A z B e;rcases List.append_eq_append_iff.1 e with⟨C,hC1,hC2⟩|⟨C,hC1,hC2⟩
  ·
   cases C with
   | nil=>
    grind
   | cons c C=>
    grind
  ·cases C with
   | nil=>
    grind
   | cons c C=>
    grind
theorem Ord.ordered{n r:Nat}{L:List Nat}(hr:r<n)(hS:∀ x,x<n->∀ w∈S x,w<n)(h:Ord S r L):∃ P,L=r::P/\Ordered S r n P:=by
 have h1:=h.nodup;have h2:=h.mem;obtain⟨s',o,hv,rfl⟩:=h;refine⟨o.reverse,rfl,hr,hS,h1,λx=>by rw[h2 x,rc_iff],λi hi=>?_⟩
 have e:o.reverse=o.reverse.take i++o.reverse[i]::o.reverse.drop (i+1):=by rw[<- SJ hi,List.take_append_drop]
 have e2:o=(o.reverse.drop (i+1)).reverse++o.reverse[i]::(o.reverse.take i).reverse:=by
  have:=Bg List.reverse e
  simpa using this
 rw[Ab _ _ _ hi];rcases hv.before _ _ _ e2 with h3|⟨p,hp,hz⟩
 ·exact⟨r,zzL54 ..,h3⟩
 ·grind
end
def kA(S:Nat->List Nat)(w:Int):Nat->List Nat:=λx=>(S x).filter λy=>decide ((y:Int)≠w)
theorem qO(S:Nat->List Nat):kA S (-1)=S:=by
 funext x
 exact List.filter_eq_self.2 λy _=>Dr (by omega)
theorem uI(S:Nat->List Nat)(z:Nat):kA S (z:Int)=wo S z:=by
 funext x
 unfold kA wo
 congr 1
 funext y
 exact zzL76.2 ⟨λh e=>h (by rw[e]),λh e=>h (KK e)⟩
def M1(L:List (List Int))(r:Nat)(w:Int):List Bool:=if(r:Int)=w then List.replicate L.length false else HU (kA (sN L) w) L.length ((List.replicate L.length false).set r true) L.length
theorem RK(L:List (List Int))(r:Nat)(w:Int):(M1 L r w).length=L.length:=by
 unfold M1
 split
 ·simp
 ·rw[Yf];simp
theorem dH{L:List (List Int)}(hm:Mq L=true){r:Nat}(hr:r<L.length)(w:Int) :
  C7 (J4 L) (r:Int) w=some (M1 L r w):=by
 obtain⟨h1,h2,h3⟩:=mayS_iff.1 hm
 have hroom:(1000:Nat)<=room:=by decide
 have hS:=Wu hm;have hSw:∀ z,z<L.length->∀ y∈kA (sN L) w z,y<L.length:=λz hz y hy=>hS z hz y (zzL96.1 hy).1;have hgs:(J4 L).Succ=L:=rfl
 have hlenS:∀ a,(sN L a).length=(L.getD a []).length:=λa=>by simp[sN]
 let fl:List Nat->List Nat:=λl=>l.filter λy=>decide ((y:Int)≠w)
 have hin:∀(o:List Bool) (i:Nat),o.length=L.length->i<L.length->Ac (A2 (J4 L) w (i:Int)) ((0:Int),o)=some (if o.getD i false=true then mk o (kA (sN L) w i) else o):=λo i ho hi=>by
  have hb:=DN (h3 i hi)
  by_cases hoi:o.getD i false=true
  ·rw[if_pos hoi];have hmi:∀ k,(mk o (fl ((sN L i).take k))).getD i false=true:=λk=>(mk_at (n:=L.length) _ _ ho (λy hy=>hS i hi y (List.mem_of_mem_take (zzL96.1 hy).1)) i).2 (.inl hoi)
   have hml:∀ k,(mk o (fl ((sN L i).take k))).length=L.length:=λk=>by rw[gG,ho]
   refine De (A2 (J4 L) w (i:Int)) (λk=>(((k:Nat):Int),mk o (fl ((sN L i).take k)))) _ (L.getD i []).length (λk hk=>?_) ?_
   ·show A2 (J4 L) w (i:Int) (_,_)=_
    unfold A2;obtain⟨a0,a1⟩:=BC (h3 i hi) hk;simp only[hgs,Ak,hmi];rw[Ad (Fy (by rw[hml];exact hi)),M3 (Fy hi),Ah,Bt hk,Ah,Ad (Fy hi),Ad (Fy hk)]
    have hk':k<(sN L i).length:=by rw[hlenS];exact hk
    have hsk:(sN L i)[k]=((L.getD i []).getD k 0).toNat:=by rw[Ab _ _ _ hk];simp[sN]
    have hski:(((sN L i)[k]:Nat):Int)=(L.getD i []).getD k 0:=by rw[hsk];exact Y8 a0
    have e:mk o (fl ((sN L i).take (k+1)))=if(L.getD i []).getD k 0=w then mk o (fl ((sN L i).take k)) else(mk o (fl ((sN L i).take k))).set ((L.getD i []).getD k 0).toNat true:=by
     rw[bO hk']
     show mk o (List.filter _ (_++[_]))=_
     rw[Vd]
     by_cases hw:(L.getD i []).getD k 0=w
     ·rw[if_pos hw]
      have:List.filter (λy:Nat=>decide ((y:Int)≠w)) [(sN L i)[k]]=[]:=by rw[List.filter_cons,hski,hw];simp
      rw[this,List.append_nil]
     ·rw[if_neg hw]
      have:List.filter (λy:Nat=>decide ((y:Int)≠w)) [(sN L i)[k]]=[(sN L i)[k]]:=by rw[List.filter_cons,hski,if_pos (Dr hw)];rfl
      rw[this];unfold mk;rw[List.foldl_append,hsk]
      rfl
    by_cases hw:(L.getD i []).getD k 0=w
    ·have hne:((L.getD i []).getD k 0 !=w)=false:=by rw[hw];simp
     rw[hne,Au,An,w1 (by omega),e,if_pos hw]
    ·have hne:((L.getD i []).getD k 0 !=w)=true:=by rw[zzL101];exact hw
     rw[hne,Ah,Ad (Fy hi),Ad (Fy hk),Ad ⟨a0,by rw[hml];exact a1⟩,w1 (by omega),e,if_neg hw]
     rfl
   ·show A2 (J4 L) w (i:Int) (_,_)=_
    unfold A2;simp only[hgs,Ak,hmi];rw[Ad (Fy (by rw[hml];exact hi)),M3 (Fy hi),Ah,Co,Au]
    have:(sN L i).take (L.getD i []).length=sN L i:=by rw[<- hlenS];exact W1 ..
    rw[this]
    rfl
  ·have hof:o.getD i false=false:=by simpa using hoi
   rw[if_neg hoi]
   apply Am
   unfold A2;simp only[hgs,Ak,hof];rw[Ad (Fy (by rw[ho];exact hi)),M3 (Fy hi),Au,Au]
 have hsw:∀ o:List Bool,o.length=L.length->Ac (A3 (J4 L) w) ((0:Int),o)=some (sw (kA (sN L) w) o L.length):=λo ho=>by
  refine De (A3 (J4 L) w) (λi=>(((i:Nat):Int),sw (kA (sN L) w) o i)) _ L.length (λi hi=>?_) ?_
  ·show A3 (J4 L) w (_,_)=_
   unfold A3
   have hl:(sw (kA (sN L) w) o i).length=L.length:=by rw[sw_len,ho]
   simp only[hl,Bt hi,Ah];rw[hin _ i hl hi,w1 (by omega)]
   rfl
  ·show A3 (J4 L) w (_,_)=_
   unfold A3
   have hl:(sw (kA (sN L) w) o L.length).length=L.length:=by rw[sw_len,ho]
   simp only[hl,Co,Au]
 unfold C7;simp only[hgs,Ak];rw[Ad ⟨by omega,Int.le_refl _,by omega⟩];unfold M1
 by_cases hrw:(r:Int)=w
 ·rw[if_pos hrw]
  have:((r:Int)==w)=true:=by simpa using hrw
  rw[this,Ah]
 ·rw[if_neg hrw]
  have hne:((r:Int)==w)=false:=by rw[zzL29];exact hrw
  rw[hne,Au,Ad (Fy (by simpa using hr))]
  have hl0:((List.replicate L.length false).set r true).length=L.length:=by simp
  have:Ac (A4 (J4 L) w) ((0:Int),(List.replicate L.length false).set r true)=some (HU (kA (sN L) w) L.length ((List.replicate L.length false).set r true) L.length):=by
   refine De (A4 (J4 L) w) (λj=>(((j:Nat):Int),HU (kA (sN L) w) L.length ((List.replicate L.length false).set r true) j)) _ L.length (λj hj=>?_) ?_
   ·show A4 (J4 L) w (_,_)=_
    unfold A4
    have hl:(HU (kA (sN L) w) L.length ((List.replicate L.length false).set r true) j).length=L.length:=by rw[Yf,hl0]
    simp only[hl,Bt hj,Ah];rw[hsw _ hl,w1 (by omega)]
    rfl
   ·show A4 (J4 L) w (_,_)=_
    unfold A4
    have hl:(HU (kA (sN L) w) L.length ((List.replicate L.length false).set r true) L.length).length=L.length:=by rw[Yf,hl0]
    simp only[hl,Co,Au]
  rw[this]
  rfl
theorem pi{L:List (List Int)}(hm:Mq L=true){r:Nat}(hr:r<L.length){b:Nat}:(M1 L r (-1)).getD b false=true↔Rc (sN L) r b:=by
 unfold M1;rw[if_neg (by omega),qO,BP (Wu hm) hr b,rc_iff]
theorem gj{L:List (List Int)}(hm:Mq L=true){r:Nat}(hr:r<L.length){a b:Nat}(hb:b<L.length):(M1 L r (a:Int)).getD b false=true↔Av (sN L) r a b:=by
 unfold M1;rw[av_iff]
 by_cases h:r=a
 ·grind
 ·rw[if_neg (by omega),uI,BP (S:=wo _ a) (λz hz y hy=>Wu hm z hz y (zzL96.1 hy).1) hr b];simp[h]
def P1(L:List (List Int))(r a b:Nat):Bool:=(M1 L r (-1)).getD b false&&!(M1 L r (a:Int)).getD b false
theorem dh{L:List (List Int)}(hm:Mq L=true){r a b:Nat}(hr:r<L.length)(hb:b<L.length):P1 L r a b=true↔Rc (sN L) r b/\¬ Av (sN L) r a b:=by
 unfold P1;rw[A5,Y9,<- Bool.not_eq_true,pi hm hr,gj hm hr hb]
def QQ(L:List (List Int))(r a b:Nat):Bool:=(List.range L.length).all λc=>decide (c=b) || !P1 L r c b || P1 L r c a
def T8(L:List (List Int))(r b:Nat):Nat->Int
 | 0=>-2
 | a+1=>if a≠b/\P1 L r a b=true/\QQ L r a b=true then(a:Int) else T8 L r b a
def Yl(L:List (List Int))(r b:Nat):Int:=if b=r then -1 else T8 L r b L.length
def Y6(L:List (List Int))(r:Nat):List Int:=(List.range L.length).map (Yl L r)
theorem XY(L:List (List Int))(r:Nat):(Y6 L r).length=L.length:=by simp[Y6]
theorem qG{L:List (List Int)}{r b:Nat}(hb:b<L.length):(Y6 L r).getD b 0=Yl L r b:=by unfold Y6;rw[Pb hb]
theorem pick_cases(L:List (List Int))(r b:Nat):∀ m,(T8 L r b m = -2/\∀ a,a<m->¬ (a≠b/\P1 L r a b=true/\QQ L r a b=true))\/∃ a,a<m/\T8 L r b m=(a:Int)/\a≠b/\P1 L r a b=true/\QQ L r a b=true:=by
 intro m
 induction m with
 | zero=>exact .inl ⟨rfl,λa ha=>absurd ha (W4 a)⟩
 | succ m ih=>
  unfold T8
  by_cases h:m≠b/\P1 L r m b=true/\QQ L r m b=true
  ·grind
  ·grind
theorem DomTree.eq{L:List (List Int)}(hm:Mq L=true){r:Nat}(hr:r<L.length){P t:List _}(o:Ordered (sN L) r L.length P)(h:DomTree (sN L) r L.length P t):t=Y6 L r:=by
 refine CJ (by rw[h.len,XY]) λb h1 h2=>?_
 have hb:b<L.length:=by rw[<- h.len];exact h1
 rw[<- Ab _ _ 0 h1,<- Ab _ _ 0 h2,qG hb]
 show Br t b=_
 have hov:∀ a b,b<L.length->Br t b≠-2->(P1 L r a b=true↔UpTo _ b a):=λa b hb hp=>by
  rw[dh hm hr hb,h.exact_ b hb hp];exact⟨λk=>k.2,λk=>⟨h.inv.rc b hb hp,k⟩⟩
 unfold Yl
 by_cases hbr:b=r
 ·subst hbr;rw[if_pos rfl];exact h.inv.top
 ·rw[if_neg hbr];rcases h.inv.kind b hb with hk|hk|⟨z,hz⟩
  ·
   have hn :=λk=>h.full b hb k hk;rcases pick_cases L r b _ with⟨h3,_⟩|⟨a,_,_,_,h6,_⟩
   ·rw[hk,h3]
   ·exact absurd ((dh hm hr hb).1 h6).1 hn
  ·exact absurd hk hbr
  ·obtain⟨z1,z2,z3,z4⟩:=h.inv.up b hb z hz
   have hp:Br t b≠-2:=by omega
   have hzo :=(hov z b hb hp).2 (.up hz (.refl _))
   have hzb:z≠b:=by rintro rfl;omega
   have hnear:QQ L r z b=true:=all_range.2 λc hc=>by
    by_cases e:c=b
    ·simp[e]
    ·cases ho:P1 L r c b with
     | false=>simp
     | true=>
      have:=(hov c b hb hp).1 ho;rcases(anc_up hz).1 this with h3|h3
      ·exact absurd h3 e
      ·grind
   rcases pick_cases L r b L.length with⟨_,h3⟩|⟨a,h3,h4,h5,h6,h7⟩
   ·grind
   ·rw[h4,hz];have haU:=(hov a b hb hp).1 h6
    have ha1:UpTo (Br t) z a:=by
     rcases(anc_up hz).1 haU with h8|h8
     ·exact absurd h8 h5
     ·exact h8
    have hap:=(h.inv.anc ha1 z1 z2).2.1
    have hza :=by
     have:=all_range.1 h7 z z1;simp only[hzo,hzb, D6]at this;exact(hov z a h3 hap).1 this
    rw[h.inv.antisymm ha1 hza z1 z2]
theorem jZ{g:TGraph}(h:DZ g=true):Mq g.Succ=true/\g=J4 g.Succ:=by
 unfold DZ at h;rw[A5]at h;refine⟨h.1,?_⟩;obtain⟨s,p⟩:=g;have:=KH h.2;simp only at this;unfold J4;rw[this]
theorem GS{a b:Nat}:(((a:Nat):Int)==(b:Int))=decide (a=b):=by
 grind
theorem iw{a b:Nat}:(((a:Nat):Int)!=(b:Int)) = !decide (a=b):=by
 unfold bne;rw[GS]
section
variable {L:List (List Int)} (hm:Mq L=true) {r:Nat} (hr:r<L.length)
def RV(L:List (List Int))(r a k:Nat):List Bool:=(List.range L.length).map λb=>if b<k then P1 L r a b else false
def RU(L:List (List Int))(r a:Nat):List Bool:=(List.range L.length).map λb=>P1 L r a b
def ls(L:List (List Int))(r:Nat):List (List Bool):=(List.range L.length).map λa=>RU L r a
theorem jl:(ls L r).length=L.length:=by simp[ls]
theorem pc{a:Nat}(ha:a<L.length):(ls L r).getD a []=RU L r a:=by unfold ls;rw[Pb ha]
theorem d9{a:Nat}:(RU L r a).length=L.length:=by simp[RU]
theorem bJ{a b:Nat}(hb:b<L.length):(RU L r a).getD b false=P1 L r a b:=by unfold RU;rw[Pb hb]
include hm hr
omit hr in
theorem uC(a:Nat)(l5:List (List Bool))(hl5:l5.length=L.length)(ha:a<L.length):Ac (Df (J4 L) (M1 L r (-1)) (a:Int) l5 (M1 L r (a:Int))) ((0:Int),List.replicate L.length false)=some (RU L r a):=by
 obtain⟨h1,h2,h3⟩:=mayS_iff.1 hm;have hgs:(J4 L).Succ=L:=rfl
 have e0:List.replicate L.length false=RV L r a 0:=by
  refine CJ (by simp[RV]) λi h1 h2=>by simp[RV]
 have e1:RU L r a=RV L r a L.length:=by
  unfold RU RV
  exact Hn λi hi=>by rw[if_pos hi]
 have hlen:∀ k,(RV L r a k).length=L.length:=λk=>by simp[RV]
 rw[e0];refine De (Df (J4 L) (M1 L r (-1)) (a:Int) l5 (M1 L r (a:Int))) (λk=>(((k:Nat):Int),RV L r a k)) _ L.length (λk hk=>?_) ?_
 ·show Df (J4 L) _ _ _ _ (_,_)=_
  unfold Df;simp only[hgs,Ak,Bt hk,Ah];rw[Ad (Fy (by rw[hl5];exact ha)),Ad (Fy (by rw[RK];exact hk)),Ad (λ_=>Fy (by rw[RK];exact hk)),Ad (Fy (by rw[hlen];exact hk)),w1 (by omega)]
  have:(RV L r a k).set k (bif (M1 L r (-1)).getD k false then !(M1 L r (a:Int)).getD k false else false)=RV L r a (k+1):=by
   unfold RV;rw[BX];refine Hn λi hi=>?_
   by_cases e:i=k
   ·subst e;rw[if_pos rfl,if_pos (by omega)];unfold P1
    cases(M1 L r (-1)).getD i false<;>rfl
   ·rw[if_neg e]
    by_cases e2:i<k
    ·rw[if_pos e2,if_pos (by omega)]
    ·rw[if_neg e2,if_neg (by omega)]
  rw[this]
 ·show Df (J4 L) _ _ _ _ (_,_)=_
  unfold Df;simp only[hgs,Co,Au];rw[e1]
theorem uD:Ac (Il (J4 L) (r:Int) (M1 L r (-1))) ((0:Int),List.replicate L.length ([]:List Bool))=some (ls L r):=by
 obtain⟨h1,h2,h3⟩:=mayS_iff.1 hm;have hgs:(J4 L).Succ=L:=rfl
 have hroom:1000<=room:=by decide
 let M:Nat->List _:=λk=>(List.range L.length).map λa=>if a<k then RU L r a else[]
 have hM:∀ k,(M k).length=L.length:=λk=>by simp[M]
 have e0:List.replicate L.length []=M 0:=by
  refine CJ (by simp[M]) λi h1 h2=>by simp[M]
 have e1:ls L r=M _:=Hn λi hi=>by rw[if_pos hi]
 rw[e0];refine De _ (λk=>(((k:Nat):Int),M k)) _ L.length (λk hk=>?_) ?_
 ·unfold Il;simp only[hgs,Ak,Bt hk,Ah];rw[Ad ⟨by omega,Int.le_refl _,by omega⟩,Ad (Fy (by rw[hM];exact hk)),dH hm hr,An,uC hm k (M k) (hM k) hk,An,w1 (by omega)]
  have:(M k).set k (RU L r k)=M (k+1):=by
   rw[BX];refine Hn λi hi=>?_
   by_cases e:i=k
   ·grind
   ·grind
  rw[this]
 ·unfold Il;simp only[hgs,Co,Au];rw[e1]
omit hr in
theorem uE(a b:Nat)(ha:a<L.length)(hb:b<L.length):Ac (Dg (J4 L) (ls L r) (b:Int) (a:Int)) (true,(0:Int))=some (QQ L r a b):=by
 obtain⟨h1,h2,h3⟩:=mayS_iff.1 hm;have hgs:(J4 L).Succ=L:=rfl
 let N:Nat->Bool:=λk=>(List.range k).all λc=>decide (c=b) || !P1 L r c b || P1 L r c a
 refine De (Dg (J4 L) (ls L r) (b:Int) (a:Int)) (λk=>(N k,((k:Nat):Int))) _ L.length (λk hk=>?_) ?_
 ·show Dg (J4 L) _ _ _ (_,_)=_
  unfold Dg;simp only[hgs,Ak,Bt hk,Ah,pc hk,jl,d9,bJ hb,bJ ha];rw[Ad (λ_=>Fy hk),Ad (λ_=>Fy hb),Ad (λ_=>Fy hk),Ad (λ_=>Fy ha),w1 (by omega),GS]
  have:(bif N k then(bif (bif decide (k=b) then true else !P1 L r k b) then true else P1 L r k a) else false)=N (k+1):=by
   show _=(List.range (k+1)).all _
   rw[nZ]
   show _=(N k&&_)
   cases N k<;>cases decide (k=b)<;>cases P1 L r k b<;>rfl
  rw[this]
 ·show Dg (J4 L) _ _ _ (_,_)=_
  unfold Dg;simp only[hgs,Co,Au]
  rfl
def Rh(L:List (List Int))(r b:Nat)(x:Int):List Int:=(List.range L.length).map λj=>if j<b then Yl L r j else if j=b then x else 0
omit hm hr in
theorem KA{b:Nat}{x:Int}:(Rh L r b x).length=L.length:=by simp[Rh]
omit hm hr in
theorem KB{b:Nat}{x y:Int}:(Rh L r b x).set b y=Rh L r b y:=by
 unfold Rh;rw[BX];refine Hn λi hi=>?_
 by_cases e:i=b
 ·subst e;rw[if_pos rfl,if_neg (by omega),if_pos rfl]
 ·rw[if_neg e,if_neg e,if_neg e]
omit hm hr in
theorem SC{b:Nat}:Rh L r b (Yl L r b)=Rh L r (b+1) 0:=by
 unfold Rh;refine Hn λi hi=>?_
 by_cases e:i<b
 ·rw[if_pos e,if_pos (by omega)]
 ·rw[if_neg e]
  by_cases e2:i=b
  ·subst e2;rw[if_pos rfl,if_pos (by omega)]
  ·rw[if_neg e2,if_neg (by omega)];split<;>rfl
omit hr in
theorem uF(b:Nat)(hb:b<L.length)(hbr:b≠r):Ac (B3 (J4 L) (r:Int) (ls L r) (b:Int)) ((0:Int),Rh L r b (-2))=some (Rh L r b (T8 L r b L.length)):=by
 obtain⟨h1,h2,h3⟩:=mayS_iff.1 hm;have hgs:(J4 L).Succ=L:=rfl;refine De (B3 (J4 L) (r:Int) (ls L r) (b:Int)) (λk=>(((k:Nat):Int),Rh L r b (T8 L r b k))) _ L.length (λk hk=>?_) ?_
 ·show B3 (J4 L) _ _ _ (_,_)=_
  unfold B3
  have hne:decide (b=r)=false:=by simp[hbr]
  simp only[hgs,Ak,Bt hk,Ah,pc hk,jl,d9,bJ hb,GS,iw,hne,L5];rw[Ad (λ_=>Fy hk),Ad (λ_=>Fy hb),uE hm k b hk hb]
  by_cases hkb:k=b
  ·have e:T8 L r b (k+1)=T8 L r b k:=by show(if _ then _ else _)=_;rw[if_neg (λh=>h.1 hkb)]
   rw[Dr hkb,Ah,Ah,An,w1 (by omega),e]
  ·rw[C9 hkb,Au]
   cases ho:P1 L r k b with
   | false=>
    have e:T8 L r b (k+1)=T8 L r b k:=by show(if _ then _ else _)=_;rw[if_neg (λh=>by rw[ho]at h;exact absurd h.2.1 (by decide))]
    rw[L5,Ah,An,w1 (by omega),e]
   | true=>
    rw[D6,Au,An]
    cases hn:QQ L r k b with
    | false=>
     have e:T8 L r b (k+1)=T8 L r b k:=by show(if _ then _ else _)=_;rw[if_neg (λh=>by rw[hn]at h;exact absurd h.2.2 (by decide))]
     rw[Au,An,w1 (by omega),e]
    | true=>
     have e:T8 L r b (k+1)=(k:Int):=by show(if _ then _ else _)=_;rw[if_pos ⟨hkb,ho,hn⟩]
     rw[Ah,Ad (Fy (by rw[KA];exact hb)),An,w1 (by omega),e,KB]
 ·show B3 (J4 L) _ _ _ (_,_)=_
  unfold B3;simp only[hgs,Co,Au]
omit hr in
theorem uG:Ac (Dh (J4 L) (r:Int) (ls L r)) ((0:Int),List.replicate L.length (0:Int))=some (Y6 L r):=by
 obtain⟨h1,h2,h3⟩:=mayS_iff.1 hm;have hgs:(J4 L).Succ=L:=rfl
 have e0:List.replicate L.length (0:Int)=Rh L r 0 0:=by
  refine CJ (by simp[Rh]) λi h1 h2=>by simp[Rh]
 have e1:Y6 L r=Rh L r L.length 0:=Hn λi hi=>by rw[if_pos hi]
 rw[e0];refine De (Dh (J4 L) (r:Int) (ls L r)) (λk=>(((k:Nat):Int),Rh L r k 0)) _ L.length (λk hk=>?_) ?_
 ·show Dh (J4 L) _ _ (_,_)=_
  unfold Dh;simp only[hgs,Ak,Bt hk,Ah];rw[Ad (Fy (by rw[KA];exact hk)),GS,KB,KB]
  by_cases hkr:k=r
  ·rw[Dr hkr,Ah,Ad (Fy (by rw[KA];exact hk)),An]
   have hd:Ac (B3 (J4 L) (r:Int) (ls L r) (k:Int)) ((0:Int),Rh L r k (-1))=some (Rh L r k (-1)):=by
    apply Am
    unfold B3;simp only[iw,Dr hkr,D6,n8,Au]
   rw[hd,An,w1 (by omega)]
   have:Yl L r k = -1:=by unfold Yl;rw[if_pos hkr]
   rw[<- this,SC]
  ·rw[C9 hkr,Au,An,uF hm k hk hkr,An,w1 (by omega)]
   have:Yl L r k=T8 L r k L.length:=by unfold Yl;rw[if_neg hkr]
   rw[<- this,SC]
 ·show Dh (J4 L) _ _ (_,_)=_
  unfold Dh;simp only[hgs,Co,Au];rw[e1]
end
def MH(g:TGraph)(r:Int):List Int:=if DZ g=true/\0<=r/\r<(g.Succ.length:Int) then Y6 g.Succ r.toNat else[]
theorem gD(g:TGraph)(h:Fits g.Succ)(r:Int):Kr g r=some (MH g r):=by
 have hroom:1000<=room:=by decide
 unfold Kr MH;rw[lY g h,An]
 cases hmg:DZ g with
 | false=>
  rfl
 | true=>
  rw[D6,Au]
  by_cases h0:r<0
  ·grind
  ·rw[C9 h0,Au]
   by_cases h1:g.Succ.length<=r
   ·grind
   ·rw[C9 h1,Au,if_pos ⟨rfl,by omega,by omega⟩];obtain⟨hms,hg⟩:=jZ hmg;obtain⟨hl1,hl2,hl3⟩:=mayS_iff.1 hms;obtain⟨q,rfl⟩:∃ q:Nat,r=q:=⟨r.toNat,by omega⟩
    have hq:q<g.Succ.length:=by omega
    rw[hg];have hgs:(J4 _).Succ=g.Succ:=rfl;simp only[hgs,Ak];rw[dH hms hq,An,Ad ⟨by omega,Int.le_refl _,by omega⟩,uD hms hq,An,Ad ⟨by omega,Int.le_refl _,by omega⟩,uG hms,An]
def upD(t:List Int):Nat->Int->Option (List Int)
 | 0,_=>none
 | k+1,a=>if 0<=a/\a<(t.length:Int) then(if t.getD a.toNat 0 = -1 then some [a] else(upD t k (t.getD a.toNat 0)).map λl=>a::l) else none
def E8(t:List Int)(a:Int):List Int:=(upD t t.length a).getD []
def Aal(l:List Int):Option (List Int)->Unit ⊕ List Int
 | none=>.inl ()
 | some q=>.inr (l++q)
theorem lu(t:List Int)(ht:t.length<=1000):∀(k:Nat) (a:Int) (l:List Int),l.length+k=t.length->Ac (Ci t) (a,l)=some (Aal l (upD t k a)):=by
 have hroom:2000<=room:=by decide
 intro k
 induction k with
 | zero=>
  intro a l hl
  apply Am
  unfold Ci;have:decide ((l.length:Int)<t.length)=false:=C9 (by omega);simp only[this]
  rfl
 | succ k ih=>
  intro a l hl;have hlt:decide (l.length<(t.length:Int))=true:=Dr (by omega);unfold upD
  by_cases h0:0<=a
  ·by_cases h1:a<t.length
   ·have hin:A1 a _:=⟨h0,h1⟩;rw[if_pos ⟨h0,h1⟩]
    by_cases ht1:t.getD a.toNat 0 = -1
    ·apply Am
     unfold Ci;simp only[hlt,Dr h0,Dr h1];rw[Ad (by simp;omega),Ad hin,ht1]
     rfl
    ·rw[if_neg ht1]
     have hs:Ci t (a,l)=some (.next (t.getD a.toNat 0,l++[a])):=by
      unfold Ci;have hb :=zzL29.2 ht1;simp only[hlt,Dr h0,Dr h1,Ah];rw[Ad (by simp;omega),Ad hin,hb,Au,Ad hin]
     rw[Aq hs,ih _ _ (by simp;omega)]
     cases upD t k _ with
     | none=>rfl
     | some q=>show some (Sum.inr _)=some (Sum.inr _);simp
   ·rw[if_neg (by omega)]
    apply Am
    unfold Ci;simp only[hlt,Dr h0,C9 h1,Ah]
    rfl
  ·rw[if_neg (by omega)]
   apply Am
   unfold Ci;simp only[hlt,C9 h0,Ah]
   rfl
theorem f9(t:List Int)(ht:t.length<=1000)(a:Int):Ge t a=some (E8 t a):=by
 unfold Ge E8;rw[lu t ht t.length a [] (by simp)]
 cases upD t _ a with
 | none=>rfl
 | some q=>rfl
theorem j7(t:List Int):∀ k a q,upD t k a=some q->q.length<=k/\1<=q.length:=by
 intro k
 induction k with
 | zero=>intro a q h;cases h
 | succ k ih=>
  intro a q h;unfold upD at h
  split at h
  ·split at h
   ·cases h;simp
   ·cases hu:upD t k _ with
    | none=>rw[hu]at h;cases h
    | some q'=>grind
  ·cases h
theorem XJ(t:List Int)(a:Int):(E8 t a).length<=t.length:=by
 unfold E8
 cases h:upD t _ a with
 | none=>simp
 | some q=>exact(j7 t _ _ _ h).1
theorem pathD_nil{t:List Int}{a:Int}:E8 t a=[]↔upD t t.length a=none:=by
 unfold E8
 cases h:upD t _ a with
 | none=>simp
 | some q=>have:=(j7 t _ _ _ h).2;simp;intro e;subst e;simp at this
def topsK(t:List Int)(k:Nat):Nat:=((List.range k).filter λa=>decide (t.getD a 0 = -1)).length
def pQ(t:List Int)(a:Nat):Bool:=decide (t.getD a 0 = -2) || !decide (E8 t (a:Int)=[])
def M2(t:List Int):Bool:=(List.range t.length).all (pQ t)&&decide (topsK t t.length=1)
theorem FU(t:List Int)(k:Nat):topsK t (k+1)=topsK t k+if t.getD k 0 = -1 then 1 else 0:=by
 unfold topsK;rw[Vg,Vd]
 by_cases h:t.getD k 0 = -1
 ·grind
 ·grind
theorem qE(t:List Int)(k:Nat):topsK t k<=k:=by
 exact P5 (List.length_filter_le ..) (by simp)
theorem pA{l:List Int}:(((l.length:Nat):Int)==(0:Int))=decide (l=[]):=by
 cases l with
 | nil=>rfl
 | cons x l=>simp;omega
theorem gt(t:List Int)(ht:t.length<=1000):Ac (Bz t) ((0:Int),(0:Int))=some (bif (List.range t.length).all (pQ t) then .inl ((topsK t t.length:Nat):Int) else .inr false):=by
 have body:∀ k,k<t.length->Bz t (((topsK t k:Nat):Int),(k:Int))=some (bif pQ t k then .next (((topsK t (k+1):Nat):Int),((k+1:Nat):Int)) else .done (.inr false)):=λk hk=>by
  have hle:=qE t k;unfold Bz;simp only[Ak,Bt hk,Ah];rw[Ad (Fy hk)]
  have e1:(bif (t.getD k 0==(-1:Int)) then some (w64 (((topsK t k:Nat):Int)+1)) else some ((topsK t k:Nat):Int))=some ((topsK t (k+1):Nat):Int):=by
   rw[FU]
   by_cases h:t.getD k 0 = -1
   ·rw[if_pos h,zzL63.2 h,Ah,w1 (by omega)]
   ·rw[if_neg h,zzL29.2 h,Au];rfl
  rw[e1,An]
  by_cases h2:t.getD k 0 = -2
  ·have hb:(t.getD k 0 !=(-2:Int))=false:=by rw[h2];rfl
   have ho:pQ t k=true:=by unfold pQ;rw[Dr h2];rfl
   rw[hb,show(false==true)=false from rfl,Au,An,Au,Au,Ad (Fy hk),w1 (by omega),ho,Ah]
  ·have hb:(t.getD k 0 !=(-2:Int))=true:=zzL101.2 h2
   have ho:pQ t k = !decide (E8 t (k:Int)=[]):=by unfold pQ;rw[C9 h2];rfl
   rw[hb,show(true==true)=true from rfl,Ah,f9 t ht,An,Ah,pA,Ad (Fy hk),w1 (by omega),ho]
   cases decide (E8 t (k:Int)=[])<;>rfl
 have:=H8 (Bz t) (λk=>(((topsK t k:Nat):Int),((k:Nat):Int))) (pQ t) (.inl ((topsK t t.length:Nat):Int)) (.inr false) t.length (λi hi hp=>by
   show Bz t _=_;rw[body i hi,hp,Ah]) (λi hi hp=>by
   show Bz t _=_;rw[body i hi,hp,Au]) (by
   show Bz t _=_
   unfold Bz
   simp only[Co,Au])
 exact this
theorem tF(t:List Int)(ht:t.length<=1000):Jz t=some (M2 t):=by
 unfold Jz M2;rw[gt t ht]
 cases(List.range _).all _ with
 | false=>rfl
 | true=>
  rw[ Mu]
  show some _=_
  have:(1:Int)=(1:Nat):=rfl;rw[this,GS]
theorem find_first(p:Int->Bool):∀ l:List Int,(∃ n,n<l.length/\(∀ i,i<n->p (l.getD i 0)=false)/\p (l.getD n 0)=true/\l.find? p=some (l.getD n 0))\/((∀ i,i<l.length->p (l.getD i 0)=false)/\l.find? p=none):=by
 intro l
 induction l with
 | nil=>grind
 | cons x l ih=>
  cases hx:p x with
  | true=>exact .inl ⟨0,by simp,λi hi=>absurd hi (W4 i),by simpa using hx,by simp[ hx]⟩
  | false=>
   rcases ih with⟨n,h1,h2,h3,h4⟩|⟨h1,h2⟩
   ·refine .inl ⟨n+1,by simpa using h1,λi hi=>?_,by simpa using h3,by grind⟩
    cases i with
    | zero=>simpa using hx
    | succ i=>grind
   ·grind
def Re(t:List Int)(a b:Int):Int:=if M2 t=true then((E8 t a).find? λx=>(E8 t b).contains x).getD (-2) else -2
def Lv(t:List Int)(a b:Int):Bool:=Re t a b==a&&Re t a b !=-2
theorem wa(t:List Int)(ht:t.length<=1000)(a b:Int):Kq t a b=some (Re t a b):=by
 unfold Kq Re;rw[tF t ht,An]
 cases M2 t with
 | false=>rfl
 | true=>
  rw[D6, f9 t ht,An,f9 t ht,An];have hp:=XJ t a;have hq:=XJ t b
  have body:∀ k,k<(E8 t a).length->Ej (E8 t a) (E8 t b) (k:Int)=some (bif (E8 t b).contains _ then .done _ else .next _):=λk hk=>by
   unfold Ej;simp only[Ak,Bt hk];rw[Ad (Fy hk),dG _ _ (by omega), w1 (by omega),Ad (Fy hk)]
   cases(E8 t b).contains _<;>rfl
  rcases find_first (λx=>(E8 t b).contains x) (E8 t a) with⟨n,h1,h2,h3,h4⟩|⟨h1,h2⟩
  ·have:=De (Ej (E8 t a) (E8 t b)) (λk=>(k:Nat)) (.inr ((E8 t a).getD n 0)) n (λk hk=>by
    grind) (by
    grind)
   have e:Ac _ (0:Int)=_:=this;rw[e, h4]
   rfl
  ·have:=De (Ej (E8 t a) (E8 t b)) (λk=>((k:Nat):Int)) (.inl ()) (E8 t a).length (λk hk=>by
    grind) (by
    unfold Ej
    simp only[Co,Au])
   have e:Ac _ (0:Int)=_:=this;rw[e, h2]
   rfl
section
variable {S:Nat->List Nat} {r n:Nat} {P:List Nat} {t:List Int}
theorem DomTree.up(h:DomTree S r n P t):∀ k x,x<n->Br t x≠-2->pos (r::P) x<k->∃ q,upD t k (x:Int)=some q/\(∀ w:Int,w∈q↔∃ z:Nat,w=(z:Int)/\UpTo (Br t) x z) /\
  ∀ p:Int->Bool,(q.find? p=none/\∀ z:Nat,UpTo (Br t) x z->p (z:Int)=false)\/∃ f:Nat,q.find? p=some (f:Int)/\UpTo (Br t) x f/\p (f:Int)=true/\∀ z:Nat,UpTo (Br t) x z->p (z:Int)=true->UpTo (Br t) f z:=by
 intro k
 induction k with
 | zero=>omega
 | succ k ih=>
  intro x hx hp hk
  have hxt:(0:Int)<=(x:Int)/\(x:Int)<(t.length:Int):=by rw[h.len];omega
  unfold upD;rw[if_pos hxt,Ak];have hpx:t.getD x 0=Br t x:=rfl;rw[hpx];rcases h.inv.kind x hx with h1|rfl|⟨z,hz⟩
  ·exact absurd h1 hp
  ·rw[if_pos h.inv.top];refine⟨_,rfl,λw=>?_,λp=>?_⟩
   ·rw[zzL16]
    constructor
    ·rintro rfl;exact⟨x,rfl,.refl _⟩
    ·rintro⟨z,rfl,hz⟩;rw[h.inv.root_anc.1 hz]
   ·cases hpp:p (x:Int) with
    | false=>exact .inl ⟨by simp[List.find?,hpp],λz hz=>by rw[h.inv.root_anc.1 hz];exact hpp⟩
    | true=>exact .inr ⟨x,by simp[List.find?,hpp],.refl _,hpp,λz hz _=>hz⟩
  ·obtain⟨z1,z2,z3,z4⟩:=h.inv.up x hx z hz;rw[hz,if_neg (by omega)];obtain⟨q,hq1,hq2,hq3⟩:=ih z z1 z2 (by omega);rw[hq1];refine⟨(x:Int)::q,rfl,λw=>?_,λp=>?_⟩
   ·rw[zzL37,hq2 w]
    constructor
    ·rintro(rfl|⟨y,rfl,hy⟩)
     ·exact⟨x,rfl,.refl _⟩
     ·exact⟨y,rfl,.up hz hy⟩
    ·rintro⟨y,rfl,hy⟩;rcases(anc_up hz).1 hy with rfl|hy
     ·exact .inl rfl
     ·exact .inr ⟨y,rfl,hy⟩
   ·cases hpp:p (x:Int) with
    | true=>exact .inr ⟨x,by simp[List.find?,hpp],.refl _,hpp,λy hy _=>hy⟩
    | false=>
     have hf:((x:Int)::q).find? p=q.find? p:=by simp[List.find?,hpp]
     rw[hf];rcases hq3 p with⟨e1,e2⟩|⟨f,e1,e2,e3,e4⟩
     ·refine .inl ⟨e1,λy hy=>?_⟩;rcases(anc_up hz).1 hy with rfl|hy
      ·exact hpp
      ·exact e2 y hy
     ·refine .inr ⟨f,e1,.up hz e2,e3,λy hy hpy=>?_⟩;rcases(anc_up hz).1 hy with rfl|hy
      ·rw[hpp]at hpy;cases hpy
      ·exact e4 y hy hpy
theorem Ordered.pos_lt(o:Ordered S r n P){x:Nat}(hx:x∈r::P):pos (r::P) x<n:=by
 obtain⟨j,hj,rfl⟩:=Gr hx;rw[(OE o.nodup hj).2];have:=Tm n _ o.nodup λy hy=>o.lt hy;omega
theorem DomTree.path(h:DomTree S r n P t)(o:Ordered S r n P){x:Nat}(hx:x<n)(hp:Br t x≠-2):E8 t (x:Int)≠[]/\(∀ w:Int,w∈E8 t (x:Int)↔∃ z:Nat,w=(z:Int)/\UpTo (Br t) x z) /\
  ∀ p:Int->Bool,((E8 t (x:Int)).find? p=none/\∀ z:Nat,UpTo (Br t) x z->p (z:Int)=false)\/∃ f:Nat,(E8 t (x:Int)).find? p=some (f:Int)/\UpTo (Br t) x f/\p (f:Int)=true/\∀ z:Nat,UpTo (Br t) x z->p (z:Int)=true->UpTo (Br t) f z:=by
 have hm:=(o.mem x).2 (h.inv.rc x hx hp);obtain⟨q,h1,h2,h3⟩:=h.up n x hx hp (o.pos_lt hm)
 have e:E8 t x=q:=by unfold E8;rw[h.len,h1];rfl
 rw[e];refine⟨λe=>?_,h2,h3⟩;have:=(h2 _).2 ⟨x,rfl,.refl _⟩;rw[e]at this
 cases this
theorem DomTree.nopath(h:DomTree S r n P t){x:Nat}(hx:x<n)(hp:Br t x = -2):E8 t (x:Int)=[]:=by
 rw[pathD_nil]
 cases hl:t.length with
 | zero=>rfl
 | succ k=>
  unfold upD;rw[if_pos ⟨by omega,by rw[h.len];omega⟩,Ak,show t.getD x 0=Br t x from rfl,hp]
  cases k with
  | zero=>rfl
  | succ k =>   rfl
theorem DomTree.right(h:DomTree S r n P t)(o:Ordered S r n P):M2 t=true:=by
 unfold M2;rw[A5]
 constructor
 ·refine all_range.2 λx hx=>?_;rw[h.len]at hx;unfold pQ
  by_cases hp:Br t x = -2
  ·rw[show t.getD x 0=Br t x from rfl,hp];rfl
  ·rw[C9 (h.path o hx hp).1];simp
 ·apply Dr
  have key:∀ k,k<=n->topsK t k=if r<k then 1 else 0:=by
   intro k
   induction k with
   | zero=>intro _;rfl
   | succ k ih=>
    intro hk;rw[FU]
    have hr:t.getD k 0 = -1↔k=r:=by
     constructor
     ·intro he;rcases h.inv.kind k (by omega) with h1|h1|⟨z,hz⟩
      ·rw[show t.getD k 0=Br t k from rfl]at he;omega
      ·exact h1
      ·rw[show t.getD k 0=Br t k from rfl]at he;omega
     ·rintro rfl;exact h.inv.top
    by_cases hkr:k=r
    ·grind
    ·grind
  rw[h.len,key n (zzL6 _),if_pos o.hr]
theorem DomTree.meet(h:DomTree S r n P t)(o:Ordered S r n P){a b:Nat}(ha:a<n)(hb:b<n)(hpa:Br t a≠-2)(hpb:Br t b≠-2):∃ m:Nat,Re t (a:Int) (b:Int)=(m:Int)/\MeetAt (Br t) a b m/\m<n/\Br t m≠-2:=by
 have rd:Ready S r n P t _:=⟨h.inv,h.len,λx hx=>by rw[W1]at hx;exact h.full x (o.lt hx) ((o.mem x).1 hx)⟩;obtain⟨c,hc1,hc2,hc3⟩:=h.inv.meets (rd.inj o) dl _ a b (zzL6 _) ha hb hpa hpb;refine⟨c,?_,hc1,hc2,hc3⟩;unfold Re;rw[if_pos (h.right o)];obtain⟨hca,hcb⟩:=(hc1 c).1 (.refl _)
 have hin:∀ z:Nat,(E8 t _).contains z=true↔UpTo (Br t) b z:=λz=>by
  rw[zzL60,(h.path o hb hpb).2.1]
  constructor
  ·grind
  ·grind
 rcases(h.path o ha hpa).2.2 λx=>(E8 t b).contains x with⟨_,h2⟩|⟨f,h1,h2,h3,h4⟩
 ·grind
 ·rw[h1];have hfc:=h4 c hca ((hin c).2 hcb);have hcf:=(hc1 f).2 ⟨h2,(hin f).1 h3⟩;rw[h.inv.antisymm hcf hfc hc2 hc3]
  rfl
theorem DomTree.meet_none(h:DomTree S r n P t)(o:Ordered S r n P){a b:Nat}(ha:a<n)(hb:b<n)(hp:Br t a = -2\/Br t b = -2):Re t (a:Int) (b:Int) = -2:=by
 unfold Re;rw[if_pos (h.right o)];rcases hp with hp|hp
 ·rw[h.nopath ha hp];rfl
 ·rw[h.nopath hb hp]
  have:(E8 t a).find? (λx=>[].contains x)=none:=List.find?_eq_none.2 λx _=>by simp
  rw[this];rfl
theorem DomTree.over(h:DomTree S r n P t)(o:Ordered S r n P){a b:Nat}(ha:a<n)(hb:b<n):Lv t (a:Int) (b:Int)=true↔Br t b≠-2/\UpTo (Br t) b a:=by
 unfold Lv;rw[A5,zzL63,zzL101]
 by_cases hpa:Br t a = -2
 ·rw[h.meet_none o ha hb (.inl hpa)]
  constructor
  ·omega
  ·rintro⟨h1,h2⟩;exact absurd hpa (h.inv.anc h2 hb h1).2.1
 ·by_cases hpb:Br t b = -2
  ·rw[h.meet_none o ha hb (.inr hpb)]
   constructor
   ·omega
   ·grind
  ·obtain⟨m,hm1,hm2,hm3,hm4⟩:=h.meet o ha hb hpa hpb;rw[hm1]
   constructor
   ·rintro⟨h1,_⟩;have h1:=KK h1;subst h1;exact⟨hpb,((hm2 _).1 (.refl _)).2⟩
   ·rintro⟨_,h2⟩;have:=(hm2 a).2 ⟨.refl _,h2⟩;have h3:=((hm2 m).1 (.refl _)).1;rw[h.inv.antisymm h3 this ha hpa];exact⟨rfl,by omega⟩
theorem DomTree.over_dom(h:DomTree S r n P t)(o:Ordered S r n P){a b:Nat}(ha:a<n)(hb:b<n):Lv t (a:Int) (b:Int)=true↔Rc S r b/\¬ Av S r a b:=by
 rw[h.over o ha hb]
 constructor
 ·rintro⟨h1,h2⟩;exact⟨h.inv.rc b hb h1,(h.exact_ b hb h1 a).1 h2⟩
 ·rintro⟨h1,h2⟩;have:=h.full b hb h1;exact⟨this,(h.exact_ b hb this a).2 h2⟩
end
section
variable {L:List (List Int)} (hm:Mq L=true) {r:Nat} (hr:r<L.length)
include hm hr
theorem XX:∃ P,Ord (sN L) r (r::P)/\Ordered (sN L) r L.length P/\DomTree (sN L) r L.length P (Y6 L r):=by
 obtain⟨O,hO⟩:=Ord.exist (Wu hm) hr;obtain⟨P,rfl,o⟩:=hO.ordered hr (Wu hm);obtain⟨J,_,hJ⟩:=uz o;have hd:=MG o hJ;refine⟨P,hO,o,?_⟩;rw[<- hd.eq hm hr o];exact hd
end
theorem JG{X:Type}(n:Nat)(p:Nat->Bool)(f:Int->Option (LR Int X))(yes no:X)(hn:∀ i:Nat,i<n->p i=true->f (i:Int)=some (.next ((i:Int)+1)))
  (hf:∀ i:Nat,i<n->p i=false->f (i:Int)=some (.done no)) (he:f (n:Int)=some (.done yes)):Ac f (0:Int)=some (bif (List.range n).all p then yes else no):=by
 have hg:∀ i,i<(List.range n).length->(List.range n).getD i 0=i:=λi hi=>by grind
 have:=Hi (List.range n) 0 p f yes no (λi hi hp=>by grind) (λi hi hp=>by grind) (by simpa using he) n 0 (by simp);rw[show(0:Int)=(0:Nat) from rfl,this,Ob]
theorem fP{n:Nat}{p:Nat->Bool}(h:(List.range n).all p=true):∀ i,i<n->p i=true:=λi hi=>zzL27.1 h i (by simpa using hi)
def Q4(L:List (List Int)):List Bool:=HU (sN L) L.length ((List.replicate L.length false).set 0 true) L.length
def Jp(l:List Int)(p:Ba):Bool:=decide (p.From=l)&&((p.Args.length:Int)==(l.length:Int))
def K9(L:List (List Int))(b:Ae)(i:Nat):Bool:=(Q4 L).getD i false&&!((b.End.Kind==1 || b.End.Kind==3)&&(b.End.Arg !=0))&&b.Phis.all (Jp ((Cx L).getD i []))
def Fd(f:TFunc):Bool:=Gp f&&(List.range f.Blocks.length).all λi=>K9 (Az f) (f.Blocks.getD i default) i
theorem Ly(f:TFunc):(Az f).length=f.Blocks.length:=by simp[Az]
theorem dp(L:List (List Int)):(Q4 L).length=L.length:=by rw[Q4,Yf];simp
theorem sS{a b c d:Bool}{x:Option (LR Int (Unit ⊕ Bool))}:(bif (bif (!a) then true else(bif (bif b then true else c) then d else false)) then some (LR.done (Sum.inr false)) else x)=bif (a&&!((b || c)&&d)) then x else some (LR.done (Sum.inr false)):=by
 grind
theorem tG {f : TFunc} (hf : OkF f) : J0 f = some (Fd f) := by
  have hmax : f.Blocks.length ≤ maxLen := by have := hf.blocks; have : (64 : Nat) ≤ maxLen := by decide
                                             omega
  unfold J0 Fd; rw [QG f hmax, An]
  cases hs : Gp f with
  | false => rfl
  | true =>
    have hm := Jq hs; have hlen := Ly f; obtain ⟨h1, h2⟩ := Tl hm
    have hpos : 0 < (Az f).length := by have := (shape_iff.1 hs).1.1; omega
    simp only [Ah, Mu]; have hr := tE hm hpos; rw [show (((0 : Nat) : Int)) = 0 from rfl] at hr; rw [hr, An]
    show ((Ac (Fo f (J4 (Az f), 0) (Q4 (Az f))) 0).bind _) = _
    have hphi : ∀ i, i < f.Blocks.length → Ac _ (0 : Int) = some _ := fun i hi => by
      have hmem := Ag (d := (default : Ae)) hi; have hB := hf.block _ hmem
      have hpl : (J4 (Az f)).Pred.length = f.Blocks.length := by rw [← hlen]; exact Pt _
      have hpi : A1 (i : Int) (J4 (Az f)).Pred.length := Ai (by omega)
      have key : ∀ j, j < (f.Blocks.getD i default).Phis.length → Fn f (J4 (Az f), 0) (i : Int) (j : Int) = some (bif Jp ((Cx (Az f)).getD i []) _ then .next ((j : Int) + 1) else .done (.inr false)) := fun j hj => by
        have hp := QZ hf hmem (Ag (d := (default : Ba)) hj); unfold Fn
        have hd : decide ((j : Int) < ((f.Blocks.getD i default).Phis.length : Int)) = true := by simpa using hj
        have hi1 := f8 ((f.Blocks.getD i default).Phis.getD j default).From ((J4 (Az f)).Pred.getD i []) (by omega); simp only [Dy, hd, Ah, Aa (Ai hj), Aa hpi, hi1, An]; rw [Aa (fun _ => Ai hj), Aa (fun _ => hpi), A6 hj (by have := hB.phis; omega)]; unfold Jp
        show (bif (bif (!decide (((f.Blocks.getD i default).Phis.getD j default).From = (Cx (Az f)).getD i [])) then true else ((((f.Blocks.getD i default).Phis.getD j default).Args.length : Int) != (((Cx (Az f)).getD i []).length : Int))) then _ else _) = _
        cases decide (((f.Blocks.getD i default).Phis.getD j default).From = (Cx (Az f)).getD i []) with
        | false => rfl
        | true =>
          grind
      have := Hi (f.Blocks.getD i default).Phis (default : Ba) (Jp ((Cx (Az f)).getD i [])) (Fn f (J4 (Az f), 0) (i : Int)) (.inl ()) (.inr false) (fun j hj hp => by rw [key j hj, hp]; rfl) (fun j hj hp => by rw [key j hj, hp]; rfl) (by unfold Fn; simp) (f.Blocks.getD i default).Phis.length 0 (by omega); rw [Ob] at this; exact this
    have hrl := dp (Az f)
    have key : ∀ i, i < f.Blocks.length → Fo f (J4 (Az f), 0) (Q4 (Az f)) (i : Int) = some (bif K9 (Az f) (f.Blocks.getD i default) i then .next ((i : Int) + 1) else .done (.inr false)) := fun i hi => by
      unfold Fo
      have hd : decide ((i : Int) < (f.Blocks.length : Int)) = true := by simpa using hi
      simp only [hd, Ah, Aa (Ai hi), Aa (Ai (show i < (Q4 (Az f)).length by omega)), Dy, sS, hphi i hi, An, A6 hi (by have := hf.blocks; omega)]; unfold K9
      cases ((Q4 (Az f)).getD i false && !(((f.Blocks.getD i default).End.Kind == 1 || (f.Blocks.getD i default).End.Kind == 3) && ((f.Blocks.getD i default).End.Arg != 0))) with
      | false => rfl
      | true => grind
    rw [JG f.Blocks.length (fun i => K9 (Az f) (f.Blocks.getD i default) i) _ (.inl ()) (.inr false) (fun i hi hp => by rw [key i hi, hp]; rfl) (fun i hi hp => by rw [key i hi, hp]; rfl) (by unfold Fo; simp)]
    cases (List.range f.Blocks.length).all _ <;> rfl
theorem XV{f:TFunc}(h:Fd f=true):jo f:=λb hb p hp=>by
 simp only[Fd,A5]at h;obtain⟨i,hi,rfl⟩:=Gr hb;have h1:=fP h.2 i hi;rw[Ab _ _ _ hi]at h1;simp only[K9,A5]at h1;have h2:=zzL27.1 h1.2 p hp;simp only[Jp,A5,Fz,zzL63]at h2;rw[h2.1];omega
def Rf(l:List Bx)(i:Nat):Bool:=valS (l.getD i default).V&&(Lr l (l.getD i default).V==(i:Int))
def K2(l:List Bx)(u:Cm):Bool:=!decide (Lr l u.V<0)
def defOf(l:List Bx)(v:Int):Bx:=l.getD (Lr l v).toNat default
def U3(l:List Bx)(u:Cm):Bool:=((defOf l u.V).Shape.1==u.Shape.1)&&(((defOf l u.V).Shape.2==u.Shape.2)&&true)
def U2(l:List Bx)(t:List Int)(u:Cm):Bool:=
 (decide ((defOf l u.V).Block<0) || ((defOf l u.V).Block==u.Block&&decide ((defOf l u.V).At<u.At))) || (!((defOf l u.V).Block==u.Block)&&!(Re t (defOf l u.V).Block u.Block !=(defOf l u.V).Block))
def B6(f:TFunc):List Int:=MH (J4 (Az f)) 0
def SG(f:TFunc)(l:Int):Int:=
 bif !Fd f then 5 else bif !N7 f l then 6 else bif !(List.range (Aw f).length).all (Rf (Aw f)) then 7 else bif !(Bf f).all (K2 (Aw f)) then 7 else
 bif !(Bf f).all (U3 (Aw f)) then 6 else bif !(Bf f).all (U2 (Aw f) (B6 f)) then 7 else 0
def Em(f:TFunc)(l:Int):Int:=bif decide (l<0) || decide (2<l) then 1 else bif !Qz f then 4 else SG f l
theorem PM{l:List Bx}{v:Int}(h:¬ Lr l v<0):A1 (Lr l v) l.length:=by
 unfold Lr at h ⊢
 cases hx:l.findIdx? _ with
 | none=>grind
 | some i=>
  obtain⟨hi,_⟩:=List.findIdx?_eq_some_iff_getElem.1 hx;exact Ai hi
theorem eH{f:TFunc}(h:Gp f=true):(B6 f).length<=1000:=by
 have h1:=(Tl (Jq h)).1;unfold B6 MH
 split
 ·rw[XY];show(Az f).length<=1000;omega
 ·simp
theorem sl(a b c:Bool)(m q x:Int):(Option.bind (α:=Unit ⊕ Int) (bif (bif a then true else(bif b then c else false)) then some (.inl ()) else((bif (b==false) then some m else some 0).bind λx31=>(bif (bif b then true else(x31 !=q)) then some (.inr 7) else some (.inl ())))) (λx32=>match x32 with | .inl _=>some (LR.next x) | .inr r34=>some (.done (.inr r34)))) =
  (some (bif (a || (b&&c)) || (!b&&!(m !=q)) then .next x else .done (.inr 7)):Option (LR Int (Unit ⊕ Int))):=by
 grind
theorem tI {f : TFunc} (hf : OkF f) (l : Int) (hm : Iw f = some (Qz f)) : D7 f l = some (Em f l) := by
  unfold D7 Em; rw [show (bif decide (l < (0 : Int)) then true else decide ((2 : Int) < l)) = (decide (l < 0) || decide (2 < l)) by cases decide (l < (0 : Int)) <;> rfl]
  cases (decide (l < 0) || decide (2 < l)) with
  | true => rfl
  | false =>
  simp only [Au, hm, An]
  cases Qz f with
  | false => rfl
  | true =>
  simp only [D6, Au, tG hf, An, SG]
  cases hs : Fd f with
  | false => rfl
  | true =>
  simp only [D6, Au, tH hf, An]
  cases ht : N7 f l with
  | false => rfl
  | true =>
  simp only [D6, Au, wZ hf, An]; have hdl := lK hf; have hul := KC hf
  have hL1 : Ac (S := Int) (X := (Unit ⊕ Int)) (Fm (Aw f)) (0 : Int) = some (bif (List.range (Aw f).length).all (Rf (Aw f)) then .inl () else .inr 7) := by
    have key : ∀ i, i < (Aw f).length → Fm (Aw f) (i : Int) = some (bif Rf (Aw f) i then .next ((i : Int) + 1) else .done (.inr 7)) := fun i hi => by
      unfold Fm Rf
      have hd : decide ((i : Int) < ((Aw f).length : Int)) = true := by simpa using hi
      simp only [hd, Ah, Aa (Ai hi), Dy, DQ, An, Aa (fun _ => Ai hi), ab (Aw f) _ (by omega), A6 hi (by omega)]
      cases valS ((Aw f).getD i default).V with
      | false => rfl
      | true =>
        grind
    exact JG _ _ _ _ _ (fun i hi hp => by rw [key i hi, hp]; rfl) (fun i hi hp => by rw [key i hi, hp]; rfl) (by unfold Fm; simp)
  rw [hL1, An]
  cases (List.range (Aw f).length).all (Rf (Aw f)) with
  | false => rfl
  | true =>
  simp only [Ah, D6, Au, wc hf (XV hs), An]
  have hL2 : Ac (S := Int) (X := (Unit ⊕ Int)) (D2 (Aw f) (Bf f)) (0 : Int) = some (bif (Bf f).all (K2 (Aw f)) then .inl () else .inr 7) := by
    have key : ∀ i, i < (Bf f).length → D2 (Aw f) (Bf f) (i : Int) = some (bif K2 (Aw f) ((Bf f).getD i default) then .next ((i : Int) + 1) else .done (.inr 7)) := fun i hi => by
      unfold D2 K2
      have hd : decide ((i : Int) < ((Bf f).length : Int)) = true := by simpa using hi
      simp only [hd, Ah, Aa (Ai hi), Dy, ab (Aw f) _ (by omega), An, A6 hi (by omega)]
      cases decide (Lr (Aw f) ((Bf f).getD i default).V < 0) <;> rfl
    have := Hi (Bf f) default (K2 (Aw f)) (D2 (Aw f) (Bf f)) (.inl ()) (.inr 7) (fun i hi hp => by rw [key i hi, hp]; rfl) (fun i hi hp => by rw [key i hi, hp]; rfl) (by unfold D2; simp) (Bf f).length 0 (by omega); rw [Ob] at this; exact this
  rw [hL2, An]
  cases hF : (Bf f).all (K2 (Aw f)) with
  | false => rfl
  | true =>
  have hfound : ∀ i, i < (Bf f).length → A1 (Lr (Aw f) ((Bf f).getD i default).V) (Aw f).length := fun i hi => by
    have := zzL27.1 hF _ (Ag (d := (default : Cm)) hi); simp only [K2, Y9, SK] at this; exact PM this
  simp only [Ah, D6, Au]
  have hL3 : Ac (S := Int) (X := (Unit ⊕ Int)) (D3 (Aw f) (Bf f)) (0 : Int) = some (bif (Bf f).all (U3 (Aw f)) then .inl () else .inr 6) := by
    have key : ∀ i, i < (Bf f).length → D3 (Aw f) (Bf f) (i : Int) = some (bif U3 (Aw f) ((Bf f).getD i default) then .next ((i : Int) + 1) else .done (.inr 6)) := fun i hi => by
      unfold D3 U3 defOf
      have hd : decide ((i : Int) < ((Bf f).length : Int)) = true := by simpa using hi
      simp only [hd, Ah, Aa (Ai hi), Dy, ab (Aw f) _ (by omega), An, Aa (hfound i hi), A6 hi (by omega)]
      cases ((((Aw f).getD (Lr (Aw f) ((Bf f).getD i default).V).toNat default).Shape.1 == ((Bf f).getD i default).Shape.1) && ((((Aw f).getD (Lr (Aw f) ((Bf f).getD i default).V).toNat default).Shape.2 == ((Bf f).getD i default).Shape.2) && true)) <;> rfl
    have := Hi (Bf f) default (U3 (Aw f)) (D3 (Aw f) (Bf f)) (.inl ()) (.inr 6) (fun i hi hp => by rw [key i hi, hp]; rfl) (fun i hi hp => by rw [key i hi, hp]; rfl) (by unfold D3; simp) (Bf f).length 0 (by omega); rw [Ob] at this; exact this
  rw [hL3, An]
  cases (Bf f).all (U3 (Aw f)) with
  | false => rfl
  | true =>
  have hsB : Gp f = true := by simp only [Fd, A5] at hs; exact hs.1
  have hmax : f.Blocks.length ≤ maxLen := by have := hf.blocks; have : (64 : Nat) ≤ maxLen := by decide
                                             omega
  simp only [Ah, D6, Au, QG f hmax, hsB, An]; rw [gD _ (HC (Jq hsB)).1 0, An]; have htl := eH hsB
  have hL4 : Ac (S := Int) (X := (Unit ⊕ Int)) (C2 (Aw f) (Bf f) (B6 f)) (0 : Int) = some (bif (Bf f).all (U2 (Aw f) (B6 f)) then .inl () else .inr 7) := by
    have key : ∀ i, i < (Bf f).length → C2 (Aw f) (Bf f) (B6 f) (i : Int) = some (bif U2 (Aw f) (B6 f) ((Bf f).getD i default) then .next ((i : Int) + 1) else .done (.inr 7)) := fun i hi => by
      unfold C2 U2 defOf
      have hd : decide ((i : Int) < ((Bf f).length : Int)) = true := by simpa using hi
      simp only [hd, Ah, Aa (Ai hi), Dy, ab (Aw f) _ (by omega), An, Aa (hfound i hi), A6 hi (by omega), wa (B6 f) htl]; exact sl _ _ _ _ _ _
    have := Hi (Bf f) default (U2 (Aw f) (B6 f)) (C2 (Aw f) (Bf f) (B6 f)) (.inl ()) (.inr 7) (fun i hi hp => by rw [key i hi, hp]; rfl) (fun i hi hp => by rw [key i hi, hp]; rfl) (by unfold C2; simp) (Bf f).length 0 (by omega); rw [Ob] at this; exact this
  show ((Ac (C2 (Aw f) (Bf f) (B6 f)) 0).bind _) = _
  rw [hL4, An]
  cases (Bf f).all (U2 (Aw f) (B6 f)) <;> rfl
def grow(n d:Int):Int:=bif decide (n<d) then d else n
def Sm(f:TFunc):Prop:=YS f/\C6 f=some true
theorem jt{f:TFunc}(h:Sm f)(hm:Qz f=true):OkF f:=by
 obtain⟨sm,h1,h2⟩:=MF f h.1;rw[h.2]at h1;exact(h2 (OI h1).symm hm).1
theorem lb{f:TFunc}(hf:YS f):∃ b,D8 f=some b/\(b=true->Sm f):=by
 obtain⟨x,hx⟩:∃ x,Ac _ ((0:Int),(0:Int))=some x:=by
  refine Tt f.Blocks.length (Ce f) (λn i hi=>.inl ?_) (λn=>?_) f.Blocks.length 0 0 (by omega)
  ·unfold Ce
   have hd:decide (i<(f.Blocks.length:Int))=true:=by simpa using hi
   simp only[hd, Aa (Ai hi),K5 hi hf.blocks];exact⟨_,rfl⟩
  ·unfold Ce;exact⟨n,by simp⟩
 obtain⟨sm,h1⟩:=RZ f hf;unfold D8;rw[hx, h1];refine⟨_,rfl,λhb=>⟨hf,?_⟩⟩
 cases sm with
 | true=>exact h1
 | false=>cases hb
theorem dD{f:TFunc}(h:Sm f)(l:Int):D7 f l=some (Em f l):=by
 have hm:=tx f h.1
 cases hb:Qz f with
 | true=>exact tI (jt h hb) l hm
 | false=>
  unfold D7 Em;rw[show(bif decide _ then true else decide _)=(decide (l<0) || decide (2<l)) by grind]
  cases(decide (l<0) || decide (2<l)) with
  | true=>rfl
  | false=>grind
structure yH(f:TFunc)(s:List (Int×(Int×Int))):Prop where
 none:Em f 2≠0->s.length=0
 len:Em f 2=0->s.length=(Aw f).length
 get:Em f 2=0->∀ d∈Aw f,Fx ((0:Int),(0:Int)) s d.V=d.Shape
 has:Em f 2=0->∀ v,Ed s v=true->∃ d∈Aw f,d.V=v
theorem zJ{f:TFunc}(hf:YS f)(h0:f.Params.length<=64)(hb:∀ b∈f.Blocks,b.End.To.length<=64/\(∀ p∈b.Phis,p.From.length<=64/\p.Args.length<=64)/\∀ o∈b.Ops,o.Args.length<=64)(he:fe f<=20000):Sm f:=
 ⟨hf,by rw[eC f hf h0 hb,Dr he]⟩
def XO(f:TFunc):Int:=
 bif !(List.range (Aw f).length).all (Rf (Aw f)) then 7 else bif !(Bf f).all (K2 (Aw f)) then 7 else
 bif !(Bf f).all (U3 (Aw f)) then 6 else bif !(Bf f).all (U2 (Aw f) (B6 f)) then 7 else 0
theorem PB{f:TFunc}{l:Int}(h0:0<=l)(h2:l<=2):Em f l=0↔Qz f=true/\Fd f=true/\N7 f l=true/\XO f=0:=by
 unfold Em SG;rw[C9 (show ¬ l<0 by omega),C9 (show ¬ 2<l by omega)]
 have e:(bif !(List.range _).all _ then 7 else bif !(Bf f).all _ then 7 else
  bif !(Bf f).all _ then 6 else bif !(Bf f).all _ then 7 else 0)=XO f:=rfl
 rw[e]
 cases Qz f<;>cases Fd f<;>cases N7 f l<;>simp
theorem o8{o:B2}(h:Gs o=true):1<=o.Lanes:=by
 simp only[Gs,A5]at h;have:=shape_lanes h.1.1;omega
theorem uA{α:Type}(l:List α)(g:α->Nat):(l.map λa=>g a+1).sum=l.length+(l.map g).sum:=by
 induction l with
 | nil=>rfl
 | cons a l ih=>grind
theorem qM(a b:Int):w64 (a+w64 b)=w64 (a+b):=by rw[Int.add_comm,Vb,Int.add_comm]
theorem u3(f:TFunc)(hf:YS f):Ha f=some (sizeW f):=by
 have hl:=DJ f.Blocks default (λb=>b.Phis.length+b.Ops.length) id (Qn f) (λn i hi=>?_) (λn=>?_) _ 0 f.Blocks.length (F0 _)
 ·unfold Ha;rw[Yn (by have:=hf.blocks;rw[Px]at this;omega),show((0:Nat):Int)=0 from rfl]at hl;rw[hl,  sizeW,sizeN,show Dm=(λb=>(b.Phis.length+b.Ops.length)+1) from rfl,uA]
  rfl
 ·have e1:decide (i<(f.Blocks.length:Int))=true:=Dr (by omega);unfold Qn;simp only[e1,Ah,Aa (Ai hi),Dy,K5 hi hf.blocks,qM,Vb];rw[show n+((f.Blocks.getD i default).Phis.length+(f.Blocks.getD i default).Ops.length)=((n+((f.Blocks.getD i default).Phis.length+(f.Blocks.getD i default).Ops.length):Nat):Int) by omega]
 ·have e1:decide (f.Blocks.length<(f.Blocks.length:Int))=false:=by simp
  unfold Qn;simp only[e1,Au,id]
theorem GP{α:Type}(l:List α)(d:α)(p:α->Bool)(f:Int->Option (LR Int (Unit ⊕ Bool)))(hn:∀ i:Nat,i<l.length->f i=bif p (l.getD i d) then some (.next ((i:Int)+1)) else some (.done (.inr false)))
  (he:f l.length=some (.done (.inl ()))):Ac f 0=some (bif l.all p then .inl () else .inr false):=by
 have:=Hi l d p f _ _ (λi hi hp=>by rw[hn i hi,hp];rfl) (λi hi hp=>by rw[hn i hi,hp];rfl) he _ 0 (F0 _)
 simpa using this
theorem ll(x:Int):(bif decide (x<0) then true else decide (2147483647<x)) = !numB x:=by
 unfold numB
 by_cases h1:x<0
 ·grind
 ·grind
theorem YD(l:List Int)(h:l.length<=maxLen):D9 l=some (l.all numB):=by
 have hl:=GP l 0 numB (Kj l) (λi hi=>?_) ?_
 ·unfold D9;rw[hl]
  cases l.all _<;>rfl
 ·have e1:decide ((i:Int)<l.length)=true:=Dr (by omega);unfold Kj;simp only[e1, Aa (Ai hi),Dy,ll,K5 hi h]
  cases numB _<;>simp
 ·unfold Kj
  simp
theorem DV(l:List Int)(h:l.length<=maxLen):Ir l=some (listB l):=by
 unfold Ir;rw[YD l h]
 by_cases h1:l.length<=64
 ·have e1:decide ((l.length:Int)<=64)=true:=Dr (by omega);rw[e1];simp[listB,h1]
 ·have e1:decide ((l.length:Int)<=64)=false:=C9 (by omega);rw[e1];simp[listB,h1]
theorem DT{l:List Int}(h:l.length<=10):l.length<=maxLen:=by rw[Px];omega
theorem qU(p:Ba)(h1:p.From.length<=maxLen)(h2:p.Args.length<=maxLen):Qp p=some (FN p):=by
 unfold Qp FN;rw[YD _ (DT (by simp)),DV _ h1,DV _ h2];simp only[V3,List.all_nil,SR]
 cases numB p.Bits<;>cases numB p.Dst<;>cases listB p.From<;>cases listB p.Args<;>rfl
theorem uJ(o:B2)(h1:o.Args.length<=maxLen):R4 o=some (eg o):=by
 unfold R4 eg;rw[YD _ (DT (by simp)),DV _ h1];simp only[V3,List.all_nil,SR]
 cases numB o.Kind<;>cases numB o.Bits<;>cases numB o.Lanes<;>cases numB o.Dst<;>cases listB o.Args<;>rfl
theorem qR(e:Kb)(h1:e.To.length<=maxLen):Qo e=some (cW e):=by
 unfold Qo cW;rw[YD _ (DT (by simp)),DV _ h1];simp only[V3,List.all_nil,SR]
 cases numB e.Kind<;>cases numB e.Arg<;>cases listB e.To<;>rfl
theorem QR{X:Type}(b:Bool)(x y:X):(bif !b then x else y)=bif b then y else x:=by cases b<;>rfl
theorem mP(l:List Ba)(hl:l.length<=maxLen)(h:∀ p∈l,p.From.length<=maxLen/\p.Args.length<=maxLen):Jx l=some (l.all FN):=by
 have hl':=GP l (default:Ba) FN (Hw l) (λi hi=>?_) ?_
 ·unfold Jx;rw[hl']
  cases l.all FN<;>rfl
 ·have e1:decide ((i:Int)<(l.length:Int))=true:=Dr (by omega);have:=h _ (Ag (d:=(default:Ba)) hi);unfold Hw;simp only[e1,Ah,Aa (Ai hi),Dy,qU _ this.1 this.2,An,QR,K5 hi hl,Int.natCast_add,Int.natCast_one]
 ·unfold Hw
  simp
theorem qT(l:List B2)(hl:l.length<=maxLen)(h:∀ o∈l,o.Args.length<=maxLen):Ki l=some (l.all eg):=by
 have hl':=GP l (default:B2) eg (Ig l) (λi hi=>?_) ?_
 ·unfold Ki;rw[hl']
  cases l.all eg<;>rfl
 ·have e1:decide ((i:Int)<(l.length:Int))=true:=Dr (by omega);have:=h _ (Ag (d:=(default:B2)) hi);unfold Ig;simp only[e1,Ah,Aa (Ai hi),Dy,uJ _ this,An,QR,K5 hi hl,Int.natCast_add,Int.natCast_one]
 ·unfold Ig
  simp
theorem hZ(b:Ae)(h1:b.Phis.length<=maxLen)(h2:b.Ops.length<=maxLen)(h3:b.End.To.length<=maxLen)(h4:∀ p∈b.Phis,p.From.length<=maxLen/\p.Args.length<=maxLen)(h5:∀ o∈b.Ops,o.Args.length<=maxLen):Oe b=some (blockB b):=by
 unfold Oe blockB;rw[mP _ h1 h4,qT _ h2 h5,qR _ h3]
 cases b.Phis.all FN<;>cases b.Ops.all eg<;>cases cW b.End<;>rfl
theorem eM(f:TFunc)(hf:YS f):Ie f.Blocks=some (f.Blocks.all blockB):=by
 have hl':=GP f.Blocks (default:Ae) blockB (Gx f.Blocks) (λi hi=>?_) ?_
 ·unfold Ie;rw[hl']
  cases f.Blocks.all blockB<;>rfl
 ·have e1:decide ((i:Int)<(f.Blocks.length:Int))=true:=Dr (by omega);have hm:=Ag (d:=(default:Ae)) hi;have q:=hf.block _ hm;unfold Gx;simp only[e1,Ah,Aa (Ai hi),Dy,hZ _ q.1 q.2.1 q.2.2 (hf.phi _ hm) (λo ho=>(hf.op _ hm o ho).1),An,QR,K5 hi hf.blocks,Int.natCast_add,Int.natCast_one]
 ·unfold Gx
  simp
theorem Aan(f:TFunc)(hf:YS f):Xu f=some (Qz f):=by
 unfold Xu Qz;rw[u3 f hf,YD _ hf.params,YD _ (DT (by simp)),eM f hf];simp only[V3,List.all_nil,SR,listB]
 have d1:∀ n:Nat,decide ((n:Int)<1) = !decide (1<=n):=λn=>by by_cases h:1<=n<;>simp[h]<;>omega
 have d2:∀ n:Nat,decide ((64:Int)<(n:Int)) = !decide (n<=64):=λn=>by by_cases h:n<=64<;>simp[h]<;>omega
 have d3:∀ n:Nat,decide ((16:Int)<(n:Int)) = !decide (n<=16):=λn=>by by_cases h:n<=16<;>simp[h]<;>omega
 have d4:∀ n:Int,decide ((512:Int)<n) = !decide (n<=512):=λn=>by by_cases h:n<=512<;>simp[h]<;>omega
 simp only[d1,d2,d3,d4]
 have himp:decide (f.Params.length<=16)=true->decide (f.Params.length<=64)=true:=λh=>by simp at h ⊢;omega
 revert himp
 generalize decide (1<=f.Blocks.length)=c1
 generalize decide (f.Blocks.length<=64)=c2
 generalize decide (f.Params.length<=16)=c3
 generalize decide (f.Params.length<=64)=c4
 generalize f.Params.all numB=c6
 generalize numB f.Ret=c7
 generalize f.Blocks.all blockB=c8
 cases c3 with
 | true=>
  intro h;obtain rfl:=h rfl;simp only[D6,Ve,Ah,An,Au]
  generalize decide (sizeW f<=512)=c5
  cases c1<;>cases c2<;>cases c6<;>cases c7<;>cases c8<;>cases c5<;>rfl
 | false=>
  intro _
  cases c1<;>cases c2<;>rfl
inductive Tp (t:List Int):Nat->Nat->Nat->Prop
 | top {x:Nat} (hx:x<t.length) (h:t.getD x 0 = -1):Tp t x x 0
 | up {x y r k:Nat} (hx:x<t.length) (h:t.getD x 0=(y:Int)) (hk:Tp t y r k):Tp t x r (k+1)
section
variable {t:List Int}
theorem Tp.lt{x r k:Nat}(h:Tp t x r k):x<t.length:=by cases h<;>assumption
theorem Tp.tops{x r k:Nat}(h:Tp t x r k):r<t.length/\t.getD r 0 = -1:=by
 induction h with
 | top hx h=>exact⟨hx,h⟩
 | up _ _ _ ih=>exact ih
theorem Tp.det{x r k r' k':Nat}(h:Tp t x r k)(h':Tp t x r' k'):r=r'/\k=k':=by
 induction h generalizing k' with
 | top hx h=>cases h' with
  | top=>exact⟨rfl,rfl⟩
  | up _ h2 _=>omega
 | up hx h1 _ ih=>cases h' with
  | top _ h2=>omega
  | up _ h2 k2=>
   grind
theorem Tp.upTo{x r k:Nat}(h:Tp t x r k):UpTo (Br t) x r:=by
 induction h with
 | top=>exact .refl _
 | up _ h _ ih=>exact .up h ih
theorem Tp.on{x r k z:Nat}(h:Tp t x r k)(hz:UpTo (Br t) x z):∃ j,j<=k/\Tp t z r j/\(j=k->z=x):=by
 induction hz generalizing k with
 | refl x=>grind
 | up hp _ ih=>
  cases h with
  | top _ h2=>have :=hp.symm.trans h2;omega
  | up _ h2 k2=>
   have :=hp.symm.trans h2
   cases KK this
   obtain⟨j,h1,h3,_⟩:=ih k2;exact⟨j,by omega,h3,λe=>by omega⟩
theorem Tp.anti{x r k z:Nat}(h:Tp t x r k)(h1:UpTo (Br t) x z)(h2:UpTo (Br t) z x):z=x:=by
 obtain⟨j,j1,j2,j3⟩:=h.on h1;obtain⟨i,i1,i2,i3⟩:=j2.on h2;have:=h.det i2;exact j3 (by omega)
theorem Tp.list{x r k:Nat}(h:Tp t x r k):∃ l:List Nat,l.length=k+1/\l.Nodup/\∀ y∈l,y<t.length/\∃ j,j<=k/\Tp t y r j:=by
 induction h with
 | top hx h=>exact⟨[_],rfl,by simp,λy hy=>by rw[zzL16.1 hy];exact⟨hx,0,zzL6 _,.top hx h⟩⟩
 | @up x y r k hx h hk ih=>
  obtain⟨l,h1,h2,h3⟩:=ih;refine⟨x::l,by simp[h1],zzL113.2 ⟨λhm=>?_,h2⟩,λz hz=>?_⟩
  ·obtain⟨_,j,hj,hj2⟩:=h3 _ hm;have:=(Tp.up hx h hk).det hj2;omega
  ·rcases zzL37.1 hz with rfl|hz
   ·exact⟨hx,k+1,zzL6 _,.up hx h hk⟩
   ·grind
theorem Tp.short{x r k:Nat}(h:Tp t x r k):k<t.length:=by
 obtain⟨l,h1,h2,h3⟩:=h.list;have:=Tm _ l h2 λy hy=>(h3 y hy).1;omega
theorem Tp.upD{x r k:Nat}(h:Tp t x r k):∀ m,k<m->∃ q,upD t m (x:Int)=some q/\(∀ w:Int,w∈q↔∃ z:Nat,w=(z:Int)/\UpTo (Br t) x z) /\
  ∀ p:Int->Bool,(q.find? p=none/\∀ z:Nat,UpTo (Br t) x z->p (z:Int)=false)\/∃ f:Nat,q.find? p=some (f:Int)/\UpTo (Br t) x f/\p (f:Int)=true/\∀ z:Nat,UpTo (Br t) x z->p (z:Int)=true->UpTo (Br t) f z:=by
 induction h with
 | @top x hx h=>
  intro m hm;obtain⟨m,rfl⟩:∃ i,m=i+1:=⟨m-1,by omega⟩
  have htop:∀ z,UpTo (Br t) x z↔z=x:=λz=>NO λp hp=>by have:_=_:=hp.symm.trans h;omega
  unfold Go.Proofs.YtfhggcbcamamdaaGreat.upD;rw[if_pos ⟨by omega,by omega⟩,Ak,if_pos h];refine⟨_,rfl,λw=>?_,λp=>?_⟩
  ·grind
  ·grind
 | @up x y r k hx h hk ih=>
  intro m hm;obtain⟨m,rfl⟩:∃ i,m=i+1:=⟨m-1,by omega⟩;unfold Go.Proofs.YtfhggcbcamamdaaGreat.upD;rw[if_pos ⟨by omega,by omega⟩,Ak,if_neg (by omega),h];obtain⟨q,hq1,hq2,hq3⟩:=ih m (by omega);rw[hq1];refine⟨(x:Int)::q,rfl,λw=>?_,λp=>?_⟩
  ·rw[zzL37,hq2 w]
   constructor
   ·rintro(rfl|⟨y,rfl,hy⟩)
    ·exact⟨x,rfl,.refl _⟩
    ·exact⟨y,rfl,.up h hy⟩
   ·rintro⟨y,rfl,hy⟩;rcases(anc_up h).1 hy with rfl|hy
    ·exact .inl rfl
    ·exact .inr ⟨y,rfl,hy⟩
  ·cases hpp:p (x:Int) with
   | true=>exact .inr ⟨x,by simp[List.find?,hpp],.refl _,hpp,λy hy _=>hy⟩
   | false=>
    have hf:((x:Int)::q).find? p=q.find? p:=by simp[List.find?,hpp]
    rw[hf];rcases hq3 p with⟨e1,e2⟩|⟨f,e1,e2,e3,e4⟩
    ·refine .inl ⟨e1,λy hy=>?_⟩;rcases(anc_up h).1 hy with rfl|hy
     ·exact hpp
     ·exact e2 y hy
    ·refine .inr ⟨f,e1,.up h e2,e3,λy hy hpy=>?_⟩;rcases(anc_up h).1 hy with rfl|hy
     ·rw[hpp]at hpy;cases hpy
     ·exact e4 y hy hpy
theorem wu:∀ m (a:Int) q,upD t m a=some q->∃ x r k:Nat,a=(x:Int)/\k<m/\Tp t x r k:=by
 intro m
 induction m with
 | zero=>intro a q h;cases h
 | succ m ih=>
  intro a q h;unfold Go.Proofs.YtfhggcbcamamdaaGreat.upD at h
  by_cases ha:0<=a/\a<t.length
  ·rw[if_pos ha]at h;have e :=Y8 ha.1
   by_cases h1:t.getD a.toNat 0 = -1
   ·exact⟨a.toNat,a.toNat,0,e.symm,by omega,.top (by omega) h1⟩
   ·rw[if_neg h1]at h
    cases hu:Go.Proofs.YtfhggcbcamamdaaGreat.upD t m _ with
    | none=>rw[hu]at h;cases h
    | some q'=>
     obtain⟨y,r,k,e1,e2,e3⟩:=ih _ _ hu;exact⟨a.toNat,r,k+1,e.symm,by omega,.up (by omega) e1 e3⟩
  ·grind
theorem pathD_tp{a:Int}:E8 t a≠[]↔∃ x r k:Nat,a=(x:Int)/\Tp t x r k:=by
 constructor
 ·intro h
  cases hu:upD t _ a with
  | none=>exact absurd (pathD_nil.2 hu) h
  | some q=>obtain⟨x,r,k,e1,_,e2⟩:=wu _ _ _ hu;exact⟨x,r,k,e1,e2⟩
 ·rintro⟨x,r,k,rfl,h⟩ e;obtain⟨q,hq,_⟩:=h.upD _ h.short;rw[pathD_nil.1 e]at hq;cases hq
theorem Tp.path{x r k:Nat}(h:Tp t x r k):(∀ w:Int,w∈E8 t (x:Int)↔∃ z:Nat,w=(z:Int)/\UpTo (Br t) x z) /\
  ∀ p:Int->Bool,((E8 t (x:Int)).find? p=none/\∀ z:Nat,UpTo (Br t) x z->p (z:Int)=false)\/∃ f:Nat,(E8 t (x:Int)).find? p=some (f:Int)/\UpTo (Br t) x f/\p (f:Int)=true/\∀ z:Nat,UpTo (Br t) x z->p (z:Int)=true->UpTo (Br t) f z:=by
 obtain⟨q,h1,h2,h3⟩:=h.upD _ h.short
 have e:E8 t x=q:=by unfold E8;rw[h1];rfl
 rw[e];exact⟨h2,h3⟩
theorem PN{α:Type}{l:List α}{i j:Nat}{x d:α}(hi:i<l.length):(l.set i x).getD j d=if j=i then x else l.getD j d:=by
 grind
theorem tK{x r k:Nat}(h:Tp t x r k):∀ l:List Bool,l.length=t.length->∃ l',Ac (La t) ((x:Int),l)=some l'/\l'.length=t.length/\∀ z,z<t.length->(l'.getD z false=true↔l.getD z false=true\/UpTo (Br t) x z):=by
 induction h with
 | @top x hx h=>
  intro l hl
  have hs:La t (x,l)=some (.next (-1,l.set x true)):=by
   unfold La
   have hb:((x:Int)!=-1)=true:=by rw[zzL101];omega
   simp only[hb,Ah,Ak,h];rw[Ad (Fy (by omega)),Ad (Fy hx)]
  have hd:La t (-1,l.set x true)=some (.done (l.set x true)):=by
   rfl
  refine⟨l.set x _,by rw[Aq hs,Am hd],by simp[hl],λz hz=>?_⟩;rw[PN (by omega)]
  have htop:UpTo (Br t) x z↔z=x:=NO λp hp=>by have :=hp.symm.trans h;omega
  rw[htop]
  by_cases e:z=x
  ·simp[e]
  ·simp[e]
 | @up x y r k hx h hk ih=>
  intro l hl
  have hs:La t (x,l)=some (.next (y,l.set x true)):=by
   unfold La
   have hb:(x !=(-1:Int))=true:=by rw[zzL101];omega
   simp only[hb,Ah,Ak,h];rw[Ad (Fy (by omega)),Ad (Fy hx)]
  obtain⟨l',e1,e2,e3⟩:=ih (l.set x _) (by simp[hl]);refine⟨l',by rw[Aq hs,e1],e2,λz hz=>?_⟩;rw[e3 z hz,PN (by omega),anc_up (par:=Br t) h]
  by_cases e:z=x
  ·simp[e]
  ·simp[e]
theorem tM{b r k:Nat}(h:Tp t b r k)(l:List Bool)(hl:l.length=t.length):l.getD r false=true->∃ c:Nat,Ac (I9 t l) (b:Int)=some (c:Int)/\UpTo (Br t) b c/\l.getD c false=true/\∀ z,UpTo (Br t) b z->l.getD z false=true->UpTo (Br t) c z:=by
 induction h with
 | @top x hx h=>
  intro hr
  have hd:I9 t l x=some (.done x):=by
   unfold I9;rw[Ad (Fy (by omega)),Ak,hr]
   rfl
  exact⟨x,Am hd,.refl _,hr,λz hz _=>hz⟩
 | @up x y r k hx h hk ih=>
  intro hr
  cases hx2:l.getD x _ with
  | true=>
   have hd:I9 t l x=some (.done x):=by
    unfold I9;rw[Ad (Fy (by omega)),Ak,hx2]
    rfl
   exact⟨x,Am hd,.refl _,hx2,λz hz _=>hz⟩
  | false=>
   have hs:I9 t l x=some (.next y):=by
    unfold I9;rw[Ad (Fy (by omega)),Ak,hx2,L5,Ah,Ad (Fy hx),h]
   obtain⟨c,e1,e2,e3,e4⟩:=ih hr;refine⟨c,by rw[Aq hs,e1],.up h e2,e3,λz hz hlz=>?_⟩;rcases(anc_up  h).1 hz with rfl|hz
   ·grind
   ·exact e4 z hz hlz
theorem LM(ht:t.length<=1000){a b r k m:Nat}(ha:Tp t a r k)(hb:Tp t b r m):∃ c:Nat,Rq t (a:Int) (b:Int)=some (c:Int)/\MeetAt (Br t) a b c:=by
 unfold Rq
 have hroom:1000<=room:=by decide
 rw[Ad ⟨by omega,by omega,by omega⟩,Ak];obtain⟨l',h1,h2,h3⟩:=tK ha (List.replicate t.length _) (by simp);rw[h1,An]
 have h3':∀ z,z<t.length->(l'.getD z false=true↔UpTo (Br t) a z):=λz hz=>by grind
 obtain⟨c,e1,e2,e3,e4⟩:=tM hb l' h2 ((h3' r ha.tops.1).2 ha.upTo)
 have hc:c<t.length:=by grind
 refine⟨c,by rw[e1];rfl,λw=>⟨λhw=>⟨((h3' c hc).1 e3).trans hw,e2.trans hw⟩,λ⟨hw1,hw2⟩=>?_⟩⟩;obtain⟨j,_,hj,_⟩:=ha.on hw1;exact e4 w hw2 ((h3' w hj.lt).2 hw1)
theorem pI(hR:M2 t=true){a b r k m:Nat}(ha:Tp t a r k)(hb:Tp t b r m):∃ c:Nat,Re t (a:Int) (b:Int)=(c:Int)/\MeetAt (Br t) a b c:=by
 unfold Re;rw[if_pos hR]
 have hcon:∀ z:Nat,(E8 t b).contains z=true↔UpTo (Br t) b z:=λz=>by
  rw[zzL60,hb.path.1]
  constructor
  ·grind
  ·grind
 rcases ha.path.2 (λx=>(E8 t _).contains x) with⟨e1,e2⟩|⟨f,e1,e2,e3,e4⟩
 ·have:=e2 r ha.upTo;rw[(hcon r).2 hb.upTo]at this
  cases this
 ·exact⟨f,by rw[e1];rfl,λw=>⟨λhw=>⟨e2.trans hw,((hcon f).1 e3).trans hw⟩,λ⟨hw1,hw2⟩=>e4 w hw1 ((hcon w).2 hw2)⟩⟩
theorem MeetAt.same{a b r k c d:Nat}(ha:Tp t a r k)(hc:MeetAt (Br t) a b c)(hd:MeetAt (Br t) a b d):c=d:=by
 obtain⟨j,_,hj,_⟩:=ha.on ((hc c).1 (.refl _)).1;exact(hj.anti ((hc d).2 ((hd d).1 (.refl _))) ((hd c).2 ((hc c).1 (.refl _)))).symm
end
theorem m_index(t:List Int)(v:Int)(ht:t.length<=1000):(∃ r:Nat,r<t.length/\t.getD r 0=v/\(∀ i,i<r->t.getD i 0≠v)/\G3 t v=some (r:Int))\/((∀ i,i<t.length->t.getD i 0≠v)/\G3 t v=some (-1)):=by
 have key:∀ k i:Nat,i+k=t.length->(∀ j,j<i->t.getD j 0≠v)->
   (∃ r:Nat,r<t.length/\t.getD r 0=v/\(∀ i,i<r->t.getD i 0≠v)/\Ac (Cn t v) (i:Int)=some (.inr (r:Int)))\/((∀ i,i<t.length->t.getD i 0≠v)/\Ac (Cn t v) (i:Int)=some (.inl ())):=by
  intro k
  induction k with
  | zero=>
   intro i hi hj
   obtain rfl:i=t.length:=by omega
   refine .inr ⟨hj,Am ?_⟩;unfold Cn;rw[Co];rfl
  | succ k ih=>
   intro i hi hj
   by_cases e:v=t.getD i 0
   ·refine .inl ⟨i,by omega,e.symm,hj,Am ?_⟩;unfold Cn;have hb:((v:Int)==t.getD i 0)=true:=zzL63.2 e;simp only[Bt (show i<t.length by omega),Ah,Ak,hb];rw[Ad (Fy (by omega))]
   ·have hs:Cn t v (i:Int)=some (.next ((i+1:Nat):Int)):=by
     unfold Cn;have hb:((v:Int)==t.getD i 0)=false:=zzL29.2 e;simp only[Bt (show i<t.length by omega),Ah,Ak,hb,Au];rw[Ad (Fy (by omega)),w1 (by omega)]
    rw[Aq hs]
    exact ih (i+1) (by omega) λj hj2=>by
     by_cases ej:j=i
     ·subst ej;exact λh=>e h.symm
     ·exact hj j (by omega)
 have h0:=key t.length 0 (by omega) (λj hj=>absurd hj (W4 _));unfold G3;rcases h0 with⟨r,h1,h2,h3,h4⟩|⟨h1,h2⟩
 ·exact .inl ⟨r,h1,h2,h3,by rw[show((0:Int))=((0:Nat):Int) from rfl,h4];rfl⟩
 ·exact .inr ⟨h1,by rw[show((0:Int))=((0:Nat):Int) from rfl,h2];rfl⟩
section
variable {t:List Int}
structure EE(t:List Int)(r f:Nat)(w:List Int):Prop where
 len:w.length=t.length
 old:∀ y,y<t.length->w.getD y 0≠0->(w.getD y 0<=(f:Int))/\∃ k,Tp t y r k
structure nO(t:List Int)(r f x:Nat)(w:List Int):Prop where
 len:w.length=t.length
 hx:x<t.length
 old:∀ y,y<t.length->w.getD y 0≠0->w.getD y 0<=(f:Int)/\(∃ k,Tp t y r k)\/w.getD y 0=((f+1:Nat):Int)/\∀ r' k,Tp t x r' k->∃ j,k<j/\Tp t y r' j
 fwd:∀ r' k,Tp t x r' k->∃ j,k<=j/\Tp t f r' j
 back:∀ r' k,Tp t f r' k->∃ j,Tp t x r' j
def YG(w:List Int):Nat:=w.countP λz=>z==0
theorem mS{w:List Int}{x:Nat}{v:Int}(hx:x<w.length)(h0:w.getD x 0=0)(hv:v≠0):YG (w.set x v)<YG w:=by
 unfold YG;rw[List.countP_set hx];rw[Ab _ _ _ hx]at h0;have hp:0<w.countP λz=>z==0:=List.countP_pos_iff.2 ⟨w[x],KI hx,by simp[h0]⟩;have hb :=zzL29.2 hv;simp only[h0,Ve,Mv,hb,FV,Ix];omega
theorem leads_loop(ht:t.length<=1000){r:Nat}(hr:r<t.length)(htop:t.getD r 0 = -1){f:Nat}(hf:f<t.length):∀(m x:Nat) (w:List Int),YG w<=m->nO t r f x w->
  (∃ w',Ac (D0 t (f:Int) (r:Int)) ((x:Int),w)=some (.inl w')/\EE t r (f+1) w'/\∃ k,Tp t f r k) \/
  ∃ b w',Ac (D0 t (f:Int) (r:Int)) ((x:Int),w)=some (.inr (b,w'))/\w'.length=t.length/\(b=true->EE t r (f+1) w'/\∃ k,Tp t f r k)/\(b=false->∀ k,¬ Tp t f r k):=by
 intro m
 induction m with
 | zero=>
  intro x w hz hw;exact go 0 (λx w hz=>absurd hz (W4 _)) x w hz hw
 | succ m ih=>
  intro x w hz hw;exact go (m+1) (λx w hz=>ih x w (Nat.le_of_lt_succ hz)) x w hz hw
where
 go (m:Nat) (ih:∀(x:Nat) (w:List Int),YG w<m->nO t r f x w->
  (∃ w',Ac (D0 t (f:Int) (r:Int)) ((x:Int),w)=some (.inl w')/\EE t r (f+1) w'/\∃ k,Tp t f r k) \/
  ∃ b w',Ac (D0 t (f:Int) (r:Int)) ((x:Int),w)=some (.inr (b,w'))/\w'.length=t.length/\(b=true->EE t r (f+1) w'/\∃ k,Tp t f r k)/\(b=false->∀ k,¬ Tp t f r k)) (x:Nat) (w:List Int) (hz:YG w<=m) (hw:nO t r f x w) :
  (∃ w',Ac (D0 t (f:Int) (r:Int)) ((x:Int),w)=some (.inl w')/\EE t r (f+1) w'/\∃ k,Tp t f r k) \/
  ∃ b w',Ac (D0 t (f:Int) (r:Int)) ((x:Int),w)=some (.inr (b,w'))/\w'.length=t.length/\(b=true->EE t r (f+1) w'/\∃ k,Tp t f r k)/\(b=false->∀ k,¬ Tp t f r k):=by
  have hxl:=hw.hx
  have told:∀ k,Tp t x r k->EE t r (f+1) w/\∃ k,Tp t f r k:=λk hk=>by
   obtain⟨j,_,hj⟩:=hw.fwd _ _ hk;refine⟨⟨hw.len,λy hy hy0=>?_⟩,j,hj⟩;rcases hw.old y hy hy0 with⟨h1,h2⟩|⟨h1,h2⟩
   ·exact⟨by omega,h2⟩
   ·obtain⟨i,_,hi⟩:=h2 _ _ hk;exact⟨by omega,i,hi⟩
  by_cases hxr:x=r
  ·subst hxr;refine .inl ⟨w,Am ?_,told 0 (.top hr htop)⟩;unfold D0
   have hb:((x:Int)!=(x:Int))=false:=by simp
   simp only[hb,Au]
  ·have hb:((x:Int)!=(r:Int))=true:=by rw[zzL101];omega
   have hin:A1 (x:Int) w.length:=Fy (by rw[hw.len];exact hxl)
   by_cases hw0:w.getD x 0=0
   ·have hb0:((w.getD x 0:Int)!=0)=false:=by rw[hw0];rfl
    by_cases hpl:0<=t.getD x 0/\t.getD x 0<(t.length:Int)
    ·have hwf:w64 ((f:Int)+1)=((f+1:Nat):Int):=w1 (by omega)
     have hs:D0 t (f:Int) (r:Int) ((x:Int),w)=some (.next (t.getD x 0,w.set x ((f+1:Nat):Int))):=by
      unfold D0 My;simp only[hb,Ah,Ak,hb0,Au];rw[Ad hin,Ad (Fy hxl),Dr hpl.1,Dr hpl.2,Ah,An,D6,Au,Ad hin,Ad (Fy hxl),hwf]
     rw[Aq hs];obtain⟨y,hy⟩:∃ y:Nat,t.getD x 0=(y:Int):=⟨(t.getD x 0).toNat,(Y8 hpl.1).symm⟩;rw[hy]at hpl ⊢
     have hyl:y<t.length:=by omega
     have hst:∀ r' k,Tp t y r' k->Tp t x r' (k+1):=λr' k hk=>.up hxl hy hk
     have hset:∀ z,z<t.length->(w.set x ((f+1:Nat):Int)).getD z 0=if z=x then((f+1:Nat):Int) else w.getD z 0:=λz _=>PN (by rw[hw.len];exact hxl)
     have hW:nO t r f y (w.set x ((f+1:Nat):Int)):=by
      refine⟨by simp[hw.len],hyl,λz hzl hz0=>?_,λr' k hk=>?_,λr' k hk=>?_⟩
      ·rw[hset z hzl]at hz0 ⊢
       by_cases e:z=x
       ·subst e;rw[if_pos rfl];exact .inr ⟨rfl,λr' k hk=>⟨k+1,by omega,hst r' k hk⟩⟩
       ·rw[if_neg e]at hz0 ⊢;rcases hw.old z hzl hz0 with h1|⟨h1,h2⟩
        ·exact .inl h1
        ·refine .inr ⟨h1,λr' k hk=>?_⟩;obtain⟨j,hj1,hj2⟩:=h2 _ _ (hst r' k hk);exact⟨j,by omega,hj2⟩
      ·obtain⟨j,hj1,hj2⟩:=hw.fwd _ _ (hst r' k hk);exact⟨j,by omega,hj2⟩
      ·obtain⟨j,hj⟩:=hw.back _ _ hk
       cases hj with
       | top _ h2=>omega
       | up _ h2 h3=>
        have:=hy.symm.trans h2
        cases KK this
        exact⟨_,h3⟩
     have hzz:=mS (x:=x) (v:=((f+1:Nat):Int)) (by rw[hw.len];exact hxl) hw0 (by omega);exact ih y _ (by omega) hW
    ·refine .inr ⟨false,w,Am ?_,hw.len,⟨λh=>(by cases h),λ_ k hk=>?_⟩⟩
     ·unfold D0 My;simp only[hb,Ah,Ak,hb0,Au];rw[Ad hin,Ad (Fy hxl)]
      have:(bif decide ((0:Int)<=t.getD x 0) then decide (t.getD x 0<(t.length:Int)) else false)=false:=by
       cases h1:decide ((0:Int)<=t.getD x 0) with
       | false=>rfl
       | true=>rw[Ah];exact C9 λh2=>hpl ⟨KH h1,h2⟩
      rw[this,An]
      rfl
     ·obtain⟨j,hj⟩:=hw.back _ _ hk
      cases hj with
      | top=>exact hxr rfl
      | up _ h2 h3=>have:=h3.lt;exact hpl ⟨by omega,by omega⟩
   ·have hb0:((w.getD x 0:Int)!=0)=true:=by rw[zzL101];exact hw0
    have hwf:w64 ((f:Int)+1)=((f+1:Nat):Int):=w1 (by omega);refine .inr ⟨w.getD x 0 !=((f+1:Nat):Int),w,Am ?_,hw.len,⟨λh=>?_,λh k hk=>?_⟩⟩
    ·unfold D0;simp only[hb,Ah,Ak,hb0];rw[Ad hin,Ad hin,hwf]
    ·rcases hw.old x hxl hw0 with⟨_,k,hk⟩|⟨h1,_⟩
     ·exact told k hk
     ·rw[h1]at h;simp at h
    ·have he:w.getD x 0=((f+1:Nat):Int):=by simpa using h
     obtain⟨j,hj⟩:=hw.back _ _ hk;rcases hw.old x hxl hw0 with⟨h1,_⟩|⟨_,h2⟩
     ·omega
     ·obtain⟨i,hi1,hi2⟩:=h2 _ _ hj;have:=hj.det hi2;omega
end
section
variable {t:List Int}
theorem tD(ht:t.length<=1000){r:Nat}(hr:r<t.length)(htop:t.getD r 0 = -1){f:Nat}(hf:f<t.length){w:List Int}(hw:EE t r f w) :
  ∃ b w',Uw t w (f:Int) (r:Int)=some (b,w')/\w'.length=t.length/\(b=true->EE t r (f+1) w'/\∃ k,Tp t f r k)/\(b=false->∀ k,¬ Tp t f r k):=by
 unfold Uw;have hW:nO t r f f w:=⟨hw.len,hf,λy hy h0=>.inl (hw.old y hy h0),λr' k hk=>⟨k,zzL6 _,hk⟩,λr' k hk=>⟨k,hk⟩⟩;rcases leads_loop ht hr htop hf _ f w (zzL6 _) hW with⟨w',e1,e2⟩|⟨b,w',e1,e2,e3,e4⟩
 ·exact⟨true,w',by rw[e1];rfl,e2.1.len,λ_=>e2,λh=>by cases h⟩
 ·grind
def VU(t:List Int)(r:Nat):Prop:=∀ f,f<t.length->t.getD f 0≠-2->∃ k,Tp t f r k
open Classical in
theorem cn(ht:t.length<=1000){r:Nat}(hr:r<t.length)(htop:t.getD r 0 = -1):∀(k f:Nat) (w:List Int),f+k=t.length->EE t r f w->(∀ y,y<f->t.getD y 0≠-2->∃ k,Tp t y r k)->
  Ac (Hb t (r:Int)) ((f:Int),w)=some (if VU t r then .inl () else .inr false):=by
 intro k
 induction k with
 | zero=>
  intro f w hk hw hd
  obtain rfl:f=t.length:=by omega
  apply Am
  unfold Hb;simp only[Co,Au];rw[if_pos (show VU t r from hd)]
 | succ k ih=>
  intro f w hk hw hd
  have hf:f<t.length:=by omega
  by_cases h2:t.getD f 0 = -2
  ·have hb:((t.getD f 0:Int)!=(-2))=false:=by rw[h2];rfl
   have hs:Hb t (r:Int) ((f:Int),w)=some (.next (((f+1:Nat):Int),w)):=by
    unfold Hb;simp only[Bt hf,Ah,Ak,hb,show(false==true)=false from rfl,Au,An];rw[Ad (Fy hf),Ad (λh=>by cases h),w1 (by omega)]
   rw[Aq hs];refine ih (f+1) w (by omega) ⟨hw.len,λy hy h0=>?_⟩ λy hy hy2=>?_
   ·obtain⟨e1,e2⟩:=hw.old y hy h0;exact⟨by omega,e2⟩
   ·by_cases e:y=f
    ·subst e;exact absurd h2 hy2
    ·exact hd y (by omega) hy2
  ·have hb:((t.getD f 0:Int)!=(-2))=true:=by rw[zzL101];exact h2
   obtain⟨b,w',e1,e2,e3,e4⟩:=tD ht hr htop hf hw
   cases b with
   | false=>
    rw[if_neg (λhA:VU t r=>by obtain⟨k,hk⟩:=hA f hf h2;exact e4 rfl k hk)]
    apply Am
    unfold Hb;simp only[Bt hf,Ah,Ak,hb,show(true==true)=true from rfl,e1,An];rw[Ad (Fy hf),Ad (λ_=>by rw[hw.len,e2])]
    rfl
   | true=>
    have hs:Hb t (r:Int) ((f:Int),w)=some (.next (((f+1:Nat):Int),w')):=by
     unfold Hb;simp only[Bt hf,Ah,Ak,hb,show(true==true)=true from rfl,e1,An];rw[Ad (Fy hf),Ad (λ_=>by rw[hw.len,e2]),w1 (by omega)]
     rfl
    rw[Aq hs];obtain⟨e5,e6⟩:=e3 rfl;refine ih (f+1) w' (by omega) e5 λy hy hy2=>?_
    by_cases e:y=f
    ·subst e;exact e6
    ·exact hd y (by omega) hy2
theorem qF:topsK t t.length=1↔∃ r,r<t.length/\t.getD r 0 = -1/\∀ x,x<t.length->t.getD x 0 = -1->x=r:=by
 have key:∀ n,(topsK t n=0↔∀ x,x<n->t.getD x 0≠-1)/\(topsK t n=1↔∃ r,r<n/\t.getD r 0 = -1/\∀ x,x<n->t.getD x 0 = -1->x=r):=by
  intro n
  induction n with
  | zero=>exact⟨⟨λ_ x hx=>absurd hx (W4 _),λ_=>rfl⟩,⟨λh=>by simp[topsK]at h,λ⟨r,h,_⟩=>absurd h (W4 _)⟩⟩
  | succ n ih=>
   rw[FU]
   by_cases e:t.getD n 0 = -1
   ·rw[if_pos e];refine⟨⟨λh=>by omega,λh=>absurd e (h n (by omega))⟩,⟨λh=>⟨n,by omega,e,λx hx hx1=>?_⟩,λ⟨r,h1,h2,h3⟩=>?_⟩⟩
    ·by_cases ex:x=n
     ·exact ex
     ·grind
    ·have:=ih.1.2 λx hx hx1=>by
      grind
     omega
   ·grind
 exact(key _).2
theorem rightD_iff:M2 t=true↔∃ r,r<t.length/\t.getD r 0 = -1/\VU t r:=by
 unfold M2;rw[A5,all_range,Fz,qF]
 constructor
 ·rintro⟨h1,r,h2,h3,h4⟩;refine⟨r,h2,h3,λf hf hf2=>?_⟩;have:=h1 f hf;unfold pQ at this;rw[FX,Fz,Y9,SK]at this;rcases this with h|h
  ·exact absurd h hf2
  ·obtain⟨x,r',k,e,hk⟩:=pathD_tp.1 h
   cases KK e
   have:=h4 _ hk.tops.1 hk.tops.2;subst this;exact⟨k,hk⟩
 ·rintro⟨r,h2,h3,h4⟩;refine⟨λf hf=>?_,r,h2,h3,λx hx hx1=>?_⟩
  ·unfold pQ;rw[FX,Fz,Y9,SK]
   by_cases e:t.getD f 0 = -2
   ·exact .inl e
   ·obtain⟨k,hk⟩:=h4 f hf e;exact .inr (pathD_tp.2 ⟨f,r,k,rfl,hk⟩)
  ·obtain⟨k,hk⟩:=h4 x hx (by omega);exact((hk.det (.top hx hx1)).1).symm
theorem XQ(hR:M2 t=true):∃ r,VU t r:=by obtain⟨r,_,_,h⟩:=rightD_iff.1 hR;exact⟨r,h⟩
theorem pF(ht:t.length<=1000):Tc t=some (M2 t):=by
 unfold Tc
 have hroom:1000<=room:=by decide
 rcases m_index t _ ht with⟨r,h1,h2,h3,h4⟩|⟨h1,h2⟩
 ·rw[h4,An,C9 (by omega),Au,Ad ⟨by omega,by omega,by omega⟩,Ak];have hl:=cn ht h1 h2 t.length 0 (List.replicate t.length 0) (by omega) ⟨by simp,λy hy h0=>absurd HY h0⟩ (λy hy=>absurd hy (W4 _));rw[show(((0:Nat):Int))=0 from rfl]at hl;rw[hl,An]
  by_cases hA:VU t r
  ·rw[if_pos hA,rightD_iff.2 ⟨r,h1,h2,hA⟩]
  ·rw[if_neg hA]
   have :=Bool.eq_false_iff.2 λhR=>by
    obtain⟨r',g1,g2,g3⟩:=rightD_iff.1 hR;obtain⟨k,hk⟩:=g3 r h1 (by omega);have:=(hk.det (.top h1 h2)).1;subst this;exact hA g3
   rw[this]
 ·rw[h2]
  have :=Bool.eq_false_iff.2 λhR=>by
   obtain⟨r',g1,g2,g3⟩:=rightD_iff.1 hR;exact h1 r' g1 g2
  rw[this]
  rfl
def FK(t:List Int)(a:Int):Bool:=decide (0<=a)&&decide (a<(t.length:Int))&&decide (t.getD a.toNat 0≠-2)
theorem PP(hR:M2 t=true){a:Int}:FK t a=true↔∃ x k r:Nat,a=(x:Int)/\Tp t x r k:=by
 unfold FK;rw[A5,A5,Fz,Fz,Fz]
 constructor
 ·rintro⟨⟨h1,h2⟩,h3⟩;obtain⟨r,hA⟩:=XQ hR;obtain⟨k,hk⟩:=hA _ (by omega) h3;exact⟨a.toNat,k,r,(Y8 h1).symm,hk⟩
 ·rintro⟨x,k,r,rfl,h⟩;rw[Ak]
  cases h with
  | top _ h2=>omega
  | up _ h2 _=>omega
theorem f7(a:Int):Nr t a=some (FK t a):=by
 unfold Nr My FK;rw[An]
 cases h1:decide (0<=a) with
 | false=>rfl
 | true=>
  rw[Ah,Mu]
  cases h2:decide (a<t.length) with
  | false=>rfl
  | true=>
   rw[Ad (λ_=>⟨KH h1,KH h2⟩),Ah,Mu]
   congr 1
   rw[EZ,zzL101,Fz]
theorem tA(ht:t.length<=1000)(a b:Int):Uv t a b=some (M2 t&&FK t a&&FK t b):=by
 unfold Uv;rw[pF ht]
 cases M2 t with
 | false=>rfl
 | true=>
  simp only[  f7, Mu]
  cases FK t a with
  | false=>rfl
  | true=>grind
theorem lg{a b:Int}(h:(M2 t&&FK t a&&FK t b)=false):Re t a b = -2:=by
 unfold Re
 by_cases hR:M2 t=true
 ·rw[if_pos hR];rw[hR]at h
  have hno:∀ c,FK t c=false->E8 t c=[]:=λc hc=>by
   by_cases e:E8 t c=[]
   ·exact e
   ·obtain⟨x,r,k,e1,e2⟩:=pathD_tp.1 e;rw[(PP hR).2 ⟨x,k,r,e1,e2⟩]at hc;cases hc
  cases ha:FK t a with
  | false=>rw[hno a ha];rfl
  | true=>
   rw[ha]at h;rw[hno b h]
   have:((E8 t a).find? λx=>[].contains x)=none:=List.find?_eq_none.2 λx _=>by simp
   rw[this]
   rfl
 ·rw[if_neg hR]
theorem UZ(ht:t.length<=1000){a b:Int}(h:(M2 t&&FK t a&&FK t b)=true):Rq t a b=some (Re t a b)/\0<=Re t a b:=by
 rw[A5,A5]at h;obtain⟨⟨hR,ha⟩,hb⟩:=h;obtain⟨x,k,r,rfl,hx⟩:=(PP hR).1 ha;obtain⟨y,m,r',rfl,hy⟩:=(PP hR).1 hb;obtain⟨rr,hA⟩:=XQ hR
 have top:∀{x r k},Tp t x r k->r=rr:=λ{x r k} h=>by
  obtain⟨i,hi⟩:=hA r h.tops.1 (by rw[h.tops.2];omega);exact((Tp.top h.tops.1 h.tops.2).det hi).1
 obtain rfl:=top hx;obtain rfl:=top hy;obtain⟨c,h1,h2⟩:=LM ht hx hy;obtain⟨d,h3,h4⟩:=pI hR hx hy;have:=h2.same hx h4;subst this;exact⟨by rw[h1,h3],by omega⟩
theorem wX(ht:t.length<=1000)(a b:Int):Xv t a b=some (Lv t a b):=by
 unfold Xv Lv;rw[tA ht]
 cases h:(M2 t&&FK t a&&FK t b) with
 | false=>
  rw[lg h]
  have:(-2==a&&(-2 !=-2))=false:=by simp
  rw[this]
  rfl
 | true=>
  obtain⟨h1,h2⟩:=UZ ht h;simp only[show(true==true)=true from rfl,Ah,h1,An]
  have:(Re t a b !=-2)=true:=by rw[zzL101];omega
  rw[this,SR]
end
theorem tP:∀ n:Fin 65,Ro (Iu 1) (Iu ((n.val:Nat):Int))=some (0,((n.val:Nat):Int)):=by decide +kernel
theorem lj{n:Nat}(h:n<=64):Ro (Iu 1) (Iu (n:Int))=some (0,(n:Int)):=tP ⟨n,by omega⟩
theorem dy{v:Int}{n:Nat}(hn:n<=64):∀(m i:Nat) (l:List Int),n-i<=m->1<=i->i<=n->l.length=n->(∀ j,j<i->l.getD j 0=v)->Ac Dj ((i:Int),l)=some (List.replicate n v):=by
 intro m
 induction m with
 | zero=>
  intro i l hm h1 h2 hl hv
  obtain rfl:i=n:=by omega
  exact fin l hl hv
 | succ m ih=>
  intro i l hm h1 h2 hl hv
  by_cases e:i=n
  ·grind
  ·have hs:Dj ((i:Int),l)=some (.next (((i+Nat.min i (n-i):Nat):Int),NT l i (Nat.min i (n-i)) (λj=>l.getD (0+j) 0))):=by
    unfold Dj;simp only[hl,Bt (show i<n by omega),Ah,Ak,F0,CH];have hc:(0:Int)<=(i:Int)/\i<=n:=⟨by omega,h2⟩;have hmn:Nat.min i (n-i)<=i:=Nat.min_le_left _ _;rw[Ad hc,Ad hc,He (by omega) (by omega),Int.natCast_add]
   rw[Aq hs];have hmn:Nat.min i (n-i)<=i/\Nat.min i (n-i)<=n-i:=⟨Nat.min_le_left _ _,Nat.min_le_right _ _⟩;have hge:1<=Nat.min i (n-i):=Nat.le_min.2 ⟨h1,by omega⟩;refine ih _ _ (by omega) (by omega) (by omega) (by rw[<- En];exact hl) λj hj=>?_;rw[GV _ _ _ _ _ _ (by omega)]
   by_cases hji:i<=j/\j<i+Nat.min i (n-i)
   ·grind
   ·grind
where
 fin {v:Int} {i:Nat} (l:List Int) (hl:l.length=i) (hv:∀ j,j<i->l.getD j 0=v):Ac Dj ((i:Int),l)=some (List.replicate i v):=by
  apply Am
  unfold Dj;simp only[hl,Co,Au]
  congr 2
  refine CJ (by simp[hl]) λj h1 h2=>?_;rw[<- Ab _ _ 0 h1,hv j (by omega)]
  simp
theorem pG{v:Int}{n:Nat}(h1:1<=n)(hn:n<=64):Ip [v] (n:Int)=some (List.replicate n v):=by
 have hroom:64<=room:=by decide
 unfold Ip;rw[C9 (by omega),Au,An]
 show Option.bind (Ro (Iu 1) _) _=_
 rw[lj hn,An];have e1:decide (0<0)=false:=rfl;have e2:decide (9223372036854775807<(n:Int))=false:=C9 (by omega);simp only[ e2,Au];have ew:w64 n=n:=He (by omega) (by omega);rw[ew,Ad ⟨by omega,by omega,by omega⟩,Ak,N9,CH];have em:Nat.min [v].length n=1:=Nat.min_eq_left h1;rw[em,dy hn n 1 _ (by omega) (zzL6 _) h1 (by rw[<- En];simp) (λj hj=>?_)]
 ·rfl
 ·rw[GV _ _ _ _ _ _ (by simp;omega),if_pos ⟨by omega,by omega⟩]
  have:j-0=0:=by omega
  rw[this];rfl
section
variable {S:Nat->List Nat} {r n:Nat} {P:List Nat}
theorem Inv.tp{at_:Nat->Nat}{t:List Int}(h:Inv S r n at_ (Br t))(hl:t.length=n):∀ m x,at_ x<=m->x<n->Br t x≠-2->∃ k,Tp t x r k:=by
 intro m
 induction m with
 | zero=>
  intro x hm hx hp;rcases h.kind x hx with h1|h1|⟨z,hz⟩
  ·exact absurd h1 hp
  ·subst h1;exact⟨0,.top (by omega) h.top⟩
  ·obtain⟨_,_,h3,_⟩:=h.up x hx z hz;omega
 | succ m ih=>
  intro x hm hx hp;rcases h.kind x hx with h1|h1|⟨z,hz⟩
  ·exact absurd h1 hp
  ·subst h1;exact⟨0,.top (by omega) h.top⟩
  ·obtain⟨z1,z2,z3,_⟩:=h.up x hx z hz;obtain⟨k,hk⟩:=ih z (by omega) z1 z2;exact⟨k+1,.up (by omega) hz hk⟩
def GH(t l:List Int)(i:Nat)(v:Int):Prop:=
 (v = -2/\∀ j,j<i->Br t (l.getD j 0).toNat = -2) \/
 ∃ z:Nat,v=(z:Int)/\z<t.length/\Br t z≠-2/\(∀ w,UpTo (Br t) z w↔∀ j,j<i->Br t (l.getD j 0).toNat≠-2->UpTo (Br t) (l.getD j 0).toNat w)
theorem ah{at_:Nat->Nat}{t l:List Int}(ht:t.length<=64)(hll:l.length<=64)(h:Inv S r n at_ (Br t))(hl:t.length=n)(hin:∀ x∈l,0<=x/\x<(n:Int)):∀(k i:Nat) (v:Int),i+k=l.length->GH t l i v->
  ∃ v',Ac (F9 t l) (v,(i:Int))=some v'/\GH t l l.length v':=by
 intro k
 induction k with
 | zero=>
  intro i v hi hv
  obtain rfl:i=l.length:=by omega
  refine⟨v,Am ?_,hv⟩;unfold F9;simp only[Co,Au]
 | succ k ih=>
  intro i v hi hv
  have hil:i<l.length:=by omega
  obtain⟨x0,x1⟩:=hin _ (Ag (d:=0) hil);have hxe:(((l.getD i 0).toNat:Nat):Int)=l.getD i 0:=Y8 x0;have hxin:A1 (l.getD i 0) t.length:=yh x0 (by omega)
  have next:∀ v',F9 t l (v,(i:Int))=some (.next (v',((i+1:Nat):Int)))->GH t l (i+1) v'->∃ v',Ac (F9 t l) (v,(i:Int))=some v'/\GH t l l.length v':=λv' hs hv'=>by
   rw[Aq hs];exact ih (i+1) v' (by omega) hv'
  by_cases hp:Br t (l.getD i 0).toNat = -2
  ·have hb:((t.getD (l.getD i 0).toNat 0:Int)==-2)=true:=zzL63.2 hp;refine next v ?_ ?_
   ·unfold F9;simp only[Bt hil,Ah,Ak,hb];rw[Ad (Fy hil),Ad hxin,An,w1 (by omega)]
   ·have hstep:∀ w,(∀ j,j<i->Br t (l.getD j 0).toNat≠-2->UpTo (Br t) (l.getD j 0).toNat w)↔∀ j,j<i+1->Br t (l.getD j 0).toNat≠-2->UpTo (Br t) (l.getD j 0).toNat w:=λw=>by
     refine⟨λhj j hj1 hj2=>?_,λhj j hj1=>hj j (by omega)⟩
     by_cases e:j=i
     ·subst e;exact absurd hp hj2
     ·exact hj j (by omega) hj2
    rcases hv with⟨h1,h2⟩|⟨z,h1,h2,h3,h4⟩
    ·refine .inl ⟨h1,λj hj=>?_⟩
     by_cases e:j=i
     ·subst e;exact hp
     ·exact h2 j (by omega)
    ·exact .inr ⟨z,h1,h2,h3,λw=>by rw[h4 w,hstep w]⟩
  ·have hb:((t.getD (l.getD i 0).toNat 0:Int)==-2)=false:=zzL29.2 hp;rcases hv with⟨h1,h2⟩|⟨z,h1,h2,h3,h4⟩
   ·subst h1;refine next (l.getD i 0) ?_ (.inr ⟨(l.getD i 0).toNat,hxe.symm,by omega,hp,λw=>⟨λhw j hj hj2=>?_,λhw=>hw i (by omega) hp⟩⟩)
    ·unfold F9;simp only[Bt hil,Ah,Ak,hb,Au,show((-2:Int)==-2)=true from rfl];rw[Ad (Fy hil),Ad hxin,An,w1 (by omega)]
    ·by_cases e:j=i
     ·subst e;exact hw
     ·exact absurd (h2 j (by omega)) hj2
   ·subst h1;have hb2:((z:Int)==-2)=false:=zzL29.2 (by omega);obtain⟨k1,hk1⟩:=h.tp hl _ z (zzL6 _) (by omega) h3;obtain⟨k2,hk2⟩:=h.tp hl _ (l.getD i 0).toNat (zzL6 _) (by omega) hp;obtain⟨c,c1,c2⟩:=LM (by omega) hk1 hk2;have hcz:=(c2 c).1 (.refl _);obtain⟨jc,_,hjc,_⟩:=hk1.on hcz.1
    have hcp:Br t c≠-2:=by
     show t.getD c 0≠-2
     cases hjc with
     | top _ h=>omega
     | up _ h _=>omega
    refine next (c:Int) ?_ (.inr ⟨c,rfl,hjc.lt,hcp,λw=>?_⟩)
    ·rw[hxe]at c1;unfold F9;simp only[Bt hil,Ah,Ak,hb,Au,hb2,c1,An];rw[Ad (Fy hil),Ad hxin,An,w1 (by omega)]
    ·rw[c2 w,h4 w];refine⟨λ⟨a1,a2⟩ j hj hj2=>?_,λha=>⟨λj hj=>ha j (by omega),ha i (by omega) hp⟩⟩
     by_cases e:j=i
     ·subst e;exact a2
     ·exact a1 j (by omega) hj2
theorem lX{at_:Nat->Nat}{t l:List Int}(ht:t.length<=64)(hll:l.length<=64)(h:Inv S r n at_ (Br t))(hl:t.length=n)(hin:∀ x∈l,0<=x/\x<(n:Int)) :
  ∃ v,Mz t l=some v/\GH t l l.length v:=by
 obtain⟨v,h1,h2⟩:=ah ht hll h hl hin l.length 0 _ (by omega) (.inl ⟨rfl,λj hj=>absurd hj (W4 _)⟩);refine⟨v,?_,h2⟩;unfold Mz;rw[show((0:Int))=(0:Nat) from rfl,h1]
 rfl
end
section
variable {L:List (List Int)} (hm:Mq L=true) {r:Nat} {P:List Nat}
include hm
theorem pz{p y:Nat}(hp:p<L.length):y∈sN L p↔Yx L p y=true:=by
 rw[om];obtain⟨_,_,h3⟩:=mayS_iff.1 hm
 constructor
 ·intro h;obtain⟨x,hx,rfl⟩:=zzL20.1 h;have:=am (h3 p hp) hx;rw[Y8 this.1];exact hx
 ·intro h;exact zzL20.2 ⟨_,h,Ak y⟩
theorem BO{y:Nat}(hy:y<L.length){x:Int}:x∈(Cx L).getD y []↔∃ p:Nat,x=(p:Int)/\p<L.length/\y∈sN L p:=by
 rw[DP hy];unfold J7;rw[dK]
 constructor
 ·rintro⟨k,h1,h2,h3⟩;exact⟨k,h1,h2,(pz hm h2).2 h3⟩
 ·rintro⟨k,h1,h2,h3⟩;exact⟨k,h1,h2,(pz hm h2).1 h3⟩
theorem af(o:Ordered (sN L) r L.length P){t:List Int}{i:Nat}(h:Ready (sN L) r L.length P t i)(hi:i<P.length) :
  Mz t ((Cx L).getD (P.getD i 0) [])=some (Pm (sN L) L.length t (P.getD i 0):Int):=by
 obtain⟨hL1,hL64,_⟩:=mayS_iff.1 hm;have hyn:P.getD i 0<L.length:=o.lt (Oa _ (We hi))
 have hlen:((Cx L).getD (P.getD i 0) []).length<=64:=by
  rw[DP hyn];have:=Yd L L.length (P.getD i 0);omega
 obtain⟨v,h1,h2⟩:=lX (by rw[h.len];exact hL64) hlen h.inv h.len λx hx=>by
  obtain⟨p,rfl,hp,_⟩:=(BO hm hyn).1 hx;omega
 rw[h1];have hb:=h.best o hi
 have mem:∀ p,p<L.length->P.getD i 0∈sN L p->∃ j,j<((Cx L).getD (P.getD i 0) []).length/\(((Cx L).getD (P.getD i 0) []).getD j 0).toNat=p:=λp hp hy=>by
  obtain⟨j,hj,e⟩:=Gr ((BO hm hyn).2 ⟨p,rfl,hp,hy⟩);exact⟨j,hj,by rw[Ab _ _ _ hj,e,Ak]⟩
 have mem':∀ j,j<((Cx L).getD (P.getD i 0) []).length->(((Cx L).getD (P.getD i 0) []).getD j 0).toNat<L.length/\P.getD i 0∈sN L (((Cx L).getD (P.getD i 0) []).getD j 0).toNat:=λj hj=>by
  obtain⟨p,e,hp,hy⟩:=(BO hm hyn).1 (Ag (d:=(0:Int)) hj);rw[e,Ak];exact⟨hp,hy⟩
 rcases h2 with⟨rfl,h3⟩|⟨z,rfl,hz,hz2,h4⟩
 ·obtain⟨p,hp,hyp,hp2,_⟩:=hb.fwd;obtain⟨j,hj,e⟩:=mem p hp hyp;exact absurd (by rw[<- e];exact h3 j hj) hp2
 ·have hbest:eh (sN L) L.length (Br t) (P.getD i 0) z:=λw=>by
   rw[h4 w];refine⟨λha p hp hyp hp2=>?_,λha j hj hj2=>?_⟩
   ·obtain⟨j,hj,e⟩:=mem p hp hyp;have:=ha j hj (by rw[e];exact hp2);rwa[e]at this
   ·grind
  rw[h.best_eq o hi (by rw[<- h.len];exact hz) hz2 hbest]
end
theorem dR{P:List Nat}{i:Nat}(h:i<P.length):(V9 P).getD i 0=((P.getD i 0:Nat):Int):=by
 unfold V9;rw[Ab _ _ _ (by simpa using h),Ab _ _ _ h,List.getElem_map]
 rfl
theorem eA{t:List Int}{x:Nat}{v:Int}(hx:x<t.length)(h:t.getD x 0=v):t.set x v=t:=by
 subst h;rw[Ab _ _ _ hx];exact List.set_getElem_self hx
section
variable {L:List (List Int)} (hm:Mq L=true) {r:Nat} {P:List Nat} (o:Ordered (sN L) r L.length P)
include hm o
theorem gu{t0:List Int}(h:Ready (sN L) r L.length P t0 0):∀(k i:Nat) (b:Bool),i+k=P.length->
  ∃ b',Ac (Fl (J4 L) (V9 (r::P))) (b,(i:Int),AA (sN L) L.length P t0 i)=some (b',AA (sN L) L.length P t0 P.length) /\
   (b'=false↔b=false/\∀ j,i<=j->j<P.length->Br (AA (sN L) L.length P t0 j) (P.getD j 0)=(Pm (sN L) L.length (AA (sN L) L.length P t0 j) (P.getD j 0):Int)):=by
 have hP64:P.length<=64:=by
  have h1:=Tm L.length (r::P) o.nodup λx hx=>o.lt hx;have h2:=(mayS_iff.1 hm).2.1;simp at h1;omega
 have hdl:(V9 (r::P)).drop (1:Int).toNat=V9 P:=rfl
 have hlen:(V9 P).length=P.length:=by simp[V9]
 intro k
 induction k with
 | zero=>
  intro i b hi
  obtain rfl:i=P.length:=by omega
  refine⟨b,Am ?_,λh=>⟨h,λj h1 h2=>by omega⟩,λh=>h.1⟩;unfold Fl;simp only[hdl,hlen,Co,Au]
 | succ k ih=>
  intro i b hi
  have hil:i<P.length:=by omega
  have rd:=h.round o i (by omega);have hma:=af hm o rd hil;have hyn:P.getD i 0<L.length:=o.lt (Oa _ (We hil))
  have hyt:P.getD i 0<(AA (sN L) L.length P t0 i).length:=by rw[rd.len];exact hyn
  have hpred:(J4 L).Pred=Cx L:=rfl
  by_cases he:Br (AA (sN L) L.length P t0 i) (P.getD i 0)=(Pm (sN L) L.length (AA (sN L) L.length P t0 i) (P.getD i 0):Int)
  ·have hb:((Pm (sN L) L.length (AA (sN L) L.length P t0 i) (P.getD i 0):Int)!=(AA (sN L) L.length P t0 i).getD (P.getD i 0) 0)=false:=by
    have:(AA (sN L) L.length P t0 i).getD (P.getD i 0) 0=_:=he;rw[this];simp
   have hnx:AA (sN L) L.length P t0 (i+1)=AA (sN L) L.length P t0 i:=eA hyt he
   have hs:Fl (J4 L) (V9 (r::P)) (b,(i:Int),AA (sN L) L.length P t0 i)=some (.next (b,((i+1:Nat):Int),AA (sN L) L.length P t0 (i+1))):=by
    unfold Fl;simp only[hdl,hlen,Bt hil,Ah,Ak,dR hil,hpred,hma,An,hb,Au];rw[Ad (Fy hil),Ad (Fy (by rw[Pt];exact hyn)),Ad (Fy hyt),An,w1 (by omega),hnx]
   obtain⟨b',e1,e2⟩:=ih (i+1) b (by omega);refine⟨b',by rw[Aq hs,e1],λh=>?_,λ⟨h1,h2⟩=>e2.2 ⟨h1,λj hj=>h2 j (by omega)⟩⟩;obtain⟨h1,h2⟩:=e2.1 h;refine⟨h1,λj hj1 hj2=>?_⟩
   by_cases e:j=i
   ·subst e;exact he
   ·exact h2 j (by omega) hj2
  ·have hb:((Pm (sN L) L.length (AA (sN L) L.length P t0 i) (P.getD i 0):Int)!=(AA (sN L) L.length P t0 i).getD (P.getD i 0) 0)=true:=by
    rw[zzL101];exact λe=>he e.symm
   have hs:Fl (J4 L) (V9 (r::P)) (b,(i:Int),AA (sN L) L.length P t0 i)=some (.next (true,((i+1:Nat):Int),AA (sN L) L.length P t0 (i+1))):=by
    unfold Fl;simp only[hdl,hlen,Bt hil,Ah,Ak,dR hil,hpred,hma,An,hb];rw[Ad (Fy hil),Ad (Fy (by rw[Pt];exact hyn)),Ad (Fy hyt),Ad (Fy hyt),An,w1 (by omega)]
    rfl
   obtain⟨b',e1,e2⟩:=ih (i+1) true (by omega);refine⟨b',by rw[Aq hs,e1],λh=>?_,λ⟨h1,h2⟩=>absurd (h2 i (zzL6 _) hil) he⟩;obtain⟨h1,_⟩:=e2.1 h;cases h1
theorem mH{t0:List Int}(h:Ready (sN L) r L.length P t0 0):∃ b,Ac (Fl (J4 L) (V9 (r::P))) (false,(0:Int),t0)=some (b,AA (sN L) L.length P t0 P.length)/\(b=false↔AK (sN L) L.length P t0):=by
 obtain⟨b,e1,e2⟩:=gu hm o h P.length 0 _ (by omega);refine⟨b,e1,e2.trans ⟨λ⟨_,h2⟩=>?_,λhs=>⟨rfl,λj _ hj=>?_⟩⟩⟩
 ·have key:∀ j,j<=P.length->AA (sN L) L.length P t0 j=t0:=by
   intro j
   induction j with
   | zero=>intro _;rfl
   | succ j ih=>
    intro hj;have ih':=ih (by omega);have rd:=h.round o j (by omega)
    have hyn:P.getD j 0<(AA (sN L) L.length P t0 j).length:=by rw[rd.len];exact o.lt (Oa _ (We (by omega)))
    have:AA _ _ P t0 (j+1)=AA _ _ P t0 j:=eA hyn (h2 j (P6 _) (by omega));rw[this,ih']
  intro i hi;have:=h2 i (P6 _) hi;rwa[key i (by omega)]at this
 ·rw[CA o h.len hs j (by omega)];exact hs j hj
open Classical in
theorem j6(j:Nat):Hx (J4 L) (V9 (r::P),UG (sN L) L.length P (Jd L.length r) j)=some (if AK (sN L) L.length P (UG (sN L) L.length P (Jd L.length r) j) then .done (UG (sN L) L.length P (Jd L.length r) (j+1)) else .next (V9 (r::P),UG (sN L) L.length P (Jd L.length r) (j+1))):=by
 obtain⟨b,e1,e2⟩:=mH hm o (Ready.rounds o j);have hL2:Vp (J4 L) (V9 (r::P))=Fl (J4 L) (V9 (r::P)):=rfl
 have hlen:(0:Int)<=1/\(1:Int)<=((V9 (r::P)).length:Int):=by simp[V9];omega
 unfold Hx;simp only[hL2,e1,An];rw[Ad hlen]
 cases b with
 | false=>rw[if_pos (e2.1 rfl)];rfl
 | true=>rw[if_neg (λh=>by have:=e2.2 h;cases this)];rfl
theorem eI:∃ J,AK (sN L) L.length P (UG (sN L) L.length P (Jd L.length r) J)/\Ac (Hx (J4 L)) (V9 (r::P),Jd L.length r)=some (UG (sN L) L.length P (Jd L.length r) J):=by
 obtain⟨J,h1,h2⟩:=uz o;refine⟨J,h2,?_⟩
 have key:∀ d j,j+d=J->Ac (Hx (J4 L)) (V9 (r::P),UG (sN L) L.length P (Jd L.length r) j)=some (UG (sN L) L.length P (Jd L.length r) J):=by
  intro d
  induction d with
  | zero=>
   intro j hj
   obtain rfl:j=J:=by omega
   have hF:=j6 hm o j;rw[if_pos h2]at hF;rw[Am hF];have:UG _ _ P _ (j+1)=UG _ _ P _ j:=CA o (Ready.rounds o j).len h2 _ (zzL6 _);rw[this]
  | succ d ih=>
   intro j hj;have hF:=j6 hm o j;rw[if_neg (h1 j (by omega))]at hF;rw[Aq hF];exact ih _ (by omega)
 exact key J 0 (by omega)
end
theorem wY(g:TGraph)(r:Int)(h1:Fits g.Succ)(h2:Fits g.Pred):Tv g r=some (MH g r):=by
 unfold MH
 by_cases hc:DZ g=true/\0<=r/\r<g.Succ.length
 ·rw[if_pos hc];obtain⟨hG,h0,hlt⟩:=hc;obtain⟨hm,hg⟩:=jZ hG;obtain⟨hL1,hL64,_⟩:=mayS_iff.1 hm
  have hr:r.toNat<g.Succ.length:=by omega
  obtain⟨O,hO⟩:=Ord.exist (Wu hm) hr;have hord:=(ae g h1 trivial r).1 hG h0 hlt O hO;obtain⟨P,rfl,o⟩:=hO.ordered hr (Wu hm);obtain⟨J,hJ,hl⟩:=eI hm o;have ht:=(MG o hJ).eq hm hr o;rw[ht]at hl;have hlen:(((V9 (r.toNat::P)).length:Int)==0)=false:=zzL29.2 (by simp[V9];omega)
  have hlen2:(0:Int)<=1/\(1:Int)<=(V9 (r.toNat::P)).length:=by simp[V9];omega
  have hL2:Vp g _=Fl g (V9 (r.toNat::P)):=rfl
  have hst:(Rx (Hx g (V9 (r.toNat::P),Jd g.Succ.length r.toNat)) (Hx g))=some (Y6 g.Succ r.toNat):=by
   rw[MC,hg];exact hl
  unfold Tv;rw[hord,An,  pG hL1 hL64,An,Ad (yh h0 (by simpa using hlt)),Ad hlen2]
  have:(Hx g (V9 (r.toNat::P),Jd g.Succ.length r.toNat))=(Ac (Fl g (V9 (r.toNat::P))) (false,0,(List.replicate g.Succ.length (-2)).set r.toNat (-1))).bind (λx22=>(match x22 with|(b10,l11)=>(bif b10 then(some (.next (V9 (r.toNat::P),l11))) else(some (.done l11))))):=by
   unfold Hx Jd;simp only[hL2];rw[Ad hlen2]
  rw[this]at hst;refine Eq.trans ?_ (Bg (λx =>x.bind λx42=>some x42) hst)
  rfl
 ·rw[if_neg hc];unfold Tv
  have:(DZ g&&(decide (0<=r)&&decide (r<g.Succ.length)))=false:=by
   grind
  rw[(ae g h1 trivial r).2 this]
  rfl
theorem vu{α:Type}(l:List α)(d:α)(p:α->Bool){X:Type}(f:Int->Option (LR Int X))(yes no:X)(hl:l.length<9223372036854775808)(hk:∀ i:Nat,i<l.length->f i=some (bif p (l.getD i d) then .next (w64 ((i:Int)+1)) else .done no))
  (he:f l.length=some (.done yes)):Ac f (0:Int)=some (bif l.all p then yes else no):=by
 have:=Hi l d p f yes no (λi hi hp=>by rw[hk i hi,hp,Ah,A6 hi hl]) (λi hi hp=>by grind) he l.length 0 (by omega);rwa[Ob]at this
theorem wL(f:TFunc)(hf:YS f)(l:Int)(t:List Int)(u:List Be):Kg f l t u=some (bif Qz f then 0 else 4,f,l,t,u):=by
 unfold Kg Nq;rw[Aan f hf]
 cases Qz f<;>rfl
theorem lG(phis:List Ba)(l:List Int)(h1:phis.length<9223372036854775808)(h2:l.length<4611686018427387904):Pe phis l=some (phis.all (Jp l)):=by
 unfold Pe
 rw[vu _ _ (Jp l) _ (.inl ()) _ h1 (λi hi=>by
  unfold Pq
  have hd:decide ((i:Int)<phis.length)=true:=by simpa using hi
  simp only[hd, Aa (Ai hi),Dy,aa _ _ h2, Jp]
  cases decide ((phis.getD i _).From=l) with
  | false=>rfl
  | true=>
   grind) (by unfold Pq;simp)]
 cases phis.all _<;>rfl
def fR(e:Kb):Bool:=!((e.Kind==1 || e.Kind==3)&&(e.Arg !=0))
theorem lA{n:Nat}(e:Kb)(hk:Kd e n=true):Pd e=some (fR e):=by
 have h4 :=by
  have:=(A5 _ _▸hk).1;unfold Yy at this;simp only[A5,Fz]at this;omega
 unfold Pd fR
 have:e.Kind=0\/e.Kind=1\/e.Kind=2\/e.Kind=3:=by omega
 rcases this with h|h|h|h<;>rw[h]<;>cases hb:(e.Arg==0)<;>simp[hb,bne]
theorem gZ{L:List (List Int)}(hm:Mq L=true){P:List Nat}(h0:0<L.length)(o:Ord (sN L) 0 P):decide (P.length<L.length) = !(List.range L.length).all λi=>(Q4 L).getD i false:=by
 have hin:∀ x∈P,x<L.length:=λx hx=>(by obtain⟨Q,rfl,oo⟩:=o.ordered h0 (Wu hm);exact oo.lt hx)
 have hr:∀ z,(Q4 L).getD z _=true↔z∈P:=λz=>by
  rw[o.mem z];exact BP (Wu hm) h0 z
 cases ha:(List.range _).all _ with
 | true=>
  have:=((List.perm_ext_iff_of_nodup o.nodup List.nodup_range).2 λi=>⟨λh=>zzL41.2 (hin i h),λh=>(hr i).1 (zzL27.1 ha i h)⟩).length_eq;rw[S4]at this
  simp;omega
 | false=>
  obtain⟨i,hi,hni⟩:∃ i,i<L.length/\i∉P:=bP λhc=>by
   grind
  have :=Tm L.length _ (zzL113.2 ⟨hni,o.nodup⟩) (λx hx=>by grind);simp at this ⊢;omega
theorem oK {f : TFunc} (hf : OkF f) (l : Int) (t : List Int) (u : List Be) : ∃ t', I5 f l t u = some (bif Fd f then 0 else 5, f, l, t', u) ∧ (Fd f = true → t' = B6 f) := by
  have hmax : f.Blocks.length ≤ maxLen := by have := hf.blocks; have : (64 : Nat) ≤ maxLen := by decide
                                             omega
  unfold I5; rw [yo f hmax, An]
  cases hs : Gp f with
  | false => exact ⟨t, by unfold Fd; rw [hs]; rfl, fun h => by unfold Fd at h; rw [hs] at h; cases h⟩
  | true =>
    have hm := Jq hs; have hlen := Ly f
    have hpos : 0 < (Az f).length := by have := (shape_iff.1 hs).1.1; omega
    obtain ⟨h1, h2⟩ := HC hm; obtain ⟨P, hP⟩ := Ord.exist (Wu hm) hpos; have ho := (ae (J4 (Az f)) h1 trivial 0).1 (QJ hm) (by omega) (by show (0 : Int) < ((Az f).length : Int); omega) P hP; have hfull := gZ hm hpos hP; simp only [Ah,  show ((0 : Int) != 0) = false from rfl, Au, ho, An, show (false == false) = true from rfl]
    have e1 : decide (((V9 P).length : Int) < (f.Blocks.length : Int)) = decide (P.length < (Az f).length) := by
      rw [hlen]; apply zzL76.2; simp [V9]
    rw [e1, hfull]
    have hsd : Fd f = (((List.range f.Blocks.length).all fun i => (Q4 (Az f)).getD i false) && (List.range f.Blocks.length).all fun i => fR (f.Blocks.getD i default).End && (f.Blocks.getD i default).Phis.all (Jp ((Cx (Az f)).getD i []))) := by
      unfold Fd; rw [hs, Mu]
      have : ∀ (n : Nat) (p q : Nat → Bool), ((List.range n).all fun i => p i && q i) = ((List.range n).all p && (List.range n).all q) := fun n p q => by
        grind
      rw [← this]
      congr 1
      funext i
      show (_ && _ && _) = _
      rw [Bool.and_assoc]
      rfl
    rw [hlen]; rw [hsd]
    cases hr : (List.range f.Blocks.length).all _ with
    | false => exact ⟨t, rfl, fun h => by cases h⟩
    | true =>
      refine ⟨B6 f, ?_, fun _ => rfl⟩; rw [D6, Au, wY _ 0 h1 h2, An, Mu]; have hp := Ye hm
      have hpl : (J4 (Az f)).Pred.length = f.Blocks.length := by rw [← hlen]; exact Pt _
      have key : Ac (Du f l u (J4 (Az f), 0) (B6 f)) (0 : Int) = some (bif (List.range f.Blocks.length).all (fun i => fR (f.Blocks.getD i default).End && (f.Blocks.getD i default).Phis.all (Jp ((Cx (Az f)).getD i []))) then .inl () else .inr ((5 : Int), f, l, B6 f, u)) := by
        have hk : ∀ i : Nat, i < f.Blocks.length → Du f l u (J4 (Az f), 0) (B6 f) (i : Int) = some (bif (fR (f.Blocks.getD i default).End && (f.Blocks.getD i default).Phis.all (Jp ((Cx (Az f)).getD i []))) then .next ((i : Int) + 1) else .done (.inr ((5 : Int), f, l, B6 f, u))) := fun i hi => by
          have hB := hf.block _ (Ag (d := (default : Ae)) hi); have hpi : A1 (i : Int) (J4 (Az f)).Pred.length := Ai (by omega); have hpg : ((J4 (Az f)).Pred.getD i []).length ≤ 64 := hp.2 _ (Ag (by rw [Pt]; omega)); unfold Du
          have hd : decide ((i : Int) < (f.Blocks.length : Int)) = true := by simpa using hi
          simp only [hd, Ah, Aa (Ai hi), Aa hpi, Dy, lG (f.Blocks.getD i default).Phis ((J4 (Az f)).Pred.getD i []) (by have := hB.phis; omega) (by omega), An]; have ha  := lA (n := f.Blocks.length) (f.Blocks.getD i default).End ((shape_iff.1 hs).2 i hi); rw [ha, A6 hi (by have := hf.blocks; omega)]
          show _ = some (bif (fR (f.Blocks.getD i default).End && (f.Blocks.getD i default).Phis.all (Jp ((J4 (Az f)).Pred.getD i []))) then _ else _)
          cases (f.Blocks.getD i default).Phis.all _ <;> cases fR (f.Blocks.getD i default).End <;> rfl
        exact JG _ _ _ _ _ (fun i hi hp => by rw [hk i hi, hp]; rfl) (fun i hi hp => by rw [hk i hi, hp]; rfl) (by unfold Du; simp)
      show ((Ac (Du f l u (J4 (Az f), 0) (B6 f)) (0 : Int)).bind _) = _
      rw [key, An]
      cases (List.range f.Blocks.length).all _ <;> rfl
theorem wG(o:B2)(l:Int)(h0:0<=l)(h2:l<=2)(hk:Gs o=true):Tb o l=some (!decide (OA l<o.Kind)&&!(decide (l<2)&&decide (1<o.Lanes))):=by
 have hl:=o8 hk
 have hK :=by
  simp only[Gs,A5]at hk;have:=hk.1.2.1.1.1;unfold cm at this;simp only[A5,Fz]at this;omega
 unfold Tb OA
 have:l=0\/l=1\/l=2:=by omega
 rcases this with rfl|rfl|rfl
 ·have ha:decide (o.Kind<=17) = !decide (17<o.Kind):=by grind
  have hb:(o.Lanes==1) = !decide (1<o.Lanes):=by grind
  show some _=some (!decide (17<o.Kind)&&!(true&&decide _))
  rw[ha,hb]
  cases decide (17<o.Kind)<;>cases decide (1<o.Lanes)<;>rfl
 ·have ha:decide (o.Kind<=20) = !decide (20<o.Kind):=by grind
  have hb:(o.Lanes==1) = !decide (1<o.Lanes):=by grind
  show some _=some (!decide (20<o.Kind)&&!(true&&decide _))
  rw[ha,hb]
  cases decide (20<o.Kind)<;>cases decide (1<o.Lanes)<;>rfl
 ·grind
theorem lF(o:B2)(ho:bp o)(f:TFunc)(l:Int)(h0:0<=l)(h2:l<=2)(t:List Int)(u:List Be):Ic o f l t u=some (Lq l o,f,l,t,u):=by
 unfold Ic Lq;rw[PV o ho,An]
 cases hk:Gs o with
 | false=>rfl
 | true=>
  rw[show(true==true)=true from rfl,Ah,wG o l h0 h2 hk,An,Ah,Mu]
theorem sT(b:Ae){f:TFunc}(hf:OkF f)(hb:b∈f.Blocks)(l:Int)(h0:0<=l)(h2:l<=2)(t:List Int)(u:List Be):Md b.Ops f l t u=some (b.Ops.all (Lq l),f,l,t,u):=by
 have hB:=hf.block b hb
 have key:∀ k i ,i+k=b.Ops.length->Ac (Hj b.Ops) (i,f.Params,f.Ret,f.Blocks,l,t,u)=some (bif (b.Ops.drop i).all (Lq l) then .inl (f.Params,f.Ret,f.Blocks,l,t,u) else .inr (false,f,l,t,u)):=by
  intro k
  induction k with
  | zero=>
   intro i h
   obtain rfl:i=b.Ops.length:=by omega
   rw[Am (x:=.inl (f.Params,f.Ret,f.Blocks,l,t,u)) (by unfold Hj;simp)]
   simp
  | succ k ih=>
   intro i h
   have hi:i<b.Ops.length:=by omega
   have hd:decide (i<(b.Ops.length:Int))=true:=by simpa using hi
   have hdr:b.Ops.drop i=b.Ops.getD i default::b.Ops.drop (i+1):=by simp_all
   have hx:=lF (b.Ops.getD i default) (lr hf hb (Ag hi)) f l h0 h2 t u;rw[hdr,V3]
   cases ho:Lq l _ with
   | true=>
    rw[ho]at hx
    rw[Aq (s':=(((i+1:Nat):Int),f.Params,f.Ret,f.Blocks,l,t,u)) (by
     unfold Hj;simp only[hd, Aa (Ai hi),Dy,hx,   A6 hi (by have:=hB.ops;omega)]
     rfl),ih _ (by omega),Mu]
   | false=>
    rw[ho]at hx
    rw[Am (x:=.inr (false,f,l,t,u)) (by
     unfold Hj
     simp only[hd,Ah,Aa (Ai hi),Dy,hx,An,L5])]
    rfl
 unfold Md;rw[show(0:Int)=(0:Nat) from rfl,key b.Ops.length 0 (by omega),Ob]
 cases b.Ops.all _<;>rfl
theorem oD(b:Ae)(h:b.Phis.length<9223372036854775808):Ln b.Phis=some (b.Phis.all λp=>widthB p.Bits):=by
 unfold Ln
 rw[vu _ _ (λp=>widthB _) _ (.inl ()) _ h (λi hi=>by
  unfold Me Rp
  have hd:decide (i<(b.Phis.length:Int))=true:=by simpa using hi
  simp only[hd, Aa (Ai hi),Dy,Wx]
  cases widthB _<;>rfl) (by unfold Me;simp)]
 cases b.Phis.all _<;>rfl
theorem oC(p:List Int)(h:p.length<9223372036854775808):Pc p=some (p.all widthB):=by
 unfold Pc
 rw[vu p 0 widthB _ (.inl ()) _ h (λi hi=>by
  unfold Pp
  have hd:decide (i<(p.length:Int))=true:=by simpa using hi
  simp only[hd, Aa (Ai hi),Dy,Wx]
  cases widthB _<;>rfl) (by unfold Pp;simp)]
 cases p.all _<;>rfl
theorem ZH(b:Ae){f:TFunc}(hf:OkF f)(hb:b∈f.Blocks)(l:Int)(h0:0<=l)(h2:l<=2)(t:List Int)(u:List Be):Gu b f l t u=some (F2 l b,f,l,t,u):=by
 unfold Gu F2;rw[oD b (by have:=(hf.block b hb).phis;omega), sT b hf hb l h0 h2 t u]
 cases(b.Phis.all _)<;>rfl
theorem sb{f:TFunc}(hf:OkF f)(l:Int)(h0:0<=l)(h2:l<=2)(t:List Int)(u:List Be):Jv f l t u=some (bif N7 f l then 0 else 6,f,l,t,u):=by
 have key:∀ k i ,i+k=f.Blocks.length->Ac (Fk f.Blocks) (i,f.Params,f.Ret,f.Blocks,l,t,u)=some (bif (f.Blocks.drop i).all (F2 l) then .inl (f.Params,f.Ret,f.Blocks,l,t,u) else .inr (false,f,l,t,u)):=by
  intro k
  induction k with
  | zero=>
   intro i h
   obtain rfl:i=f.Blocks.length:=by omega
   rw[Am (x:=.inl (f.Params,f.Ret,f.Blocks,l,t,u)) (by unfold Fk;simp)]
   simp
  | succ k ih=>
   intro i h
   have hi:i<f.Blocks.length:=by omega
   have hd:decide ((i:Int)<f.Blocks.length)=true:=by simpa using hi
   have hdr:f.Blocks.drop i=f.Blocks.getD i default::f.Blocks.drop (i+1):=by simp_all
   have hx:=ZH (f.Blocks.getD i default) hf (Ag hi) l h0 h2 t u;rw[hdr,V3]
   cases ho:F2 l _ with
   | true=>
    rw[ho]at hx
    rw[Aq (s':=(((i+1:Nat):Int),f.Params,f.Ret,f.Blocks,l,t,u)) (by
     unfold Fk;simp only[hd, Aa (Ai hi),Dy,hx,   A6 hi (by have:=hf.blocks;omega)]
     rfl),ih _ (by omega),Mu]
   | false=>
    rw[ho]at hx
    rw[Am (x:=.inr (false,f,l,t,u)) (by
     unfold Fk
     simp only[hd,Ah,Aa (Ai hi),Dy,hx,An,L5])]
    rfl
 have hall:Ju f.Blocks f l t u=some (f.Blocks.all (F2 l),f,l,t,u):=by
  unfold Ju;rw[show(0:Int)=(0:Nat) from rfl,key f.Blocks.length 0 (by omega),Ob]
  cases f.Blocks.all _<;>rfl
 unfold Jv N7 Nq;rw[oC _ (by have:=hf.few;omega), hall,Wx]
 cases f.Params.all _<;>cases widthB f.Ret<;>cases f.Blocks.all _<;>rfl
def uh(d:Bx):L8:=bif decide (d.Block<0) then⟨0,-1⟩ else⟨d.Block,d.At⟩
def SE(d:Bx):Ay:=⟨d.Shape,uh d⟩
def dv(l:List Bx):List (Int×Ay):=l.map λd=>(d.V,SE d)
def UQ(acc:List (Int×Ay))(v:Int):Bool:=(Ed acc v || decide (v<1)) || decide (1023<v)
def Lg:List (Int×Ay)->List Bx->Bool×List (Int×Ay)
 | acc,[]=>(true,acc)
 | acc,d::ds=>bif UQ acc d.V then(false,acc) else Lg (Jm acc d.V (SE d)) ds
theorem JA:∀(a b:List Bx) (acc:List (Int×Ay)),Lg acc (a++b)=bif (Lg acc a).1 then Lg (Lg acc a).2 b else Lg acc a
 | [],b,acc=>rfl
 | d::a,b,acc=>by
  rw[CG];simp only[Lg]
  cases UQ acc d.V with
  | true=>rfl
  | false =>  exact JA a b _
theorem QK{V:Type}(k:Int):∀ l:List (Int×V),Ed l k=l.any λq=>k==q.1
 | []=>rfl
 | (a,b)::l=>by rw[List.any_cons,<- QK k l];rfl
theorem JL{V:Type}(k:Int)(v:V):∀{l:List (Int×V)},Ed l k=false->Jm l k v=l++[(k,v)]
 | [],_=>rfl
 | (a,b)::l,h=>by
  simp only[Ed,KF]at h;simp only[Jm,h.1,Au,JL k v h.2,CG]
theorem cN(v:Int)(s:Int×Int)(p:L8)(f:TFunc)(l:Int)(t:List Int)(vs:List (Int×Ay))(u:List Be) :
  Gv v s p f l t vs u=some (bif UQ vs v then(false,f,l,t,u,vs) else(true,f,l,t,u,Jm vs v ⟨s,p⟩)):=by
 unfold Gv UQ
 cases Ed vs v<;>cases decide (v<1)<;>cases decide (1023<v)<;>rfl
def tt(f:TFunc)(l:Int)(t:List Int)(u:List Be)(r:Bool×List (Int×Ay)):(List Int×Int×List Ae×Int×List Int×List Be×List (Int×Ay)) ⊕ (Bool×TFunc×Int×List Int×List Be×List (Int×Ay)):=
 bif r.1 then .inl (f.Params,f.Ret,f.Blocks,l,t,u,r.2) else .inr (false,f,l,t,u,r.2)
theorem wJ(b:Ae)(h:b.Phis.length<9223372036854775808)(i:Nat)(f:TFunc)(l:Int)(t:List Int)(u:List Be):∀(k j:Nat) (vs:List (Int×Ay)),j+k=b.Phis.length->
  Ac (Dz (i:Int) b) ((j:Int),f.Params,f.Ret,f.Blocks,l,t,u,vs)=some (tt f l t u (Lg vs ((List.range' j k).flatMap λ(k:Nat)=>[(⟨(b.Phis.getD k default).Dst,i,-1,((b.Phis.getD k default).Bits,1)⟩:Bx)]))):=by
 intro k
 induction k with
 | zero=>
  intro j vs hj
  obtain rfl:j=b.Phis.length:=by omega
  rw[Am (x:=.inl (f.Params,f.Ret,f.Blocks,l,t,u,vs)) (by unfold Dz;simp)]
  rfl
 | succ k ih=>
  intro j vs hj
  have hi:j<b.Phis.length:=by omega
  have hd:decide (j<(b.Phis.length:Int))=true:=by simpa using hi
  have hx:=cN (b.Phis.getD j default).Dst ((b.Phis.getD j default).Bits,1) ⟨(i:Int),-1⟩ f l t vs u
  have hat:uh ⟨(b.Phis.getD j default).Dst,i,-1,((b.Phis.getD j default).Bits,1)⟩=⟨i,-1⟩:=by   rfl
  rw[EX,MM,List.singleton_append];simp only[Lg]
  cases hb:UQ vs _ with
  | true=>
   rw[hb]at hx
   rw[Am  (by
    unfold Dz Ex;simp only[hd, Aa (Ai hi),Dy,An];rw[ hx]
    rfl)]
   rfl
  | false=>
   rw[hb]at hx
   rw[Aq (s':=(((j+1:Nat):Int),f.Params,f.Ret,f.Blocks,l,t,u,Jm vs _ _)) (by
    unfold Dz Ex;simp only[hd, Aa (Ai hi),Dy,An];rw[ hx,A6 hi h]
    rfl),ih _ _ (by omega)]
   unfold SE
   rfl
theorem ya{f0:TFunc}(hf:OkF f0){b:Ae}(hb:b∈f0.Blocks)(i:Nat)(f:TFunc)(l:Int)(t:List Int)(u:List Be):∀(k j:Nat) (vs:List (Int×Ay)),j+k=b.Ops.length->
  Ac (Cp (i:Int) b) ((j:Int),f.Params,f.Ret,f.Blocks,l,t,u,vs)=some (tt f l t u (Lg vs ((List.range' j k).flatMap λ(k:Nat)=>bif decide (0<(H1 (b.Ops.getD k default)).1) then[(⟨(b.Ops.getD k default).Dst,i,k,H1 (b.Ops.getD k default)⟩:Bx)] else[]))):=by
 have hB:=hf.block b hb;intro k
 induction k with
 | zero=>
  intro j vs hj
  obtain rfl:j=b.Ops.length:=by omega
  rw[Am (x:=.inl (f.Params,f.Ret,f.Blocks,l,t,u,vs)) (by unfold Cp;simp)]
  rfl
 | succ k ih=>
  intro j vs hj
  have hi:j<b.Ops.length:=by omega
  have hd:decide ((j:Int)<(b.Ops.length:Int))=true:=by simpa using hi
  have hg:Qq _=some (H1 (b.Ops.getD j default)):=fq _ (lr hf hb (Ag hi));have hx:=cN (b.Ops.getD j default).Dst (H1 (b.Ops.getD j default)) (⟨(i:Int),(j:Int)⟩:L8) f l t vs u
  have hat:uh (⟨(b.Ops.getD j default).Dst,i,j,H1 (b.Ops.getD j default)⟩:Bx)=⟨(i:Int),(j:Int)⟩:=by unfold uh; rfl
  rw[EX,MM]
  cases hp:decide (0<(H1 _).1) with
  | false=>
   rw[Au,Za,<- ih (j+1) vs (by omega),Aq (s':=(((j+1:Nat):Int),f.Params,f.Ret,f.Blocks,l,t,u,vs)) (by
    unfold Cp;simp only[hd,Ah,Aa (Ai hi),Dy,hg,An,hp];rw[A6 hi (by have:=hB.ops;omega)]
    rfl)]
  | true=>
   rw[Ah,List.singleton_append];simp only[Lg]
   cases hb:UQ vs _ with
   | true=>
    rw[hb]at hx
    rw[Am  (by
     unfold Cp;simp only[hd,Ah,Aa (Ai hi),Dy,hg,An,hp];rw[show(true==true)=true from rfl,Ah, hx]
     rfl)]
    rfl
   | false=>
    rw[hb]at hx
    rw[Aq (s':=(((j+1:Nat):Int),f.Params,f.Ret,f.Blocks,l,t,u,Jm vs _ _)) (by
     unfold Cp;simp only[hd,Ah,Aa (Ai hi),Dy,hg,An,hp];rw[show(true==true)=true from rfl,Ah, hx,A6 hi (by have:=hB.ops;omega)]
     rfl),ih (j+1) _ (by omega)]
    unfold SE
    rfl
theorem cO{f:TFunc}(hf:OkF f){b:Ae}(hb:b∈f.Blocks)(i:Nat)(l:Int)(t:List Int)(u:List Be)(vs:List (Int×Ay)) :
  Hg (i:Int) b f l t vs u=some ((Lg vs (Rb b i)).1,f,l,t,u,(Lg vs (Rb b i)).2):=by
 unfold Hg Rb;rw[show 0=((0:Nat):Int) from rfl,wJ b (by have:=(hf.block b hb).phis;omega) i f l t u b.Phis.length 0 vs (by omega),An,JA];rw[show(List.range' 0 _).flatMap _=R0 b i by rw[R0,Sn]];unfold tt
 cases h1:(Lg vs _).1 with
 | false=>grind
 | true=>
  simp only[Ah];rw[ya hf hb i f l t u b.Ops.length 0 _ (by omega)];rw[show(List.range' 0 _).flatMap _=Xh b i by rw[Xh,Sn]];unfold tt;cases h2:(Lg _ _).1<;>rfl
theorem Wj{l:List Bx}{i:Nat}(hi:i<l.length):Rf l i=true↔valS (l.getD i default).V=true/\∀ j,j<i->(l.getD j default).V≠(l.getD i default).V:=by
 unfold Rf;rw[A5];refine and_congr Iff.rfl ?_;unfold Lr
 cases hx:l.findIdx? _ with
 | none=>
  rw[List.findIdx?_eq_none_iff]at hx;have:=hx _ (Ag (d:=default) hi);simp at this
 | some j=>
  obtain⟨hj,h1,h2⟩:=List.findIdx?_eq_some_iff_getElem.1 hx;simp only[zzL63]
  constructor
  ·grind
  ·intro h
   have hv:(l.getD j default).V=(l.getD i default).V:=by grind
   rcases Nat.lt_trichotomy j i with hlt|rfl|hgt
   ·grind
   ·rfl
   ·grind
theorem tO(l:List Bx)(v:Int):Ed (dv l) v=l.any λd=>v==d.V:=by
 rw[QK,dv,List.any_map];rfl
theorem PF:∀(ds pre:List Bx),(Lg (dv pre) ds).1=(List.range' pre.length ds.length).all (Rf (pre++ds))/\((Lg (dv pre) ds).1=true->(Lg (dv pre) ds).2=dv (pre++ds))
 | [],pre=>by simp[Lg]
 | d::ds,pre=>by
  have hi:pre.length<(pre++d::ds).length:=by simp
  have hg:(pre++d::ds).getD pre.length default=d:=by simp[List.getD]
  have hj:∀ j,j<pre.length->(pre++d::ds).getD j default=pre.getD j default:=λj h=>by grind
  have hok:Rf (pre++d::ds) pre.length = !UQ (dv pre) d.V:=by
   rw[EZ,Wj hi,hg];unfold UQ valS;rw[tO];simp only[Y9,KF,SK,List.any_eq_false,zzL63,A5,Fz]
   constructor
   ·rintro⟨⟨h1,h2⟩,h3⟩;refine⟨⟨λx hx he=>?_,by omega⟩,by omega⟩;obtain⟨j,hjl,rfl⟩:=Gr hx;have:=h3 j hjl;rw[hj j hjl,Ab _ _ _ hjl]at this;exact this he.symm
   ·grind
  rw[EY,EX,V3,hok];simp only[Lg]
  cases hb:UQ _ d.V with
  | true=>grind
  | false=>
   have hn :=by
    unfold UQ at hb;simp only[KF]at hb;exact hb.1.1
   have hs:Jm (dv pre) d.V (SE d)=dv (pre++[d]):=by rw[JL _ _ hn,dv,dv,Vf];rfl
   have:=PF ds (pre++[d]);rw[Fg,EW]at this;rw[ hs,L5];exact this
def pv(f:TFunc)(n:Nat):List (Int×Ay):=(List.range n).map λ(j:Nat)=>((j:Int)+1,⟨(f.Params.getD j 0,1),⟨0,-1⟩⟩)
theorem zD(f:TFunc):pv f f.Params.length=dv (Rd f):=by
 unfold pv dv Rd
 induction List.range _ with
 | nil=>rfl
 | cons a l ih=>rw[Cq, ih];rfl
theorem oJ{f:TFunc}(hf:OkF f):∀(k i:Nat),i+k=f.Params.length->Ac (Gw f) ((i:Int),pv f i)=some (pv f f.Params.length):=by
 intro k
 induction k with
 | zero=>
  intro i h
  obtain rfl:i=f.Params.length:=by omega
  exact Am (by unfold Gw;simp)
 | succ k ih=>
  intro i h
  have hi:i<f.Params.length:=by omega
  have hd:decide ((i:Int)<(f.Params.length:Int))=true:=by simpa using hi
  have hn:Ed (pv f i) ((i:Int)+1)=false:=by
   rw[QK,pv,List.any_map,List.any_eq_false];intro j hj;have:=zzL41.1 hj
   simp;omega
  have hs:Jm (pv f i) ((i:Int)+1) ⟨(f.Params.getD i 0,1),⟨0,-1⟩⟩=pv f (i+1):=by
   rw[JL _ _ hn,pv,pv,Vg,Vf];rfl
  rw[Aq  (by
   unfold Gw Ex;simp only[hd,Ah,Aa (Ai hi),Dy,An,A6 hi (by have:=hf.few;omega),hs]
   rfl)]
  exact ih (i+1) (by omega)
theorem oF{f:TFunc}(hf:OkF f)(l:Int)(t:List Int)(u:List Be):∀(k i:Nat) (vs:List (Int×Ay)),i+k=f.Blocks.length->
  Ac (Ew f) ((i:Int),vs,f.Params,f.Ret,f.Blocks,l,t,u)=some (bif (Lg vs ((List.range' i k).flatMap λi=>Rb (f.Blocks.getD i default) i)).1 then .inl ((Lg vs ((List.range' i k).flatMap λi=>Rb (f.Blocks.getD i default) i)).2,f.Params,f.Ret,f.Blocks,l,t,u) else
   .inr (7,f,l,t,u,(Lg vs ((List.range' i k).flatMap λi=>Rb (f.Blocks.getD i default) i)).2)):=by
 intro k
 induction k with
 | zero=>
  intro i vs h
  obtain rfl:i=f.Blocks.length:=by omega
  rw[Am (x:=.inl (vs,f.Params,f.Ret,f.Blocks,l,t,u)) (by unfold Ew;simp)]
  rfl
 | succ k ih=>
  intro i vs h
  have hi:i<f.Blocks.length:=by omega
  have hd:decide (i<(f.Blocks.length:Int))=true:=by simpa using hi
  have hx:=cO hf (Ag (d:=default) hi) i l t u vs;rw[EX,MM,JA]
  cases hb:(Lg vs _).1 with
  | false=>
   rw[hb]at hx
   rw[Am  (by
    unfold Ew;simp only[hd, Aa (Ai hi),Dy];rw[ hx]
    rfl),Au,hb]
   rfl
  | true=>
   rw[hb]at hx
   rw[Aq (s':=(((i+1:Nat):Int),(Lg vs _).2,f.Params,f.Ret,f.Blocks,l,t,u)) (by
    unfold Ew;simp only[hd, Aa (Ai hi),Dy];rw[ hx,A6 hi (by have:=hf.blocks;omega)]
    rfl),ih _ _ (by omega),Ah]
theorem okP{f:TFunc}(hf:OkF f):∀ i,i<f.Params.length->Rf (Aw f) i=true:=λi hi=>by
 have hl:=DA f
 have hg:∀ j,j<f.Params.length->(Aw f).getD j default=⟨j+1,-1,0,(f.Params.getD j 0,1)⟩:=λj hj=>by
  have e:Rd f=(List.range f.Params.length).map λi=>⟨(i:Int)+1,-1,0,(f.Params.getD i 0,1)⟩:=by
   unfold Rd
   induction List.range _ with
   | nil=>rfl
   | cons a l ih=>grind
  rw[Aw,List.getD,Ug (by omega),e];simp[hj]
 have hle:i<(Aw f).length:=by rw[Aw,Fg];omega
 rw[Wj hle,hg i hi];refine⟨?_,λj hj=>?_⟩
 ·have:=hf.few;simp only[valS,A5,Fz];omega
 ·grind
theorem lD{f:TFunc}(hf:OkF f)(l:Int)(t:List Int)(u:List Be):∃ vs,Ia f l t u=some (bif (List.range (Aw f).length).all (Rf (Aw f)) then 0 else 7,f,l,t,u,vs)/\((List.range (Aw f).length).all (Rf (Aw f))=true->vs=dv (Aw f)):=by
 have hsp:=PF ((List.range f.Blocks.length).flatMap λi=>Rb (f.Blocks.getD i default) i) (Rd f)
 have hall:(List.range (Aw f).length).all (Rf (Aw f))=(Lg (dv (Rd f)) ((List.range f.Blocks.length).flatMap λi=>Rb (f.Blocks.getD i default) i)).1:=by
  rw[hsp.1]
  show(List.range _).all _=(List.range' _ _).all (Rf (Aw f))
  have hs:List.range (Aw f).length=List.range (Rd f).length++List.range' (Rd f).length ((List.range f.Blocks.length).flatMap λi=>Rb (f.Blocks.getD i default) i).length:=by
   rw[Sn,Sn,Aw,Fg];have:=List.range'_append_1 (s:=0) (m:=(Rd f).length) (n:=((List.range f.Blocks.length).flatMap λi=>Rb (f.Blocks.getD i default) i).length);rw[F0]at this;exact this.symm
  rw[hs,List.all_append];have :=zzL27.2 λi hi=>okP hf i (by rw[<- DA f];exact zzL41.1 hi);rw[this,Mu]
 unfold Ia;have hp:=oJ hf f.Params.length 0 (by omega);have e0:pv f 0=[]:=rfl;rw[e0,show(((0:Nat):Int))=0 from rfl]at hp;rw[hp,An,zD];have hb:=oF hf l t u f.Blocks.length 0 (dv (Rd f)) (by omega);rw[show(((0:Nat):Int))=0 from rfl,<- Sn]at hb;rw[hb, hall];refine⟨(Lg _ _).2,?_,hsp.2⟩
 cases(Lg _ _).1<;>rfl
theorem DK{β S X:Type}(B:Nat)(mk:Int->List β->S)(out:List β->X)(n:Nat)(E:Nat->List β)(f:S->Option (LR S X))(hn:∀(acc:List β) (i:Nat),i<n->(acc++E i).length<=B->f (mk i acc)=some (.next (mk ((i:Int)+1) (acc++E i))))
  (hd:∀ acc:List β,f (mk n acc)=some (.done (out acc))):∀(k i:Nat) (acc:List β),i+k=n->(acc++(List.range' i k).flatMap E).length<=B->Ac f (mk i acc)=some (out (acc++(List.range' i k).flatMap E))
 | 0,i,acc,h,_=>by
  obtain rfl:i=n:=by omega
  rw[Am (hd acc)]
  simp
 | k+1,i,acc,h,hB=>by
  have hi:i<n:=by omega
  rw[EX,MM,<- EW]at hB ⊢;rw[Aq (hn acc i hi (by grind)),show(i+1)=((i+1:Nat):Int) by omega,DK B mk out n E f hn hd k _ _ (by omega) hB]
theorem dJ{β γ:Type}(h:β->γ)(n:Nat)(g:Nat->β):(List.range' 0 n).flatMap (λj=>[h (g j)])=((List.range n).flatMap λj=>[g j]).map h:=by
 rw[List.map_flatMap,Sn];rfl
theorem QI{β γ:Type}(h:β->γ)(n:Nat)(g:Nat->List β):(List.range' 0 n).flatMap (λj=>(g j).map h)=((List.range n).flatMap g).map h:=by
 rw[List.map_flatMap,Sn]
def Sw(f:TFunc)(b:Int):Int:=((f.Blocks.getD b.toNat default).Ops.length:Int)
def Jr(f:TFunc)(u:Cm):Be:=⟨u.V,u.Shape,⟨u.Block,bif u.At==1000 then Sw f u.Block else u.At⟩⟩
theorem jB(f:TFunc)(l:Int)(t:List Int)(vs:List (Int×Ay))(v:Int)(s:Int×Int)(p:L8)(u:List Be)(h:(u++[(⟨v,s,p⟩:Be)]).length<=10000000):Fa v s p f l t vs u=some (f,l,t,u++[⟨v,s,p⟩]):=by
 unfold Fa;rw[Ad (by rw[Fg]at h;rw[HZ];omega)]
theorem oI(f:TFunc)(l:Int)(t:List Int)(vs:List (Int×Ay))(b:Int)(hb:A1 b f.Blocks.length)(u:List Be):G8 b f l t vs u=some (⟨b,Sw f b⟩,f,l,t,u):=by
 unfold G8;rw[Ad hb];rfl
section
variable {f:TFunc} (hf:OkF f) (l:Int) (t:List Int) (vs:List (Int×Ay))
include hf
theorem wI(i k:Nat)(hi:i<f.Blocks.length)(hk:k<(f.Blocks.getD i default).Phis.length)(hfit:((f.Blocks.getD i default).Phis.getD k default).Args.length<=((f.Blocks.getD i default).Phis.getD k default).From.length)
  (hin:∀ x∈((f.Blocks.getD i default).Phis.getD k default).From,A1 x f.Blocks.length) (u:List Be) (hB:(u++(N8 ((f.Blocks.getD i default).Phis.getD k default)).map (Jr f)).length<=10000000) :
  Ac (Ep f vs (i:Int) (k:Int)) ((0:Int),f.Params,f.Ret,f.Blocks,l,t,u)=some (f.Params,f.Ret,f.Blocks,l,t,u++(N8 ((f.Blocks.getD i default).Phis.getD k default)).map (Jr f)):=by
 have hlen:=QZ hf (Ag  hi) (Ag (d:=default) hk)
 generalize hp:(f.Blocks.getD i _).Phis.getD k _=p at *
 have e:=dJ (Jr f) p.Args.length λj=>⟨p.Args.getD j 0,p.From.getD j 0,1000,(p.Bits,1)⟩
 have:=DK _ (λj u=>(j,f.Params,f.Ret,f.Blocks,l,t,u)) (λu=>(f.Params,f.Ret,f.Blocks,l,t,u)) _ (λj=>[Jr f _]) (Ep f vs i k) (λacc j hj hacc=>by
  unfold Ep Ex
  have hd:decide (j<(p.Args.length:Int))=true:=by simpa using hj
  have hjf:j<p.From.length:=by omega
  simp only[Dy,hp,hd,Ah,Aa (Ai hj),An,Aa (Ai hjf)];rw[ oI f l t vs _ (hin _ (Ag hjf)),An];have eu:Jr f ⟨p.Args.getD j 0,p.From.getD j 0,1000,(p.Bits,1)⟩=⟨p.Args.getD j 0,(p.Bits,1),⟨p.From.getD j 0,Sw f _⟩⟩:=rfl;rw[eu]at hacc ⊢
  rw[jB f l t vs _ _ _ acc hacc,An,A6 hj (by omega)]) (λacc=>by unfold Ep;simp only[Dy,hp,show decide (p.Args.length<(p.Args.length:Int))=false by simp,Au]) p.Args.length 0 u (by omega) (by rw[e];exact hB)
 rw[e]at this;exact this
theorem sa(i:Nat)(hi:i<f.Blocks.length)(hfit:∀ p∈(f.Blocks.getD i default).Phis,p.Args.length<=p.From.length/\∀ x∈p.From,A1 x f.Blocks.length)(u:List Be)(hB:(u++(M9 (f.Blocks.getD i default)).map (Jr f)).length<=10000000) :
  Ac (Er f vs (i:Int)) ((0:Int),f.Params,f.Ret,f.Blocks,l,t,u)=some (f.Params,f.Ret,f.Blocks,l,t,u++(M9 (f.Blocks.getD i default)).map (Jr f)):=by
 have hBk:=hf.block _ (Ag (d:=default) hi);have e:=QI (Jr f) (f.Blocks.getD i default).Phis.length λk=>N8 ((f.Blocks.getD i default).Phis.getD k default)
 have:=DK _ (λj u=>(j,f.Params,f.Ret,f.Blocks,l,t,u)) (λu=>(f.Params,f.Ret,f.Blocks,l,t,u)) _ _ (Er f vs i) (λacc k hk hacc=>by
  have hq:=hfit _ (Ag (d:=default) hk);have h1:=wI hf l t vs i k hi hk hq.1 hq.2 acc hacc;unfold Er
  have hd:decide ((k:Int)<(f.Blocks.getD i default).Phis.length)=true:=by simpa using hk
  simp only[Dy,hd,Ah,Aa (Ai hk),h1,An,A6 hk (by have:=hBk.phis;omega)]) (λacc=>by unfold Er;simp) (f.Blocks.getD i default).Phis.length 0 u (by omega) (by rw[e];exact hB)
 rw[e]at this;exact this
theorem yZ(i k:Nat)(hi:i<f.Blocks.length)(hk:k<(f.Blocks.getD i default).Ops.length)(u:List Be)(hB:(u++(Q6 ((f.Blocks.getD i default).Ops.getD k default) i k).map (Jr f)).length<=10000000) :
  Ac (Es f vs (i:Int) (k:Int) (Hd ((f.Blocks.getD i default).Ops.getD k default))) ((0:Int),f.Params,f.Ret,f.Blocks,l,t,u)=some (f.Params,f.Ret,f.Blocks,l,t,u++(Q6 ((f.Blocks.getD i default).Ops.getD k default) i k).map (Jr f)):=by
 have hBk:=hf.block _ (Ag (d:=default) hi);have hlen:=Yk (ji hf (Ag  hi) (Ag (d:=default) hk));have hk512:=hBk.ops
 generalize hp:(f.Blocks.getD i _).Ops.getD k _=o at *
 have e:=dJ (Jr f) (Hd o).length λj=>⟨o.Args.getD j 0,i,k,(Hd o).getD j (0,0)⟩
 have:=DK _ (λj u=>(j,f.Params,f.Ret,f.Blocks,l,t,u)) (λu=>(f.Params,f.Ret,f.Blocks,l,t,u)) _ (λj=>[Jr f _]) (Es f vs i k (Hd o)) (λacc j hj hacc=>by
  have hkk:((k:Int)==1000)=false:=by simp;omega
  have eu:Jr f ⟨o.Args.getD j 0,i,k,(Hd o).getD j (0,0)⟩=⟨o.Args.getD j 0,(Hd o).getD j (0,0),⟨i,k⟩⟩:=by unfold Jr;simp only[hkk,Au]
  rw[eu]at hacc ⊢;unfold Es
  have hd:decide (j<((Hd o).length:Int))=true:=by simpa using hj
  have hja:j<o.Args.length:=by omega
  simp only[Dy,hp,hd,Ah,Aa (Ai hj),Aa (Ai hja)]
  rw[ jB f l t vs _ _ _ acc hacc,An,A6 hj (by omega)]) (λacc=>by unfold Es;simp) (Hd o).length 0 u (by omega) (by rw[e];exact hB)
 rw[e]at this;exact this
theorem wH(i:Nat)(hi:i<f.Blocks.length)(u:List Be)(hB:(u++(Sy (f.Blocks.getD i default) i).map (Jr f)).length<=10000000) :
  Ac (Et f vs (i:Int)) ((0:Int),f.Params,f.Ret,f.Blocks,l,t,u)=some (f.Params,f.Ret,f.Blocks,l,t,u++(Sy (f.Blocks.getD i default) i).map (Jr f)):=by
 have hmem:=Ag (d:=default) hi;have hBk:=hf.block _ hmem;have e:=QI (Jr f) (f.Blocks.getD i default).Ops.length λk=>Q6 ((f.Blocks.getD i default).Ops.getD k default) i k
 have:=DK _ (λj u=>(j,f.Params,f.Ret,f.Blocks,l,t,u)) (λu=>(f.Params,f.Ret,f.Blocks,l,t,u)) _ _ (Et f vs i) (λacc k hk hacc=>by
  have h1:=yZ hf l t vs i k hi hk acc hacc;have ht:Qr _=some (Hd ((f.Blocks.getD i _).Ops.getD k default)):=fu _ (lr hf hmem (Ag hk));unfold Et
  have hd:decide (k<((f.Blocks.getD i default).Ops.length:Int))=true:=by simpa using hk
  simp only[Dy,hd,Ah,Aa (Ai hk),ht,h1,An,A6 hk (by have:=hBk.ops;omega)]) (λacc=>by unfold Et;simp) (f.Blocks.getD i default).Ops.length 0 u (by omega) (by rw[e];exact hB)
 rw[e]at this;exact this
theorem lB (hfit : ∀ b ∈ f.Blocks, ∀ p ∈ b.Phis, p.Args.length ≤ p.From.length ∧ ∀ x ∈ p.From, A1 x f.Blocks.length) : H9 f l t vs [] = some (f, l, t, (Bf f).map (Jr f)) := by
  have e := QI (Jr f) f.Blocks.length fun (i : Nat) => IA f (f.Blocks.getD i default) i; have hul := KC hf
  have := DK 10000000 (fun j u => (j, f.Params, f.Ret, f.Blocks, l, t, u)) (fun u => (f.Params, f.Ret, f.Blocks, l, t, u)) f.Blocks.length (fun (i : Nat) => (IA f (f.Blocks.getD i default) i).map (Jr f)) (Eu f vs) (fun acc i hi hacc => by
    have hmem := Ag (d := (default : Ae)) hi; unfold IA at hacc ⊢; rw [Vf, Vf, ← EW, ← EW] at hacc ⊢; have l1 := hacc; simp only [Fg, Dn] at l1; have h1 := sa hf l t vs i hi (hfit _ hmem) acc (by simp only [Fg, Dn]; omega); have h2 := wH hf l t vs i hi (acc ++ (M9 (f.Blocks.getD i default)).map (Jr f)) (by simp only [Fg, Dn]; omega); have hinb : A1 (i : Int) f.Blocks.length := Ai hi; unfold Eu Ex
    have hd : decide ((i : Int) < (f.Blocks.length : Int)) = true := by simpa using hi
    simp only [hd, Ah, Aa (Ai hi), h1, An, h2, Dy]; have hF : (⟨f.Params, f.Ret, f.Blocks⟩ : TFunc) = f := rfl; have hw : w64 ((i : Int) + 1) = (i : Int) + 1 := A6 hi (by have := hf.blocks; omega); unfold Ym at hacc ⊢
    cases hz : ((f.Blocks.getD i default).End.Kind == 0) with
    | true =>
      have hz2 : ((f.Blocks.getD i default).End.Kind == 2) = false := by have : (f.Blocks.getD i default).End.Kind = 0 := by simpa using hz
                                                                         rw [this]; rfl
      rw [hz, hz2] at hacc; simp only [Ah, Au, hz2, List.append_nil, Cq, Do] at hacc ⊢; rw [hF, oI f l t vs _ hinb, An]; simp only; rw [jB f l t vs _ _ _ _ (show (_ ++ [(⟨_, _, ⟨(i : Int), Sw f (i : Int)⟩⟩ : Be)]).length ≤ 10000000 from hacc), An, An, hw]
      rfl
    | false =>
      rw [hz] at hacc
      cases hz2 : ((f.Blocks.getD i default).End.Kind == 2) with
      | true =>
        rw [hz2] at hacc; simp only [Ah, Au, Za, Cq, Do] at hacc ⊢; rw [hF, oI f l t vs _ hinb, An]; simp only; rw [jB f l t vs _ _ _ _ (show (_ ++ [(⟨_, _, ⟨(i : Int), Sw f (i : Int)⟩⟩ : Be)]).length ≤ 10000000 from hacc), An, An, hw]
        rfl
      | false =>
        simp only [Au, Za, Do, List.append_nil, An, hw]) (fun acc => by unfold Eu; simp) f.Blocks.length 0 [] (by omega) (by rw [e]; simpa [Bf] using (by omega : (Bf f).length ≤ 10000000))
  rw [e, Za] at this; unfold H9; rw [show (0 : Int) = ((0 : Nat) : Int) from rfl]
  show ((Ac (Eu f vs) (((0 : Nat) : Int), f.Params, f.Ret, f.Blocks, l, t, [])).bind _) = _
  rw [this, An]
  rfl
end
theorem sJ{σ X:Type}(mk:Int->σ)(U:List Be)(p:Be->Bool)(f:σ->Option (LR σ X))(yes no:X)(hk:∀ i:Nat,i<U.length->f (mk i)=some (bif p (U.getD i default) then .next (mk ((i:Int)+1)) else .done no))(he:f (mk U.length)=some (.done yes)) :
  ∀ k i:Nat,i+k=U.length->Ac f (mk i)=some (bif (U.drop i).all p then yes else no)
 | 0,i,h=>by
  obtain rfl:i=U.length:=by omega
  rw[Am he]
  simp
 | k+1,i,h=>by
  have hi:i<U.length:=by omega
  have hdr:U.drop i=U.getD i default::U.drop (i+1):=by simp_all
  have hx:=hk i hi;rw[hdr,V3]
  cases hp:p _ with
  | true=>
   rw[hp]at hx;rw[Aq hx,show((i:Int)+1)=(i+1:Nat) by omega,sJ mk U p f yes no hk he k _ (by omega),Mu]
  | false=>
   rw[hp]at hx;rw[Am hx]
   rfl
theorem PL(d:Bx)(l:List Bx)(v:Int):Lr (d::l) v=bif d.V==v then 0 else bif decide (Lr l v<0) then -1 else Lr l v+1:=by
 unfold Lr;rw[List.findIdx?_cons]
 cases d.V==v with
 | true=>rfl
 | false=>
  grind
theorem QL(v:Int):∀ l:List Bx,Ed (dv l) v = !decide (Lr l v<0)
 | []=>rfl
 | d::l=>by
  rw[PL]
  show((v==d.V) || Ed (dv l) v)=_
  rw[QL v l,show(v==d.V)=(d.V==v) by grind]
  cases d.V==v with
  | true=>rfl
  | false=>
   grind
theorem FM(v:Int):∀ l:List Bx,¬ Lr l v<0->Fx (default:Ay) (dv l) v=SE (defOf l v)
 | [],h=>absurd (show -1<0 by decide) h
 | d::l,h=>by
  unfold defOf;rw[PL]at h ⊢
  show(bif v==d.V then SE d else Fx _ (dv l) v)=_
  rw[show(v==d.V)=(d.V==v) by grind]
  cases hb:d.V==v with
  | true=>rfl
  | false=>
   rw[hb]at h
   by_cases hn:Lr l v<0
   ·simp[hn]at h
   ·have hz :=C9 hn;simp only[Au,hz];rw[FM v l hn,show(Lr l v+1).toNat=(Lr l v).toNat+1 by omega]
    rfl
def mh(f:TFunc)(d:Bx):Prop:=d.Block = -1\/(A1 d.Block f.Blocks.length/\d.At<Sw f d.Block/\d.At<1000)
def ua(f:TFunc)(u:Cm):Prop:=A1 u.Block f.Blocks.length/\0<=u.At
theorem defs_in{f:TFunc}(hf:OkF f):∀ d∈Aw f,mh f d:=λd hd=>by
 rcases zzL11.1 hd with h|h
 ·obtain⟨i,_,hi⟩:=zzL48.1 h;rw[zzL16.1 hi];exact .inl rfl
 ·obtain⟨i,hi,h⟩:=zzL48.1 h
  have hi :=by simpa using hi
  have hB:=hf.block _ (Ag (d:=default) hi);have ho:Sw f i=(f.Blocks.getD i default).Ops.length:=rfl;rcases zzL11.1 h with h|h
  ·obtain⟨k,hk,h⟩:=zzL48.1 h;rw[zzL16.1 h];refine .inr ⟨Ai hi,?_,?_⟩
   ·grind
   ·grind
  ·obtain⟨k,hk,h⟩:=zzL48.1 h
   have hk:k<(f.Blocks.getD i default).Ops.length:=by simpa using hk
   cases hg:decide (0<(H1 _).1) with
   | false=>rw[hg]at h;cases h
   | true=>
    rw[hg]at h;rw[zzL16.1 h];refine .inr ⟨Ai hi,?_,?_⟩
    ·grind
    ·show(k:Int)<1000;have:=hB.ops;omega
theorem uH{f:TFunc}(hfit:∀ b∈f.Blocks,∀ p∈b.Phis,p.Args.length<=p.From.length/\∀ x∈p.From,A1 x f.Blocks.length):∀ u∈Bf f,ua f u:=λu hu=>by
 obtain⟨i,hi,h⟩:=zzL48.1 hu
 have hi :=by simpa using hi
 have hmem:=Ag (d:=default) hi;rcases zzL11.1 h with h|h
 ·rcases zzL11.1 h with h|h
  ·obtain⟨k,hk,h⟩:=zzL48.1 h
   have hk :=by simpa using hk
   obtain⟨j,hj,h⟩:=zzL48.1 h;have hj:=zzL41.1 hj;have hq:=hfit _ hmem _ (Ag (d:=default) hk);rw[zzL16.1 h];exact⟨hq.2 _ (Ag (by omega)),by grind⟩
  ·obtain⟨k,hk,h⟩:=zzL48.1 h;obtain⟨j,hj,h⟩:=zzL48.1 h;rw[zzL16.1 h];exact⟨Ai hi,by grind⟩
 ·unfold Ym at h
  have:u=⟨(f.Blocks.getD i default).End.Arg,i,1000,(f.Ret,1)⟩\/u=⟨(f.Blocks.getD i default).End.Arg,i,1000,(1,1)⟩:=by
   grind
  rcases this with rfl|rfl<;>exact⟨Ai hi,by grind⟩
theorem wR{f:TFunc}(h:Fd f=true):∀ b∈f.Blocks,∀ p∈b.Phis,p.Args.length<=p.From.length/\∀ x∈p.From,A1 x f.Blocks.length:=λb hb p hp=>by
 have hs :=by simp only[Fd,A5]at h;exact h.1
 refine⟨XV h b hb p hp,λx hx=>?_⟩;obtain⟨i,hi,rfl⟩:=Gr hb;simp only[Fd,A5]at h;have h1:=fP h.2 i hi;simp only[K9,A5,zzL27]at h1;rw[Ab _ _ _ hi]at h1;have h2:=h1.2 p hp;simp only[Jp,A5,Fz]at h2;rw[h2.1]at hx;obtain⟨q,rfl,hq,_⟩:=(BO  (Jq hs)  (by rw[Ly];exact hi)).1 hx;exact Ai (by rw[Ly]at hq;exact hq)
theorem gb{f:TFunc}(h:Fd f=true){b:Int}(hb:A1 b f.Blocks.length):Lv (B6 f) 0 b=true:=by
 have hs :=by simp only[Fd,A5]at h;exact h.1
 have hm:=Jq hs;have hlen:=Ly f
 have hpos:0<(Az f).length:=by have:=(shape_iff.1 hs).1.1;omega
 obtain⟨P,hP,o,ht⟩:=XX hm hpos
 have e:B6 f=Y6 (Az f) 0:=by
  unfold B6 MH;rw[if_pos ⟨QJ hm,Int.le_refl _,by show(0:Int)<(Az f).length;omega⟩]
  rfl
 obtain⟨k,rfl⟩:∃ k:Nat,b=k:=⟨b.toNat,(Y8 hb.1).symm⟩
 have hk:k<f.Blocks.length:=by have:=hb.2;omega
 simp only[Fd,A5]at h;have h1:=fP h.2 k hk;simp only[K9,A5]at h1;have hr :=(BP (Wu hm) hpos k).1 h1.1.1;rw[e];refine(ht.over_dom o hpos (by omega)).2 ⟨rc_iff.2 hr,λha=>?_⟩;exact(av_iff.1 ha).1 rfl
theorem AM{l:List Cm}{g:Cm->Be}{p:Be->Bool}{q:Cm->Bool}(h:∀ u∈l,p (g u)=q u):(l.map g).all p=l.all q:=by
 grind
def so(vs:List (Int×Ay))(u:Be):Bool:=((Fx (default:Ay) vs u.v).shape.1==u.shape.1)&&(((Fx (default:Ay) vs u.v).shape.2==u.shape.2)&&true)
def FG(vs:List (Int×Ay))(t:List Int)(u:Be):Bool:=bif (Fx (default:Ay) vs u.v).place.block==u.place.block then decide ((Fx (default:Ay) vs u.v).place.at_<u.place.at_) else Lv t (Fx (default:Ay) vs u.v).place.block u.place.block
theorem nY{f:TFunc}(hs:Fd f=true){D:List Bx}(hD:∀ d∈D,mh f d){u:Cm}(hu:ua f u)(hfd:K2 D u=true):FG (dv D) (B6 f) (Jr f u)=U2 D (B6 f) u:=by
 have hF:¬ Lr D u.V<0:=by simpa [K2] using hfd
 have hin:=PM hF;have hd:mh f (defOf D u.V):=hD _ (by unfold defOf;exact Ag (by have:=hin.1;have:=hin.2;omega));have hg:Fx (default:Ay) (dv D) (Jr f u).v=SE (defOf D u.V):=FM u.V D hF;unfold FG U2;rw[hg]
 generalize defOf D u.V=d at *
 have hub:=hu.1.1
 have hul:0<=Sw f u.Block:=by unfold Sw;omega
 have hat:∀ a:Int,a<0\/(a<Sw f u.Block/\a<1000)->decide (a<(Jr f u).place.at_)=decide (a<u.At)\/a<0:=λa ha=>by
  rcases ha with ha|ha
  ·exact .inr ha
  ·refine .inl ?_
   show decide (a<bif u.At==1000 then Sw f u.Block else u.At)=_
   by_cases h:u.At=1000
   ·rw[h];simp only[show((1000:Int)==1000)=true from rfl,Ah];rw[Dr ha.1,Dr ha.2]
   ·have:(u.At==1000)=false:=by simpa using h
    rw[this];rfl
 have hpos:0<=(Jr f u).place.at_:=by
  show 0<=bif u.At==1000 then Sw f u.Block else u.At
  cases u.At==1000
  ·exact hu.2
  ·exact hul
 have hblk:(Jr f u).place.block=u.Block:=rfl;rw[hblk];rcases hd with hd|⟨hd1,hd2,hd3⟩
 ·have e:(SE d).place=⟨0,-1⟩:=by show uh d=_;unfold uh;rw[hd];rfl
  rw[e,hd,Dr (show(-1:Int)<0 by decide)];rw[Bool.true_or,Bool.true_or,gb hs hu.1,Dr (show(-1:Int)<(Jr f u).place.at_ by omega)]
  cases(0:Int)==u.Block<;>rfl
 ·have hn:¬ d.Block<0:=by have:=hd1.1;omega
  have e:(SE d).place=⟨d.Block,d.At⟩:=by show uh d=_;unfold uh;rw[C9 hn];rfl
  rw[e,C9 hn,SQ]
  cases hb:d.Block==u.Block with
  | true=>
   have hbe:d.Block=u.Block:=by simpa using hb
   simp only[Ah,Mu,D6,SP,Bool.or_false];rcases hat d.At (.inr ⟨by rw[<- hbe];exact hd2,hd3⟩) with h|h
   ·exact h
   ·rw[Dr (by omega),Dr (by have:=hu.2;omega)]
  | false=>
   simp only[Au,SP,SQ,L5,Mu];unfold Lv
   by_cases hm:Re (B6 f) d.Block u.Block=d.Block
   ·rw[hm]
    have:(d.Block !=-2)=true:=by simp;omega
    simp[this]
   ·have:(Re (B6 f) d.Block u.Block==d.Block)=false:=by simpa using hm
    simp[this,bne]
section
variable {f:TFunc} (l:Int) (vs:List (Int×Ay))
def mc(f:TFunc)(l:Int)(U:List Be)(i:Int):Int×List Int×Int×List Ae×Int×List Int×List Be:=(i,f.Params,f.Ret,f.Blocks,l,B6 f,U)
def md(f:TFunc)(l:Int)(U:List Be):List Int×Int×List Ae×Int×List Int×List Be:=(f.Params,f.Ret,f.Blocks,l,B6 f,U)
theorem sc(U:List Be)(hU:U.length<9223372036854775808):Ac (F6 vs (f,l,B6 f,U)) (mc f l U 0)=some (bif U.all (λu=>Ed vs u.v) then .inl (md f l U) else .inr (md f l U)):=by
 have:=sJ (mc f l U) U (λu=>Ed vs u.v) (F6 vs (f,l,B6 f,U)) _ _ (λi hi=>by
  unfold F6 mc Ls
  have hd:decide (i<(U.length:Int))=true:=by simpa using hi
  simp only[hd, Aa (Ai hi),Dy, A6 hi hU]
  cases Ed vs _<;>rfl) (by unfold F6 mc;simp;rfl) U.length 0 (by omega)
 exact this
theorem sd(U:List Be)(hU:U.length<9223372036854775808):Ac (F7 vs U) (mc f l U 0)=some (bif U.all (so vs) then .inl (md f l U) else .inr (md f l U)):=by
 have:=sJ (mc f l U) U (so vs) (F7 vs U) _ _ (λi hi=>by
  unfold F7 mc Np
  have hd:decide (i<(U.length:Int))=true:=by simpa using hi
  simp only[hd, Aa (Ai hi),Dy, A6 hi hU];unfold so
  cases(((Fx _ vs _).shape.1==(U.getD i _).shape.1)&&(((Fx _ vs _).shape.2==(U.getD i _).shape.2)&&true))<;>rfl) (by unfold F7 mc;simp;rfl) U.length 0 (by omega)
 exact this
theorem se(htl:(B6 f).length<=1000)(U:List Be)(hU:U.length<9223372036854775808):Ac (F8 vs U) (mc f l U 0)=some (bif U.all (FG vs (B6 f)) then .inl (md f l U) else .inr (md f l U)):=by
 have:=sJ (mc f l U) U (FG vs _) (F8 vs U) _ _ (λi hi=>by
  have hx:Ib (U.getD i default) f l (B6 f) vs U=some (FG vs (B6 f) (U.getD i default),f,l,B6 f,U):=by
   unfold Ib FG;rw[wX htl]
   cases(Fx _ vs _).place.block==(U.getD i _).place.block<;>rfl
  unfold F8 mc
  have hd:decide ((i:Int)<U.length)=true:=by simpa using hi
  simp only[hd, Aa (Ai hi),Dy];rw[ hx, A6 hi hU]
  cases FG vs _ _<;>rfl) (by unfold F8 mc;simp;rfl) U.length 0 (by omega)
 exact this
end
def eK(f:TFunc):Int:=bif !(Bf f).all (K2 (Aw f)) then 7 else bif !(Bf f).all (U3 (Aw f)) then 6 else bif !(Bf f).all (U2 (Aw f) (B6 f)) then 7 else 0
theorem wM{f:TFunc}(hf:OkF f)(hs:Fd f=true)(l:Int):∃ U,Kh f l (B6 f) (dv (Aw f)) []=some (eK f,f,l,B6 f,U):=by
 have hfit:=wR hs;have hul:=KC hf
 have hsB :=by simp only[Fd,A5]at hs;exact hs.1
 refine⟨(Bf f).map (Jr f),?_⟩
 have hU:((Bf f).map (Jr f)).length<9223372036854775808:=by grind
 have h1:=sc (f:=f) l (dv (Aw f)) _ hU;have h2:=sd (f:=f) l (dv (Aw f)) _ hU;have h3:=se  l (dv (Aw f)) (eH hsB) _ hU;rw[AM (q:=K2 _) (λu _=>QL u.V _)]at h1;unfold Kh eK Rx;rw[lB hf l _ _ hfit,An];rw[show(Ac _ ((0:Int),f.Params,f.Ret,f.Blocks,l,B6 f,(Bf f).map _))=_ from h1,An];have fin:∀ e ,Ac Pw (e,f.Params,f.Ret,f.Blocks,l,B6 f,(Bf f).map (Jr f))=some _:=λe=>Am rfl
 cases hfd:(Bf f).all _ with
 | false=>simp only[Au,L5,Ah,md,An,fin]
 | true=>
  have hmf:=zzL27.1 hfd
  rw[AM (q:=U3 _) (λu hu=>by
   have:=hmf u hu;simp only[K2,Y9,SK]at this;have hg:Fx _ _ (Jr f u).v=SE _:=FM u.V _ this;unfold so U3
   rw[hg];rfl)]at h2
  rw[AM  (λu hu=>nY hs (defs_in hf) (uH hfit u hu) (hmf u hu))]at h3;simp only[Ah,D6, md];rw[show(Ac _ ((0:Int),f.Params,f.Ret,f.Blocks,l,B6 f,(Bf f).map _))=_ from h2,An]
  cases(Bf f).all _ with
  | false=>simp only[Au,L5,Ah,md,An,fin]
  | true=>
   simp only[Ah,D6, md];rw[show(Ac _ ((0:Int),f.Params,f.Ret,f.Blocks,l,B6 f,(Bf f).map _))=_ from h3]
   cases(Bf f).all _ with
   | false=>simp only[Au,L5,Ah,md,An,fin]
   | true=>simp only[Ah,D6,Au,md,An]
theorem sf{f:TFunc}(h:Sm f)(l:Int)(h0:0<=l)(h2:l<=2):∃ t u vs,Jw f l [] []=some (Em f l,f,l,t,u,vs)/\(Em f l=0->vs=dv (Aw f)):=by
 have hc:Em f l=bif !Qz f then 4 else SG f l:=by
  unfold Em;rw[C9 (by omega),C9 (by omega)];rfl
 rw[hc];unfold Jw;rw[wL f h.1,An]
 cases hm:Qz f with
 | false=>simp_all
 | true=>
  have hf:=jt h hm;simp only[    SG];obtain⟨t',hsh,hst⟩:=oK hf l [] [];rw[hsh,An]
  cases hs:Fd f with
  | false=>simp_all
  | true=>
   obtain rfl:=hst hs;rw[sb hf l h0 h2,An]
   cases N7 f l with
   | false=>simp_all
   | true=>
    obtain⟨vs,hd,hv⟩:=lD hf l _ [];rw[hd,An]
    cases hdd:(List.range _).all _ with
    | false=>grind
    | true=>
     obtain rfl:=hv hdd;obtain⟨U,hu⟩:=wM hf hs l;rw[hu];refine⟨B6 f,U,dv _,?_,λ_=>rfl⟩
     show(bif eK f !=0 then some _ else some _)=some (eK f,f,l,B6 f,U,dv _)
     cases hz:eK f !=0 with
     | true=>rfl
     | false=>
      grind
theorem sV(f:TFunc)(l:Int)(h:Sm f):R3 f l=some (Em f l):=by
 unfold R3
 by_cases h0:l<0
 · unfold Em;rw[Dr h0];rfl
 ·by_cases h2:2<l
  · unfold Em;rw[C9 h0,Dr h2];rfl
  ·obtain⟨t,u,vs,hw,_⟩:=sf h l (by omega) (by omega);rw[C9 h0,C9 h2,hw];rfl
def lone(e:Kb)(b r:Int):TFunc:=⟨[b],r,[⟨[],[],e⟩]⟩
theorem Aav{α:Type}(l:List α):(l.map λ_=>1).sum=l.length:=by induction l with|nil=>rfl|cons a l ih=>simp[ih];omega
theorem Xi{f:TFunc}(h:(List.range (Aw f).length).all (Rf (Aw f))=true):((Aw f).map (·.V)).Nodup:=by
 rw[List.nodup_iff_pairwise_ne,List.pairwise_map,zzL91];intro i j hi hj hij he;have:=((Wj hj).1 (fP h j hj)).2 i hij;rw[Ab _ _ _ hi,Ab _ _ _ hj]at this;exact this he
abbrev bA(f:TFunc)(i:Nat):Ae:=f.Blocks.getD i default
def g7(f:TFunc)(i:Nat)(k:Nat):Int:=(bA f i).End.To.getD k 0
def prF(f:TFunc)(i:Nat):List Int:=(Cx (Az f)).getD i []
structure Rt(f:TFunc):Prop where
 lo:1<=f.Blocks.length
 hi:f.Blocks.length<=64
 to:∀ i,i<f.Blocks.length->∀ k,k<(bA f i).End.To.length->0<g7 f i k/\g7 f i k<f.Blocks.length
 one:∀ i,i<f.Blocks.length->(bA f i).End.Kind=1->(bA f i).End.To.length=1
 two:∀ i,i<f.Blocks.length->(bA f i).End.Kind=2->(bA f i).End.To.length=2
 may:Mq (Az f)=true
 ok:OkF f
theorem tz{f:TFunc}{i:Nat}(hi:i<f.Blocks.length):(Az f).getD i []=BR (bA f i).End.To:=by
 unfold Az;rw[Pb hi];rfl
theorem pe(f:TFunc):(Cx (Az f)).length=f.Blocks.length:=by rw[Pt,Ly]
set_option maxRecDepth 100000
def kw(f:TFunc)(d:Bx)(b a:Int):Prop:=d.Block<0\/(d.Block=b/\d.At<a)\/(d.Block≠b/\Lv (B6 f) d.Block b=true)
theorem PG{l:List Bx}(hn:(l.map (·.V)).Nodup){d:Bx}(hd:d∈l):0<=Lr l d.V/\defOf l d.V=d:=by
 obtain⟨i,hi,rfl⟩:=Gr hd
 have hx:∃ k,l.findIdx? (λe=>e.V==l[i].V)=some k:=by
  cases h:l.findIdx? _ with
  | some k=>exact⟨k,rfl⟩
  | none=>
   grind
 obtain⟨k,hk⟩:=hx;obtain⟨hk1,hk2,_⟩:=List.findIdx?_eq_some_iff_getElem.1 hk
 have e :=by
  have h1:(l.map (·.V))[k]'(by simpa using hk1)=(l.map (·.V))[i]'(by simpa using hi):=by simpa using hk2
  exact(List.getElem_inj hn).1 h1
 subst e;unfold defOf Lr;rw[hk];refine⟨by simp,?_⟩;rw[Ak,Ab _ _ _ hi]
theorem RR{f:TFunc}(hn:((Aw f).map (·.V)).Nodup)(hv:∀ d∈Aw f,valS d.V=true)(hu:∀ u∈Bf f,∃ d∈Aw f,d.V=u.V/\d.Shape=u.Shape/\kw f d u.Block u.At):XO f=0:=by
 have h1:(List.range (Aw f).length).all (Rf (Aw f))=true:=by
  rw[zzL27];intro i hi;rw[zzL41]at hi;refine(Wj hi).2 ⟨hv _ (Ag hi),λj hj he=>?_⟩;rw[Ab _ _ _ hi,Ab _ _ _ (by omega)]at he;have:=(List.getElem_inj (h₀:=show j<((Aw f).map _).length by simp;omega) (h₁:=by simpa using hi) hn).1 (by simpa using he);omega
 have h2:(Bf f).all (K2 (Aw f))=true:=by
  rw[zzL27];intro u h;obtain⟨d,hd,e,_⟩:=hu u h;unfold K2;have:=(PG hn hd).1;rw[e]at this
  simp;omega
 have h3:(Bf f).all (U3 (Aw f))=true:=by
  rw[zzL27];intro u h;obtain⟨d,hd,e,es,_⟩:=hu u h;unfold U3;rw[<- e,(PG hn hd).2,es];simp
 have h4:(Bf f).all (U2 (Aw f) (B6 f))=true:=by
  rw[zzL27];intro u h;obtain⟨d,hd,e,_,ht⟩:=hu u h;unfold U2;rw[<- e,(PG hn hd).2];rcases ht with h|⟨h,h'⟩|⟨h,h'⟩
  ·grind
  ·grind
  ·unfold Lv at h';rw[A5,zzL63]at h';rw[h'.1,zzL29.2 h];simp
 unfold XO;rw[h1,h2,h3,h4];rfl
structure Ys(f:TFunc)(l:Int):Prop where
 may:Qz f=true
 shape:Fd f=true
 typed:N7 f l=true
 rest:XO f=0
theorem Yh{f:TFunc}{l:Int}(hl:0<=l/\l<=2):Em f l=0↔Ys f l:=
 ⟨λh=>by obtain⟨a,b,c,d⟩:=(PB hl.1 hl.2).1 h;exact⟨a,b,c,d⟩,λh=>(PB hl.1 hl.2).2 ⟨h.1,h.2,h.3,h.4⟩⟩
section
variable {f:TFunc} {l:Int} (R:Ys f l)
include R
theorem d8{b:Ae}(hb:b∈f.Blocks){o:B2}(ho:o∈b.Ops):Lq l o=true:=by
 have h:=R.typed;simp only[N7,F2,A5,zzL27]at h;exact(h.1.2 b hb).2 o ho
theorem uy{b:Ae}(hb:b∈f.Blocks){o:B2}(ho:o∈b.Ops):Gs o=true:=by
 have:=d8 R hb ho;unfold Lq at this;simp only[A5]at this;exact this.1.1
theorem DR:(List.range (Aw f).length).all (Rf (Aw f))=true/\(∀ u∈Bf f,K2 (Aw f) u=true)/\(∀ u∈Bf f,U3 (Aw f) u=true)/\∀ u∈Bf f,U2 (Aw f) (B6 f) u=true:=by
 have h:=R.rest;unfold XO at h
 cases h1:(List.range _).all _ with
 | false=>rw[h1]at h;cases h
 | true=>grind
theorem pr{d e:Bx}(hd:d∈Aw f)(he:e∈Aw f)(hv:d.V=e.V):d=e:=by
 have hn:=Xi (DR R).1;have h1:=(PG hn hd).2;rw[hv,(PG hn he).2]at h1;exact h1.symm
theorem V1{d:Bx}(hd:d∈Aw f):valS d.V=true:=by
 obtain⟨i,hi,rfl⟩:=Gr hd;have:=((Wj hi).1 (fP (DR R).1 i hi)).1;rw[Ab _ _ _ hi]at this;exact this
theorem JW{u:Cm}(hu:u∈Bf f):∃ d∈Aw f,d.V=u.V/\d.Shape=u.Shape/\kw f d u.Block u.At:=by
 obtain⟨_,h2,h3,h4⟩:=DR R;have hf:=h2 u hu;have hfit:=h3 u hu;have hdom:=h4 u hu;unfold K2 at hf
 have hneg:¬ Lr (Aw f) u.V<0:=by simpa using hf
 have hin:=PM hneg;have hmem:defOf _ u.V∈Aw f:=Ag (by  have:=hin.2;omega)
 have hV:(defOf (Aw f) u.V).V=u.V:=by
  unfold defOf;unfold Lr at hneg ⊢
  cases hx:(Aw f).findIdx? _ with
  | none=>grind
  | some i=>
   obtain⟨hi,hp,_⟩:=List.findIdx?_eq_some_iff_getElem.1 hx;rw[Ak,Ab _ _ _ hi]
   simpa using hp
 refine⟨_,hmem,hV,?_,?_⟩
 ·unfold U3 at hfit;simp only[A5,zzL63]at hfit;exact Prod.ext hfit.1 hfit.2.1
 ·unfold U2 at hdom;simp only[FX,A5,Fz,zzL63,Y9,zzL29]at hdom;rcases hdom with(h|h)|⟨h,h'⟩
  ·exact .inl h
  ·exact .inr (.inl h)
  ·by_cases hb:(defOf (Aw f) u.V).Block<0
   ·exact .inl hb
   ·refine .inr (.inr ⟨h,?_⟩);rw[bne_eq_false_iff_eq]at h';unfold Lv;rw[h',A5];exact⟨by simp,by rw[zzL101];omega⟩
end
theorem ri_def{f:TFunc}{d:Bx}:d∈Aw f↔(∃ i,i<f.Params.length/\d=⟨(i:Int)+1,-1,0,(f.Params.getD i 0,1)⟩) \/
  ∃ i,i<f.Blocks.length/\((∃ k,k<(bA f i).Phis.length/\d=⟨((bA f i).Phis.getD k default).Dst,i,-1,(((bA f i).Phis.getD k default).Bits,1)⟩) \/
   ∃ k,k<(bA f i).Ops.length/\0<(H1 ((bA f i).Ops.getD k default)).1/\d=⟨((bA f i).Ops.getD k default).Dst,i,k,H1 ((bA f i).Ops.getD k default)⟩):=by
 unfold Aw Rd Rb R0 Xh;simp only[zzL11,zzL48,zzL41,zzL16]
 constructor
 ·grind
 ·rintro(h|⟨i,hi,⟨k,hk,h⟩|⟨k,hk,hg,h⟩⟩)
  ·exact .inl h
  ·exact .inr ⟨i,hi,.inl ⟨k,hk,h⟩⟩
  ·exact .inr ⟨i,hi,.inr ⟨k,hk,by simp_all⟩⟩
theorem XW{o:B2}(hm:Gs o=true):(Hd o).length=o.Args.length/\∀ j,j<o.Args.length->(Hd o).getD j (0,0)=PI o j:=by
 obtain⟨_,_,_,_,hn,_,_⟩:=Xx hm
 have ht:Hd o=Ry o:=by unfold Hd;rw[hm];rfl
 have htl:(Ry o).length=o.Args.length:=by unfold Ry;rw[Dn,S4];omega
 refine⟨by rw[ht,htl],λj hj=>?_⟩;rw[ht];unfold Ry;rw[Pb (by omega)]
theorem H0 {f : TFunc} (hk : ∀ b ∈ f.Blocks, ∀ o ∈ b.Ops, Gs o = true) {u : Cm} : u ∈ Bf f ↔ ∃ i, i < f.Blocks.length ∧
    ((∃ k j, k < (bA f i).Phis.length ∧ j < ((bA f i).Phis.getD k default).Args.length ∧ u = ⟨((bA f i).Phis.getD k default).Args.getD j 0, ((bA f i).Phis.getD k default).From.getD j 0, 1000, (((bA f i).Phis.getD k default).Bits, 1)⟩) ∨
     (∃ k j, k < (bA f i).Ops.length ∧ j < ((bA f i).Ops.getD k default).Args.length ∧ u = ⟨((bA f i).Ops.getD k default).Args.getD j 0, i, k, PI ((bA f i).Ops.getD k default) j⟩) ∨
     ((bA f i).End.Kind = 0 ∧ u = ⟨(bA f i).End.Arg, i, 1000, (f.Ret, 1)⟩) ∨ ((bA f i).End.Kind = 2 ∧ u = ⟨(bA f i).End.Arg, i, 1000, (1, 1)⟩)) := by
  unfold Bf IA M9 N8 Sy Q6 Ym; simp only [zzL11, zzL48, zzL41, zzL16]
  have hE : ∀ (k c : Int) (x : Cm), u ∈ (bif k == c then [x] else []) ↔ (k = c ∧ u = x) := fun k c x => by
    grind
  simp only [hE]
  constructor
  · rintro ⟨i, hi, (⟨k, hk', j, hj, h⟩ | ⟨k, hk', j, hj, h⟩) | h⟩
    · exact ⟨i, hi, .inl ⟨k, j, hk', hj, h⟩⟩
    · obtain ⟨e1, e2⟩ := XW (hk _ (Ag  hi) _ (Ag  hk')); rw [e1] at hj; rw [e2 j hj] at h; exact ⟨i, hi, .inr (.inl ⟨k, j, hk', hj, h⟩)⟩
    · exact ⟨i, hi, .inr (.inr h)⟩
  · rintro ⟨i, hi, ⟨k, j, hk', hj, h⟩ | ⟨k, j, hk', hj, h⟩ | h⟩
    · grind
    · obtain ⟨e1, e2⟩ := XW (hk _ (Ag  hi) _ (Ag  hk')); exact ⟨i, hi, .inl (.inr ⟨k, hk', j, by rw [e1]; exact hj, by rw [e2 j hj]; exact h⟩)⟩
    · grind
theorem pt{f:TFunc}(hm:Mq (Az f)=true){x y:Nat}(hx:x<f.Blocks.length):y∈sN (Az f) x↔(y:Int)∈(bA f x).End.To:=by
 rw[wg hm (by rw[Ly];exact hx),tz hx,(JX _).2]
theorem tu{f:TFunc}(hm:Mq (Az f)=true)(h0:0<f.Blocks.length){a b:Nat}(ha:a<f.Blocks.length)(hb:b<f.Blocks.length):Lv (B6 f) (a:Int) (b:Int)=true↔Rc (sN (Az f)) 0 b/\¬ Av (sN (Az f)) 0 a b:=by
 have hl:=Ly f;obtain⟨P,_,o,t⟩:=XX hm (r:=0) (by omega)
 have e:B6 f=Y6 (Az f) 0:=by
  unfold B6 MH;rw[if_pos ⟨QJ hm,Int.le_refl _,by show 0<((Az f).length:Int);omega⟩];rfl
 rw[e];exact t.over_dom o (by omega) (by omega)
theorem dz{f:TFunc}(hm:Mq (Az f)=true)(h0:0<f.Blocks.length)(z:Nat):(Q4 (Az f)).getD z false=true↔Rc (sN (Az f)) 0 z:=by
 rw[rc_iff];exact BP (Wu hm) (by rw[Ly];exact h0) z
theorem XK(f:TFunc){i:Nat}(hi:i<f.Blocks.length):(prF f i).Pairwise (·<·):=by
 unfold prF;rw[DP (by rw[Ly];exact hi)];exact LF _ _
set_option linter.unusedSectionVars false
theorem DU{l:Int}{o:B2}(h:Lq l o=true):Gs o=true:=by
 unfold Lq at h;simp only[A5]at h;exact h.1.1
theorem PO{o:B2}(h:Gs o=true):H1 o=Xp o.Kind o.Bits o.Lanes:=by unfold H1;rw[h];rfl
theorem WN{o:B2}(h:Gs o=true)(hg:0<(H1 o).1):valS o.Dst=true:=by
 have hd:=(Xx h).2.2.2.2.2.2;rw[PO h]at hg;unfold dstS at hd
 cases hk:(o.Kind==17 || o.Kind==19) with
 | true=>unfold Xp at hg;rw[hk,Ah]at hg;exact absurd hg (by decide)
 | false=>rw[hk]at hd;exact hd
def ZN(s:List B2):List Int:=(s.filter λo=>decide (0<(H1 o).1)).map (·.Dst)
def UH(b:Ae):List Int:=b.Phis.map (·.Dst)++ZN b.Ops
theorem XN{α β:Type}(l:List α)(d:α)(F:α->β):(List.range l.length).map (λk=>F (l.getD k d))=l.map F:=by
 apply CJ
 ·simp
 ·intro i h1 h2;simp at h1 h2 ⊢;simp[h1]
theorem lL(l:List B2):l.flatMap (λo=>bif decide (0<(H1 o).1) then[o.Dst] else[])=ZN l:=by
 induction l with
 | nil=>rfl
 | cons o l ih=>
  rw[MM,ih];unfold ZN
  by_cases h:0<(H1 o).1<;>simp[h]
theorem sk(b:Ae)(i:Nat):(Rb b i).map (·.V)=UH b:=by
 unfold Rb UH R0 Xh;rw[Vf,List.map_flatMap,List.map_flatMap]
 congr 1
 ·show(List.range b.Phis.length).flatMap (λk=>[(b.Phis.getD k default).Dst])=_
  rw[<- List.map_eq_flatMap];exact XN b.Phis default (·.Dst)
 ·rw[<- lL,List.flatMap_def,List.flatMap_def]
  congr 1
  rw[<- XN b.Ops default];refine ML λk hk=>?_
  cases decide (0<(H1 (b.Ops.getD k default)).1)<;>rfl
theorem oU(g:TFunc):(Aw g).map (·.V)=(List.range g.Params.length).map (λi:Nat=>(i:Int)+1)++(List.range g.Blocks.length).flatMap (λy=>UH (bA g y)):=by
 unfold Aw Rd;rw[Vf,List.map_flatMap,List.map_flatMap]
 congr 1
 ·rw[List.map_eq_flatMap];rfl
 ·rw[List.flatMap_def,List.flatMap_def]
  congr 1
  exact ML λy _=>sk _ y
theorem nodup_split(g:TFunc):((Aw g).map (·.V)).Nodup↔(∀ y,y<g.Blocks.length->(UH (bA g y)).Nodup)/\(∀ y z,y<g.Blocks.length->z<g.Blocks.length->y≠z->∀ v∈UH (bA g y),v∉UH (bA g z))/\(∀ i:Nat,i<g.Params.length->∀ y,y<g.Blocks.length->((i:Int)+1)∉UH (bA g y)):=by
 rw[oU,List.nodup_append,List.nodup_iff_pairwise_ne (l:=List.flatMap _ _),List.pairwise_flatMap]
 have hP:((List.range g.Params.length).map (λi:Nat=>(i:Int)+1)).Nodup:=by
  rw[List.nodup_iff_pairwise_ne,List.pairwise_map];exact List.Pairwise.imp (λ{a b} (h:a<b)=>by omega) List.pairwise_lt_range
 constructor
 ·rintro⟨_,⟨h1,h2⟩,h3⟩;refine⟨λy hy=>List.nodup_iff_pairwise_ne.2 (h1 y (zzL41.2 hy)),?_,λi hi y hy hv=>h3 _ (zzL20.2 ⟨i,zzL41.2 hi,rfl⟩) _ (zzL48.2 ⟨y,zzL41.2 hy,hv⟩) rfl⟩
  have key:∀ y z,y<z->z<g.Blocks.length->∀ v∈UH (bA g y),v∉UH (bA g z):=λy z hyz hz v h4 h5=>by
   have:=(zzL91.1 h2) y z (by simp;omega) (by simpa using hz) hyz;simp only[List.getElem_range]at this;exact this v h4 v h5 rfl
  intro y z hy hz hne v h4 h5;rcases Nat.lt_or_gt_of_ne hne with e|e
  ·exact key y z e hz v h4 h5
  ·exact key z y e hy v h5 h4
 ·rintro⟨h1,h2,h3⟩;refine⟨hP,⟨λy hy=>List.nodup_iff_pairwise_ne.1 (h1 y (zzL41.1 hy)),?_⟩,λa ha b hb hab=>?_⟩
  ·refine List.Pairwise.imp_of_mem (λ{a b} ha hb hab v hv w hw e=>?_) (List.pairwise_lt_range (n:=g.Blocks.length));exact h2 a b (zzL41.1 ha) (zzL41.1 hb) (by omega) v hv (e▸hw)
  ·obtain⟨i,hi,rfl⟩:=zzL20.1 ha;obtain⟨y,hy,hv⟩:=zzL48.1 hb;exact h3 i (zzL41.1 hi) y (zzL41.1 hy) (hab▸hv)
def IP(y k:Nat):Nat:=if k<y then k else k+1
def psJ(x y b:Nat):Nat:=if y<(if b=y then x else b) then(if b=y then x else b)-1 else(if b=y then x else b)
def lw(x y:Nat)(a:Int):Int:=((psJ x y a.toNat:Nat):Int)
def VR(ps:List Ba)(v:Int):Int:=match ps.find? (λp=>p.Dst==v) with|some p=>p.Args.getD 0 0|none=>v
def NB(l:List (Int×Int))(e:Int×Int):List (Int×Int):=l.takeWhile (λp=>decide (p.1<e.1))++e::l.dropWhile (λp=>decide (p.1<e.1))
def Zy(l:List (Int×Int)):List (Int×Int):=l.foldl NB []
def Oy(v:Int->Int)(x y:Nat)(p:Ba):List (Int×Int):=List.zip (p.From.map (lw x y)) (p.Args.map v)
def NJ(v:Int->Int)(x y:Nat)(p:Ba):Ba:=⟨p.Bits,p.Dst,(Zy (Oy v x y p)).map (·.1),(Zy (Oy v x y p)).map (·.2)⟩
def mb(v:Int->Int)(o:B2):B2:=⟨o.Kind,o.Bits,o.Lanes,o.Dst,o.Args.map v,o.Imm⟩
def oX(v:Int->Int)(x y:Nat)(e:Kb):Kb:=⟨e.Kind,v e.Arg,e.To.map (lw x y)⟩
def GT(v:Int->Int)(x y:Nat)(b:Ae):Ae:=⟨b.Phis.map (NJ v x y),b.Ops.map (mb v),oX v x y b.End⟩
def Kf(f:TFunc)(x y i:Nat):Ae:=if i=x then⟨(bA f x).Phis,(bA f x).Ops++(bA f y).Ops,(bA f y).End⟩ else bA f i
def vJ(f:TFunc)(y:Nat):Int->Int:=VR (bA f y).Phis
def B9(f:TFunc)(x y:Nat):TFunc:=⟨f.Params,f.Ret,(List.range (f.Blocks.length-1)).map λk=>GT (vJ f y) x y (Kf f x y (IP y k))⟩
structure Jn(f:TFunc)(x y:Nat):Prop where
 hx:x<f.Blocks.length
 kind:(bA f x).End.Kind=1
 to:(bA f x).End.To=[(y:Int)]
 ne:y≠x
 pred:prF f y=[(x:Int)]
def UE(f:TFunc)(x y:Nat):Prop:=(y:Int)∈(bA f x).End.To
def Tj(x y a:Nat):Nat:=if a=x then y else a
theorem Q3{g:TFunc}(hg:Gp g=true){y:Nat}(hy:y<g.Blocks.length){x:Int}:x∈prF g y↔∃ p:Nat,x=(p:Int)/\p<g.Blocks.length/\UE g p y:=by
 unfold prF;have hl:=Ly g;rw[BO (Jq hg) (by omega)]
 constructor
 ·rintro⟨p,h1,h2,h3⟩;exact⟨p,h1,by omega,(pt (Jq hg) (by omega)).1 h3⟩
 ·rintro⟨p,h1,h2,h3⟩;exact⟨p,h1,by omega,(pt (Jq hg) h2).2 h3⟩
theorem FT{f:TFunc}(hs:Gp f=true){a:Nat}(ha:a<f.Blocks.length){z:Int}(hz:z∈(bA f a).End.To):∃ c:Nat,z=(c:Int)/\c<f.Blocks.length/\0<c/\UE f a c:=by
 have h:=toB_iff.1 (ZQ ((shape_iff.1 hs).2 a ha)) z hz;refine⟨z.toNat,by omega,by omega,by omega,?_⟩;unfold UE;rw[show((z.toNat:Nat):Int)=z by omega];exact hz
theorem gQ{f:TFunc}(hs:Gp f=true){a b:Nat}(ha:a<f.Blocks.length)(h:UE f a b):b<f.Blocks.length/\0<b:=by
 obtain⟨c,h1,h2,h3,_⟩:=FT hs ha h;omega
theorem Sx{f:TFunc}(hs:Gp f=true){a b:Nat}(ha:a<f.Blocks.length):b∈sN (Az f) a↔UE f a b:=pt (Jq hs) ha
theorem gi{f:TFunc}(hs:Gp f=true){b:Nat}(h:Rc (sN (Az f)) 0 b):b<f.Blocks.length:=by
 have h0:=(shape_iff.1 hs).1.1
 induction h with
 | root=>omega
 | step hx hy ih=>exact(gQ hs ih ((Sx hs ih).1 hy)).1
theorem yV{S:Nat->List Nat}{r z b:Nat}(h:Av S r z b):Rc S r b:=by
 induction h with
 | root=>exact .root
 | step _ hy _ ih=>exact .step ih hy
theorem ui{S:Nat->List Nat}{r z b:Nat}(h:Av S r z b):b≠z:=by
 cases h with
 | root h=>exact h
 | step _ _ h=>exact h
theorem av_split{S:Nat->List Nat}{r a b c:Nat}(h:Av S r a c):Av S r b c\/Av S r a b:=by
 induction h with
 | root h=>
  by_cases e:r=b
  ·subst e;exact .inr (.root h)
  ·exact .inl (.root e)
 | @step x y h hy hz ih=>
  rcases ih with h1|h1
  ·by_cases e:y=b
   ·subst e;exact .inr (.step h hy hz)
   ·exact .inl (.step h1 hy e)
  ·exact .inr h1
section
variable {f:TFunc} (hs:Gp f=true)
include hs
theorem V0{a b:Nat}(ha:a<f.Blocks.length)(hb:b<f.Blocks.length):Lv (B6 f) (a:Int) (b:Int)=true↔Rc (sN (Az f)) 0 b/\¬ Av (sN (Az f)) 0 a b:=
 tu (Jq hs) (by have:=(shape_iff.1 hs).1.1;omega) ha hb
theorem RC{a b c:Nat}(ha:a<f.Blocks.length)(hb:b<f.Blocks.length)(hc:c<f.Blocks.length)(h1:Lv (B6 f) (a:Int) (b:Int)=true)(h2:Lv (B6 f) (b:Int) (c:Int)=true):Lv (B6 f) (a:Int) (c:Int)=true:=by
 rw[V0 hs ha hb]at h1;rw[V0 hs hb hc]at h2;refine(V0 hs ha hc).2 ⟨h2.1,λh=>?_⟩;rcases av_split (b:=b) h with e|e
 ·exact h2.2 e
 ·exact h1.2 e
end
theorem up_eq(y k:Nat):(k<y/\IP y k=k)\/(y<=k/\IP y k=k+1):=by unfold IP;split<;>omega
theorem ps_eq{x y:Nat}(hne:y≠x)(b:Nat):(b=y/\psJ x y b=psJ x y x)\/(b<y/\psJ x y b=b)\/(y<b/\psJ x y b=b-1):=by
 unfold psJ
 by_cases e:b=y
 ·left;subst e;simp
 ·rw[if_neg e]
  by_cases h:y<b
  ·rw[if_pos h];omega
  ·rw[if_neg h];omega
theorem dm{x y:Nat}(hne:y≠x)(k:Nat):psJ x y (IP y k)=k:=by
 rcases up_eq y k with⟨h,e⟩|⟨h,e⟩<;>rw[e]
 ·rcases ps_eq hne k with h1|h1|h1<;>omega
 ·rcases ps_eq hne (k+1) with h1|h1|h1<;>omega
theorem qH{x y:Nat}(hne:y≠x){b:Nat}(hb:b≠y):IP y (psJ x y b)=b:=by
 rcases ps_eq hne b with h|⟨h,e⟩|⟨h,e⟩
 ·omega
 ·rw[e];rcases up_eq y b with h1|h1<;>omega
 ·rw[e];rcases up_eq y (b-1) with h1|h1<;>omega
theorem XZ(y k:Nat):IP y k≠y:=by rcases up_eq y k with h|h<;>omega
theorem gf{x y:Nat}(hne:y≠x){b c:Nat}(hb:b≠y)(hc:c≠y)(h:psJ x y b=psJ x y c):b=c:=by
 rw[<- qH hne hb,<- qH hne hc,h]
theorem zB{x y n:Nat}(hne:y≠x)(hx:x<n)(hy:y<n){b:Nat}(hb:b<n):psJ x y b<n-1:=by
 rcases ps_eq hne b with⟨_,e⟩|h|h
 ·rw[e];rcases ps_eq hne x with h|h|h<;>omega
 ·omega
 ·omega
theorem eJ{y n k:Nat}(hy:y<n)(hk:k<n-1):IP y k<n:=by rcases up_eq y k with h|h<;>omega
theorem Pj(x y b:Nat):lw x y (b:Int)=((psJ x y b:Nat):Int):=by unfold lw;rw[Ak]
section
variable {f:TFunc} {x y:Nat} (J:Jn f x y) (hs:Gp f=true)
include J
theorem Om:(B9 f x y).Blocks.length=f.Blocks.length-1:=by
 show(List.map _ _).length=_;rw[Dn,S4]
theorem yj{k:Nat}(hk:k<f.Blocks.length-1):bA (B9 f x y) k=GT (vJ f y) x y (Kf f x y (IP y k)):=Pb hk
include hs
theorem LI:y<f.Blocks.length/\0<y:=gQ hs J.hx (by unfold UE;rw[J.to];exact zzL16.2 rfl)
theorem Wf{b:Nat}(hb:b<f.Blocks.length):psJ x y b<f.Blocks.length-1:=zB J.ne J.hx (LI J hs).1 hb
theorem s5{b:Nat}(hb:b<f.Blocks.length)(hne:b≠y):bA (B9 f x y) (psJ x y b)=GT (vJ f y) x y (Kf f x y b):=by
 rw[yj J (Wf J hs hb),qH J.ne hne]
theorem SI{a:Nat}(ha:a<f.Blocks.length)(h:UE f a y):a=x:=by
 have:(a:Int)∈prF f y:=(Q3 hs (LI J hs).1).2 ⟨a,rfl,ha,h⟩;rw[J.pred,zzL16]at this;omega
theorem Yi{a:Nat}(ha:a<f.Blocks.length):Tj x y a<f.Blocks.length:=by
 unfold Tj;split
 ·exact(LI J hs).1
 ·exact ha
theorem gy{a b:Nat}(ha:a<f.Blocks.length)(hay:a≠y)(h:UE f (Tj x y a) b):b≠y:=by
 intro e;subst e;have:=SI J hs (Yi J hs ha) h;unfold Tj at this
 split at this
 ·exact J.ne this
 ·omega
theorem PR{a:Nat}(ha:a<f.Blocks.length)(hay:a≠y):(bA (B9 f x y) (psJ x y a)).End=oX (vJ f y) x y (bA f (Tj x y a)).End:=by
 rw[s5 J hs ha hay];unfold GT Kf Tj
 split
 ·rfl
 ·rfl
theorem sx{a b:Nat}(ha:a<f.Blocks.length)(hay:a≠y)(hb:b≠y):UE (B9 f x y) (psJ x y a) (psJ x y b)↔UE f (Tj x y a) b:=by
 unfold UE;rw[PR J hs ha hay]
 constructor
 ·intro h;obtain⟨z,hz,e⟩:=zzL20.1 h;obtain⟨c,rfl,hc,_,hn⟩:=FT hs (Yi J hs ha) hz;rw[Pj]at e;have:c=b:=gf J.ne (gy J hs ha hay hn) hb (by omega);rw[<- this];exact hz
 ·intro h;exact zzL20.2 ⟨_,h,Pj x y b⟩
theorem yk{a:Nat}(ha:a<f.Blocks.length)(hay:a≠y){w:Nat}(h:UE (B9 f x y) (psJ x y a) w):∃ b,b<f.Blocks.length/\b≠y/\0<b/\w=psJ x y b/\UE f (Tj x y a) b:=by
 have h0:=h;unfold UE at h;rw[PR J hs ha hay]at h;obtain⟨z,hz,e⟩:=zzL20.1 h;obtain⟨c,rfl,hc,hc0,hn⟩:=FT hs (Yi J hs ha) hz;rw[Pj]at e;exact⟨c,hc,gy J hs ha hay hn,hc0,by omega,hn⟩
theorem wV:(0:Nat)≠y/\psJ x y 0=0:=by
 have:=(LI J hs).2;refine⟨by omega,?_⟩;rcases ps_eq J.ne 0 with h|h|h<;>omega
theorem j_shapeB:Gp (B9 f x y)=true:=by
 obtain⟨⟨s1,s2⟩,s3⟩:=shape_iff.1 hs;have hy:=LI J hs;have hx:=J.hx;have hne:=J.ne;refine shape_iff.2 ⟨by rw[Om J];omega,λk hk=>?_⟩;rw[Om J]at hk ⊢;have hu:=eJ hy.1 hk
 have e:Bl (B9 f x y) k=oX (vJ f y) x y (bA f (Tj x y (IP y k))).End:=by
  have:=PR J hs hu (XZ y k);rw[dm hne]at this;exact this
 have h3:=s3 _ (Yi J hs hu);have h4:Kd (bA f (Tj x y (IP y k))).End f.Blocks.length=true:=h3;rw[e];unfold Kd at h4 ⊢;rw[A5]at h4 ⊢;refine⟨?_,toB_iff.2 λw hw=>?_⟩
 ·have:=h4.1;unfold Yy oX at *
  simpa using this
 ·obtain⟨z,hz,rfl⟩:=zzL20.1 hw;obtain⟨c,rfl,hc,hc0,hn⟩:=FT hs (Yi J hs hu) hz;rw[Pj];have h1:=Wf J hs hc;have h2:=gy J hs hu (XZ y k) hn
  have:0<psJ x y c:=by rcases ps_eq hne c with h|h|h<;>omega
  omega
theorem jT{b:Nat}(h:Rc (sN (Az f)) 0 b):b<f.Blocks.length/\Rc (sN (Az (B9 f x y))) 0 (psJ x y b):=by
 have hy:=LI J hs;have hgs:=j_shapeB J hs
 induction h with
 | root=>exact⟨by omega,by rw[(wV J hs).2];exact .root⟩
 | @step a b ha hb ih=>
  have hn:=(Sx hs ih.1).1 hb;have hbl:=(gQ hs ih.1 hn).1;refine⟨hbl,?_⟩
  have key:∀ c,c<f.Blocks.length->c≠y->psJ x y c=psJ x y a->UE f (Tj x y c) b->b≠y->Rc (sN (Az (B9 f x y))) 0 (psJ x y b):=λc hc hcy e hcn hby=>by
   rw[<- e]at ih;exact .step ih.2 ((Sx hgs (by rw[Om J];exact Wf J hs hc)).2 ((sx J hs hc hcy hby).2 hcn))
  by_cases e:b=y
  ·subst e;have:=SI J hs ih.1 hn;subst this;rcases ps_eq J.ne b with h|h|h
   ·rw[h.2];exact ih.2
   ·omega
   ·omega
  ·by_cases ea:a=y
   ·refine key x J.hx (λh=>J.ne h.symm) ?_ ?_ e
    ·rw[ea];rcases ps_eq J.ne y with h|h|h
     ·rw[h.2]
     ·omega
     ·omega
    ·unfold Tj;rw[if_pos rfl,<- ea];exact hn
   ·by_cases ex:a=x
    ·exfalso
     unfold UE at hn;rw[ex,J.to,zzL16]at hn;omega
    ·refine key a ih.1 ea rfl ?_ e;unfold Tj;rw[if_neg ex];exact hn
theorem Aaj{a:Nat}(hay:a≠y){w:Nat}(h:Av (sN (Az (B9 f x y))) 0 (psJ x y a) w):∃ b,b<f.Blocks.length/\b≠y/\psJ x y b=w/\Av (sN (Az f)) 0 a b:=by
 have hy:=LI J hs;have hgs:=j_shapeB J hs
 induction h with
 | root hne=>exact⟨0,by omega,(wV J hs).1,(wV J hs).2,.root (λe=>hne (by rw[<- e,(wV J hs).2]))⟩
 | @step w w' hw hy' hz ih=>
  obtain⟨b,hb,hby,rfl,hav⟩:=ih;have hn:=(Sx hgs (by rw[Om J];exact Wf J hs hb)).1 hy';obtain⟨c,hc,hcy,_,rfl,hnc⟩:=yk J hs hb hby hn;have hca:c≠a:=λe=>hz (by rw[e]);refine⟨c,hc,hcy,rfl,?_⟩;unfold Tj at hnc
  by_cases e:b=x
  ·rw[if_pos e]at hnc;have h1:Av (sN (Az f)) 0 a y:=.step hav ((Sx hs hb).2 (by unfold UE;rw[e,J.to];exact zzL16.2 rfl)) (λe=>hay e.symm);exact .step h1 ((Sx hs hy.1).2 hnc) hca
  ·rw[if_neg e]at hnc;exact .step hav ((Sx hs hb).2 hnc) hca
theorem wW{a b:Nat}(ha:a<f.Blocks.length)(hay:a≠y)(hb:b<f.Blocks.length)(hby:b≠y)(h:Lv (B6 f) (a:Int) (b:Int)=true):Lv (B6 (B9 f x y)) (psJ x y a:Int) (psJ x y b:Int)=true:=by
 obtain⟨h1,h2⟩:=(V0 hs ha hb).1 h;refine(V0 (j_shapeB J hs) (by rw[Om J];exact Wf J hs ha) (by rw[Om J];exact Wf J hs hb)).2 ⟨(jT J hs h1).2,λhav=>h2 ?_⟩;obtain⟨c,hc,hcy,e,hv⟩:=Aaj J hs hay hav;rw[<- gf J.ne hcy hby e];exact hv
theorem Aam{d:Nat}(hd:d≠y)(h:Av (sN (Az f)) 0 d x):Av (sN (Az f)) 0 d y:=
 .step h ((Sx hs J.hx).2 (by unfold UE;rw[J.to];exact zzL16.2 rfl)) (λe=>hd e.symm)
theorem Aao{d:Nat}(h:Av (sN (Az f)) 0 d y):Av (sN (Az f)) 0 d x:=by
 cases h with
 | root=>exact absurd rfl (wV J hs).1
 | @step a _ h hy _=>
  have ha:=gi hs (yV h);have:=SI J hs ha ((Sx hs ha).1 hy);rw[<- this];exact h
theorem Aap(h:Rc (sN (Az f)) 0 y):Rc (sN (Az f)) 0 x:=by
 cases h with
 | root=>exact absurd rfl (wV J hs).1
 | @step a _ h hy=>
  have ha:=gi hs h;have:=SI J hs ha ((Sx hs ha).1 hy);rw[<- this];exact h
theorem wq{d:Nat}(hd:d<f.Blocks.length)(hdy:d≠y):Lv (B6 f) (d:Int) (y:Int)=true↔Lv (B6 f) (d:Int) (x:Int)=true:=by
 rw[V0 hs hd (LI J hs).1,V0 hs hd J.hx]
 constructor
 ·rintro⟨h1,h2⟩;exact⟨Aap J hs h1,λh=>h2 (Aam J hs hdy h)⟩
 ·rintro⟨h1,h2⟩;exact⟨.step h1 ((Sx hs J.hx).2 (by unfold UE;rw[J.to];exact zzL16.2 rfl)),λh=>h2 (Aao J hs h)⟩
theorem gP:¬ Lv (B6 f) (y:Int) (x:Int)=true:=by
 intro h;obtain⟨h1,h2⟩:=(V0 hs (LI J hs).1 J.hx).1 h
 have key:∀ b,Rc (sN (Az f)) 0 b->Av (sN (Az f)) 0 y b\/Av (sN (Az f)) 0 y x:=by
  intro b hb
  induction hb with
  | root=>exact .inl (.root (wV J hs).1)
  | @step a b ha hb ih=>
   rcases ih with ih|ih
   ·by_cases eb:b=y
    ·right
     have hal:=gi hs ha;have:=SI J hs hal ((Sx hs hal).1 (by rw[<- eb];exact hb));rw[<- this];exact ih
    ·exact .inl (.step ih hb eb)
   ·exact .inr ih
 rcases key x h1 with h|h
 ·exact h2 h
 ·exact h2 h
end
theorem HK{α β:Type}{l:List α}{F:α->β}{d:α}{d':β}{j:Nat}(h:j<l.length):(l.map F).getD j d'=F (l.getD j d):=by
 rw[Ab _ _ _ (by rw[Dn];exact h),List.getElem_map,Ab _ _ _ h]
def kv(l:List (Int×Int)):Prop:=l.Pairwise λp q=>p.1<q.1
theorem DF(p:Int×Int)(l:List (Int×Int))(e:Int×Int):NB (p::l) e=if p.1<e.1 then p::NB l e else e::p::l:=by
 unfold NB
 by_cases h:p.1<e.1<;>simp[h]
theorem insJ_perm(e:Int×Int):∀ l:List (Int×Int),(NB l e).Perm (e::l)
 | []=>.refl _
 | p::l=>by
  rw[DF]
  split
  ·exact((insJ_perm e l).cons p).trans (.swap ..)
  ·exact .refl _
theorem cl{e:Int×Int}:∀{l:List (Int×Int)},kv l->(∀ p∈l,p.1≠e.1)->kv (NB l e)
 | [],_,_=>List.pairwise_singleton _ _
 | p::l,h,hn=>by
  rw[DF];obtain⟨h1,h2⟩:=zzL74.1 h;have hp:=hn p (by simp)
  split
  ·rename_i hlt
   refine zzL74.2 ⟨λq hq=>?_,cl h2 λq hq=>hn q (by simp[hq])⟩;rcases zzL37.1 ((insJ_perm e l).mem_iff.1 hq) with rfl|hq
   ·exact hlt
   ·exact h1 q hq
  ·refine zzL74.2 ⟨λq hq=>?_,h⟩;rcases zzL37.1 hq with rfl|hq
   ·omega
   ·have:=h1 q hq;omega
theorem ju:∀(L acc:List (Int×Int)),kv acc->((acc++L).map (·.1)).Nodup->(L.foldl NB acc).Perm (acc++L)/\kv (L.foldl NB acc)
 | [],acc,h,_=>⟨by simp,h⟩
 | e::L,acc,h,hn=>by
  rw[IH];have hp:=insJ_perm e acc
  have hne:∀ p∈acc,p.1≠e.1:=λp hp he=>by
   rw[Vf,List.nodup_append]at hn;exact hn.2.2 _ (zzL20.2 ⟨p,hp,rfl⟩) _ (by simp) he
  have hpp:(acc++e::L).Perm (NB acc e++L):=by
   refine List.perm_middle.trans ?_;exact(hp.symm.append_right L)
  obtain⟨h1,h2⟩:=ju L (NB acc e) (cl h hne) ((hpp.map _).nodup_iff.1 hn);exact⟨h1.trans hpp.symm,h2⟩
theorem jv{L:List (Int×Int)}(h:(L.map (·.1)).Nodup):(Zy L).Perm L/\kv (Zy L):=by
 have:=ju L [] List.Pairwise.nil (by simpa using h)
 simpa [Zy] using this
theorem OK{v:Int->Int}{x y:Nat}{p:Ba}(h:p.Args.length=p.From.length):(Oy v x y p).map (·.1)=p.From.map (lw x y):=by
 unfold Oy;rw[List.map_fst_zip];simp[h]
theorem kC{v:Int->Int}{x y:Nat}{p:Ba}(h:p.Args.length=p.From.length):(Oy v x y p).length=p.From.length:=by
 have:=Bg List.length (OK (v:=v) (x:=x) (y:=y) h)
 simpa using this
theorem uU{v:Int->Int}{x y:Nat}{p:Ba}(h:p.Args.length=p.From.length){e:Int×Int}:e∈Oy v x y p↔∃ i,i<p.Args.length/\e=(lw x y (p.From.getD i 0),v (p.Args.getD i 0)):=by
 unfold Oy;rw[List.mem_iff_getElem]
 constructor
 ·rintro⟨i,hi,rfl⟩
  have hi':i<p.Args.length:=by simp at hi;omega
  refine⟨i,hi',?_⟩;rw[List.getElem_zip,List.getElem_map,List.getElem_map,Ab _ _ _ hi',Ab _ _ _ (by omega)]
 ·rintro⟨i,hi,rfl⟩;refine⟨i,by simp;omega,?_⟩;rw[List.getElem_zip,List.getElem_map,List.getElem_map,Ab _ _ _ hi,Ab _ _ _ (by omega)]
section
variable {f:TFunc} {x y:Nat} (J:Jn f x y) (hs:Gp f=true)
include J hs
theorem pL{a b:Nat}(ha:a<f.Blocks.length)(hb:b≠y)(h:UE f a b):a≠x:=by
 intro e;unfold UE at h;rw[e,J.to,zzL16]at h;omega
theorem ux{b:Nat}(hb:b<f.Blocks.length)(hby:b≠y):((prF f b).map (lw x y)).Nodup:=by
 rw[List.nodup_iff_pairwise_ne,List.pairwise_map];refine List.Pairwise.imp_of_mem (λ{p q} hp hq hpq e=>?_) (XK f hb);obtain⟨a,rfl,ha,hna⟩:=(Q3 hs hb).1 hp;obtain⟨c,rfl,hc,hnc⟩:=(Q3 hs hb).1 hq;rw[Pj,Pj]at e;have h1:=pL J hs ha hby hna;have h2:=pL J hs hc hby hnc;have hne:=J.ne
 have e':psJ x y a=psJ x y c:=by omega
 rcases ps_eq hne a with h3|h3|h3<;>rcases ps_eq hne c with h4|h4|h4<;>rcases ps_eq hne x with h5|h5|h5<;>omega
theorem o4{b:Nat}(hb:b<f.Blocks.length)(hby:b≠y){z:Int}:z∈prF (B9 f x y) (psJ x y b)↔z∈(prF f b).map (lw x y):=by
 have hgs:=j_shapeB J hs
 have hbl:psJ x y b<(B9 f x y).Blocks.length:=by rw[Om J];exact Wf J hs hb
 rw[Q3 hgs hbl,zzL20]
 constructor
 ·rintro⟨w,rfl,hw,hn⟩;rw[Om J]at hw;have hu:=eJ (LI J hs).1 hw;have e:=dm J.ne (x:=x) (y:=y) w;rw[<- e,sx J hs hu (XZ y w) hby]at hn;refine⟨(Tj x y (IP y w):Int),(Q3 hs hb).2 ⟨_,rfl,Yi J hs hu,hn⟩,?_⟩;rw[Pj];unfold Tj
  split
  ·rename_i h
   rcases ps_eq J.ne y with h1|h1|h1
   ·rw[h1.2];rw[h]at e;omega
   ·omega
   ·omega
  ·rw[e]
 ·rintro⟨q,hq,rfl⟩;obtain⟨c,rfl,hc,hnc⟩:=(Q3 hs hb).1 hq;rw[Pj];have hcx:=pL J hs hc hby hnc
  by_cases e:c=y
  ·refine⟨psJ x y x,?_,by rw[Om J];exact Wf J hs J.hx,(sx J hs J.hx (λh=>J.ne h.symm) hby).2 (by unfold Tj;rw[if_pos rfl,<- e];exact hnc)⟩;rcases ps_eq J.ne c with h1|h1|h1
   ·rw[h1.2]
   ·omega
   ·omega
  ·exact⟨psJ x y c,rfl,by rw[Om J];exact Wf J hs hc,(sx J hs hc e hby).2 (by unfold Tj;rw[if_neg hcx];exact hnc)⟩
theorem OD{v:Int->Int}{b:Nat}(hb:b<f.Blocks.length)(hby:b≠y){p:Ba}(h1:p.From=prF f b)(h2:p.Args.length=p.From.length) :
  (NJ v x y p).From=prF (B9 f x y) (psJ x y b)/\(NJ v x y p).Args.length=p.Args.length/\(NJ v x y p).From.length=p.From.length/\(Zy (Oy v x y p)).Perm (Oy v x y p)/\kv (Zy (Oy v x y p)):=by
 have hnd:((Oy v x y p).map (·.1)).Nodup:=by rw[OK h2,h1];exact ux J hs hb hby
 obtain⟨k1,k2⟩:=jv hnd
 have hbl:psJ x y b<(B9 f x y).Blocks.length:=by rw[Om J];exact Wf J hs hb
 have hl:(Zy (Oy v x y p)).length=p.From.length:=by rw[k1.length_eq,kC h2]
 refine⟨?_,by show(List.map _ _).length=_;rw[Dn,hl,h2],by show(List.map _ _).length=_;rw[Dn,hl],k1,k2⟩;refine FS ?_ (XK _ hbl) λz=>?_
 ·show(List.map _ _).Pairwise _
  rw[List.pairwise_map];exact k2
 ·rw[o4 J hs hb hby,<- h1,<- OK (v:=v) h2];exact(k1.map _).mem_iff
theorem jn{v:Int->Int}{p:Ba}(h2:p.Args.length=p.From.length)(hp:(Zy (Oy v x y p)).Perm (Oy v x y p)){j:Nat}(hj:j<(NJ v x y p).Args.length) :
  ∃ i,i<p.Args.length/\(NJ v x y p).From.getD j 0=lw x y (p.From.getD i 0)/\(NJ v x y p).Args.getD j 0=v (p.Args.getD i 0):=by
 have hj':j<(Zy (Oy v x y p)).length:=by
  have:j<(List.map _ _).length:=hj;rwa[Dn]at this
 obtain⟨i,hi,e⟩:=(uU h2).1 (hp.mem_iff.1 (KI hj'));refine⟨i,hi,?_,?_⟩
 ·show(List.map _ _).getD j 0=_
  rw[Ab _ _ _ (by rw[Dn];exact hj'),List.getElem_map,e]
 ·show(List.map _ _).getD j 0=_
  rw[Ab _ _ _ (by rw[Dn];exact hj'),List.getElem_map,e]
end
theorem Bc{f:TFunc}{l:Int}(R:Ys f l):Gp f=true:=by
 have:=R.shape;unfold Fd at this;rw[A5]at this;exact this.1
theorem G7{f:TFunc}{l:Int}(R:Ys f l):∀ b∈f.Blocks,∀ o∈b.Ops,Gs o=true:=λb hb o ho=>uy R hb ho
theorem Tf{f:TFunc}{l:Int}(R:Ys f l){b:Nat}(hb:b<f.Blocks.length){p:Ba}(hp:p∈(bA f b).Phis):p.From=prF f b/\p.Args.length=p.From.length:=by
 have hs:=R.shape;unfold Fd at hs;rw[A5]at hs;have:=fP hs.2 b hb;unfold K9 at this;simp only[A5,zzL27]at this;have:=this.2 p hp;unfold Jp at this;rw[A5,Fz,zzL63]at this;refine⟨this.1,?_⟩;rw[this.1];omega
theorem Wr{f:TFunc}{l:Int}(R:Ys f l){b:Nat}(hb:b<f.Blocks.length):Rc (sN (Az f)) 0 b/\((bA f b).End.Kind=1\/(bA f b).End.Kind=3->(bA f b).End.Arg=0):=by
 have hs:=R.shape;unfold Fd at hs;rw[A5]at hs;have h0:=(shape_iff.1 hs.1).1.1;have:=fP hs.2 b hb;unfold K9 at this;simp only[A5]at this;refine⟨(dz (Jq hs.1) (by omega) b).1 this.1.1,λh=>?_⟩;have h2:=this.1.2;rcases h with h|h<;>rw[h]at h2<;>simpa using h2
theorem ME{f:TFunc}(hs:Gp f=true)(h:∀ b,b<f.Blocks.length->Rc (sN (Az f)) 0 b/\((bA f b).End.Kind=1\/(bA f b).End.Kind=3->(bA f b).End.Arg=0)/\∀ p∈(bA f b).Phis,p.From=prF f b/\p.Args.length=p.From.length):Fd f=true:=by
 have h0:=(shape_iff.1 hs).1.1;unfold Fd;rw[hs,Mu,zzL27];intro b hb;rw[zzL41]at hb;obtain⟨h1,h2,h3⟩:=h b hb;unfold K9;simp only[A5,zzL27];refine⟨⟨(dz (Jq hs) (by omega) b).2 h1,?_⟩,λp hp=>?_⟩
 ·by_cases hk:(bA f b).End.Kind=1\/(bA f b).End.Kind=3
  ·rw[h2 hk];simp
  ·have e:((bA f b).End.Kind==1 || (bA f b).End.Kind==3)=false:=by
    rw[KF,zzL29,zzL29];exact⟨λh=>hk (.inl h),λh=>hk (.inr h)⟩
   rw[e];rfl
 ·obtain⟨e1,e2⟩:=h3 p hp;unfold Jp;rw[A5,Fz,zzL63];refine⟨e1,?_⟩;have e3:(Cx (Az f)).getD b []=prF f b:=rfl;rw[e3,<- e1];omega
theorem jj{v:Int->Int}{o:B2}(h:Gs o=true)(hv:∀ a∈o.Args,valS (v a)=true):Gs (mb v o)=true:=by
 simp only[Gs,A5]at h ⊢;refine⟨⟨h.1.1,⟨h.1.2.1,?_⟩⟩,?_,h.2.2⟩
 ·have:=h.1.2.2;unfold mb;rw[Dn];exact this
 ·unfold mb;rw[List.all_map,zzL27];exact hv
theorem lq{v:Int->Int}{l:Int}{o:B2}(h:Lq l o=true)(hv:∀ a∈o.Args,valS (v a)=true):Lq l (mb v o)=true:=by
 have hm:=jj (DU h) hv;have hm0:=DU h;unfold Lq at h ⊢;rw[hm];rw[hm0]at h;exact h
theorem XF{v:Int->Int}{o:B2}(h:Gs o=true)(hv:∀ a∈o.Args,valS (v a)=true):H1 (mb v o)=H1 o:=by
 rw[PO (jj h hv),PO h];rfl
def PhY(y:Nat)(d:Bx):Prop:=d.Block=(y:Int)/\d.At = -1
section
variable {f:TFunc} {x y:Nat} {l:Int} (J:Jn f x y) (R:Ys f l)
include J R
theorem YE{p:Ba}(hp:p∈(bA f y).Phis):p.Args.length=1/\(⟨p.Args.getD 0 0,(x:Int),1000,(p.Bits,1)⟩:Cm)∈Bf f/\(⟨p.Dst,(y:Int),-1,(p.Bits,1)⟩:Bx)∈Aw f:=by
 have hs:=Bc R;have hy:=(LI J hs).1;obtain⟨h1,h2⟩:=Tf R hy hp;rw[J.pred]at h1;rw[h1,EU]at h2;obtain⟨k,hk,e⟩:=Gr hp
 have e':(bA f y).Phis.getD k default=p:=by rw[Ab _ _ _ hk];exact e
 refine⟨h2,?_,ri_def.2 (.inr ⟨y,hy,.inl ⟨k,hk,by rw[e']⟩⟩)⟩;refine(H0 (G7 R)).2 ⟨y,hy,.inl ⟨k,0,hk,by rw[e'];omega,?_⟩⟩;rw[e',h1];rfl
theorem qK{d:Bx}(hd:d∈Aw f){b:Nat}(hb:b<f.Blocks.length){a:Int}(ha:0<=a)(ht:kw f d (b:Int) a) :
  ∃ e∈Aw f,e.V=vJ f y d.V/\e.Shape=d.Shape/\kw f e (b:Int) a/\¬ PhY y e:=by
 have hs:=Bc R;have hy:=LI J hs;unfold vJ VR
 cases hq:(bA f y).Phis.find? (λp=>p.Dst==d.V) with
 | none=>
  refine⟨d,hd,rfl,rfl,ht,λ⟨h1,h2⟩=>?_⟩;rcases ri_def.1 hd with⟨i,hi,e⟩|⟨i,hi,⟨k,hk,e⟩|⟨k,hk,hg,e⟩⟩
  ·rw[e]at h1;have:(-1:Int)=(y:Int):=h1;omega
  ·rw[e]at h1
   have hiy:i=y:=by have:(i:Int)=(y:Int):=h1;omega
   subst hiy;have:=List.find?_eq_none.1 hq _ (Ag (d:=(default:Ba)) hk);rw[e]at this;simp at this
  ·rw[e]at h2;have:(k:Int) = -1:=h2;omega
 | some p=>
  have hp:=List.mem_of_find?_eq_some hq
  have hpv:p.Dst=d.V:=by simpa using List.find?_some hq
  obtain⟨_,hu,hdp⟩:=YE J R hp;have hde:=pr R hd hdp hpv.symm;obtain⟨e,he,ev,es,et⟩:=JW R hu
  have hen:∀ i:Nat,e.Block=(i:Int)->i<f.Blocks.length:=λi hi=>by
   rcases ri_def.1 he with⟨j,_,e'⟩|⟨j,hj,⟨k,hk,e'⟩|⟨k,hk,hg,e'⟩⟩<;>rw[e']at hi
   ·have:(-1:Int)=(i:Int):=hi;omega
   ·have:(j:Int)=(i:Int):=hi;omega
   ·have:(j:Int)=(i:Int):=hi;omega
  have hnb:∀ i:Nat,e.Block=(i:Int)->Lv (B6 f) (i:Int) (x:Int)=true/\i≠y:=λi hi=>by
   have hin:=hen i hi
   have hov:Lv (B6 f) (i:Int) (x:Int)=true:=by
    rcases et with h|⟨h,_⟩|⟨_,h⟩
    ·omega
    ·have h:e.Block=(x:Int):=h
     have:i=x:=by omega
     rw[this];exact(V0 hs J.hx J.hx).2 ⟨(Wr R J.hx).1,λh=>ui h rfl⟩
    ·rw[hi]at h;exact h
   exact⟨hov,λe=>gP J hs (by rw[<- e];exact hov)⟩
  refine⟨e,he,ev,by rw[es,hde],?_,λ⟨h1,_⟩=>(hnb y h1).2 rfl⟩
  by_cases h0:e.Block<0
  ·exact .inl h0
  ·obtain⟨i,hi⟩:∃ i:Nat,e.Block=(i:Int):=⟨e.Block.toNat,by omega⟩;have hin:=hen i hi;obtain⟨hov,hiy⟩:=hnb i hi;have hovy:Lv (B6 f) (i:Int) (y:Int)=true:=(wq J hs hin hiy).2 hov;rw[hde]at ht;refine .inr (.inr ?_);rw[hi];rcases ht with h|⟨h,_⟩|⟨h1,h2⟩
   ·have:(y:Int)<0:=h;omega
   ·have h:(y:Int)=(b:Int):=h
    have:b=y:=by omega
    subst this;exact⟨by omega,hovy⟩
   ·have h1:(y:Int)≠(b:Int):=h1;have h2:Lv (B6 f) (y:Int) (b:Int)=true:=h2;refine⟨λe=>?_,RC hs hin hy.1 hb hovy h2⟩
    have:i=b:=by omega
    subst this;exact gP J hs (RC hs hy.1 hin J.hx h2 hov)
theorem wv{d:Bx}(hd:d∈Aw f):valS (vJ f y d.V)=true:=by
 unfold vJ VR
 cases hq:(bA f y).Phis.find? (λp=>p.Dst==d.V) with
 | none=>exact V1 R hd
 | some p=>
  obtain⟨_,hu,_⟩:=YE J R (List.mem_of_find?_eq_some hq);obtain⟨e,he,ev,_⟩:=JW R hu;have:=V1 R he;rw[ev]at this;exact this
theorem bM{u:Cm}(hu:u∈Bf f):valS (vJ f y u.V)=true:=by
 obtain⟨d,hd,e,_⟩:=JW R hu;rw[<- e];exact wv J R hd
theorem bF{b:Nat}(hb:b<f.Blocks.length){o:B2}(ho:o∈(bA f b).Ops):∀ a∈o.Args,valS (vJ f y a)=true:=λa ha=>by
 obtain⟨k,hk,e⟩:=Gr ho;obtain⟨j,hj,e2⟩:=Gr ha
 have e':(bA f b).Ops.getD k default=o:=by rw[Ab _ _ _ hk];exact e
 have:=bM J R ((H0 (G7 R)).2 ⟨b,hb,.inr (.inl ⟨k,j,hk,by rw[e'];exact hj,rfl⟩)⟩);rw[e',Ab _ _ _ hj,e2]at this;exact this
def offJ(f:TFunc)(x y b:Nat):Nat:=if b=y then(bA f x).Ops.length else 0
theorem JD{b:Nat}(hb:b<f.Blocks.length)(hby:b≠y):(bA (B9 f x y) (psJ x y b)).Phis=(bA f b).Phis.map (NJ (vJ f y) x y):=by
 rw[s5 J (Bc R) hb hby];unfold GT Kf
 split
 ·rename_i e;rw[e]
 ·rfl
theorem PS:(bA (B9 f x y) (psJ x y x)).Ops=((bA f x).Ops++(bA f y).Ops).map (mb (vJ f y)):=by
 rw[s5 J (Bc R) J.hx (λh=>J.ne h.symm)];unfold GT Kf;rw[if_pos rfl]
theorem jS{b:Nat}(hb:b<f.Blocks.length)(hby:b≠y)(hbx:b≠x):(bA (B9 f x y) (psJ x y b)).Ops=(bA f b).Ops.map (mb (vJ f y)):=by
 rw[s5 J (Bc R) hb hby];unfold GT Kf;rw[if_neg hbx]
theorem pf:psJ x y y=psJ x y x:=by rcases ps_eq J.ne y with h|h|h<;>omega
theorem sy{b:Nat}(hb:b<f.Blocks.length){k:Nat}(hk:k<(bA f b).Ops.length):k+offJ f x y b<(bA (B9 f x y) (psJ x y b)).Ops.length/\(bA (B9 f x y) (psJ x y b)).Ops.getD (k+offJ f x y b) default=mb (vJ f y) ((bA f b).Ops.getD k default):=by
 unfold offJ
 by_cases ey:b=y
 ·subst ey;rw[if_pos rfl,pf J R,PS J R];refine⟨by rw[Dn,Fg];omega,?_⟩;rw[Ab _ _ _ (by rw[Dn,Fg];omega),List.getElem_map,List.getElem_append_right (by omega),Ab _ _ _ hk]
  congr 2;omega
 ·rw[if_neg ey,Na]
  by_cases ex:b=x
  ·subst ex;rw[PS J R];refine⟨by rw[Dn,Fg];omega,?_⟩;rw[Ab _ _ _ (by rw[Dn,Fg];omega),List.getElem_map,List.getElem_append_left hk,Ab _ _ _ hk]
  ·rw[jS J R hb ey ex];refine⟨by rw[Dn];exact hk,?_⟩;rw[Ab _ _ _ (by rw[Dn];exact hk),List.getElem_map,Ab _ _ _ hk]
theorem mvJ{d:Bx}(hd:d∈Aw f){i:Nat}(hi:d.Block=(i:Int))(hp:¬ PhY y d):∃ e∈Aw (B9 f x y),e.V=d.V/\e.Shape=d.Shape/\e.Block=(psJ x y i:Int)/\e.At=d.At+(offJ f x y i:Int)/\i<f.Blocks.length/\d.At<((bA f i).Ops.length:Int):=by
 have hs:=Bc R;rcases ri_def.1 hd with⟨j,_,e⟩|⟨j,hj,h'⟩
 ·rw[e]at hi;have:(-1:Int)=(i:Int):=hi;omega
 ·have hij:j=i:=by rcases h' with⟨k,_,e⟩|⟨k,_,_,e⟩<;>rw[e]at hi<;>exact(by have:(j:Int)=(i:Int):=hi;omega)
  subst hij
  have hpl:psJ x y j<(B9 f x y).Blocks.length:=by rw[Om J];exact Wf J hs hj
  rcases h' with⟨k,hk,e⟩|⟨k,hk,hg,e⟩
  ·have hjy:j≠y:=λh=>hp ⟨by rw[e,h],by rw[e]⟩;have h1:=JD J R hj hjy;refine⟨_,ri_def.2 (.inr ⟨_,hpl,.inl ⟨k,by rw[h1,Dn];exact hk,rfl⟩⟩),?_,?_,rfl,?_,hj,by rw[e];show(-1:Int)<_;omega⟩
   ·rw[h1,Ab _ _ _ (by rw[Dn];exact hk),List.getElem_map,e,Ab _ _ _ hk];rfl
   ·rw[h1,Ab _ _ _ (by rw[Dn];exact hk),List.getElem_map,e,Ab _ _ _ hk];rfl
   ·rw[e];unfold offJ;rw[if_neg hjy];rfl
  ·obtain⟨h1,h2⟩:=sy J R hj hk;have hm:=G7 R _ (Ag (d:=default) hj) _ (Ag (d:=default) hk);have hv:=bF J R hj (Ag (d:=default) hk);have hgv:=XF hm hv;refine⟨_,ri_def.2 (.inr ⟨_,hpl,.inr ⟨k+offJ f x y j,h1,by rw[h2,hgv];exact hg,rfl⟩⟩),?_,?_,rfl,?_,hj,by rw[e];show(k:Int)<_;omega⟩
   ·rw[h2,e];rfl
   ·rw[h2,hgv,e]
   ·rw[e];show((k+offJ f x y j:Nat):Int)=(k:Int)+_;omega
theorem trJ{d:Bx}(hd:d∈Aw f)(hp:¬ PhY y d){b:Nat}(hb:b<f.Blocks.length){a:Int}(ha:0<=a)(ht:kw f d (b:Int) a) :
  ∃ e∈Aw (B9 f x y),e.V=d.V/\e.Shape=d.Shape/\kw (B9 f x y) e (psJ x y b) (a+(offJ f x y b:Int)):=by
 have hs:=Bc R;have hy:=LI J hs
 by_cases h0:d.Block<0
 ·rcases ri_def.1 hd with⟨j,hj,e⟩|⟨j,hj,h'⟩
  ·exact⟨d,ri_def.2 (.inl ⟨j,hj,e⟩),rfl,rfl,.inl h0⟩
  ·exfalso
   rcases h' with⟨k,_,e⟩|⟨k,_,_,e⟩<;>rw[e]at h0<;>exact absurd h0 (by show ¬ (j:Int)<0;omega)
 ·obtain⟨i,hi⟩:∃ i:Nat,d.Block=(i:Int):=⟨d.Block.toNat,by omega⟩;obtain⟨e,he,ev,es,eb,ea,hin,hat⟩:=mvJ J R hd hi hp;refine⟨e,he,ev,es,?_⟩;have hpy:=pf J R
  have key:∀ c c',c<f.Blocks.length->c≠y->c'<f.Blocks.length->c'≠y->psJ x y c=psJ x y i->psJ x y c'=psJ x y b->c≠c'->Lv (B6 f) (c:Int) (c':Int)=true->kw (B9 f x y) e (psJ x y b) (a+(offJ f x y b:Int)):=λc c' hc hcy hc' hcy' e1 e2 hne ho=>by
   refine .inr (.inr ⟨?_,?_⟩)
   ·rw[eb,<- e1,<- e2];intro h;exact hne (gf J.ne hcy hcy' (by omega))
   ·rw[eb,<- e1,<- e2];exact wW J hs hc hcy hc' hcy' ho
  rcases ht with h|⟨h1,h2⟩|⟨h1,h2⟩
  ·exact absurd h h0
  ·have:i=b:=by omega
   subst this;exact .inr (.inl ⟨eb,by rw[ea];omega⟩)
  ·rw[hi]at h1 h2;have hib:i≠b:=λh=>h1 (by rw[h])
   by_cases eiy:i=y
   ·subst eiy;have hxb:Lv (B6 f) (x:Int) (b:Int)=true:=RC hs J.hx hin hb ((wq J hs J.hx (λh=>J.ne h.symm)).2 ((V0 hs J.hx J.hx).2 ⟨(Wr R J.hx).1,λh=>ui h rfl⟩)) h2;have hbx:x≠b:=λh=>gP J hs (by rw[h];exact h2);exact key x b J.hx (λh=>J.ne h.symm) hb (λh=>hib h.symm) hpy.symm rfl hbx hxb
   ·by_cases eby:b=y
    ·subst eby
     by_cases eix:i=x
     ·subst eix;refine .inr (.inl ⟨by rw[eb,hpy],?_⟩);rw[ea];unfold offJ;rw[if_neg (λh=>J.ne h.symm),if_pos rfl];omega
     ·exact key i x hin eiy J.hx (λh=>J.ne h.symm) rfl hpy.symm eix ((wq J hs hin eiy).1 h2)
    ·exact key i b hin eiy hb eby rfl rfl hib h2
theorem mM{u:Cm}(hu:u∈Bf f){b:Nat}(hb:b<f.Blocks.length)(e1:u.Block=(b:Int))(ha:0<=u.At) :
  ∃ e∈Aw (B9 f x y),e.V=vJ f y u.V/\e.Shape=u.Shape/\kw (B9 f x y) e (psJ x y b) (u.At+(offJ f x y b:Int)):=by
 obtain⟨d,hd,hv,hsh,ht⟩:=JW R hu;rw[e1]at ht;obtain⟨d1,hd1,v1,s1,t1,p1⟩:=qK J R hd hb ha ht;obtain⟨e,he,ev,es,et⟩:=trJ J R hd1 p1 hb ha t1;exact⟨e,he,by rw[ev,v1,hv],by rw[es,s1,hsh],et⟩
end
end
end Go.Proofs.YtfhggcbcamamdaaGreat
