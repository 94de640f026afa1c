/-
  The machine, the program's functions and the laws' arithmetic: part 6 of 6.
-/
import Derived.Test.YtlnbjgmjaioagaaGreatPk5
set_option linter.unusedSectionVars false
set_option linter.unusedVariables false
set_option linter.unusedSimpArgs false
namespace Go.Proofs.YtlnbjgmjaioagaaGreat
noncomputable section
open Go Go.RowKit
set_option maxRecDepth 100000
theorem eL{f:TFunc}(hf:US f):Ad (B0 f) ((0:Int),(0:Int))=some (sizeW f):=by
 have hl:=DY f.Blocks (default:Ab) Uz id (B0 f) (λn i hi=>by
   have e1:decide ((i:Int)<(f.Blocks.length:Int))=true:=by simpa using hi
   unfold B0;simp only[e1,Af,Aa (Ag hi),Cp,La hi hf.blocks]
   congr 3
   rw[Vz,Vz,Int.add_assoc (w64 _),Vz];unfold Uz
   congr 1
   omega) (λn=>by
   unfold B0
   simp) f.Blocks.length 0 0 (Hq _)
 rw[L1]at hl;rw[show w64 ((0:Nat):Int)=0 from rfl,show((0:Nat):Int)=0 from rfl]at hl;rw[hl];simp[Ry,sizeW]
theorem lq{f:TFunc}(hf:US f):∃ b,E1 f=some b/\(b=true->Sm f/\(Qd f=true->f.Blocks.length<=16)):=by
 obtain⟨b,h1,h2⟩:=lp hf;refine⟨b,h1,λhb=>⟨h2 hb,λhm=>?_⟩⟩;unfold E1 at h1;rw[eL hf,Aj]at h1;obtain⟨y,hy,h1⟩:=bind_some h1;have h3:=OI h1;rw[hb]at h3;unfold Qd at hm;simp only[A1,Ds]at hm;obtain⟨⟨⟨⟨⟨⟨_,g1⟩,_⟩,_⟩,_⟩,g2⟩,_⟩:=hm;rw[Da (show ¬ (512:Int)<sizeW f by omega),Da (show ¬ ((64:Int):Int)<(f.Blocks.length:Int) by omega)]at h3
 by_cases hn:(f.Blocks.length:Int)<=16
 ·omega
 ·rw[Da hn]at h3
  revert h3
  cases y<;>simp
theorem pM{f:TFunc}(h:Sm f){v:THammock}(hi:O9 f v=true):Lt f v=some (IU f v):=by
 have hroom:(2000:Nat)<=room:=by decide
 have hi':=hi;unfold O9 at hi;rw[A1]at hi;have R:=CI h (by simpa [Xm] using hi.1);obtain⟨i,hin,ho⟩:=mem_all.1 (is_mem.1 hi.2);obtain⟨h1,h2⟩:=DV R hin ho;have l1:=H4 R h1;have l2:=H4 R h2
 have one:∀ x:Int,(x = -1\/As x f.Blocks.length)->∀ l:List A2,l.length<=512->(bif (decide ((0:Int)<=x)) then(Aw (As x f.Blocks.length) (Aw (l.length+(f.Blocks.getD x.toNat default).Ops.length<=room) (some (l++(f.Blocks.getD x.toNat default).Ops)))) else(some l))=some (l++Mu f x):=λx hx l hl=>by
  rcases hx with rfl|hx
  ·unfold Mu;rw[show((-1:Int)!=-1)=false from rfl,Aq,List.append_nil];rfl
  ·have e1:x≠-1:=by have:=hx.1;omega
   have hlen:=H4 R (.inr hx);unfold Mu at hlen ⊢;rw[show(x !=-1)=true by simpa using e1,Af]at hlen ⊢;rw[F9 hx.1,Af,Aa hx,Aa (show l.length+(f.Blocks.getD x.toNat default).Ops.length<=room by have:(f.Blocks.getD x.toNat default).Ops.length<=512:=hlen;omega)]
 unfold Lt;rw[one v.Then h1 [] (by simp),Aj,V2,one v.Else h2 _ l1,Aj]
 rfl
theorem dP{α σ S X:Type}(l:List α)(d:α)(mk:Nat->σ->S)(P:Nat->σ->Prop)(g:σ->α->σ)(out:σ->X)(f:S->Option (LR S X))
  (hn:∀ i s,i<l.length->P i s->f (mk i s)=some (.next (mk (i+1) (g s (l.getD i d))))/\P (i+1) (g s (l.getD i d)))
  (hd:∀ s,P l.length s->f (mk l.length s)=some (.done (out s))):∀(k i:Nat) (s:σ),i+k=l.length->P i s->Ad f (mk i s)=some (out ((l.drop i).foldl g s))/\P l.length ((l.drop i).foldl g s)
 | 0,i,s,h,hP=>by
  obtain rfl:i=l.length:=by omega
  rw[Ak (hd s hP)]
  simpa using hP
 | k+1,i,s,h,hP=>by
  have hi:i<l.length:=by omega
  obtain⟨h1,h2⟩:=hn i s hi hP;obtain⟨h3,h4⟩:=dP l d mk P g out f hn hd k _ _ (by omega) h2
  have hdr:l.drop i=l.getD i d::l.drop (i+1):=by simp_all
  rw[Ar h1,h3,hdr];exact⟨rfl,h4⟩
theorem T8{α σ S X:Type}(l:List α)(d:α)(mk:Nat->σ->S)(P:Nat->σ->Prop)(g:σ->α->σ)(out:σ->X)(f:S->Option (LR S X))
  (hn:∀ i s,i<l.length->P i s->f (mk i s)=some (.next (mk (i+1) (g s (l.getD i d))))/\P (i+1) (g s (l.getD i d)))
  (hd:∀ s,P l.length s->f (mk l.length s)=some (.done (out s))) (s:σ) (hP:P 0 s):Ad f (mk 0 s)=some (out (l.foldl g s))/\P l.length (l.foldl g s):=
 dP l d mk P g out f hn hd l.length 0 s (by omega) hP
abbrev Pt:=List A2×Int
def S5(s:Pt)(k b m:Int)(az:List Int):Pt:=(s.1++[⟨k,b,1,w64 (s.2+1),az,m⟩],w64 (s.2+1))
def GH(o:A2)(g:Int)(s:Pt):A2×Pt:=
 bif o.Kind==16 then(⟨18,o.Bits,o.Lanes,o.Dst,[g,o.Args.getD 0 0,w64 (s.2+1)],o.Imm⟩,S5 s 0 o.Bits 0 []) else
 bif o.Kind==17 then(⟨19,o.Bits,o.Lanes,o.Dst,[g,o.Args.getD 0 0,o.Args.getD 1 0],o.Imm⟩,s) else
 bif o.Kind==4 then(⟨20,o.Bits,o.Lanes,o.Dst,[g,o.Args.getD 0 0,o.Args.getD 1 0,w64 (s.2+1)],o.Imm⟩,S5 s 0 o.Bits 0 []) else
 bif o.Kind==18 || (o.Kind==19 || o.Kind==20) then(⟨o.Kind,o.Bits,o.Lanes,o.Dst,w64 (s.2+1)::o.Args.drop 1,o.Imm⟩,S5 s 5 1 0 [o.Args.getD 0 0,g]) else(o,s)
def IW(g:Int)(s:Pt)(o:A2):Pt:=((GH o g s).2.1++[(GH o g s).1],(GH o g s).2.2)
def Tj(ops:List A2)(g:Int)(s:Pt):Pt:=ops.foldl (IW g) s
theorem PR(s:Pt)(k b m:Int)(az:List Int):(S5 s k b m az).1.length=s.1.length+1:=by simp[S5]
theorem dD(o:A2)(g:Int)(s:Pt):(GH o g s).2.1.length<=s.1.length+1:=by
 unfold GH
 cases o.Kind==16<;>cases o.Kind==17<;>cases o.Kind==4<;>cases o.Kind==18 || (o.Kind==19 || o.Kind==20)<;>simp[S5]
theorem d6(g:Int)(s:Pt)(o:A2):(IW g s o).1.length<=s.1.length+2:=by
 have:=dD o g s;simp[IW];omega
theorem YM(ops:List A2)(g:Int):∀ s:Pt,(Tj ops g s).1.length<=s.1.length+2*ops.length:=by
 unfold Tj
 induction ops with
 | nil =>  simp
 | cons o l ih=>
  intro s;have h1:=ih (IW g s o);have h2:=d6 g s o;simp only[Zf,R0];omega
theorem grd_cases(o:A2)(g:Int)(s:Pt) :
  (o.Kind=16/\GH o g s=(⟨18,o.Bits,o.Lanes,o.Dst,[g,o.Args.getD 0 0,w64 (s.2+1)],o.Imm⟩,S5 s 0 o.Bits 0 []))\/(o.Kind=17/\GH o g s=(⟨19,o.Bits,o.Lanes,o.Dst,[g,o.Args.getD 0 0,o.Args.getD 1 0],o.Imm⟩,s)) \/
  (o.Kind=4/\GH o g s=(⟨20,o.Bits,o.Lanes,o.Dst,[g,o.Args.getD 0 0,o.Args.getD 1 0,w64 (s.2+1)],o.Imm⟩,S5 s 0 o.Bits 0 [])) \/
  ((o.Kind=18\/o.Kind=19\/o.Kind=20)/\GH o g s=(⟨o.Kind,o.Bits,o.Lanes,o.Dst,w64 (s.2+1)::o.Args.drop 1,o.Imm⟩,S5 s 5 1 0 [o.Args.getD 0 0,g])) \/
  ((o.Kind≠16/\o.Kind≠17/\o.Kind≠4/\o.Kind≠18/\o.Kind≠19/\o.Kind≠20)/\GH o g s=(o,s)):=by
 unfold GH
 by_cases h1:o.Kind=16
 ·grind
 by_cases h2:o.Kind=17
 ·grind
 by_cases h3:o.Kind=4
 ·grind
 rw[ show(o.Kind==17)=false by simpa using h2]
 by_cases h4:o.Kind=18\/o.Kind=19\/o.Kind=20
 ·grind
 ·grind
def ZN(o:A2):Prop:=((o.Kind=16\/o.Kind=18\/o.Kind=19\/o.Kind=20)->1<=o.Args.length)/\((o.Kind=17\/o.Kind=4)->2<=o.Args.length)/\o.Args.length<=64
theorem s6{o:A2}(h:Ju o=true)(hl:o.Args.length<=64):ZN o:=by
 simp only[Ju,A1]at h;have hn:=h.1.2.2;refine⟨λhk=>?_,λhk=>?_,hl⟩
 ·rcases hk with e|e|e|e<;>rw[e]at hn<;>simp[Re]at hn<;>omega
 ·rcases hk with e|e<;>rw[e]at hn<;>simp[Re]at hn<;>omega
theorem DN(d b m:Int)(az:List Int)(f:TFunc)(h:THammock)(s:Pt)(hl:s.1.length<=1000000) :
  Cf d b m az f h s.1 s.2=some (w64 (s.2+1),f,h,(S5 s d b m az).1,(S5 s d b m az).2):=by
 have hroom:1000001<=room:=by decide
 unfold Cf S5;rw[Ac (by grind)]
theorem lR{o:A2}(ha:ZN o)(g:Int)(f:TFunc)(h:THammock)(s:Pt)(hl:s.1.length<=1000000) :
  Ii o g f h s.1 s.2=some ((GH o g s).1,f,h,(GH o g s).2.1,(GH o g s).2.2):=by
 have hroom:(1000001:Nat)<=room:=by decide
 obtain⟨a1,a2,a3⟩:=ha;unfold Ii GH
 by_cases h16:o.Kind=16
 ·have hi:As (0:Int) o.Args.length:=⟨by omega,by grind⟩;rw[h16,show((16:Int)==16)=true from rfl,Af,Af,Aa hi,DN _ _ _ _ _ _ _ hl]
  rfl
 ·rw[show(o.Kind==16)=false by simpa using h16,Aq,Aq]
  by_cases h17:o.Kind=17
  ·have hi:As (0:Int) o.Args.length:=⟨by omega,by omega⟩;have hj:As (1:Int) o.Args.length:=⟨by omega,by omega⟩;rw[h17,show((17:Int)==17)=true from rfl,Af,Af,Aa hi,Aa hj]
   rfl
  ·rw[show(o.Kind==17)=false by simpa using h17,Aq,Aq]
   by_cases h4:o.Kind=4
   ·have hi:As (0:Int) o.Args.length:=⟨by omega,by omega⟩;have hj:As (1:Int) o.Args.length:=⟨by omega,by omega⟩;rw[h4,show((4:Int)==4)=true from rfl,Af,Af,Aa hi,Aa hj,DN _ _ _ _ _ _ _ hl]
    rfl
   ·rw[show(o.Kind==4)=false by simpa using h4,Aq]
    have e:(bif (o.Kind==18) then some (o.Kind==18) else bif (o.Kind==19) then some (o.Kind==19) else some (o.Kind==20))=some (o.Kind==18 || (o.Kind==19 || o.Kind==20)):=by
     grind
    rw[e,Aj]
    cases hb:(o.Kind==18 || (o.Kind==19 || o.Kind==20)) with
    | false=>rfl
    | true=>
     simp only[JL,zzL47]at hb;have hi:As (0:Int) o.Args.length:=⟨by omega,by omega⟩;rw[Af,Af,Aa hi,DN _ _ _ _ _ _ _ hl];simp only[Aj];rw[Ac (by omega),Ac (by simp;omega)]
     rfl
theorem ca{ops:List A2}(ho:∀ o∈ops,ZN o)(hn:ops.length<=100000)(g:Int)(f:TFunc)(h:THammock)(s:Pt)(hl:s.1.length<=100000) :
  Ef ops g f h s.1 s.2=some (f,h,(Tj ops g s).1,(Tj ops g s).2):=by
 have hroom:1000001<=room:=by decide
 have key:=T8 ops default (λi t=>((i:Int),f.Params,f.Ret,f.Blocks,h.At,h.Then,h.Else,h.Join,t.1,t.2)) (λi t=>t.1.length<=s.1.length+2*i) (IW g) (λt=>(f.Params,f.Ret,f.Blocks,h.At,h.Then,h.Else,h.Join,t.1,t.2)) (G1 ops g)
  (λi t hi hP=>by
   have h2:=d6 g t (ops.getD i default);refine⟨?_,by omega⟩;have h3:=dD (ops.getD i default) g t;unfold G1;simp only[B5 hi, Aa (Ag hi),Ap,w1 (show i<4611686018427387904 by omega)];rw[  lR (ho _ (Ai hi)) g f h t (by omega),Aj];rw[Ac (by grind)]
   rfl)
  (λt _=>by unfold G1;simp only[Dk,Aq]) s (by omega)
 unfold Ef;rw[show(0,f.Params,f.Ret,f.Blocks,h.At,h.Then,h.Else,h.Join,s.1,s.2)=(((0:Nat):Int),f.Params,f.Ret,f.Blocks,h.At,h.Then,h.Else,h.Join,s.1,s.2) from rfl,key.1]
 rfl
def Fm(h:THammock)(x:Int):Int:=bif x==-1 then h.At else x
structure Hm(f:TFunc)(h:THammock):Prop where
 R:Rt f
 at_:As h.At f.Blocks.length
 kind:(bA f h.At.toNat).End.Kind=2
 sides:(h.Then = -1\/As h.Then f.Blocks.length)/\(h.Else = -1\/As h.Else f.Blocks.length)
 join:As h.Join f.Blocks.length
 jne:h.Join≠h.At
 thenJ:Fm h h.Then∈HI f h.Join.toNat
 elseJ:Fm h h.Else∈HI f h.Join.toNat
 apart:Fm h h.Then≠Fm h h.Else
 atJ:h.At∈HI f h.Join.toNat->Fm h h.Then=h.At\/Fm h h.Else=h.At
 tne:h.Then≠h.At/\h.Else≠h.At/\h.Then≠h.Join/\h.Else≠h.Join
 mid:(h.Then≠-1->Nk f h.At h.Then=true/\C2 f h.Then.toNat 0=h.Join)/\(h.Else≠-1->Nk f h.At h.Else=true/\C2 f h.Else.toNat 0=h.Join)
 to:(h.Then≠-1->C2 f h.At.toNat 0=h.Then)/\(h.Then = -1->C2 f h.At.toNat 0=h.Join)/\(h.Else≠-1->C2 f h.At.toNat 1=h.Else)/\(h.Else = -1->C2 f h.At.toNat 1=h.Join)
 one:h.Then≠-1\/h.Else≠-1
theorem vX {f : TFunc} (hs : Sm f) {h : THammock} (hi : O9 f h = true) : Hm f h := by
  have hi' := hi; unfold O9 at hi'; rw [A1] at hi'; have R := CI hs (by simpa [Xm] using hi'.1); obtain ⟨i, hin, ho⟩ := mem_all.1 (is_mem.1 hi'.2); have ea := gD ho; obtain ⟨hk, hne, hJ, hJA, hcs⟩ := ZY R hin ho; have hsd := DV R hin ho; have e2 := R.two i hin hk
  have ei : h.At.toNat = i := by rw [ea]; simp
  have hJn : h.Join.toNat < f.Blocks.length := by have := hJ.1; have := hJ.2; omega
  have hJc : ((h.Join.toNat : Nat) : Int) = h.Join := Lb hJ.1
  have mpos : ∀ x, Nk f i x = true → As x f.Blocks.length → x ≠ i ∧ x ≠ h.Join := fun x hm hx => by
    have hk1 := Pb hm
    constructor
    · rintro rfl; rw [show ((i : Int)).toNat = i by simp, hk] at hk1; cases hk1
    · rintro rfl
      have hp : HI f h.Join.toNat = [(i : Int)] := by
        unfold Nk at hm; simp only [A1, Ds] at hm; exact hm.2
      rcases hcs with ⟨a1, a2, a3, a4, a5, a6⟩ | ⟨a1, a2, a3, a4, a5⟩ | ⟨a1, a2, a3, a4, a5⟩
      all_goals
        have hx0 := hx.1
      · have h1 : As h.Then f.Blocks.length := by rcases hsd.1 with h1 | h1; · rw [h1] at a1; have := P7 R hin hk 0 (by omega); rw [← a1] at this; exact absurd this.1 (by omega)
                                                   · exact h1
        have hin2 : h.Then ∈ HI f h.Join.toNat := (Yl R hJn).2 ⟨h.Then.toNat, (Lb h1.1).symm, (by have := h1.1; have := h1.2; omega), by rw [hJc, ← a5]; exact Ai (by rw [R.one _ (by have := h1.1; have := h1.2; omega) (Pb a3)]; omega)⟩
        have h2 : As h.Else f.Blocks.length := by rcases hsd.2 with h2 | h2; · rw [h2] at a2; have := P7 R hin hk 1 (by omega); rw [← a2] at this; exact absurd this.1 (by omega)
                                                   · exact h2
        have hin3 : h.Else ∈ HI f h.Join.toNat := (Yl R hJn).2 ⟨h.Else.toNat, (Lb h2.1).symm, (by have := h2.1; have := h2.2; omega), by rw [hJc, ← a6]; exact Ai (by rw [R.one _ (by have := h2.1; have := h2.2; omega) (Pb a4)]; omega)⟩; rw [hp] at hin2 hin3; simp only [zzL25] at hin2 hin3; exact hne (by rw [← a1, ← a2, hin2, hin3])
      · have h1 : As h.Then f.Blocks.length := by rcases hsd.1 with h1 | h1; · rw [h1] at a1; have := P7 R hin hk 0 (by omega); rw [← a1] at this; exact absurd this.1 (by omega)
                                                   · exact h1
        have hin2 : h.Then ∈ HI f h.Join.toNat := (Yl R hJn).2 ⟨h.Then.toNat, (Lb h1.1).symm, (by have := h1.1; have := h1.2; omega), by rw [hJc, ← a5]; exact Ai (by rw [R.one _ (by have := h1.1; have := h1.2; omega) (Pb a4)]; omega)⟩; rw [hp] at hin2; simp only [zzL25] at hin2; have := Pb a4; rw [hin2, show ((i : Int)).toNat = i by simp, hk] at this
        cases this
      · have h2 : As h.Else f.Blocks.length := by rcases hsd.2 with h2 | h2; · rw [h2] at a2; have := P7 R hin hk 1 (by omega); rw [← a2] at this; exact absurd this.1 (by omega)
                                                   · exact h2
        have hin3 : h.Else ∈ HI f h.Join.toNat := (Yl R hJn).2 ⟨h.Else.toNat, (Lb h2.1).symm, (by have := h2.1; have := h2.2; omega), by rw [hJc, ← a5]; exact Ai (by rw [R.one _ (by have := h2.1; have := h2.2; omega) (Pb a4)]; omega)⟩; rw [hp] at hin3; simp only [zzL25] at hin3; have := Pb a4; rw [hin3, show ((i : Int)).toNat = i by simp, hk] at this
        cases this
  have t0 := P7 R hin hk 0 (by omega); have t1 := P7 R hin hk 1 (by omega); have here : ∀ k, k < 2 → C2 f i k = h.Join → (i : Int) ∈ HI f h.Join.toNat := fun k hk2 e => (Yl R hJn).2 ⟨i, rfl, hin, by rw [hJc, ← e]; exact Ai (by rw [e2]; exact hk2)⟩; have there : ∀ x, As x f.Blocks.length → Nk f i x = true → C2 f x.toNat 0 = h.Join → x ∈ HI f h.Join.toNat := fun x hx hm e => (Yl R hJn).2 ⟨x.toNat, (Lb hx.1).symm, (by have := hx.1; have := hx.2; omega), by rw [hJc, ← e]; exact Ai (by rw [R.one _ (by have := hx.1; have := hx.2; omega) (Pb hm)]; omega)⟩
  have pos : ∀ x, As x f.Blocks.length → x ≠ -1 := fun x hx e => by have := hx.1; omega
  have ce : ∀ x, As x f.Blocks.length → Fm h x = x := fun x hx => by unfold Fm; rw [show (x == -1) = false by simpa using pos x hx]; rfl
  have cm : Fm h (-1) = i := by unfold Fm; rw [ea]; rfl
  have at_to : h.At ∈ HI f h.Join.toNat → h.Join = C2 f i 0 ∨ h.Join = C2 f i 1 := fun hm => by
    obtain ⟨p, hp, hpn, hto⟩ := (Yl R hJn).1 hm
    obtain rfl : p = i := by omega
    rw [hJc] at hto; obtain ⟨k, hk3, hk4⟩ := N9 hto
    have hk5 : C2 f p k = h.Join := by unfold C2; rw [Am _ _ _ hk3]; exact hk4
    rw [e2] at hk3
    have : k = 0 ∨ k = 1 := by omega
    rcases this with rfl | rfl
    · exact .inl hk5.symm
    · exact .inr hk5.symm
  rw [← ei] at hk
  have hA : As h.At f.Blocks.length := by rw [ea]; exact Ag hin
  rcases hcs with ⟨a1, a2, a3, a4, a5, a6⟩ | ⟨a1, a2, a3, a4, a5⟩ | ⟨a1, a2, a3, a4, a5⟩
  · have i1 : As h.Then f.Blocks.length := by rw [a1]; exact t0
    have i2 : As h.Else f.Blocks.length := by rw [a2]; exact t1
    obtain ⟨m1, m2⟩ := mpos _ a3 i1; obtain ⟨m3, m4⟩ := mpos _ a4 i2; refine ⟨R, hA, hk, hsd, hJ, by rw [ea]; exact hJA, by rw [ce _ i1]; exact there _ i1 a3 a5, by rw [ce _ i2]; exact there _ i2 a4 a6, by rw [ce _ i1, ce _ i2, a1, a2]; exact hne, fun hm => ?_, ⟨by rw [ea]; exact m1, by rw [ea]; exact m3, m2, m4⟩, by rw [ea]; exact ⟨fun _ => ⟨a3, a5⟩, fun _ => ⟨a4, a6⟩⟩, ?_, .inl (pos _ i1)⟩
    · rcases at_to hm with e | e
      · exact absurd (by rw [e, a1]) m2
      · exact absurd (by rw [e, a2]) m4
    · rw [ei]; exact ⟨fun _ => a1.symm, fun e => absurd e (pos _ i1), fun _ => a2.symm, fun e => absurd e (pos _ i2)⟩
  · have i1 : As h.Then f.Blocks.length := by rw [a1]; exact t0
    obtain ⟨m1, m2⟩ := mpos _ a4 i1; refine ⟨R, hA, hk, hsd, hJ, by rw [ea]; exact hJA, by rw [ce _ i1]; exact there _ i1 a4 a5, by rw [a2, cm]; exact here 1 (by omega) a3.symm, by rw [ce _ i1, a2, cm]; exact m1, fun _ => .inr (by rw [a2, cm, ea]), ⟨by rw [ea]; exact m1, by rw [a2, ea]; omega, m2, by rw [a2]; exact fun e => pos _ hJ e.symm⟩, by rw [ea]; exact ⟨fun _ => ⟨a4, a5⟩, fun e => absurd a2 e⟩, ?_, .inl (pos _ i1)⟩; rw [ei]; exact ⟨fun _ => a1.symm, fun e => absurd e (pos _ i1), fun e => absurd a2 e, fun _ => a3.symm⟩
  · have i2 : As h.Else f.Blocks.length := by rw [a2]; exact t1
    obtain ⟨m3, m4⟩ := mpos _ a4 i2; refine ⟨R, hA, hk, hsd, hJ, by rw [ea]; exact hJA, by rw [a1, cm]; exact here 0 (by omega) a3.symm, by rw [ce _ i2]; exact there _ i2 a4 a5, by rw [ce _ i2, a1, cm]; exact fun e => m3 e.symm, fun _ => .inl (by rw [a1, cm, ea]), ⟨by rw [a1, ea]; omega, by rw [ea]; exact m3, by rw [a1]; exact fun e => pos _ hJ e.symm, m4⟩, by rw [ea]; exact ⟨fun e => absurd a1 e, fun _ => ⟨a4, a5⟩⟩, ?_, .inr (pos _ i2)⟩; rw [ei]; exact ⟨fun e => absurd a1 e, fun _ => a3.symm, fun _ => a2.symm, fun e => absurd e (pos _ i2)⟩
theorem tq{a b:Nat}(h:a+b<4000000):w64 (Xe .u64 (Fl (w64 ((a:Int)+(b:Int)))) (1:Int))=(((a+b) / 2:Nat):Int):=by
 have e:(a+b)=((a+b:Nat):Int):=by omega
 rw[e,Em (n:=(a+b:Nat)) (by omega) (by omega),Sp (by omega) (by omega)];unfold Xe;rw[show(1:Int).toNat=1 from rfl,show min 1 _=1 from rfl, Int.fdiv_eq_ediv_of_nonneg _ (by omega),Em (by omega) (by omega)];omega
theorem pO{l:List Int}(hs:l.Pairwise (·<·))(hl:l.length<=1000)(x:Int):∃(i:Nat) (b:Bool),Eu l x=some ((i:Int),b)/\i<=l.length/\(∀ k,k<i->l.getD k 0<x)/\∀ k,i<=k->k<l.length->x<=l.getD k 0:=by
 have hmono:∀ i j,i<j->j<l.length->l.getD i 0<l.getD j 0:=λi j hij hj=>by
  rw[Am _ _ _ hj,Am _ _ _ (by omega)];exact zzL109.1 hs i j (by omega) hj hij
 have key:∀ d (a b:Nat),b-a<=d->a<=b->b<=l.length->(∀ k,k<a->l.getD k 0<x)->(∀ k,b<=k->k<l.length->x<=l.getD k 0)->
   ∃ i:Nat,Ad (B2 l x) ((a:Int),(b:Int))=some (i:Int)/\i<=l.length/\(∀ k,k<i->l.getD k 0<x)/\∀ k,i<=k->k<l.length->x<=l.getD k 0:=by
  intro d
  induction d with
  | zero=>
   intro a b h1 h2 h3 h4 h5
   obtain rfl:a=b:=by omega
   refine⟨a,Ak ?_,h3,h4,h5⟩;unfold B2;simp only[Dk,Aq]
  | succ d ih=>
   intro a b h1 h2 h3 h4 h5
   by_cases hab:a<b
   ·have hm:(a+b) / 2<l.length:=by omega
    have e:B2 l x ((a:Int),(b:Int))=some (.next (bif decide (l.getD ((a+b) / 2) 0<x) then((((a+b) / 2+1:Nat):Int),(b:Int)) else((a:Int),(((a+b) / 2:Nat):Int)))):=by
     unfold B2 Uh Po;simp only[B5 hab,Af,tq (show a+b<4000000 by omega),Aa (Ag hm),Ap,Aj,bne_self_eq_false,w1 (show(a+b) / 2<4611686018427387904 by omega)]
     cases decide (l.getD ((a+b) / 2) 0<x)<;>rfl
    rw[Ar e]
    by_cases hx:l.getD ((a+b) / 2) 0<x
    ·rw[F9 hx,Af];refine ih _ _ (by omega) (by omega) h3 (λk hk=>?_) h5;rcases zzL118 k ((a+b) / 2) with h6|h6
     ·exact Int.lt_trans (hmono k _ h6 hm) hx
     ·obtain rfl:k=(a+b) / 2:=by omega
      exact hx
    ·rw[Da hx,Aq];refine ih _ _ (by omega) (by omega) (by omega) h4 (λk hk hkl=>?_);rcases zzL118 ((a+b) / 2) k with h6|h6
     ·have:=hmono _ k h6 hkl;omega
     ·obtain rfl:k=(a+b) / 2:=by omega
      omega
   ·exact ih a b (by omega) h2 h3 h4 h5
 obtain⟨i,h1,h2,h3,h4⟩:=key l.length 0 l.length (by omega) (by omega) (zzL8 _) (λk hk=>by omega) (λk hk hk2=>by omega);have h1':Ad (B2 l x) ((0:Int),(l.length:Int))=some (i:Int):=h1;unfold Eu Mg;rw[h1',Aj]
 have hin:(decide ((i:Int)<(l.length:Int)))=true->As (i:Int) l.length:=λh=>by have:=LK h;exact⟨by omega,this⟩
 rw[Aa (λh=>hin (by simpa using h)),Aa (λh=>hin (by simp at h;simpa using h.1))];simp only[bne_self_eq_false];refine⟨i,(bif decide ((i:Int)<(l.length:Int)) then(bif (l.getD (i:Int).toNat 0==x) then true else(bif false then false else false)) else false),?_,h2,h3,h4⟩
 have e:∀ b:Bool,(bif b then some false else some false)=some false:=λb=>by cases b<;>rfl
 rw[e,Aj];simp only[Bool.and_false,show((false:Bool)==true)=false from rfl,Aq,Aj]
def DM(p:Bh)(x:Int):Int:=match p.From.findIdx? (λy=>y==x) with|some i=>p.Args.getD i 0|none=>0
theorem oM{p:Bh}(hs:p.From.Pairwise (·<·)){i:Nat}(hi:i<p.From.length):DM p (p.From.getD i 0)=p.Args.getD i 0:=by
 have hfi:p.From.findIdx? (λy=>y==p.From.getD i 0)=some i:=by
  rw[List.findIdx?_eq_some_iff_getElem];rw[Am _ _ _ hi];refine⟨hi,by simp,λj hj=>?_⟩;have:=zzL109.1 hs j i (by omega) hi hj
  simp;omega
 unfold DM;rw[hfi]
theorem zx{p:Bh}(hs:p.From.Pairwise (·<·))(hl:p.From.length<=1000)(ha:p.Args.length=p.From.length){x:Int}(hx:x∈p.From):Sw p x=some (DM p x):=by
 unfold Sw
 rcases m_index _ x hl with⟨r,h1,h2,_,h3⟩|⟨h1,_⟩
 ·rw[h3,Aj,Aa (by rw[ha];exact Ag h1),Ap,<- h2,oM hs h1]
 ·obtain⟨i,hi,he⟩:=N9 hx;exact absurd (by grind) (h1 i hi)
def Rv(h:THammock)(x:Int):Int:=(λy:Int=>bif (h.Else !=-1)&&decide (h.Else<x) then y-1 else y) (bif (h.Then !=-1)&&decide (h.Then<x) then x-1 else x)
def lw(h:THammock)(p:Bh):Bh:=⟨p.Bits,p.Dst,p.From.map (Rv h),p.Args⟩
def RF(h:THammock)(b:Ab):Ab:=⟨b.Phis.map (lw h),b.Ops,⟨b.End.Kind,b.End.Arg,b.End.To.map (Rv h)⟩⟩
theorem DL(a b:Bool):(bif a then b else false)=(a&&b):=by cases a<;>rfl
theorem ZR{α:Type}(b:Bool)(x y:α):(bif b then some x else some y)=some (bif b then x else y):=by cases b<;>rfl
theorem tP{h:THammock}{x:Int}(hx:0<=x/\x<1000000):Nf x h=some (Rv h x):=by
 unfold Nf Rv;rw[DL,DL,ZR,Aj,Em (n:=x-1) (by omega) (by omega)]
 generalize hz:(bif ((h.Then !=-1)&&decide (h.Then<x)) then x-1 else x)=z
 have hz2:-1<=z/\z<1000000:=by grind
 rw[Em  (by omega) (by omega),ZR]
 rfl
theorem dB{α β:Type}(F:α->β):∀(l:List α) (k:Nat) (s:List β),s.length=k+l.length->(l.foldl (λ(t:Nat×List β) b=>(t.1+1,t.2.set t.1 (F b))) (k,s)).2=s.take k++l.map F
 | [],k,s,h=>by simp at h;simp[<- h]
 | b::l,k,s,h=>by
  simp only[R0]at h;rw[Zf,dB F l _ _ (by simp;omega)]
  have e:(s.set k (F b)).take (k+1)=s.take k++[F b]:=by
   rw[List.take_add_one,List.take_set_of_le (by omega)];simp[ show k<s.length by omega]
  rw[e,U9];rfl
theorem dQ{α β X:Type}(l:List α)(d:α)(F:α->β)(out:List β->X)(f:Int×List β->Option (LR (Int×List β) X))(hn:∀(i:Nat) (s:List β),i<l.length->s.length=l.length->f ((i:Int),s)=some (.next (((i+1:Nat):Int),s.set i (F (l.getD i d)))))
  (hd:∀ s,f ((l.length:Int),s)=some (.done (out s))) (s:List β) (hs:s.length=l.length):Ad f ((0:Int),s)=some (out (l.map F)):=by
 have key:=T8 l d (λi t=>((i:Int),t.2)) (λi t=>t.1=i/\t.2.length=l.length) (λt b=>(t.1+1,t.2.set t.1 (F b))) _ f
  (λi t hi hP=>by grind) (λt _=>hd t.2) (0,s) ⟨rfl,hs⟩
 have:=key.1;rw[dB F l 0 s (by omega)]at this
 simpa using this
theorem PV{l:List Int}{h:THammock}(hl:l.length<=100000)(hx:∀ x∈l,0<=x/\x<1000000):Kw l h=some (l.map (Rv h)):=by
 have hroom:1000001<=room:=by decide
 unfold Kw
 rw[Aa (by omega),dQ l 0 _ id _ (λi s hi hs=>by
  unfold Ny;simp only[B5 hi,Af,Aa (Ag hi),Ap,tP (hx _ (Ai hi)),Aj,w1 (show i<4611686018427387904 by omega)]
  rw[Aa (by rw[hs];exact Ag hi)]) (λs=>by unfold Ny;simp only[Dk];rfl) _ (by simp)]
 rfl
def vG(b:Ab):Prop:=b.Phis.length<=100000/\(∀ p∈b.Phis,p.From.length<=100000/\∀ x∈p.From,0<=x/\x<1000000)/\b.End.To.length<=100000/\∀ x∈b.End.To,0<=x/\x<1000000
theorem tM{b:Ab}(hb:vG b)(h:THammock):Qt b h=some (RF h b):=by
 have hroom:1000001<=room:=by decide
 obtain⟨b1,b2,b3,b4⟩:=hb;unfold Qt
 rw[Aa (by omega),dQ _ _ (lw h) id _ (λi s hi hs=>by
  unfold Qu;have hm:=b2 _ (Ai (d:=default) hi);simp only[B5 hi, Aa (Ag hi),Ap,PV hm.1 hm.2,Aj,w1 (show i<4611686018427387904 by omega)];rw[Aa (by rw[hs];exact Ag hi)]
  rfl) (λs=>by unfold Qu;simp only[Dk];rfl) _ (by simp), PV b3 b4]
 rfl
def jl(h:THammock)(p:Bh)(k:Nat):Bool:=((k:Int)==h.At) || (((k:Int)!=Fm h h.Then)&&(((k:Int)!=Fm h h.Else)&&p.From.contains (k:Int)))
def BG(n:Nat)(h:THammock)(p:Bh):List Int:=((List.range n).filter (jl h p)).map Int.ofNat
def dE(n:Nat)(h:THammock)(p:Bh)(v:Int):Bh:=⟨p.Bits,p.Dst,BG n h p,(BG n h p).map λx=>bif x==h.At then v else DM p x⟩
theorem XE{α β:Type}(c:α->Bool)(F:α->β):∀(l:List α) (s:List α×List β),l.foldl (λs b=>bif c b then(s.1++[b],s.2++[F b]) else s) s=(s.1++l.filter c,s.2++(l.filter c).map F)
 | [],s=>by simp
 | b::l,s=>by
  rw[Zf,XE c F l];cases h:c b<;>simp[h]
theorem lS{n:Nat}{h:THammock}{p:Bh}(hs:p.From.Pairwise (·<·))(hl:p.From.length<=1000)(ha:p.Args.length=p.From.length)(hin:∀ x∈p.From,As x n)(hA:As h.At n)(hat:h.At∈p.From->Fm h h.Then=h.At\/Fm h h.Else=h.At)(v:Int) :
  Oe p (Fm h h.Then) (Fm h h.Else) h.At v=some (dE n h p v):=by
 have hroom:(1000001:Nat)<=room:=by decide
 have key:=T8 p.From (0:Int) (λi (t:List Int×List Int)=>((i:Int),t.1,t.2)) (λi t=>t.1.length<=i/\t.2.length<=i) (λs b=>bif (b !=Fm h h.Then)&&(b !=Fm h h.Else) then(s.1++[b],s.2++[DM p b]) else s) (λt=>(t.1,t.2)) (Lp p (Fm h h.Then) (Fm h h.Else))
  (λi t hi hP=>by
   unfold Lp;simp only[B5 hi,Af,Aa (Ag hi),Ap,w1 (show i<4611686018427387904 by omega),DL];rw[oM hs hi]
   cases((p.From.getD i 0 !=Fm h h.Then)&&(p.From.getD i 0 !=Fm h h.Else)) with
   | false=>exact⟨rfl,by simp only[Aq];omega⟩
   | true=>
    simp only[Af];rw[Ac (by simp;omega),Aa (by rw[ha];exact Ag hi),Ac (by simp;omega)]
    exact⟨rfl,by simp;omega⟩)
  (λt _=>by unfold Lp;simp only[Dk,Aq]) ([],[]) (by simp)
 rw[XE]at key;simp only[V2]at key;obtain⟨L,hL⟩:∃ L,L=p.From.filter λb=>(b !=Fm h h.Then)&&(b !=Fm h h.Else):=⟨_,rfl⟩;rw[<- hL]at key
 have hLs:L.Pairwise (·<·):=by rw[hL];exact hs.filter _
 have hLl:L.length<=1000:=by rw[hL];exact Qa (List.length_filter_le ..) hl
 have hLm:∀ x,x∈L↔x∈p.From/\x≠Fm h h.Then/\x≠Fm h h.Else:=λx=>by rw[hL,zzL99];simp
 have hLa:h.At∉L:=λhm=>by
  obtain⟨h1,h2,h3⟩:=(hLm _).1 hm;rcases hat h1 with e|e
  ·exact h2 e.symm
  ·exact h3 e.symm
 unfold Oe;rw[show((0:Int),([]:List Int),([]:List Int))=(((0:Nat):Int),[],[]) from rfl,key.1];obtain⟨i,b,hb,hi,hlt,hge⟩:=pO hLs hLl h.At
 have hI:∀ M:List Int,M.length=L.length->∀ z,CS M (i:Int) [z]=some (M.take i++[z]++M.drop i,M.take i++[z]++M.drop i,[z]):=λM hM z=>by
  unfold CS;rw[Ac ⟨by omega,by omega,by simp,by simp;omega⟩,Ap]
 simp only[Aj,hb,hI L rfl,hI (L.map (DM p)) (by simp)];rw[Ac (show 1=[h.At].length from rfl),Ac (show 1=[v].length from rfl)]
 have hF:L.take i++[h.At]++L.drop i=BG n h p:=by
  have hgt:∀ y∈L.drop i,h.At<y:=λy hy=>by
   obtain⟨k,hk,rfl⟩:=N9 hy;rw[List.getElem_drop];rw[CY]at hk;have h1:=hge (i+k) (by omega) (by omega);rw[Am _ _ _ (show i+k<L.length by omega)]at h1;have h2:L[i+k]≠h.At:=λe=>hLa (e▸LM _);omega
  have hlt':∀ y∈L.take i,y<h.At:=λy hy=>by
   obtain⟨k,hk,rfl⟩:=N9 hy;rw[List.getElem_take];rw[JJ]at hk;have h1:=hlt k (by omega);rwa[Am _ _ _ (show k<L.length by omega)]at h1
  refine GT ?_ (BD _ _) λx=>?_
  ·grind
  ·unfold BG;rw[RC]
   have hx:x∈L.take i++[h.At]++L.drop i↔x=h.At\/x∈L:=by
    conv=>rhs;rw[<- List.take_append_drop i L]
    simp only[zzL14,zzL25]
    constructor
    ·rintro((h1|h1)|h1)
     ·exact .inr (.inl h1)
     ·exact .inl h1
     ·exact .inr (.inr h1)
    ·rintro(h1|h1|h1)
     ·exact .inl (.inr h1)
     ·exact .inl (.inl h1)
     ·exact .inr h1
   rw[hx]
   constructor
   ·intro h1
    have hxn:As x n:=by
     rcases h1 with rfl|h1
     ·exact hA
     ·exact hin x ((hLm x).1 h1).1
    refine⟨x.toNat,(Lb hxn.1).symm,(by have:=hxn.1;have:=hxn.2;omega),?_⟩;unfold jl;rw[Lb hxn.1];rcases h1 with rfl|h1
    ·simp
    ·obtain⟨h2,h3,h4⟩:=(hLm x).1 h1;simp[h2,h3,h4]
   ·rintro⟨k,rfl,hk,h1⟩;unfold jl at h1;simp only[JL,zzL47,A1,zzL86,zzL65,ne_eq]at h1;rcases h1 with h1|⟨h1,h2,h3⟩
    ·exact .inl h1
    ·exact .inr ((hLm _).2 ⟨h3,h1,h2⟩)
 have hG:(L.map (DM p)).take i++[v]++(L.map (DM p)).drop i=(BG n h p).map λx=>bif x==h.At then v else DM p x:=by
  rw[<- hF,JK,JK,<- List.map_take,<- List.map_drop]
  have e:∀ M:List Int,(∀ x∈M,x∈L)->M.map (DM p)=M.map λx=>bif x==h.At then v else DM p x:=λM hM=>bU λx hx=>by
   have:(x==h.At)=false:=by simp;exact λe=>hLa (e▸hM x hx)
   rw[this];rfl
  rw[e _ (λx hx=>List.mem_of_mem_take hx),e _ (λx hx=>List.mem_of_mem_drop hx)]
  simp
 rw[hF,hG]
 rfl
set_option linter.unusedSectionVars false
theorem wx(k:Int):Vu k=some (YD k):=by
 unfold Vu YD
 have e:(bif (k==4) then some (k==4) else bif (k==16) then some (k==16) else bif (k==17) then some (k==17) else bif (k==18) then some (k==18) else bif (k==19) then some (k==19) else some (k==20))=some (k==4 || k==16 || k==17 || k==18 || k==19 || k==20):=by
  grind
 rw[e, MP]
 cases(k==4 || k==16 || k==17 || k==18 || k==19 || k==20)<;>simp
def VG(l:List A2):Bool:=l.any λo=>!YD o.Kind
theorem wy(l:List A2)(hl:l.length<4611686018427387904):Cl l=some (VG l):=by
 unfold Cl Fa VG
 have hk:∀ i,i<l.length->m_slices_IndexFunc_api_Op_api_Op_v2_L1 l i=bif !YD (l.getD i default).Kind then some (.done (.inr i)) else some (.next ((i+1:Nat))):=λi hi=>by
  unfold m_slices_IndexFunc_api_Op_api_Op_v2_L1 Ov;simp only[B5 hi,Af,Ap,Aa (Ag hi),wx,Aj,w1 (show i<4611686018427387904 by omega)]
 rcases loop_first (m_slices_IndexFunc_api_Op_api_Op_v2_L1 l) (λi=>!YD _) _ (.inl ()) _ (λi hi hp=>by rw[hk i hi,hp];rfl) (λi hi hp=>by rw[hk i hi,hp];rfl)
  (by unfold m_slices_IndexFunc_api_Op_api_Op_v2_L1;simp only[Dk,Aq]) with⟨i,hi,hp,hl⟩|⟨hp,hl⟩
 ·rw[hl,List.any_eq_true.2 ⟨_,Ai hi,hp⟩]
  simp
 ·rw[hl]
  have:(l.any λo=>!YD o.Kind)=false:=by
   rw[Bool.eq_false_iff];intro h;obtain⟨o,ho,hb⟩:=List.any_eq_true.1 h;obtain⟨i,hi,he⟩:=N9 ho;have:=hp i hi;rw[Am _ _ _ hi,he,hb]at this
   cases this
  rw[this];rfl
def bP(f:TFunc)(h:THammock):Pt:=Tj (Mu f h.Then) (bA f h.At.toNat).End.Arg ((bA f h.At.toNat).Ops,Nb f)
def WJ(f:TFunc)(h:THammock):Pt:=bif VG (Mu f h.Else) then S5 (S5 (bP f h) 0 1 1 []) 7 1 0 [(bA f h.At.toNat).End.Arg,(S5 (bP f h) 0 1 1 []).2] else bP f h
def lz(f:TFunc)(h:THammock):Int:=bif VG (Mu f h.Else) then(WJ f h).2 else 0
def PJ(f:TFunc)(h:THammock):Pt:=Tj (Mu f h.Else) (lz f h) (WJ f h)
section
variable {f:TFunc} {h:THammock} (H:Hm f h)
include H
theorem pr(hc:Xm f=true){x:Int}(hx:x = -1\/As x f.Blocks.length):∀ o∈Mu f x,ZN o:=by
 intro o ho;unfold Mu at ho;rcases hx with rfl|hx
 ·cases ho
 ·rw[show(x !=-1)=true by grind]at ho;have hm:bA f x.toNat∈f.Blocks:=Ai (by have:=hx.1;have:=hx.2;omega);exact s6 (eS ((Pu   (by omega) (by omega)).1 (by simpa [Xm] using hc)).2.2.1 hm ho) (XY H.R.ok hm ho)
theorem ZP:(bA f h.At.toNat).Ops.length<=512:=by
 have:=(H.R.ok.block _ (Ai  (i:=h.At.toNat) (d:=default) (by have:=H.at_.1;have:=H.at_.2;omega))).ops;exact this
theorem kE:(bP f h).1.length<=2000:=by
 have h1:=YM (Mu f h.Then) (bA f h.At.toNat).End.Arg ((bA f h.At.toNat).Ops,Nb f);have h2:=H4 H.R H.sides.1;have h3:=ZP H;unfold bP;simp only at h1;omega
theorem kF:(WJ f h).1.length<=2002:=by
 have:=kE H;unfold WJ
 cases VG _ with
 | false=>rw[Aq];omega
 | true=>rw[Af,PR,PR];omega
theorem kG:(PJ f h).1.length<=4000:=by
 have h1:=YM (Mu f h.Else) (lz f h) (WJ f h);have h2:=H4 H.R H.sides.2;have h3:=kF H;unfold PJ;omega
theorem WV{x:Int}(hx:x = -1\/As x f.Blocks.length)(s:List A2)(l:Int):Ft x f h s l=some (Mu f x):=by
 unfold Ft Mu;rcases hx with rfl|hx
 ·rfl
 ·have e:(x==-1)=false:=by have:=hx.1;simp;omega
  rw[e, Aa hx,show(x !=-1)=true by simpa using e]
  rfl
theorem ft(hc:Xm f=true):Hv (bA f h.At.toNat).End.Arg f h (bA f h.At.toNat).Ops (Nb f)=some (f,h,(PJ f h).1,(PJ f h).2):=by
 have l1:=H4 H.R H.sides.1;have l2:=H4 H.R H.sides.2;have k1:=kE H;have k2:=kF H;unfold Hv;rw[WV H H.sides.1,Aj,ca (pr H hc H.sides.1) (by omega) _ _ _ ((bA f h.At.toNat).Ops,Nb f) (by have:=ZP H;simp only;omega),Aj];simp only;rw[show Tj (Mu f h.Then) (bA f h.At.toNat).End.Arg ((bA f h.At.toNat).Ops,Nb f)=bP f h from rfl,WV H H.sides.2,Aj,wy _ (by omega),Aj];have e:∀ z ,z=(lz f h,f.Params,f.Ret,f.Blocks,h.At,h.Then,h.Else,h.Join,(WJ f h).1,(WJ f h).2)->
   (Option.bind (some z) λx17=>(match x17 with|(i4,l5,i6,l7,i8,i9,i10,i11,l12,i13)=>((Ef (Mu f h.Else) i4 (⟨l5,i6,l7⟩:TFunc) _ l12 i13).bind _)))=some (f,h,(PJ f h).1,(PJ f h).2):=λz hz=>by
  subst hz;simp only[Aj];rw[  ca (pr H hc H.sides.2) (by omega) _ _ _ (WJ f h) (by omega),Aj]
  rfl
 cases hg:VG (Mu f h.Else) with
 | false=>
  rw[Aq];refine e _ ?_;unfold lz WJ;rw[hg];rfl
 | true=>
  rw[Af,DN _ _ _ _ _ _ _ (by omega),Aj];simp only;rw[DN _ _ _ _ _ _ _ (by rw[PR];omega),Aj];refine e _ ?_;unfold lz WJ;rw[hg];rfl
end
def OO(f:TFunc)(h:THammock)(s:List Bh×Pt)(p:Bh):List Bh×Pt:=
 bif DM p (Fm h h.Then)==DM p (Fm h h.Else) then(s.1++[dE f.Blocks.length h p (DM p (Fm h h.Then))],s.2) else
  (s.1++[dE f.Blocks.length h p (w64 (s.2.2+1))],S5 s.2 13 p.Bits 0 [(bA f h.At.toNat).End.Arg,DM p (Fm h h.Then),DM p (Fm h h.Else)])
def FH(f:TFunc)(h:THammock):List Bh×Pt:=(bA f h.Join.toNat).Phis.foldl (OO f h) ([],PJ f h)
theorem j7(f:TFunc)(h:THammock)(s:List Bh×Pt)(p:Bh):(OO f h s p).1.length=s.1.length+1/\(OO f h s p).2.1.length<=s.2.1.length+1:=by
 unfold OO
 cases DM p _==DM p _<;>simp[S5]
section
variable {f:TFunc} {h:THammock} (H:Hm f h)
include H
theorem YC(hc:Xm f=true){i:Nat}(hi:i<f.Blocks.length){p:Bh}(hp:p∈(bA f i).Phis):p.From=HI f i/\p.From.Pairwise (·<·)/\p.From.length<=64/\p.Args.length=p.From.length/\∀ x∈p.From,As x f.Blocks.length:=by
 have hsh:=((Pu  (l:=2) (by omega) (by omega)).1 (by simpa [Xm] using hc)).2.1;unfold Fk at hsh;rw[A1]at hsh;have hb:=zzL29.1 hsh.2 i (by simpa using hi);unfold Mb at hb;rw[A1]at hb;have hp2:=zzL29.1 hb.2 p hp;simp only[Jw,A1,Ds]at hp2;have e:p.From=HI f i:=hp2.1;refine⟨e,?_,by rw[e];exact pz H.R i,by grind,λx hx=>?_⟩
 ·rw[e];unfold HI;rw[ED (by rw[Pe];exact hi)];exact BD _ _
 ·rw[e]at hx;obtain⟨q,rfl,hq,_⟩:=(Yl H.R hi).1 hx;exact Ag hq
theorem Xz:h.Join.toNat<f.Blocks.length:=by have:=H.join.1;have:=H.join.2;omega
theorem Rj{i:Nat}(hi:i<f.Blocks.length):(bA f i).Phis.length<=512:=(H.R.ok.block _ (Ai   hi)).phis
theorem jW(s:List A2)(l x:Int):G8 x f h s l=some (Fm h x):=by
 unfold G8 Fm
 cases x==-1<;>rfl
theorem oQ(b c v w:Int)(s:Pt)(hs:s.1.length<=1000000):Jb b c v w f h s.1 s.2=some (bif v==w then(v,f,h,s.1,s.2) else(w64 (s.2+1),f,h,(S5 s 13 b 0 [c,v,w]).1,(S5 s 13 b 0 [c,v,w]).2)):=by
 unfold Jb
 cases v==w with
 | true=>rfl
 | false=>rw[ DN _ _ _ _ _ _ _ hs];rfl
theorem zW(hc:Xm f=true):Lq (bA f h.At.toNat).End.Arg f h (PJ f h).1 (PJ f h).2=some ((FH f h).1,f,h,(FH f h).2.1,(FH f h).2.2):=by
 have hroom:(1000001:Nat)<=room:=by decide
 have hJ:=Xz H;have hpl:=Rj H hJ;have hsl:=kG H;unfold Lq;rw[jW H,Aj,jW H,Aj,Aa H.join];have key:=T8 (bA f h.Join.toNat).Phis (default:Bh) (λi t=>(t.1,(i:Int),f.Params,f.Ret,f.Blocks,h.At,h.Then,h.Else,h.Join,t.2.1,t.2.2)) (λi t=>t.1.length=i/\t.2.1.length<=4000+i) (OO f h)
  (λt=>(t.1,f.Params,f.Ret,f.Blocks,h.At,h.Then,h.Else,h.Join,t.2.1,t.2.2)) (Jd _ f h (Fm h h.Then) (Fm h h.Else)) (λi t hi hP=>by
   obtain⟨g1,g2⟩:=j7 f h t ((bA f h.Join.toNat).Phis.getD i default);refine⟨?_,by omega,by omega⟩;obtain⟨p1,p2,p3,p4,p5⟩:=YC H hc hJ (Ai (d:=(default:Bh)) hi);unfold Jd;have eb:f.Blocks.getD h.Join.toNat default=bA f _:=rfl;simp only[eb,B5 hi,Af,Aa (Ag hi),Ap,w1 (show i<4611686018427387904 by omega)]
   revert p1 p2 p3 p4 p5 g1
   generalize (bA f _).Phis.getD i default=p
   intro g1 p1 p2 p3 p4 p5;rw[zx p2 (by omega) p4 (by rw[p1];exact H.thenJ),Aj,zx p2 (by omega) p4 (by rw[p1];exact H.elseJ),Aj,oQ H _ _ _ _ t.2 (by omega),Aj];unfold OO;have hI:=λv=>lS  (h:=h) p2 (by omega) p4 p5 H.at_ (λhm=>H.atJ (p1▸hm)) v
   cases(DM p _==DM p _) with
   | true=>
    simp only[Af];rw[hI,Aj,Ac (by simp;omega)]
   | false=>
    simp only[Aq]
    rw[hI,Aj,Ac (by simp;omega)]) (λt _=>by
   unfold Jd;have eb:f.Blocks.getD _ default=bA f h.Join.toNat:=rfl
   simp only[eb,Dk,Aq]) ([],PJ f h) (by simp;omega)
 have k1:=key.1;rw[show([],(0:Int),f.Params,f.Ret,f.Blocks,h.At,h.Then,h.Else,h.Join,(PJ f h).1,(PJ f h).2)=([],((0:Nat):Int),f.Params,f.Ret,f.Blocks,h.At,h.Then,h.Else,h.Join,(PJ f h).1,(PJ f h).2) from rfl,k1]
 rfl
theorem IV(hc:Xm f=true):(FH f h).1.length=(bA f h.Join.toNat).Phis.length/\(FH f h).2.1.length<=4000+(bA f h.Join.toNat).Phis.length:=by
 have key:∀(l:List _) (s:List _×Pt),(l.foldl (OO f h) s).1.length=s.1.length+l.length/\(l.foldl (OO f h) s).2.1.length<=s.2.1.length+l.length:=λl=>by
  induction l with
  | nil =>  simp
  | cons p l ih=>
   intro s;obtain⟨g1,g2⟩:=j7 f h s p;obtain⟨k1,k2⟩:=ih (OO f h s p);simp only[Zf,R0];omega
 have hsl:=kG H;obtain⟨k1,k2⟩:=key (bA f h.Join.toNat).Phis ([],PJ f h);unfold FH;simp only[List.length_nil]at k1 k2;omega
end
theorem jh(n d:Int):(if n<d then d else n)=grow n d:=by
 unfold grow
 by_cases h:n<d<;>simp[h]
theorem w4(f:TFunc)(h:Sm f):Tu f=some (Nb f):=by
 have hf:=h.1
 have h1:∀(i:Nat),i<f.Blocks.length->∀ n ,Ad (Pj f i) _=some ((f.Blocks.getD i _).Phis.foldl (λn p=>grow n p.Dst) n):=λi hi n=>by
  have hB:=hf.block _ (Ai (d:=default) hi);refine R8 _ default _ _ (λs j hj=>?_) (λs=>?_) n
  ·unfold Pj
   have hd:decide ((j:Int)<(f.Blocks.getD i default).Phis.length)=true:=by simpa using hj
   simp only[Cp,hd,Af,Aa (Ag hj),LI hj hB.1,jh]
  ·unfold Pj
   simp
 have h2:∀(i:Nat),i<f.Blocks.length->∀ n ,Ad (Pk f i) _=some ((f.Blocks.getD i _).Ops.foldl (λn p=>grow n p.Dst) n):=λi hi n=>by
  have hB:=hf.block _ (Ai (d:=default) hi);refine R8 _ default _ _ (λs j hj=>?_) (λs=>?_) n
  ·unfold Pk
   have hd:decide (j<((f.Blocks.getD i default).Ops.length:Int))=true:=by simpa using hj
   simp only[Cp,hd,Af,Aa (Ag hj),LI hj hB.2.1,jh]
  ·unfold Pk
   simp
 unfold Tu Nb
 rw[R8 f.Blocks default (λn b=>b.Ops.foldl (λn o=>grow n o.Dst) (b.Phis.foldl (λn p=>grow n p.Dst) n)) _ (λs i hi=>by
  unfold S7
  have hd:decide (i<(f.Blocks.length:Int))=true:=by simpa using hi
  simp only[hd,Af,Aa (Ag hi),h1 i hi,h2 i hi,Aj,LI hi hf.blocks]) (λs=>by unfold S7;simp)]
 rfl
def On(h:THammock)(x:Nat):Bool:=((x:Int)!=h.Then)&&((x:Int)!=h.Else)
def Ww(f:TFunc)(h:THammock)(x:Nat):Ab:=
 bif (x:Int)==h.At then⟨(bA f h.At.toNat).Phis,(FH f h).2.1,⟨1,0,[h.Join]⟩⟩ else bif (x:Int)==h.Join then⟨(FH f h).1,(bA f h.Join.toNat).Ops,(bA f h.Join.toNat).End⟩ else bA f x
def Wa(f:TFunc)(h:THammock):TFunc:=⟨f.Params,f.Ret,((List.range f.Blocks.length).filter (On h)).map λx=>RF h (Ww f h x)⟩
theorem XF{α β:Type}(c:α->Bool)(F:α->β):∀(l:List α) (s:List β),l.foldl (λs b=>bif c b then s++[F b] else s) s=s++(l.filter c).map F
 | [],s=>by simp
 | b::l,s=>by
  rw[Zf,XF c F l];cases h:c b<;>simp[h]
section
variable {f:TFunc} {h:THammock} (H:Hm f h) (hc:Xm f=true)
include H hc
theorem SS{i:Nat}(hi:i<f.Blocks.length):(bA f i).End.To.length<=2/\∀ x∈(bA f i).End.To,0<=x/\x<1000000:=by
 have hsh:=((Pu  (l:=2) (by omega) (by omega)).1 (by simpa [Xm] using hc)).2.1;unfold Fk at hsh;rw[A1]at hsh;have h3:=(shape_iff.1 hsh.1).2 i hi
 constructor
 ·unfold M9 BL at h3;simp only[A1,Ds]at h3;have h4:((bA f i).End.To.length:Nat)=U5 (bA f i).End.Kind:=h3.1.2
  have h5:∀ k ,([0,1,2,0]:List Int).getD k 0<=2:=λk=>by
   match k with
   | 0=>decide
   | 1=>decide
   | 2=>decide
   | 3=>decide
   | k+4=>simp
  have h5:U5 (bA f i).End.Kind<=2:=h5 _;omega
 ·intro x hx;obtain⟨k,hk,rfl⟩:=N9 hx;have h4:=H.R.to i hi k hk;unfold C2 at h4;rw[Am _ _ _ hk]at h4;have:=H.R.hi;omega
theorem gH{p:Bh}(v:Int):(dE f.Blocks.length h p v).From.length<=64/\∀ x∈(dE f.Blocks.length h p v).From,0<=x/\x<1000000:=by
 have hn:=H.R.hi
 show(BG _ h p).length<=64/\∀ x∈BG _ h p,_
 unfold BG
 constructor
 ·grind
 ·grind
theorem xf:∀ p∈(FH f h).1,p.From.length<=64/\∀ x∈p.From,0<=x/\x<1000000:=by
 have key:∀(l:List _) (s:List _×Pt),(∀ p∈s.1,p.From.length<=64/\∀ x∈p.From,0<=x/\x<1000000)->∀ p∈(l.foldl (OO f h) s).1,p.From.length<=64/\∀ x∈p.From,0<=x/\x<1000000:=λl=>by
  induction l with
  | nil=>intro s hs;exact hs
  | cons q l ih=>
   intro s hs;refine ih _ λp hp=>?_;unfold OO at hp
   cases hb:DM q _==DM q _ with
   | true=>
    rw[hb]at hp;rcases zzL14.1 hp with h1|h1
    ·exact hs p h1
    ·rw[zzL25.1 h1];exact gH H hc _
   | false=>
    rw[hb]at hp;rcases zzL14.1 hp with h1|h1
    ·exact hs p h1
    ·rw[zzL25.1 h1];exact gH H hc _
 exact key _ _ (λp hp=>by cases hp)
theorem fm{x:Nat}(hx:x<f.Blocks.length):vG (Ww f h x):=by
 have hJ:=Xz H
 have hA:h.At.toNat<f.Blocks.length:=by  have:=H.at_.2;omega
 have hn:=H.R.hi
 have ph:∀ i,i<f.Blocks.length->(bA f i).Phis.length<=100000/\∀ p∈(bA f i).Phis,p.From.length<=100000/\∀ x∈p.From,0<=x/\x<1000000:=λi hi=>⟨by have:=Rj H hi;omega,λp hp=>by
  obtain⟨_,_,p3,_,p5⟩:=YC H hc hi hp
  exact⟨by omega,λx hx=>by have:=p5 x hx;exact⟨this.1,by have:=this.2;omega⟩⟩⟩
 unfold Ww
 cases x==h.At with
 | true=>
  rw[Af]
  exact⟨(ph _ hA).1,(ph _ hA).2,by simp,λy hy=>by
   simp only[zzL25]at hy
   have:=H.join.1; omega⟩
 | false=>
  rw[Aq]
  cases x==h.Join with
  | true=>
   obtain⟨t1,t2⟩:=SS H hc hJ;exact⟨by have:=(IV H hc).1;have:=Rj H hJ;show(FH f h).1.length<=_;omega,λp hp=>by obtain⟨g1,g2⟩:=xf H hc p hp;exact⟨by omega,g2⟩,by grind,t2⟩
  | false=>
   rw[Aq];obtain⟨t1,t2⟩:=SS H hc hx;exact⟨(ph _ hx).1,(ph _ hx).2,by omega,t2⟩
theorem uo{x:Nat}:((f.Blocks.set h.Join.toNat ⟨(FH f h).1,(f.Blocks.getD h.Join.toNat default).Ops,⟨(f.Blocks.getD h.Join.toNat default).End.Kind,(f.Blocks.getD h.Join.toNat default).End.Arg,(f.Blocks.getD h.Join.toNat default).End.To⟩⟩).set h.At.toNat ⟨(f.Blocks.getD h.At.toNat default).Phis,(FH f h).2.1,⟨1,0,[h.Join]⟩⟩).getD x default=Ww f h x:=by
 have hJ:=Xz H
 have hA:h.At.toNat<f.Blocks.length:=by  have:=H.at_.2;omega
 rw[BH (by simpa using hA),BH hJ];unfold Ww;have a0:=H.at_.1;have j0:=H.join.1
 by_cases h1:x=h.At.toNat
 ·grind
 ·have e:(x==h.At)=false:=by simp;omega
  rw[if_neg h1,e]
  by_cases h2:x=h.Join.toNat
  ·have e:(x==h.Join)=true:=by simp;omega
   rw[if_pos h2,e];rfl
  ·grind
omit H hc in
theorem rgd{n i:Nat}(hi:i<n):(List.range n).getD i 0=i:=by simp[hi]
theorem oT:Jc ⟨f,h,[],Nb f⟩=some (Wa f h,⟨f,h,(FH f h).2.1,(FH f h).2.2⟩):=by
 have hroom:1000001<=room:=by decide
 have hn:=H.R.hi;have hA :=H.at_;have hal:=ZP H;unfold Jc Fc Cw;have eA:f.Blocks.getD h.At.toNat default=bA f _:=rfl;rw[Aa hA,eA,Ac (show[].length+(bA f _).Ops.length<=room by grind),Aj,V2];rw[  ft H hc,Aj];rw[zW H hc,Aj];rw[Ac (show f.Blocks.length<=room by omega),Aj,Aa H.join,Aa (by simpa using hA)];unfold S9;have key:=T8 (List.range f.Blocks.length) _ (λi t=>((i:Int),t)) (λi t=>t.length<=i) (λt x=>bif On h x then t++[RF h _] else t) id
  (G0 ⟨f,h,[],Nb f⟩ ((FH f h).1,f,h,(FH f h).2.1,(FH f h).2.2) f.Blocks) (λi t hi hP=>by
   rw[Xg]at hi;rw[rgd hi];unfold G0;simp only[D0,B5 hi, Aa (Ag hi),Ap,uo H hc,tM (fm H hc hi),Aj,w1 (show i<4611686018427387904 by omega),DL];unfold On
   cases((i !=h.Then)&&(i !=h.Else)) with
   | false=>grind
   | true=>
    rw[Ac (by simp;omega)]
    exact⟨rfl,by simp;omega⟩) (λt _=>by
   unfold G0;simp only[D0,Xg,Dk]
   rfl) [] (by simp)
 have k1:=key.1;rw[XF]at k1;rw[show(0,[])=(((0:Nat):Int),[]) from rfl,k1]
 rfl
end
def gj(f:TFunc)(h:THammock):TFunc×Int:=
 bif EA f h then(bif decide (1023<(FH f h).2.2) || !Qd (Wa f h) then(⟨[],0,[]⟩,4) else(Wa f h,0)) else(⟨[],0,[]⟩,10)
def AU(o:A2):Prop:=o.Args.length<=1000000/\0<=o.Imm/\o.Imm<18446744073709551616
theorem DJ{s:Pt}(hs:∀ o∈s.1,AU o){k b m:Int}{az:List Int}(hm:0<=m/\m<18446744073709551616)(ha:az.length<=1000000):∀ o∈(S5 s k b m az).1,AU o:=λo ho=>by
 rcases zzL14.1 ho with h1|h1
 ·exact hs o h1
 ·rw[zzL25.1 h1];exact⟨ha,hm⟩
theorem uf{s:Pt}(hs:∀ o∈s.1,AU o){o:A2}(ho:AU o)(g:Int):∀ x∈(IW g s o).1,AU x:=λx hx=>by
 have h0:(0:Int)<=0/\(0:Int)<18446744073709551616:=by omega
 have hd:(o.Args.drop 1).length<=999999:=by have:=ho.1;simp;omega
 rcases zzL14.1 hx with h1|h1
 ·rcases grd_cases o g s with⟨_,e⟩|⟨_,e⟩|⟨_,e⟩|⟨_,e⟩|⟨_,e⟩<;>rw[e]at h1
  ·exact DJ hs h0 (by simp) x h1
  ·exact hs x h1
  ·exact DJ hs h0 (by simp) x h1
  ·exact DJ hs h0 (by simp) x h1
  ·exact hs x h1
 ·rw[zzL25.1 h1];rcases grd_cases o g s with⟨_,e⟩|⟨_,e⟩|⟨_,e⟩|⟨_,e⟩|⟨_,e⟩<;>rw[e]
  ·exact⟨by simp,ho.2⟩
  ·exact⟨by simp,ho.2⟩
  ·exact⟨by simp,ho.2⟩
  ·exact⟨by grind,ho.2⟩
  ·exact ho
theorem SO(g:Int):∀(ops:List A2) (s:Pt),(∀ o∈s.1,AU o)->(∀ o∈ops,AU o)->∀ x∈(Tj ops g s).1,AU x
 | [],s,hs,_=>hs
 | o::l,s,hs,ho=>SO g l _ (uf hs (ho o (zzL41 ..)) g) λx hx=>ho x (Lm _ hx)
section
variable {f:TFunc} {h:THammock} (H:Hm f h) (hc:Xm f=true) (hf:US f)
include H hc hf
theorem bI{i:Nat}(hi:i<f.Blocks.length):∀ o∈(bA f i).Ops,AU o:=λo ho=>by
 have hm:bA f i∈f.Blocks:=Ai hi;have h1:=hf.op _ hm o ho;have h2:=XY H.R.ok hm ho;exact⟨by omega,h1.2⟩
theorem jz{x:Int}(hx:x = -1\/As x f.Blocks.length):∀ o∈Mu f x,AU o:=λo ho=>by
 unfold Mu at ho;rcases hx with rfl|hx
 ·cases ho
 ·rw[show(x !=-1)=true by grind]at ho;exact bI H hc hf (by have:=hx.1;have:=hx.2;omega) o ho
theorem xd:∀ o∈(FH f h).2.1,AU o:=by
 have hA:h.At.toNat<f.Blocks.length:=by have:=H.at_.1;have:=H.at_.2;omega
 have h1:∀ o∈(bP f h).1,AU o:=SO _ _ _ (bI H hc hf hA) (jz H hc hf H.sides.1)
 have h2:∀ o∈(WJ f h).1,AU o:=by
  unfold WJ
  cases VG _ with
  | false=>exact h1
  | true=>exact DJ (DJ h1 (by omega) (by simp)) (by omega) (by simp)
 have h3:∀ o∈(PJ f h).1,AU o:=SO _ _ _ h2 (jz H hc hf H.sides.2)
 have key:∀(l:List _) (s:List _×Pt),(∀ o∈s.2.1,AU o)->∀ o∈(l.foldl (OO f h) s).2.1,AU o:=λl=>by
  induction l with
  | nil=>intro s hs;exact hs
  | cons q l ih=>
   intro s hs;refine ih _ ?_;unfold OO
   cases DM q _==DM q _ with
   | true=>exact hs
   | false=>exact DJ hs (by omega) (by simp)
 exact key _ _ h3
theorem px:∀ p∈(FH f h).1,p.Args.length<=64:=by
 have key:∀(l:List _) (s:List _×Pt),(∀ p∈s.1,p.Args.length<=64)->∀ p∈(l.foldl (OO f h) s).1,p.Args.length<=64:=λl=>by
  have hl:∀ q v,(dE _ h q v).Args.length<=64:=λq v=>by
   have:=(gH H hc (p:=q) v).1
   show((BG _ h q).map _).length<=64
   rw[L5];exact this
  induction l with
  | nil=>intro s hs;exact hs
  | cons q l ih=>
   intro s hs;refine ih _ λp hp=>?_;unfold OO at hp;cases hb:DM q _==DM q _<;>rw[hb]at hp<;>simp only[Af,Aq]at hp
   all_goals
    grind
 exact key _ _ (λp hp=>by cases hp)
theorem pW:US (Wa f h):=by
 have hmx:(1000001:Nat)<=maxLen:=by decide
 have hn:=H.R.hi;have hJ:=Xz H
 have hA:h.At.toNat<f.Blocks.length:=by have:=H.at_.1;have:=H.at_.2;omega
 have hb:∀ b∈(Wa f h).Blocks,∃ x,x<f.Blocks.length/\b=RF h (Ww f h x):=λb hb=>by
  obtain⟨x,hx,rfl⟩:=zzL21.1 hb;exact⟨x,by grind,rfl⟩
 refine⟨hf.params,?_,λb hb'=>?_,λb hb' p hp=>?_,λb hb' o ho=>?_⟩
 ·show(List.map _ _).length<=_
  rw[L5];have:=List.length_filter_le (On h) (List.range f.Blocks.length);rw[Xg]at this;omega
 ·obtain⟨x,hx,rfl⟩:=hb b hb';obtain⟨b1,_,b3,_⟩:=fm H hc hx;refine⟨?_,?_,?_⟩
  ·show((Ww f h x).Phis.map _).length<=_
   rw[L5];omega
  ·unfold Ww
   cases(x:Int)==h.At with
   | true=>
    have:=(IV H hc).2;have:=Rj H hJ
    show(FH f h).2.1.length<=_
    omega
   | false=>
    rw[Aq]
    cases(x:Int)==h.Join with
    | true =>  exact(hf.block _ (Ai hJ)).2.1
    | false=>exact(hf.block _ (Ai hx)).2.1
  ·show((Ww f h x).End.To.map _).length<=_
   rw[L5];omega
 ·obtain⟨x,hx,rfl⟩:=hb b hb';obtain⟨q,hq,rfl⟩:=zzL21.1 (hp);obtain⟨_,b2,_,_⟩:=fm H hc hx;have h1:=(b2 q hq).1;refine⟨by show(q.From.map _).length<=_;rw[L5];omega,?_⟩
  show q.Args.length<=_
  have ph:∀ i,i<f.Blocks.length->∀ q∈(bA f i).Phis,q.Args.length<=maxLen:=λi hi q hq=>(hf.phi _ (Ai hi) q hq).2
  revert hq
  unfold Ww
  cases(x:Int)==h.At with
  | true=>exact λhq=>ph _ hA q hq
  | false=>
   rw[Aq]
   cases(x:Int)==h.Join with
   | true=>exact λhq=>by have:=px H hc hf q hq;omega
   | false=>exact λhq=>ph _ hx q hq
 ·obtain⟨x,hx,rfl⟩:=hb b hb';have ho':o∈(Ww f h x).Ops:=ho;have fin:AU o->o.Args.length<=maxLen/\0<=o.Imm/\o.Imm<18446744073709551616:=λh1=>⟨by have:=h1.1;omega,h1.2⟩;refine fin ?_
  revert ho'
  unfold Ww
  cases(x:Int)==h.At with
  | true=>exact λho'=>xd H hc hf o ho'
  | false=>
   rw[Aq]
   cases(x:Int)==h.Join with
   | true=>exact λho'=>bI H hc hf hJ o ho'
   | false=>exact λho'=>bI H hc hf hx o ho'
end
theorem t7{f:TFunc}(hs:Sm f)(h:THammock):H1 f h=some (gj f h):=by
 unfold H1 gj;rw[pI hs,Aj]
 cases hm:EA f h with
 | false=>rfl
 | true=>
  have hi :=by unfold EA at hm;rw[A1]at hm;exact hm.1
  have hc :=by unfold O9 at hi;rw[A1]at hi;exact hi.1
  have H:=vX hs hi;rw[Dj, w4 f hs,Aj,oT H hc,Aj, Aaq _ (pW H hc hs.1)]
  cases decide (1023<(FH f h).2.2) with
  | true=>rfl
  | false=>
   grind
theorem ZX{α:Type}(v:α->Int)(B:Int):∀(l:List α) (n:Int),n<=B->(∀ a∈l,v a<=B)->l.foldl (λn a=>grow n (v a)) n<=B
 | [],n,h,_=>h
 | a::l,n,h,hl=>ZX v B l _ (by
   have:=hl a (zzL41 ..)
   show(bif decide _ then v a else n)<=B
   by_cases hd:n<v a
   ·grind
   ·grind) λx hx=>hl x (Lm _ hx)
theorem tx{f:TFunc}{B:Int}(h0:(f.Params.length:Int)<=B)(hb:∀ b∈f.Blocks,(∀ p∈b.Phis,p.Dst<=B)/\∀ o∈b.Ops,o.Dst<=B):Nb f<=B:=by
 have key:∀(l:List Ab) (n:Int),n<=B->(∀ b∈l,(∀ p∈b.Phis,p.Dst<=B)/\∀ o∈b.Ops,o.Dst<=B)->l.foldl _ n<=B:=λl=>by
  induction l with
  | nil=>intro n h _;exact h
  | cons b l ih=>
   intro n h hl;obtain⟨h1,h2⟩:=hl b (zzL41 ..);exact ih _ (ZX _ _ _ _ (ZX _ _ _ _ h h1) h2) λx hx=>hl x (Lm _ hx)
 exact key _ _ h0 hb
theorem dG{f:TFunc}(hf:OkF f):0<=Nb f/\Nb f<=2147483647:=by
 constructor
 ·have:=(BM f.Blocks f.Params.length).1;unfold Nb;omega
 ·refine tx (by have:=hf.few;omega) λb hb=>?_;obtain⟨h1,h2,_⟩:=blockB_iff.1 (hf.block b hb).may
  constructor
  ·intro p hp;have:=h1 p hp;simp only[AJ,numB,A1,Ds]at this;omega
  ·intro o ho;have:=h2 o ho;simp only[bH,numB,A1,Ds]at this;omega
theorem Wu{s:Pt}(h:0<=s.2/\s.2<=4000000000)(k b m:Int)(az:List Int):(S5 s k b m az).2=s.2+1:=Em (by omega) (by omega)
theorem YE{s:Pt}(h:0<=s.2/\s.2<=4000000000)(g:Int)(o:A2):s.2<=(IW g s o).2/\(IW g s o).2<=s.2+1:=by
 unfold IW;rcases grd_cases o g s with⟨_,e⟩|⟨_,e⟩|⟨_,e⟩|⟨_,e⟩|⟨_,e⟩<;>rw[e]<;>simp only[Wu h]<;>omega
theorem GS(g:Int):∀(ops:List A2) {s:Pt},0<=s.2/\s.2+ops.length<=4000000000->s.2<=(Tj ops g s).2/\(Tj ops g s).2<=s.2+ops.length
 | [],s,h=>by simp[Tj]
 | o::l,s,h=>by
  simp only[R0]at h ⊢;have h1:=YE (s:=s) (by omega) g o;have h2:=GS g l (s:=IW g s o) (by omega)
  show _<=(Tj l g _).2/\(Tj l g _).2<=_
  omega
section
variable {f:TFunc} {h:THammock} (H:Hm f h)
include H
theorem SM:Nb f<=(bP f h).2/\0<=(bP f h).2/\(bP f h).2<=2147485000:=by
 have h1:=H4 H.R H.sides.1;have h2:=dG H.R.ok;have:=GS (bA f h.At.toNat).End.Arg (Mu f h.Then) (s:=((bA f h.At.toNat).Ops,Nb f)) (by  omega);unfold bP;omega
theorem eI:(bP f h).2<=(WJ f h).2/\(WJ f h).2<=(bP f h).2+2:=by
 obtain⟨_,h1,h2⟩:=SM H;unfold WJ
 cases VG _ with
 | false=>rw[Aq];omega
 | true=>
  have e:=Wu (s:=bP f h) (by omega) 0 1 1 [];rw[Af,Wu (by omega)];omega
theorem qO:Nb f<=(PJ f h).2/\(PJ f h).2<=2147490000:=by
 obtain⟨h0,h1,h2⟩:=SM H;obtain⟨h3,h4⟩:=eI H;have h5:=H4 H.R H.sides.2;have:=GS (lz f h) (Mu f h.Else) (s:=WJ f h) (by omega);unfold PJ;omega
theorem LE:(h.Then = -1\/0<=h.Then)/\(h.Else = -1\/0<=h.Else):=⟨H.sides.1.imp id (·.1),H.sides.2.imp id (·.1)⟩
end
structure Nar(f:TFunc):Prop where
 inf:US f
 blocks:f.Blocks.length<=16
 params:f.Params.length<=64
 to:∀ b∈f.Blocks,b.End.To.length<=2
 phi:∀ b∈f.Blocks,∀ p∈b.Phis,p.From.length<=16/\p.Args.length<=16
 op:∀ b∈f.Blocks,∀ o∈b.Ops,o.Args.length<=16
 size:Ry f<=512
theorem xU{f:TFunc}(h:Nar f):Sm f:=by
 refine Aao h.inf h.params (λb hb=>⟨by have:=h.to b hb;omega,λp hp=>by have:=h.phi b hb p hp;omega,λo ho=>by have:=h.op b hb o ho;omega⟩) ?_
 have hB:∀ b∈f.Blocks,VK b<=33*Uz b:=λb hb=>by
  have h1:(b.Phis.map cq).sum<=b.Phis.length*33:=bQ _ _ _ λp hp=>by have:=h.phi b hb p hp;unfold cq;omega
  have h2:(b.Ops.map cp).sum<=b.Ops.length*33:=bQ _ _ _ λo ho=>by have:=h.op b hb o ho;unfold cp;omega
  have h3:=h.to b hb;unfold VK Uz;omega
 have hS:∀ l:List _,(∀ b∈l,VK b<=33*Uz b)->(l.map VK).sum<=33*(l.map Uz).sum:=λl=>by
  induction l with
  | nil =>  simp
  | cons b l ih=>
   grind
 have h1:=hS _ hB;have h2:=h.size;have h3:=h.params;unfold Ry at h2;unfold f8;omega
theorem pX{k n:Int}(hn:n<=16):Re k n<=16:=by
 unfold Re
 cases k==0<;>cases(k==13 || k==18 || k==19)<;>cases(k==14 || k==15 || k==16 || k==22)<;>cases k==20<;>cases k==21<;>simp only[Af,Aq]<;>omega
theorem pR{o:A2}(h:Ju o=true):o.Args.length<=16:=by
 simp only[Ju,A1,zzL47]at h;have h2:=pX (k:=o.Kind) (n:=o.Lanes) (by rcases shape_lanes h.1.1 with e|e|e|e|e<;>omega);omega
theorem xT{f:TFunc}(hs:Sm f)(h16:Qd f=true->f.Blocks.length<=16)(hc:Xm f=true):Nar f:=by
 have hz:=(Pu (f:=f) (l:=2) (by omega) (by omega)).1 (by simpa [Xm] using hc);have R:=CI hs (by simpa [Xm] using hc);have hn:=h16 hz.1;obtain⟨sm,hsm,hp⟩:=NF f hs.1;rw[hs.2]at hsm;obtain⟨_,hsz,_⟩:=hp (OI hsm).symm hz.1
 have hi:∀ b∈f.Blocks,∃ i,i<f.Blocks.length/\bA f i=b:=λb hb=>by
  obtain⟨i,hi,he⟩:=N9 hb;exact⟨i,hi,by grind⟩
 have hsh:=hz.2.1;unfold Fk at hsh;rw[A1]at hsh;refine⟨hs.1,hn,by have:=R.ok.few;omega,λb hb=>?_,λb hb p hp=>?_,λb hb o ho=>pR (eS hz.2.2.1 hb ho),hsz⟩
 ·obtain⟨i,hi',rfl⟩:=hi b hb;have h3:=(shape_iff.1 hsh.1).2 i hi';unfold M9 BL at h3;simp only[A1,Ds]at h3;have h4:(((bA f i).End.To.length:Nat):Int)=U5 (bA f i).End.Kind:=h3.1.2
  have h5:∀ k:Nat,([0,1,2,0]:List Int).getD k 0<=2:=λk=>by
   grind
  have h5:U5 (bA f i).End.Kind<=2:=h5 _;omega
 ·obtain⟨i,hi',rfl⟩:=hi b hb;have hb2:=zzL29.1 hsh.2 i (by simpa using hi');unfold Mb at hb2;rw[A1]at hb2;have hp2:=zzL29.1 hb2.2 p hp;simp only[Jw,A1,Ds,zzL47]at hp2;have e :=hp2.1
  have hl:(HI f i).length<=f.Blocks.length:=by
   unfold HI;rw[ED (by rw[Pe];exact hi')];unfold Kh;rw[L5];have:=List.length_filter_le (λk=>Y5 (Bm f) k i) (List.range (Bm f).length);rw[Xg]at this;rw[Pe]at this ⊢;exact this
  have h2:(p.Args.length:Int)=((HI f i).length:Int):=hp2.2;rw[e];omega
section
variable {f:TFunc} {h:THammock} (H:Hm f h) (hc:Xm f=true) (hN:Nar f)
include H hc hN
theorem LD(g:Int):∀(ops:List A2) (s:Pt),(∀ o∈s.1,o.Args.length<=16)->(∀ o∈ops,o.Args.length<=16)->∀ x∈(Tj ops g s).1,x.Args.length<=16
 | [],s,hs,_=>hs
 | o::l,s,hs,ho=>LD g l _ (λx hx=>by
   have h0:=ho o (zzL41 ..)
   have ha:∀ k b m az,az.length<=16->∀ y∈(S5 s k b m az).1,y.Args.length<=16:=λk b m az hz y hy=>by
    rcases zzL14.1 hy with h1|h1
    ·exact hs y h1
    ·grind
   rcases zzL14.1 hx with h1|h1
   ·rcases grd_cases o g s with⟨_,e⟩|⟨_,e⟩|⟨_,e⟩|⟨_,e⟩|⟨_,e⟩<;>rw[e]at h1
    ·grind
    ·exact hs x h1
    ·grind
    ·grind
    ·exact hs x h1
   ·rw[zzL25.1 h1];rcases grd_cases o g s with⟨_,e⟩|⟨_,e⟩|⟨_,e⟩|⟨_,e⟩|⟨_,e⟩<;>rw[e]
    ·simp
    ·simp
    ·simp
    ·grind
    ·exact h0) λx hx=>ho x (Lm _ hx)
theorem pu:∀ o∈(FH f h).2.1,o.Args.length<=16:=by
 have hA:h.At.toNat<f.Blocks.length:=by have:=H.at_.1;have:=H.at_.2;omega
 have hb:∀ i,i<f.Blocks.length->∀ o∈(bA f i).Ops,o.Args.length<=16:=λi hi o ho=>hN.op _ (Ai hi) o ho
 have hX:∀ x:Int,(x = -1\/As x f.Blocks.length)->∀ o∈Mu f x,o.Args.length<=16:=λx hx o ho=>by
  unfold Mu at ho;rcases hx with rfl|hx
  ·cases ho
  ·rw[show(x !=-1)=true by grind]at ho;exact hb _ (by  have:=hx.2;omega) o ho
 have ha:∀(s:Pt),(∀ o∈s.1,o.Args.length<=16)->∀ k b m az,az.length<=16->∀ y∈(S5 s k b m az).1,y.Args.length<=16:=λs hs k b m az hz y hy=>by
  rcases zzL14.1 hy with h1|h1
  ·exact hs y h1
  ·grind
 have h1:∀ o∈(bP f h).1,o.Args.length<=16:=LD H hc hN _ _ _ (hb _ hA) (hX _ H.sides.1)
 have h2:∀ o∈(WJ f h).1,o.Args.length<=16:=by
  unfold WJ
  cases VG (Mu f h.Else) with
  | false=>exact h1
  | true=>grind
 have h3:∀ o∈(PJ f h).1,o.Args.length<=16:=LD H hc hN _ _ _ h2 (hX _ H.sides.2)
 have key:∀(l:List Bh) (s:List Bh×Pt),(∀ o∈s.2.1,o.Args.length<=16)->∀ o∈(l.foldl (OO f h) s).2.1,o.Args.length<=16:=λl=>by
  induction l with
  | nil=>intro s hs;exact hs
  | cons q l ih=>
   intro s hs;refine ih _ ?_;unfold OO
   cases DM q (Fm h h.Then)==DM q (Fm h h.Else) with
   | true=>exact hs
   | false=>grind
 exact key _ _ h3
theorem xG{p:Bh}(v:Int):(dE f.Blocks.length h p v).From.length<=16/\(dE f.Blocks.length h p v).Args.length<=16:=by
 have hn:=hN.blocks
 have:(BG f.Blocks.length h p).length<=16:=by
  unfold BG;rw[L5];have:=List.length_filter_le (jl h p) (List.range f.Blocks.length);rw[Xg]at this;omega
 exact⟨this,by show(List.map _ _).length<=16;rw[L5];exact this⟩
theorem xe:∀ p∈(FH f h).1,p.From.length<=16/\p.Args.length<=16:=by
 have key:∀(l:List _) (s:List _×Pt),(∀ p∈s.1,p.From.length<=16/\p.Args.length<=16)->∀ p∈(l.foldl (OO f h) s).1,p.From.length<=16/\p.Args.length<=16:=λl=>by
  induction l with
  | nil=>intro s hs;exact hs
  | cons q l ih=>
   intro s hs;refine ih _ λp hp=>?_;unfold OO at hp;cases hb:DM q _==DM q _<;>rw[hb]at hp<;>simp only[Af,Aq]at hp
   all_goals
    rcases zzL14.1 hp with h1|h1
    ·exact hs p h1
    ·rw[zzL25.1 h1];exact xG H hc hN _
 exact key _ _ (λp hp=>by cases hp)
theorem uN{b:Ab}(hb:b∈(Wa f h).Blocks):∃ x,x<f.Blocks.length/\On h x=true/\b=RF h (Ww f h x):=by
 obtain⟨x,hx,rfl⟩:=zzL21.1 hb;exact⟨x,by grind,(zzL99.1 hx).2,rfl⟩
theorem uM:(Wa f h).Blocks.length<f.Blocks.length:=by
 show(List.map _ _).length<_
 rw[L5]
 obtain⟨x,hx,hk⟩:∃ x,x<f.Blocks.length/\On h x=false:=by
  rcases H.one with e|e
  ·have q:=H.sides.1.resolve_left e;refine⟨h.Then.toNat,by have:=q.1;have:=q.2;omega,?_⟩;unfold On;rw[Lb q.1];simp
  ·have q:=H.sides.2.resolve_left e;refine⟨h.Else.toNat,by have:=q.1;have:=q.2;omega,?_⟩;unfold On;rw[Lb q.1];simp
 have h1:(List.filter (On h) _).length≠(List.range _).length:=λe=>by
  have:=List.length_filter_eq_length_iff.1 e x (by simpa using hx);rw[hk]at this;cases this
 have h2:=List.length_filter_le (On h) (List.range f.Blocks.length);rw[Xg]at h1 h2;omega
theorem uO(hm:Qd (Wa f h)=true):Nar (Wa f h):=by
 have hJ:=Xz H
 have hA:h.At.toNat<f.Blocks.length:=by have:=H.at_.1;have:=H.at_.2;omega
 have hin:=pW H hc hN.inf;have hlen:=uM H hc hN;have hbl:=hN.blocks
 have hblk:∀ b∈(Wa f h).Blocks,b.End.To.length<=2/\(∀ p∈b.Phis,p.From.length<=16/\p.Args.length<=16)/\(∀ o∈b.Ops,o.Args.length<=16)/\b.Phis.length<=512/\b.Ops.length<=5000:=λb hb=>by
  obtain⟨x,hx,_,rfl⟩:=uN H hc hN hb
  have ph:∀ i,i<f.Blocks.length->∀ p∈((bA f i).Phis.map (lw h)),p.From.length<=16/\p.Args.length<=16:=λi hi p hp=>by
   obtain⟨q,hq,rfl⟩:=zzL21.1 hp;have:=hN.phi _ (Ai hi) q hq;exact⟨by show(q.From.map _).length<=16;rw[L5];exact this.1,this.2⟩
  have pl:∀ i,i<f.Blocks.length->((bA f i).Phis.map (lw h)).length<=512:=λi hi=>by rw[L5];exact Rj H hi
  have ol:∀ i,i<f.Blocks.length->(bA f i).Ops.length<=5000:=λi hi=>by have:=(H.R.ok.block _ (Ai (l:=f.Blocks) (d:=default) hi)).ops;exact Qa this (by omega)
  have tl:∀ i,i<f.Blocks.length->((bA f i).End.To.map (Rv h)).length<=2:=λi hi=>by rw[L5];exact(SS H hc hi).1
  unfold RF Ww
  cases(x:Int)==h.At with
  | true=>
   refine⟨by simp,ph _ hA,pu H hc hN,pl _ hA,?_⟩;have:=(IV H hc).2;have:=Rj H hJ
   show(FH f h).2.1.length<=_
   omega
  | false=>
   rw[Aq]
   cases(x:Int)==h.Join with
   | true=>
    refine⟨tl _ hJ,λp hp=>?_,λo ho=>hN.op _ (Ai hJ) o ho,?_,ol _ hJ⟩
    ·obtain⟨q,hq,rfl⟩:=zzL21.1 hp;have:=xe H hc hN q hq;exact⟨by show(q.From.map _).length<=16;rw[L5];exact this.1,this.2⟩
    ·show((FH f h).1.map (lw h)).length<=512
     rw[L5,(IV H hc).1];exact Rj H hJ
   | false=>exact⟨tl _ hx,ph _ hx,λo ho=>hN.op _ (Ai hx) o ho,pl _ hx,ol _ hx⟩
 refine⟨hin,by omega,hN.params,λb hb=>(hblk b hb).1,λb hb=>(hblk b hb).2.1,λb hb=>(hblk b hb).2.2.1,?_⟩
 have hs:Ry (Wa f h)<=(Wa f h).Blocks.length*6000:=bQ _ _ _ λb hb=>by
  obtain⟨_,_,_,h1,h2⟩:=hblk b hb;unfold Uz;omega
 unfold Qd at hm;simp only[A1,Ds]at hm;have h5:=hm.1.2;unfold sizeW at h5;rw[JG (by omega)]at h5;omega
end
def T3(v:Nat):List Int:=if h:v<128 then[(v:Int)] else((v % 128+128:Nat):Int)::T3 (v / 128)
theorem bK{v:Nat}(h:v<128):T3 v=[(v:Int)]:=by rw[T3,dif_pos h]
theorem PH{v:Nat}(h:¬ v<128):T3 v=((v % 128+128:Nat):Int)::T3 (v / 128):=by rw[T3,dif_neg h]
theorem d5(v:Nat):1<=(T3 v).length:=by
 by_cases h:v<128
 ·simp[bK h]
 ·simp[PH h]
theorem dz:∀(k v:Nat),v<128 ^ (k+1)->(T3 v).length<=k+1
 | k,v,hv=>by
  by_cases h:v<128
  ·simp[bK h]
  ·cases k with
   | zero=>simp at hv;omega
   | succ k=>
    have:=dz k (v / 128) (by rw[TG (by decide)];rw[Nat.pow_succ]at hv;exact hv);simp[PH h];omega
theorem Pz{v:Nat}(h:v<2 ^ 64):(T3 v).length<=10:=dz 9 v (Nat.lt_trans h (by decide))
def Bytes(b:List Int):Prop:=∀ x∈b,0<=x/\x<256
def flat(l:List Int):List Int:=(l.map λx=>T3 x.toNat).flatten
theorem XD(x:Int)(l:List Int):flat (x::l)=T3 x.toNat++flat l:=rfl
def I64(l:List Int):Prop:=∀ x∈l,-9223372036854775808<=x/\x<9223372036854775808
theorem I64.len{l:List Int}(h:I64 l):(flat l).length<=10*l.length:=by
 induction l with
 | nil=>simp[flat]
 | cons x l ih=>
  have:=ih λy hy=>h y (Lm _ hy);have hx:=h x zzL41;have:=Pz (v:=x.toNat) (by rw[CP];omega);simp[XD];omega
theorem Bytes.app{a b:List Int}(h:Bytes a)(k:Bytes b):Bytes (a++b):=λx hx=>(zzL14.1 hx).elim (h x) (k x)
theorem qL(l:List Int)(hl:l.length<=1000)(hv:I64 l)(p:Int->Option (List Int))(hp:∀ v:Nat,v<2 ^ 64->p v=some (T3 v))(f:List Int×Int->Option (LR (List Int×Int) (List Int ⊕ List Int)))
  (hf:∀(acc:List Int) (i:Nat),f (acc,i)=(bif (decide ((i:Int)<(l.length:Int))) then(Aw (As i l.length) (bif (decide (((l.getD ((i:Int)).toNat (0:Int)):Int)<(0:Int))) then(some (.done (.inr ([]:List Int)))) else(Aw (As i l.length) ((p (Fl (l.getD ((i:Int)).toNat (0:Int)))).bind λx7=>(Aw (acc.length+x7.length<=room) (some (.next ((acc++x7),(w64 ((i:Int)+(1:Int))))))))))) else(some (.done (.inl acc))))) :
  ∀(r pre acc:List Int),l=pre++r->acc.length<=10*(pre.length+1)->Ad f (acc,(pre.length:Int))=some (if ∃ x∈r,x<0 then .inr [] else .inl (acc++flat r)):=by
 intro r
 induction r with
 | nil=>
  intro pre acc hlr ha
  have hlen:l.length=pre.length:=by rw[hlr];simp
  have h1:decide ((pre.length:Int)<(l.length:Int))=false:=by simp;omega
  rw[Ak (x:=Sum.inl acc) (by rw[hf,h1];rfl)];simp[flat]
 | cons x r ih=>
  intro pre acc hlr ha
  have hlen:l.length=pre.length+(r.length+1):=by rw[hlr];simp
  have hx:l.getD pre.length 0=x:=by rw[hlr,List.getD,U8 (by omega)];simp
  have hxb:=hv x (by rw[hlr];simp)
  have h1:decide ((pre.length:Int)<(l.length:Int))=true:=by simp;omega
  have e:=hf acc pre.length;rw[h1,Af,Aa (p:=As _ _) ⟨by omega,by omega⟩,Cp,hx]at e
  by_cases hneg:x<0
  ·rw[F9 hneg,Af]at e;rw[Ak e,if_pos ⟨x,zzL41,hneg⟩]
  ·have hput:=Pz (v:=x.toNat) (by rw[CP];omega)
   rw[Da hneg,Aq,Aa (p:=As _ _) ⟨by omega,by omega⟩,Sp (by omega) (by omega),show p x=some (T3 x.toNat) by rw[<- hp x.toNat (by rw[CP];omega)];congr 1;omega,
    Aj,Aa (by simp only[room];omega),Em (by omega) (by omega)]at e
   have:=ih (pre++[x]) (acc++T3 x.toNat) (by simp[hlr]) (by simp;omega);rw[Ar e,show((pre.length:Int)+1)=((pre++[x]).length:Int) by simp,this]
   have hiff:(∃ y∈x::r,y<0)↔∃ y∈r,y<0:=by
    simp only[zzL28]
    constructor
    ·rintro⟨y,rfl|hy,h⟩
     ·omega
     ·exact⟨y,hy,h⟩
    ·rintro⟨y,hy,h⟩;exact⟨y,.inr hy,h⟩
   simp only[hiff,XD,U9]
def xh(l:List Int):List Int:=open Classical in if ∃ x∈l,x<0 then[] else T3 l.length++flat l
theorem good31.i64{l:List Int}(h:good31 l):I64 l:=λx hx=>by have:=h x hx;omega
def WI(l:List Int):List Int:=T3 l.length++flat l
theorem Bytes.drop{b:List Int}(h:Bytes b)(k:Nat):Bytes (b.drop k):=λx hx=>h x (List.mem_of_mem_drop hx)
structure wa(S:Type) where
 left:S->List Int
 bad:S->Int
 good:S->Prop
structure Reads{S α:Type}(V:wa S)(m:S->Option (α×S))(E:α->List Int)(P:α->Prop):Prop where
 sticky:∀ s,V.good s->V.bad s≠0->∃ a s',m s=some (a,s')/\V.bad s'=V.bad s/\V.good s'
 any:∀ s,V.good s->V.bad s=0->∃ a s',m s=some (a,s')/\V.good s'/\(V.bad s'=0->P a/\V.left s=E a++V.left s')
 whole:∀ s a more,V.good s->V.bad s=0->P a->V.left s=E a++more->∃ s',m s=some (a,s')/\V.bad s'=0/\V.left s'=more/\V.good s'
 cut:∀ s a c,V.good s->V.bad s=0->P a->c<(E a).length->V.left s=(E a).take c->∃ a' s',m s=some (a',s')/\V.bad s'=2/\V.good s'
theorem Reads.map{S α β:Type}{V:wa S}{m:S->Option (α×S)}{E:α->List Int}{P:α->Prop}{F:β->List Int}{Q:β->Prop}(h:Reads V m E P)(f:α->β)(g:β->α)
  (hfg:∀ b,Q b->f (g b)=b) (hP:∀ b,Q b->P (g b)) (hQ:∀ a,P a->Q (f a)) (hE:∀ a,P a->F (f a)=E a) :
  Reads V (λs=>(m s).bind λx=>some (f x.1,x.2)) F Q where
 sticky s hs hb:=by
  obtain⟨a,s',e,hb',hg⟩:=h.sticky s hs hb;exact⟨f a,s',by simp only[e,Aj],hb',hg⟩
 any s hs hb:=by
  obtain⟨a,s',e,hg,hd⟩:=h.any s hs hb;exact⟨f a,s',by simp only[e,Aj],hg,λht=>⟨hQ a (hd ht).1,by rw[hE a (hd ht).1];exact(hd ht).2⟩⟩
 whole s b more hs hb hp hl:=by
  have hFg:F b=E (g b):=by rw[<- hE (g b) (hP b hp),hfg b hp]
  obtain⟨s',e,hb',hl',hg⟩:=h.whole s (g b) more hs hb (hP b hp) (by rw[hl,hFg]);exact⟨s',by simp only[e,Aj,hfg b hp],hb',hl',hg⟩
 cut s b c hs hb hp hc hl:=by
  have hFg:F b=E (g b):=by rw[<- hE (g b) (hP b hp),hfg b hp]
  obtain⟨a',s',e,hb',hg⟩:=h.cut s (g b) c hs hb (hP b hp) (by rw[<- hFg];exact hc) (by rw[hl,hFg]);exact⟨f a',s',by simp only[e,Aj],hb',hg⟩
def Un(n:Int):List Int:=T3 n.toNat
def du(p:Bh):List Int:=Un p.Bits++(Un p.Dst++(WI p.From++WI p.Args))
def xc(o:A2):List Int:=Un o.Kind++(Un o.Bits++(Un o.Lanes++(Un o.Dst++(WI o.Args++Un o.Imm))))
def oe(e:Jo):List Int:=Un e.Kind++(Un e.Arg++WI e.To)
def IG{α:Type}(E:α->List Int)(l:List α):List Int:=Un l.length++(l.map E).flatten
def GB(b:Ab):List Int:=IG du b.Phis++(IG xc b.Ops++oe b.End)
def MM(f:TFunc):List Int:=WI f.Params++(Un f.Ret++IG GB f.Blocks)
section
variable {S:Type} {V:wa S} {num wide:S->Option (Int×S)} {list list':S->Option (List Int×S)}
end
theorem Mr{n:Int}(h:eW n):(Un n).length<=10:=Pz (by rw[CP];have:=h.2;have:=h.1;omega)
theorem CG{l:List Int}(h:listB l=true):(WI l).length<=650:=by
 obtain⟨h1,h2⟩:=listB_iff.1 h;have q1:(T3 l.length).length<=10:=Pz (by rw[CP];omega)
 have q2:(flat l).length<=l.length*10:=QK l (λx=>T3 x.toNat) 10 λx hx=>by
  have:=h1 x hx;exact Pz (by rw[CP];omega)
 rw[WI,Du];omega
theorem pw{p:Bh}(h:AJ p=true):(du p).length<=1320:=by
 simp only[AJ,A1]at h;have q1:=Mr (E2 h.1.1.1);have q2:=Mr (E2 h.1.1.2);have q3:=CG h.1.2;have q4:=CG h.2;simp only[du,Du];omega
theorem uX{o:A2}(h:bH o=true)(hi:eW o.Imm):(xc o).length<=700:=by
 simp only[bH,A1]at h;have q1:=Mr (E2 h.1.1.1.1);have q2:=Mr (E2 h.1.1.1.2);have q3:=Mr (E2 h.1.1.2);have q4:=Mr (E2 h.1.2);have q5:=CG h.2;have q6:=Mr hi;simp only[xc,Du];omega
theorem oh{e:Jo}(h:VJ e=true):(oe e).length<=670:=by
 simp only[VJ,A1]at h;have q1:=Mr (E2 h.1.1);have q2:=Mr (E2 h.1.2);have q3:=CG h.2;simp only[oe,Du];omega
theorem KN{α:Type}{E:α->List Int}{l:List α}(n B:Nat)(hl:l.length<=n)(hn:n<=1000)(h:∀ a∈l,(E a).length<=B):(IG E l).length<=10+n*B:=by
 have q1:(Un (l.length:Int)).length<=10:=Mr ⟨by omega,by omega⟩;have q2:=QK l E B h;have q3:l.length*B<=n*B:=Gy _ hl;simp only[IG,Du];omega
theorem fo{b:Ab}(h:OkB b):(GB b).length<=1040000:=by
 obtain⟨h1,h2,h3⟩:=blockB_iff.1 h.may;have q1:=KN (E:=du) 512 1320 h.phis (by omega) λp hp=>pw (h1 p hp);have q2:=KN (E:=xc) 512 700 h.ops (by omega) λo ho=>uX (h2 o ho) (h.imm o ho);have q3:=oh h3;simp only[GB,Du];omega
theorem lc{f:TFunc}(h:OkF f):(MM f).length<=66600000:=by
 have q1:=CG h.params;have q2:=Mr (E2 h.ret);have q3:=KN (E:=GB) 64 1040000 h.blocks (by omega) λb hb=>fo (h.block b hb);simp only[MM,Du];omega
theorem Aal{v:Nat}(hv:v<2 ^ 64){rec:Int->Option (List Int)}(hr:¬ v<128->rec ((v / 128:Nat):Int)=some (T3 (v / 128))):Hz rec v=some (T3 v):=by
 unfold Hz
 by_cases h:v<128
 ·have h1:decide ((v:Int)<128)=true:=by simp;omega
  have h3:u3 (v:Int)=(v:Int):=qd (by omega) (by omega);simp only[h1,Af,h3,bK h]
 ·have h1:decide ((v:Int)<128)=false:=by simp;omega
  have h2:Fl (Int.tdiv v 128)=((v / 128:Nat):Int):=by
   rw[Int.tdiv_eq_ediv_of_nonneg (by omega),show((v:Int) / 128)=((v / 128:Nat):Int) by omega];exact Sp (by omega) (by rw[CP]at hv;omega)
  have h3:u3 (Fl ((Int.tmod v 128)+128))=((v % 128+128:Nat):Int):=by
   rw[Int.tmod_eq_emod_of_nonneg (by omega),show((v:Int) % 128+128)=((v % 128+128:Nat):Int) by omega,Sp (by omega) (by omega),qd (by omega) (by omega)]
  have:=Pz hv;rw[PH h]at this;simp only[R0]at this;simp only[h1,Aq,h2,h3,hr h,Aj];rw[Aa (by simp[room];omega),Aa (.inr (d5 _)),PH h]
  rfl
theorem eH:∀(n v:Nat),v<2 ^ 64->v<n->H0 n v=some (T3 v)
 | 0,v,_,h=>by omega
 | n+1,v,hv,h=>Aal hv λh'=>eH n (v / 128) (by omega) (by omega)
theorem PI{v:Nat}(hv:v<2 ^ 64):Et v=some (T3 v):=tm (v+1) λm hm=>eH m v hv (by omega)
theorem un(l:List Int)(hl:l.length<=1000)(hv:I64 l):C1 l=some (xh l):=by
 have hput:=Pz (v:=l.length) (by rw[CP];omega);unfold C1;rw[Sp (by omega) (by omega),PI (by rw[CP];omega),Aj];have:=qL l hl hv Et (λv h=>PI h) (Rb l) (λacc i=>rfl) l [] (T3 l.length) rfl (by simpa using hput);rw[show(([]:List Int).length:Int)=0 from rfl]at this;rw[this];unfold xh
 split<;>rfl
theorem Mv(b:List Int)(n:Int)(hn:eW n)(hb:b.length<=2000000000):Bb b n=some (b++Un n):=by
 have hl:=Mr hn;unfold Bb
 have e:(n:Int)=(n.toNat:Int):=by have:=hn.1;omega
 rw[Sp hn.1 (by have:=hn.2;omega),e,PI (by rw[CP];have:=hn.2;omega),Aj];rw[<- e];exact Aa (by show b.length+(Un n).length<=room;simp only[room];omega)
theorem CH(l:List Int)(h:listB l=true):C1 l=some (WI l):=by
 obtain⟨h1,h2⟩:=listB_iff.1 h;rw[un l (by omega) h1.i64];unfold xh;rw[if_neg (by rintro⟨x,hx,h⟩;have:=h1 x hx;omega)]
 rfl
theorem g9(f:TFunc)(hf:US f)(hs:Qd f=true->OkF f):Jf f=some (bif Qd f then MM f else[]):=by
 unfold Jf;rw[kC f hf,Aj]
 cases hm:Qd f with
 | false=>rfl
 | true=>
  have ok:=hs hm;have hlenF:=lc ok
  have h3:=Vp f.Blocks (default:Ab) GB 1000000000 (G4 f) (λout i hi hle=>by
   have hmem:=Ai (d:=(default:Ab)) hi;have okb:=ok.block _ hmem;obtain⟨b1,b2,b3⟩:=blockB_iff.1 okb.may
   have e0:decide ((i:Int)<(f.Blocks.length:Int))=true:=by simpa using hi
   have hI:As (i:Int) f.Blocks.length:=Ag hi
   have l1:=Vp (f.Blocks.getD i default).Phis (default:Bh) du 1000000000 (G2 f i) (λout j hj hle=>by
     have hp:=b1 _ (Ai (d:=(default:Bh)) hj);have hp':=hp;simp only[AJ,A1]at hp
     have q0:decide ((j:Int)<((f.Blocks.getD i default).Phis.length:Int))=true:=by simpa using hj
     simp only[du,Du]at hle;unfold G2;simp only[Aa hI,Cp,q0,Af,Aa (Ag hj)]
     rw[Mv _ _ (E2 hp.1.1.1) (by omega),Aj,Mv _ _ (E2 hp.1.1.2) (by simp only[Du];omega),Aj,CH _ hp.1.2,Aj,
      Aa (by simp only[Du,room];omega),CH _ hp.2,Aj,Aa (by simp only[Du,room];omega),A0 hj (by have:=okb.phis;omega)]
     simp only[du,U9]
     rfl) (λout=>by
     unfold G2;simp only[Aa hI,Cp]
     simp)
   have l2:=Vp (f.Blocks.getD i default).Ops (default:A2) xc 1000000000 (G3 f i) (λout j hj hle=>by
     have hp:=b2 _ (Ai (d:=(default:A2)) hj);have hi6:=okb.imm _ (Ai (d:=(default:A2)) hj);simp only[bH,A1]at hp
     have q0:decide ((j:Int)<((f.Blocks.getD i default).Ops.length:Int))=true:=by simpa using hj
     simp only[xc,Du]at hle
     have e6:((f.Blocks.getD i default).Ops.getD j default).Imm=(((f.Blocks.getD i default).Ops.getD j default).Imm.toNat:Int):=by have:=hi6.1;omega
     have hput:=PI (v:=((f.Blocks.getD i default).Ops.getD j default).Imm.toNat) (by rw[CP];have:=hi6.2;omega);rw[<- e6]at hput;unfold G3;simp only[Aa hI,Cp,q0,Af,Aa (Ag hj)]
     rw[Mv _ _ (E2 hp.1.1.1.1) (by omega),Aj,Mv _ _ (E2 hp.1.1.1.2) (by simp only[Du];omega),Aj,
      Mv _ _ (E2 hp.1.1.2) (by simp only[Du];omega),Aj,Mv _ _ (E2 hp.1.2) (by simp only[Du];omega),Aj,CH _ hp.2,Aj,
      Aa (by simp only[Du,room];omega),hput,Aj,Aa (by simp only[Un]at hle;simp only[Du,room,Un];omega),A0 hj (by have:=okb.ops;omega)]
     simp only[xc,U9,Un]
     rfl) (λout=>by
     unfold G3;simp only[Aa hI,Cp]
     simp)
   simp only[VJ,A1]at b3;have hle':=hle;simp only[GB,IG,oe,Du]at hle;have h1:=l1 _ 0 (out++Un ((f.Blocks.getD i default).Phis.length:Int)) (Hq _) (by simp only[L1,Du];omega);have h2:=l2 _ 0 (out++Un ((f.Blocks.getD i default).Phis.length:Int)++((f.Blocks.getD i default).Phis.map du).flatten++Un ((f.Blocks.getD i default).Ops.length:Int)) (Hq _) (by simp only[L1,Du];omega);rw[show((0:Nat):Int)=0 from rfl,L1]at h1 h2;unfold G4;simp only[e0,Af,Aa hI,Cp]
   rw[Mv _ _ ⟨by omega,by have:=okb.phis;omega⟩ (by omega),Aj,h1,Aj,Mv _ _ ⟨by omega,by have:=okb.ops;omega⟩ (by simp only[Du];omega),Aj,h2,Aj,
    Mv _ _ (E2 b3.1.1) (by simp only[Du];omega),Aj,Mv _ _ (E2 b3.1.2) (by simp only[Du];omega),Aj,CH _ b3.2,Aj,
    Aa (by simp only[Du,room];omega),A0 hi (by have:=ok.blocks;omega)]
   simp only[GB,IG,oe,U9]
   rfl) (λout=>by
   unfold G4
   simp)
  have hlF:=hlenF;simp only[MM,IG,Du]at hlF;have h4:=h3 _ 0 (WI f.Params++Un f.Ret++Un (f.Blocks.length:Int)) (Hq _) (by simp only[L1,Du];omega);rw[show((0:Nat):Int)=0 from rfl,L1]at h4;rw[Dj,Aq,Af,CH _ ok.params,Aj,Mv _ _ (E2 ok.ret) (by omega),Aj,Mv _ _ ⟨by omega,by have:=ok.blocks;omega⟩ (by simp only[Du];omega),Aj,h4,Aj];simp only[MM,IG,U9]
theorem li:m_locksteplaw15_awake=some true:=by kernel_rfl
section
variable {f:TFunc} {h:THammock} (H:Hm f h)
include H
theorem mW:h.Then≠-1->h.Else≠-1->h.Then≠h.Else:=λh1 h2 e=>H.apart (by
 grind)
theorem GK:∀ m:Nat,(((((List.range m).filter (On h)).length:Nat):Int))=Rv h (m:Int)
 | 0=>by
  have h1:=(LE H).1;have h2:=(LE H).2;unfold Rv
  have ez:∀ y:Int,(y = -1\/0<=y)->((y !=-1)&&decide (y<((0:Nat):Int)))=false:=λy hy=>by
   grind
  simp only[ez _ h1,ez _ h2]
  rfl
 | m+1=>by
  have ih:=GK m;have h1:=(LE H).1;have h2:=(LE H).2;have h3:=mW H;rw[FN,FM,Du]
  have ec:∀ y:Int,(y = -1\/0<=y)->((y !=-1)&&decide (y<((m+1:Nat):Int)))=(((y !=-1)&&decide (y<(m:Int))) || ((m:Int)==y)):=λy hy=>by
   grind
  unfold Rv at ih ⊢;simp only[ec _ h1,ec _ h2]at ih ⊢
  generalize hTT:((h.Then !=-1)&&decide (h.Then<(m:Int)))=T at ih ⊢
  generalize hEE:((h.Else !=-1)&&decide (h.Else<(m:Int)))=E at ih ⊢
  cases hT:(m:Int)==h.Then with
  | true=>
   have eT:=eq_of_beq hT
   have k1:On h m=false:=by unfold On bne;rw[hT];rfl
   have e1:T=false:=by grind
   have e2:((m:Int)==h.Else)=false:=by
    grind
   subst e1;rw[e2];simp only[List.filter_cons,k1,JI,H5,List.filter_nil,List.length_nil,Bool.or_true,Bool.or_false,Af,Aq]at ih ⊢
   cases E<;>simp only[Af,Aq]at ih ⊢<;>omega
  | false=>
   cases hE:(m:Int)==h.Else with
   | true=>
    have eE:=eq_of_beq hE
    have k1:On h m=false:=by unfold On bne;rw[hE];simp
    have e1:E=false:=by grind
    subst e1;simp only[List.filter_cons,k1,JI,H5,List.filter_nil,List.length_nil,Bool.or_true,Bool.or_false,Af,Aq]at ih ⊢
    cases T<;>simp only[Af,Aq]at ih ⊢<;>omega
   | false=>
    have k1:On h m=true:=by unfold On bne;rw[hT,hE];rfl
    simp only[List.filter_cons,k1,L7,List.filter_nil,FL,Bool.or_false]at ih ⊢
    cases T<;>cases E<;>simp only[Af,Aq]at ih ⊢<;>omega
theorem lx:(((Wa f h).Blocks.length:Nat):Int)=Rv h (f.Blocks.length:Int):=by
 show(((List.map _ _).length:Nat):Int)=_
 rw[L5];exact GK H _
theorem xS{x:Nat}(hx:x<f.Blocks.length)(hk:On h x=true):As (Rv h (x:Int)) (Wa f h).Blocks.length/\(Wa f h).Blocks.getD (Rv h (x:Int)).toNat default=RF h (Ww f h x):=by
 have e:List.range f.Blocks.length=List.range x++(x::List.range' (x+1) (f.Blocks.length-x-1)):=by
  rw[P9,P9,(CX ..).symm,show f.Blocks.length-x-1+1=f.Blocks.length-x by omega];have:=List.range'_append (s:=0) (m:=x) (n:=f.Blocks.length-x) (step:=1);simp only[Nat.one_mul,Hq]at this;rw[this];congr 1;omega
 have hc:=GK H x;rw[<- hc]
 have eB:(Wa f h).Blocks=((List.range x).filter (On h)).map (λx=>RF h (Ww f h x))++(RF h (Ww f h x)::((List.range' (x+1) (f.Blocks.length-x-1)).filter (On h)).map λx=>RF h (Ww f h x)):=by
  show List.map _ _=_
  rw[e,FM,List.filter_cons,hk,if_pos rfl,JK,Cb]
 rw[eB]
 constructor
 ·refine Ag ?_;rw[Du,L5,R0];omega
 ·simp[List.getD]
theorem s7:On h h.At.toNat=true:=by
 unfold On;rw[Lb H.at_.1];simp only[A1,zzL86];exact⟨λe=>H.tne.1 e.symm,λe=>H.tne.2.1 e.symm⟩
def IR(f:TFunc)(o:A2):Bool:=(o.Dst==0) || decide (o.Dst<=Nb f)
def cntO(f:TFunc)(l:List A2):Nat:=(l.filter (IR f)).length
omit H in
theorem DP{s:Pt}(hs:Nb f<=s.2)(h0:0<=s.2/\s.2<=4000000000)(k b m:Int)(az:List Int):cntO f (S5 s k b m az).1=cntO f s.1:=by
 unfold cntO S5;rw[FM,Du]
 have:IR f ⟨k,b,1,w64 (s.2+1),az,m⟩=false:=by
  unfold IR;rw[Em (by omega) (by omega)]
  simp;omega
 simp[List.filter_cons,this]
omit H in
theorem tc{s:Pt}(hs:Nb f<=s.2)(h0:0<=s.2/\s.2<=4000000000){o:A2}(ho:IR f o=true)(g:Int):cntO f (IW g s o).1=cntO f s.1+1:=by
 have key:∀(l:List A2) (x:A2),x.Dst=o.Dst->cntO f (l++[x])=cntO f l+1:=λl x hx=>by
  unfold cntO;rw[FM,Du]
  have:IR f x=true:=by unfold IR at ho ⊢;rw[hx];exact ho
  simp[List.filter_cons,this]
 unfold IW;rcases grd_cases o g s with⟨_,e⟩|⟨_,e⟩|⟨_,e⟩|⟨_,e⟩|⟨_,e⟩<;>rw[e]
 ·refine(key _ _ ?_).trans (Bn (·+1) (DP hs h0 _ _ _ _))
  rfl
 ·refine key _ _ ?_
  rfl
 ·refine(key _ _ ?_).trans (Bn (·+1) (DP hs h0 _ _ _ _))
  rfl
 ·refine(key _ _ ?_).trans (Bn (·+1) (DP hs h0 _ _ _ _))
  rfl
 ·refine key _ _ ?_
  rfl
omit H in
theorem PZ(g:Int):∀(ops:List A2) {s:Pt},Nb f<=s.2->0<=s.2/\s.2+ops.length<=4000000000->(∀ o∈ops,IR f o=true)->cntO f (Tj ops g s).1=cntO f s.1+ops.length
 | [],s,_,_,_=>rfl
 | o::l,s,h1,h2,h3=>by
  simp only[R0]at h2 ⊢;have h4:=YE (s:=s) (by omega) g o;have h5:=PZ g l (s:=IW g s o) (by omega) (by omega) λx hx=>h3 x (Lm _ hx);have h6:=tc h1 (by omega) (h3 o (zzL41 ..)) g
  show cntO f (Tj l g (IW g s o)).1=_
  omega
theorem jy{i:Nat}(hi:i<f.Blocks.length):∀ o∈(bA f i).Ops,IR f o=true:=λo ho=>by
 have h1:=(BM _ f.Params.length).2 (bA f i) (Ai hi);have h2:=h1.2 o ho;unfold IR;rw[F9 (show o.Dst<=Nb f from h2),Bool.or_true]
theorem vf{x:Int}(hx:x = -1\/As x f.Blocks.length):∀ o∈Mu f x,IR f o=true:=λo ho=>by
 unfold Mu at ho;rcases hx with rfl|hx
 ·cases ho
 ·rw[show(x !=-1)=true by grind]at ho;exact jy H (by have:=hx.1;have:=hx.2;omega) o ho
theorem uc(hc:Xm f=true):cntO f (FH f h).2.1=(bA f h.At.toNat).Ops.length+(IU f h).length:=by
 have hA:h.At.toNat<f.Blocks.length:=by have:=H.at_.1;have:=H.at_.2;omega
 have hb:=dG H.R.ok;have l1:=H4 H.R H.sides.1;have l2:=H4 H.R H.sides.2
 have h0:cntO f (bA f h.At.toNat).Ops=(bA f h.At.toNat).Ops.length:=by
  unfold cntO;rw[List.filter_eq_self.2 (jy H hA)]
 have h1:cntO f (bP f h).1=(bA f h.At.toNat).Ops.length+(Mu f h.Then).length:=by
  unfold bP;rw[PZ _ _ (Int.le_refl _) (by simp only;omega) (vf H H.sides.1),h0]
 obtain⟨k0,k1,k2⟩:=SM H
 have h2:cntO f (WJ f h).1=cntO f (bP f h).1:=by
  unfold WJ
  cases VG (Mu f h.Else) with
  | false=>rfl
  | true=>
   have e:=Wu (s:=bP f h) (by omega) 0 1 1 [];rw[Af,DP (by omega) (by omega),DP k0 (by omega)]
 obtain⟨k3,k4⟩:=eI H
 have h3:cntO f (PJ f h).1=cntO f (WJ f h).1+(Mu f h.Else).length:=by
  unfold PJ;exact PZ _ _ (by omega) (by omega) (vf H H.sides.2)
 obtain⟨k5,k6⟩:=qO H
 have key:∀(l:List Bh) (s:List Bh×Pt),Nb f<=s.2.2->0<=s.2.2/\s.2.2+l.length<=4000000000->cntO f (l.foldl (OO f h) s).2.1=cntO f s.2.1:=λl=>by
  induction l with
  | nil=>intro s _ _;rfl
  | cons q l ih=>
   intro s g1 g2;simp only[R0]at g2;rw[Zf]
   have hq:cntO f (OO f h s q).2.1=cntO f s.2.1/\s.2.2<=(OO f h s q).2.2/\(OO f h s q).2.2<=s.2.2+1:=by
    have e:=Wu (s:=s.2) (by omega) 13 q.Bits 0 [(bA f h.At.toNat).End.Arg,DM q (Fm h h.Then),DM q (Fm h h.Else)];unfold OO
    cases DM q (Fm h h.Then)==DM q (Fm h h.Else) with
    | true=>grind
    | false=>exact⟨DP g1 (by omega) _ _ _ _,by simp only[Aq];omega,by simp only[Aq];omega⟩
   rw[ih _ (by omega) (by omega)];exact hq.1
 have hpl:=Rj H (Xz H);have h4:=key (bA f h.Join.toNat).Phis ([],PJ f h) k5 (by simp only;omega)
 show cntO f ((bA f h.Join.toNat).Phis.foldl (OO f h) ([],PJ f h)).2.1=_
 rw[h4,h3,h2,h1];unfold IU;rw[Du];omega
end
theorem fewer15(f:TFunc)(a:Int)(hf:US f)(ha:0<=a/\a<256):Je f a=some true:=by
 unfold Je;rw[li,Aj,Dj,Aq];obtain⟨b,hb,hsm⟩:=lq hf;rw[hb,Aj]
 cases b with
 | false=>rfl
 | true=>
  obtain⟨hs,h16⟩:=hsm rfl;rw[Dj,show((false:Bool)==false)=true from rfl,Af,BN hs,Aj,Aq]
  cases hck:(Gc f 2 !=0) with
  | true=>rfl
  | false=>
   have hc:Xm f=true:=by unfold Xm;unfold bne at hck;simpa using hck
   have R:=CI hs (by simpa [Xm] using hc);have hlo:=R.lo;have hhi:=R.hi;rw[Aq,Aa (by omega),ll hs,Aj]
   obtain⟨i,hi,hie⟩:∃ i:Nat,i<f.Blocks.length/\Int.tmod (w64 a) (f.Blocks.length:Int)=(i:Int):=by
    rw[Em (by omega) (by omega),Int.tmod_eq_emod_of_nonneg ha.1];have h1:=Int.emod_nonneg a (show(f.Blocks.length:Int)≠0 by omega);have h2:=Int.emod_lt_of_pos a (show(0:Int)<f.Blocks.length by omega);exact⟨(a % (f.Blocks.length:Int)).toNat,by omega,by omega⟩
   rw[hie]
   have e:Xw f (i:Int)=(match Zq f i with|some v=>(v,true)|none=>(zH,false)):=by
    unfold Xw XB;rw[hc,Af,if_pos (Ag hi),Ap]
    try cases Zq f i<;>rfl
   rw[e]
   cases ho:Zq f i with
   | none=>rfl
   | some h=>
    have hm:h∈allHR f:=by unfold allHR;rw[hc];exact mem_all.2 ⟨i,hi,ho⟩
    have hiv:=isHR_mem.2 hm;have H:=vX hs hiv;simp only[Dj,Aq,t7 hs,Aj];unfold gj
    cases hmr:EA f h with
    | false=>rfl
    | true=>
     rw[Af]
     cases hbd:(decide (1023<(FH f h).2.2) || !Qd (Wa f h)) with
     | true=>rfl
     | false=>
      simp only[bT,Bool.not_eq_false']at hbd;have hN:=uO H hc (xT hs h16 hc) hbd.2
      have hA:h.At.toNat<f.Blocks.length:=by have:=H.at_.1;have:=H.at_.2;omega
      have hAc:((h.At.toNat:Nat):Int)=h.At:=Lb H.at_.1;obtain⟨q1,q2⟩:=xS H hA (s7 H);rw[hAc]at q1 q2;have hcnt:=lx H;have hT0:=(LE H).1;have hE0:=(LE H).2;have hT1:h.Then≠-1->h.Then<f.Blocks.length:=λe=>(H.sides.1.resolve_left e).2;have hE1:h.Else≠-1->h.Else<f.Blocks.length:=λe=>(H.sides.2.resolve_left e).2
      have eT:decide ((0:Int)<=h.Then)=(h.Then !=-1):=by
       rcases hT0 with e|e
       ·rw[e];rfl
       ·rw[F9 e];symm;simp;omega
      have eE:decide ((0:Int)<=h.Else)=(h.Else !=-1):=by
       rcases hE0 with e|e
       ·rw[e];rfl
       ·rw[F9 e];symm;simp;omega
      have hmv:Rv h (f.Blocks.length:Int)=(f.Blocks.length:Int)-(bif (h.Then !=-1) then 1 else 0)-(bif (h.Else !=-1) then 1 else 0):=by
       unfold Rv
       have e1:((h.Then !=-1)&&decide (h.Then<(f.Blocks.length:Int)))=(h.Then !=-1):=by
        cases hh:(h.Then !=-1) with
        | false=>rfl
        | true=>rw[F9 (hT1 (by simpa using hh))];rfl
       have e2:((h.Else !=-1)&&decide (h.Else<(f.Blocks.length:Int)))=(h.Else !=-1):=by
        cases hh:(h.Else !=-1) with
        | false=>rfl
        | true=>rw[F9 (hE1 (by simpa using hh))];rfl
       simp only[e1,e2]
       cases(h.Then !=-1)<;>cases(h.Else !=-1)<;>simp only[Af,Aq]<;>omega
      simp only[Aq,show((0:Int)!=0)=false from rfl,eT,eE]
      have g1:(bif (h.Then !=-1) then some (w64 ((0:Int)+1)) else some 0)=some (bif (h.Then !=-1) then(1:Int) else 0):=by cases(h.Then !=-1)<;>rfl
      rw[g1,Aj]
      have g2:(bif (h.Else !=-1) then some (w64 ((bif (h.Then !=-1) then(1:Int) else 0)+1)) else some (bif (h.Then !=-1) then(1:Int) else 0))=some ((bif (h.Then !=-1) then(1:Int) else 0)+(bif (h.Else !=-1) then(1:Int) else 0)):=by cases(h.Then !=-1)<;>cases(h.Else !=-1)<;>rfl
      rw[g2,Aj]
      have g3:w64 ((f.Blocks.length:Int)-((bif (h.Then !=-1) then(1:Int) else 0)+(bif (h.Else !=-1) then(1:Int) else 0)))=Rv h (f.Blocks.length:Int):=by
       rw[hmv]
       have:(f.Blocks.length:Int)-((bif (h.Then !=-1) then(1:Int) else 0)+(bif (h.Else !=-1) then(1:Int) else 0))=(f.Blocks.length:Int)-(bif (h.Then !=-1) then 1 else 0)-(bif (h.Else !=-1) then 1 else 0):=by omega
       rw[this];exact Em (by cases(h.Then !=-1)<;>cases(h.Else !=-1)<;>simp only[Af,Aq]<;>omega) (by cases(h.Then !=-1)<;>cases(h.Else !=-1)<;>simp only[Af,Aq]<;>omega)
      rw[g3,hcnt,bne_self_eq_false,show((false:Bool)==false)=true from rfl,Af,g9 _ hN.inf (λhm=>kH (xU hN) hm),hbd.2,Af,Aj,Aq]
      have hlen:0<(MM (Wa f h)).length:=by
       unfold MM WI;have:=d5 (Wa f h).Params.length;simp only[Du];omega
      have g4:(((MM (Wa f h)).length:Int)==0)=false:=by simp;intro e;rw[e]at hlen;simp at hlen
      rw[g4,Aq]
      have g5:(bif (bif (h.Then !=-1) then decide (h.Then<h.At) else false) then some (w64 (h.At-1)) else some h.At)=some (bif (h.Then !=-1)&&decide (h.Then<h.At) then h.At-1 else h.At):=by
       rw[DL,Em (n:=h.At-1) (by have:=H.at_.1;omega) (by have:=H.at_.2;omega),ZR]
      rw[g5,Aj]
      have g6:(bif (bif (h.Else !=-1) then decide (h.Else<h.At) else false) then some (w64 ((bif (h.Then !=-1)&&decide (h.Then<h.At) then h.At-1 else h.At)-1)) else some (bif (h.Then !=-1)&&decide (h.Then<h.At) then h.At-1 else h.At))=some (Rv h h.At):=by
       have hz:-1<=(bif (h.Then !=-1)&&decide (h.Then<h.At) then h.At-1 else h.At)/\(bif (h.Then !=-1)&&decide (h.Then<h.At) then h.At-1 else h.At)<1000000:=by
        have a1:=H.at_.1;have a2:=H.at_.2
        cases((h.Then !=-1)&&decide (h.Then<h.At))<;>simp only[Af,Aq]<;>omega
       rw[DL,Em (by omega) (by omega),ZR]
       rfl
      rw[g6,Aj]
      have hpo:(FH f h).2.1.length<=5000:=by
       have h1:=(IV H hc).2;have h2:=Rj H (Xz H);omega
      have eblk:RF h (Ww f h h.At.toNat)=⟨(bA f h.At.toNat).Phis.map (lw h),(FH f h).2.1,⟨1,0,[Rv h h.Join]⟩⟩:=by
       unfold Ww;rw[hAc,Va]
       rfl
      rw[eblk]at q2
      have key:=T8 (FH f h).2.1 (default:A2) (λk (t:Int)=>(t,(k:Int))) (λk t=>0<=t/\t<=k) (λt o=>bif IR f o then t+1 else t) id (Eg f (Wa f h,0) (Rv h h.At)) (λk t hk hP=>by
        have hL:=xM hf;unfold Eg;simp only[Aa q1,q2,B5 hk,Af,Aa (Ag hk),Ap,hL,w1 (show k<4611686018427387904 by omega)];rw[Aa (λ_=>q1),Aa (λ_=>Ag hk)];unfold IR;have hw:w64 (t+1)=t+1:=Em (by omega) (by omega)
        cases((FH f h).2.1.getD k default).Dst==0 with
        | true=>
         simp only[show((true:Bool)==false)=false from rfl,Aq,Aj,Af,Bool.true_or,hw];exact⟨trivial,by omega⟩
        | false=>
         grind) (λt _=>by
        unfold Eg;simp only[Aa q1,q2,Dk,Aq]
        rfl) 0 (by omega)
      have k1:=key.1
      have ef:∀(l:List A2) (t:Int),l.foldl (λt o=>bif IR f o then t+1 else t) t=t+(cntO f l:Int):=λl=>by
       induction l with
       | nil=>intro t;simp[cntO]
       | cons o l ih=>
        intro t;rw[Zf,ih];unfold cntO
        cases ho:IR f o with
        | false=>simp[ho]
        | true=>simp[ho];omega
      rw[ef,uc H hc]at k1;simp only[id,Int.zero_add]at k1;rw[show((0:Int),(0:Int))=((0:Int),((0:Nat):Int)) from rfl,k1,Aj,Aa H.at_,pM hs hiv,Aj];have l1:=H4 H.R H.sides.1;have l2:=H4 H.R H.sides.2;have l3:=ZP H;have eA:f.Blocks.getD h.At.toNat default=bA f h.At.toNat:=rfl
      have g7:((((bA f h.At.toNat).Ops.length+(IU f h).length:Nat):Int)==w64 (((bA f h.At.toNat).Ops.length:Int)+((IU f h).length:Int)))=true:=by
       have:(IU f h).length=(Mu f h.Then).length+(Mu f h.Else).length:=by unfold IU;rw[Du]
       rw[Em (by omega) (by omega)];simp
      rw[eA,g7,Aa (λ_=>q1),q2,Af]
      rfl
end
end Go.Proofs.YtlnbjgmjaioagaaGreat
