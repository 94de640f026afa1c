/-
  The machine, the program's functions and the laws' arithmetic: part 6 of 6.
-/
import Derived.Test.YtemgdalocjcbhaaGreatPk5
import Derived.OpenShut
import Derived.ShutString
set_option linter.unusedVariables false
set_option linter.unusedSimpArgs false
namespace Go.Proofs.YtemgdalocjcbhaaGreat
noncomputable section
open Go Go.RowKit
set_option maxRecDepth 100000
structure Slot(V:Vs)(v:Int)(l:List Int):Prop where
 lo:0≤v
 hi:v<V.length
 is:V.getD v.toNat []=l
theorem Slot.inb{V:Vs}{v:Int}{l:List Int}(h:Slot V v l):Au v V.length:=⟨h.lo,h.hi⟩
theorem c_number{V:Vs}{v:Int}{a:Int}{l:List Int}(h:Slot V v (a::l))(F S:Int)(B:List Int)(T:List Ac):Ay v V F S B T=some a:=by
 unfold Ay;rw[Ba h.inb,h.is,Ba (show Au (0:Int) (a::l).length from⟨Int.le_refl _,by simp⟩)]
 rfl
def Arg(o:B5)(i:Nat)(v:Int):Prop:=i<o.Args.length∧o.Args.getD i 0=v
theorem Arg.inb{o:B5}{i:Nat}{v:Int}(h:Arg o i v):Au (i:Int) o.Args.length:=F1 h.1
theorem Arg.g{o:B5}{i:Nat}{v:Int}(h:Arg o i v):o.Args.getD ((i:Nat):Int).toNat 0=v:=by rw[Jh];exact h.2
section
variable {o:B5} {V:Vs} {F S:Int} {B:List Int} {T:List Ac}
theorem dk{a b:Int}(h:o.Kind=a)(hne:a≠b):decide (o.Kind=b)=false:=decide_eq_false (by rw[h];exact hne)
theorem dk_t{a:Int}(h:o.Kind=a):decide (o.Kind=a)=true:=decide_eq_true h
structure MemOk(B:List Int)(T:List Ac):Prop where
 by_:okBy B
 len:B.length<4611686018427387904
 room:T.length+128≤room
def doD(k w a b:Int):Int×Int:=(L3 k w a b).getD (0,1)
def twoR(k w:Int)(A C:List Int):List Int×Int:=
 bif (List.range A.length).all (fun i=>(doD k w (A.getD i 0) (C.getD i 0)).2==0) then((List.range A.length).map (fun i=>(doD k w (A.getD i 0) (C.getD i 0)).1),0) else([],8)
theorem set_fill{f:Nat→Int}{n i:Nat}(h:i<n):((List.range i).map f++List.replicate (n-i) (0:Int)).set i (f i)=(List.range (i+1)).map f++List.replicate (n-(i+1)) 0:=by
 obtain⟨m,hm⟩:∃ m,n-i=m+1:=⟨n-i-1,by omega⟩
 have hm':n-(i+1)=m:=by omega
 rw[hm,hm',List.replicate_succ,List.set_append_right _ _ (by simp),List.range_succ,List.map_append,List.append_assoc]
 simp
theorem c_two {p q : Int} {A C : List Int} {k : Int} (hk : 1 ≤ k ∧ k ≤ 12) (hw : wdM o.Bits) (h0 : Arg o 0 p) (h1 : Arg o 1 q) (s0 : Slot V p A) (s1 : Slot V q C) (hl : C.length = A.length) (hr : A.length ≤ 64)
    (hA : ∀ x ∈ A, u64 x) (hC : ∀ x ∈ C, u64 x) : Ah o k V F S B T = some (twoR k o.Bits A C) := by
  have e0 := h0.g; have i0 := h0.inb; have e1 := h1.g; have i1 := h1.inb; simp only [Int.cast_ofNat_Int] at e0 i0 e1 i1; unfold Ah
  have hroom : ((A.length : Int)) ≤ (room : Int) := by have : (64 : Nat) ≤ room := by decide
                                                       omega
  rw [Ba i0, e0, Ba s0.inb, Ba i1, e1, Ba s1.inb, s0.is, Ba ⟨by omega, by omega, hroom⟩]
  have hdo : ∀ i, i < A.length → ∃ v e, L3 k o.Bits (A.getD i 0) (C.getD i 0) = some (v, e) ∧ (e = 0 ∨ e = 8) := fun i hi => by
    obtain ⟨v, e, h1, _, _, h2⟩ := c_Do hk hw (hA _ (G5 hi)) (hC _ (G5 (i := i) (by omega))); exact ⟨v, e, h1, by rcases h2 with ⟨h, _⟩ | ⟨h, _⟩ <;> simp [h]⟩
  have hL := loop_find (B1 o k V) (fun i => ((i : Int), (List.range i).map (fun i => (doD k o.Bits (A.getD i 0) (C.getD i 0)).1) ++ List.replicate (A.length - i) (0 : Int)))
    (fun i => (doD k o.Bits (A.getD i 0) (C.getD i 0)).2 == 0) (.inl ((List.range A.length).map (fun i => (doD k o.Bits (A.getD i 0) (C.getD i 0)).1))) (.inr ([], 8)) A.length
    (fun i hi hp => by
      obtain ⟨v, e, hd, he⟩ := hdo i hi
      have hD : doD k o.Bits (A.getD i 0) (C.getD i 0) = (v, e) := by unfold doD; rw [hd]; rfl
      rw [hD] at hp
      have he0 : e = 0 := by simpa using hp
      subst he0; unfold B1; simp only [e0, e1, s0.is, s1.is, Jh, List.length_replicate, Zr hi, cond_true, Ba (F1 hi), Ba (F1 (show i < C.length by omega)), hd, Option.bind_some, w1 (show i < 4611686018427387904 by omega)]; rw [show ((0 : Int) != 0) = false from rfl, cond_false, Ba (F1 (by simp; omega))]; have := set_fill (f := fun i => (doD k o.Bits (A.getD i 0) (C.getD i 0)).1) hi; simp only [hD] at this
      rw [this])
    (fun i hi hp => by
      obtain ⟨v, e, hd, he⟩ := hdo i hi
      have hD : doD k o.Bits (A.getD i 0) (C.getD i 0) = (v, e) := by unfold doD; rw [hd]; rfl
      rw [hD] at hp
      have he8 : e = 8 := by
        rcases he with rfl | rfl
        · simp at hp
        · rfl
      subst he8; unfold B1; simp only [e0, e1, s0.is, s1.is, Jh, List.length_replicate, Zr hi, cond_true, Ba (F1 hi), Ba (F1 (show i < C.length by omega)), hd, Option.bind_some]
      rw [show ((8 : Int) != 0) = true from rfl, cond_true])
    (by
      unfold B1
      simp only [e0, s0.is, Jh, List.length_replicate, dlt_f, cond_false, Nat.sub_self, List.replicate_zero, List.append_nil])
  simp only [List.range_zero, List.map_nil, List.nil_append, Nat.sub_zero] at hL; have hL' : An (B1 o k V) ((0 : Int), List.replicate A.length (0 : Int)) = _ := hL; rw [Jh, hL']; unfold twoR
  cases (List.range A.length).all (fun i => (doD k o.Bits (A.getD i 0) (C.getD i 0)).2 == 0) <;> rfl
theorem op_two{p q:Int}{A C:List Int}(hk:1≤o.Kind∧o.Kind≤12)(hw:wdM o.Bits)(h0:Arg o 0 p)(h1:Arg o 1 q)(s0:Slot V p A)(s1:Slot V q C)(hl:C.length=A.length)(hr:A.length≤64)
  (hA:∀ x∈A,u64 x) (hC:∀ x∈C,u64 x):opM o V F S B T=some (Kr (twoR o.Kind o.Bits A C) V F S B T):=by
 obtain⟨k1,k2⟩:=hk
 have hc:o.Kind=1∨o.Kind=2∨o.Kind=3∨o.Kind=4∨o.Kind=5∨o.Kind=6∨o.Kind=7∨o.Kind=8∨o.Kind=9∨o.Kind=10∨o.Kind=11∨o.Kind=12:=by omega
 have key:=fun k (hk:1≤k∧k≤12)=>c_two (F:=F) (S:=S) (B:=B) (T:=T) hk hw h0 h1 s0 s1 hl hr hA hC;unfold opM;rcases hc with h|h|h|h|h|h|h|h|h|h|h|h<;>rw[h] <;>
  simp only[Int.reduceEq,decide_false,decide_true,cond_false,cond_true]<;>rw[key _ (by decide)]<;>rfl
end
theorem room_is:room=1099511627776:=rfl
theorem m_New_ok{b:List Int}(h:b.length≤4096):Nl b=some ((true,⟨b,[]⟩),0):=by
 unfold Nl C6;rw[decide_eq_false (by omega),cond_false,Y3 (by rw[room_is];omega)]
 rfl
section
variable {o:B5} {V:Vs} {F S:Int} {B:List Int} {T:List Ac}
def tailO(o:B5):B5:=⟨o.Kind,o.Bits,o.Lanes,o.Dst,o.Args.drop 1,o.Imm⟩
theorem Arg.tail{i:Nat}{v:Int}(h:Arg o (i+1) v):Arg (tailO o) i v:=by
 obtain⟨h1,h2⟩:=h;refine⟨by simp[tailO];omega,?_⟩;rw[← h2];simp[tailO,List.getD]
theorem op_get{c:Int}{A:List Int}(hk:o.Kind=22)(h0:Arg o 0 c)(s0:Slot V c A)(hi:0≤o.Imm∧o.Imm<A.length):opM o V F S B T=some ([A.getD o.Imm.toNat 0],0,F,S,T,V,B):=by
 unfold opM;rw[dk hk (by decide),dk hk (by decide),dk hk (by decide),dk hk (by decide),dk hk (by decide),dk hk (by decide),dk hk (by decide),dk hk (by decide),dk hk (by decide),dk hk (by decide),dk_t hk,cond_true];simp only[cond_false];unfold En;have e0:=h0.g;have i0:=h0.inb;simp only[Int.cast_ofNat_Int]at e0 i0;rw[Ba i0,e0,Ba s0.inb,s0.is,Ba (show Au o.Imm A.length from hi)];rfl
theorem op_pack {g : Nat → Int} (hk : o.Kind = 21) (hs : ∀ i, i < o.Args.length → ∃ l, Slot V (o.Args.getD i 0) (g i :: l)) (hr : o.Args.length ≤ 64) : opM o V F S B T = some ((List.range o.Args.length).map g, 0, F, S, T, V, B) := by
  unfold opM; rw [dk hk (by decide), dk hk (by decide), dk hk (by decide), dk hk (by decide), dk hk (by decide), dk hk (by decide), dk hk (by decide), dk hk (by decide), dk hk (by decide), dk_t hk, cond_true]; simp only [cond_false]; unfold D7
  have hroom : ((o.Args.length : Int)) ≤ (room : Int) := by have : (64 : Nat) ≤ room := by decide
                                                            omega
  have hL := Aab (Ck o V F S B T) (fun i => ((i : Int), (List.range i).map g ++ List.replicate (o.Args.length - i) (0 : Int))) ((List.range o.Args.length).map g) o.Args.length
    (fun i hi => by
      obtain ⟨l, hs⟩ := hs i hi; unfold Ck; simp only [Zr hi, cond_true, Ba (F1 hi), Jh, c_number hs, Option.bind_some, w1 (show i < 4611686018427387904 by omega)]
      rw [Ba (F1 (by simp; omega)), set_fill hi])
    (by
      unfold Ck
      simp only [dlt_f, cond_false, Nat.sub_self, List.replicate_zero, List.append_nil])
  simp only [List.range_zero, List.map_nil, List.nil_append, Nat.sub_zero] at hL; have hL' : An (Ck o V F S B T) ((0 : Int), List.replicate o.Args.length (0 : Int)) = _ := hL; rw [Ba ⟨by omega, by omega, hroom⟩, Jh, hL']; rfl
end
theorem c_deeds(V:Vs)(F S:Int)(B:List Int)(T:List Ac):Dz V F S B T=some ():=by kernel_rfl
def We(ps ags:List Int)(i:Nat):List Int:=[ags.getD i 0 % 2 ^ (ps.getD i 0).toNat]
def Qc(f:Ae)(ags:List Int)(n:Nat):Vs:=
 ((f.Blocks.getD 0 default).Phis).foldl (fun V p=>V.set p.Dst.toNat [0]) ([]::((List.range f.Params.length).map (We f.Params ags)++List.replicate (n-f.Params.length) []))
theorem set_arg{g:Nat→List Int}{n i:Nat}(h:i<n):(([]:List Int)::((List.range i).map g++List.replicate (n-i) [])).set (i+1) (g i)=[]::((List.range (i+1)).map g++List.replicate (n-(i+1)) []):=by
 obtain⟨m,hm⟩:∃ m,n-i=m+1:=⟨n-i-1,by omega⟩
 have hm':n-(i+1)=m:=by omega
 rw[hm,hm',List.replicate_succ,List.set_cons_succ,List.set_append_right _ _ (by simp),List.range_succ,List.map_append,List.append_assoc]
 simp
theorem foldl_set_len{l:List Gk}{V:Vs}:(l.foldl (fun V p=>V.set p.Dst.toNat [0]) V).length=V.length:=by
 induction l generalizing V with
 | nil=>rfl
 | cons p l ih=>rw[List.foldl_cons,ih,List.length_set]
theorem Zl{f:Ae}(hn:((f.Blocks.getD 0 default).Phis).length<4611686018427387904):∀(k i:Nat) (V:Vs),i+k=((f.Blocks.getD 0 default).Phis).length→(∀ p∈(f.Blocks.getD 0 default).Phis,Au p.Dst V.length)→
  An (Cb f) ((i:Int),V)=some ((((f.Blocks.getD 0 default).Phis).drop i).foldl (fun V p=>V.set p.Dst.toNat [0]) V)
 | 0,i,V,h,_=>by
  obtain rfl:i=((f.Blocks.getD 0 default).Phis).length:=by omega
  rw[List.drop_length];refine G7 ?_;unfold Cb
  show(bif decide _ then _ else _)=_
  rw[show((0:Int)).toNat=0 from rfl,dlt_f,cond_false];rfl
 | k+1,i,V,h,hp=>by
  have hi:i<((f.Blocks.getD 0 default).Phis).length:=by omega
  have hd:((f.Blocks.getD 0 default).Phis).drop i=((f.Blocks.getD 0 default).Phis).getD i default::((f.Blocks.getD 0 default).Phis).drop (i+1):=by rw[List.drop_eq_getElem_cons hi,Pa _ _ _ hi]
  rw[hd,List.foldl_cons,← Zl hn k (i+1) _ (by omega) (fun p hpp=>by rw[List.length_set];exact hp p hpp)];refine Nr ?_;unfold Cb;simp only[show((0:Int)).toNat=0 from rfl,Zr hi,cond_true,Ba (F1 hi),Jh,Fc,Option.bind_some,Ba (hp _ (G5 hi)),w1 (show i<4611686018427387904 by omega)]
theorem c_begin{f:Ae}{ags:List Int}{n:Nat}(F S:Int)(B:List Int)(T:List Ac)(hl:ags.length=f.Params.length)(hw:∀ w∈f.Params,wdM w)(ha:∀ a∈ags,u64 a)(hn:f.Params.length≤n)(hn':n<4000000)(hb:0<f.Blocks.length)
  (hpl:((f.Blocks.getD 0 default).Phis).length<4611686018427387904) (hp:∀ p∈(f.Blocks.getD 0 default).Phis,Au p.Dst (n+1)) :
  Dr f ags (List.replicate (n+1) []) F S B T=some (F,S,T,Qc f ags n,B):=by
 have hL:=Aab (Ca f ags) (fun i=>((i:Int),([]:List Int)::((List.range i).map (We f.Params ags)++List.replicate (n-i) ([]:List Int)))) (([]:List Int)::((List.range f.Params.length).map (We f.Params ags)++List.replicate (n-f.Params.length) [])) f.Params.length
  (fun i hi=>by
   unfold Ca;simp only[Zr hi,cond_true,Ba (F1 hi),Ba (F1 (show i<ags.length by omega)),Jh,c_Cut (hw _ (G5 hi)) (ha _ (G5 (show i<ags.length by omega))),Fc,Option.bind_some,w1 (show i<4611686018427387904 by omega)];rw[Ba (F1 (by simp;omega))];have:=set_arg (g:=We f.Params ags) (show i<n by omega);unfold We at this ⊢
   rw[this])
  (by
   unfold Ca
   simp only[dlt_f,cond_false])
 simp only[List.range_zero,List.map_nil,List.nil_append,Nat.sub_zero]at hL
 have hL':An (Ca f ags) ((0:Int),List.replicate (n+1) ([]:List Int))=some (([]:List Int)::((List.range f.Params.length).map (We f.Params ags)++List.replicate (n-f.Params.length) [])):=by rw[List.replicate_succ];exact hL
 unfold Dr;rw[hL',Option.bind_some,Ba (show Au (0:Int) f.Blocks.length from⟨Int.le_refl _,by omega⟩)]
 have h2:=Zl hpl ((f.Blocks.getD 0 default).Phis).length 0 (([]:List Int)::((List.range f.Params.length).map (We f.Params ags)++List.replicate (n-f.Params.length) [])) (by omega) (fun p hpp=>by
  have:=hp p hpp;rw[show(([]:List Int)::((List.range f.Params.length).map (We f.Params ags)++List.replicate (n-f.Params.length) [])).length=n+1 by simp;omega]
  exact this)
 rw[List.drop_zero]at h2;have h2':An (Cb f) ((0:Int),([]:List Int)::((List.range f.Params.length).map (We f.Params ags)++List.replicate (n-f.Params.length) []))=some (Qc f ags n):=h2;rw[h2'];rfl
def outR(V:Vs)(B:List Int)(x:RR):Option (Lp×Int×List Ac×List Int):=Ap (V.length=x.2.2.2.2.1.length) (Ap (B.length=x.2.2.2.2.2.length) (some (x.1,0,x.2.2.2.1,x.2.2.2.2.2)))
theorem beginV_len{f:Ae}{ags:List Int}{n:Nat}(hn:f.Params.length≤n):(Qc f ags n).length=n+1:=by
 unfold Qc;rw[foldl_set_len]
 simp
 omega
theorem c_Run {f : Ae} {ags : List Int} {n : Nat} {F : Int} {B : List Int} {T : List Ac} (hF : 0 ≤ F) (hc : Eg f 2 = some 0) (hlast : E6 f = some (n : Int)) (hl : ags.length = f.Params.length) (hw : ∀ w ∈ f.Params, wdM w) (ha : ∀ a ∈ ags, u64 a) (hn : f.Params.length ≤ n) (hn' : n < 4000000)
    (hb : 0 < f.Blocks.length) (hpl : ((f.Blocks.getD 0 default).Phis).length < 4611686018427387904) (hp : ∀ p ∈ (f.Blocks.getD 0 default).Phis, Au p.Dst (n + 1)) :
    Em f ags F B T = (An (Bm f.Blocks) (0, F, 0, T, Qc f ags n, B)).bind (outR (Qc f ags n) B) := by
  have hroom : (((n + 1 : Nat) : Int)) ≤ (room : Int) := by have : (4000001 : Nat) ≤ room := by decide
                                                            omega
  have e1 : (decide (F < 0)) = false := decide_eq_false (by omega)
  have e2 : ((ags.length : Int) != (f.Params.length : Int)) = false := by rw [hl]; simp
  unfold Em; rw [e1, cond_false, e2, show ((false : Bool) == false) = true from rfl, cond_true, hc, Option.bind_some, cond_false, show ((0 : Int) != 0) = false from rfl, cond_false, hlast, Option.bind_some, w1 (show n < 4611686018427387904 by omega), Ba ⟨by omega, by omega, hroom⟩, Jh, c_deeds, Option.bind_some, c_begin F 0 B T hl hw ha hn hn' hb hpl hp, Option.bind_some]; rw [Ba (show (List.replicate (n + 1) ([] : List Int)).length = (Qc f ags n).length by rw [beginV_len hn, List.length_replicate]), Ba rfl]; rw [run_eq]
  rfl
def endG(e:G2)(F S:Int)(V:Vs)(B:List Int)(T:List Ac):Option Lp:=
 bif S==F then some ⟨9,0,S⟩ else bif e.Kind==0 then(Ay e.Arg V F (Ao (S+1)) B T).map fun v=>⟨0,v,Ao (S+1)⟩ else bif e.Kind==3 then some ⟨8,0,Ao (S+1)⟩ else none
theorem bl_end{bs:List Ai}{V V':Vs}{F S S':Int}{B B':List Int}{T T':List Ac}{i:Nat}{r:Lp}(hi:i<bs.length)(hd:doG (bs.getD i default).Ops V F S B T=some (0,F,S',T',V',B'))(hv:V.length=V'.length)(hb:B.length=B'.length)
  (he:endG (bs.getD i default).End F S' V' B' T'=some r):∃ S'',blG bs (i:Int) V F S B T=some (.done (r,F,S'',T',V',B')):=by
 unfold blG;rw[Ba (F1 hi),Jh,hd,Option.bind_some,Ba hv,Ba hb,show((0:Int)!=0)=false from rfl,cond_false];unfold endG at he;simp only
 cases hs:(S'==F) with
 | true=>rw[hs,cond_true]at he;cases he;exact⟨_,rfl⟩
 | false=>
  rw[hs,cond_false]at he
  cases hk:((bs.getD i default).End.Kind==0) with
  | true=>
   rw[hk,cond_true]at he
   cases hm:Ay (bs.getD i default).End.Arg V' F (Ao (S'+1)) B' T' with
   | none=>rw[hm]at he;cases he
   | some v=>rw[hm]at he;cases he;exact⟨_,rfl⟩
  | false=>
   rw[hk,cond_false]at he
   cases hk3:((bs.getD i default).End.Kind==3) with
   | true=>rw[hk3,cond_true]at he;cases he;exact⟨_,rfl⟩
   | false=>rw[hk3,cond_false]at he;cases he
theorem run_one{bs:List Ai}(hb:∀ b∈bs,b.Ops.length<4611686018427387904){V0 V V':Vs}{F S S'':Int}{B0 B B':List Int}{T T':List Ac}{r:Lp}(h:blG bs 0 V F S B T=some (.done (r,F,S'',T',V',B')))(hv:V0.length=V'.length)(hB:B0.length=B'.length) :
  (An (Bm bs) (0,F,S,T,V,B)).bind (outR V0 B0)=some (r,0,T',B'):=by
 rw[G7 ((run_F hb 0 F S T V B).trans h),Option.bind_some];unfold outR;rw[Ba hv,Ba hB]
theorem Zs{o:B5}{l:List B5}{V V':Vs}{F S:Int}{B B':List Int}{T T':List Ac}{L:List Int}(hs:S≠F)(ho:opM o V F (Ao (S+1)) B T=some (L,0,F,Ao (S+1),T',V',B'))(hd:Au o.Dst V'.length) :
  doG (o::l) V F S B T=doG l (V'.set o.Dst.toNat L) F (Ao (S+1)) B' T':=by
 rw[doG,show(S==F)=false by simpa using hs,cond_false,ho,Option.bind_some]
 show(bif ((0:Int)!=0) then _ else _)=_
 rw[show((0:Int)!=0)=false from rfl,cond_false,Ba hd]
theorem awake13:m_locksteplaw13_awake=some true:=by kernel_rfl
theorem w_u8{x:Int}(h:0≤x∧x<256):Ao x=x:=w64_of (by omega) (by omega)
theorem small_ops{bs:List Ai}(h:(bs.all fun b=>decide (b.Ops.length<100))=true):∀ b∈bs,b.Ops.length<4611686018427387904:=fun b hb=>by
 have:=List.all_eq_true.1 h b hb;have:=of_decide_eq_true this;omega
section
variable {B:List Int} {q p u v:Int} (hB:okBy B) (hL:B.length≤4096) (hp:0≤p∧p<256) (hu:0≤u∧u<256) (hv:0≤v∧v<256)
include hB hL hp hu hv
end
def fL(w k i:Int):Ae:=⟨[w,w,w,w,w,w,w,w],w,[⟨[],[⟨21,w,4,9,[1,2,3,4],0⟩,⟨21,w,4,10,[5,6,7,8],0⟩,⟨k,w,4,11,[9,10],0⟩,⟨22,w,4,12,[11],i⟩],⟨0,12,[]⟩⟩]⟩
def scL(w k p q:Int):Ae:=⟨[w,w,w,w,w,w,w,w],w,[⟨[],[⟨k,w,1,9,[p,q],0⟩],⟨0,9,[]⟩⟩]⟩
def ksL:List Int:=[1,2,3,5,6,7,8,9]
def isO(x:Option Int)(n:Int):Bool:=match x with|some y=>y==n|none=>false
theorem Zz{x:Option Int}{n:Int}(h:isO x n=true):x=some n:=by
 cases x with
 | none=>cases h
 | some y=>simp[isO]at h;rw[h]
def okL(w k:Int)(i:Nat):Bool:=
 isO (Eg (fL w k i) 2) 0&&isO (Cs (fL w k i) 2) 0&&isO (E6 (fL w k i)) 12&&isO (Eg (scL w k (1+i) (5+i)) 2) 0&&isO (E6 (scL w k (1+i) (5+i))) 9
theorem okL_all:([8,16,32].all fun w=>ksL.all fun k=>(List.range 4).all fun i=>okL w k i)=true:=by kernel_rfl
theorem okL_of{w k:Int}{i:Nat}(hw:w∈([8,16,32]:List Int))(hk:k∈ksL)(hi:i<4) :
  Eg (fL w k i) 2=some 0∧Cs (fL w k i) 2=some 0∧E6 (fL w k i)=some 12∧Eg (scL w k (1+i) (5+i)) 2=some 0∧E6 (scL w k (1+i) (5+i))=some 9:=by
 have h:=List.all_eq_true.1 (List.all_eq_true.1 (List.all_eq_true.1 okL_all w hw) k hk) i (List.mem_range.2 hi);unfold okL at h;simp only[Bool.and_eq_true]at h;obtain⟨⟨⟨⟨h1,h2⟩,h3⟩,h4⟩,h5⟩:=h;exact⟨Zz h1,Zz h2,Zz h3,Zz h4,Zz h5⟩
theorem op_pack4{o:B5}{V:Vs}{F S:Int}{B:List Int}{T:List Ac}{a b c d p q r s:Int}{l0 l1 l2 l3:List Int}(hk:o.Kind=21)(hA:o.Args=[a,b,c,d])(s0:Slot V a (p::l0))(s1:Slot V b (q::l1))(s2:Slot V c (r::l2))(s3:Slot V d (s::l3)) :
  opM o V F S B T=some ([p,q,r,s],0,F,S,T,V,B):=by
 have hn:o.Args.length=4:=by rw[hA];rfl
 have:=op_pack (o:=o) (V:=V) (F:=F) (S:=S) (B:=B) (T:=T) (g:=fun i=>([p,q,r,s]:List Int).getD i 0) hk (fun i hi=>by
  rw[hn]at hi
  have hc:i=0∨i=1∨i=2∨i=3:=by omega
  rw[hA];rcases hc with rfl|rfl|rfl|rfl
  ·exact⟨_,s0⟩
  ·exact⟨_,s1⟩
  ·exact⟨_,s2⟩
  ·exact⟨_,s3⟩) (by omega)
 rw[this,hn];rfl
theorem twoR_ok{k w:Int}{A C:List Int}(hk:1≤k∧k≤12)(h4:k≠4)(hw:wdM w)(hl:C.length=A.length)(hA:∀ x∈A,u64 x)(hC:∀ x∈C,u64 x) :
  twoR k w A C=((List.range A.length).map (fun i=>(doD k w (A.getD i 0) (C.getD i 0)).1),0):=by
 unfold twoR
 have:(List.range A.length).all (fun i=>(doD k w (A.getD i 0) (C.getD i 0)).2==0)=true:=all_range.2 fun i hi=>by
  obtain⟨v,e,h1,_,_,h2⟩:=c_Do hk hw (hA _ (G5 hi)) (hC _ (G5 (i:=i) (by omega)));unfold doD;rw[h1];rcases h2 with⟨h,_⟩|⟨_,_,h,_⟩
  ·simp[h]
  ·exact absurd h h4
 rw[this,cond_true]
section
variable {w k:Int} {i:Nat} {ags:List Int} (hw:w∈([8,16,32]:List Int)) (hk:k∈ksL) (hi:i<4) (hal:ags.length=8) (ha:∀ x∈ags,u64 x)
def cL(w:Int)(ags:List Int)(j:Nat):Int:=ags.getD j 0 % 2 ^ w.toNat
theorem wd3(hw:w∈([8,16,32]:List Int)):wdM w:=by simp at hw;unfold wdM;omega
theorem cL_u64(hw:w∈([8,16,32]:List Int))(j:Nat):u64 (cL w ags j):=by
 obtain⟨h0,h1⟩:=Y8 (wd3 hw) (ags.getD j 0);exact u64_of (wd3 hw) h0 h1
theorem ksL_k(hk:k∈ksL):(1≤k∧k≤12)∧k≠4:=by simp[ksL]at hk;omega
include hw hk hi hal ha
theorem run_fL:Em (fL w k i) ags 9 [] []=some (⟨0,(doD k w (cL w ags i) (cL w ags (4+i))).1,5⟩,0,[],[]):=by
 obtain⟨k1,k4⟩:=ksL_k hk;obtain⟨h1,_,h3,_,_⟩:=okL_of hw hk hi;have hwd:=wd3 hw;rw[c_Run (f:=fL w k i) (ags:=ags) (n:=12) (by decide) h1 h3 hal (fun x hx=>by simp[fL]at hx;subst hx;exact hwd) ha (by simp[fL]) (by decide) (by simp[fL]) (by simp[fL]) (fun q hq=>by cases hq)]
 have eb:Qc (fL w k i) ags 12=[[],[cL w ags 0],[cL w ags 1],[cL w ags 2],[cL w ags 3],[cL w ags 4],[cL w ags 5],[cL w ags 6],[cL w ags 7],[],[],[],[]]:=by kernel_rfl
 rw[eb];have u:=fun j=>cL_u64 (ags:=ags) hw j
 have uA:∀ x∈([cL w ags 0,cL w ags 1,cL w ags 2,cL w ags 3]:List Int),u64 x:=by
  intro x hx;simp at hx;rcases hx with rfl|rfl|rfl|rfl<;>exact u _
 have uC:∀ x∈([cL w ags 4,cL w ags 5,cL w ags 6,cL w ags 7]:List Int),u64 x:=by
  intro x hx;simp at hx;rcases hx with rfl|rfl|rfl|rfl<;>exact u _
 have p1:=op_pack4 (o:=⟨21,w,4,9,[1,2,3,4],0⟩) (V:=[[],[cL w ags 0],[cL w ags 1],[cL w ags 2],[cL w ags 3],[cL w ags 4],[cL w ags 5],[cL w ags 6],[cL w ags 7],[],[],[],[]]) (F:=9) (S:=Ao (0+1)) (B:=[]) (T:=[]) rfl rfl ⟨by decide,by simp,rfl⟩ ⟨by decide,by simp,rfl⟩ ⟨by decide,by simp,rfl⟩ ⟨by decide,by simp,rfl⟩;have d1:=Zs (l:=[⟨21,w,4,10,[5,6,7,8],0⟩,⟨k,w,4,11,[9,10],0⟩,⟨22,w,4,12,[11],i⟩]) (by decide) p1 ⟨by simp,by simp⟩;have p2:=op_pack4 (o:=⟨21,w,4,10,[5,6,7,8],0⟩) (V:=[[],[cL w ags 0],[cL w ags 1],[cL w ags 2],[cL w ags 3],[cL w ags 4],[cL w ags 5],[cL w ags 6],[cL w ags 7],[cL w ags 0,cL w ags 1,cL w ags 2,cL w ags 3],[],[],[]]) (F:=9) (S:=Ao (Ao (0+1)+1)) (B:=[]) (T:=[]) rfl rfl ⟨by decide,by simp,rfl⟩ ⟨by decide,by simp,rfl⟩ ⟨by decide,by simp,rfl⟩ ⟨by decide,by simp,rfl⟩;have d2:=Zs (l:=[⟨k,w,4,11,[9,10],0⟩,⟨22,w,4,12,[11],i⟩]) (by decide) p2 ⟨by simp,by simp⟩;have p3:=op_two (o:=⟨k,w,4,11,[9,10],0⟩) (V:=[[],[cL w ags 0],[cL w ags 1],[cL w ags 2],[cL w ags 3],[cL w ags 4],[cL w ags 5],[cL w ags 6],[cL w ags 7],[cL w ags 0,cL w ags 1,cL w ags 2,cL w ags 3],[cL w ags 4,cL w ags 5,cL w ags 6,cL w ags 7],[],[]]) (F:=9) (S:=Ao (Ao (Ao (0+1)+1)+1)) (B:=[]) (T:=[]) (p:=9) (q:=10) (A:=[cL w ags 0,cL w ags 1,cL w ags 2,cL w ags 3]) (C:=[cL w ags 4,cL w ags 5,cL w ags 6,cL w ags 7]) k1 hwd ⟨by simp,rfl⟩ ⟨by simp,rfl⟩ ⟨by decide,by simp,rfl⟩ ⟨by decide,by simp,rfl⟩ rfl (by simp) uA uC
 dsimp only at p3
 rw[twoR_ok (A:=[cL w ags 0,cL w ags 1,cL w ags 2,cL w ags 3]) (C:=[cL w ags 4,cL w ags 5,cL w ags 6,cL w ags 7]) k1 k4 hwd rfl uA uC]at p3;have d3:=Zs (l:=[⟨22,w,4,12,[11],i⟩]) (by decide) p3 ⟨by simp,by simp⟩;have p4:=op_get (o:=⟨22,w,4,12,[11],i⟩) (V:=[[],[cL w ags 0],[cL w ags 1],[cL w ags 2],[cL w ags 3],[cL w ags 4],[cL w ags 5],[cL w ags 6],[cL w ags 7],[cL w ags 0,cL w ags 1,cL w ags 2,cL w ags 3],[cL w ags 4,cL w ags 5,cL w ags 6,cL w ags 7],(List.range 4).map (fun i=>(doD k w (([cL w ags 0,cL w ags 1,cL w ags 2,cL w ags 3]:List Int).getD i 0) (([cL w ags 4,cL w ags 5,cL w ags 6,cL w ags 7]:List Int).getD i 0)).1),[]]) (F:=9) (S:=Ao (Ao (Ao (Ao (0+1)+1)+1)+1)) (B:=[]) (T:=[]) (c:=11) (A:=(List.range 4).map (fun i=>(doD k w (([cL w ags 0,cL w ags 1,cL w ags 2,cL w ags 3]:List Int).getD i 0) (([cL w ags 4,cL w ags 5,cL w ags 6,cL w ags 7]:List Int).getD i 0)).1)) rfl ⟨by simp,rfl⟩ ⟨by decide,by simp,rfl⟩ ⟨by simp,by simp;omega⟩
 have eg:((List.range 4).map (fun i=>(doD k w (([cL w ags 0,cL w ags 1,cL w ags 2,cL w ags 3]:List Int).getD i 0) (([cL w ags 4,cL w ags 5,cL w ags 6,cL w ags 7]:List Int).getD i 0)).1)).getD ((i:Nat):Int).toNat 0=(doD k w (cL w ags i) (cL w ags (4+i))).1:=by
  have hc:i=0∨i=1∨i=2∨i=3:=by omega
  rcases hc with rfl|rfl|rfl|rfl<;>rfl
 dsimp only at p4
 rw[eg]at p4;have d4:=Zs (l:=[]) (by decide) p4 ⟨by simp,by simp⟩;obtain⟨S'',h⟩:=bl_end (bs:=(fL w k i).Blocks) (i:=0) (r:=⟨0,(doD k w (cL w ags i) (cL w ags (4+i))).1,5⟩) (by simp[fL]) (d1.trans (d2.trans (d3.trans d4))) (by simp) rfl rfl;exact run_one (small_ops rfl) h (by simp) rfl
theorem run_gL:Em (scL w k (1+i) (5+i)) ags 9 [] []=some (⟨0,(doD k w (cL w ags i) (cL w ags (4+i))).1,2⟩,0,[],[]):=by
 obtain⟨k1,k4⟩:=ksL_k hk;obtain⟨_,_,_,h4,h5⟩:=okL_of hw hk hi;have hwd:=wd3 hw;rw[c_Run (f:=scL w k (1+i) (5+i)) (ags:=ags) (n:=9) (by decide) h4 h5 hal (fun x hx=>by simp[scL]at hx;subst hx;exact hwd) ha (by simp[scL]) (by decide) (by simp[scL]) (by simp[scL]) (fun q hq=>by cases hq)]
 have eb:Qc (scL w k (1+i) (5+i)) ags 9=[[],[cL w ags 0],[cL w ags 1],[cL w ags 2],[cL w ags 3],[cL w ags 4],[cL w ags 5],[cL w ags 6],[cL w ags 7],[]]:=by kernel_rfl
 rw[eb];have u:=fun j=>cL_u64 (ags:=ags) hw j
 have hs:∀ j:Nat,j<8→Slot [[],[cL w ags 0],[cL w ags 1],[cL w ags 2],[cL w ags 3],[cL w ags 4],[cL w ags 5],[cL w ags 6],[cL w ags 7],[]] (1+(j:Int)) [cL w ags j]:=fun j hj=>by
  have hc:j=0∨j=1∨j=2∨j=3∨j=4∨j=5∨j=6∨j=7:=by omega
  rcases hc with rfl|rfl|rfl|rfl|rfl|rfl|rfl|rfl<;>exact⟨by decide,by simp,rfl⟩
 have s1:=hs i (by omega);have s2:=hs (4+i) (by omega);rw[show(1:Int)+((4+i:Nat):Int)=5+(i:Int) by omega]at s2;have p3:=op_two (o:=⟨k,w,1,9,[1+i,5+i],0⟩) (F:=9) (S:=Ao (0+1)) (B:=[]) (T:=[]) (p:=1+i) (q:=5+i) k1 hwd ⟨by simp,rfl⟩ ⟨by simp,rfl⟩ s1 s2 rfl (by simp)
  (fun x hx=>by rw[List.mem_singleton.1 hx];exact u _) (fun x hx=>by rw[List.mem_singleton.1 hx];exact u _)
 dsimp only at p3
 rw[twoR_ok (A:=[cL w ags i]) (C:=[cL w ags (4+i)]) k1 k4 hwd rfl (fun x hx=>by rw[List.mem_singleton.1 hx];exact u _) (fun x hx=>by rw[List.mem_singleton.1 hx];exact u _)]at p3;have d3:=Zs (l:=[]) (by decide) p3 ⟨by simp,by simp⟩;obtain⟨S'',h⟩:=bl_end (bs:=(scL w k (1+i) (5+i)).Blocks) (i:=0) (r:=⟨0,(doD k w (cL w ags i) (cL w ags (4+i))).1,2⟩) (by simp[scL]) d3 (by simp) rfl rfl;exact run_one (small_ops rfl) h (by simp) rfl
end
theorem lanes13(kd:Int)(sh:Int×Int)(vals:List Int)(hk:0≤kd∧kd<256)(h1:0≤sh.1∧sh.1<256)(h2:0≤sh.2∧sh.2<256)(hv:∀ x∈vals,u64 x):Db kd sh vals=some true:=by
 have e1:Int.tmod (Ao kd) 8=kd % 8:=by rw[w_u8 hk,Int.tmod_eq_emod_of_nonneg hk.1]
 have e2:Int.tmod (Ao sh.1) 3=sh.1 % 3:=by rw[w_u8 h1,Int.tmod_eq_emod_of_nonneg h1.1]
 have e3:Int.tmod (Ao sh.2) 4=sh.2 % 4:=by rw[w_u8 h2,Int.tmod_eq_emod_of_nonneg h2.1]
 obtain⟨i,hi⟩:=Int.eq_ofNat_of_zero_le (show 0≤sh.2 % 4 by omega)
 have hi4:i<4:=by omega
 have q1:Au (kd % 8) ([1,2,3,5,6,7,8,9]:List Int).length:=⟨by omega,by simp;omega⟩;have q2:Au (sh.1 % 3) ([8,16,32]:List Int).length:=⟨by omega,by simp;omega⟩;have m1:([1,2,3,5,6,7,8,9]:List Int).getD (kd % 8).toNat 0∈ksL:=G5 (l:=[1,2,3,5,6,7,8,9]) (show(kd % 8).toNat<8 by omega);have m2:([8,16,32]:List Int).getD (sh.1 % 3).toNat 0∈([8,16,32]:List Int):=G5 (show(sh.1 % 3).toNat<3 by omega);unfold Db;rw[awake13,Option.bind_some,Bool.not_true,cond_false,e1,e2,e3,hi,Ba q1,Ba q2,m_New_ok (by simp),Option.bind_some,cond_true]
 generalize ([1,2,3,5,6,7,8,9]:List Int).getD (kd % 8).toNat 0=k at *
 generalize ([8,16,32]:List Int).getD (sh.1 % 3).toNat 0=w at *
 rw[wu64_of (show(0:Int)≤(i:Int) by omega) (by omega),w64_of (show -9223372036854775808≤1+(i:Int) by omega) (by omega),w64_of (show -9223372036854775808≤5+(i:Int) by omega) (by omega)];have hal:(Xk 8 (0:Int) vals).length=8:=padN_len
 have ha:∀ x∈Xk 8 (0:Int) vals,u64 x:=fun x hx=>by
  unfold Xk at hx;obtain⟨j,_,rfl⟩:=List.mem_map.1 hx;rcases Nat.lt_or_ge j vals.length with hj|hj
  ·exact hv _ (G5 hj)
  ·rw[List.getD_eq_getElem?_getD,List.getElem?_eq_none hj];exact⟨by decide,by decide⟩
 have r1:=run_fL m2 m1 hi4 hal ha;have r2:=run_gL m2 m1 hi4 hal ha;obtain⟨_,hck,_⟩:=okL_of m2 m1 hi4;unfold fL at r1 hck;unfold scL at r2;rw[show((false:Bool)==false)=true from rfl,cond_true,hck,Option.bind_some,show((0:Int)!=0)=false from rfl,cond_false]
 dsimp only
 rw[r1,Option.bind_some,Ba rfl,r2,Option.bind_some,Ba rfl]
 simp
theorem wf_u64{n:Int}(h:(Lit.int .u64 n).wf=true):0≤n∧n<18446744073709551616:=by simp[Lit.wf,IntKind.min,IntKind.max,IntKind.bits,IntKind.signed]at h;omega
theorem wf_u8{n:Int}(h:(Lit.int .u8 n).wf=true):0≤n∧n<256:=by simp[Lit.wf,IntKind.min,IntKind.max,IntKind.bits,IntKind.signed]at h;omega
theorem okWide_array{P:Program}{w:World}{r:Reach}{base:Nat}{t:TypeId}{v:Value}{n:Nat}{e:TypeId}(ht:P.underlying t=some (.array n e))(h:Value.okWide P w r base t v):∃ cs,v = .agg cs∧True:=by
 simp only[Value.okWide,ht]at h;obtain⟨cs,h1,_⟩:=h;exact⟨cs,h1,trivial⟩
abbrev Iall(w:World):Nat→Nat→Prop:=fun b o=>∃ u,w.cell? ⟨b,o,none⟩=some u
structure X8(w:World)(cs:List Value)(avs:List AV):Prop where
 len:cs.length=avs.length
 one:∀ j,j<avs.length→(cs.getD j undef).oneCell'=true
 rep:∀ j,j<avs.length→RepV (Iall w) w (cs.getD j undef) (avs.getD j .any)
structure Opens(P:Program)(t:TypeId){α:Type}(e:α→List AV)(ok:α→Prop):Prop where
 get:∀{H:Type} {enc:TypeId×Value→H} {w:World} {base:Nat} {spare:Nat→Bool} {held:Bool} {fuel:Nat} {cs:List Value} {x:DataW H×List MemPlace},
  DataW.trod enc P w base spare held fuel t cs=some x→∃ a,ok a∧X8 w cs (e a)
theorem crep_one{w:World}{v:Value}{x:AV}(h1:v.oneCell'=true)(h:RepV (Iall w) w v x):X8 w [v] [x]:=
 ⟨rfl,fun j hj=>(by
   have hj0:j=0:=by simpa using hj
   subst hj0
   exact h1),fun j hj=>(by
   have hj0:j=0:=by simpa using hj
   subst hj0
   exact h)⟩
theorem opens_int{P:Program}{t:TypeId}{k:IntKind}{e:Int→List AV}(ht:P.underlying t=some (.int k))(he:∀ n,e n=[.int k n]):Opens P t e (fun n=>(Lit.int k n).wf=true):=by
 refine⟨?_⟩;intro H enc w base spare held fuel cs x h;obtain⟨n,rfl,rfl,hw⟩:=DataW.trod_int ht h;exact⟨n,hw,by rw[he];exact crep_one rfl (.int _ _)⟩
theorem crep_two{w:World}{c d:Value}{l m:List AV}(h:X8 w [c] l)(k:X8 w [d] m):X8 w [c,d] (l++m):=by
 have h1:l.length=1:=h.len.symm;have k1:m.length=1:=k.len.symm;refine⟨by simp[h1,k1],fun j hj=>?_,fun j hj=>?_⟩
 ·have hj':j<2:=by simp[h1,k1]at hj;omega
  by_cases h0:j=0
  ·subst h0;exact h.one 0 (by omega)
  ·obtain rfl:j=1:=by omega
   exact k.one 0 (by omega)
 ·have hj':j<2:=by simp[h1,k1]at hj;omega
  by_cases h0:j=0
  ·subst h0;have:=h.rep 0 (by omega);rwa[List.getD_eq_getElem?_getD (l:=l++m),List.getElem?_append_left (by omega),← List.getD_eq_getElem?_getD]
  ·obtain rfl:j=1:=by omega
   have:=k.rep 0 (by omega);rw[List.getD_eq_getElem?_getD (l:=l++m),List.getElem?_append_right (by omega),h1,← List.getD_eq_getElem?_getD];exact this
theorem opens_array2{P:Program}{t el:TypeId}{α:Type}{e:α→List AV}{ok:α→Prop}{e':α×α→List AV}(ht:P.underlying t=some (.array 2 el))(htc:P.cellsOf t=2)(hs:P.cellsOf el=1)(he:Opens P el e ok)(he':∀ p,e' p=e p.1++e p.2) :
  Opens P t e' (fun p=>ok p.1∧ok p.2):=by
 refine⟨?_⟩;intro H enc w base spare held fuel cs x h;obtain⟨xs,n,_,_,hcl,hxl,hall⟩:=DataW.trod_array ht h;rw[htc]at hcl
 match cs,hcl,hall with
 | [c0,c1],_,hall=>
  have h0:=hall 0 (by omega);have h1:=hall 1 (by omega);rw[hs,List.getElem?_eq_getElem (by omega)]at h0 h1;obtain⟨a,ha,hra⟩:=he.get h0;obtain⟨b,hb,hrb⟩:=he.get h1;exact⟨(a,b),⟨ha,hb⟩,by rw[he'];exact crep_two hra hrb⟩
structure OpensF(P:Program)(fs:List Field)(off N:Nat){α:Type}(e:α→List AV)(ok:α→Prop):Prop where
 get:∀{H:Type} {enc:TypeId×Value→H} {w:World} {base:Nat} {spare:Nat→Bool} {held:Bool} {n:Nat} {cs:List Value},cs.length=N→
  (∀ f∈fs,∃ x,DataW.trod enc P w base spare held n f.type ((cs.drop f.offset).take (P.cellsOf f.type))=some x)→∃ a,ok a∧X8 w (cs.drop off) (e a)
theorem Opens.to{P:Program}{t:TypeId}{α β:Type}{e:α→List AV}{ok:α→Prop}(h:Opens P t e ok){e':β→List AV}{ok':β→Prop}(g:α→β)(he:∀ a,e' (g a)=e a)(hok:∀ a,ok a→ok' (g a)):Opens P t e' ok':=by
 refine⟨?_⟩;intro H enc w base spare held fuel cs x hx;obtain⟨a,ha,hr⟩:=h.get hx;exact⟨g a,hok a ha,by rw[he];exact hr⟩
theorem arg_one{P:Program}{t:TypeId}{α:Type}{e:α→List AV}{ok:α→Prop}(h:Opens P t e ok){x:α→AV}(he:∀ a,e a=[x a]){H:Type}{enc:TypeId×Value→H}{w:World}{base:Nat}{spare:Nat→Bool}{held:Bool}{v:Value}{d:DataW H}{ps:List MemPlace}
  (hv:v.cells = #[v]) (hd:DataW.Trod enc P w base spare held t v d ps):∃ a,ok a∧RepV (Iall w) w v (x a):=by
 obtain⟨fuel,hf⟩:=hd;obtain⟨a,ha,hr⟩:=h.get hf;refine⟨a,ha,?_⟩;have:=hr.rep 0 (by simp[he])
 simpa [hv,he] using this
theorem arg_agg{P:Program}{t:TypeId}{α:Type}{e:α→List AV}{ok:α→Prop}(h:Opens P t e ok){H:Type}{enc:TypeId×Value→H}{w:World}{base:Nat}{spare:Nat→Bool}{held:Bool}{cs:Array Value}{d:DataW H}{ps:List MemPlace}
  (hd:DataW.Trod enc P w base spare held t (.agg cs) d ps):∃ a,ok a∧RepV (Iall w) w (.agg cs) (.agg (e a)):=by
 obtain⟨fuel,hf⟩:=hd;obtain⟨a,ha,hr⟩:=h.get hf;have e1:(Value.agg cs).cells.toList=cs.toList:=rfl;rw[e1]at hr
 have e2:∀ j,cs.toList.getD j undef=cs.getD j undef:=fun j=>by simp[Array.getD_eq_getD_getElem?,List.getD]
 refine⟨a,ha,.agg _ _ (by simpa using hr.len) (fun j hj=>?_) (fun j hj=>?_)⟩
 ·rw[← e2];exact hr.one j hj
 ·rw[← e2];exact hr.rep j hj
theorem crep_nil{w:World}:X8 w [] []:=⟨rfl,fun j hj=>by simp at hj,fun j hj=>by simp at hj⟩
theorem crep_cons{w:World}{c:Value}{cs:List Value}{l m:List AV}(h:X8 w [c] l)(k:X8 w cs m):X8 w (c::cs) (l++m):=by
 obtain⟨y,rfl⟩:∃ y,l=[y]:=List.length_eq_one_iff.1 h.len.symm;refine⟨by simp[k.len],fun j hj=>?_,fun j hj=>?_⟩
 ·cases j with
  | zero=>exact h.one 0 (by simp)
  | succ j=>exact k.one j (by simpa using hj)
 ·cases j with
  | zero=>exact h.rep 0 (by simp)
  | succ j=>exact k.rep j (by simpa using hj)
theorem crep_all{w:World}{α:Type}{e:α→List AV}{ok:α→Prop}:∀(cs:List Value),(∀ i (hi:i<cs.length),∃ a,ok a∧X8 w [cs[i]] (e a))→∃ l:List α,l.length=cs.length∧(∀ a∈l,ok a)∧X8 w cs (l.flatMap e)
 | [],_=>⟨[],rfl,by simp,crep_nil⟩
 | c::cs,h=>by
  obtain⟨a,ha,hr⟩:=h 0 (by simp)
  obtain⟨l,hl,hall,hrl⟩:=crep_all cs (fun i hi=>by
   have:=h (i+1) (by simpa using hi)
   simpa using this)
  refine⟨a::l,by simp[hl],fun b hb=>?_,?_⟩
  ·rcases List.mem_cons.1 hb with rfl|hb
   ·exact ha
   ·exact hall b hb
  ·rw[List.flatMap_cons];exact crep_cons hr hrl
theorem opens_array{P:Program}{t el:TypeId}{N:Nat}{α β:Type}{e:α→List AV}{ok:α→Prop}{e':β→List AV}{ok':β→Prop}(ht:P.underlying t=some (.array N el))(htc:P.cellsOf t=N)(hs:P.cellsOf el=1)(he:Opens P el e ok)
  (g:List α→β) (he':∀ l,l.length=N→(∀ a∈l,ok a)→ok' (g l)∧e' (g l)=l.flatMap e):Opens P t e' ok':=by
 refine⟨?_⟩;intro H enc w base spare held fuel cs x h;obtain⟨xs,n,_,_,hcl,hxl,hall⟩:=DataW.trod_array ht h;rw[htc]at hcl
 obtain⟨l,hl,hok,hr⟩:=crep_all (w:=w) (e:=e) (ok:=ok) cs (fun i hi=>by
  have h0:=hall i (by omega);rw[hs,List.getElem?_eq_getElem (by omega),Nat.mul_one]at h0;obtain⟨a,ha,hra⟩:=he.get h0;refine⟨a,ha,?_⟩
  rwa[List.drop_eq_getElem_cons hi,List.take_succ_cons,List.take_zero]at hra)
 obtain⟨h1,h2⟩:=he' l (hl.trans hcl) hok;exact⟨g l,h1,by rw[h2];exact hr⟩
def okU8(n:Int):Prop:=(Lit.int .u8 n).wf=true
theorem op_5:Opens Tryz.prog 5 Dx okU8:=opens_int Tryz.underlying5 (fun _=>rfl)
def okA2U8(p:(Int×Int)):Prop:=okU8 p.1∧okU8 p.2
theorem op_62:Opens Tryz.prog 62 eA2U8 okA2U8:=opens_array2 Tryz.underlying62 (by kernel_rfl) (by kernel_rfl) op_5 (fun _=>rfl)
def okU64(n:Int):Prop:=(Lit.int .u64 n).wf=true
theorem op_37:Opens Tryz.prog 37 Bk okU64:=opens_int Tryz.underlying37 (fun _=>rfl)
def okA8U64(p:List (Int)):Prop:=p.length=8∧(∀ a∈p,okU64 a)
theorem op_63:Opens Tryz.prog 63 eA8U64 okA8U64:=opens_array Tryz.underlying63 (by kernel_rfl) (by kernel_rfl) op_37 id (fun l hl h=>by
 match l,hl,h with
 | [y0,y1,y2,y3,y4,y5,y6,y7],hl,h=>exact⟨⟨hl,h⟩,rfl⟩)
end
end Go.Proofs.YtemgdalocjcbhaaGreat
