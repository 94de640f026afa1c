/-
  The machine, the program's functions and the laws' arithmetic: part 6 of 7.
-/
import Derived.Test.YtggpeloimmlkgaaGreatPk5
import Derived.Lib.RowBridge
import Derived.OpenShut
import Derived.ShutString
set_option linter.unusedVariables false
set_option linter.unusedSimpArgs false
namespace Go.Proofs.YtggpeloimmlkgaaGreat
noncomputable section
open Go Go.RowKit
theorem Gk{α X:Type}(l:List α)(d:α)(p:α→Bool)(f:Int→Option (LR Int X))(yes no:X)(hn:∀ i:Nat,i<l.length→p (l.getD i d)=true→f i=some (.next ((i:Int)+1)))
  (hf:∀ i:Nat,i<l.length→p (l.getD i d)=false→f i=some (.done no)) (he:f l.length=some (.done yes)):∀(k i:Nat),i+k=l.length→Ah f i=some (bif (l.drop i).all p then yes else no)
 | 0,i,h=>by
  obtain rfl:i=l.length:=by omega
  rw[Ao he]
  simp
 | k+1,i,h=>by
  have hi:i<l.length:=by omega
  have hd:l.drop i=l.getD i d::l.drop (i+1):=by rw[List.drop_eq_getElem_cons hi,Ai _ _ _ hi]
  cases hp:p (l.getD i d) with
  | true=>
   rw[Aw (hn i hi hp)];have:=Gk l d p f yes no hn hf he k (i+1) (by omega);rw[show((i:Int)+1)=((i+1:Nat):Int) by omega,this,hd,List.all_cons,hp,Bool.true_and]
  | false=>
   rw[Ao (hf i hi hp),hd,List.all_cons,hp,Bool.false_and,cond_false]
theorem Aak{α X:Type}(n:Nat)(g:Nat→α)(f:List α×Int→Option (LR (List α×Int) X))(out:List α→X)(hn:∀(l:List α) (i:Nat),i<n→l.length=i→f (l,(i:Int))=some (.next (l++[g i],(i:Int)+1)))
  (he:∀ l:List α,l.length=n→f (l,(n:Int))=some (.done (out l))):∀(k i:Nat) (l:List α),i+k=n→l=(List.range i).map g→Ah f (l,(i:Int))=some (out ((List.range n).map g))
 | 0,i,l,h,hl=>by
  obtain rfl:i=n:=by omega
  subst hl;exact Ao (he _ (by simp))
 | k+1,i,l,h,hl=>by
  subst hl;rw[Aw (hn _ i (by omega) (by simp)),show((i:Int)+1)=((i+1:Nat):Int) by omega];exact Aak n g f out hn he k (i+1) _ (by omega) (by simp[List.range_succ])
theorem V9{α:Type}(l:List α)(d:α)(wt:α→Nat)(C:Nat)(f:Int×Int→Option (LR (Int×Int) Int))
  (hn:∀(n i:Nat),i<l.length→n≤C→∃ m:Nat,f ((n:Int),(i:Int))=some (.next ((m:Int),((i+1:Nat):Int)))∧(n+wt (l.getD i d)≤C→m=n+wt (l.getD i d))∧(m≤C→n+wt (l.getD i d)≤C))
  (hd:∀(n i:Nat),i≤l.length→(i=l.length∨C<n)→f ((n:Int),(i:Int))=some (.done (n:Int))) :
  ∀(k i n:Nat),i+k=l.length→∃ m:Nat,Ah f ((n:Int),(i:Int))=some (m:Int)∧(n+((l.drop i).map wt).sum≤C→m=n+((l.drop i).map wt).sum)∧(m≤C→n+((l.drop i).map wt).sum≤C)
 | 0,i,n,h=>by
  obtain rfl:i=l.length:=by omega
  refine⟨n,Ao (hd n _ (Nat.le_refl _) (.inl rfl)),?_,?_⟩
  ·simp
  ·simp
 | k+1,i,n,h=>by
  have hi:i<l.length:=by omega
  have hdr:l.drop i=l.getD i d::l.drop (i+1):=by rw[List.drop_eq_getElem_cons hi,Ai _ _ _ hi]
  by_cases hC:n≤C
  ·obtain⟨m,h1,h2,h3⟩:=hn n i hi hC;obtain⟨m',h4,h5,h6⟩:=V9 l d wt C f hn hd k (i+1) m (by omega);refine⟨m',by rw[Aw h1];exact h4,fun hle=>?_,fun hle=>?_⟩
   ·rw[hdr,List.map_cons,List.sum_cons]at hle ⊢;have:=h2 (by omega);subst this;rw[h5 (by omega)];omega
   ·rw[hdr,List.map_cons,List.sum_cons];have h7:=h6 hle;have h8:=h3 (by omega);have:=h2 h8;omega
  ·refine⟨n,Ao (hd n i (by omega) (.inr (by omega))),fun hle=>by omega,fun hle=>by omega⟩
theorem Qm{X:Type}(N:Nat)(f:Int×Int→Option (LR (Int×Int) X))(hn:∀(n:Int) (i:Nat),i<N→(∃ m:Int,f (n,(i:Int))=some (.next (m,((i+1:Nat):Int))))∨∃ x,f (n,(i:Int))=some (.done x))(hd:∀ n:Int,∃ x,f (n,(N:Int))=some (.done x)) :
  ∀(k i:Nat) (n:Int),i+k=N→∃ x,Ah f (n,(i:Int))=some x
 | 0,i,n,h=>by
  obtain rfl:i=N:=by omega
  obtain⟨x,hx⟩:=hd n;exact⟨x,Ao hx⟩
 | k+1,i,n,h=>by
  rcases hn n i (by omega) with⟨m,hm⟩|⟨x,hx⟩
  ·obtain⟨x,hx⟩:=Qm N f hn hd k (i+1) m (by omega);exact⟨x,by rw[Aw hm];exact hx⟩
  ·exact⟨x,Ao hx⟩
theorem W8{α X:Type}(l:List α)(d:α)(wt:α→Nat)(out:Int→X)(f:Int×Int→Option (LR (Int×Int) X))
  (hn:∀(n i:Nat),i<l.length→f (w64 n,(i:Int))=some (.next (w64 ((n+wt (l.getD i d):Nat):Int),((i+1:Nat):Int)))) (hd:∀ n:Int,f (n,(l.length:Int))=some (.done (out n))) :
  ∀(k i n:Nat),i+k=l.length→Ah f (w64 n,(i:Int))=some (out (w64 ((n+((l.drop i).map wt).sum:Nat):Int)))
 | 0,i,n,h=>by
  obtain rfl:i=l.length:=by omega
  rw[Ao (hd _)]
  simp
 | k+1,i,n,h=>by
  have hi:i<l.length:=by omega
  have hdr:l.drop i=l.getD i d::l.drop (i+1):=by rw[List.drop_eq_getElem_cons hi,Ai _ _ _ hi]
  rw[Aw (hn n i hi),W8 l d wt out f hn hd k (i+1) _ (by omega),hdr,List.map_cons,List.sum_cons,Nat.add_assoc]
theorem Wv(a b:Int):w64 (w64 a+b)=w64 (a+b):=by
 show IntKind.i64.wrap (IntKind.i64.wrap a+b)=IntKind.i64.wrap (a+b)
 simp only[IntKind.wrap,IntKind.bits,IntKind.signed]
 simp
 split<;>split<;>omega
theorem As{α:Type}{l:List α}{i:Nat}{d:α}(h:i<l.length):l.getD i d∈l:=by rw[Ai _ _ _ h];exact List.getElem_mem h
theorem Ap{i n:Nat}(h:i<n):Bb (i:Int) n:=⟨by omega,by exact_mod_cast h⟩
theorem A4{i n:Nat}(h:i<n)(hn:n<9223372036854775808):w64 ((i:Int)+1)=(i:Int)+1:=Iv (by omega) (by omega)
def good31(l:List Int):Prop:=∀ x∈l,0≤x∧x≤2147483647
set_option maxRecDepth 100000
structure OpOk(o:Dv):Prop where
 imm:0≤o.Imm∧o.Imm<18446744073709551616
 args:o.Args.length≤200
theorem repeat_one(x:Int×Int)(n:Int)(h:n=2∨n=4∨n=8∨n=16):Bp [x] n=some (List.replicate n.toNat x):=by
 let d:Int×Int:=(0,0)
 rcases h with rfl|rfl|rfl|rfl
 ·have e:Bp [x] 2=(Ah Cg (1,[x,d])).bind some:=by kernel_rfl
  rw[e,Aw (s':=(2,[x,x])) (by kernel_rfl),Ao (x:=[x,x]) (by kernel_rfl)]
  rfl
 ·have e:Bp [x] 4=(Ah Cg (1,[x,d,d,d])).bind some:=by kernel_rfl
  rw[e,Aw (s':=(2,[x,x,d,d])) (by kernel_rfl),Aw (s':=(4,[x,x,x,x])) (by kernel_rfl),Ao (x:=[x,x,x,x]) (by kernel_rfl)]
  rfl
 ·have e:Bp [x] 8=(Ah Cg (1,[x,d,d,d,d,d,d,d])).bind some:=by kernel_rfl
  rw[e,Aw (s':=(2,[x,x,d,d,d,d,d,d])) (by kernel_rfl),Aw (s':=(4,[x,x,x,x,d,d,d,d])) (by kernel_rfl),Aw (s':=(8,[x,x,x,x,x,x,x,x])) (by kernel_rfl),
   Ao (x:=[x,x,x,x,x,x,x,x]) (by kernel_rfl)]
  rfl
 ·have e:Bp [x] 16=(Ah Cg (1,[x,d,d,d,d,d,d,d,d,d,d,d,d,d,d,d])).bind some:=by kernel_rfl
  rw[e,Aw (s':=(2,[x,x,d,d,d,d,d,d,d,d,d,d,d,d,d,d])) (by kernel_rfl),Aw (s':=(4,[x,x,x,x,d,d,d,d,d,d,d,d,d,d,d,d])) (by kernel_rfl),
   Aw (s':=(8,[x,x,x,x,x,x,x,x,d,d,d,d,d,d,d,d])) (by kernel_rfl),Aw (s':=(16,List.replicate 16 x)) (by kernel_rfl),Ao (x:=List.replicate 16 x) (by kernel_rfl)]
  rfl
theorem kind_row(l:List (Int×Int)):G0 l=some l:=rfl
theorem Aag(o:Dv)(hs:Qk o.Bits o.Lanes=true)(hk:isK o.Kind=true)(hf:sfitS o.Kind o.Bits o.Lanes=true):K1 o=some (Rh o):=by
 have hl:=Nq hs;obtain⟨k,b,n,d,args,i⟩:=o;simp only at hs hk hf hl ⊢;rcases kinds k with rfl|rfl|rfl|rfl|rfl|rfl|rfl|rfl|rfl|rfl|rfl|rfl|rfl|rfl|rfl|rfl|rfl|rfl|rfl|rfl|rfl|rfl|rfl|h
 case inr.inr.inr.inr.inr.inr.inr.inr.inr.inr.inr.inr.inr.inr.inr.inr.inr.inr.inr.inr.inr.inl=>
  have h1:n≠1:=by rintro rfl;simp[sfitS]at hf
  have h4:n=2∨n=4∨n=8∨n=16:=by omega
  unfold K1;rw[show(((21:Int))==21)=true from rfl];simp only[repeat_one _ _ h4,kind_row,Option.bind_some];rcases h4 with rfl|rfl|rfl|rfl<;>rfl
 all_goals first
  | rfl
  | (rw[V6 h]at hk;cases hk)
  | (rcases hl with rfl|rfl|rfl|rfl|rfl<;>first|rfl|(simp[sfitS]at hf))
theorem kind_argsFit(o:Dv)(hs:Qk o.Bits o.Lanes=true)(hk:isK o.Kind=true)(hf:sfitS o.Kind o.Bits o.Lanes=true)(hl:o.Args.length≤200):Kj o=some (((o.Args.length:Int)==Lo o.Kind o.Lanes)&&o.Args.all valS):=by
 unfold Kj;rw[Aag o hs hk hf]
 have hn:0≤Lo o.Kind o.Lanes:=by
  have:=Nq hs;unfold Lo
  cases(o.Kind==0)<;>cases(o.Kind==13 || o.Kind==18 || o.Kind==19)<;>cases(o.Kind==14 || o.Kind==15 || o.Kind==16 || o.Kind==22)<;>cases(o.Kind==20)<;>cases(o.Kind==21)<;>simp<;>omega
 have hlen:((Rh o).length:Int)=Lo o.Kind o.Lanes:=by simp[Rh];omega
 simp only[Option.bind_some,hlen]
 by_cases he:(o.Args.length:Int)=Lo o.Kind o.Lanes
 ·have e1:((o.Args.length:Int)==Lo o.Kind o.Lanes)=true:=by simpa using he
  have e2:((o.Args.length:Int)!=Lo o.Kind o.Lanes)=false:=by simpa using he
  rw[e1,e2,cond_false]
  have hloop:=Gk o.Args (0:Int) valS (Hm o) (.inl ()) (.inr false) (fun i hi hp=>by
    unfold Hm
    have:decide ((i:Int)<(o.Args.length:Int))=true:=by simpa using hi
    simp only[this,cond_true,Af (Ap hi),Int.toNat_natCast,Qj,Option.bind_some,hp,Bool.not_true,cond_false,A4 hi (by omega)]) (fun i hi hp=>by
    unfold Hm
    have:decide ((i:Int)<(o.Args.length:Int))=true:=by simpa using hi
    simp only[this,cond_true,Af (Ap hi),Int.toNat_natCast,Qj,Option.bind_some,hp,Bool.not_false]) (by
    unfold Hm
    simp) o.Args.length 0 (by omega)
  rw[show(0:Int)=((0:Nat):Int) from rfl,hloop,List.drop_zero]
  cases o.Args.all valS<;>rfl
 ·have e1:((o.Args.length:Int)==Lo o.Kind o.Lanes)=false:=by simpa using he
  have e2:((o.Args.length:Int)!=Lo o.Kind o.Lanes)=true:=by simpa using he
  rw[e1,e2];rfl
theorem gives_zero{k b n:Int}(hs:Qk b n=true):((Vg k b n).1==0)=(k==17 || k==19):=by
 have hb:(b==0)=false:=by
  have:=width_cases (Tx hs);simp;omega
 unfold Vg
 cases(k==17 || k==19)<;>cases(k==10 || k==11 || k==12)<;>cases(k==22)<;>simp_all
theorem kind_dstFits(o:Dv)(hs:Qk o.Bits o.Lanes=true):Kk o=some (dstS o.Kind o.Dst):=by
 unfold Kk;simp only[Aae,Option.bind_some,gives_zero hs,Qj,dstS]
 cases(o.Kind==17 || o.Kind==19)<;>rfl
theorem Aad(o:Dv)(ho:OpOk o):Lw o=some (J9 o):=by
 unfold Lw J9;simp only[kind_isKind,kind_Shape,Aaf,Option.bind_some]
 cases hs:Qk o.Bits o.Lanes with
 | false=>cases isK o.Kind<;>rfl
 | true=>
  have hl:=Nq hs
  cases hk:isK o.Kind with
  | false=>rfl
  | true=>
   rw[kind_immFits o (Tx hs) (by omega) ho.imm];simp only[kind_dstFits o hs]
   cases hf:sfitS o.Kind o.Bits o.Lanes with
   | false=>rfl
   | true=>
    rw[kind_argsFit o hs hk hf ho.args]
    generalize ifitS o.Kind o.Bits o.Lanes o.Imm=p
    generalize ((o.Args.length:Int)==Lo o.Kind o.Lanes)=q
    generalize o.Args.all valS=r
    generalize dstS o.Kind o.Dst=s
    cases p<;>cases q<;>cases r<;>cases s<;>rfl
theorem ref_Args(o:Dv):G9 o=some (bif isK o.Kind then Lo o.Kind o.Lanes else -1):=by
 obtain⟨k,b,n,d,args,i⟩:=o;rcases kinds k with rfl|rfl|rfl|rfl|rfl|rfl|rfl|rfl|rfl|rfl|rfl|rfl|rfl|rfl|rfl|rfl|rfl|rfl|rfl|rfl|rfl|rfl|rfl|h
 any_goals rfl
 unfold G9;simp[out_ne h,V6 h]
theorem ref_May(o:Dv)(ho:OpOk o):E4 o=some (J9 o):=by
 unfold E4 J9;simp only[ref_Shape,Option.bind_some]
 cases hs:Qk o.Bits o.Lanes with
 | false=>rfl
 | true=>
  simp only[ref_Args,Bool.not_true,beq_self_eq_true,cond_true,cond_false,Option.bind_some]
  cases hk:isK o.Kind with
  | false=>
   have:((-1:Int)!=(o.Args.length:Int))=true:=by simp
   simp[this]
  | true=>
   simp only[cond_true];rw[ref_Fits o hs hk ho.imm]
   by_cases he:(o.Args.length:Int)=Lo o.Kind o.Lanes
   ·have e1:((o.Args.length:Int)==Lo o.Kind o.Lanes)=true:=by simpa using he
    have e2:(Lo o.Kind o.Lanes !=(o.Args.length:Int))=false:=by simpa using he.symm
    rw[e1,e2]
    have hloop:=Gk o.Args (0:Int) valS (Ex o) (.inl ()) (.inr false) (fun i hi hp=>by
      unfold Ex
      have:decide ((i:Int)<(o.Args.length:Int))=true:=by simpa using hi
      simp only[this,cond_true,Af (Ap hi),Int.toNat_natCast,Uh,Option.bind_some,hp,Bool.not_true,cond_false,A4 hi (by have:=ho.args;omega)]) (fun i hi hp=>by
      unfold Ex
      have:decide ((i:Int)<(o.Args.length:Int))=true:=by simpa using hi
      simp only[this,cond_true,Af (Ap hi),Int.toNat_natCast,Uh,Option.bind_some,hp,Bool.not_false]) (by
      unfold Ex
      simp) o.Args.length 0 (by omega)
    rw[show(0:Int)=((0:Nat):Int) from rfl,hloop,List.drop_zero];simp only[Uh,Option.bind_some,dstS]
    generalize sfitS o.Kind o.Bits o.Lanes=p
    generalize ifitS o.Kind o.Bits o.Lanes o.Imm=q
    generalize o.Args.all valS=r
    cases p<;>cases q<;>cases r<;>cases(o.Kind==17)<;>cases(o.Kind==19)<;>rfl
   ·have e1:((o.Args.length:Int)==Lo o.Kind o.Lanes)=false:=by simpa using he
    have e2:(Lo o.Kind o.Lanes !=(o.Args.length:Int))=true:=by simpa using Ne.symm he
    rw[e1,e2]
    cases sfitS o.Kind o.Bits o.Lanes<;>cases ifitS o.Kind o.Bits o.Lanes o.Imm<;>rfl
theorem may_all{o:Dv}(h:J9 o=true):Qk o.Bits o.Lanes=true∧isK o.Kind=true∧sfitS o.Kind o.Bits o.Lanes=true∧ifitS o.Kind o.Bits o.Lanes o.Imm=true∧(o.Args.length:Int)=Lo o.Kind o.Lanes∧o.Args.all valS=true∧dstS o.Kind o.Dst=true:=by
 simp only[J9,Bool.and_eq_true,beq_iff_eq]at h;exact⟨h.1.1,h.1.2.1.1.1,h.1.2.1.1.2,h.1.2.1.2,h.1.2.2,h.2.1,h.2.2⟩
theorem kind_Takes(o:Dv)(ho:OpOk o):Kz o=some (bif J9 o then Rh o else[]):=by
 unfold Kz;rw[Aad o ho];simp only[Option.bind_some]
 cases hm:J9 o with
 | false=>rfl
 | true=>
  obtain⟨h1,h2,h3,_⟩:=may_all hm;simp only[Aag o h1 h2 h3,Option.bind_some]
  rfl
theorem kind_Gives(o:Dv)(ho:OpOk o):Ky o=some (bif J9 o then Vg o.Kind o.Bits o.Lanes else(0,0)):=by
 unfold Ky;rw[Aad o ho];simp only[Option.bind_some,Aae]
 cases J9 o<;>rfl
theorem ref_Gives(o:Dv)(ho:OpOk o):Fa o=some (bif J9 o then Vg o.Kind o.Bits o.Lanes else(0,0)):=by
 unfold Fa;rw[ref_May o ho];simp only[Option.bind_some]
 cases hm:J9 o with
 | false=>rfl
 | true=>
  obtain⟨_,h2,_⟩:=may_all hm;obtain⟨k,b,n,d,args,i⟩:=o;simp only at h2 ⊢;rcases kinds k with rfl|rfl|rfl|rfl|rfl|rfl|rfl|rfl|rfl|rfl|rfl|rfl|rfl|rfl|rfl|rfl|rfl|rfl|rfl|rfl|rfl|rfl|rfl|h
  any_goals rfl
  rw[V6 h]at h2;cases h2
theorem ref_Takes(o:Dv)(ho:OpOk o):Fb o=some (bif J9 o then Rh o else[]):=by
 unfold Fb;rw[ref_May o ho];simp only[Option.bind_some]
 cases hm:J9 o with
 | false=>rfl
 | true=>
  obtain⟨h1,h2,h3,h4,h5,_⟩:=may_all hm
  have hloop:=Aak (X:=List (Int×Int)) o.Args.length (elemS o) (Fg o) id (fun l i hi hl=>by
   unfold Fg
   have e0:decide ((i:Int)<(o.Args.length:Int))=true:=by simpa using hi
   have e1:((i:Int)==0)=Nat.beq i 0:=by cases i<;>rfl
   have e2:((i:Int)==1)=Nat.beq i 1:=by
    rcases i with _|_|i
    ·rfl
    ·rfl
    ·have:¬ (((i+1+1:Nat):Int)=1):=by omega
     simp only[Nat.beq]
     simpa using this
   have hr:l.length+([elemS o i]:List (Int×Int)).length≤room:=by have:=ho.args;simp[room];omega
   simp only[e0,e1,e2,cond_true];have e3:w64 ((i:Int)+1)=(i:Int)+1:=A4 hi (by have:=ho.args;omega);simp only[e3]
   have key:∀(x:Option (Int×Int)),x=some (elemS o i)→(x.bind fun x23=>Ba (l.length+([(x23.1,x23.2)]:List (Int×Int)).length≤room) (some (LR.next (l++([(x23.1,x23.2)]:List (Int×Int)),(i:Int)+1))))=(some (LR.next (l++[elemS o i],(i:Int)+1)):Option (LR (List (Int×Int)×Int) (List (Int×Int)))):=by
    rintro x rfl;exact Af hr
   refine key _ ?_;clear key hr;obtain⟨k,b,n,d,args,im⟩:=o;simp only at h2 ⊢;rcases kinds k with rfl|rfl|rfl|rfl|rfl|rfl|rfl|rfl|rfl|rfl|rfl|rfl|rfl|rfl|rfl|rfl|rfl|rfl|rfl|rfl|rfl|rfl|rfl|h
   all_goals first
    | rfl
    | (rw[V6 h]at h2;cases h2)
    | (rcases i with _|_|i<;>rfl)) (fun l hl=>by
   unfold Fg
   simp) o.Args.length 0 [] (by omega) rfl
  rw[show(0:Int)=((0:Nat):Int) from rfl];simp only[Bool.not_true,cond_false,hloop,Option.bind_some,id];rw[Rh,← h5]
  rfl
abbrev Iall(w:World):Nat→Nat→Prop:=fun b o=>∃ u,w.cell? ⟨b,o,none⟩=some u
structure CRep(w:World)(cs:List Value)(avs:List AV):Prop where
 len:cs.length=avs.length
 one:∀ j,j<avs.length→(cs.getD j undef).oneCell'=true
 rep:∀ j,j<avs.length→RepV (Iall w) w (cs.getD j undef) (avs.getD j .any)
structure Opens(P:Program)(t:TypeId){α:Type}(e:α→List AV)(ok:α→Prop):Prop where
 get:∀{H:Type} {enc:TypeId×Value→H} {w:World} {base:Nat} {spare:Nat→Bool} {held:Bool} {fuel:Nat} {cs:List Value} {x:DataW H×List MemPlace},
  DataW.trod enc P w base spare held fuel t cs=some x→∃ a,ok a∧CRep w cs (e a)
theorem crep_one{w:World}{v:Value}{x:AV}(h1:v.oneCell'=true)(h:RepV (Iall w) w v x):CRep w [v] [x]:=
 ⟨rfl,fun j hj=>(by
   have hj0:j=0:=by simpa using hj
   subst hj0
   exact h1),fun j hj=>(by
   have hj0:j=0:=by simpa using hj
   subst hj0
   exact h)⟩
theorem opens_int{P:Program}{t:TypeId}{k:IntKind}{e:Int→List AV}(ht:P.underlying t=some (.int k))(he:∀ n,e n=[.int k n]):Opens P t e (fun n=>(Lit.int k n).wf=true):=by
 refine⟨?_⟩;intro H enc w base spare held fuel cs x h;obtain⟨n,rfl,rfl,hw⟩:=DataW.trod_int ht h;exact⟨n,hw,by rw[he];exact crep_one rfl (.int _ _)⟩
structure OpensF(P:Program)(fs:List Field)(off N:Nat){α:Type}(e:α→List AV)(ok:α→Prop):Prop where
 get:∀{H:Type} {enc:TypeId×Value→H} {w:World} {base:Nat} {spare:Nat→Bool} {held:Bool} {n:Nat} {cs:List Value},cs.length=N→
  (∀ f∈fs,∃ x,DataW.trod enc P w base spare held n f.type ((cs.drop f.offset).take (P.cellsOf f.type))=some x)→∃ a,ok a∧CRep w (cs.drop off) (e a)
theorem arg_one{P:Program}{t:TypeId}{α:Type}{e:α→List AV}{ok:α→Prop}(h:Opens P t e ok){x:α→AV}(he:∀ a,e a=[x a]){H:Type}{enc:TypeId×Value→H}{w:World}{base:Nat}{spare:Nat→Bool}{held:Bool}{v:Value}{d:DataW H}{ps:List MemPlace}
  (hv:v.cells = #[v]) (hd:DataW.Trod enc P w base spare held t v d ps):∃ a,ok a∧RepV (Iall w) w v (x a):=by
 obtain⟨fuel,hf⟩:=hd;obtain⟨a,ha,hr⟩:=h.get hf;refine⟨a,ha,?_⟩;have:=hr.rep 0 (by simp[he])
 simpa [hv,he] using this
def okI64(n:Int):Prop:=(Lit.int .i64 n).wf=true
theorem op_3:Opens Tryz.prog 3 Ak okI64:=opens_int Tryz.underlying3 (fun _=>rfl)
def numB(n:Int):Bool:=decide (0≤n)&&decide (n≤2147483647)
def listB(l:List Int):Bool:=l.all numB&&decide (l.length≤64)
def Wk(p:Er):Bool:=numB p.Bits&&numB p.Dst&&listB p.From&&listB p.Args
def opB(o:Dv):Bool:=numB o.Kind&&numB o.Bits&&numB o.Lanes&&numB o.Dst&&listB o.Args
def endB(e:Ga):Bool:=numB e.Kind&&numB e.Arg&&listB e.To
def blockB(b:Ad):Bool:=b.Phis.all Wk&&b.Ops.all opB&&endB b.End
def sizeB(b:Ad):Nat:=b.Phis.length+b.Ops.length+1
def Pc(f:Ab):Nat:=(f.Blocks.map sizeB).sum
def sizeW(f:Ab):Int:=w64 (Pc f)
def Oy(f:Ab):Bool:=decide (1≤f.Blocks.length)&&decide (f.Blocks.length≤64)&&decide (f.Params.length≤16)&&listB f.Params&&numB f.Ret&&decide (sizeW f≤512)&&f.Blocks.all blockB
def entP(p:Er):Nat:=1+p.From.length+p.Args.length
def entO(o:Dv):Nat:=1+o.Args.length
def entB(b:Ad):Nat:=1+b.End.To.length+(b.Phis.map entP).sum+(b.Ops.map entO).sum
def entF(f:Ab):Nat:=f.Params.length+(f.Blocks.map entB).sum
theorem N5:maxLen=9223372036854775807:=rfl
structure InF(f:Ab):Prop where
 params:f.Params.length≤maxLen
 blocks:f.Blocks.length≤maxLen
 block:∀ b∈f.Blocks,b.Phis.length≤maxLen∧b.Ops.length≤maxLen∧b.End.To.length≤maxLen
 phi:∀ b∈f.Blocks,∀ p∈b.Phis,p.From.length≤maxLen∧p.Args.length≤maxLen
 op:∀ b∈f.Blocks,∀ o∈b.Ops,o.Args.length≤maxLen∧0≤o.Imm∧o.Imm<18446744073709551616
theorem Zf{n:Nat}(h:n<9223372036854775808):w64 (n:Int)=n:=Iv (by omega) (by omega)
theorem J1{i n:Nat}(h:i<n)(hn:n≤maxLen):w64 ((i:Int)+1)=((i+1:Nat):Int):=by rw[N5]at hn;rw[show((i:Int)+1)=((i+1:Nat):Int) by omega,Zf (by omega)]
theorem small_some(f:Ab)(hf:InF f):∃ b,Fc f=some b:=by
 have h3:∃ x,Ah (Cd f) ((f.Params.length:Int),((0:Nat):Int))=some x:=by
  refine Qm f.Blocks.length (Cd f) (fun n i hi=>?_) (fun n=>?_) f.Blocks.length 0 _ (Nat.zero_add _)
  ·have hmem:=As (d:=(default:Ad)) hi;obtain⟨b1,b2,_⟩:=hf.block _ hmem;have hI:Bb (i:Int) f.Blocks.length:=Ap hi;unfold Cd
   cases hc:(bif decide ((i:Int)<(f.Blocks.length:Int)) then decide (n≤20000) else false) with
   | false=>right;simp only[hc,cond_false];exact⟨_,rfl⟩
   | true=>
    left
    simp only[hc,cond_true,Af hI]
    obtain⟨x1,h1⟩:=Qm (f.Blocks.getD i default).Phis.length (Cz f i) (fun n j hj=>by
      unfold Cz;simp only[Af hI,Int.toNat_natCast]
      cases hc:(bif decide ((j:Int)<((f.Blocks.getD i default).Phis.length:Int)) then decide (n≤20000) else false) with
      | false=>right;exact⟨_,rfl⟩
      | true=>left;simp only[cond_true,Af (Ap hj),J1 hj b1];exact⟨_,rfl⟩) (fun n=>by
      unfold Cz;simp only[Af hI,Int.toNat_natCast]
      have:decide (((f.Blocks.getD i default).Phis.length:Int)<((f.Blocks.getD i default).Phis.length:Int))=false:=by simp
      simp only[this,cond_false];exact⟨_,rfl⟩) _ 0 (w64 (w64 (n+1)+((f.Blocks.getD i default).End.To.length:Int))) (Nat.zero_add _)
    obtain⟨x2,h2⟩:=Qm (f.Blocks.getD i default).Ops.length (C0 f i) (fun n j hj=>by
      unfold C0;simp only[Af hI,Int.toNat_natCast]
      cases hc:(bif decide ((j:Int)<((f.Blocks.getD i default).Ops.length:Int)) then decide (n≤20000) else false) with
      | false=>right;exact⟨_,rfl⟩
      | true=>left;simp only[cond_true,Af (Ap hj),J1 hj b2];exact⟨_,rfl⟩) (fun n=>by
      unfold C0;simp only[Af hI,Int.toNat_natCast]
      have:decide (((f.Blocks.getD i default).Ops.length:Int)<((f.Blocks.getD i default).Ops.length:Int))=false:=by simp
      simp only[this,cond_false];exact⟨_,rfl⟩) _ 0 x1 (Nat.zero_add _)
    rw[show((0:Nat):Int)=0 from rfl]at h1 h2;simp only[Int.toNat_natCast,h1,h2,Option.bind_some,J1 hi hf.blocks];exact⟨_,rfl⟩
  ·unfold Cd
   have:decide ((f.Blocks.length:Int)<(f.Blocks.length:Int))=false:=by simp
   simp only[this,cond_false];exact⟨_,rfl⟩
 obtain⟨x,hx⟩:=h3;unfold Fc;rw[show((0:Nat):Int)=0 from rfl]at hx;rw[hx];exact⟨_,rfl⟩
theorem small_eq(f:Ab)(hf:InF f)(h0:f.Params.length≤64)(hb:∀ b∈f.Blocks,b.End.To.length≤64∧(∀ p∈b.Phis,p.From.length≤64∧p.Args.length≤64)∧∀ o∈b.Ops,o.Args.length≤64):Fc f=some (decide (entF f≤20000)):=by
 have h3:=V9 f.Blocks (default:Ad) entB 20000 (Cd f) (fun n i hi hn=>by
   have hmem:=As (d:=(default:Ad)) hi;obtain⟨b1,b2,b3⟩:=hf.block _ hmem;obtain⟨hTo,hPh,hOp⟩:=hb _ hmem;have hI1:Bb (i:Int) f.Blocks.length:=Ap hi
   have l1:=V9 (f.Blocks.getD i default).Phis (default:Er) entP 20000 (Cz f i) (fun n j hj hn=>by
     have hm:=As (d:=(default:Er)) hj;obtain⟨p1,p2⟩:=hPh _ hm
     have e1:decide ((j:Int)<((f.Blocks.getD i default).Phis.length:Int))=true:=by simpa using hj
     have e2:decide ((n:Int)≤20000)=true:=by simp;omega
     refine⟨n+entP ((f.Blocks.getD i default).Phis.getD j default),?_,fun _=>rfl,fun h=>h⟩;unfold Cz;simp only[Af hI1,Int.toNat_natCast,e1,e2,cond_true,Af (Ap hj),J1 hj b1]
     congr 3
     rw[Iv (n:=(n:Int)+1) (by omega) (by omega),Iv (n:=(n:Int)+1+_) (by omega) (by omega),Iv (by omega) (by omega)];simp only[entP]
     omega) (fun n j hj hd=>by
     unfold Cz;simp only[Af hI1,Int.toNat_natCast]
     have:(bif decide ((j:Int)<((f.Blocks.getD i default).Phis.length:Int)) then decide ((n:Int)≤20000) else false)=false:=by
      rcases hd with rfl|h
      ·simp
      ·simp;omega
     rw[this];rfl)
   have l2:=V9 (f.Blocks.getD i default).Ops (default:Dv) entO 20000 (C0 f i) (fun n j hj hn=>by
     have hm:=As (d:=(default:Dv)) hj;have p1:=hOp _ hm
     have e1:decide ((j:Int)<((f.Blocks.getD i default).Ops.length:Int))=true:=by simpa using hj
     have e2:decide ((n:Int)≤20000)=true:=by simp;omega
     refine⟨n+entO ((f.Blocks.getD i default).Ops.getD j default),?_,fun _=>rfl,fun h=>h⟩;unfold C0;simp only[Af hI1,Int.toNat_natCast,e1,e2,cond_true,Af (Ap hj),J1 hj b2]
     congr 3
     rw[Iv (n:=(n:Int)+1) (by omega) (by omega),Iv (by omega) (by omega)];simp only[entO]
     omega) (fun n j hj hd=>by
     unfold C0;simp only[Af hI1,Int.toNat_natCast]
     have:(bif decide ((j:Int)<((f.Blocks.getD i default).Ops.length:Int)) then decide ((n:Int)≤20000) else false)=false:=by
      rcases hd with rfl|h
      ·simp
      ·simp;omega
     rw[this];rfl)
   have e1:decide ((i:Int)<(f.Blocks.length:Int))=true:=by simpa using hi
   have e2:decide ((n:Int)≤20000)=true:=by simp;omega
   obtain⟨m1,q1,q2,q3⟩:=l1 _ 0 (n+1+(f.Blocks.getD i default).End.To.length) (Nat.zero_add _);obtain⟨m2,q4,q5,q6⟩:=l2 _ 0 m1 (Nat.zero_add _);rw[List.drop_zero]at q2 q3 q5 q6;refine⟨m2,?_,fun hle=>?_,fun hle=>?_⟩
   ·unfold Cd;simp only[e1,e2,cond_true,Af hI1,Int.toNat_natCast,J1 hi hf.blocks];rw[Iv (n:=(n:Int)+1) (by omega) (by omega),Iv (by omega) (by omega),show(n:Int)+1+((f.Blocks.getD i default).End.To.length:Int)=((n+1+(f.Blocks.getD i default).End.To.length:Nat):Int) by omega];rw[show((0:Nat):Int)=0 from rfl]at q1 q4;rw[q1,Option.bind_some,q4,Option.bind_some]
   ·simp only[entB]at hle ⊢;have:=q2 (by omega);rw[q5 (by omega)];omega
   ·simp only[entB];have h6:=q6 hle;have h3:=q3 (by omega);have:=q2 h3
    omega) (fun n i hi hd=>by
   unfold Cd
   have:(bif decide ((i:Int)<(f.Blocks.length:Int)) then decide ((n:Int)≤20000) else false)=false:=by
    rcases hd with rfl|h
    ·simp
    ·simp;omega
   simp only[this,cond_false]) f.Blocks.length 0 f.Params.length (Nat.zero_add _)
 obtain⟨m,h1,h2,h4⟩:=h3;rw[List.drop_zero]at h2 h4;unfold Fc;rw[show((0:Nat):Int)=0 from rfl]at h1;rw[h1,Option.bind_some]
 congr 1
 apply decide_eq_decide.2
 simp only[entF]
 constructor
 ·intro h;exact h4 (by omega)
 ·intro h;have:=h2 h;omega
theorem Pb(n:Int):Bd n=some (numB n):=by unfold Bd numB;cases decide ((0:Int)≤n)<;>rfl
theorem Nl(l:List Int)(h:l.length≤maxLen):Cv l=some (listB l):=by
 unfold Cv;rw[N5]at h
 have hloop:=Gk l (0:Int) numB (D8 l) (.inl ()) (.inr false) (fun i hi hp=>by
   unfold D8
   have:decide ((i:Int)<(l.length:Int))=true:=by simpa using hi
   simp only[this,cond_true,Af (Ap hi),Int.toNat_natCast,Pb,Option.bind_some,hp,Bool.not_true,cond_false,A4 hi (by omega)]) (fun i hi hp=>by
   unfold D8
   have:decide ((i:Int)<(l.length:Int))=true:=by simpa using hi
   simp only[this,cond_true,Af (Ap hi),Int.toNat_natCast,Pb,Option.bind_some,hp,Bool.not_false]) (by
   unfold D8
   simp) l.length 0 (by omega)
 rw[show(0:Int)=((0:Nat):Int) from rfl,hloop,List.drop_zero];unfold listB
 have e:decide ((l.length:Int)≤64)=decide (l.length≤64):=by apply decide_eq_decide.2;omega
 cases l.all numB
 ·rfl
 ·simp[e]
theorem rsize_eq(f:Ab)(hf:InF f):Ha f=some (sizeW f):=by
 unfold Ha
 have hl:=W8 f.Blocks (default:Ad) sizeB id (Fy f) (fun n i hi=>by
   have e1:decide ((i:Int)<(f.Blocks.length:Int))=true:=by simpa using hi
   unfold Fy;simp only[e1,cond_true,Af (Ap hi),Int.toNat_natCast,J1 hi hf.blocks]
   congr 3
   rw[Wv,Wv,Int.add_assoc (w64 _),Wv];unfold sizeB
   congr 1
   omega) (fun n=>by
   unfold Fy
   simp) f.Blocks.length 0 0 (Nat.zero_add _)
 rw[List.drop_zero]at hl;rw[show w64 ((0:Nat):Int)=0 from rfl,show((0:Nat):Int)=0 from rfl]at hl;rw[hl];simp[Pc,sizeW]
theorem rmay_eq(f:Ab)(hf:InF f):Ge f=some (Oy f):=by
 have hloop:Ah (Ds f) ((0:Nat):Int)=some (bif (f.Blocks.drop 0).all blockB then .inl () else .inr false):=by
  have step:∀ i:Nat,i<f.Blocks.length→Ds f (i:Int)=bif blockB (f.Blocks.getD i default) then some (.next ((i:Int)+1)) else some (.done (.inr false)):=fun i hi=>by
   have hmem:=As (d:=(default:Ad)) hi;obtain⟨b1,b2,b3⟩:=hf.block _ hmem;have hPh:=hf.phi _ hmem;have hOp:=hf.op _ hmem;have hM:=N5
   have e0:decide ((i:Int)<(f.Blocks.length:Int))=true:=by simpa using hi
   have l1:=Gk (f.Blocks.getD i default).Phis (default:Er) Wk (Ey f i) (.inl ()) (.inr false) (fun j hj hp=>by
     obtain⟨p1,p2⟩:=hPh _ (As (d:=(default:Er)) hj)
     have e1:decide ((j:Int)<((f.Blocks.getD i default).Phis.length:Int))=true:=by simpa using hj
     unfold Ey;simp only[e1,cond_true,Int.toNat_natCast,Af (Ap hj),Pb,Option.bind_some,Nl _ p1,Nl _ p2,A4 hj (by omega)]
     revert hp
     unfold Wk
     cases numB ((f.Blocks.getD i default).Phis.getD j default).Bits<;>cases numB ((f.Blocks.getD i default).Phis.getD j default).Dst<;>cases listB ((f.Blocks.getD i default).Phis.getD j default).From<;>cases listB ((f.Blocks.getD i default).Phis.getD j default).Args<;>simp) (fun j hj hp=>by
     obtain⟨p1,p2⟩:=hPh _ (As (d:=(default:Er)) hj)
     have e1:decide ((j:Int)<((f.Blocks.getD i default).Phis.length:Int))=true:=by simpa using hj
     unfold Ey;simp only[e1,cond_true,Int.toNat_natCast,Af (Ap hj),Pb,Option.bind_some,Nl _ p1,Nl _ p2,A4 hj (by omega)]
     revert hp
     unfold Wk
     cases numB ((f.Blocks.getD i default).Phis.getD j default).Bits<;>cases numB ((f.Blocks.getD i default).Phis.getD j default).Dst<;>cases listB ((f.Blocks.getD i default).Phis.getD j default).From<;>cases listB ((f.Blocks.getD i default).Phis.getD j default).Args<;>simp) (by
     unfold Ey
     simp) _ 0 (Nat.zero_add _)
   have l2:=Gk (f.Blocks.getD i default).Ops (default:Dv) opB (Ez f i) (.inl ()) (.inr false) (fun j hj hp=>by
     obtain⟨p1,_⟩:=hOp _ (As (d:=(default:Dv)) hj)
     have e1:decide ((j:Int)<((f.Blocks.getD i default).Ops.length:Int))=true:=by simpa using hj
     unfold Ez;simp only[e1,cond_true,Int.toNat_natCast,Af (Ap hj),Pb,Option.bind_some,Nl _ p1,A4 hj (by omega)]
     revert hp
     unfold opB
     cases numB ((f.Blocks.getD i default).Ops.getD j default).Kind<;>cases numB ((f.Blocks.getD i default).Ops.getD j default).Bits<;>cases numB ((f.Blocks.getD i default).Ops.getD j default).Lanes<;>cases numB ((f.Blocks.getD i default).Ops.getD j default).Dst<;>cases listB ((f.Blocks.getD i default).Ops.getD j default).Args<;>simp) (fun j hj hp=>by
     obtain⟨p1,_⟩:=hOp _ (As (d:=(default:Dv)) hj)
     have e1:decide ((j:Int)<((f.Blocks.getD i default).Ops.length:Int))=true:=by simpa using hj
     unfold Ez;simp only[e1,cond_true,Int.toNat_natCast,Af (Ap hj),Pb,Option.bind_some,Nl _ p1,A4 hj (by omega)]
     revert hp
     unfold opB
     cases numB ((f.Blocks.getD i default).Ops.getD j default).Kind<;>cases numB ((f.Blocks.getD i default).Ops.getD j default).Bits<;>cases numB ((f.Blocks.getD i default).Ops.getD j default).Lanes<;>cases numB ((f.Blocks.getD i default).Ops.getD j default).Dst<;>cases listB ((f.Blocks.getD i default).Ops.getD j default).Args<;>simp) (by
     unfold Ez
     simp) _ 0 (Nat.zero_add _)
   rw[show((0:Nat):Int)=0 from rfl,List.drop_zero]at l1 l2;unfold Ds;simp only[e0,cond_true,Af (Ap hi),l1,Option.bind_some];unfold blockB
   cases(f.Blocks.getD i default).Phis.all Wk with
   | false=>rfl
   | true=>
    simp only[cond_true,l2,Option.bind_some,Int.toNat_natCast,Pb,Nl _ b3,A4 hi (by have:=hf.blocks;omega)]
    cases(f.Blocks.getD i default).Ops.all opB with
    | false=>rfl
    | true=>
     unfold endB
     cases numB (f.Blocks.getD i default).End.Kind<;>cases numB (f.Blocks.getD i default).End.Arg<;>cases listB (f.Blocks.getD i default).End.To<;>rfl
  exact Gk f.Blocks (default:Ad) blockB (Ds f) (.inl ()) (.inr false) (fun i hi hp=>by rw[step i hi,hp];rfl) (fun i hi hp=>by rw[step i hi,hp];rfl) (by
   unfold Ds
   simp) _ 0 (Nat.zero_add _)
 rw[show((0:Nat):Int)=0 from rfl,List.drop_zero]at hloop;unfold Ge Oy;simp only[Nl _ hf.params,Pb,rsize_eq f hf,hloop]
 have e1:((f.Blocks.length:Int)==0) = !decide (1≤f.Blocks.length):=by
  rw[← decide_not]
  by_cases h:f.Blocks.length=0
  ·simp[h]
  ·have h1:((f.Blocks.length:Int)==0)=false:=by simpa using h
   rw[h1];symm;apply decide_eq_false;omega
 have e2:decide ((64:Int)<(f.Blocks.length:Int)) = !decide (f.Blocks.length≤64):=by rw[← decide_not];apply decide_eq_decide.2;omega
 have e3:decide ((16:Int)<(f.Params.length:Int)) = !decide (f.Params.length≤16):=by rw[← decide_not];apply decide_eq_decide.2;omega
 have e4:decide ((512:Int)<sizeW f) = !decide (sizeW f≤512):=by rw[← decide_not];apply decide_eq_decide.2;omega
 rw[e1,e2,e3]
 generalize decide (1≤f.Blocks.length)=p1
 generalize decide (f.Blocks.length≤64)=p2
 generalize decide (f.Params.length≤16)=p3
 generalize listB f.Params=p4
 generalize numB f.Ret=p5
 cases p1 with
 | false=>simp
 | true=>cases p2 with
  | false=>simp
  | true=>cases p3 with
   | false=>simp
   | true=>cases p4 with
    | false=>simp
    | true=>cases p5 with
     | false=>simp
     | true=>
      simp only[Bool.not_true,Bool.or_self,cond_true,cond_false,beq_self_eq_true,Option.bind_some,e4]
      cases decide (sizeW f≤512) with
      | false=>simp
      | true=>cases f.Blocks.all blockB<;>simp
theorem numB_iff{n:Int}:numB n=true↔0≤n∧n≤2147483647:=by simp[numB]
theorem listB_iff{l:List Int}:listB l=true↔good31 l∧l.length≤64:=by
 simp[listB,good31,numB_iff]
def wideP(n:Int):Prop:=0≤n∧n<18446744073709551616
structure OkB(b:Ad):Prop where
 may:blockB b=true
 phis:b.Phis.length≤512
 ops:b.Ops.length≤512
 imm:∀ o∈b.Ops,wideP o.Imm
structure OkF(f:Ab):Prop where
 params:listB f.Params=true
 few:f.Params.length≤16
 ret:numB f.Ret=true
 blocks:f.Blocks.length≤64
 block:∀ b∈f.Blocks,OkB b
theorem blockB_iff{b:Ad}:blockB b=true↔(∀ p∈b.Phis,Wk p=true)∧(∀ o∈b.Ops,opB o=true)∧endB b.End=true:=by
 simp[blockB,and_assoc]
theorem sum_le{α:Type}(l:List α)(g:α→Nat)(B:Nat)(h:∀ a∈l,g a≤B):(l.map g).sum≤l.length*B:=by
 induction l with
 | nil=>simp
 | cons a l ih=>
  have h1:=h a (by simp);have h2:=ih (fun b hb=>h b (by simp[hb]));rw[List.map_cons,List.sum_cons,List.length_cons,Nat.add_mul];omega
theorem sum_mono{α:Type}(l:List α)(g k:α→Nat)(h:∀ a∈l,g a≤k a):(l.map g).sum≤(l.map k).sum:=by
 induction l with
 | nil=>simp
 | cons a l ih=>
  have h1:=h a (by simp);have h2:=ih (fun b hb=>h b (by simp[hb]));rw[List.map_cons,List.sum_cons,List.map_cons,List.sum_cons];omega
theorem Aai{α:Type}(l:List α)(g:α→Nat)(h:∀ a∈l,1≤g a):l.length≤(l.map g).sum:=by
 induction l with
 | nil=>simp
 | cons a l ih=>
  have h1:=h a (by simp);have h2:=ih (fun b hb=>h b (by simp[hb]));rw[List.map_cons,List.sum_cons,List.length_cons];omega
theorem mem_le_sum{α:Type}{l:List α}{a:α}(g:α→Nat)(h:a∈l):g a≤(l.map g).sum:=by
 induction l with
 | nil=>cases h
 | cons b l ih=>
  rw[List.map_cons,List.sum_cons];rcases List.mem_cons.1 h with rfl|h
  ·omega
  ·have:=ih h;omega
theorem OkF.size{f:Ab}(h:OkF f):Pc f≤65600∧sizeW f=Pc f:=by
 have:Pc f≤f.Blocks.length*1025:=sum_le _ _ _ fun b hb=>by
  have h1:=(h.block b hb).phis;have h2:=(h.block b hb).ops;simp only[sizeB];omega
 have h2:=h.blocks
 have h3:Pc f≤65600:=by omega
 exact⟨h3,Zf (by omega)⟩
theorem Xa{f:Ab}(h:Oy f=true):1≤f.Blocks.length∧f.Blocks.length≤64∧f.Params.length≤16∧listB f.Params=true∧numB f.Ret=true∧sizeW f≤512∧∀ b∈f.Blocks,blockB b=true:=by
 simp only[Oy,Bool.and_eq_true,decide_eq_true_eq,List.all_eq_true]at h;exact⟨h.1.1.1.1.1.1,h.1.1.1.1.1.2,h.1.1.1.1.2,h.1.1.1.2,h.1.1.2,h.1.2,h.2⟩
theorem may_lists{f:Ab}(h:Oy f=true):f.Params.length≤64∧∀ b∈f.Blocks,b.End.To.length≤64∧(∀ p∈b.Phis,p.From.length≤64∧p.Args.length≤64)∧∀ o∈b.Ops,o.Args.length≤64:=by
 obtain⟨_,_,h3,_,_,_,h7⟩:=Xa h;refine⟨by omega,fun b hb=>?_⟩;obtain⟨q1,q2,q3⟩:=blockB_iff.1 (h7 b hb);simp only[endB,Bool.and_eq_true]at q3;refine⟨(listB_iff.1 q3.2).2,fun p hp=>?_,fun o ho=>?_⟩
 ·have:=q1 p hp;simp only[Wk,Bool.and_eq_true]at this;exact⟨(listB_iff.1 this.1.2).2,(listB_iff.1 this.2).2⟩
 ·have:=q2 o ho;simp only[opB,Bool.and_eq_true]at this;exact(listB_iff.1 this.2).2
theorem may_ok{f:Ab}(hf:InF f)(h:Oy f=true)(hs:entF f≤20000):OkF f∧Pc f≤512:=by
 obtain⟨h1,h2,h3,h4,h5,h6,h7⟩:=Xa h
 have hle:Pc f≤entF f:=by
  have:Pc f≤(f.Blocks.map entB).sum:=sum_mono _ _ _ fun b hb=>by
   have q1:b.Phis.length≤(b.Phis.map entP).sum:=Aai _ _ fun p hp=>by simp only[entP];omega
   have q2:b.Ops.length≤(b.Ops.map entO).sum:=Aai _ _ fun p hp=>by simp only[entO];omega
   simp only[sizeB,entB];omega
  simp only[entF];omega
 have hw:sizeW f=Pc f:=Zf (by omega)
 have h512:Pc f≤512:=by omega
 refine⟨⟨h4,h3,h5,h2,fun b hb=>?_⟩,h512⟩;have hb512:sizeB b≤Pc f:=mem_le_sum sizeB hb;simp only[sizeB]at hb512;exact⟨h7 b hb,by omega,by omega,fun o ho=>(hf.op b hb o ho).2⟩
theorem small_parts(f:Ab)(hf:InF f):∃ sm,Fc f=some sm∧(sm=true→Oy f=true→OkF f∧Pc f≤512∧1≤f.Blocks.length):=by
 obtain⟨sm,h⟩:=small_some f hf;refine⟨sm,h,fun h1 h2=>?_⟩;obtain⟨q1,q2⟩:=may_lists h2;rw[small_eq f hf q1 q2]at h;subst h1;obtain⟨r1,r2⟩:=may_ok hf h2 (by simpa using OI h);exact⟨r1,r2,(Xa h2).1⟩
def Y6(l:Int):Int:=bif l==0 then 17 else bif l==1 then 20 else 22
def Mg(l:Int)(o:Dv):Bool:=J9 o&&!decide (Y6 l<o.Kind)&&!(decide (l<2)&&decide (1<o.Lanes))
def Hn(l:Int)(b:Ad):Bool:=(b.Phis.all fun p=>widthB p.Bits)&&b.Ops.all (Mg l)
def Ou(f:Ab)(l:Int):Bool:=f.Params.all widthB&&f.Blocks.all (Hn l)&&widthB f.Ret
theorem opT_aux{m a b c:Bool}{x:Int}:(bif (bif (bif (!m) then true else a) then true else(bif b then c else false)) then(some (LR.done (Sum.inr false))) else some (LR.next x):Option (LR Int (Unit ⊕ Bool)))=some (bif (m&&!a&&!(b&&c)) then .next x else .done (.inr false)):=by
 cases m<;>cases a<;>cases b<;>cases c<;>rfl
theorem opOk{f:Ab}(hf:OkF f){b:Ad}(hb:b∈f.Blocks){o:Dv}(ho:o∈b.Ops):OpOk o:=by
 have h1:=hf.block b hb;have h2:=(blockB_iff.1 h1.may).2.1 o ho;simp only[opB,Bool.and_eq_true]at h2;exact⟨⟨(h1.imm o ho).1,(h1.imm o ho).2⟩,by have:=(listB_iff.1 h2.2).2;omega⟩
theorem m_typed{f:Ab}(hf:OkF f)(l:Int):Gs f l=some (Ou f l):=by
 have hp:=Gk f.Params (0:Int) widthB (D1 f) (.inl ()) (.inr false) (fun i hi hp=>by
   unfold D1
   have:decide ((i:Int)<(f.Params.length:Int))=true:=by simpa using hi
   simp only[this,cond_true,Af (Ap hi),Int.toNat_natCast,Mi,Option.bind_some,hp,Bool.not_true,cond_false,A4 hi (by have:=hf.few;omega)]) (fun i hi hp=>by
   unfold D1
   have:decide ((i:Int)<(f.Params.length:Int))=true:=by simpa using hi
   simp only[this,cond_true,Af (Ap hi),Int.toNat_natCast,Mi,Option.bind_some,hp,Bool.not_false]) (by
   unfold D1;simp) f.Params.length 0 (by omega)
 have hb:=Gk f.Blocks (default:Ad) (Hn l) (D2 f l) (.inl ()) (.inr false)
 have hphi:∀ i:Nat,i<f.Blocks.length→Ah (C4 f (i:Int)) (0:Int)=some (bif ((f.Blocks.getD i default).Phis.all fun p=>widthB p.Bits) then .inl () else .inr false):=fun i hi=>by
  have hB:=hf.block _ (As (d:=(default:Ad)) hi)
  have:=Gk (f.Blocks.getD i default).Phis (default:Er) (fun p=>widthB p.Bits) (C4 f (i:Int)) (.inl ()) (.inr false) (fun j hj hp=>by
   unfold C4
   have:decide ((j:Int)<((f.Blocks.getD i default).Phis.length:Int))=true:=by simpa using hj
   simp only[Af (Ap hi),Int.toNat_natCast,this,cond_true,Af (Ap hj),Mi,Option.bind_some,hp,Bool.not_true,cond_false,A4 hj (by have:=hB.phis;omega)]) (fun j hj hp=>by
   unfold C4
   have:decide ((j:Int)<((f.Blocks.getD i default).Phis.length:Int))=true:=by simpa using hj
   simp only[Af (Ap hi),Int.toNat_natCast,this,cond_true,Af (Ap hj),Mi,Option.bind_some,hp,Bool.not_false]) (by
   unfold C4;simp[Af (Ap hi)]) (f.Blocks.getD i default).Phis.length 0 (by omega)
  rw[show(0:Int)=((0:Nat):Int) from rfl,this,List.drop_zero]
 have hops:∀ i:Nat,i<f.Blocks.length→Ah (C5 f l (i:Int)) (0:Int)=some (bif (f.Blocks.getD i default).Ops.all (Mg l) then .inl () else .inr false):=fun i hi=>by
  have hmem:=As (d:=(default:Ad)) hi;have hB:=hf.block _ hmem
  have key:∀(j:Nat),j<(f.Blocks.getD i default).Ops.length→C5 f l (i:Int) (j:Int)=some (bif Mg l ((f.Blocks.getD i default).Ops.getD j default) then .next ((j:Int)+1) else .done (.inr false)):=fun j hj=>by
   unfold C5
   have hd:decide ((j:Int)<((f.Blocks.getD i default).Ops.length:Int))=true:=by simpa using hj
   have hok:=opOk hf hmem (As (d:=(default:Dv)) hj);simp only[Af (Ap hi),Int.toNat_natCast,hd,cond_true,Af (Ap hj),A4 hj (by have:=hB.ops;omega)];unfold Mg Y6;cases h1:(l==1)<;>cases h0:(l==0)<;>simp only[cond_true,cond_false,Option.bind_some,ref_May _ hok,opT_aux]
  have:=Gk (f.Blocks.getD i default).Ops (default:Dv) (Mg l) (C5 f l (i:Int)) (.inl ()) (.inr false) (fun j hj hp=>by rw[key j hj,hp];rfl) (fun j hj hp=>by rw[key j hj,hp];rfl) (by
   unfold C5;simp[Af (Ap hi)]) (f.Blocks.getD i default).Ops.length 0 (by omega)
  rw[show(0:Int)=((0:Nat):Int) from rfl,this,List.drop_zero]
 have hb':=hb (fun i hi hp=>by
   unfold D2
   have:decide ((i:Int)<(f.Blocks.length:Int))=true:=by simpa using hi
   simp only[Hn,Bool.and_eq_true]at hp
   simp only[this,cond_true,hphi i hi,hops i hi,hp.1,hp.2,Option.bind_some,A4 hi (by have:=hf.blocks;omega)]) (fun i hi hp=>by
   unfold D2
   have:decide ((i:Int)<(f.Blocks.length:Int))=true:=by simpa using hi
   simp only[Hn]at hp;simp only[this,cond_true,hphi i hi,hops i hi,Option.bind_some]
   cases h1:((f.Blocks.getD i default).Phis.all fun p=>widthB p.Bits) with
   | false=>rfl
   | true=>rw[h1,Bool.true_and]at hp;simp only[cond_true,hp,cond_false,Option.bind_some]) (by
   unfold D2;simp) f.Blocks.length 0 (by omega)
 unfold Gs Ou;rw[show(0:Int)=((0:Nat):Int) from rfl,hp,hb',List.drop_zero,List.drop_zero]
 cases f.Params.all widthB<;>cases f.Blocks.all (Hn l)<;>simp[Mi]
theorem Wq:room=1099511627776:=rfl
theorem J3{β:Type}(n A C:Nat)(E:Nat→List β)(hE:∀ i,i<n→(E i).length≤C)(f:List β×Int→Option (LR (List β×Int) (List β)))
  (hn:∀(acc:List β) (i:Nat),i<n→acc.length≤A+i*C→f (acc,(i:Int))=some (.next (acc++E i,(i:Int)+1)))
  (hd:∀ acc:List β,f (acc,(n:Int))=some (.done acc)):∀(k i:Nat) (acc:List β),i+k=n→acc.length≤A+i*C→Ah f (acc,(i:Int))=some (acc++(List.range' i k).flatMap E)
 | 0,i,acc,h,_=>by
  obtain rfl:i=n:=by omega
  rw[Ao (hd acc)]
  simp
 | k+1,i,acc,h,hA=>by
  have hi:i<n:=by omega
  have h1:=hE i hi
  have h2:acc.length+C≤A+(i+1)*C:=by rw[Nat.add_mul];omega
  rw[Aw (hn acc i hi hA),show((i:Int)+1)=((i+1:Nat):Int) by omega,J3 n A C E hE f hn hd k (i+1) _ (by omega) (by rw[List.length_append];omega),List.range'_succ,List.flatMap_cons,List.append_assoc]
theorem Im{β:Type}(C:Nat)(E:Nat→List β):∀ l:List Nat,(∀ i∈l,(E i).length≤C)→(l.flatMap E).length≤l.length*C
 | [],_=>by simp
 | a::l,h=>by
  have h1:=h a (by simp);have h2:=Im C E l (fun i hi=>h i (by simp[hi]));rw[List.flatMap_cons,List.length_append,List.length_cons,Nat.add_mul];omega
def I5(l:List Bk)(v:Int):Int:=match l.findIdx? (fun d=>d.V==v) with|some i=>(i:Int)|none=>-1
theorem m_find(l:List Bk)(v:Int)(hl:l.length≤1000000):Dq l v=some (I5 l v):=by
 have key:∀(k i:Nat),i+k=l.length→Ah (Eb l v) (i:Int)=some (match(l.drop i).findIdx? (fun d=>d.V==v) with|some j=>.inr ((i+j:Nat):Int)|none=>.inl ()):=by
  intro k
  induction k with
  | zero=>
   intro i h
   obtain rfl:i=l.length:=by omega
   rw[Ao (x:=.inl ()) (by unfold Eb;simp)]
   simp
  | succ k ih=>
   intro i h
   have hi:i<l.length:=by omega
   have hdr:l.drop i=l.getD i default::l.drop (i+1):=by rw[List.drop_eq_getElem_cons hi,Ai _ _ _ hi]
   have hd:decide ((i:Int)<(l.length:Int))=true:=by simpa using hi
   rw[hdr,List.findIdx?_cons]
   cases hb:(l.getD i default).V==v with
   | true=>
    rw[Ao (x:=.inr (i:Int)) (by unfold Eb;simp only[hd,cond_true,Af (Ap hi),Int.toNat_natCast,hb])]
    simp
   | false=>
    rw[Aw (s':=((i+1:Nat):Int)) (by unfold Eb;simp only[hd,cond_true,Af (Ap hi),Int.toNat_natCast,hb,cond_false,A4 hi (by omega)];rfl),ih (i+1) (by omega)]
    cases(l.drop (i+1)).findIdx? (fun d=>d.V==v) with
    | none=>simp
    | some j=>simp;omega
 unfold Dq I5;rw[show(0:Int)=((0:Nat):Int) from rfl,key l.length 0 (by omega),List.drop_zero]
 cases l.findIdx? (fun d=>d.V==v) with
 | none=>rfl
 | some j=>simp
def I6(o:Dv):Int×Int:=bif J9 o then Vg o.Kind o.Bits o.Lanes else(0,0)
def Hh(o:Dv):List (Int×Int):=bif J9 o then Rh o else[]
def L0(f:Ab):List Bk:=(List.range f.Params.length).flatMap fun(i:Nat)=>[⟨(i:Int)+1,-1,0,(f.Params.getD i 0,1)⟩]
def M7(b:Ad)(i:Nat):List Bk:=(List.range b.Phis.length).flatMap fun(k:Nat)=>[⟨(b.Phis.getD k default).Dst,i,-1,((b.Phis.getD k default).Bits,1)⟩]
def Sy(b:Ad)(i:Nat):List Bk:=(List.range b.Ops.length).flatMap fun(k:Nat)=>bif decide (0<(I6 (b.Ops.getD k default)).1) then[⟨(b.Ops.getD k default).Dst,i,k,I6 (b.Ops.getD k default)⟩] else[]
def Li(b:Ad)(i:Nat):List Bk:=M7 b i++Sy b i
def Aq(f:Ab):List Bk:=L0 f++(List.range f.Blocks.length).flatMap fun i=>Li (f.Blocks.getD i default) i
theorem Xu(b:Ad)(i:Nat):(M7 b i).length≤b.Phis.length:=by
 have:=Im 1 (fun(k:Nat)=>[(⟨(b.Phis.getD k default).Dst,i,-1,((b.Phis.getD k default).Bits,1)⟩:Bk)]) (List.range b.Phis.length) (fun _ _=>Nat.le_refl _)
 simpa [M7] using this
theorem defsOp_len(b:Ad)(i:Nat):(Sy b i).length≤b.Ops.length:=by
 have:=Im 1 (fun(k:Nat)=>bif decide (0<(I6 (b.Ops.getD k default)).1) then[(⟨(b.Ops.getD k default).Dst,i,k,I6 (b.Ops.getD k default)⟩:Bk)] else[]) (List.range b.Ops.length) (fun k _=>by cases decide (0<(I6 (b.Ops.getD k default)).1)<;>simp)
 simpa [Sy] using this
theorem defsB_len{f:Ab}(hf:OkF f){i:Nat}(hi:i<f.Blocks.length):(Li (f.Blocks.getD i default) i).length≤1024:=by
 have hB:=hf.block _ (As (d:=(default:Ad)) hi);have h1:=Xu (f.Blocks.getD i default) i;have h2:=defsOp_len (f.Blocks.getD i default) i;have h3:=hB.phis;have h4:=hB.ops;rw[Li,List.length_append];omega
theorem T9(f:Ab):(L0 f).length=f.Params.length:=by
 have h:∀ l:List Nat,(l.map fun _=>1).sum=l.length:=fun l=>by induction l with|nil=>rfl|cons a l ih=>simp[ih];omega
 simp[L0,List.length_flatMap,h]
theorem defsF_len{f:Ab}(hf:OkF f):(Aq f).length≤100000:=by
 have h1:=Im 1024 (fun i=>Li (f.Blocks.getD i default) i) (List.range f.Blocks.length) (fun i hi=>defsB_len hf (by simpa using hi));have h2:=T9 f;have h3:=hf.few;have h4:=hf.blocks;rw[List.length_range]at h1;have:f.Blocks.length*1024≤64*1024:=Nat.mul_le_mul_right _ h4;rw[Aq,List.length_append];omega
theorem m_defs{f:Ab}(hf:OkF f):He f=some (Aq f):=by
 have hp:=J3 f.Params.length 0 1 (fun(i:Nat)=>[(⟨(i:Int)+1,-1,0,(f.Params.getD i 0,1)⟩:Bk)]) (fun _ _=>Nat.le_refl _) (F2 f) (fun acc i hi hA=>by
   unfold F2
   have hd:decide ((i:Int)<(f.Params.length:Int))=true:=by simpa using hi
   have hr:acc.length+([(⟨(i:Int)+1,(-1:Int),(0:Int),((f.Params.getD i 0),(1:Int))⟩:Bk)]:List (Bk)).length≤room:=by have:=hf.few;rw[Wq];simp;omega
   simp only[hd,cond_true,Af (Ap hi),Int.toNat_natCast,A4 hi (by have:=hf.few;omega),Af hr]) (fun acc=>by unfold F2;simp) f.Params.length 0 [] (by omega) (by simp)
 have hphi:∀(i:Nat),i<f.Blocks.length→∀ acc:List Bk,acc.length≤100000→Ah (D9 f (i:Int)) (acc,(0:Int))=some (acc++M7 (f.Blocks.getD i default) i):=fun i hi acc hacc=>by
  have hB:=hf.block _ (As (d:=(default:Ad)) hi)
  have:=J3 (f.Blocks.getD i default).Phis.length 100000 1 (fun(k:Nat)=>[(⟨((f.Blocks.getD i default).Phis.getD k default).Dst,i,-1,(((f.Blocks.getD i default).Phis.getD k default).Bits,1)⟩:Bk)]) (fun _ _=>Nat.le_refl _) (D9 f (i:Int)) (fun acc k hk hA=>by
   unfold D9
   have hd:decide ((k:Int)<((f.Blocks.getD i default).Phis.length:Int))=true:=by simpa using hk
   have hr:∀ x:Bk,acc.length+([x]:List Bk).length≤room:=fun x=>by have:=hB.phis;rw[Wq];simp;omega
   simp only[Int.toNat_natCast,hd,cond_true,Af (Ap hk),A4 hk (by have:=hB.phis;omega),Af (hr _)]) (fun acc=>by unfold D9;simp) (f.Blocks.getD i default).Phis.length 0 acc (by omega) (by omega)
  rw[show(0:Int)=((0:Nat):Int) from rfl,this,M7,List.range_eq_range']
 have hop:∀(i:Nat),i<f.Blocks.length→∀ acc:List Bk,acc.length≤100000→Ah (Ea f (i:Int)) (acc,(0:Int))=some (acc++Sy (f.Blocks.getD i default) i):=fun i hi acc hacc=>by
  have hmem:=As (d:=(default:Ad)) hi;have hB:=hf.block _ hmem
  have:=J3 (f.Blocks.getD i default).Ops.length 100000 1 (fun(k:Nat)=>bif decide (0<(I6 ((f.Blocks.getD i default).Ops.getD k default)).1) then[(⟨((f.Blocks.getD i default).Ops.getD k default).Dst,i,k,I6 ((f.Blocks.getD i default).Ops.getD k default)⟩:Bk)] else[]) (fun k _=>by cases decide (0<(I6 ((f.Blocks.getD i default).Ops.getD k default)).1)<;>simp) (Ea f (i:Int)) (fun acc k hk hA=>by
   unfold Ea;have hok:=opOk hf hmem (As (d:=(default:Dv)) hk)
   have hd:decide ((k:Int)<((f.Blocks.getD i default).Ops.length:Int))=true:=by simpa using hk
   have hr:∀ x:Bk,acc.length+([x]:List Bk).length≤room:=fun x=>by have:=hB.ops;rw[Wq];simp;omega
   have hg:Fa ((f.Blocks.getD i default).Ops.getD k default)=some (I6 ((f.Blocks.getD i default).Ops.getD k default)):=ref_Gives _ hok;simp only[Int.toNat_natCast,hd,cond_true,Af (Ap hk),hg,Option.bind_some,A4 hk (by have:=hB.ops;omega),Af (hr _)]
   cases decide (0<(I6 ((f.Blocks.getD i default).Ops.getD k default)).1)<;>simp) (fun acc=>by unfold Ea;simp) (f.Blocks.getD i default).Ops.length 0 acc (by omega) (by omega)
  rw[show(0:Int)=((0:Nat):Int) from rfl,this,Sy,List.range_eq_range']
 have hb:=J3 f.Blocks.length 16 1024 (fun i=>Li (f.Blocks.getD i default) i) (fun i hi=>defsB_len hf hi) (F3 f) (fun acc i hi hA=>by
   unfold F3
   have hd:decide ((i:Int)<(f.Blocks.length:Int))=true:=by simpa using hi
   have hB:=hf.block _ (As (d:=(default:Ad)) hi);have h64:=hf.blocks;have h1:i*1024≤64*1024:=Nat.mul_le_mul_right _ (by omega);have h2:=Xu (f.Blocks.getD i default) i;have h3:=hB.phis
   simp only[hd,cond_true,Af (Ap hi),hphi i hi acc (by omega),Option.bind_some,hop i hi (acc++M7 (f.Blocks.getD i default) i) (by rw[List.length_append];omega),A4 hi (by omega),Li,List.append_assoc]) (fun acc=>by unfold F3;simp) f.Blocks.length 0 (L0 f) (by omega) (by have:=T9 f;have:=hf.few;omega)
 unfold He;rw[show(0:Int)=((0:Nat):Int) from rfl,hp,Option.bind_some,List.nil_append]
 have e:(List.range' 0 f.Params.length).flatMap (fun(i:Nat)=>[(⟨(i:Int)+1,-1,0,(f.Params.getD i 0,1)⟩:Bk)])=L0 f:=by rw[L0,List.range_eq_range']
 rw[e,hb,Option.bind_some,Aq,List.range_eq_range']
def Kt(p:Er):List Bz:=(List.range p.Args.length).flatMap fun(j:Nat)=>[⟨p.Args.getD j 0,p.From.getD j 0,1000,(p.Bits,1)⟩]
def K5(b:Ad):List Bz:=(List.range b.Phis.length).flatMap fun(k:Nat)=>Kt (b.Phis.getD k default)
def Mn(o:Dv)(i k:Nat):List Bz:=(List.range (Hh o).length).flatMap fun(j:Nat)=>[⟨o.Args.getD j 0,i,k,(Hh o).getD j (0,0)⟩]
def Ov(b:Ad)(i:Nat):List Bz:=(List.range b.Ops.length).flatMap fun(k:Nat)=>Mn (b.Ops.getD k default) i k
def Um(f:Ab)(b:Ad)(i:Nat):List Bz:=(bif b.End.Kind==0 then[⟨b.End.Arg,i,1000,(f.Ret,1)⟩] else[])++(bif b.End.Kind==2 then[⟨b.End.Arg,i,1000,(1,1)⟩] else[])
def Wt(f:Ab)(b:Ad)(i:Nat):List Bz:=K5 b++Ov b i++Um f b i
def Bs(f:Ab):List Bz:=(List.range f.Blocks.length).flatMap fun(i:Nat)=>Wt f (f.Blocks.getD i default) i
theorem Rg{o:Dv}(h:o.Args.length≤64):(Hh o).length≤64∧(Hh o).length≤o.Args.length:=by
 unfold Hh
 cases hm:J9 o with
 | false=>simp
 | true=>
  simp only[cond_true]
  have:((o.Args.length:Int)==Lo o.Kind o.Lanes)=true:=by
   simp only[J9,Bool.and_eq_true]at hm;exact hm.1.2.2
  have h2:(o.Args.length:Int)=Lo o.Kind o.Lanes:=by simpa using this
  have h3:(Rh o).length=o.Args.length:=by rw[Rh,List.length_map,List.length_range,← h2,Int.toNat_natCast]
  omega
theorem ok_phi{f:Ab}(hf:OkF f){b:Ad}(hb:b∈f.Blocks){p:Er}(hp:p∈b.Phis):p.From.length≤64∧p.Args.length≤64:=by
 have:=(blockB_iff.1 (hf.block b hb).may).1 p hp;simp only[Wk,Bool.and_eq_true]at this;exact⟨(listB_iff.1 this.1.2).2,(listB_iff.1 this.2).2⟩
theorem ok_op{f:Ab}(hf:OkF f){b:Ad}(hb:b∈f.Blocks){o:Dv}(ho:o∈b.Ops):o.Args.length≤64:=by
 have:=(blockB_iff.1 (hf.block b hb).may).2.1 o ho;simp only[opB,Bool.and_eq_true]at this;exact(listB_iff.1 this.2).2
theorem Wu(p:Er):(Kt p).length≤p.Args.length:=by
 have:=Im 1 (fun(j:Nat)=>[(⟨p.Args.getD j 0,p.From.getD j 0,1000,(p.Bits,1)⟩:Bz)]) (List.range p.Args.length) (fun _ _=>Nat.le_refl _)
 simpa [Kt] using this
theorem Ye(o:Dv)(i k:Nat):(Mn o i k).length≤(Hh o).length:=by
 have:=Im 1 (fun(j:Nat)=>[(⟨o.Args.getD j 0,i,k,(Hh o).getD j (0,0)⟩:Bz)]) (List.range (Hh o).length) (fun _ _=>Nat.le_refl _)
 simpa [Mn] using this
theorem Yf{f:Ab}(hf:OkF f){b:Ad}(hb:b∈f.Blocks):(K5 b).length≤32768:=by
 have:=Im 64 (fun(k:Nat)=>Kt (b.Phis.getD k default)) (List.range b.Phis.length) (fun k hk=>by
  have h1:=Wu (b.Phis.getD k default);have h2:=(ok_phi hf hb (As (d:=(default:Er)) (by simpa using hk))).2
  omega)
 have h3:=(hf.block b hb).phis;rw[List.length_range]at this;have h4:b.Phis.length*64≤512*64:=Nat.mul_le_mul_right _ h3;rw[K5];omega
theorem usesOp_len{f:Ab}(hf:OkF f){b:Ad}(hb:b∈f.Blocks)(i:Nat):(Ov b i).length≤32768:=by
 have:=Im 64 (fun(k:Nat)=>Mn (b.Ops.getD k default) i k) (List.range b.Ops.length) (fun k hk=>by
  have h1:=Ye (b.Ops.getD k default) i k;have h2:=(Rg (ok_op hf hb (As (d:=(default:Dv)) (by simpa using hk)))).1
  omega)
 have h3:=(hf.block b hb).ops;rw[List.length_range]at this;have h4:b.Ops.length*64≤512*64:=Nat.mul_le_mul_right _ h3;rw[Ov];omega
theorem usesEnd_len(f:Ab)(b:Ad)(i:Nat):(Um f b i).length≤2:=by
 unfold Um
 cases b.End.Kind==0<;>cases b.End.Kind==2<;>simp
theorem usesB_len{f:Ab}(hf:OkF f){i:Nat}(hi:i<f.Blocks.length):(Wt f (f.Blocks.getD i default) i).length≤70000:=by
 have hmem:=As (d:=(default:Ad)) hi;have h1:=Yf hf hmem;have h2:=usesOp_len hf hmem i;have h3:=usesEnd_len f (f.Blocks.getD i default) i;rw[Wt,List.length_append,List.length_append];omega
theorem Xp{f:Ab}(hf:OkF f):(Bs f).length≤4480000:=by
 have h1:=Im 70000 (fun(i:Nat)=>Wt f (f.Blocks.getD i default) i) (List.range f.Blocks.length) (fun i hi=>usesB_len hf (by simpa using hi));have h4:=hf.blocks;rw[List.length_range]at h1;have:f.Blocks.length*70000≤64*70000:=Nat.mul_le_mul_right _ h4;rw[Bs];omega
def phisFit(f:Ab):Prop:=∀ b∈f.Blocks,∀ p∈b.Phis,p.Args.length≤p.From.length
theorem m_uses{f:Ab}(hf:OkF f)(hp:phisFit f):Hg f=some (Bs f):=by
 have hbig:∀{n:Nat},n≤100000000→∀ x:Bz,n+([x]:List Bz).length≤room:=fun{n} h x=>by rw[Wq];simp;omega
 have h1:∀(i:Nat),i<f.Blocks.length→∀(k:Nat),k<(f.Blocks.getD i default).Phis.length→∀ acc:List Bz,acc.length≤50000000→Ah (Ec f (i:Int) (k:Int)) (acc,(0:Int))=some (acc++Kt ((f.Blocks.getD i default).Phis.getD k default)):=fun i hi k hk acc hacc=>by
  have hmem:=As (d:=(default:Ad)) hi;have hpm:=As (d:=(default:Er)) hk;have hlen:=ok_phi hf hmem hpm;have hfit:=hp _ hmem _ hpm
  have:=J3 ((f.Blocks.getD i default).Phis.getD k default).Args.length 50000000 1 (fun(j:Nat)=>[(⟨((f.Blocks.getD i default).Phis.getD k default).Args.getD j 0,((f.Blocks.getD i default).Phis.getD k default).From.getD j 0,1000,(((f.Blocks.getD i default).Phis.getD k default).Bits,1)⟩:Bz)]) (fun _ _=>Nat.le_refl _) (Ec f (i:Int) (k:Int)) (fun acc j hj hA=>by
   unfold Ec
   have hd:decide ((j:Int)<(((f.Blocks.getD i default).Phis.getD k default).Args.length:Int))=true:=by simpa using hj
   simp only[Int.toNat_natCast,hd,cond_true,Af (Ap hj),Af (Ap (Nat.lt_of_lt_of_le hj hfit)),A4 hj (by omega),Af (hbig (n:=acc.length) (by omega) _)]) (fun acc=>by unfold Ec;simp) ((f.Blocks.getD i default).Phis.getD k default).Args.length 0 acc (by omega) (by omega)
  rw[show(0:Int)=((0:Nat):Int) from rfl,this,Kt,List.range_eq_range']
 have h2:∀(i:Nat),i<f.Blocks.length→∀ acc:List Bz,acc.length≤40000000→Ah (Ed f (i:Int)) (acc,(0:Int))=some (acc++K5 (f.Blocks.getD i default)):=fun i hi acc hacc=>by
  have hmem:=As (d:=(default:Ad)) hi;have hB:=hf.block _ hmem
  have:=J3 (f.Blocks.getD i default).Phis.length 40000000 64 (fun(k:Nat)=>Kt ((f.Blocks.getD i default).Phis.getD k default)) (fun k hk=>by have:=Wu ((f.Blocks.getD i default).Phis.getD k default);have:=(ok_phi hf hmem (As (d:=(default:Er)) hk)).2;omega) (Ed f (i:Int)) (fun acc k hk hA=>by
   unfold Ed
   have hd:decide ((k:Int)<((f.Blocks.getD i default).Phis.length:Int))=true:=by simpa using hk
   have h5:=hB.phis;have h6:k*64≤512*64:=Nat.mul_le_mul_right _ (by omega)
   simp only[Int.toNat_natCast,hd,cond_true,Af (Ap hk),h1 i hi k hk acc (by omega),Option.bind_some,A4 hk (by omega)]) (fun acc=>by unfold Ed;simp) (f.Blocks.getD i default).Phis.length 0 acc (by omega) (by omega)
  rw[show(0:Int)=((0:Nat):Int) from rfl,this,K5,List.range_eq_range']
 have h3:∀(i:Nat),i<f.Blocks.length→∀(k:Nat),k<(f.Blocks.getD i default).Ops.length→∀ acc:List Bz,acc.length≤50000000→Ah (Ee f (i:Int) (k:Int) (Hh ((f.Blocks.getD i default).Ops.getD k default))) (acc,(0:Int))=some (acc++Mn ((f.Blocks.getD i default).Ops.getD k default) i k):=fun i hi k hk acc hacc=>by
  have hmem:=As (d:=(default:Ad)) hi;have hom:=As (d:=(default:Dv)) hk;have hlen:=Rg (ok_op hf hmem hom)
  have:=J3 (Hh ((f.Blocks.getD i default).Ops.getD k default)).length 50000000 1 (fun(j:Nat)=>[(⟨((f.Blocks.getD i default).Ops.getD k default).Args.getD j 0,i,k,(Hh ((f.Blocks.getD i default).Ops.getD k default)).getD j (0,0)⟩:Bz)]) (fun _ _=>Nat.le_refl _) (Ee f (i:Int) (k:Int) (Hh ((f.Blocks.getD i default).Ops.getD k default))) (fun acc j hj hA=>by
   unfold Ee
   have hd:decide ((j:Int)<((Hh ((f.Blocks.getD i default).Ops.getD k default)).length:Int))=true:=by simpa using hj
   simp only[Int.toNat_natCast,hd,cond_true,Af (Ap hk),Af (Ap hj),Af (Ap (Nat.lt_of_lt_of_le hj hlen.2)),A4 hj (by omega),Af (hbig (n:=acc.length) (by omega) _)]) (fun acc=>by unfold Ee;simp) (Hh ((f.Blocks.getD i default).Ops.getD k default)).length 0 acc (by omega) (by omega)
  rw[show(0:Int)=((0:Nat):Int) from rfl,this,Mn,List.range_eq_range']
 have h4:∀(i:Nat),i<f.Blocks.length→∀ acc:List Bz,acc.length≤40000000→Ah (Ef f (i:Int)) (acc,(0:Int))=some (acc++Ov (f.Blocks.getD i default) i):=fun i hi acc hacc=>by
  have hmem:=As (d:=(default:Ad)) hi;have hB:=hf.block _ hmem
  have:=J3 (f.Blocks.getD i default).Ops.length 40000000 64 (fun(k:Nat)=>Mn ((f.Blocks.getD i default).Ops.getD k default) i k) (fun k hk=>by have:=Ye ((f.Blocks.getD i default).Ops.getD k default) i k;have:=(Rg (ok_op hf hmem (As (d:=(default:Dv)) hk))).1;omega) (Ef f (i:Int)) (fun acc k hk hA=>by
   unfold Ef
   have hd:decide ((k:Int)<((f.Blocks.getD i default).Ops.length:Int))=true:=by simpa using hk
   have h5:=hB.ops;have h6:k*64≤512*64:=Nat.mul_le_mul_right _ (by omega);have ht:Fb ((f.Blocks.getD i default).Ops.getD k default)=some (Hh ((f.Blocks.getD i default).Ops.getD k default)):=ref_Takes _ (opOk hf hmem (As (d:=(default:Dv)) hk))
   simp only[Int.toNat_natCast,hd,cond_true,Af (Ap hk),ht,Option.bind_some,h3 i hi k hk acc (by omega),A4 hk (by omega)]) (fun acc=>by unfold Ef;simp) (f.Blocks.getD i default).Ops.length 0 acc (by omega) (by omega)
  rw[show(0:Int)=((0:Nat):Int) from rfl,this,Ov,List.range_eq_range']
 have hb:=J3 f.Blocks.length 0 70000 (fun(i:Nat)=>Wt f (f.Blocks.getD i default) i) (fun i hi=>usesB_len hf hi) (F4 f) (fun acc i hi hA=>by
   unfold F4
   have hd:decide ((i:Int)<(f.Blocks.length:Int))=true:=by simpa using hi
   have hmem:=As (d:=(default:Ad)) hi;have h64:=hf.blocks;have q1:i*70000≤64*70000:=Nat.mul_le_mul_right _ (by omega);have q2:=Yf hf hmem;have q3:=usesOp_len hf hmem i;have e1:=h4 i hi (acc++K5 (f.Blocks.getD i default)) (by rw[List.length_append];omega)
   have l1:(acc++K5 (f.Blocks.getD i default)++Ov (f.Blocks.getD i default) i).length≤50000000:=by rw[List.length_append,List.length_append];omega
   simp only[hd,cond_true,Af (Ap hi),h2 i hi acc (by omega),Option.bind_some,e1,Int.toNat_natCast,Af (hbig (n:=(acc++K5 (f.Blocks.getD i default)++Ov (f.Blocks.getD i default) i).length) (by omega) _),Wt,Um]
   cases(f.Blocks.getD i default).End.Kind==0 with
   | true=>
    simp only[cond_true,Option.bind_some]
    cases(f.Blocks.getD i default).End.Kind==2 with
    | true=>rw[Af (by rw[List.length_append];have:=hbig (n:=(acc++K5 (f.Blocks.getD i default)++Ov (f.Blocks.getD i default) i).length+1) (by omega) (default:Bz);simpa using this)];simp[A4 hi (by omega:f.Blocks.length<9223372036854775808)]
    | false=>simp[A4 hi (by omega:f.Blocks.length<9223372036854775808)]
   | false=>
    simp only[cond_false,Option.bind_some]
    cases(f.Blocks.getD i default).End.Kind==2 with
    | true=>rw[cond_true,Af (hbig (n:=(acc++K5 (f.Blocks.getD i default)++Ov (f.Blocks.getD i default) i).length) (by omega) _)];simp[A4 hi (by omega:f.Blocks.length<9223372036854775808)]
    | false=>simp[A4 hi (by omega:f.Blocks.length<9223372036854775808)]) (fun acc=>by unfold F4;simp) f.Blocks.length 0 [] (by omega) (by simp)
 unfold Hg;rw[show(0:Int)=((0:Nat):Int) from rfl,hb,Option.bind_some,Bs,List.range_eq_range',List.nil_append]
theorem Fp{S X:Type}(f:S→Option (LR S X))(T:Nat→S)(x:X):∀(n:Nat),(∀ i,i<n→f (T i)=some (.next (T (i+1))))→f (T n)=some (.done x)→Ah f (T 0)=some x:=by
 suffices h:∀(k i n:Nat),i+k=n→(∀ j,i≤j→j<n→f (T j)=some (.next (T (j+1))))→f (T n)=some (.done x)→Ah f (T i)=some x from
  fun n h1 h2=>h n 0 n (by omega) (fun j _ hj=>h1 j hj) h2
 intro k
 induction k with
 | zero=>
  intro i n hi _ h2
  have hin:n=i:=by omega
  subst hin;exact Ao h2
 | succ k ih=>intro i n hi h1 h2;rw[Aw (h1 i (Nat.le_refl _) (by omega))];exact ih (i+1) n (by omega) (fun j hj hj'=>h1 j (by omega) hj') h2
theorem loop_seq_part{S X:Type}(f:S→Option (LR S X))(T:Nat→S):∀(n:Nat),(∀ i,i<n→f (T i)=some (.next (T (i+1))))→Ah f (T 0)=Ah f (T n):=by
 intro n
 induction n with
 | zero=>intro _;rfl
 | succ n ih=>intro h;rw[ih (fun i hi=>h i (by omega)),Aw (h n (by omega))]
theorem Hj{S X:Type}(f:S→Option (LR S X))(T:Nat→S)(p:Nat→Bool)(yes no:X)(n:Nat)(hn:∀ i,i<n→p i=true→f (T i)=some (.next (T (i+1))))(hf:∀ i,i<n→p i=false→f (T i)=some (.done no))
  (he:f (T n)=some (.done yes)):Ah f (T 0)=some (bif (List.range n).all p then yes else no):=by
 cases hall:(List.range n).all p with
 | true=>
  rw[cond_true];exact Fp f T yes n (fun i hi=>hn i hi (List.all_eq_true.1 hall i (List.mem_range.2 hi))) he
 | false=>
  rw[cond_false]
  have hex:∃ i,i<n∧p i=false:=by
   have:¬ ∀ i∈List.range n,p i=true:=fun h=>by rw[List.all_eq_true.2 h]at hall;cases hall
   simpa using this
  let P:Nat→Prop:=fun m=>m<n∧p m=false
  obtain⟨m,hm⟩:=hex
  have key:∀ m,m<n→p m=false→∃ k,k<n∧p k=false∧∀ j,j<k→p j=true:=by
   intro m
   induction m using Nat.strongRecOn with
   | ind m ih=>
    intro h1 h2
    by_cases h:∃ j,j<m∧p j=false
    ·obtain⟨j,hj,hpj⟩:=h;exact ih j hj (by omega) hpj
    ·refine⟨m,h1,h2,fun j hj=>?_⟩
     cases hpj:p j with
     | true=>rfl
     | false=>exact(h ⟨j,hj,hpj⟩).elim
  obtain⟨k,hk,hpk,hlt⟩:=key m hm.1 hm.2;rw[loop_seq_part f T k (fun i hi=>hn i (by omega) (hlt i hi))];exact Ao (hf k hk hpk)
theorem all_range{n:Nat}{p:Nat→Bool}:(List.range n).all p=true↔∀ i,i<n→p i=true:=by
 rw[List.all_eq_true];exact⟨fun h i hi=>h i (List.mem_range.2 hi),fun h i hi=>h i (List.mem_range.1 hi)⟩
theorem Au(i:Nat):((i:Int)).toNat=i:=Int.toNat_natCast i
theorem w1{i:Nat}(h:i<4611686018427387904):w64 ((i:Int)+1)=((i+1:Nat):Int):=by rw[Iv (by omega) (by omega)];omega
theorem Dt{i n:Nat}(h:i<n):decide (((i:Nat):Int)<((n:Nat):Int))=true:=by simpa using h
theorem Gf{n:Nat}:decide (((n:Nat):Int)<((n:Nat):Int))=false:=by simp
theorem Fj{i n:Nat}(h:i<n):Bb ((i:Nat):Int) n:=Ap h
theorem inbz{x:Int}{n:Nat}(h0:0≤x)(h1:x<n):Bb x n:=⟨h0,h1⟩
def okAt(n:Nat)(l:List Int)(i:Nat):Bool:=decide ((if i=0 then(-1:Int) else l.getD (i-1) 0)<l.getD i 0)&&(decide (0≤l.getD i 0)&&decide (l.getD i 0<n))
def okL(n:Nat)(l:List Int):Bool:=(List.range l.length).all (okAt n l)
def Lc(L:List (List Int)):Bool:=decide (1≤L.length)&&decide (L.length≤64)&&(List.range L.length).all fun i=>okL L.length (L.getD i [])
def S4(L:List (List Int))(k i:Nat):Bool:=(L.getD k []).contains (i:Int)
def It(L:List (List Int))(m i:Nat):List Int:=((List.range m).filter fun k=>S4 L k i).map Int.ofNat
def D7(L:List (List Int)):List (List Int):=(List.range L.length).map (It L L.length)
theorem Py(a n:Int):Ho a n=some (decide (0≤a)&&decide (a<n)):=by
 unfold Ho
 cases decide ((0:Int)≤a)<;>rfl
theorem m_isCount(n:Nat):Ii (n:Int)=some (decide (1≤n)&&decide (n≤64)):=by
 unfold Ii
 have h1:decide ((1:Int)≤(n:Int))=decide (1≤n):=by apply decide_eq_decide.2;omega
 have h2:decide ((n:Int)≤(64:Int))=decide (n≤64):=by apply decide_eq_decide.2;omega
 rw[h1,h2]
 cases decide (1≤n)<;>rfl
theorem succMay_L1(L:List (List Int))(i:Nat)(hl:(L.getD i []).length<4611686018427387904) :
  Ah (Cx L (i:Int)) ((-1:Int),(0:Int))=some (bif okL L.length (L.getD i []) then .inl () else .inr false):=by
 refine Hj (Cx L (i:Int)) (fun j=>((if j=0 then(-1:Int) else(L.getD i []).getD (j-1) 0),((j:Nat):Int))) (okAt L.length (L.getD i [])) (.inl ()) (.inr false) _ (fun j hj hp=>?_) (fun j hj hp=>?_) ?_
 ·unfold okAt at hp;simp only[Bool.and_eq_true,decide_eq_true_eq]at hp;obtain⟨h1,h2,h3⟩:=hp
  show Cx L (i:Int) (_,_)=_
  unfold Cx;simp only[Au,Dt hj,cond_true,Py];rw[Ac (Fj hj)]
  have e1:decide ((L.getD i []).getD j 0≤(if j=0 then(-1:Int) else(L.getD i []).getD (j-1) 0))=false:=by simpa using h1
  simp only[e1,decide_eq_true h2,decide_eq_true h3,Bool.and_self,beq_self_eq_true,cond_true,cond_false,Option.bind_some,Bool.not_true];rw[w1 (show j<4611686018427387904 by omega)]
  simp
 ·show Cx L (i:Int) (_,_)=_
  unfold Cx;simp only[Au,Dt hj,cond_true,Py];rw[Ac (Fj hj)]
  cases h1:decide ((L.getD i []).getD j 0≤(if j=0 then(-1:Int) else(L.getD i []).getD (j-1) 0)) with
  | true=>simp only[cond_true,show((true==false)=false) from rfl,cond_false,Option.bind_some]
  | false=>
   have h1':decide ((if j=0 then(-1:Int) else(L.getD i []).getD (j-1) 0)<(L.getD i []).getD j 0)=true:=by simpa using h1
   unfold okAt at hp;rw[h1',Bool.true_and]at hp;simp only[beq_self_eq_true,cond_true,cond_false,Option.bind_some,hp,Bool.not_false]
 ·show Cx L (i:Int) (_,_)=_
  unfold Cx;simp only[Au,Gf,cond_false]
def Fits(L:List (List Int)):Prop:=L.length<4611686018427387904∧∀ l∈L,l.length<4611686018427387904
theorem Fits.at{L:List (List Int)}(h:Fits L)(i:Nat):(L.getD i []).length<4611686018427387904:=by
 by_cases hi:i<L.length
 ·exact h.2 _ (As hi)
 ·rw[List.getD_eq_getElem?_getD,List.getElem?_eq_none (by omega)];simp
theorem m_succMay(L:List (List Int))(h:Fits L):Jx L=some (Lc L):=by
 unfold Jx;rw[m_isCount,Option.bind_some];unfold Lc
 cases hc:(decide (1≤L.length)&&decide (L.length≤64)) with
 | false=>rfl
 | true=>
  simp only[Bool.not_true,cond_false,Bool.true_and];have:=Hj (Cy L) (fun j=>((j:Nat):Int)) (fun i=>okL L.length (L.getD i [])) (.inl ()) (.inr false) L.length (fun j hj hp=>?_) (fun j hj hp=>?_) ?_
  ·rw[show Ah (Cy L) (0:Int)=_ from this]
   cases(List.range L.length).all fun i=>okL L.length (L.getD i [])<;>rfl
  ·show Cy L (j:Int)=_
   unfold Cy;simp only[Dt hj,cond_true];rw[Ac (Fj hj),succMay_L1 L j (h.at j),hp];simp only[cond_true,Option.bind_some,w1 (show j<4611686018427387904 by have:=h.1;omega)]
  ·show Cy L (j:Int)=_
   unfold Cy;simp only[Dt hj,cond_true];rw[Ac (Fj hj),succMay_L1 L j (h.at j),hp]
   rfl
  ·show Cy L _=_
   unfold Cy;simp only[Gf,cond_false]
theorem Ny{α:Type}{n i:Nat}{g:Nat→α}{d:α}(h:i<n):((List.range n).map g).getD i d=g i:=by simp[List.getD,h]
theorem Tw{α:Type}{n i:Nat}{g:Nat→α}{x:α}:((List.range n).map g).set i x=(List.range n).map fun j=>if j=i then x else g j:=by
 apply List.ext_getElem?
 intro j;rw[List.getElem?_set]
 by_cases hj:j<n
 ·by_cases hij:i=j
  ·subst hij;simp[hj]
  ·simp[hij,hj,Ne.symm hij]
 ·simp[hj];intro h;omega
theorem Gt{α:Type}{n:Nat}{g h:Nat→α}(H:∀ i,i<n→g i=h i):(List.range n).map g=(List.range n).map h:=List.map_congr_left fun i hi=>H i (List.mem_range.1 hi)
theorem mayS_iff{L:List (List Int)}:Lc L=true↔1≤L.length∧L.length≤64∧∀ i,i<L.length→okL L.length (L.getD i [])=true:=by
 unfold Lc;rw[Bool.and_eq_true,Bool.and_eq_true,all_range];simp only[decide_eq_true_eq];exact⟨fun⟨⟨a,b⟩,c⟩=>⟨a,b,c⟩,fun⟨a,b,c⟩=>⟨⟨a,b⟩,c⟩⟩
theorem okL_iff{n:Nat}{l:List Int}:okL n l=true↔∀ i,i<l.length→(0≤l.getD i 0∧l.getD i 0<n)∧(0<i→l.getD (i-1) 0<l.getD i 0):=by
 unfold okL;rw[all_range];unfold okAt;simp only[Bool.and_eq_true,decide_eq_true_eq]
 constructor
 ·intro h i hi;obtain⟨h1,h2,h3⟩:=h i hi;refine⟨⟨h2,h3⟩,fun hp=>?_⟩;rwa[if_neg (by omega)]at h1
 ·intro h i hi;obtain⟨⟨h2,h3⟩,h1⟩:=h i hi;refine⟨?_,h2,h3⟩
  by_cases hz:i=0
  ·rw[if_pos hz];omega
  ·rw[if_neg hz];exact h1 (by omega)
section
variable {n:Nat} {l:List Int} (h:okL n l=true)
include h
theorem Tb{i:Nat}(hi:i<l.length):0≤l.getD i 0∧l.getD i 0<n:=(okL_iff.1 h i hi).1
theorem okL_lt{i j:Nat}(hij:i<j)(hj:j<l.length):l.getD i 0<l.getD j 0:=by
 induction j with
 | zero=>omega
 | succ j ih=>
  have h1:=(okL_iff.1 h (j+1) hj).2 (by omega);rw[show j+1-1=j by omega]at h1
  by_cases he:i=j
  ·rw[he];exact h1
  ·exact Int.lt_trans (ih (by omega) (by omega)) h1
theorem okL_ge{i:Nat}(hi:i<l.length):(i:Int)≤l.getD i 0:=by
 induction i with
 | zero=>exact(Tb h hi).1
 | succ i ih=>
  have:=okL_lt h (show i<i+1 by omega) hi;have:=ih (by omega);omega
theorem Ug:l.length≤n:=by
 by_cases hz:l.length=0
 ·omega
 ·have h1:=okL_ge h (show l.length-1<l.length by omega);have h2:=(Tb h (show l.length-1<l.length by omega)).2;omega
theorem okL_mem{x:Int}(hx:x∈l):0≤x∧x<n:=by
 obtain⟨i,hi,rfl⟩:=List.getElem_of_mem hx;have:=Tb h hi;rwa[Ai _ _ _ hi]at this
end
theorem okL_of{n:Nat}{l:List Int}(h1:∀ x∈l,0≤x∧x<n)(h2:l.Pairwise (·<·)):okL n l=true:=by
 rw[okL_iff];intro i hi;rw[Ai _ _ _ hi];refine⟨h1 _ (List.getElem_mem hi),fun hp=>?_⟩;rw[Ai _ _ _ (show i-1<l.length by omega)];exact(List.pairwise_iff_getElem.1 h2) _ _ _ _ (by omega)
theorem N6{L:List (List Int)}(h:Lc L=true):L.length≤64∧∀ l∈L,l.length≤64:=by
 obtain⟨h1,h2,h3⟩:=mayS_iff.1 h;refine⟨h2,fun l hl=>?_⟩;obtain⟨i,hi,rfl⟩:=List.getElem_of_mem hl;have:=Ug (h3 i hi);rw[Ai _ _ _ hi]at this;omega
theorem fits_of{L:List (List Int)}(h:L.length≤1000∧∀ l∈L,l.length≤1000):Fits L:=⟨by omega,fun l hl=>by have:=h.2 l hl;omega⟩
theorem Tk(L:List (List Int))(k i:Nat):It L (k+1) i=It L k i++(if S4 L k i=true then[(k:Int)] else[]):=by
 unfold It;rw[List.range_succ,List.filter_append,List.map_append]
 congr 1
 cases hg:S4 L k i<;>simp[hg]
theorem Ra(L:List (List Int))(k i:Nat):(It L k i).length≤k:=by
 unfold It;rw[List.length_map];have:=List.length_filter_le (fun k=>S4 L k i) (List.range k)
 simpa using this
theorem getD_take{l:List Int}{j:Nat}(hj:j<l.length):l.take (j+1)=l.take j++[l.getD j 0]:=by
 rw[Ai _ _ _ hj,List.take_succ_eq_append_getElem hj]
def Pf(L:List (List Int))(k j i:Nat):Bool:=((L.getD k []).take j).contains (i:Int)
def Ks(L:List (List Int))(k j:Nat):List (List Int):=(List.range L.length).map fun i=>It L k i++(if Pf L k j i=true then[(k:Int)] else[])
theorem comers_step(L:List (List Int))(h:Lc L=true)(k j:Nat)(hk:k<L.length)(hj:j<(L.getD k []).length) :
  (Ks L k j).set ((L.getD k []).getD j 0).toNat ((Ks L k j).getD ((L.getD k []).getD j 0).toNat []++[(k:Int)])=Ks L k (j+1):=by
 obtain⟨h1,h2,h3⟩:=mayS_iff.1 h;have hok:=h3 k hk;obtain⟨a0,a1⟩:=Tb hok hj;unfold Ks;rw[Ny (by omega),Tw]
 apply Gt
 intro i hi
 have hnot:Pf L k j ((L.getD k []).getD j 0).toNat=false:=by
  unfold Pf;rw[Int.toNat_of_nonneg a0]
  cases hc:((L.getD k []).take j).contains ((L.getD k []).getD j 0) with
  | false=>rfl
  | true=>
   rw[List.contains_iff_mem]at hc;obtain⟨m,hm,he⟩:=List.getElem_of_mem hc
   have hm':m<j:=by simp at hm;omega
   rw[List.getElem_take]at he;have:=okL_lt hok hm' hj;rw[Ai _ _ _ (show m<(L.getD k []).length by omega),he]at this;omega
 by_cases hi2:i=((L.getD k []).getD j 0).toNat
 ·rw[if_pos hi2,hnot]
  have:Pf L k (j+1) i=true:=by
   unfold Pf;rw[getD_take hj,List.contains_iff_mem,hi2,Int.toNat_of_nonneg a0]
   simp
  rw[this,hi2]
  simp
 ·rw[if_neg hi2]
  have:Pf L k (j+1) i=Pf L k j i:=by
   unfold Pf;rw[getD_take hj,Bool.eq_iff_iff,List.contains_iff_mem,List.contains_iff_mem,List.mem_append]
   constructor
   ·rintro(hm|hm)
    ·exact hm
    ·simp only[List.mem_singleton]at hm;exact(hi2 (by omega)).elim
   ·exact .inl
  rw[this]
theorem m_comers(L:List (List Int))(h:Lc L=true):Jb L=some (D7 L):=by
 obtain⟨h1,h2,h3⟩:=mayS_iff.1 h
 have hroom:(1000:Nat)≤room:=by decide
 unfold Jb;rw[Ac ⟨by omega,Int.le_refl _,by omega⟩,Au]
 have inner:∀ k,k<L.length→Ah (E6 L (k:Int)) ((0:Int),Ks L k 0)=some (Ks L k (L.getD k []).length):=fun k hk=>by
  have hok:=h3 k hk;refine Fp (E6 L (k:Int)) (fun j=>(((j:Nat):Int),Ks L k j)) (Ks L k (L.getD k []).length) (L.getD k []).length (fun j hj=>?_) ?_
  ·obtain⟨a0,a1⟩:=Tb hok hj
   have hlen:(Ks L k j).length=L.length:=by simp[Ks]
   have hl64:=Ug hok
   show E6 L (k:Int) (_,_)=_
   unfold E6;simp only[Au,Dt hj,cond_true];have hb:Bb ((L.getD k []).getD j 0) (Ks L k j).length:=⟨a0,by rw[hlen];exact a1⟩
   have hrow:((Ks L k j).getD ((L.getD k []).getD j 0).toNat []).length≤k+1:=by
    unfold Ks;rw[Ny (by omega),List.length_append];have:=Ra L k ((L.getD k []).getD j 0).toNat
    split
    ·rw[List.length_singleton];omega
    ·rw[List.length_nil];omega
   rw[Ac (Fj hj),Ac hb,Ac hb,Ac (by simp only[List.length_singleton];omega),Ac hb,comers_step L h k j hk hj,w1 (by omega)]
  ·show E6 L (k:Int) (_,_)=_
   unfold E6;simp only[Au,Gf,cond_false]
 have r0:∀ k,Ks L k 0=(List.range L.length).map (It L k):=fun k=>by
  unfold Ks
  apply Gt
  intro i _;simp[Pf]
 have r1:∀ k,Ks L k (L.getD k []).length=(List.range L.length).map (It L (k+1)):=fun k=>by
  unfold Ks
  apply Gt
  intro i _;rw[Tk];unfold Pf S4;rw[List.take_length]
 have:Ah (E7 L) ((0:Int),(List.range L.length).map (It L 0))=some (D7 L):=Fp (E7 L) (fun k=>(((k:Nat):Int),(List.range L.length).map (It L k))) (D7 L) L.length (fun k hk=>?_) ?_
 ·have e0:(List.replicate L.length ([]:List Int))=(List.range L.length).map (It L 0):=by
   apply List.ext_getElem?
   intro i
   by_cases hi:i<L.length<;>simp[hi,List.getElem?_replicate,It]
  rw[e0,this];rfl
 ·show E7 L (_,_)=_
  unfold E7;simp only[Dt hk,cond_true];rw[Ac (Fj hk),← r0,inner k hk,r1,w1 (by omega)]
  rfl
 ·show E7 L (_,_)=_
  unfold E7;simp only[Gf,cond_false]
  rfl
theorem O5{α:Type}[DecidableEq α]{a b:List α}{d:α}(h:a.length=b.length):((List.range a.length).all fun i=>decide (a.getD i d=b.getD i d))=decide (a=b):=by
 rw[Bool.eq_iff_iff,all_range,decide_eq_true_eq]
 constructor
 ·intro hall
  apply List.ext_getElem h
  intro i h1 h2;have:=of_decide_eq_true (hall i h1);rwa[Ai _ _ _ h1,Ai _ _ _ h2]at this
 ·rintro rfl i _
  simp
theorem V8{a b:Nat}:(((a:Nat):Int)!=(b:Int))=decide (a≠b):=by
 rw[Bool.eq_iff_iff,bne_iff_ne,decide_eq_true_eq];omega
theorem int_ne{a b:Int}:(a !=b) = !decide (a=b):=by
 rw[Bool.eq_iff_iff]
 simp
theorem m_equal(a b:List Int)(hb:b.length<4611686018427387904):E0 a b=some (decide (a=b)):=by
 unfold E0;rw[V8]
 by_cases hl:a.length=b.length
 ·rw[decide_eq_false (by simpa using hl),cond_false];have:Ah (Be a b) (0:Int)=_:=Hj (Be a b) (fun j=>((j:Nat):Int)) (fun i=>decide (a.getD i 0=b.getD i 0)) (.inl ()) (.inr false) a.length (fun j hj hp=>?_) (fun j hj hp=>?_) ?_
  ·rw[this,O5 hl]
   cases decide (a=b)<;>rfl
  ·show Be a b (j:Int)=_
   unfold Be;simp only[Au,Dt hj,cond_true];rw[Ac (Fj hj),Ac (Fj (by omega)),int_ne,hp,w1 (by omega)]
   rfl
  ·show Be a b (j:Int)=_
   unfold Be;simp only[Au,Dt hj,cond_true];rw[Ac (Fj hj),Ac (Fj (by omega)),int_ne,hp]
   rfl
  ·show Be a b _=_
   unfold Be;simp only[Gf,cond_false]
 ·rw[decide_eq_true (by simpa using hl),cond_true,decide_eq_false (fun h=>hl (by rw[h]))]
theorem m_ints(a b:List Int)(ha:a.length<4611686018427387904):Dp a b=some (decide (a=b)):=by
 unfold Dp;rw[V8]
 by_cases hl:a.length=b.length
 ·rw[decide_eq_false (by simpa using hl),cond_false];have:Ah (Bl a b) (0:Int)=_:=Hj (Bl a b) (fun j=>((j:Nat):Int)) (fun i=>decide (a.getD i 0=b.getD i 0)) (.inl ()) (.inr false) a.length (fun j hj hp=>?_) (fun j hj hp=>?_) ?_
  ·rw[this,O5 hl]
   cases decide (a=b)<;>rfl
  ·show Bl a b (j:Int)=_
   unfold Bl;simp only[Au,Dt hj,cond_true];rw[Ac (Fj hj),Ac (Fj (by omega)),int_ne,hp,w1 (by omega)]
   rfl
  ·show Bl a b (j:Int)=_
   unfold Bl;simp only[Au,Dt hj,cond_true];rw[Ac (Fj hj),Ac (Fj (by omega)),int_ne,hp]
   rfl
  ·show Bl a b _=_
   unfold Bl;simp only[Gf,cond_false]
 ·rw[decide_eq_true (by simpa using hl),cond_true,decide_eq_false (fun h=>hl (by rw[h]))]
theorem m_equalFunc(a b:List (List Int))(hb:Fits b):Cj a b=some (decide (a=b)):=by
 unfold Cj;rw[V8]
 by_cases hl:a.length=b.length
 ·rw[decide_eq_false (by simpa using hl),cond_false];have hb1:=hb.1;have:Ah (Ay a b) (0:Int)=_:=Hj (Ay a b) (fun j=>((j:Nat):Int)) (fun i=>decide (a.getD i []=b.getD i [])) (.inl ()) (.inr false) a.length (fun j hj hp=>?_) (fun j hj hp=>?_) ?_
  ·rw[this,O5 hl]
   cases decide (a=b)<;>rfl
  ·show Ay a b (j:Int)=_
   unfold Ay;simp only[Au,Dt hj,cond_true];rw[Ac (Fj hj),Ac (Fj (by omega)),m_equal _ _ (hb.at j),hp,w1 (by omega)]
   rfl
  ·show Ay a b (j:Int)=_
   unfold Ay;simp only[Au,Dt hj,cond_true];rw[Ac (Fj hj),Ac (Fj (by omega)),m_equal _ _ (hb.at j),hp]
   rfl
  ·show Ay a b _=_
   unfold Ay;simp only[Gf,cond_false]
 ·rw[decide_eq_true (by simpa using hl),cond_true,decide_eq_false (fun h=>hl (by rw[h]))]
theorem M2(L:List (List Int)):(D7 L).length=L.length:=by simp[D7]
theorem predOf_at{L:List (List Int)}{i:Nat}(hi:i<L.length):(D7 L).getD i []=It L L.length i:=by unfold D7;rw[Ny hi]
theorem Rb{L:List (List Int)}(h:Lc L=true):(D7 L).length≤64∧∀ l∈D7 L,l.length≤64:=by
 obtain⟨h1,_⟩:=N6 h;refine⟨by rw[M2];exact h1,fun l hl=>?_⟩;obtain⟨i,hi,rfl⟩:=List.mem_map.1 hl;have:=Ra L L.length i;omega
theorem Or{L:List (List Int)}(h:L.length≤64∧∀ l∈L,l.length≤64):Fits L:=fits_of ⟨by omega,fun l hl=>by have:=h.2 l hl;omega⟩
def Uu(g:TGraph):Bool:=Lc g.Succ&&decide (g.Pred=D7 g.Succ)
theorem m_may(g:TGraph)(h:Fits g.Succ):Nj g=some (Uu g):=by
 unfold Nj Uu;rw[m_succMay _ h,Option.bind_some]
 cases hm:Lc g.Succ with
 | false=>rfl
 | true=>
  simp only[beq_self_eq_true,cond_true,m_comers _ hm,Option.bind_some,m_equalFunc _ _ (Or (Rb hm)),Bool.true_and]
def Ia(L:List (List Int)):TGraph:=⟨L,D7 L⟩
def g0:TGraph:=⟨[],[]⟩
theorem mayG_gOf{L:List (List Int)}(h:Lc L=true):Uu (Ia L)=true:=by simp[Uu,Ia,h]
theorem m_has(l:List Int)(x:Int)(h:l.length<4611686018427387904):E5 l x=some (l.contains x):=by
 unfold E5;have:Ah (Bt l x) (0:Int)=_:=Hj (Bt l x) (fun j=>((j:Nat):Int)) (fun i=>!decide (l.getD i 0=x)) (.inl ()) (.inr true) l.length (fun j hj hp=>?_) (fun j hj hp=>?_) ?_
 ·rw[this]
  have e:l.contains x = !((List.range l.length).all fun i=>!decide (l.getD i 0=x)):=by
   rw[Bool.eq_iff_iff,List.contains_iff_mem,Bool.not_eq_true',← Bool.not_eq_true,all_range]
   constructor
   ·intro hx hall;obtain⟨i,hi,rfl⟩:=List.getElem_of_mem hx;have:=hall i hi;rw[Ai _ _ _ hi]at this;simp at this
   ·intro hall
    by_cases hx:x∈l
    ·exact hx
    ·refine(hall fun i hi=>?_).elim;rw[Ai _ _ _ hi];simp only[Bool.not_eq_true',decide_eq_false_iff_not];rintro rfl;exact hx (List.getElem_mem hi)
  rw[e]
  cases(List.range l.length).all fun i=>!decide (l.getD i 0=x)<;>rfl
 ·show Bt l x (j:Int)=_
  unfold Bt;simp only[Au,Dt hj,cond_true]
  have:(l.getD j 0==x)=false:=by simpa using hp
  rw[Ac (Fj hj),this,w1 (by omega)]
  rfl
 ·show Bt l x (j:Int)=_
  unfold Bt;simp only[Au,Dt hj,cond_true]
  have:(l.getD j 0==x)=true:=by simpa using hp
  rw[Ac (Fj hj),this]
  rfl
 ·show Bt l x _=_
  unfold Bt;simp only[Gf,cond_false]
theorem same_loop{X:Type}(a b:List (List Int))(f:Int→Option (LR Int (Unit ⊕ Bool)))(ha:Fits a)(hl:a.length=b.length)
  (hn:∀ i:Nat,i<a.length→f (i:Int)=(Dp (a.getD i []) (b.getD i [])).bind fun x=>bif (!x) then some (.done (.inr false)) else some (.next (w64 ((i:Int)+1)))) (he:f (a.length:Int)=some (.done (.inl ()))) :
  Ah f (0:Int)=some (bif decide (a=b) then .inl () else .inr false):=by
 have ha1:=ha.1;have:Ah f (0:Int)=_:=Hj f (fun j=>((j:Nat):Int)) (fun i=>decide (a.getD i []=b.getD i [])) (.inl ()) (.inr false) a.length (fun j hj hp=>?_) (fun j hj hp=>?_) he
 ·rw[this,O5 hl]
 ·rw[hn j hj,m_ints _ _ (ha.at j),hp,w1 (by omega)];rfl
 ·rw[hn j hj,m_ints _ _ (ha.at j),hp];rfl
theorem m_same(a b:TGraph)(h1:Fits a.Succ)(h2:Fits a.Pred):Hb a b=some (decide (a=b)):=by
 have e:decide (a=b)=(decide (a.Succ=b.Succ)&&decide (a.Pred=b.Pred)):=by
  cases a;cases b
  rw[Bool.eq_iff_iff]
  simp
 rw[e];unfold Hb;rw[V8,V8]
 by_cases hs:a.Succ.length=b.Succ.length
 ·by_cases hp:a.Pred.length=b.Pred.length
  ·rw[decide_eq_false (by simpa using hs),cond_false,decide_eq_false (by simpa using hp),cond_false]
   have s1:=same_loop (X:=Unit) a.Succ b.Succ (F0 a b) h1 hs (fun i hi=>by
    unfold F0;simp only[Au,Dt hi,cond_true]
    rw[Ac (Fj hi),Ac (Fj (by omega))]) (by
    unfold F0
    simp only[Gf,cond_false])
   have s2:=same_loop (X:=Unit) a.Pred b.Pred (F1 a b) h2 hp (fun i hi=>by
    unfold F1;simp only[Au,Dt hi,cond_true]
    rw[Ac (Fj hi),Ac (Fj (by omega))]) (by
    unfold F1
    simp only[Gf,cond_false])
   rw[s1]
   cases decide (a.Succ=b.Succ) with
   | false=>rfl
   | true=>
    simp only[cond_true,Option.bind_some,Bool.true_and];rw[s2]
    cases decide (a.Pred=b.Pred)<;>rfl
  ·rw[decide_eq_true (show a.Pred.length≠b.Pred.length from hp),decide_eq_false (p:=a.Pred=b.Pred) (fun h=>hp (by rw[h]))]
   cases decide (a.Succ.length≠b.Succ.length)<;>simp
 ·rw[decide_eq_true (show a.Succ.length≠b.Succ.length from hs),decide_eq_false (p:=a.Succ=b.Succ) (fun h=>hs (by rw[h]))]
  simp
theorem J8{R:Type}{c:Bool}{q:Prop}[Decidable q]{k:Option R}(h:q):Ba (c=true→q) k=k:=Ac fun _=>h
theorem chk_off{R:Type}{q:Prop}[Decidable q]{k:Option R}:Ba (false=true→q) k=k:=Ac (by intro h;cases h)
def badAt(n:Nat)(l:List Int)(j:Nat):Bool:=
 bif (bif decide (l.getD j 0<0) then true else decide ((n:Int)≤l.getD j 0)) then true else(bif decide ((0:Int)<(j:Int)) then decide (l.getD j 0≤l.getD (j-1) 0) else false)
theorem bad_ok(n:Nat)(l:List Int)(j:Nat):badAt n l j = !okAt n l j:=by
 unfold badAt okAt
 by_cases h0:l.getD j 0<0
 ·have h1:decide (0≤l.getD j 0)=false:=by simpa using h0
  rw[decide_eq_true h0,h1];simp
 ·have h1:decide (0≤l.getD j 0)=true:=by simpa using h0
  rw[decide_eq_false h0,h1]
  by_cases h2:(n:Int)≤l.getD j 0
  ·have h3:decide (l.getD j 0<(n:Int))=false:=by simpa using h2
   rw[decide_eq_true h2,h3];simp
  ·have h3:decide (l.getD j 0<(n:Int))=true:=by simpa using h2
   rw[decide_eq_false h2,h3]
   by_cases hj:j=0
   ·subst hj;have h4:decide ((-1:Int)<l.getD 0 0)=true:=decide_eq_true (by omega);rw[if_pos rfl,h4];simp
   ·rw[if_neg hj,decide_eq_true (show(0:Int)<(j:Int) by omega)]
    by_cases h5:l.getD j 0≤l.getD (j-1) 0
    ·rw[decide_eq_true h5,decide_eq_false (show ¬ l.getD (j-1) 0<l.getD j 0 by omega)];rfl
    ·rw[decide_eq_false h5,decide_eq_true (show l.getD (j-1) 0<l.getD j 0 by omega)];rfl
theorem X7(L:List (List Int))(i:Nat)(hi:i<L.length)(hl:(L.getD i []).length<4611686018427387904) :
  Ah (Bm L (i:Int)) (0:Int)=some (bif okL L.length (L.getD i []) then .inl () else .inr (g0,5)):=by
 have hw:∀ j:Nat,j<(L.getD i []).length→0<j→w64 ((j:Int)-1)=((j-1:Nat):Int):=fun j hj hp=>by rw[Iv (by omega) (by omega)];omega
 have step:∀ j,j<(L.getD i []).length→Bm L (i:Int) (j:Int)=bif badAt L.length (L.getD i []) j then some (.done (.inr (g0,5))) else some (.next (((j+1:Nat):Int))):=fun j hj=>by
  unfold Bm;simp only[Au,Dt hj,cond_true];rw[Ac (Fj hi),Ac (Fj hi),Ac (Fj hj),J8 (Fj hi),J8 (Fj hj),J8 (Fj hi),J8 (Fj hj),J8 (Fj hi),w1 (by omega)]
  by_cases hz:j=0
  ·subst hz
   have:decide ((0:Int)<((0:Nat):Int))=false:=by decide
   unfold badAt;rw[this];simp only[cond_false];rw[show((false==true)=false) from rfl,Bool.and_false,chk_off]
   rfl
  ·rw[hw j hj (by omega),J8 (Fj (by omega)),Au]
   rfl
 have:=Hj (Bm L (i:Int)) (fun j=>((j:Nat):Int)) (okAt L.length (L.getD i [])) (.inl ()) (.inr (g0,5)) (L.getD i []).length (fun j hj hp=>?_) (fun j hj hp=>?_) ?_
 ·exact this
 ·show Bm L (i:Int) (j:Int)=_
  rw[step j hj,bad_ok,hp];rfl
 ·show Bm L (i:Int) (j:Int)=_
  rw[step j hj,bad_ok,hp];rfl
 ·show Bm L (i:Int) _=_
  unfold Bm;simp only[Au,Gf,cond_false];rw[Ac (Fj hi)]
theorem ref_make_rows(L:List (List Int))(h:Lc L=true):Ah (B0 L) ((0:Int),List.replicate L.length ([]:List Int))=some (D7 L):=by
 obtain⟨h1,h2,h3⟩:=mayS_iff.1 h
 have hroom:(1000:Nat)≤room:=by decide
 have hfit:=Or (N6 h)
 let R:Nat→Nat→List (List Int):=fun i k=>(List.range L.length).map fun j=>if j<i then It L L.length j else if j=i then It L k i else[]
 have inner:∀ i,i<L.length→Ah (Cm L (i:Int)) ((0:Int),R i 0)=some (R i L.length):=fun i hi=>by
  refine Fp (Cm L (i:Int)) (fun k=>(((k:Nat):Int),R i k)) (R i L.length) L.length (fun k hk=>?_) ?_
  ·show Cm L (i:Int) (_,_)=_
   have hlen:(R i k).length=L.length:=by simp[R]
   have hat:(R i k).getD i []=It L k i:=by simp only[R];rw[Ny hi];simp
   unfold Cm;simp only[Au,Dt hk,cond_true];rw[Ac (Fj hk),m_has _ _ (hfit.at k),Option.bind_some,w1 (by omega)];have hg:S4 L k i=(L.getD k []).contains (i:Int):=rfl;rw[← hg,hat]
   have hs:(if S4 L k i=true then(R i k).set i (It L k i++[(k:Int)]) else R i k)=R i (k+1):=by
    split
    ·rename_i hgo
     simp only[R];rw[Tw]
     apply Gt
     intro j hj
     by_cases hji:j=i
     ·subst hji;simp[Tk,hgo]
     ·simp[hji]
    ·rename_i hgo
     simp only[R]
     apply Gt
     intro j hj
     by_cases hji:j=i
     ·subst hji;simp[Tk,hgo]
     ·simp[hji]
   rw[← hs]
   cases hgo:S4 L k i with
   | false=>rfl
   | true=>
    have:=Ra L k i;simp only[cond_true];rw[Ac (by rw[hlen];exact Fj hi),Ac (by rw[hlen];exact Fj hi),Ac (by rw[List.length_singleton];omega),Ac (by rw[hlen];exact Fj hi)]
    rfl
  ·show Cm L (i:Int) (_,_)=_
   unfold Cm;simp only[Gf,cond_false]
 have:Ah (B0 L) ((0:Int),R 0 0)=some (D7 L):=Fp (B0 L) (fun i=>(((i:Nat):Int),R i 0)) (D7 L) L.length (fun i hi=>?_) ?_
 ·have e0:List.replicate L.length ([]:List Int)=R 0 0:=by
   simp only[R]
   apply List.ext_getElem?
   intro j
   by_cases hj:j<L.length<;>simp[hj,List.getElem?_replicate,It]
  rw[e0,this]
 ·show B0 L (_,_)=_
  unfold B0;simp only[Dt hi,cond_true];rw[inner i hi,w1 (by omega)];simp only[Option.bind_some]
  congr 3
  simp only[R]
  apply Gt
  intro j hj
  by_cases h4:j<i
  ·simp[h4,show j<i+1 by omega]
  ·by_cases h5:j=i
   ·subst h5;simp
   ·simp[h4,h5,show ¬ j<i+1 by omega];intro h6;simp[It]
 ·show B0 L (_,_)=_
  unfold B0;simp only[Gf,cond_false]
  congr 2
  simp only[R,D7]
  apply Gt
  intro j hj;simp[hj]
theorem Aam(L:List (List Int))(h:Fits L):Fz L=some (bif Lc L then(Ia L,0) else(g0,5)):=by
 have hroom:(1000:Nat)≤room:=by decide
 unfold Fz
 have hc:(bif ((L.length:Int)==(0:Int)) then true else decide ((64:Int)<(L.length:Int))) = !(decide (1≤L.length)&&decide (L.length≤64)):=by
  by_cases h0:L.length=0
  ·rw[h0];rfl
  ·rw[show((L.length:Int)==0)=false by simp only[beq_eq_false_iff_ne];omega,decide_eq_true (show 1≤L.length by omega)]
   by_cases h1:L.length≤64
   ·rw[decide_eq_true h1,decide_eq_false (show ¬ (64:Int)<(L.length:Int) by omega)];rfl
   ·rw[decide_eq_false h1,decide_eq_true (show(64:Int)<(L.length:Int) by omega)];rfl
 rw[hc];have hm:Lc L=((decide (1≤L.length)&&decide (L.length≤64))&&(List.range L.length).all fun i=>okL L.length (L.getD i [])):=rfl
 cases hb:(decide (1≤L.length)&&decide (L.length≤64)) with
 | false=>rw[hm,hb];rfl
 | true=>
  simp only[Bool.not_true,cond_false];have hb':=hb;simp only[Bool.and_eq_true,decide_eq_true_eq]at hb';have:Ah (Bn L) (0:Int)=_:=Hj (Bn L) (fun j=>((j:Nat):Int)) (fun i=>okL L.length (L.getD i [])) (.inl ()) (.inr (g0,5)) L.length (fun j hj hp=>?_) (fun j hj hp=>?_) ?_
  ·rw[this]
   cases hall:(List.range L.length).all fun i=>okL L.length (L.getD i []) with
   | false=>rw[hm,hb,hall];rfl
   | true=>
    have hmay:Lc L=true:=by rw[hm,hb,hall];rfl
    rw[hmay];simp only[cond_true,Option.bind_some];rw[Ac ⟨by omega,Int.le_refl _,by omega⟩,Au,ref_make_rows L hmay]
    rfl
  ·show Bn L (j:Int)=_
   unfold Bn;simp only[Dt hj,cond_true];rw[X7 L j hj (h.at j),hp,w1 (by omega)]
   rfl
  ·show Bn L (j:Int)=_
   unfold Bn;simp only[Dt hj,cond_true];rw[X7 L j hj (h.at j),hp]
   rfl
  ·show Bn L _=_
   unfold Bn;simp only[Gf,cond_false]
theorem V5{L:List (List Int)}(h:Lc L=true):Fits (Ia L).Succ∧Fits (Ia L).Pred:=⟨Or (N6 h),Or (Rb h)⟩
theorem m_ref_may(g:TGraph)(h:Fits g.Succ):Hs g=some (Uu g):=by
 unfold Hs Uu;rw[Aam _ h,Option.bind_some]
 cases hm:Lc g.Succ with
 | false=>rfl
 | true=>
  simp only[cond_true,beq_self_eq_true,Bool.true_and];rw[m_same _ _ (V5 hm).1 (V5 hm).2];simp only[Option.bind_some]
  congr 1
  apply decide_eq_decide.2
  cases g with
  | mk s p=>
   simp only[Ia,TGraph.mk.injEq,true_and];exact eq_comm
noncomputable section
def upd(s:Nat→Bool)(y:Nat):Nat→Bool:=fun z=>decide (z=y) || s z
theorem upd_true{s:Nat→Bool}{y z:Nat}:upd s y z=true↔z=y∨s z=true:=by simp[upd]
theorem upd_false{s:Nat→Bool}{y z:Nat}:upd s y z=false↔z≠y∧s z=false:=by simp[upd]
inductive VL (S:Nat→List Nat):(Nat→Bool)→List Nat→(Nat→Bool)→List Nat→Prop
 | nil (s:Nat→Bool):VL S s [] s []
 | skip {s s':Nat→Bool} {y:Nat} {l o:List Nat} (h:s y=true) (t:VL S s l s' o):VL S s (y::l) s' o
 | step {s s1 s2:Nat→Bool} {y:Nat} {l o1 o2:List Nat} (h:s y=false) (a:VL S (upd s y) (S y) s1 o1) (b:VL S s1 l s2 o2):VL S s (y::l) s2 (o1++y::o2)
inductive Rch (S:Nat→List Nat):Nat→Nat→Prop
 | refl (x:Nat):Rch S x x
 | head {x y z:Nat} (h:y∈S x) (t:Rch S y z):Rch S x z
theorem Rch.tail{S:Nat→List Nat}{x y z:Nat}(h:Rch S x y)(hz:z∈S y):Rch S x z:=by
 induction h with
 | refl x=>exact .head hz (.refl _)
 | head h _ ih=>exact .head h (ih hz)
theorem Rch.trans{S:Nat→List Nat}{x y z:Nat}(h:Rch S x y)(k:Rch S y z):Rch S x z:=by
 induction h with
 | refl x=>exact k
 | head h _ ih=>exact .head h (ih k)
variable {S:Nat→List Nat} {s s':Nat→Bool} {l o:List Nat}
theorem VL.seen(h:VL S s l s' o)(z:Nat):s' z=true↔s z=true∨z∈o:=by
 induction h with
 | nil s=>simp
 | skip h _ ih=>exact ih
 | @step s s1 s2 y l o1 o2 h a b iha ihb=>
  rw[ihb,iha,upd_true];simp only[List.mem_append,List.mem_cons]
  constructor
  ·rintro((( rfl|h1)|h1)|h1)
   ·exact .inr (.inr (.inl rfl))
   ·exact .inl h1
   ·exact .inr (.inl h1)
   ·exact .inr (.inr (.inr h1))
  ·rintro(h1|h1|rfl|h1)
   ·exact .inl (.inl (.inr h1))
   ·exact .inl (.inr h1)
   ·exact .inl (.inl (.inl rfl))
   ·exact .inr h1
theorem VL.fresh(h:VL S s l s' o){z:Nat}(hz:z∈o):s z=false:=by
 induction h with
 | nil s=>cases hz
 | skip h _ ih=>exact ih hz
 | @step s s1 s2 y l o1 o2 h a b iha ihb=>
  rcases List.mem_append.1 hz with h1|h1
  ·exact(upd_false.1 (iha h1)).2
  ·rcases List.mem_cons.1 h1 with rfl|h1
   ·exact h
   ·have:=ihb h1
    cases hs:s z with
    | false=>rfl
    | true=>rw[(a.seen z).2 (.inl (upd_true.2 (.inr hs)))]at this;cases this
theorem VL.nodup(h:VL S s l s' o):o.Nodup:=by
 induction h with
 | nil s=>exact List.nodup_nil
 | skip h _ ih=>exact ih
 | @step s s1 s2 y l o1 o2 h a b iha ihb=>
  rw[List.nodup_append];refine⟨iha,List.nodup_cons.2 ⟨fun hy=>?_,ihb⟩,fun u hu v hv=>?_⟩
  ·have:=b.fresh hy;rw[(a.seen y).2 (.inl (upd_true.2 (.inl rfl)))]at this
   cases this
  ·rintro rfl;rcases List.mem_cons.1 hv with rfl|hv
   ·have:=a.fresh hu;rw[upd_true.2 (.inl rfl)]at this
    cases this
   ·have:=b.fresh hv;rw[(a.seen u).2 (.inr hu)]at this
    cases this
theorem VL.rch(h:VL S s l s' o){z:Nat}(hz:z∈o):∃ y∈l,Rch S y z:=by
 induction h with
 | nil s=>cases hz
 | skip h _ ih=>obtain⟨y,hy,hr⟩:=ih hz;exact⟨y,List.mem_cons_of_mem _ hy,hr⟩
 | @step s s1 s2 y l o1 o2 h a b iha ihb=>
  rcases List.mem_append.1 hz with h1|h1
  ·obtain⟨u,hu,hr⟩:=iha h1;exact⟨y,List.mem_cons_self ..,.head hu hr⟩
  ·rcases List.mem_cons.1 h1 with rfl|h1
   ·exact⟨z,List.mem_cons_self ..,.refl z⟩
   ·obtain⟨u,hu,hr⟩:=ihb h1;exact⟨u,List.mem_cons_of_mem _ hu,hr⟩
theorem VL.closed(h:VL S s l s' o):(∀ y∈l,s' y=true)∧∀ z∈o,∀ y∈S z,s' y=true:=by
 induction h with
 | nil s=>exact⟨(fun _ h=>by cases h),(fun _ h=>by cases h)⟩
 | @skip s s' y l o h t ih=>
  refine⟨fun u hu=>?_,ih.2⟩;rcases List.mem_cons.1 hu with rfl|hu
  ·exact(t.seen u).2 (.inl h)
  ·exact ih.1 u hu
 | @step s s1 s2 y l o1 o2 h a b iha ihb=>
  refine⟨fun u hu=>?_,fun z hz u hu=>?_⟩
  ·rcases List.mem_cons.1 hu with rfl|hu
   ·exact(b.seen u).2 (.inl ((a.seen u).2 (.inl (upd_true.2 (.inl rfl)))))
   ·exact ihb.1 u hu
  ·rcases List.mem_append.1 hz with h1|h1
   ·exact(b.seen u).2 (.inl (iha.2 z h1 u hu))
   ·rcases List.mem_cons.1 h1 with rfl|h1
    ·exact(b.seen u).2 (.inl (iha.1 u hu))
    ·exact ihb.2 z h1 u hu
theorem VL.above(h:VL S s l s' o)(hf:∀ z,∀ y∈S z,z<y){b:Nat}(hb:∀ y∈l,b<y):∀ z∈o,b<z:=by
 induction h generalizing b with
 | nil s=>intro z hz;cases hz
 | skip h _ ih=>exact ih (fun y hy=>hb y (List.mem_cons_of_mem _ hy))
 | @step s s1 s2 y l o1 o2 h a c iha ihb=>
  intro z hz;have hy:=hb y (List.mem_cons_self ..);rcases List.mem_append.1 hz with h1|h1
  ·exact iha (fun u hu=>Nat.lt_trans hy (hf y u hu)) z h1
  ·rcases List.mem_cons.1 h1 with rfl|h1
   ·exact hy
   ·exact ihb (fun u hu=>hb u (List.mem_cons_of_mem _ hu)) z h1
theorem VL.ahead(h:VL S s l s' o)(hf:∀ z,∀ y∈S z,z<y):∀ z∈o,∀ y∈S z,s y=true∨∃ A B,o=A++z::B∧y∈A:=by
 induction h with
 | nil s=>intro z hz;cases hz
 | skip h _ ih=>exact ih
 | @step s s1 s2 y l o1 o2 h a c iha ihb=>
  intro z hz u hu;rcases List.mem_append.1 hz with h1|h1
  ·have hzy:y<z:=a.above hf (fun v hv=>hf y v hv) z h1;have hzu:=hf z u hu;rcases iha z h1 u hu with h2|⟨A,B,rfl,hA⟩
   ·rcases upd_true.1 h2 with rfl|h2
    ·omega
    ·exact .inl h2
   ·exact .inr ⟨A,B++y::o2,by simp,hA⟩
  ·rcases List.mem_cons.1 h1 with rfl|h1z
   ·have hzu:=hf z u hu;rcases(a.seen u).1 (a.closed.1 u hu) with h2|h2
    ·rcases upd_true.1 h2 with rfl|h2
     ·omega
     ·exact .inl h2
    ·exact .inr ⟨o1,o2,rfl,h2⟩
   ·rcases ihb z h1z u hu with h2|⟨A,B,rfl,hA⟩
    ·rcases(a.seen u).1 h2 with h3|h3
     ·rcases upd_true.1 h3 with rfl|h3
      ·obtain⟨P,Q,rfl⟩:=List.append_of_mem h1z;exact .inr ⟨o1++u::P,Q,by simp,by simp⟩
      ·exact .inl h3
     ·obtain⟨P,Q,rfl⟩:=List.append_of_mem h1z;exact .inr ⟨o1++y::P,Q,by simp,by simp[h3]⟩
    ·exact .inr ⟨o1++y::A,B,by simp,by simp[hA]⟩
def cnt(n:Nat)(s:Nat→Bool):Nat:=((List.range n).filter fun z=>!s z).length
theorem T8{n:Nat}{s:Nat→Bool}{y:Nat}(hy:y<n)(h:s y=false):cnt n (upd s y)+1=cnt n s:=by
 unfold cnt
 induction n with
 | zero=>omega
 | succ n ih=>
  rw[List.range_succ,List.filter_append,List.filter_append,List.length_append,List.length_append]
  by_cases hyn:y=n
  ·subst hyn
   have e:(List.range y).filter (fun z=>!upd s y z)=(List.range y).filter (fun z=>!s z):=by
    apply List.filter_congr
    intro z hz;have:=List.mem_range.1 hz;simp[upd,show z≠y by omega]
   rw[e];simp[upd,h]
  ·have:=ih (by omega)
   have e:([n].filter fun z=>!upd s y z).length=([n].filter fun z=>!s z).length:=by
    simp only[List.filter_cons,List.filter_nil,upd];simp[Ne.symm hyn]
   omega
theorem cnt_mono{n:Nat}{s s':Nat→Bool}(h:∀ z,s z=true→s' z=true):cnt n s'≤cnt n s:=by
 unfold cnt
 apply List.Sublist.length_le
 have:(List.range n).filter (fun z=>!s' z)=((List.range n).filter fun z=>!s z).filter fun z=>!s' z:=by
  rw[List.filter_filter]
  apply List.filter_congr
  intro z _
  cases hs:s z with
  | false=>simp
  | true=>simp[h z hs]
 rw[this];exact List.filter_sublist
theorem VL.exist{n:Nat}(hS:∀ z,z<n→∀ y∈S z,y<n):∀(m:Nat) (s:Nat→Bool),cnt n s≤m→∀ l:List Nat,(∀ y∈l,y<n)→∃ s' o,VL S s l s' o:=by
 intro m
 induction m with
 | zero=>
  intro s hm l
  induction l with
  | nil=>intro _;exact⟨s,[],.nil s⟩
  | cons y l ih=>
   intro hl;obtain⟨s',o,h⟩:=ih (fun z hz=>hl z (List.mem_cons_of_mem _ hz))
   cases hy:s y with
   | true=>exact⟨s',o,.skip hy h⟩
   | false=>have:=T8 (hl y (List.mem_cons_self ..)) hy;omega
 | succ m ih=>
  intro s hm l
  induction l generalizing s with
  | nil=>intro _;exact⟨s,[],.nil s⟩
  | cons y l ihl=>
   intro hl
   cases hy:s y with
   | true=>
    obtain⟨s',o,h⟩:=ihl s hm (fun z hz=>hl z (List.mem_cons_of_mem _ hz));exact⟨s',o,.skip hy h⟩
   | false=>
    have hyn:=hl y (List.mem_cons_self ..);have:=T8 hyn hy;obtain⟨s1,o1,h1⟩:=ih (upd s y) (by omega) (S y) (hS y hyn);have h2:cnt n s1≤cnt n s:=cnt_mono fun z hz=>(h1.seen z).2 (.inl (upd_true.2 (.inr hz)));obtain⟨s2,o2,h3⟩:=ihl s1 (by omega) (fun z hz=>hl z (List.mem_cons_of_mem _ hz));exact⟨s2,_,.step hy h1 h3⟩
def one(r:Nat):Nat→Bool:=fun z=>decide (z=r)
def Ord(S:Nat→List Nat)(r:Nat)(L:List Nat):Prop:=∃ s' o,VL S (one r) (S r) s' o∧L=r::o.reverse
theorem Ord.exist{n:Nat}(hS:∀ z,z<n→∀ y∈S z,y<n){r:Nat}(hr:r<n):∃ L,Ord S r L:=by
 obtain⟨s',o,h⟩:=VL.exist hS _ (one r) (Nat.le_refl _) (S r) (hS r hr);exact⟨_,s',o,h,rfl⟩
theorem Ord.mem{r:Nat}{L:List Nat}(h:Ord S r L)(z:Nat):z∈L↔Rch S r z:=by
 obtain⟨s',o,h,rfl⟩:=h
 have hs:∀ z,s' z=true↔z=r∨z∈o:=fun z=>by rw[h.seen];simp[one]
 have hc:∀ x,s' x=true→∀ y∈S x,s' y=true:=fun x hx y hy=>by
  rcases(hs x).1 hx with rfl|hx
  ·exact h.closed.1 y hy
  ·exact h.closed.2 x hx y hy
 simp only[List.mem_cons,List.mem_reverse];rw[← hs z]
 constructor
 ·intro hz;rcases(hs z).1 hz with rfl|hz
  ·exact .refl _
  ·obtain⟨y,hy,hr⟩:=h.rch hz;exact .head hy hr
 ·intro hr
  have key:∀ x z,Rch S x z→s' x=true→s' z=true:=by
   intro x z hxz
   induction hxz with
   | refl x=>exact id
   | head hy _ ih=>exact fun hx=>ih (hc _ hx _ hy)
  exact key r z hr ((hs r).2 (.inl rfl))
theorem Ord.nodup{r:Nat}{L:List Nat}(h:Ord S r L):L.Nodup:=by
 obtain⟨s',o,h,rfl⟩:=h;refine List.nodup_cons.2 ⟨fun hr=>?_,(List.reverse_perm o).nodup_iff.2 h.nodup⟩;have:=h.fresh (List.mem_reverse.1 hr);simp[one]at this
theorem Ord.fwd{r:Nat}{L:List Nat}(h:Ord S r L)(hf:∀ z,∀ y∈S z,z<y):∀ z∈L,∀ y∈S z,∃ A B,L=A++z::B∧y∈B:=by
 obtain⟨s',o,h,rfl⟩:=h;intro z hz y hy;have hzy:=hf z y hy;rcases List.mem_cons.1 hz with rfl|hz
 ·refine⟨[],o.reverse,rfl,?_⟩;rcases(h.seen y).1 (h.closed.1 y hy) with h1|h1
  ·simp[one]at h1;omega
  ·exact List.mem_reverse.2 h1
 ·have hz:=List.mem_reverse.1 hz;have hrz:r<z:=h.above hf (fun v hv=>hf r v hv) z hz;rcases h.ahead hf z hz y hy with h1|⟨A,B,rfl,hA⟩
  ·simp[one]at h1;omega
  ·exact⟨r::B.reverse,A.reverse,by simp,List.mem_reverse.2 hA⟩
end
theorem m_reverse(l:List Int)(hl:l.length<4611686018427387904):D3 l=some l.reverse:=by
 unfold D3
 by_cases h0:l.length=0
 ·obtain rfl:l=[]:=List.length_eq_zero_iff.1 h0
  have:Ah A9 ((0:Int),(w64 ((([]:List Int).length:Int)-1)),([]:List Int))=some []:=by
   apply Ao
   unfold A9;rw[Iv (by simp) (by simp)]
   rfl
  rw[this];rfl
 ·have hw:w64 ((l.length:Int)-1)=((l.length-1:Nat):Int):=by rw[Iv (by omega) (by omega)];omega
  rw[hw]
  let C:Nat→List Int:=fun k=>(List.range l.length).map fun i=>if i<k∨l.length-1-k<i then l.getD (l.length-1-i) 0 else l.getD i 0
  have hC:∀ k i,i<l.length→(C k).getD i 0=if i<k∨l.length-1-k<i then l.getD (l.length-1-i) 0 else l.getD i 0:=fun k i hi=>by simp only[C];rw[Ny hi]
  have hlen:∀ k,(C k).length=l.length:=fun k=>by simp[C]
  have:=Fp A9 (fun k=>(((k:Nat):Int),((l.length-1-k:Nat):Int),C k)) l.reverse (l.length / 2) (fun k hk=>?_) ?_
  ·have e0:C 0=l:=by
    apply List.ext_getElem (by simp[C])
    intro i h1 h2;have:=hC 0 i h2;rw[Ai _ _ _ h1,Ai _ _ _ h2]at this;rw[this,if_neg (by omega)]
   have this':Ah A9 ((0:Int),((l.length-1:Nat):Int),l)=some l.reverse:=by
    have h2:=this;simp only[e0]at h2;exact h2
   rw[this'];rfl
  ·show A9 (_,_,_)=_
   unfold A9
   have hlt:k<l.length-1-k:=by omega
   simp only[Dt hlt,cond_true,Au];rw[Ac (Fj (by rw[hlen];omega)),Ac (Fj (by rw[hlen];omega)),Ac (Fj (by rw[hlen];omega)),Ac (Fj (by rw[hlen];omega))];rw[w1 (by omega),show w64 (((l.length-1-k:Nat):Int)-1)=((l.length-1-(k+1):Nat):Int) by rw[Iv (by omega) (by omega)];omega]
   congr 4
   rw[hC k _ (by omega),hC k _ (by omega),if_neg (by omega),if_neg (by omega)];simp only[C];rw[Tw,Tw]
   apply Gt
   intro i hi
   by_cases h1:i=k
   ·subst h1;rw[if_neg (by omega),if_pos rfl,if_pos (by omega)]
   ·by_cases h2:i=l.length-1-k
    ·subst h2;rw[if_pos rfl,if_pos (by omega)]
     congr 1;omega
    ·rw[if_neg h2,if_neg h1]
     by_cases h3:i<k∨l.length-1-k<i
     ·rw[if_pos h3,if_pos (by omega)]
     ·rw[if_neg h3,if_neg (by omega)]
  ·show A9 (_,_,_)=_
   unfold A9;have hd:decide (((l.length / 2:Nat):Int)<((l.length-1-l.length / 2:Nat):Int))=false:=decide_eq_false (by omega);simp only[hd,cond_false]
   congr 2
   apply List.ext_getElem (by simp[C])
   intro i h1 h2
   have h3:i<l.length:=by simpa [C] using h1
   have:=hC (l.length / 2) i h3;rw[Ai _ _ _ h1]at this;rw[this,List.getElem_reverse]
   split
   ·rw[Ai _ _ _ (by omega)]
   ·rw[Ai _ _ _ h3]
    congr 1;omega
theorem top{st:List Int}{a:Int}(h:st.length<4611686018427387904):(st++[a]).getD (w64 (((st++[a]).length:Int)-1)).toNat 0=a:=by
 have:w64 (((st++[a]).length:Int)-1)=((st.length:Nat):Int):=by rw[List.length_append,List.length_singleton,Iv (by omega) (by omega)];omega
 rw[this,Au];simp[List.getD]
theorem topi{st:List Int}{a:Int}(h:st.length<4611686018427387904):w64 (((st++[a]).length:Int)-1)=((st.length:Nat):Int):=by
 rw[List.length_append,List.length_singleton,Iv (by omega) (by omega)];omega
theorem L2_done{g:TGraph}{R:List Bool}{st T:List Int}{a:Nat}(hst:st.length<64)(ha:a<g.Succ.length)(h64:g.Succ.length≤64)(ht:T.getD a 0=((g.Succ.getD a []).length:Int)) :
  Gz g R (st++[(a:Int)]) T=some (.done (.inl T)):=by
 unfold Gz;simp only[top (st:=st) (a:=(a:Int)) (by omega),Au];rw[Ac (Fj (by omega)),Ac (Fj ha),ht,Gf,cond_false]
theorem L2_step{g:TGraph}{R:List Bool}{st T:List Int}{a t y:Nat}(hst:st.length<64)(ha:a<g.Succ.length)(h64:g.Succ.length≤64)(ht:T.getD a 0=(t:Int))(htl:t<(g.Succ.getD a []).length)(htm:t<64)
  (hy:(g.Succ.getD a []).getD t 0=(y:Int)) (hyn:y<g.Succ.length) :
  Gz g R (st++[(a:Int)]) T=bif R.getD y false then some (.next (Lx 64 (0:Int) T a ((t+1:Nat):Int))) else some (.done (.inr (Lx 64 false R y true,Lx 64 (0:Int) T a ((t+1:Nat):Int),(st++[(a:Int)])++[(y:Int)]))):=by
 have hroom:(1000:Nat)≤room:=by decide
 unfold Gz;simp only[top (st:=st) (a:=(a:Int)) (by omega),Au,ht,hy];rw[Ac (Fj (by omega)),Ac (Fj ha),Dt htl,cond_true,Ac (Fj ha),Ac (Fj (by omega)),Ac (Fj htl),Ac (Fj (by omega)),Ac (Fj (by omega)),Ac (Fj (by omega)),w1 (by omega)]
 cases R.getD y false with
 | true=>rfl
 | false=>
  simp only[Bool.not_false,cond_true,cond_false];rw[Ac (Fj (by omega)),Ac (by rw[List.length_append,List.length_singleton,List.length_singleton];omega)]
theorem F3_eq{g:TGraph}{R:List Bool}{st T Lf:List Int}{a:Nat}(hst:st.length<64)(hLf:Lf.length<64) :
  Dk g (R,T,st++[(a:Int)],Lf)=(Ah (Gz g R (st++[(a:Int)])) T).bind fun x=>match x with
   | .inl T'=>if st=[] then some (.done (Lf++[(a:Int)]).reverse) else some (.next (R,T',st,Lf++[(a:Int)]))
   | .inr (R',T',st')=>some (.next (R',T',st',Lf)):=by
 have hroom:(1000:Nat)≤room:=by decide
 unfold Dk;simp only
 have hb:Bb (w64 (((st++[(a:Int)]).length:Int)-1)) (st++[(a:Int)]).length:=by rw[topi (by omega)];exact Fj (by simp)
 rw[Ac hb]
 congr 1
 funext x
 cases x with
 | inr y=>obtain⟨R',T',st'⟩:=y;rfl
 | inl T'=>
  simp only[top (st:=st) (a:=(a:Int)) (by omega)];rw[topi (by omega),Au,Ac (by rw[List.length_singleton];omega),Ac ⟨by omega,by simp⟩];have e:(st++[(a:Int)]).take st.length=st:=List.take_left' rfl;rw[e]
  cases st with
  | nil=>
   rw[if_pos rfl]
   have:decide ((0:Int)<(([]:List Int).length:Int))=false:=by decide
   rw[this,cond_false,m_reverse _ (by simp;omega)];simp only[Option.bind_some];rw[Ac (by simp)]
  | cons b st'=>
   rw[if_neg (by simp)];have:decide ((0:Int)<((b::st').length:Int))=true:=decide_eq_true (by simp<;>omega);rw[this,cond_true]
theorem loopO_from{S X:Type}{f:S→Option (LR S X)}{a b:S}(h:f a=f b):Ah f a=Ah f b:=by
 cases hb:f b with
 | none=>rw[Vj (h.trans hb),Vj hb]
 | some r=>cases r with
  | done x=>rw[Ao (h.trans hb),Ao hb]
  | next s=>rw[Aw (h.trans hb),Aw hb]
theorem Yc{S X:Type}{f:S→Option (LR S X)}{s:S}:Pq (f s) f=Ah f s:=by
 unfold Pq
 cases hb:f s with
 | none=>rw[Vj hb];rfl
 | some r=>cases r with
  | done x=>rw[Ao hb];rfl
  | next s'=>rw[Aw hb];rfl
def sN(L:List (List Int))(k:Nat):List Nat:=(L.getD k []).map Int.toNat
def RelS(R:List Bool)(s:Nat→Bool):Prop:=∀ z,z<64→R.getD z false=s z
theorem N2{α:Type}{d:α}{l:List α}{i:Nat}{x:α}{k:Nat}(hk:k<64):(Lx 64 d l i x).getD k d=if k=i then x else l.getD k d:=by
 rw[setN_getD hk]
 by_cases h:k=i
 ·subst h;simp
 ·have:Nat.beq k i=false:=by cases hb:Nat.beq k i with|false=>rfl|true=>exact absurd (Nat.eq_of_beq_eq_true hb) h
  rw[this,if_neg h];rfl
theorem RelS.set{R:List Bool}{s:Nat→Bool}(h:RelS R s){y:Nat}:RelS (Lx 64 false R y true) (upd s y):=fun z hz=>by
 rw[N2 hz,h z hz]
 by_cases hzy:z=y
 ·simp[upd,hzy]
 ·simp[upd,hzy]
def Pi(o:List Nat):List Int:=o.map Int.ofNat
theorem order_main{g:TGraph}(hm:Lc g.Succ=true){s s':Nat→Bool}{l o:List Nat}(hv:VL (sN g.Succ) s l s' o) :
  ∀(R:List Bool) (T st Lf:List Int) (a t:Nat),RelS R s→a<g.Succ.length→l=(sN g.Succ a).drop t→T.getD a 0=(t:Int)→t≤(sN g.Succ a).length→s a=true→(∀ z,z<64→s z=false→T.getD z 0=0)→
   Lf.length+cnt 64 s+st.length+1≤64→
   ∃(R':List Bool) (T':List Int),RelS R' s'∧(∀ z,z<64→s' z=false→T'.getD z 0=0)∧(∀ z,z<64→s z=true→z≠a→T'.getD z 0=T.getD z 0)∧Lf.length+o.length+cnt 64 s'+st.length+1≤64 ∧
    Ah (Dk g) (R,T,st++[(a:Int)],Lf)=if st=[] then some (Lf++Pi o++[(a:Int)]).reverse else Ah (Dk g) (R',T',st,Lf++Pi o++[(a:Int)]):=by
 obtain⟨hL1,hL64,hLok⟩:=mayS_iff.1 hm
 have hlenS:∀ a,(sN g.Succ a).length=(g.Succ.getD a []).length:=fun a=>by simp[sN]
 have hdrop:∀(a t y:Nat) (l':List Nat),a<g.Succ.length→y::l'=(sN g.Succ a).drop t→t<(g.Succ.getD a []).length∧(g.Succ.getD a []).getD t 0=(y:Int)∧y<g.Succ.length∧l'=(sN g.Succ a).drop (t+1):=fun a t y l' ha he=>by
  have ht:t<(sN g.Succ a).length:=by
   rcases Nat.lt_or_ge t (sN g.Succ a).length with h|h
   ·exact h
   ·rw[List.drop_eq_nil_of_le h]at he;cases he
  rw[List.drop_eq_getElem_cons ht]at he;simp only[List.cons.injEq]at he;obtain⟨h1,h2⟩:=he
  have ht':t<(g.Succ.getD a []).length:=by rw[← hlenS];exact ht
  obtain⟨b0,b1⟩:=Tb (hLok a ha) ht'
  have h3:(sN g.Succ a)[t]=((g.Succ.getD a []).getD t 0).toNat:=by rw[Ai _ _ _ ht'];simp[sN]
  exact⟨ht',by omega,by omega,h2⟩
 induction hv with
 | nil s=>
  intro R T st Lf a t hR ha hl hT htl hsa hz hc
  have ht:t=(g.Succ.getD a []).length:=by
   have:=congrArg List.length hl;simp at this;rw[hlenS]at htl this;omega
  refine⟨R,T,hR,hz,fun _ _ _ _=>rfl,by simpa using hc,?_⟩
  have hF:Dk g (R,T,st++[(a:Int)],Lf)=if st=[] then some (.done (Lf++[(a:Int)]).reverse) else some (.next (R,T,st,Lf++[(a:Int)])):=by
   rw[F3_eq (by omega) (by omega),Ao (L2_done (by omega) ha hL64 (by rw[hT,ht]))]
   rfl
  by_cases hst:st=[]
  ·rw[if_pos hst]at hF ⊢;rw[Ao hF];simp[Pi]
  ·rw[if_neg hst]at hF ⊢;rw[Aw hF];simp[Pi]
 | @skip s s' y l o h tl ih=>
  intro R T st Lf a t hR ha hl hT htl hsa hz hc;obtain⟨h1,h2,h3,h4⟩:=hdrop a t y l ha hl;have hb:=Ug (hLok a ha);have hs:=L2_step (g:=g) (R:=R) (st:=st) (T:=T) (a:=a) (t:=t) (y:=y) (by omega) ha hL64 hT h1 (by omega) h2 h3;rw[hR y (by omega),h,cond_true]at hs;obtain⟨R',T',a1,a2,a3,a4,a5⟩:=ih R (Lx 64 (0:Int) T a ((t+1:Nat):Int)) st Lf a (t+1) hR ha h4 (by rw[N2 (by omega),if_pos rfl]) (by rw[hlenS];omega) hsa
   (fun z hz1 hz2=>by rw[N2 hz1,if_neg (by rintro rfl;rw[hsa]at hz2;cases hz2)];exact hz z hz1 hz2) hc
  refine⟨R',T',a1,a2,fun z hz1 hz2 hz3=>by rw[a3 z hz1 hz2 hz3,N2 hz1,if_neg hz3],a4,?_⟩;rw[← a5]
  apply loopO_from
  rw[F3_eq (by omega) (by omega),F3_eq (by omega) (by omega),Aw hs]
 | @step s s1 s2 y l o1 o2 h tl tr ih1 ih2=>
  intro R T st Lf a t hR ha hl hT htl hsa hz hc;obtain⟨h1,h2,h3,h4⟩:=hdrop a t y l ha hl;have hb:=Ug (hLok a ha)
  have hay:y≠a:=by rintro rfl;rw[hsa]at h;cases h
  have hs:=L2_step (g:=g) (R:=R) (st:=st) (T:=T) (a:=a) (t:=t) (y:=y) (by omega) ha hL64 hT h1 (by omega) h2 h3;rw[hR y (by omega),h,cond_false]at hs;have hcu:=T8 (n:=64) (show y<64 by omega) h
  have hF:Dk g (R,T,st++[(a:Int)],Lf)=some (.next (Lx 64 false R y true,Lx 64 (0:Int) T a ((t+1:Nat):Int),(st++[(a:Int)])++[(y:Int)],Lf)):=by
   rw[F3_eq (by omega) (by omega),Ao hs]
   rfl
  obtain⟨R1,T1,b1,b2,b3,b4,b5⟩:=ih1 (Lx 64 false R y true) (Lx 64 (0:Int) T a ((t+1:Nat):Int)) (st++[(a:Int)]) Lf y 0 hR.set h3 (by simp)
   (by rw[N2 (by omega),if_neg hay];exact hz y (by omega) h) (Nat.zero_le _) (upd_true.2 (.inl rfl))
   (fun z hz1 hz2=>by
    obtain⟨c1,c2⟩:=upd_false.1 hz2;rw[N2 hz1,if_neg (by rintro rfl;rw[hsa]at c2;cases c2)]
    exact hz z hz1 c2) (by rw[List.length_append,List.length_singleton];omega)
  rw[if_neg (by simp)]at b5
  have hTa:T1.getD a 0=((t+1:Nat):Int):=by rw[b3 a (by omega) (upd_true.2 (.inr hsa)) (Ne.symm hay),N2 (by omega),if_pos rfl]
  rw[List.length_append,List.length_singleton]at b4;obtain⟨R2,T2,c1,c2,c3,c4,c5⟩:=ih2 R1 T1 st (Lf++Pi o1++[(y:Int)]) a (t+1) b1 ha h4 hTa (by rw[hlenS];omega) ((tl.seen a).2 (.inl (upd_true.2 (.inr hsa)))) b2
   (by simp only[List.length_append,List.length_singleton,Pi,List.length_map];omega)
  refine⟨R2,T2,c1,c2,fun z hz1 hz2 hz3=>?_,?_,?_⟩
  ·rw[c3 z hz1 ((tl.seen z).2 (.inl (upd_true.2 (.inr hz2)))) hz3,b3 z hz1 (upd_true.2 (.inr hz2)) (by rintro rfl;rw[h]at hz2;cases hz2),N2 hz1,if_neg hz3]
  ·simp only[List.length_append,List.length_singleton,Pi,List.length_map,List.length_cons]at c4 ⊢;omega
  ·rw[Aw hF,b5,c5]
   have e:Lf++Pi o1++[(y:Int)]++Pi o2++[(a:Int)]=Lf++Pi (o1++y::o2)++[(a:Int)]:=by simp[Pi]
   rw[e]
theorem Rw{L:List (List Int)}(h:Lc L=true):∀ z,z<L.length→∀ y∈sN L z,y<L.length:=fun z hz y hy=>by
 obtain⟨_,_,h3⟩:=mayS_iff.1 h;obtain⟨x,hx,rfl⟩:=List.mem_map.1 hy;have:=okL_mem (h3 z hz) hx;omega
theorem cnt_one{r:Nat}(hr:r<64):cnt 64 (one r)=63:=by
 have h:=T8 (n:=64) (s:=fun _=>false) hr rfl
 have e:upd (fun _=>false) r=one r:=by funext z;simp[upd,one]
 rw[e]at h
 have:cnt 64 (fun _=>false)=64:=by decide
 omega
theorem Ol{α:Type}{n z:Nat}{d:α}:(List.replicate n d).getD z d=d:=by rw[List.getD_eq_getElem?_getD,List.getElem?_replicate];split<;>rfl
theorem m_order(g:TGraph)(h:Fits g.Succ)(hP:True)(r:Int) :
  (Uu g=true→0≤r→r<(g.Succ.length:Int)→∀ L,Ord (sN g.Succ) r.toNat L→Hw g r=some (Pi L)) ∧
  ((Uu g&&(decide (0≤r)&&decide (r<(g.Succ.length:Int))))=false→Hw g r=some []):=by
 refine⟨fun hm h0 h1 L hL=>?_,fun hf=>?_⟩
 ·have hms:Lc g.Succ=true:=by unfold Uu at hm;exact(Bool.and_eq_true _ _▸hm).1
  obtain⟨hL1,hL64,hLok⟩:=mayS_iff.1 hms;obtain⟨s',o,hv,rfl⟩:=hL;have hrn:((r.toNat:Nat):Int)=r:=Int.toNat_of_nonneg h0
  have hr:r.toNat<g.Succ.length:=by omega
  obtain⟨R',T',_,_,_,_,hmain⟩:=order_main hms hv (Lx 64 false (List.replicate 64 false) r.toNat true) (List.replicate 64 (0:Int)) [] [] r.toNat 0
   (fun z hz=>by rw[N2 hz,Ol];by_cases hzr:z=r.toNat<;>simp[one,hzr]) hr (by simp) Ol (Nat.zero_le _) (by simp[one])
   (fun z hz _=>Ol) (by rw[cnt_one (by omega)];simp)
  rw[if_pos rfl,hrn]at hmain;unfold Hw;rw[m_may _ h,hm,Option.bind_some];simp only[Bool.not_true,beq_self_eq_true,cond_true,cond_false,Py,decide_eq_true h0,decide_eq_true h1,Bool.and_self,Option.bind_some];rw[Ac ⟨h0,by omega⟩];have hF:∀ X,Ah (Dk g) (Lx 64 false (List.replicate 64 false) r.toNat true,List.replicate 64 (0:Int),[]++[r],[])=some X→
    (Pq (Dk g (Lx 64 false (List.replicate 64 false) r.toNat true,List.replicate 64 (0:Int),[r],[])) (Dk g)).bind (fun x=>some x)=some X:=fun X hX=>by
   rw[Yc];rw[List.nil_append]at hX;rw[hX];rfl
  refine(hF _ hmain).trans ?_;simp only[List.nil_append,List.reverse_append,Pi,List.map_cons,List.map_reverse,List.reverse_cons,List.reverse_nil]
  simp
  omega
 ·unfold Hw;rw[m_may _ h,Option.bind_some]
  cases hm:Uu g with
  | false=>rfl
  | true=>
   rw[hm,Bool.true_and]at hf;simp only[Bool.not_true,beq_self_eq_true,cond_true,cond_false,Py,hf,Option.bind_some,Bool.not_false]
   rfl
def RelN(n:Nat)(R:List Bool)(s:Nat→Bool):Prop:=R.length=n∧∀ z,z<n→R.getD z false=s z
theorem RelN.set{n:Nat}{R:List Bool}{s:Nat→Bool}(h:RelN n R s){y:Nat}(hy:y<n):RelN n (R.set y true) (upd s y):=by
 refine⟨by rw[List.length_set];exact h.1,fun z hz=>?_⟩;rw[List.getD_eq_getElem?_getD,List.getElem?_set]
 by_cases hzy:y=z
 ·subst hzy;simp[upd,h.1,hy]
 ·rw[if_neg hzy,← List.getD_eq_getElem?_getD,h.2 z hz];simp[upd,Ne.symm hzy]
theorem M0:∀(n:Nat) (l:List Nat),l.Nodup→(∀ x∈l,x<n)→l.length≤n
 | 0,l,_,h=>by
  cases l with
  | nil=>simp
  | cons x l=>have:=h x (List.mem_cons_self ..);omega
 | n+1,l,hd,h=>by
  by_cases hn:n∈l
  ·have h1:=M0 n (l.erase n) (hd.erase n) fun x hx=>by
    have h2:=(hd.mem_erase_iff).1 hx;have:=h x h2.2;have:=h2.1;omega
   rw[List.length_erase_of_mem hn]at h1;omega
  ·have h1:=M0 n l hd fun x hx=>by
    have:=h x hx
    have:x≠n:=by rintro rfl;exact hn hx
    omega
   omega
theorem sorted_ext:∀{a b:List Int},a.Pairwise (·<·)→b.Pairwise (·<·)→(∀ x,x∈a↔x∈b)→a=b
 | [],[],_,_,_=>rfl
 | [],y::b,_,_,h=>by have:=(h y).2 (List.mem_cons_self ..);cases this
 | x::a,[],_,_,h=>by have:=(h x).1 (List.mem_cons_self ..);cases this
 | x::a,y::b,ha,hb,h=>by
  have ha':=List.pairwise_cons.1 ha;have hb':=List.pairwise_cons.1 hb
  have hxy:x=y:=by
   rcases List.mem_cons.1 ((h x).1 (List.mem_cons_self ..)) with h1|h1
   ·exact h1
   ·rcases List.mem_cons.1 ((h y).2 (List.mem_cons_self ..)) with h2|h2
    ·exact h2.symm
    ·have:=ha'.1 y h2;have:=hb'.1 x h1;omega
  subst hxy
  congr 1
  refine sorted_ext ha'.2 hb'.2 fun z=>⟨fun hz=>?_,fun hz=>?_⟩
  ·rcases List.mem_cons.1 ((h z).1 (List.mem_cons_of_mem _ hz)) with rfl|h1
   ·have:=ha'.1 z hz;omega
   ·exact h1
  ·rcases List.mem_cons.1 ((h z).2 (List.mem_cons_of_mem _ hz)) with rfl|h1
   ·have:=hb'.1 z hz;omega
   ·exact h1
theorem filt_sorted(p:Nat→Bool)(n:Nat):(((List.range n).filter p).map Int.ofNat).Pairwise (·<·):=by
 rw[List.pairwise_map];have:=(List.pairwise_lt_range (n:=n)).filter p
 exact this.imp fun h=>by simpa using h
theorem mem_filt{p:Nat→Bool}{n:Nat}{x:Int}:x∈((List.range n).filter p).map Int.ofNat↔∃ k:Nat,x=(k:Int)∧k<n∧p k=true:=by
 simp only[List.mem_map,List.mem_filter,List.mem_range]
 constructor
 ·rintro⟨k,⟨h1,h2⟩,rfl⟩;exact⟨k,rfl,h1,h2⟩
 ·rintro⟨k,rfl,h1,h2⟩;exact⟨k,⟨h1,h2⟩,rfl⟩
theorem goes_iff{L:List (List Int)}{k i:Nat}:S4 L k i=true↔(i:Int)∈L.getD k []:=by unfold S4;rw[List.contains_iff_mem]
theorem bif_same{b:Bool}{α:Type}{x:α}:(bif b then x else x)=x:=by cases b<;>rfl
def mk(o:List Bool)(l:List Nat):List Bool:=l.foldl (fun o y=>o.set y true) o
theorem mk_len(l:List Nat):∀ o:List Bool,(mk o l).length=o.length:=by
 induction l with
 | nil=>intro o;rfl
 | cons y l ih=>intro o;show(mk (o.set y true) l).length=_;rw[ih,List.length_set]
theorem mk_at{n:Nat}(l:List Nat):∀(o:List Bool),o.length=n→(∀ y∈l,y<n)→∀ z,(mk o l).getD z false=true↔o.getD z false=true∨z∈l:=by
 induction l with
 | nil=>intro o _ _ z;simp[mk]
 | cons y l ih=>
  intro o ho hl z
  show(mk (o.set y true) l).getD z false=true↔_
  rw[ih (o.set y true) (by rw[List.length_set];exact ho) (fun u hu=>hl u (List.mem_cons_of_mem _ hu)) z];have hy:=hl y (List.mem_cons_self ..)
  have e:(o.set y true).getD z false=true↔o.getD z false=true∨z=y:=by
   rw[List.getD_eq_getElem?_getD,List.getElem?_set,List.getD_eq_getElem?_getD]
   by_cases h:y=z
   ·subst h;simp[ho,hy]
   ·simp[h,Ne.symm h]
  rw[e,List.mem_cons]
  constructor
  ·rintro((h|h)|h)
   ·exact .inl h
   ·exact .inr (.inl h)
   ·exact .inr (.inr h)
  ·rintro(h|h|h)
   ·exact .inl (.inl h)
   ·exact .inl (.inr h)
   ·exact .inr h
def sw(S:Nat→List Nat)(o:List Bool):Nat→List Bool
 | 0=>o
 | i+1=>if(sw S o i).getD i false=true then mk (sw S o i) (S i) else sw S o i
def Wm(S:Nat→List Nat)(n:Nat)(o:List Bool):Nat→List Bool
 | 0=>o
 | j+1=>sw S (Wm S n o j) n
section
variable {S:Nat→List Nat} {n:Nat} (hS:∀ z,z<n→∀ y∈S z,y<n)
theorem Pr(o:List Bool):∀ i,(sw S o i).length=o.length:=by
 intro i
 induction i with
 | zero=>rfl
 | succ i ih=>unfold sw;split;rw[mk_len,ih];exact ih
theorem Rd(o:List Bool):∀ j,(Wm S n o j).length=o.length:=by
 intro j
 induction j with
 | zero=>rfl
 | succ j ih=>unfold Wm;rw[Pr,ih]
include hS
theorem Ze{o:List Bool}(ho:o.length=n):∀ i,i≤n→∀ z,o.getD z false=true→(sw S o i).getD z false=true:=by
 intro i
 induction i with
 | zero=>intro _ z h;exact h
 | succ i ih=>
  intro hi z h;unfold sw
  split
  ·exact(mk_at (n:=n) _ _ (by rw[Pr];exact ho) (hS i (by omega)) z).2 (.inl (ih (by omega) z h))
  ·exact ih (by omega) z h
theorem sw_sound{o:List Bool}{r:Nat}(ho:o.length=n)(h:∀ z,o.getD z false=true→Rch S r z):∀ i,i≤n→∀ z,(sw S o i).getD z false=true→Rch S r z:=by
 intro i
 induction i with
 | zero=>intro _ z hz;exact h z hz
 | succ i ih=>
  intro hi z hz;unfold sw at hz
  split at hz
  ·rename_i hsi
   rcases(mk_at (n:=n) _ _ (by rw[Pr];exact ho) (hS i (by omega)) z).1 hz with h1|h1
   ·exact ih (by omega) z h1
   ·exact(ih (by omega) i hsi).tail h1
  ·exact ih (by omega) z hz
theorem sw_step{o:List Bool}(ho:o.length=n):∀ i,i≤n→∀ j,j<i→o.getD j false=true→∀ y∈S j,(sw S o i).getD y false=true:=by
 intro i
 induction i with
 | zero=>intro _ j hj;omega
 | succ i ih=>
  intro hi j hj hoj y hy;unfold sw
  by_cases hji:j=i
  ·subst hji;have h1:=Ze hS ho j (by omega) j hoj;rw[if_pos h1];exact(mk_at (n:=n) _ _ (by rw[Pr];exact ho) (hS j (by omega)) y).2 (.inr hy)
  ·have h1:=ih (by omega) j (by omega) hoj y hy
   split
   ·exact(mk_at (n:=n) _ _ (by rw[Pr];exact ho) (hS i (by omega)) y).2 (.inl h1)
   ·exact h1
theorem sw_closed{o:List Bool}(ho:o.length=n)(hc:∀ j,j<n→o.getD j false=true→∀ y∈S j,o.getD y false=true):∀ i,i≤n→∀ z,(sw S o i).getD z false=true→o.getD z false=true:=by
 intro i
 induction i with
 | zero=>intro _ z h;exact h
 | succ i ih=>
  intro hi z hz;unfold sw at hz
  split at hz
  ·rename_i hsi
   rcases(mk_at (n:=n) _ _ (by rw[Pr];exact ho) (hS i (by omega)) z).1 hz with h1|h1
   ·exact ih (by omega) z h1
   ·exact hc i (by omega) (ih (by omega) i hsi) z h1
  ·exact ih (by omega) z hz
theorem Wn{r:Nat}(hr:r<n)(z:Nat):(Wm S n ((List.replicate n false).set r true) n).getD z false=true↔Rch S r z:=by
 let o0:=(List.replicate n false).set r true
 have ho0:o0.length=n:=by simp[o0]
 have hat0:∀ z,o0.getD z false=true↔z=r:=fun z=>by
  show((List.replicate n false).set r true).getD z false=true↔z=r
  rw[List.getD_eq_getElem?_getD,List.getElem?_set]
  by_cases h:r=z
  ·subst h;simp[hr]
  ·rw[if_neg h,← List.getD_eq_getElem?_getD,Ol];simp[Ne.symm h]
 have hlen:∀ j,(Wm S n o0 j).length=n:=fun j=>by rw[Rd,ho0]
 have hsound:∀ j z,(Wm S n o0 j).getD z false=true→Rch S r z:=by
  intro j
  induction j with
  | zero=>intro z hz;rw[(hat0 z).1 hz];exact .refl _
  | succ j ih=>intro z hz;exact sw_sound hS (hlen j) ih n (Nat.le_refl _) z hz
 have hmono:∀ j,∀ z,o0.getD z false=true→(Wm S n o0 j).getD z false=true:=by
  intro j
  induction j with
  | zero=>intro z h;exact h
  | succ j ih=>intro z h;exact Ze hS (hlen j) n (Nat.le_refl _) z (ih z h)
 let C:Nat→Prop:=fun j=>∀ i,i<n→(Wm S n o0 j).getD i false=true→∀ y∈S i,(Wm S n o0 j).getD y false=true
 have key:∀ j,C j∨cnt n (fun z=>(Wm S n o0 j).getD z false)+j+1≤n:=by
  intro j
  induction j with
  | zero=>
   refine .inr ?_;have h1:=T8 (n:=n) (s:=fun _=>false) hr rfl
   have e:upd (fun _=>false) r=fun z=>(Wm S n o0 0).getD z false:=by
    funext z
    rw[Bool.eq_iff_iff,upd_true]
    show _↔o0.getD z false=true
    rw[hat0]
    simp
   rw[e]at h1
   have hcl:cnt n (fun _=>false)=n:=by
    unfold cnt;rw[List.filter_eq_self.2 (by simp)]
    simp
   omega
  | succ j ih=>
   by_cases hc:C j
   ·refine .inl fun i hi h y hy=>?_;have h1:=sw_closed hS (hlen j) hc n (Nat.le_refl _) i h;exact Ze hS (hlen j) n (Nat.le_refl _) y (hc i hi h1 y hy)
   ·rcases ih with ih|ih
    ·exact(hc ih).elim
    ·refine .inr ?_
     have hex:∃ i,i<n∧(Wm S n o0 j).getD i false=true∧∃ y,y∈S i∧(Wm S n o0 j).getD y false=false:=by
      simp only[C]at hc;simp only[Classical.not_forall]at hc;obtain⟨i,hi,h1,y,hy,h2⟩:=hc;exact⟨i,hi,h1,y,hy,by simpa using h2⟩
     obtain⟨i,hi,h1,y,hy,h2⟩:=hex;have h3:=sw_step hS (hlen j) n (Nat.le_refl _) i hi h1 y hy;have hyn:=hS i hi y hy;have h4:=T8 (n:=n) (s:=fun z=>(Wm S n o0 j).getD z false) hyn h2
     have h5:cnt n (fun z=>(Wm S n o0 (j+1)).getD z false)≤cnt n (upd (fun z=>(Wm S n o0 j).getD z false) y):=cnt_mono fun z hz=>by
      rcases upd_true.1 hz with rfl|hz
      ·exact h3
      ·exact Ze hS (hlen j) n (Nat.le_refl _) z hz
     omega
 have hC:C n:=by
  rcases key n with h|h
  ·exact h
  ·omega
 constructor
 ·exact hsound n z
 ·intro hrch
  have hlt:∀ x z,Rch S x z→x<n→z<n∧((Wm S n o0 n).getD x false=true→(Wm S n o0 n).getD z false=true):=by
   intro x z hxz
   induction hxz with
   | refl x=>exact fun hx=>⟨hx,id⟩
   | @head x y z hy _ ih=>
    intro hx;have:=ih (hS x hx y hy);exact⟨this.1,fun h=>this.2 (hC x hx h y hy)⟩
  exact(hlt r z hrch hr).2 (hmono n r ((hat0 r).2 rfl))
end
theorem m_reach{L:List (List Int)}(hm:Lc L=true){r:Nat}(hr:r<L.length) :
  Cl (Ia L) (r:Int) (-1:Int)=some (Wm (sN L) L.length ((List.replicate L.length false).set r true) L.length):=by
 obtain⟨h1,h2,h3⟩:=mayS_iff.1 hm
 have hroom:(1000:Nat)≤room:=by decide
 have hS:=Rw hm;have hgs:(Ia L).Succ=L:=rfl
 have hlenS:∀ a,(sN L a).length=(L.getD a []).length:=fun a=>by simp[sN]
 have hin:∀(o:List Bool) (i:Nat),o.length=L.length→i<L.length→Ah (Az (Ia L) (-1) (i:Int)) ((0:Int),o)=some (if o.getD i false=true then mk o (sN L i) else o):=fun o i ho hi=>by
  have hb:=Ug (h3 i hi)
  by_cases hoi:o.getD i false=true
  ·rw[if_pos hoi];have hmi:∀ k,(mk o ((sN L i).take k)).getD i false=true:=fun k=>(mk_at (n:=L.length) _ _ ho (fun y hy=>hS i hi y (List.mem_of_mem_take hy)) i).2 (.inl hoi)
   have hml:∀ k,(mk o ((sN L i).take k)).length=L.length:=fun k=>by rw[mk_len,ho]
   refine Fp (Az (Ia L) (-1) (i:Int)) (fun k=>(((k:Nat):Int),mk o ((sN L i).take k))) _ (L.getD i []).length (fun k hk=>?_) ?_
   ·show Az (Ia L) (-1) (i:Int) (_,_)=_
    unfold Az;obtain⟨a0,a1⟩:=Tb (h3 i hi) hk;simp only[hgs,Au,hmi];rw[Ac (Fj (by rw[hml];exact hi)),J8 (Fj hi),cond_true,Dt hk,cond_true,Ac (Fj hi),Ac (Fj hk)]
    have hne:((L.getD i []).getD k 0 !=(-1:Int))=true:=by rw[bne_iff_ne];omega
    rw[hne,cond_true,Ac (Fj hi),Ac (Fj hk),Ac ⟨a0,by rw[hml];exact a1⟩,w1 (by omega)]
    have e:mk o ((sN L i).take (k+1))=(mk o ((sN L i).take k)).set ((L.getD i []).getD k 0).toNat true:=by
     have hk':k<(sN L i).length:=by rw[hlenS];exact hk
     rw[List.take_succ_eq_append_getElem hk'];unfold mk;rw[List.foldl_append]
     have:(sN L i)[k]=((L.getD i []).getD k 0).toNat:=by rw[Ai _ _ _ hk];simp[sN]
     rw[this]
     rfl
    rw[e]
    rfl
   ·show Az (Ia L) (-1) (i:Int) (_,_)=_
    unfold Az;simp only[hgs,Au,hmi];rw[Ac (Fj (by rw[hml];exact hi)),J8 (Fj hi),cond_true,Gf,cond_false]
    have:(sN L i).take (L.getD i []).length=sN L i:=by rw[← hlenS];exact List.take_length ..
    rw[this]
  ·have hof:o.getD i false=false:=by simpa using hoi
   rw[if_neg hoi]
   apply Ao
   unfold Az;simp only[hgs,Au,hof];rw[Ac (Fj (by rw[ho];exact hi)),J8 (Fj hi),cond_false,cond_false]
 have hsw:∀ o:List Bool,o.length=L.length→Ah (A0 (Ia L) (-1)) ((0:Int),o)=some (sw (sN L) o L.length):=fun o ho=>by
  refine Fp (A0 (Ia L) (-1)) (fun i=>(((i:Nat):Int),sw (sN L) o i)) _ L.length (fun i hi=>?_) ?_
  ·show A0 (Ia L) (-1) (_,_)=_
   unfold A0
   have hl:(sw (sN L) o i).length=L.length:=by rw[Pr,ho]
   simp only[hl,Dt hi,cond_true];rw[hin _ i hl hi,w1 (by omega)]
   rfl
  ·show A0 (Ia L) (-1) (_,_)=_
   unfold A0
   have hl:(sw (sN L) o L.length).length=L.length:=by rw[Pr,ho]
   simp only[hl,Gf,cond_false]
 unfold Cl;simp only[hgs,Au];rw[Ac ⟨by omega,Int.le_refl _,by omega⟩]
 have hne:((r:Int)==(-1:Int))=false:=by rw[beq_eq_false_iff_ne];omega
 rw[hne,cond_false,Ac (Fj (by simpa using hr))]
 have hl0:((List.replicate L.length false).set r true).length=L.length:=by simp
 have:Ah (A1 (Ia L) (-1)) ((0:Int),(List.replicate L.length false).set r true)=some (Wm (sN L) L.length ((List.replicate L.length false).set r true) L.length):=by
  refine Fp (A1 (Ia L) (-1)) (fun j=>(((j:Nat):Int),Wm (sN L) L.length ((List.replicate L.length false).set r true) j)) _ L.length (fun j hj=>?_) ?_
  ·show A1 (Ia L) (-1) (_,_)=_
   unfold A1
   have hl:(Wm (sN L) L.length ((List.replicate L.length false).set r true) j).length=L.length:=by rw[Rd,hl0]
   simp only[hl,Dt hj,cond_true];rw[hsw _ hl,w1 (by omega)]
   rfl
  ·show A1 (Ia L) (-1) (_,_)=_
   unfold A1
   have hl:(Wm (sN L) L.length ((List.replicate L.length false).set r true) L.length).length=L.length:=by rw[Rd,hl0]
   simp only[hl,Gf,cond_false]
 rw[this]
 rfl
def pos:List Nat→Nat→Nat
 | [],_=>0
 | x::l,z=>if x=z then 0 else pos l z+1
theorem pos_cons(x:Nat)(l:List Nat)(z:Nat):pos (x::l) z=if x=z then 0 else pos l z+1:=rfl
theorem pos_app{A l:List Nat}{z:Nat}(h:z∉A):pos (A++l) z=A.length+pos l z:=by
 induction A with
 | nil=>simp
 | cons x A ih=>
  have h1:x≠z:=fun e=>h (by rw[e];exact List.mem_cons_self ..);have h2:z∉A:=fun e=>h (List.mem_cons_of_mem _ e);rw[List.cons_append,pos_cons,if_neg h1,ih h2,List.length_cons];omega
theorem Zb{P:List Nat}(hd:P.Nodup){i:Nat}(hi:i<P.length):P[i]∉P.take i∧pos P P[i]=i:=by
 have e:P=P.take i++P[i]::P.drop (i+1):=by rw[← List.drop_eq_getElem_cons hi,List.take_append_drop]
 have hn:P[i]∉P.take i:=by
  rw[e]at hd;have:=(List.nodup_append.1 hd).2.2;exact fun hm=>this _ hm _ (List.mem_cons_self ..) rfl
 refine⟨hn,?_⟩
 have h2:pos (P.take i++P[i]::P.drop (i+1)) P[i]=i:=by
  rw[pos_app hn]
  have:pos (P[i]::P.drop (i+1)) P[i]=0:=by rw[pos_cons,if_pos rfl]
  rw[this,List.length_take];omega
 rw[← e]at h2;exact h2
theorem all_succ{n:Nat}{p:Nat→Bool}:(List.range (n+1)).all p=((List.range n).all p&&p n):=by
 rw[List.range_succ,List.all_append];simp
theorem compact_inv(d:Array Int)(hs:∀ i j,i≤j→j<d.size→d[i]!≤d[j]!):∀ m,m≤d.size→(∀ x∈Lib.compactUpTo d m,∃ j,j<m∧x=d[j]!)∧(∀ j,j<m→d[j]!∈Lib.compactUpTo d m)∧(Lib.compactUpTo d m).Pairwise (·<·):=by
 intro m
 induction m with
 | zero=>intro _;exact⟨(fun x hx=>by simp[Lib.compactUpTo]at hx),(fun j hj=>by omega),by simp[Lib.compactUpTo]⟩
 | succ m ih=>
  intro hm;obtain⟨h1,h2,h3⟩:=ih (by omega);rw[Lib.compactUpTo_succ]
  cases hk:Lib.keeps d m with
  | true=>
   rw[if_pos rfl];refine⟨fun x hx=>?_,fun j hj=>?_,?_⟩
   ·rcases List.mem_append.1 hx with h|h
    ·obtain⟨j,hj,he⟩:=h1 x h;exact⟨j,by omega,he⟩
    ·exact⟨m,by omega,by simpa using h⟩
   ·by_cases hjm:j=m
    ·subst hjm;simp
    ·exact List.mem_append.2 (.inl (h2 j (by omega)))
   ·rw[List.pairwise_append];refine⟨h3,List.pairwise_singleton _ _,fun x hx y hy=>?_⟩;obtain⟨j,hj,rfl⟩:=h1 x hx
    have hy':y=d[m]!:=by simpa using hy
    subst hy'
    have hk':m=0∨d[m]!≠d[m-1]!:=by simpa [Lib.keeps] using hk
    rcases hk' with h0|h0
    ·omega
    ·have a1:=hs j (m-1) (by omega) (by omega);have a2:=hs (m-1) m (by omega) (by omega);omega
  | false=>
   have hk':m≠0∧d[m]! = d[m-1]!:=by
    have:¬ (m=0∨d[m]!≠d[m-1]!):=by
     intro h
     have:Lib.keeps d m=true:=by simpa [Lib.keeps] using h
     rw[hk]at this;cases this
    exact⟨fun h=>this (.inl h),Classical.not_not.1 fun h=>this (.inr h)⟩
   simp only[Bool.false_eq_true,if_false,List.append_nil];refine⟨fun x hx=>by obtain⟨j,hj,he⟩:=h1 x hx;exact⟨j,by omega,he⟩,fun j hj=>?_,h3⟩
   by_cases hjm:j=m
   ·subst hjm;rw[hk'.2];exact h2 _ (by omega)
   ·exact h2 j (by omega)
def X9(l:List Int):List Int:=Lib.compact (l.mergeSort fun x y=>decide (x≤y))
theorem rise_spec(l:List Int):(X9 l).Pairwise (·<·)∧∀ x,x∈X9 l↔x∈l:=by
 unfold X9 Lib.compact;have hp:(l.mergeSort fun x y=>decide (x≤y)).Pairwise (fun a b=>decide (a≤b)=true):=List.pairwise_mergeSort (fun a b c h1 h2=>by simp at *;omega) (fun a b=>by simp;omega) l;have hm:∀ x,x∈(l.mergeSort fun x y=>decide (x≤y))↔x∈l:=fun x=>List.mem_mergeSort
 generalize l.mergeSort (fun x y=>decide (x≤y))=z at hp hm ⊢
 have hz:∀ j,j<z.length→z.toArray[j]! = z.getD j 0:=fun j hj=>by simp[List.getD,hj]
 obtain⟨h1,h2,h3⟩:=compact_inv z.toArray (fun i j hij hj=>by
  have hj':j<z.length:=by simpa using hj
  rw[hz i (by omega),hz j hj']
  by_cases he:i=j
  ·rw[he];exact Int.le_refl _
  ·have:=(List.pairwise_iff_getElem.1 hp) i j (by omega) hj' (by omega);rw[Ai _ _ _ (by omega),Ai _ _ _ hj']
   simpa using this) z.length (by simp)
 refine⟨h3,fun x=>?_⟩;rw[← hm x]
 constructor
 ·intro hx;obtain⟨j,hj,rfl⟩:=h1 x hx;rw[hz j hj];exact As hj
 ·intro hx;obtain⟨j,hj,rfl⟩:=List.getElem_of_mem hx;have:=h2 j hj;rwa[hz j hj,Ai _ _ _ hj]at this
def toB(n:Nat)(l:List Int):Bool:=(List.range l.length).all fun i=>decide (0<l.getD i 0)&&decide (l.getD i 0<(n:Int))
def Yh(k:Int):Int:=([0,1,2,0]:List Int).getD k.toNat 0
def V7(e:Ga):Bool:=(decide (0≤e.Kind)&&decide (e.Kind≤3))&&decide ((e.To.length:Int)=Yh e.Kind)
def Lk(e:Ga)(n:Nat):Bool:=V7 e&&toB n e.To
theorem toB_iff{n:Nat}{l:List Int}:toB n l=true↔∀ x∈l,0<x∧x<n:=by
 unfold toB;rw[all_range];simp only[Bool.and_eq_true,decide_eq_true_eq]
 constructor
 ·intro h x hx;obtain⟨i,hi,rfl⟩:=List.getElem_of_mem hx;have:=h i hi;rwa[Ai _ _ _ hi]at this
 ·intro h i hi;exact h _ (As hi)
theorem end_loop(e:Ga)(n:Nat)(hl:e.To.length<4611686018427387904):Ah (Ci e (n:Int)) (0:Int)=some (bif toB n e.To then .inl () else .inr false):=by
 have step:∀ j:Nat,j<e.To.length→Ci e (n:Int) (j:Int)=bif (decide (0<e.To.getD j 0)&&decide (e.To.getD j 0<(n:Int))) then some (.next (((j+1:Nat):Int))) else some (.done (.inr false)):=fun j hj=>by
  unfold Ci;simp only[Au,Dt hj,cond_true,Py,w1 (show j<4611686018427387904 by omega)];rw[Ac (Fj hj)]
  by_cases h0:e.To.getD j 0=0
  ·rw[h0];rfl
  ·have:(e.To.getD j 0==0)=false:=by rw[beq_eq_false_iff_ne];exact h0
   rw[this];simp only[beq_self_eq_true,cond_true,cond_false,Option.bind_some]
   have e1:decide (0<e.To.getD j 0)=decide (0≤e.To.getD j 0):=by apply decide_eq_decide.2;omega
   rw[e1]
   cases(decide (0≤e.To.getD j 0)&&decide (e.To.getD j 0<(n:Int)))<;>rfl
 have:=Hj (Ci e (n:Int)) (fun j=>((j:Nat):Int)) (fun i=>decide (0<e.To.getD i 0)&&decide (e.To.getD i 0<(n:Int))) (.inl ()) (.inr false) e.To.length (fun j hj hp=>?_) (fun j hj hp=>?_) ?_
 ·exact this
 ·show Ci e (n:Int) (j:Int)=_
  rw[step j hj,hp];rfl
 ·show Ci e (n:Int) (j:Int)=_
  rw[step j hj,hp];rfl
 ·show Ci e (n:Int) _=_
  unfold Ci;simp only[Gf,cond_false]
theorem V2(e:Ga)(n:Nat)(w:Int)(hw:0≤w∧w≤2) :
  (bif ((e.To.length:Int)!=w) then(some false) else((Ah (Ci e (n:Int)) (0:Int)).bind (fun x10=>(match x10 with|(.inl _)=>(some true)|(.inr r12)=>(some r12)))))=some (decide ((e.To.length:Int)=w)&&toB n e.To):=by
 by_cases h:(e.To.length:Int)=w
 ·rw[show((e.To.length:Int)!=w)=false by simpa using h,cond_false,end_loop e n (by omega),decide_eq_true h]
  cases toB n e.To<;>rfl
 ·rw[show((e.To.length:Int)!=w)=true by simpa using h,cond_true,decide_eq_false h];rfl
theorem m_endFits(e:Ga)(n:Nat):Jw e (n:Int)=some (Lk e n):=by
 unfold Jw Lk V7
 by_cases h0:e.Kind=0
 ·rw[h0];exact V2 e n 0 (by omega)
 by_cases h1:e.Kind=1
 ·rw[h1];exact V2 e n 1 (by omega)
 by_cases h2:e.Kind=2
 ·rw[h2];exact V2 e n 2 (by omega)
 by_cases h3:e.Kind=3
 ·rw[h3];exact V2 e n 0 (by omega)
 have e0:(e.Kind==0)=false:=by rw[beq_eq_false_iff_ne];exact h0
 have e1:(e.Kind==1)=false:=by rw[beq_eq_false_iff_ne];exact h1
 have e2:(e.Kind==2)=false:=by rw[beq_eq_false_iff_ne];exact h2
 have e3:(e.Kind==3)=false:=by rw[beq_eq_false_iff_ne];exact h3
 rw[e0,e1,e2,e3]
 have:(decide (0≤e.Kind)&&decide (e.Kind≤3))=false:=by
  by_cases h:0≤e.Kind
  ·rw[decide_eq_false (show ¬ e.Kind≤3 by omega)];simp
  ·rw[decide_eq_false h];rfl
 rw[this]
 rfl
theorem fits_len{e:Ga}{n:Nat}(h:Lk e n=true):e.To.length≤2:=by
 unfold Lk V7 at h;simp only[Bool.and_eq_true,decide_eq_true_eq]at h;obtain⟨⟨⟨h0,h1⟩,h2⟩,_⟩:=h
 have:Yh e.Kind≤2:=by
  have:e.Kind=0∨e.Kind=1∨e.Kind=2∨e.Kind=3:=by omega
  rcases this with h|h|h|h<;>rw[h]<;>decide
 omega
theorem fits_to{e:Ga}{n:Nat}(h:Lk e n=true):toB n e.To=true:=by unfold Lk at h;exact(Bool.and_eq_true _ _▸h).2
def Bg(f:Ab)(i:Nat):Ga:=(f.Blocks.getD i (default:Ad)).End
def Ch(f:Ab):List (List Int):=(List.range f.Blocks.length).map fun i=>X9 (Bg f i).To
def Ld(f:Ab):Bool:=(decide (1≤f.Blocks.length)&&decide (f.Blocks.length≤64))&&(List.range f.Blocks.length).all fun i=>Lk (Bg f i) f.Blocks.length
theorem shape_iff{f:Ab}:Ld f=true↔(1≤f.Blocks.length∧f.Blocks.length≤64)∧∀ i,i<f.Blocks.length→Lk (Bg f i) f.Blocks.length=true:=by
 unfold Ld;rw[Bool.and_eq_true,Bool.and_eq_true,all_range];simp only[decide_eq_true_eq]
theorem rise_ok{f:Ab}{i:Nat}(h:Lk (Bg f i) f.Blocks.length=true):okL f.Blocks.length (X9 (Bg f i).To)=true:=by
 obtain⟨h1,h2⟩:=rise_spec (Bg f i).To;exact okL_of (fun x hx=>by have:=(toB_iff.1 (fits_to h)) x ((h2 x).1 hx);omega) h1
theorem Nm{f:Ab}(h:Ld f=true):Lc (Ch f)=true:=by
 obtain⟨⟨h1,h2⟩,h3⟩:=shape_iff.1 h
 have hl:(Ch f).length=f.Blocks.length:=by simp[Ch]
 refine mayS_iff.2 ⟨by omega,by omega,fun i hi=>?_⟩;rw[hl]at hi ⊢;unfold Ch;rw[Ny hi];exact rise_ok (h3 i hi)
theorem m_of(f:Ab)(hf:f.Blocks.length≤maxLen):Og f=some (bif Ld f then(Ia (Ch f),0) else(g0,5)):=by
 have hroom:(1000:Nat)≤room:=by decide
 unfold Og;rw[m_isCount,Option.bind_some];have hsh:Ld f=((decide (1≤f.Blocks.length)&&decide (f.Blocks.length≤64))&&(List.range f.Blocks.length).all fun i=>Lk (Bg f i) f.Blocks.length):=rfl
 cases hc:(decide (1≤f.Blocks.length)&&decide (f.Blocks.length≤64)) with
 | false=>rw[hsh,hc];rfl
 | true=>
  have hc':=hc;simp only[Bool.and_eq_true,decide_eq_true_eq]at hc';simp only[Bool.not_true,cond_false];rw[Ac ⟨by omega,Int.le_refl _,by omega⟩,Au]
  let U:Nat→List (List Int):=fun i=>(List.range f.Blocks.length).map fun j=>if j<i then X9 (Bg f j).To else[]
  have e0:List.replicate f.Blocks.length ([]:List Int)=U 0:=by
   simp only[U]
   apply List.ext_getElem?
   intro j
   by_cases hj:j<f.Blocks.length<;>simp[hj,List.getElem?_replicate]
  have eN:U f.Blocks.length=Ch f:=by
   simp only[U,Ch]
   apply Gt
   intro j hj;rw[if_pos hj]
  rw[e0]
  have hstep:∀ i:Nat,i<f.Blocks.length→F9 f ((i:Int),U i)=bif Lk (Bg f i) f.Blocks.length then some (.next (((i+1:Nat):Int),U (i+1))) else some (.done (.inr (g0,5))):=fun i hi=>by
   unfold F9;simp only[Dt hi,cond_true,Au];rw[Ac (Fj hi)];have he:(⟨(f.Blocks.getD i (default:Ad)).End.Kind,(f.Blocks.getD i (default:Ad)).End.Arg,(f.Blocks.getD i (default:Ad)).End.To⟩:Ga)=Bg f i:=rfl;rw[he,m_endFits,Option.bind_some]
   cases hfit:Lk (Bg f i) f.Blocks.length with
   | false=>rfl
   | true=>
    have hl2:=fits_len hfit;simp only[Bool.not_true,cond_false,cond_true]
    have hx:Ww (f.Blocks.getD i (default:Ad)).End.To=some (X9 (Bg f i).To):=by
     unfold Ww;rw[Ac (by show(Bg f i).To.length≤_;omega)]
     rfl
    rw[hx,Option.bind_some,Ac (Fj (by simp[U];omega)),w1 (by omega)]
    congr 3
    simp only[U];rw[Tw]
    apply Gt
    intro j hj
    by_cases h1:j=i
    ·subst h1;rw[if_pos rfl,if_pos (by omega)]
    ·rw[if_neg h1]
     by_cases h2:j<i
     ·rw[if_pos h2,if_pos (by omega)]
     ·rw[if_neg h2,if_neg (by omega)]
  have:=Hj (F9 f) (fun i=>(((i:Nat):Int),U i)) (fun i=>Lk (Bg f i) f.Blocks.length) (.inl (U f.Blocks.length)) (.inr (g0,5)) f.Blocks.length (fun i hi hp=>?_) (fun i hi hp=>?_) ?_
  ·rw[show Ah (F9 f) ((0:Int),U 0)=_ from this,hsh,hc,eN,Bool.true_and]
   cases hall:(List.range f.Blocks.length).all fun i=>Lk (Bg f i) f.Blocks.length with
   | false=>rfl
   | true=>
    simp only[cond_true,Option.bind_some];rw[m_comers _ (Nm (by rw[hsh,hc,hall];rfl))]
    rfl
  ·show F9 f (_,_)=_
   rw[hstep i hi,hp];rfl
  ·show F9 f (_,_)=_
   rw[hstep i hi,hp];rfl
  ·show F9 f (_,_)=_
   unfold F9;simp only[Gf,cond_false]
def Wo(l:List Int)(k:Nat):List Int:=((List.range k).filter fun z:Nat=>decide (1≤z)&&l.contains (z:Int)).map Int.ofNat
theorem ref_rise{n:Nat}{l:List Int}(h:toB n l=true):Wo l n=X9 l:=by
 obtain⟨h1,h2⟩:=rise_spec l;refine sorted_ext (filt_sorted _ _) h1 fun x=>?_;rw[h2 x];unfold Wo;rw[mem_filt]
 constructor
 ·rintro⟨k,rfl,_,hk⟩;simp only[Bool.and_eq_true]at hk;exact List.contains_iff_mem.1 hk.2
 ·intro hx;have:=(toB_iff.1 h) x hx;refine⟨x.toNat,by omega,by omega,?_⟩;rw[Int.toNat_of_nonneg (by omega),List.contains_iff_mem.2 hx,decide_eq_true (by omega)]
  rfl
theorem ref_of_L1(f:Ab)(i:Nat)(hl:(Bg f i).To.length<4611686018427387904):Ah (B2 f (i:Int)) (0:Int)=some (bif toB f.Blocks.length (Bg f i).To then .inl () else .inr (g0,5)):=by
 have hE:(f.Blocks.getD i (default:Ad)).End=Bg f i:=rfl
 have step:∀ j:Nat,j<(Bg f i).To.length→B2 f (i:Int) (j:Int)=bif (decide (0<(Bg f i).To.getD j 0)&&decide ((Bg f i).To.getD j 0<(f.Blocks.length:Int))) then some (.next (((j+1:Nat):Int))) else some (.done (.inr (g0,5))):=fun j hj=>by
  unfold B2;simp only[Au,hE,Dt hj,cond_true,w1 (show j<4611686018427387904 by omega)];rw[Ac (Fj hj),J8 (Fj hj)]
  by_cases h0:(Bg f i).To.getD j 0≤0
  ·rw[decide_eq_true h0,decide_eq_false (show ¬ 0<(Bg f i).To.getD j 0 by omega)];rfl
  ·rw[decide_eq_false h0,decide_eq_true (show 0<(Bg f i).To.getD j 0 by omega)]
   by_cases h1:(f.Blocks.length:Int)≤(Bg f i).To.getD j 0
   ·rw[decide_eq_true h1,decide_eq_false (show ¬ (Bg f i).To.getD j 0<(f.Blocks.length:Int) by omega)];rfl
   ·rw[decide_eq_false h1,decide_eq_true (show(Bg f i).To.getD j 0<(f.Blocks.length:Int) by omega)];rfl
 have:=Hj (B2 f (i:Int)) (fun j=>((j:Nat):Int)) (fun k=>decide (0<(Bg f i).To.getD k 0)&&decide ((Bg f i).To.getD k 0<(f.Blocks.length:Int))) (.inl ()) (.inr (g0,5)) (Bg f i).To.length (fun j hj hp=>?_) (fun j hj hp=>?_) ?_
 ·exact this
 ·show B2 f (i:Int) (j:Int)=_
  rw[step j hj,hp];rfl
 ·show B2 f (i:Int) (j:Int)=_
  rw[step j hj,hp];rfl
 ·show B2 f (i:Int) _=_
  unfold B2;simp only[Au,hE,Gf,cond_false]
theorem ref_of_L2(f:Ab)(i:Nat)(hn:1≤f.Blocks.length∧f.Blocks.length≤64)(hl:(Bg f i).To.length<4611686018427387904):Ah (B3 f (i:Int)) (([]:List Int),(1:Int))=some (Wo (Bg f i).To f.Blocks.length):=by
 have hroom:(1000:Nat)≤room:=by decide
 have hE:(f.Blocks.getD i (default:Ad)).End=Bg f i:=rfl
 have e0:Wo (Bg f i).To 1=[]:=by unfold Wo;simp
 have key:=Fp (B3 f (i:Int)) (fun k=>(Wo (Bg f i).To (k+1),((k+1:Nat):Int))) (Wo (Bg f i).To f.Blocks.length) (f.Blocks.length-1) (fun k hk=>?_) ?_
 ·rw[show Ah (B3 f (i:Int)) (([]:List Int),(1:Int))=Ah (B3 f (i:Int)) (Wo (Bg f i).To 1,(1:Int)) by rw[e0]];exact key
 ·show B3 f (i:Int) (_,_)=_
  unfold B3
  have hlen:(Wo (Bg f i).To (k+1)).length≤k+1:=by
   unfold Wo;rw[List.length_map];have:=List.length_filter_le (fun z:Nat=>decide (1≤z)&&(Bg f i).To.contains ((z:Nat):Int)) (List.range (k+1))
   simpa using this
  simp only[Au,hE,Dt (show k+1<f.Blocks.length by omega),cond_true];rw[m_has _ _ hl,Option.bind_some,w1 (by omega)]
  have hs:Wo (Bg f i).To (k+1+1)=Wo (Bg f i).To (k+1)++(if(Bg f i).To.contains (((k+1:Nat)):Int)=true then[((k+1:Nat):Int)] else[]):=by
   unfold Wo;rw[List.range_succ,List.filter_append,List.map_append]
   congr 1
   cases hg:(Bg f i).To.contains (((k+1:Nat)):Int) with
   | true=>rw[List.filter_cons,hg];simp
   | false=>rw[List.filter_cons,hg];simp
  rw[hs]
  cases hg:(Bg f i).To.contains (((k+1:Nat)):Int) with
  | true=>
   rw[cond_true,Ac (by rw[List.length_singleton];omega)]
   rfl
  | false=>rw[cond_false];simp
 ·show B3 f (i:Int) (_,_)=_
  unfold B3;simp only[show f.Blocks.length-1+1=f.Blocks.length by omega,Gf,cond_false]
theorem m_ref_of(f:Ab)(hf:f.Blocks.length≤maxLen):G1 f=some (bif Ld f then(Ia (Ch f),0) else(g0,5)):=by
 have hroom:(1000:Nat)≤room:=by decide
 unfold G1
 have hc:(bif ((f.Blocks.length:Int)==(0:Int)) then true else decide ((64:Int)<(f.Blocks.length:Int))) = !(decide (1≤f.Blocks.length)&&decide (f.Blocks.length≤64)):=by
  by_cases h0:f.Blocks.length=0
  ·rw[h0];rfl
  ·rw[show((f.Blocks.length:Int)==0)=false by simp only[beq_eq_false_iff_ne];omega,decide_eq_true (show 1≤f.Blocks.length by omega)]
   by_cases h1:f.Blocks.length≤64
   ·rw[decide_eq_true h1,decide_eq_false (show ¬ (64:Int)<(f.Blocks.length:Int) by omega)];rfl
   ·rw[decide_eq_false h1,decide_eq_true (show(64:Int)<(f.Blocks.length:Int) by omega)];rfl
 rw[hc];have hsh:Ld f=((decide (1≤f.Blocks.length)&&decide (f.Blocks.length≤64))&&(List.range f.Blocks.length).all fun i=>Lk (Bg f i) f.Blocks.length):=rfl
 cases hb:(decide (1≤f.Blocks.length)&&decide (f.Blocks.length≤64)) with
 | false=>rw[hsh,hb];rfl
 | true=>
  have hb':=hb;simp only[Bool.and_eq_true,decide_eq_true_eq]at hb';simp only[Bool.not_true,cond_false]
  let U:Nat→List (List Int):=fun i=>(List.range i).map fun j=>Wo (Bg f j).To f.Blocks.length
  have hstep:∀ i:Nat,i<f.Blocks.length→B4 f (U i,(i:Int))=bif Lk (Bg f i) f.Blocks.length then some (.next (U (i+1),((i+1:Nat):Int))) else some (.done (.inr (g0,5))):=fun i hi=>by
   unfold B4;have hE:(f.Blocks.getD i (default:Ad)).End=Bg f i:=rfl;simp only[Dt hi,cond_true,Au,hE];rw[Ac (Fj hi),w1 (by omega)]
   by_cases hk:0≤(Bg f i).Kind∧(Bg f i).Kind≤3
   ·rw[decide_eq_false (show ¬ (Bg f i).Kind<0 by omega),decide_eq_false (show ¬ (3:Int)<(Bg f i).Kind by omega)];simp only[cond_false];rw[J8 (show Bb (Bg f i).Kind ([(0:Int),1,2,0]:List Int).length from⟨hk.1,by show(Bg f i).Kind<4;omega⟩)];have hw:([(0:Int),1,2,0]:List Int).getD (Bg f i).Kind.toNat 0=Yh (Bg f i).Kind:=rfl;rw[hw]
    have hkb:V7 (Bg f i)=decide (((Bg f i).To.length:Int)=Yh (Bg f i).Kind):=by
     unfold V7;rw[decide_eq_true hk.1,decide_eq_true hk.2];rfl
    unfold Lk;rw[hkb]
    by_cases hl:((Bg f i).To.length:Int)=Yh (Bg f i).Kind
    ·have hw2:Yh (Bg f i).Kind≤2:=by
      have:(Bg f i).Kind=0∨(Bg f i).Kind=1∨(Bg f i).Kind=2∨(Bg f i).Kind=3:=by omega
      rcases this with h|h|h|h<;>rw[h]<;>decide
     rw[show(((Bg f i).To.length:Int)!=Yh (Bg f i).Kind)=false by simpa using hl,decide_eq_true hl,cond_false,ref_of_L1 f i (by omega),Bool.true_and]
     cases htb:toB f.Blocks.length (Bg f i).To with
     | false=>rfl
     | true=>
      simp only[cond_true,Option.bind_some];rw[ref_of_L2 f i hb' (by omega)];simp only[Option.bind_some];rw[Ac (by simp only[U,List.length_map,List.length_range,List.length_singleton];omega)]
      congr 3
      simp only[U];rw[List.range_succ,List.map_append]
      rfl
    ·rw[show(((Bg f i).To.length:Int)!=Yh (Bg f i).Kind)=true by simpa using hl,decide_eq_false hl];rfl
   ·have hbad:(bif decide ((Bg f i).Kind<0) then true else decide ((3:Int)<(Bg f i).Kind))=true:=by
     by_cases h0:(Bg f i).Kind<0
     ·rw[decide_eq_true h0];rfl
     ·rw[decide_eq_false h0,decide_eq_true (show(3:Int)<(Bg f i).Kind by omega)];rfl
    have hkb:V7 (Bg f i)=false:=by
     unfold V7
     by_cases h0:0≤(Bg f i).Kind
     ·rw[decide_eq_false (show ¬ (Bg f i).Kind≤3 by omega)];simp
     ·rw[decide_eq_false h0];simp
    simp only[hbad];rw[Ac (by intro h;cases h)];unfold Lk;rw[hkb]
    rfl
  have:=Hj (B4 f) (fun i=>(U i,((i:Nat):Int))) (fun i=>Lk (Bg f i) f.Blocks.length) (.inl (U f.Blocks.length)) (.inr (g0,5)) f.Blocks.length (fun i hi hp=>?_) (fun i hi hp=>?_) ?_
  ·rw[show Ah (B4 f) (([]:List (List Int)),(0:Int))=_ from this,hsh,hb,Bool.true_and]
   cases hall:(List.range f.Blocks.length).all fun i=>Lk (Bg f i) f.Blocks.length with
   | false=>rfl
   | true=>
    have hshape:Ld f=true:=by rw[hsh,hb,hall];rfl
    have hm:=Nm hshape
    have hU:U f.Blocks.length=Ch f:=by
     simp only[U,Ch]
     apply Gt
     intro j hj;exact ref_rise (fits_to ((shape_iff.1 hshape).2 j hj))
    simp only[cond_true,Option.bind_some];rw[hU,Aam _ (Or (N6 hm)),hm]
    rfl
  ·show B4 f (_,_)=_
   rw[hstep i hi,hp];rfl
  ·show B4 f (_,_)=_
   rw[hstep i hi,hp];rfl
  ·show B4 f (_,_)=_
   unfold B4;simp only[Gf,cond_false]
inductive Rc (S:Nat→List Nat) (r:Nat):Nat→Prop
 | root:Rc S r r
 | step {x y:Nat} (h:Rc S r x) (hy:y∈S x):Rc S r y
inductive Av (S:Nat→List Nat) (r z:Nat):Nat→Prop
 | root (h:r≠z):Av S r z r
 | step {x y:Nat} (h:Av S r z x) (hy:y∈S x) (hz:y≠z):Av S r z y
inductive AvN (S:Nat→List Nat) (r z:Nat):Nat→Nat→Prop
 | root (h:r≠z) (k:Nat):AvN S r z k r
 | step {k x y:Nat} (h:AvN S r z k x) (hy:y∈S x) (hz:y≠z):AvN S r z (k+1) y
section
variable {S:Nat→List Nat} {r:Nat}
theorem rc_iff{x:Nat}:Rc S r x↔Rch S r x:=by
 constructor
 ·intro h
  induction h with
  | root=>exact .refl _
  | step _ hy ih=>exact ih.tail hy
 ·intro h
  have key:∀ a b,Rch S a b→Rc S r a→Rc S r b:=by
   intro a b hab
   induction hab with
   | refl x=>exact id
   | head hy _ ih=>exact fun ha=>ih (.step ha hy)
  exact key _ _ h .root
def wo(S:Nat→List Nat)(z:Nat):Nat→List Nat:=fun x=>(S x).filter fun y=>decide (y≠z)
theorem av_iff{z x:Nat}:Av S r z x↔r≠z∧Rch (wo S z) r x:=by
 constructor
 ·intro h
  induction h with
  | root h=>exact⟨h,.refl _⟩
  | step _ hy hz ih=>exact⟨ih.1,ih.2.tail (List.mem_filter.2 ⟨hy,by simpa using hz⟩)⟩
 ·rintro⟨hr,h⟩
  have key:∀ a b,Rch (wo S z) a b→Av S r z a→Av S r z b:=by
   intro a b hab
   induction hab with
   | refl x=>exact id
   | head hy _ ih=>
    obtain⟨h1,h2⟩:=List.mem_filter.1 hy;exact fun ha=>ih (.step ha h1 (by simpa using h2))
  exact key _ _ h (.root hr)
theorem Av.rc{z x:Nat}(h:Av S r z x):Rc S r x:=by
 induction h with
 | root _=>exact .root
 | step _ hy _ ih=>exact .step ih hy
theorem Av.ne{z x:Nat}(h:Av S r z x):x≠z:=by
 cases h with
 | root h=>exact h
 | step _ _ hz=>exact hz
theorem AvN.av{z k x:Nat}(h:AvN S r z k x):Av S r z x:=by
 induction h with
 | root h=>exact .root h
 | step _ hy hz ih=>exact .step ih hy hz
theorem AvN.up{z k x:Nat}(h:AvN S r z k x):AvN S r z (k+1) x:=by
 induction h with
 | root h k=>exact .root h _
 | step _ hy hz ih=>exact .step ih hy hz
theorem AvN.mono{z k m x:Nat}(h:AvN S r z k x)(hm:k≤m):AvN S r z m x:=by
 obtain⟨d,rfl⟩:=Nat.exists_eq_add_of_le hm;clear hm
 induction d with
 | zero=>exact h
 | succ d ih=>exact ih.up
theorem Av.avn{z x:Nat}(h:Av S r z x):∃ k,AvN S r z k x:=by
 induction h with
 | root h=>exact⟨0,.root h 0⟩
 | step _ hy hz ih=>obtain⟨k,hk⟩:=ih;exact⟨k+1,.step hk hy hz⟩
theorem AvN.via {z k x : Nat} (h : AvN S r z k x) (y : Nat) : AvN S r y k x ∨ AvN S r z k y := by
  induction h with
  | root h k => by_cases hy : r = y
                · subst hy; exact .inr (.root h _)
                · exact .inl (.root hy _)
  | @step k x w h hy hz ih =>
    rcases ih with h1 | h1
    · by_cases hw : w = y
      · subst hw; exact .inr (.step h hy hz)
      · exact .inl (.step h1 hy hw)
    · exact .inr h1.up
theorem avn_bound(n:Nat):∃ K,∀ z,z<n→∀ x,x<n→Av S r z x→AvN S r z K x:=by
 have one:∀ z m,∃ K,∀ x,x<m→Av S r z x→AvN S r z K x:=by
  intro z m
  induction m with
  | zero=>exact⟨0,fun x hx=>absurd hx (Nat.not_lt_zero x)⟩
  | succ m ih=>
   obtain⟨K,hK⟩:=ih
   by_cases h:Av S r z m
   ·obtain⟨k,hk⟩:=h.avn;refine⟨max K k,fun x hx ha=>?_⟩;rcases Nat.lt_succ_iff_lt_or_eq.1 hx with h1|rfl
    ·exact(hK x h1 ha).mono (Nat.le_max_left ..)
    ·exact hk.mono (Nat.le_max_right ..)
   ·refine⟨K,fun x hx ha=>?_⟩;rcases Nat.lt_succ_iff_lt_or_eq.1 hx with h1|rfl
    ·exact hK x h1 ha
    ·exact absurd ha h
 have two:∀ m,∃ K,∀ z,z<m→∀ x,x<n→Av S r z x→AvN S r z K x:=by
  intro m
  induction m with
  | zero=>exact⟨0,fun x hx=>absurd hx (Nat.not_lt_zero x)⟩
  | succ m ih=>
   obtain⟨K,hK⟩:=ih;obtain⟨k,hk⟩:=one m n;refine⟨max K k,fun z hz x hx ha=>?_⟩;rcases Nat.lt_succ_iff_lt_or_eq.1 hz with h1|rfl
   ·exact(hK z h1 x hx ha).mono (Nat.le_max_left ..)
   ·exact(hk x hx ha).mono (Nat.le_max_right ..)
 exact two n
end
inductive UpTo (par:Nat→Int):Nat→Nat→Prop
 | refl (x:Nat):UpTo par x x
 | up {x y z:Nat} (h:par x=(y:Int)) (t:UpTo par y z):UpTo par x z
inductive Fw (S:Nat→List Nat) (at_:Nat→Nat) (u:Nat):Nat→Prop
 | refl:Fw S at_ u u
 | step {v w:Nat} (h:Fw S at_ u v) (hw:w∈S v) (hl:at_ v<at_ w):Fw S at_ u w
section
variable {S:Nat→List Nat} {at_:Nat→Nat} {par:Nat→Int}
theorem Fw.le{u w:Nat}(h:Fw S at_ u w):at_ u≤at_ w:=by
 induction h with
 | refl=>exact Nat.le_refl _
 | step _ _ hl ih=>omega
theorem Fw.trans{u v w:Nat}(h:Fw S at_ u v)(k:Fw S at_ v w):Fw S at_ u w:=by
 induction k with
 | refl=>exact h
 | step _ hw hl ih=>exact .step ih hw hl
theorem Fw.av{r d u w:Nat}(h:Fw S at_ u w)(ha:Av S r d u)(hd:at_ d<at_ u):Av S r d w:=by
 induction h with
 | refl=>exact ha
 | @step v w h hw hl ih=>exact .step ih hw (by rintro rfl;have:=h.le;omega)
theorem UpTo.trans{x y z:Nat}(h:UpTo par x y)(k:UpTo par y z):UpTo par x z:=by
 induction h with
 | refl x=>exact k
 | up h _ ih=>exact .up h (ih k)
theorem anc_up{x p z:Nat}(h:par x=(p:Int)):UpTo par x z↔z=x∨UpTo par p z:=by
 constructor
 ·intro k
  cases k with
  | refl=>exact .inl rfl
  | up h' t=>rw[h]at h';cases Int.ofNat.inj h';exact .inr t
 ·rintro(rfl|k)
  ·exact .refl _
  ·exact .up h k
theorem Yz{x z:Nat}(h:∀ p:Nat,par x≠(p:Int)):UpTo par x z↔z=x:=by
 constructor
 ·intro k
  cases k with
  | refl=>rfl
  | up h' t=>exact absurd h' (h _)
 ·rintro rfl;exact .refl _
structure Inv(S:Nat→List Nat)(r n:Nat)(at_:Nat→Nat)(par:Nat→Int):Prop where
 top:par r = -1
 kind:∀ x,x<n→par x = -2∨x=r∨∃ z:Nat,par x=(z:Int)
 up:∀ x,x<n→∀ z:Nat,par x=(z:Int)→z<n∧par z≠-2∧at_ z<at_ x∧Fw S at_ z x
 rc:∀ x,x<n→par x≠-2→Rc S r x
 all:∀ x,x<n→par x≠-2→∀ d,¬ UpTo par x d→Av S r d x
end
section
variable {S:Nat→List Nat} {at_:Nat→Nat} {par:Nat→Int} {r n:Nat}
theorem Inv.anc(h:Inv S r n at_ par){x z:Nat}(k:UpTo par x z)(hx:x<n)(hp:par x≠-2):z<n∧par z≠-2∧at_ z≤at_ x∧Fw S at_ z x:=by
 induction k with
 | refl x=>exact⟨hx,hp,Nat.le_refl _,.refl⟩
 | @up x y z hxy t ih=>
  obtain⟨h1,h2,h3,h4⟩:=h.up x hx y hxy;obtain⟨i1,i2,i3,i4⟩:=ih h1 h2;exact⟨i1,i2,by omega,i4.trans h4⟩
theorem Inv.root_anc(h:Inv S r n at_ par){z:Nat}:UpTo par r z↔z=r:=Yz fun p hp=>by rw[h.top]at hp;omega
theorem Inv.strict(h:Inv S r n at_ par){x z:Nat}(k:UpTo par x z)(hx:x<n)(hp:par x≠-2):z=x∨at_ z<at_ x:=by
 cases k with
 | refl=>exact .inl rfl
 | up hxy t=>
  obtain⟨h1,h2,h3,h4⟩:=h.up x hx _ hxy;obtain⟨i1,i2,i3,i4⟩:=h.anc t h1 h2;exact .inr (by omega)
theorem Inv.antisymm(h:Inv S r n at_ par){x z:Nat}(k:UpTo par x z)(m:UpTo par z x)(hx:x<n)(hp:par x≠-2):z=x:=by
 rcases h.strict k hx hp with rfl|h1
 ·rfl
 ·obtain⟨i1,i2,i3,i4⟩:=h.anc k hx hp;have:=(h.anc m i1 i2).2.2.1;omega
def MeetAt(par:Nat→Int)(a b m:Nat):Prop:=∀ w,UpTo par m w↔UpTo par a w∧UpTo par b w
theorem meet_self{a:Nat}:MeetAt par a a a:=fun w=>by simp
theorem meet_swap{a b m:Nat}(h:MeetAt par a b m):MeetAt par b a m:=fun w=>by rw[h w];exact And.comm
theorem Inv.meet_left(h:Inv S r n at_ par)(hinj:∀ x y,x<n→y<n→par x≠-2→par y≠-2→at_ x=at_ y→x=y){a b p m:Nat}(ha:a<n)(hpa:par a≠-2)(hb:b<n)(hpb:par b≠-2)(hab:a≠b)(hl:at_ b≤at_ a)(hp:par a=(p:Int))(k:MeetAt par p b m):MeetAt par a b m:=fun w=>by
 rw[k w]
 constructor
 ·rintro⟨h1,h2⟩;exact⟨.up hp h1,h2⟩
 ·rintro⟨h1,h2⟩;rcases(anc_up hp).1 h1 with rfl|h1
  ·exfalso
   rcases h.strict h2 hb hpb with h3|h3
   ·exact hab h3
   ·omega
  ·exact⟨h1,h2⟩
end
section
variable {S:Nat→List Nat} {at_:Nat→Nat} {par:Nat→Int} {r n:Nat}
def Mm(par:Nat→Int)(y:Nat)(v:Int):Nat→Int:=fun x=>if x=y then v else par x
def Best(S:Nat→List Nat)(n:Nat)(par:Nat→Int)(y z:Nat):Prop:=∀ w,UpTo par z w↔∀ p,p<n→y∈S p→par p≠-2→UpTo par p w
theorem Xr{y:Nat}{v:Int}{x z:Nat}(k:UpTo par x z)(hy:¬ UpTo par x y):UpTo (Mm par y v) x z:=by
 induction k with
 | refl x=>exact .refl _
 | @up x q z h t ih=>
  have hxy:x≠y:=by rintro rfl;exact hy (.refl _)
  refine .up (y:=q) ?_ (ih fun k=>hy (.up h k));unfold Mm;rw[if_neg hxy];exact h
theorem anc_upd_low{y:Nat}{v:Int}{x:Nat}(k:UpTo par x y):UpTo (Mm par y v) x y:=by
 induction k with
 | refl x=>exact .refl _
 | @up x q z h t ih=>
  by_cases hxy:x=z
  ·subst hxy;exact .refl _
  ·refine .up (y:=q) ?_ ih;unfold Mm;rw[if_neg hxy];exact h
theorem anc_upd_inv{y:Nat}{v:Int}{x w:Nat}(k:UpTo (Mm par y v) x w):UpTo par x w∨(UpTo par x y∧UpTo (Mm par y v) y w):=by
 induction k with
 | refl x=>exact .inl (.refl _)
 | @up x q w h t ih=>
  by_cases hxy:x=y
  ·subst hxy;exact .inr ⟨.refl _,.up h t⟩
  ·unfold Mm at h;rw[if_neg hxy]at h;rcases ih with h1|⟨h1,h2⟩
   ·exact .inl (.up h h1)
   ·exact .inr ⟨.up h h1,h2⟩
theorem low_or{y:Nat}{v:Int}{x d:Nat}(k:UpTo par x y)(hd:UpTo par x d):UpTo par y d∨UpTo (Mm par y v) x d:=by
 induction k with
 | refl x=>exact .inl hd
 | @up x q y hq t ih=>
  by_cases e:x=y
  ·subst e;exact .inl hd
  ·rcases(anc_up hq).1 hd with rfl|k
   ·exact .inr (.refl _)
   ·rcases ih k with h1|h1
    ·exact .inl h1
    ·exact .inr (.up (y:=q) (by unfold Mm;rw[if_neg e];exact hq) h1)
structure Better(S:Nat→List Nat)(r n:Nat)(at_:Nat→Nat)(par:Nat→Int)(y z:Nat):Prop where
 inv:Inv S r n at_ par
 hy:y<n
 hr:y≠r
 hz:z<n
 best:Best S n par y z
 fwd:∃ p,p<n∧y∈S p∧par p≠-2∧at_ p<at_ y
variable {y z:Nat}
theorem Better.zlt(h:Better S r n at_ par y z):UpTo par z z∧par z≠-2∧at_ z<at_ y∧Fw S at_ z y:=by
 obtain⟨p,hp,hyp,hpp,hl⟩:=h.fwd;obtain⟨h1,h2,h3,h4⟩:=h.inv.anc ((h.best z).1 (.refl _) p hp hyp hpp) hp hpp;exact⟨.refl _,h2,by omega,.step h4 hyp hl⟩
theorem Better.above(h:Better S r n at_ par y z){w:Nat}:UpTo (Mm par y z) z w↔UpTo par z w:=by
 obtain⟨_,h2,h3,_⟩:=h.zlt
 have hn:¬ UpTo par z y:=fun k=>by have:=(h.inv.anc k h.hz h2).2.2.1;omega
 constructor
 ·intro k;rcases anc_upd_inv k with h1|⟨h1,_⟩
  ·exact h1
  ·exact absurd h1 hn
 ·intro k;exact Xr k hn
theorem Better.here(h:Better S r n at_ par y z){w:Nat}:UpTo (Mm par y z) y w↔w=y∨UpTo par z w:=by
 rw[anc_up (p:=z) (by simp[Mm]),h.above]
theorem Better.av_here(h:Better S r n at_ par y z){d:Nat}(hd:¬ UpTo (Mm par y z) y d):Av S r d y:=by
 rw[h.here]at hd;have h1:¬ ∀ p,p<n→y∈S p→par p≠-2→UpTo par p d:=fun hh=>hd (.inr ((h.best d).2 hh));simp only[Classical.not_forall]at h1;obtain⟨p,hp,hyp,hpp,hnp⟩:=h1;exact .step (h.inv.all p hp hpp d hnp) hyp fun e=>hd (.inl e.symm)
theorem Better.inv'(h:Better S r n at_ par y z):Inv S r n at_ (Mm par y z):=by
 obtain⟨hzz,hz2,hzl,hzf⟩:=h.zlt;obtain⟨p,hp,hyp,hpp,hl⟩:=h.fwd
 have hne:∀ x,Mm par y z x≠-2→x=y∨par x≠-2:=fun x hx=>by
  by_cases e:x=y
  ·exact .inl e
  ·unfold Mm at hx;rw[if_neg e]at hx;exact .inr hx
 have hyv:Mm par y z y=(z:Int):=by simp[Mm]
 have hyo:∀ x,x≠y→Mm par y z x=par x:=fun x e=>by unfold Mm;rw[if_neg e]
 refine⟨by rw[hyo _ (Ne.symm h.hr)];exact h.inv.top,fun x hx=>?_,fun x hx w hw=>?_,fun x hx hxp=>?_,fun x hx hxp d hd=>?_⟩
 ·by_cases e:x=y
  ·subst e;exact .inr (.inr ⟨z,hyv⟩)
  ·rw[hyo x e];exact h.inv.kind x hx
 ·have hzn:∀ w,par w≠-2→Mm par y z w≠-2:=fun w hw=>by
   by_cases e:w=y
   ·subst e;rw[hyv];omega
   ·rw[hyo w e];exact hw
  by_cases e:x=y
  ·subst e;rw[hyv]at hw
   cases Int.ofNat.inj hw
   exact⟨h.hz,hzn _ hz2,hzl,hzf⟩
  ·rw[hyo x e]at hw;obtain⟨h1,h2,h3,h4⟩:=h.inv.up x hx w hw;exact⟨h1,hzn _ h2,h3,h4⟩
 ·rcases hne x hxp with rfl|h1
  ·exact .step (h.inv.rc p hp hpp) hyp
  ·exact h.inv.rc x hx h1
 ·by_cases e:x=y
  ·subst e;exact h.av_here hd
  ·rw[hyo x e]at hxp
   by_cases hxd:UpTo par x d
   ·
    by_cases hxy:UpTo par x y
    ·have hyd:¬ UpTo (Mm par y z) y d:=fun k=>hd ((anc_upd_low hxy).trans k);have hav:=h.av_here hyd;have hf:=(h.inv.anc hxy hx hxp).2.2.2
     have hdy:UpTo par y d:=by
      rcases low_or (v:=(z:Int)) hxy hxd with h1|h1
      ·exact h1
      ·exact absurd h1 hd
     by_cases hpy:par y = -2
     ·
      have:d=y:=by
       refine(Yz (par:=par) fun p hp=>?_).1 hdy;rw[hpy]at hp;omega
      subst this;exact absurd (.refl _) hyd
     ·rcases h.inv.strict hdy h.hy hpy with rfl|hlt
      ·exact absurd (.refl _) hyd
      ·exact hf.av hav hlt
    ·exact absurd (Xr hxd hxy) hd
   ·exact h.inv.all x hx hxp d hxd
end
section
variable {S:Nat→List Nat} {at_:Nat→Nat} {par:Nat→Int} {r n:Nat}
def QB(S:Nat→List Nat)(r n:Nat)(par:Nat→Int)(b:Nat→Nat):Prop:=∀ x,x<n→par x≠-2→∀ z,AvN S r z (b x) x→¬ UpTo par x z
def Full(S:Nat→List Nat)(r n:Nat)(par:Nat→Int):Prop:=∀ x,x<n→Rc S r x→par x≠-2
def Exact(S:Nat→List Nat)(r n:Nat)(par:Nat→Int):Prop:=∀ x,x<n→par x≠-2→∀ d,UpTo par x d↔¬ Av S r d x
theorem qb_zero(h:Inv S r n at_ par):QB S r n par fun _=>0:=fun x hx hp z hz k=>by
 cases hz with
 | root hr _=>exact hr (h.root_anc.1 k).symm
theorem rc_lt(hS:∀ x,x<n→∀ w∈S x,w<n)(hr:r<n){x:Nat}(h:Rc S r x):x<n:=by
 induction h with
 | root=>exact hr
 | step _ hy ih=>exact hS _ ih _ hy
theorem Better.qb{y z k:Nat}{b:Nat→Nat}(h:Better S r n at_ par y z)(hS:∀ x,x<n→∀ w∈S x,w<n)(hrn:r<n)(full:Full S r n par)(hb:∀ x,x<n→k≤b x∧b x≤k+1)(q:QB S r n par b) :
  QB S r n (Mm par y z) fun x=>if x=y then k+1 else b x:=by
 have here:∀ w,AvN S r w (k+1) y→¬ UpTo (Mm par y z) y w:=fun w hw hu=>by
  rcases h.here.1 hu with rfl|hu
  ·exact hw.av.ne rfl
  ·cases hw with
   | root hr _=>exact h.hr rfl
   | @step _ p _ hp hyp hne=>
    have hpn:=rc_lt hS hrn hp.av.rc;have hpp:=full p hpn hp.av.rc;exact q p hpn hpp w (hp.mono (hb p hpn).1) ((h.best w).1 hu p hpn hyp hpp)
 intro x hx hxp w hw hu
 dsimp only at hw
 by_cases e:x=y
 ·subst e;rw[if_pos rfl]at hw;exact here w hw hu
 ·rw[if_neg e]at hw;unfold Mm at hxp;rw[if_neg e]at hxp;rcases anc_upd_inv hu with h1|⟨h1,h2⟩
  ·exact q x hx hxp w hw h1
  ·rcases hw.via y with h3|h3
   ·exact q x hx hxp y h3 h1
   ·exact here w (h3.mono (hb x hx).2) h2
theorem exact_of(h:Inv S r n at_ par){K:Nat}(hK:∀ z,z<n→∀ x,x<n→Av S r z x→AvN S r z K x)(q:QB S r n par fun _=>K):Exact S r n par:=fun x hx hp d=>by
 constructor
 ·intro hu ha;exact q x hx hp d (hK d (h.anc hu hx hp).1 x hx ha) hu
 ·intro ha;exact Classical.byContradiction fun hn=>ha (h.all x hx hp d hn)
theorem Better.same{y z:Nat}(h:Better S r n at_ par y z)(hS:∀ x,x<n→∀ w∈S x,w<n)(hrn:r<n)(full:Full S r n par)(hy2:par y≠-2)(ex:Exact S r n par):par y=(z:Int):=by
 obtain⟨hzz,hz2,hzl,hzf⟩:=h.zlt;rcases h.inv.kind y h.hy with h1|h1|⟨q,hq⟩
 ·exact absurd h1 hy2
 ·exact absurd h1 h.hr
 ·obtain⟨q1,q2,q3,q4⟩:=h.inv.up y h.hy q hq
  have key:∀ w,UpTo par z w↔UpTo par q w:=fun w=>by
   rw[h.best w]
   constructor
   ·intro hall
    have hwy:¬ Av S r w y:=fun ha=>by
     cases ha with
     | root _=>exact h.hr rfl
     | @step p _ hp hyp hne=>
      have hpn:=rc_lt hS hrn hp.rc;have hpp:=full p hpn hp.rc;exact(ex p hpn hpp w).1 (hall p hpn hyp hpp) hp
    rcases(anc_up hq).1 ((ex y h.hy hy2 w).2 hwy) with rfl|hu
    ·have:=(h.inv.anc ((h.best _).2 hall) h.hz hz2).2.2.1;omega
    ·exact hu
   ·intro hu p hp hyp hpp;have hwy:UpTo par y w:=.up hq hu;refine(ex p hp hpp w).2 fun ha=>?_
    have hne:y≠w:=by rintro rfl;have:=(h.inv.anc hu q1 q2).2.2.1;omega
    exact(ex y h.hy hy2 w).1 hwy (.step ha hyp hne)
  have:=h.inv.antisymm ((key q).2 (.refl _)) ((key z).1 (.refl _)) h.hz hz2;rw[hq,this]
theorem exact_fix(h:Inv S r n at_ par)(hS:∀ x,x<n→∀ w∈S x,w<n)(hrn:r<n)(full:Full S r n par)(fix:∀ y,y<n→y≠r→Rc S r y→∃ z:Nat,par y=(z:Int)∧Best S n par y z):Exact S r n par:=fun x hx hp d=>by
 constructor
 ·intro hu ha
  induction ha with
  | root hne=>exact hne (h.root_anc.1 hu).symm
  | @step p y hp' hyp hne ih=>
   have hpn:=rc_lt hS hrn hp'.rc;have hpp:=full p hpn hp'.rc
   by_cases e:y=r
   ·subst e;exact hne (h.root_anc.1 hu).symm
   ·obtain⟨z,hz,hb⟩:=fix y hx e (.step hp'.rc hyp);rcases(anc_up hz).1 hu with rfl|hu
    ·exact hne rfl
    ·exact ih hpn hpp ((hb d).1 hu p hpn hyp hpp)
 ·intro ha;exact Classical.byContradiction fun hn=>ha (h.all x hx hp d hn)
end
def Bi(t:List Int):Nat→Int:=fun x=>t.getD x 0
theorem parL_set{t:List Int}{y:Nat}{v:Int}(hy:y<t.length):Bi (t.set y v)=Mm (Bi t) y v:=by
 funext x
 unfold Bi Mm
 by_cases e:x=y
 ·subst e;simp[List.getD,hy]
 ·simp[List.getD,e,Ne.symm e]
open Classical in
def Lu(S:Nat→List Nat)(n:Nat)(t:List Int)(y:Nat):Nat:=if h:∃ z,z<n∧Best S n (Bi t) y z then Classical.choose h else 0
def Sh(S:Nat→List Nat)(n:Nat)(P:List Nat)(t:List Int):Nat→List Int
 | 0=>t
 | i+1=>(Sh S n P t i).set (P.getD i 0) (Lu S n (Sh S n P t i) (P.getD i 0):Int)
def Zc(S:Nat→List Nat)(n:Nat)(P:List Nat)(t:List Int):Nat→List Int
 | 0=>t
 | j+1=>Sh S n P (Zc S n P t j) P.length
def G3(n r:Nat):List Int:=(List.replicate n (-2:Int)).set r (-1)
structure Ordered(S:Nat→List Nat)(r n:Nat)(P:List Nat):Prop where
 hr:r<n
 hS:∀ x,x<n→∀ w∈S x,w<n
 nodup:(r::P).Nodup
 mem:∀ x,x∈r::P↔Rc S r x
 fwd:∀ i,i<P.length→∃ p,p∈r::P.take i∧P.getD i 0∈S p
section
variable {S:Nat→List Nat} {r n:Nat} {P:List Nat}
theorem Ordered.lt(o:Ordered S r n P){x:Nat}(h:x∈r::P):x<n:=rc_lt o.hS o.hr ((o.mem x).1 h)
theorem N4{i:Nat}(hi:i<P.length):P.getD i 0∈P:=by rw[Ai _ _ _ hi];exact List.getElem_mem hi
theorem Ordered.at_lt(o:Ordered S r n P){i:Nat}(hi:i<P.length){p:Nat}(hp:p∈r::P.take i):pos (r::P) p<pos (r::P) (P.getD i 0):=by
 have hd:=o.nodup
 have h1:pos (r::P) (P.getD i 0)=i+1:=by
  have:=(Zb hd (i:=i+1) (by simpa using hi)).2;rw[Ai _ _ _ hi]
  simpa using this
 rw[h1];obtain⟨j,hj,rfl⟩:=List.getElem_of_mem hp
 have hj':j<i+1:=by simp at hj;omega
 have hjl:j<(r::P).length:=by simp;omega
 have e:(r::P.take i)[j]=(r::P)[j]:=by
  cases j with
  | zero=>rfl
  | succ j=>simp
 rw[e,(Zb hd hjl).2];exact hj'
theorem inv0(o:Ordered S r n P):Inv S r n (pos (r::P)) (Bi (G3 n r))∧(G3 n r).length=n∧Bi (G3 n r) r≠-2:=by
 have hlen:(G3 n r).length=n:=by simp[G3]
 have hr:=o.hr
 have at_:∀ x,x<n→Bi (G3 n r) x=if x=r then -1 else -2:=fun x hx=>by
  unfold Bi G3
  by_cases e:x=r
  ·subst e;simp[List.getD,hx]
  ·simp[List.getD,hx,e,Ne.symm e]
 have hno:∀ x,x<n→∀ p:Nat,Bi (G3 n r) x≠(p:Int):=fun x hx p hp=>by rw[at_ x hx]at hp;split at hp<;>omega
 refine⟨⟨by rw[at_ r hr,if_pos rfl],fun x hx=>?_,fun x hx z hz=>absurd hz (hno x hx z),fun x hx hp=>?_,fun x hx hp d hd=>?_⟩,hlen,by rw[at_ r hr,if_pos rfl];omega⟩
 ·by_cases e:x=r
  ·exact .inr (.inl e)
  ·exact .inl (by rw[at_ x hx,if_neg e])
 ·by_cases e:x=r
  ·subst e;exact .root
  ·exact absurd (by rw[at_ x hx,if_neg e]) hp
 ·by_cases e:x=r
  ·subst e;exact .root (fun e=>hd (by rw[e];exact .refl _))
  ·exact absurd (by rw[at_ x hx,if_neg e]) hp
structure Ready(S:Nat→List Nat)(r n:Nat)(P:List Nat)(t:List Int)(i:Nat):Prop where
 inv:Inv S r n (pos (r::P)) (Bi t)
 len:t.length=n
 done:∀ x∈r::P.take i,Bi t x≠-2
theorem Inv.meets{at_:Nat→Nat}{par:Nat→Int}(h:Inv S r n at_ par)(hinj:∀ x y,x<n→y<n→par x≠-2→par y≠-2→at_ x=at_ y→x=y)(hr:at_ r=0):∀ m a b,at_ a+at_ b≤m→a<n→b<n→par a≠-2→par b≠-2→∃ c,MeetAt par a b c∧c<n∧par c≠-2:=by
 intro m
 induction m with
 | zero=>
  intro a b hm ha hb hpa hpb;have:a=b:=hinj a b ha hb hpa hpb (by omega);subst this;exact⟨a,meet_self,ha,hpa⟩
 | succ m ih=>
  have go:∀ a b,at_ a+at_ b≤m+1→a<n→b<n→par a≠-2→par b≠-2→at_ b≤at_ a→∃ c,MeetAt par a b c∧c<n∧par c≠-2:=fun a b hm ha hb hpa hpb hl=>by
   by_cases e:a=b
   ·subst e;exact⟨a,meet_self,ha,hpa⟩
   ·rcases h.kind a ha with h1|h1|⟨p,hp⟩
    ·exact absurd h1 hpa
    ·subst h1;exact absurd (hinj a b ha hb hpa hpb (by omega)) e
    ·obtain⟨p1,p2,p3,p4⟩:=h.up a ha p hp;obtain⟨c,hc,hc2⟩:=ih p b (by omega) p1 hb p2 hpb;exact⟨c,h.meet_left hinj ha hpa hb hpb e hl hp hc,hc2⟩
  intro a b hm ha hb hpa hpb;rcases Nat.le_total (at_ b) (at_ a) with hl|hl
  ·exact go a b hm ha hb hpa hpb hl
  ·obtain⟨c,hc,hc2⟩:=go b a (by omega) hb ha hpb hpa hl;exact⟨c,meet_swap hc,hc2⟩
theorem Ready.inj(o:Ordered S r n P){t:List Int}{i:Nat}(h:Ready S r n P t i):∀ x y,x<n→y<n→Bi t x≠-2→Bi t y≠-2→pos (r::P) x=pos (r::P) y→x=y:=fun x y hx hy hpx hpy he=>by
 have hm:∀ x,x<n→Bi t x≠-2→x∈r::P:=fun x hx hp=>(o.mem x).2 (h.inv.rc x hx hp)
 have back:∀ x∈r::P,(r::P).getD (pos (r::P) x) 0=x:=fun x hx=>by
  obtain⟨j,hj,rfl⟩:=List.getElem_of_mem hx;rw[(Zb o.nodup hj).2,Ai _ _ _ hj]
 rw[← back x (hm x hx hpx),← back y (hm y hy hpy),he]
theorem pos_root:pos (r::P) r=0:=by rw[pos_cons,if_pos rfl]
theorem Ready.meetAll(o:Ordered S r n P){t:List Int}{i:Nat}(h:Ready S r n P t i):∀ l:List Nat,(∀ p∈l,p<n∧Bi t p≠-2)→l≠[]→∃ z,z<n∧Bi t z≠-2∧∀ w,UpTo (Bi t) z w↔∀ p∈l,UpTo (Bi t) p w:=by
 intro l
 induction l with
 | nil=>intro _ hn;exact absurd rfl hn
 | cons p l ih=>
  intro hl _;obtain⟨hp1,hp2⟩:=hl p (List.mem_cons_self ..)
  by_cases hl0:l=[]
  ·subst hl0;exact⟨p,hp1,hp2,fun w=>by simp⟩
  ·obtain⟨z,hz1,hz2,hz3⟩:=ih (fun q hq=>hl q (List.mem_cons_of_mem _ hq)) hl0;obtain⟨c,hc1,hc2,hc3⟩:=h.inv.meets (h.inj o) pos_root _ p z (Nat.le_refl _) hp1 hz1 hp2 hz2;exact⟨c,hc2,hc3,fun w=>by rw[hc1 w,hz3 w];simp⟩
theorem Ready.best(o:Ordered S r n P){t:List Int}{i:Nat}(h:Ready S r n P t i)(hi:i<P.length):Better S r n (pos (r::P)) (Bi t) (P.getD i 0) (Lu S n t (P.getD i 0)):=by
 have hy:=N4 hi;have hyr:P.getD i 0≠r:=fun e=>(List.nodup_cons.1 o.nodup).1 (e▸hy);have hyn:=o.lt (List.mem_cons_of_mem _ hy);obtain⟨p,hp,hyp⟩:=o.fwd i hi;have hp2:=h.done p hp
 have hpP:p∈r::P:=by
  rcases List.mem_cons.1 hp with rfl|hp
  ·exact List.mem_cons_self ..
  ·exact List.mem_cons_of_mem _ (List.mem_of_mem_take hp)
 have hpn:=o.lt hpP
 have hex:∃ z,z<n∧Best S n (Bi t) (P.getD i 0) z:=by
  classical
  obtain⟨z,hz1,hz2,hz3⟩:=h.meetAll o ((List.range n).filter fun p=>decide (P.getD i 0∈S p∧Bi t p≠-2)) (fun p hp=>by
   obtain⟨h1,h2⟩:=List.mem_filter.1 hp
   exact⟨List.mem_range.1 h1,(of_decide_eq_true h2).2⟩) (fun e=>by
   have:p∈(List.range n).filter fun p=>decide (P.getD i 0∈S p∧Bi t p≠-2):=List.mem_filter.2 ⟨List.mem_range.2 hpn,decide_eq_true ⟨hyp,hp2⟩⟩
   rw[e]at this;cases this)
  refine⟨z,hz1,fun w=>?_⟩;rw[hz3 w]
  constructor
  ·intro k p hp hyp hpp;exact k p (List.mem_filter.2 ⟨List.mem_range.2 hp,decide_eq_true ⟨hyp,hpp⟩⟩)
  ·intro k p hp;obtain⟨h1,h2⟩:=List.mem_filter.1 hp;exact k p (List.mem_range.1 h1) (of_decide_eq_true h2).1 (of_decide_eq_true h2).2
 have hb:Lu S n t (P.getD i 0)<n∧Best S n (Bi t) (P.getD i 0) (Lu S n t (P.getD i 0)):=by
  unfold Lu;rw[dif_pos hex];exact Classical.choose_spec hex
 exact⟨h.inv,hyn,hyr,hb.1,hb.2,p,hpn,hyp,hp2,o.at_lt hi hp⟩
theorem Ready.best_eq(o:Ordered S r n P){t:List Int}{i:Nat}(h:Ready S r n P t i)(hi:i<P.length){z:Nat}(hz:z<n)(hz2:Bi t z≠-2)(hb:Best S n (Bi t) (P.getD i 0) z):z=Lu S n t (P.getD i 0):=by
 have b:=h.best o hi;exact(h.inv.antisymm ((hb _).2 ((b.best _).1 (.refl _))) ((b.best _).2 ((hb _).1 (.refl _))) hz hz2).symm
theorem Ready.next(o:Ordered S r n P){t:List Int}{i:Nat}(h:Ready S r n P t i)(hi:i<P.length):Ready S r n P (t.set (P.getD i 0) (Lu S n t (P.getD i 0):Int)) (i+1):=by
 have b:=h.best o hi;have e:=parL_set (t:=t) (y:=P.getD i 0) (v:=(Lu S n t (P.getD i 0):Int)) (by rw[h.len];exact b.hy);refine⟨by rw[e];exact b.inv',by rw[List.length_set];exact h.len,fun x hx=>?_⟩;rw[e];unfold Mm
 split
 ·omega
 ·rename_i hne
  refine h.done x ?_;rcases List.mem_cons.1 hx with rfl|hx
  ·exact List.mem_cons_self ..
  ·rw[List.take_succ_eq_append_getElem hi]at hx;rcases List.mem_append.1 hx with hx|hx
   ·exact List.mem_cons_of_mem _ hx
   ·rw[List.mem_singleton,← Ai _ _ 0 hi]at hx;exact absurd hx hne
theorem Ready.more(o:Ordered S r n P){t:List Int}(h:Ready S r n P t P.length)(i:Nat):Ready S r n P t i:=
 ⟨h.inv,h.len,fun x hx=>h.done x (by
  rw[List.take_length];rcases List.mem_cons.1 hx with rfl|hx
  ·exact List.mem_cons_self ..
  ·exact List.mem_cons_of_mem _ (List.mem_of_mem_take hx))⟩
theorem Ready.full(o:Ordered S r n P){t:List Int}(h:Ready S r n P t P.length):Full S r n (Bi t):=fun x hx hr=>h.done x (by rw[List.take_length];exact(o.mem x).2 hr)
theorem Ready.round(o:Ordered S r n P){t:List Int}(h:Ready S r n P t 0):∀ i,i≤P.length→Ready S r n P (Sh S n P t i) i:=by
 intro i
 induction i with
 | zero=>intro _;exact h
 | succ i ih=>intro hi;exact(ih (by omega)).next o (by omega)
theorem ready0(o:Ordered S r n P):Ready S r n P (G3 n r) 0:=by
 obtain⟨h1,h2,h3⟩:=inv0 o;exact⟨h1,h2,fun x hx=>by simp at hx;subst hx;exact h3⟩
theorem Ready.rounds(o:Ordered S r n P):∀ j,Ready S r n P (Zc S n P (G3 n r) j) 0:=by
 intro j
 induction j with
 | zero=>exact ready0 o
 | succ j ih=>exact((ih.round o) P.length (Nat.le_refl _)).more o 0
theorem Ready.rounds'(o:Ordered S r n P)(j:Nat):Ready S r n P (Zc S n P (G3 n r) (j+1)) P.length:=(Ready.rounds o j).round o P.length (Nat.le_refl _)
theorem qb_round(o:Ordered S r n P){t:List Int}{k:Nat}(h:Ready S r n P t P.length)(q:QB S r n (Bi t) fun _=>k):QB S r n (Bi (Sh S n P t P.length)) fun _=>k+1:=by
 have key:∀ i,i≤P.length→QB S r n (Bi (Sh S n P t i)) (fun x=>if x∈P.take i then k+1 else k)∧Full S r n (Bi (Sh S n P t i)):=by
  intro i
  induction i with
  | zero=>intro _;exact⟨by simpa [Sh] using q,h.full o⟩
  | succ i ih=>
   intro hi;obtain⟨q1,f1⟩:=ih (by omega);have rd:=(h.more o 0).round o i (by omega);have b:=rd.best o (by omega);have e:=parL_set (t:=Sh S n P t i) (y:=P.getD i 0) (v:=(Lu S n (Sh S n P t i) (P.getD i 0):Int)) (by rw[rd.len];exact b.hy)
   constructor
   ·show QB S r n (Bi ((Sh S n P t i).set _ _)) _
    rw[e];have:=b.qb (k:=k) o.hS o.hr f1 (fun x _=>by split<;>omega) q1;intro x hx hp z hz;refine this x hx hp z ?_
    dsimp only at hz ⊢
    rw[List.take_succ_eq_append_getElem (by omega:i<P.length)]at hz
    by_cases e1:x=P.getD i 0
    ·rw[if_pos e1];rwa[if_pos (List.mem_append.2 (.inr (List.mem_singleton.2 (by rw[e1,Ai _ _ _ (by omega:i<P.length)]))))]at hz
    ·rw[if_neg e1]
     by_cases e2:x∈P.take i
     ·rw[if_pos e2];rwa[if_pos (List.mem_append.2 (.inl e2))]at hz
     ·rw[if_neg e2]
      rwa[if_neg (fun hm=>by
       rcases List.mem_append.1 hm with hm|hm
       ·exact e2 hm
       ·rw[List.mem_singleton,← Ai _ _ 0 (by omega:i<P.length)]at hm;exact e1 hm)]at hz
   ·show Full S r n (Bi ((Sh S n P t i).set _ _))
    rw[e];intro x hx hr;unfold Mm
    split
    ·omega
    ·exact f1 x hx hr
 have q1:=(key P.length (Nat.le_refl _)).1;rw[List.take_length]at q1;have rd:=(h.more o 0).round o P.length (Nat.le_refl _);intro x hx hp z hz;refine q1 x hx hp z ?_
 dsimp only at hz ⊢
 by_cases e:x∈P
 ·rw[if_pos e];exact hz
 ·rw[if_neg e]
  have hxr:x=r:=by
   rcases List.mem_cons.1 ((o.mem x).2 (rd.inv.rc x hx hp)) with h1|h1
   ·exact h1
   ·exact absurd h1 e
  subst hxr;exact .root hz.av.ne k
def Rm(S:Nat→List Nat)(n:Nat)(P:List Nat)(t:List Int):Prop:=∀ i,i<P.length→Bi t (P.getD i 0)=(Lu S n t (P.getD i 0):Int)
theorem Ty{t:List Int}(o:Ordered S r n P)(hl:t.length=n)(h:Rm S n P t):∀ i,i≤P.length→Sh S n P t i=t:=by
 intro i
 induction i with
 | zero=>intro _;rfl
 | succ i ih=>
  intro hi;unfold Sh;rw[ih (by omega),← h i (by omega)]
  have hlt:P.getD i 0<t.length:=by rw[hl];exact o.lt (List.mem_cons_of_mem _ (N4 (by omega)))
  unfold Bi;rw[Ai _ _ _ hlt];exact List.set_getElem_self hlt
theorem stops(o:Ordered S r n P):∃ J,(∀ j,j<J→¬ Rm S n P (Zc S n P (G3 n r) j))∧Rm S n P (Zc S n P (G3 n r) J):=by
 obtain⟨K,hK⟩:=avn_bound (S:=S) (r:=r) n
 have hq:∀ k,QB S r n (Bi (Zc S n P (G3 n r) (k+1))) fun _=>k:=by
  intro k
  induction k with
  | zero=>exact qb_zero (Ready.rounds' o 0).inv
  | succ k ih=>exact qb_round o (Ready.rounds' o k) ih
 have hst:Rm S n P (Zc S n P (G3 n r) (K+1)):=fun i hi=>by
  have rd:=Ready.rounds' o K;exact((rd.more o i).best o hi).same o.hS o.hr (rd.full o) (rd.done _ (List.mem_cons_of_mem _ (by rw[List.take_length];exact N4 hi))) (exact_of rd.inv hK (hq K))
 have key:∀ m,(∃ J,J≤m∧Rm S n P (Zc S n P (G3 n r) J))→∃ J,(∀ j,j<J→¬ Rm S n P (Zc S n P (G3 n r) j))∧Rm S n P (Zc S n P (G3 n r) J):=by
  intro m
  induction m with
  | zero=>rintro⟨J,hJ,h⟩;exact⟨J,fun j hj=>by omega,h⟩
  | succ m ih=>
   rintro⟨J,hJ,h⟩
   by_cases hm:∃ J,J≤m∧Rm S n P (Zc S n P (G3 n r) J)
   ·exact ih hm
   ·exact⟨J,fun j hj hs=>hm ⟨j,by omega,hs⟩,h⟩
 exact key (K+1) ⟨K+1,Nat.le_refl _,hst⟩
structure DomTree(S:Nat→List Nat)(r n:Nat)(P:List Nat)(t:List Int):Prop where
 inv:Inv S r n (pos (r::P)) (Bi t)
 len:t.length=n
 full:Full S r n (Bi t)
 exact_:Exact S r n (Bi t)
theorem Yd(o:Ordered S r n P){j:Nat}(h:Rm S n P (Zc S n P (G3 n r) j)):DomTree S r n P (Zc S n P (G3 n r) j):=by
 have rd:=Ready.rounds o j
 have hall:Ready S r n P (Zc S n P (G3 n r) j) P.length:=by
  have:=rd.round o P.length (Nat.le_refl _);rwa[Ty o rd.len h P.length (Nat.le_refl _)]at this
 refine⟨rd.inv,rd.len,hall.full o,exact_fix rd.inv o.hS o.hr (hall.full o) fun y hy hne hr=>?_⟩
 have hm:y∈P:=by
  rcases List.mem_cons.1 ((o.mem y).2 hr) with h1|h1
  ·exact absurd h1 hne
  ·exact h1
 obtain⟨i,hi,rfl⟩:=List.getElem_of_mem hm;have b:=(hall.more o i).best o hi;rw[Ai _ _ _ hi]at b;have hs:=h i hi;rw[Ai _ _ _ hi]at hs;exact⟨_,hs,b.best⟩
end
section
variable {S:Nat→List Nat} {s s':Nat→Bool} {l o:List Nat}
theorem VL.before(h:VL S s l s' o):∀ A z B,o=A++z::B→z∈l∨∃ p∈B,z∈S p:=by
 induction h with
 | nil s=>intro A z B e;simp at e
 | skip h _ ih=>
  intro A z B e;rcases ih A z B e with h1|h1
  ·exact .inl (List.mem_cons_of_mem _ h1)
  ·exact .inr h1
 | @step s s1 s2 y l o1 o2 h a b iha ihb=>
  intro A z B e;rcases List.append_eq_append_iff.1 e with⟨C,hC1,hC2⟩|⟨C,hC1,hC2⟩
  ·
   cases C with
   | nil=>
    simp at hC2;obtain⟨rfl,rfl⟩:=hC2;exact .inl (List.mem_cons_self ..)
   | cons c C=>
    simp at hC2;obtain⟨rfl,hC2⟩:=hC2;rcases ihb C z B hC2 with h1|h1
    ·exact .inl (List.mem_cons_of_mem _ h1)
    ·exact .inr h1
  ·cases C with
   | nil=>
    simp at hC2;obtain⟨rfl,rfl⟩:=hC2;exact .inl (List.mem_cons_self ..)
   | cons c C=>
    simp at hC2;obtain⟨rfl,rfl⟩:=hC2;rcases iha A z C hC1 with h1|⟨p,hp,hz⟩
    ·exact .inr ⟨y,by simp,h1⟩
    ·exact .inr ⟨p,by simp[hp],hz⟩
theorem Ord.ordered{n r:Nat}{L:List Nat}(hr:r<n)(hS:∀ x,x<n→∀ w∈S x,w<n)(h:Ord S r L):∃ P,L=r::P∧Ordered S r n P:=by
 have h1:=h.nodup;have h2:=h.mem;obtain⟨s',o,hv,rfl⟩:=h;refine⟨o.reverse,rfl,hr,hS,h1,fun x=>by rw[h2 x,rc_iff],fun i hi=>?_⟩
 have hi':i<o.length:=by simpa using hi
 have e:o.reverse=o.reverse.take i++o.reverse[i]::o.reverse.drop (i+1):=by rw[← List.drop_eq_getElem_cons hi,List.take_append_drop]
 have e2:o=(o.reverse.drop (i+1)).reverse++o.reverse[i]::(o.reverse.take i).reverse:=by
  have:=congrArg List.reverse e;rw[List.reverse_reverse]at this;rw[List.reverse_append,List.reverse_cons]at this
  simpa using this
 rw[Ai _ _ _ hi];rcases hv.before _ _ _ e2 with h3|⟨p,hp,hz⟩
 ·exact⟨r,List.mem_cons_self ..,h3⟩
 ·exact⟨p,List.mem_cons_of_mem _ (List.mem_reverse.1 hp),hz⟩
end
def woI(S:Nat→List Nat)(w:Int):Nat→List Nat:=fun x=>(S x).filter fun y=>decide ((y:Int)≠w)
theorem woI_none(S:Nat→List Nat):woI S (-1)=S:=by
 funext x
 unfold woI;exact List.filter_eq_self.2 fun y _=>decide_eq_true (by omega)
theorem woI_nat(S:Nat→List Nat)(z:Nat):woI S (z:Int)=wo S z:=by
 funext x
 unfold woI wo
 congr 1
 funext y
 exact decide_eq_decide.2 ⟨fun h e=>h (by rw[e]),fun h e=>h (Int.ofNat.inj e)⟩
def Jq(L:List (List Int))(r:Nat)(w:Int):List Bool:=if(r:Int)=w then List.replicate L.length false else Wm (woI (sN L) w) L.length ((List.replicate L.length false).set r true) L.length
theorem reachW_len(L:List (List Int))(r:Nat)(w:Int):(Jq L r w).length=L.length:=by
 unfold Jq
 split
 ·simp
 ·rw[Rd];simp
theorem m_reachW{L:List (List Int)}(hm:Lc L=true){r:Nat}(hr:r<L.length)(w:Int) :
  Cl (Ia L) (r:Int) w=some (Jq L r w):=by
 obtain⟨h1,h2,h3⟩:=mayS_iff.1 hm
 have hroom:(1000:Nat)≤room:=by decide
 have hS:=Rw hm;have hSw:∀ z,z<L.length→∀ y∈woI (sN L) w z,y<L.length:=fun z hz y hy=>hS z hz y (List.mem_filter.1 hy).1;have hgs:(Ia L).Succ=L:=rfl
 have hlenS:∀ a,(sN L a).length=(L.getD a []).length:=fun a=>by simp[sN]
 let fl:List Nat→List Nat:=fun l=>l.filter fun y=>decide ((y:Int)≠w)
 have hin:∀(o:List Bool) (i:Nat),o.length=L.length→i<L.length→Ah (Az (Ia L) w (i:Int)) ((0:Int),o)=some (if o.getD i false=true then mk o (woI (sN L) w i) else o):=fun o i ho hi=>by
  have hb:=Ug (h3 i hi)
  by_cases hoi:o.getD i false=true
  ·rw[if_pos hoi];have hmi:∀ k,(mk o (fl ((sN L i).take k))).getD i false=true:=fun k=>(mk_at (n:=L.length) _ _ ho (fun y hy=>hS i hi y (List.mem_of_mem_take (List.mem_filter.1 hy).1)) i).2 (.inl hoi)
   have hml:∀ k,(mk o (fl ((sN L i).take k))).length=L.length:=fun k=>by rw[mk_len,ho]
   refine Fp (Az (Ia L) w (i:Int)) (fun k=>(((k:Nat):Int),mk o (fl ((sN L i).take k)))) _ (L.getD i []).length (fun k hk=>?_) ?_
   ·show Az (Ia L) w (i:Int) (_,_)=_
    unfold Az;obtain⟨a0,a1⟩:=Tb (h3 i hi) hk;simp only[hgs,Au,hmi];rw[Ac (Fj (by rw[hml];exact hi)),J8 (Fj hi),cond_true,Dt hk,cond_true,Ac (Fj hi),Ac (Fj hk)]
    have hk':k<(sN L i).length:=by rw[hlenS];exact hk
    have hsk:(sN L i)[k]=((L.getD i []).getD k 0).toNat:=by rw[Ai _ _ _ hk];simp[sN]
    have hski:(((sN L i)[k]:Nat):Int)=(L.getD i []).getD k 0:=by rw[hsk];exact Int.toNat_of_nonneg a0
    have e:mk o (fl ((sN L i).take (k+1)))=if(L.getD i []).getD k 0=w then mk o (fl ((sN L i).take k)) else(mk o (fl ((sN L i).take k))).set ((L.getD i []).getD k 0).toNat true:=by
     rw[List.take_succ_eq_append_getElem hk']
     show mk o (List.filter _ (_++[_]))=_
     rw[List.filter_append]
     by_cases hw:(L.getD i []).getD k 0=w
     ·rw[if_pos hw]
      have:List.filter (fun y:Nat=>decide ((y:Int)≠w)) [(sN L i)[k]]=[]:=by rw[List.filter_cons,hski,hw];simp
      rw[this,List.append_nil]
     ·rw[if_neg hw]
      have:List.filter (fun y:Nat=>decide ((y:Int)≠w)) [(sN L i)[k]]=[(sN L i)[k]]:=by rw[List.filter_cons,hski,if_pos (decide_eq_true hw)];rfl
      rw[this];unfold mk;rw[List.foldl_append,hsk]
      rfl
    by_cases hw:(L.getD i []).getD k 0=w
    ·have hne:((L.getD i []).getD k 0 !=w)=false:=by rw[hw];simp
     rw[hne,cond_false,Option.bind_some,w1 (by omega),e,if_pos hw]
    ·have hne:((L.getD i []).getD k 0 !=w)=true:=by rw[bne_iff_ne];exact hw
     rw[hne,cond_true,Ac (Fj hi),Ac (Fj hk),Ac ⟨a0,by rw[hml];exact a1⟩,w1 (by omega),e,if_neg hw]
     rfl
   ·show Az (Ia L) w (i:Int) (_,_)=_
    unfold Az;simp only[hgs,Au,hmi];rw[Ac (Fj (by rw[hml];exact hi)),J8 (Fj hi),cond_true,Gf,cond_false]
    have:(sN L i).take (L.getD i []).length=sN L i:=by rw[← hlenS];exact List.take_length ..
    rw[this]
    rfl
  ·have hof:o.getD i false=false:=by simpa using hoi
   rw[if_neg hoi]
   apply Ao
   unfold Az;simp only[hgs,Au,hof];rw[Ac (Fj (by rw[ho];exact hi)),J8 (Fj hi),cond_false,cond_false]
 have hsw:∀ o:List Bool,o.length=L.length→Ah (A0 (Ia L) w) ((0:Int),o)=some (sw (woI (sN L) w) o L.length):=fun o ho=>by
  refine Fp (A0 (Ia L) w) (fun i=>(((i:Nat):Int),sw (woI (sN L) w) o i)) _ L.length (fun i hi=>?_) ?_
  ·show A0 (Ia L) w (_,_)=_
   unfold A0
   have hl:(sw (woI (sN L) w) o i).length=L.length:=by rw[Pr,ho]
   simp only[hl,Dt hi,cond_true];rw[hin _ i hl hi,w1 (by omega)]
   rfl
  ·show A0 (Ia L) w (_,_)=_
   unfold A0
   have hl:(sw (woI (sN L) w) o L.length).length=L.length:=by rw[Pr,ho]
   simp only[hl,Gf,cond_false]
 unfold Cl;simp only[hgs,Au];rw[Ac ⟨by omega,Int.le_refl _,by omega⟩];unfold Jq
 by_cases hrw:(r:Int)=w
 ·rw[if_pos hrw]
  have:((r:Int)==w)=true:=by simpa using hrw
  rw[this,cond_true]
 ·rw[if_neg hrw]
  have hne:((r:Int)==w)=false:=by rw[beq_eq_false_iff_ne];exact hrw
  rw[hne,cond_false,Ac (Fj (by simpa using hr))]
  have hl0:((List.replicate L.length false).set r true).length=L.length:=by simp
  have:Ah (A1 (Ia L) w) ((0:Int),(List.replicate L.length false).set r true)=some (Wm (woI (sN L) w) L.length ((List.replicate L.length false).set r true) L.length):=by
   refine Fp (A1 (Ia L) w) (fun j=>(((j:Nat):Int),Wm (woI (sN L) w) L.length ((List.replicate L.length false).set r true) j)) _ L.length (fun j hj=>?_) ?_
   ·show A1 (Ia L) w (_,_)=_
    unfold A1
    have hl:(Wm (woI (sN L) w) L.length ((List.replicate L.length false).set r true) j).length=L.length:=by rw[Rd,hl0]
    simp only[hl,Dt hj,cond_true];rw[hsw _ hl,w1 (by omega)]
    rfl
   ·show A1 (Ia L) w (_,_)=_
    unfold A1
    have hl:(Wm (woI (sN L) w) L.length ((List.replicate L.length false).set r true) L.length).length=L.length:=by rw[Rd,hl0]
    simp only[hl,Gf,cond_false]
  rw[this]
  rfl
theorem reach_at{L:List (List Int)}(hm:Lc L=true){r:Nat}(hr:r<L.length){b:Nat}:(Jq L r (-1)).getD b false=true↔Rc (sN L) r b:=by
 unfold Jq;rw[if_neg (by omega),woI_none,Wn (Rw hm) hr b,rc_iff]
theorem reachWo_at{L:List (List Int)}(hm:Lc L=true){r:Nat}(hr:r<L.length){a b:Nat}(hb:b<L.length):(Jq L r (a:Int)).getD b false=true↔Av (sN L) r a b:=by
 unfold Jq;rw[av_iff]
 by_cases h:r=a
 ·subst h;rw[if_pos rfl,Ol]
  simp
 ·rw[if_neg (by omega),woI_nat,Wn (S:=wo (sN L) a) (fun z hz y hy=>Rw hm z hz y (List.mem_filter.1 hy).1) hr b];simp[h]
def Lq(L:List (List Int))(r a b:Nat):Bool:=(Jq L r (-1)).getD b false&&!(Jq L r (a:Int)).getD b false
theorem over_iff{L:List (List Int)}(hm:Lc L=true){r a b:Nat}(hr:r<L.length)(hb:b<L.length):Lq L r a b=true↔Rc (sN L) r b∧¬ Av (sN L) r a b:=by
 unfold Lq;rw[Bool.and_eq_true,Bool.not_eq_true',← Bool.not_eq_true,reach_at hm hr,reachWo_at hm hr hb]
def nearB(L:List (List Int))(r a b:Nat):Bool:=(List.range L.length).all fun c=>decide (c=b) || !Lq L r c b || Lq L r c a
def Ok(L:List (List Int))(r b:Nat):Nat→Int
 | 0=>-2
 | a+1=>if a≠b∧Lq L r a b=true∧nearB L r a b=true then(a:Int) else Ok L r b a
def Ri(L:List (List Int))(r b:Nat):Int:=if b=r then -1 else Ok L r b L.length
def Tz(L:List (List Int))(r:Nat):List Int:=(List.range L.length).map (Ri L r)
theorem treeD_len(L:List (List Int))(r:Nat):(Tz L r).length=L.length:=by simp[Tz]
theorem treeD_at{L:List (List Int)}{r b:Nat}(hb:b<L.length):(Tz L r).getD b 0=Ri L r b:=by unfold Tz;rw[Ny hb]
theorem pick_cases(L:List (List Int))(r b:Nat):∀ m,(Ok L r b m = -2∧∀ a,a<m→¬ (a≠b∧Lq L r a b=true∧nearB L r a b=true))∨∃ a,a<m∧Ok L r b m=(a:Int)∧a≠b∧Lq L r a b=true∧nearB L r a b=true:=by
 intro m
 induction m with
 | zero=>exact .inl ⟨rfl,fun a ha=>absurd ha (Nat.not_lt_zero a)⟩
 | succ m ih=>
  unfold Ok
  by_cases h:m≠b∧Lq L r m b=true∧nearB L r m b=true
  ·rw[if_pos h];exact .inr ⟨m,by omega,rfl,h⟩
  ·rw[if_neg h];rcases ih with⟨h1,h2⟩|⟨a,h1,h2⟩
   ·refine .inl ⟨h1,fun a ha=>?_⟩;rcases Nat.lt_succ_iff_lt_or_eq.1 ha with h3|rfl
    ·exact h2 a h3
    ·exact h
   ·exact .inr ⟨a,by omega,h2⟩
theorem DomTree.eq{L:List (List Int)}(hm:Lc L=true){r:Nat}(hr:r<L.length){P t:List _}(o:Ordered (sN L) r L.length P)(h:DomTree (sN L) r L.length P t):t=Tz L r:=by
 refine List.ext_getElem (by rw[h.len,treeD_len]) fun b h1 h2=>?_
 have hb:b<L.length:=by rw[← h.len];exact h1
 rw[← Ai _ _ 0 h1,← Ai _ _ 0 h2,treeD_at hb]
 show Bi t b=_
 have hov:∀ a b,b<L.length→Bi t b≠-2→(Lq L r a b=true↔UpTo (Bi t) b a):=fun a b hb hp=>by
  rw[over_iff hm hr hb,h.exact_ b hb hp];exact⟨fun k=>k.2,fun k=>⟨h.inv.rc b hb hp,k⟩⟩
 unfold Ri
 by_cases hbr:b=r
 ·subst hbr;rw[if_pos rfl];exact h.inv.top
 ·rw[if_neg hbr];rcases h.inv.kind b hb with hk|hk|⟨z,hz⟩
  ·
   have hn:¬ Rc (sN L) r b:=fun k=>h.full b hb k hk;rcases pick_cases L r b L.length with⟨h3,_⟩|⟨a,_,_,_,h6,_⟩
   ·rw[hk,h3]
   ·exact absurd ((over_iff hm hr hb).1 h6).1 hn
  ·exact absurd hk hbr
  ·obtain⟨z1,z2,z3,z4⟩:=h.inv.up b hb z hz
   have hp:Bi t b≠-2:=by omega
   have hzo:Lq L r z b=true:=(hov z b hb hp).2 (.up hz (.refl _))
   have hzb:z≠b:=by rintro rfl;omega
   have hnear:nearB L r z b=true:=all_range.2 fun c hc=>by
    by_cases e:c=b
    ·simp[e]
    ·cases ho:Lq L r c b with
     | false=>simp
     | true=>
      have:=(hov c b hb hp).1 ho;rcases(anc_up hz).1 this with h3|h3
      ·exact absurd h3 e
      ·rw[(hov c z z1 z2).2 h3];simp
   rcases pick_cases L r b L.length with⟨_,h3⟩|⟨a,h3,h4,h5,h6,h7⟩
   ·exact absurd ⟨hzb,hzo,hnear⟩ (h3 z z1)
   ·rw[h4,hz];have haU:=(hov a b hb hp).1 h6
    have ha1:UpTo (Bi t) z a:=by
     rcases(anc_up hz).1 haU with h8|h8
     ·exact absurd h8 h5
     ·exact h8
    have hap:=(h.inv.anc ha1 z1 z2).2.1
    have hza:UpTo (Bi t) a z:=by
     have:=all_range.1 h7 z z1;simp only[hzo,hzb,decide_false,Bool.not_true,Bool.false_or]at this;exact(hov z a h3 hap).1 this
    rw[h.inv.antisymm ha1 hza z1 z2]
theorem mayG_eq{g:TGraph}(h:Uu g=true):Lc g.Succ=true∧g=Ia g.Succ:=by
 unfold Uu at h;rw[Bool.and_eq_true]at h;refine⟨h.1,?_⟩;obtain⟨s,p⟩:=g;have:=of_decide_eq_true h.2;simp only at this;unfold Ia;rw[this]
theorem Vy{a b:Nat}:(((a:Nat):Int)==(b:Int))=decide (a=b):=by
 by_cases h:a=b
 ·subst h;simp
 ·rw[beq_eq_false_iff_ne.2 (by omega)];simp[h]
theorem bne_nat{a b:Nat}:(((a:Nat):Int)!=(b:Int)) = !decide (a=b):=by
 unfold bne;rw[Vy]
section
variable {L:List (List Int)} (hm:Lc L=true) {r:Nat} (hr:r<L.length)
def rowK(L:List (List Int))(r a k:Nat):List Bool:=(List.range L.length).map fun b=>if b<k then Lq L r a b else false
def rowD(L:List (List Int))(r a:Nat):List Bool:=(List.range L.length).map fun b=>Lq L r a b
def ovM(L:List (List Int))(r:Nat):List (List Bool):=(List.range L.length).map fun a=>rowD L r a
theorem ovM_len:(ovM L r).length=L.length:=by simp[ovM]
theorem ovM_at{a:Nat}(ha:a<L.length):(ovM L r).getD a []=rowD L r a:=by unfold ovM;rw[Ny ha]
theorem rowD_len{a:Nat}:(rowD L r a).length=L.length:=by simp[rowD]
theorem rowD_at{a b:Nat}(hb:b<L.length):(rowD L r a).getD b false=Lq L r a b:=by unfold rowD;rw[Ny hb]
include hm hr
omit hr in
theorem tree_L1(a:Nat)(l5:List (List Bool))(hl5:l5.length=L.length)(ha:a<L.length):Ah (Cn (Ia L) (Jq L r (-1)) (a:Int) l5 (Jq L r (a:Int))) ((0:Int),List.replicate L.length false)=some (rowD L r a):=by
 obtain⟨h1,h2,h3⟩:=mayS_iff.1 hm;have hgs:(Ia L).Succ=L:=rfl
 have e0:List.replicate L.length false=rowK L r a 0:=by
  refine List.ext_getElem (by simp[rowK]) fun i h1 h2=>by simp[rowK]
 have e1:rowD L r a=rowK L r a L.length:=by
  unfold rowD rowK
  exact Gt fun i hi=>by rw[if_pos hi]
 have hlen:∀ k,(rowK L r a k).length=L.length:=fun k=>by simp[rowK]
 rw[e0];refine Fp (Cn (Ia L) (Jq L r (-1)) (a:Int) l5 (Jq L r (a:Int))) (fun k=>(((k:Nat):Int),rowK L r a k)) _ L.length (fun k hk=>?_) ?_
 ·show Cn (Ia L) _ _ _ _ (_,_)=_
  unfold Cn;simp only[hgs,Au,Dt hk,cond_true];rw[Ac (Fj (by rw[hl5];exact ha)),Ac (Fj (by rw[reachW_len];exact hk)),Ac (fun _=>Fj (by rw[reachW_len];exact hk)),Ac (Fj (by rw[hlen];exact hk)),w1 (by omega)]
  have:(rowK L r a k).set k (bif (Jq L r (-1)).getD k false then !(Jq L r (a:Int)).getD k false else false)=rowK L r a (k+1):=by
   unfold rowK;rw[Tw];refine Gt fun i hi=>?_
   by_cases e:i=k
   ·subst e;rw[if_pos rfl,if_pos (by omega)];unfold Lq
    cases(Jq L r (-1)).getD i false<;>rfl
   ·rw[if_neg e]
    by_cases e2:i<k
    ·rw[if_pos e2,if_pos (by omega)]
    ·rw[if_neg e2,if_neg (by omega)]
  rw[this]
 ·show Cn (Ia L) _ _ _ _ (_,_)=_
  unfold Cn;simp only[hgs,Gf,cond_false];rw[e1]
theorem tree_L2:Ah (Co (Ia L) (r:Int) (Jq L r (-1))) ((0:Int),List.replicate L.length ([]:List Bool))=some (ovM L r):=by
 obtain⟨h1,h2,h3⟩:=mayS_iff.1 hm;have hgs:(Ia L).Succ=L:=rfl
 have hroom:(1000:Nat)≤room:=by decide
 let M:Nat→List (List Bool):=fun k=>(List.range L.length).map fun a=>if a<k then rowD L r a else[]
 have hM:∀ k,(M k).length=L.length:=fun k=>by simp[M]
 have e0:List.replicate L.length ([]:List Bool)=M 0:=by
  refine List.ext_getElem (by simp[M]) fun i h1 h2=>by simp[M]
 have e1:ovM L r=M L.length:=Gt fun i hi=>by rw[if_pos hi]
 rw[e0];refine Fp (Co (Ia L) (r:Int) (Jq L r (-1))) (fun k=>(((k:Nat):Int),M k)) _ L.length (fun k hk=>?_) ?_
 ·show Co (Ia L) _ _ (_,_)=_
  unfold Co;simp only[hgs,Au,Dt hk,cond_true];rw[Ac ⟨by omega,Int.le_refl _,by omega⟩,Ac (Fj (by rw[hM];exact hk)),m_reachW hm hr,Option.bind_some,tree_L1 hm k (M k) (hM k) hk,Option.bind_some,w1 (by omega)]
  have:(M k).set k (rowD L r k)=M (k+1):=by
   show((List.range L.length).map _).set k _=_
   rw[Tw];refine Gt fun i hi=>?_
   by_cases e:i=k
   ·subst e;rw[if_pos rfl,if_pos (by omega)]
   ·rw[if_neg e]
    by_cases e2:i<k
    ·rw[if_pos e2,if_pos (by omega)]
    ·rw[if_neg e2,if_neg (by omega)]
  rw[this]
 ·show Co (Ia L) _ _ (_,_)=_
  unfold Co;simp only[hgs,Gf,cond_false];rw[e1]
omit hr in
theorem tree_L3(a b:Nat)(ha:a<L.length)(hb:b<L.length):Ah (Cp (Ia L) (ovM L r) (b:Int) (a:Int)) (true,(0:Int))=some (nearB L r a b):=by
 obtain⟨h1,h2,h3⟩:=mayS_iff.1 hm;have hgs:(Ia L).Succ=L:=rfl
 let N:Nat→Bool:=fun k=>(List.range k).all fun c=>decide (c=b) || !Lq L r c b || Lq L r c a
 refine Fp (Cp (Ia L) (ovM L r) (b:Int) (a:Int)) (fun k=>(N k,((k:Nat):Int))) _ L.length (fun k hk=>?_) ?_
 ·show Cp (Ia L) _ _ _ (_,_)=_
  unfold Cp;simp only[hgs,Au,Dt hk,cond_true,ovM_at hk,ovM_len,rowD_len,rowD_at hb,rowD_at ha];rw[Ac (fun _=>Fj hk),Ac (fun _=>Fj hb),Ac (fun _=>Fj hk),Ac (fun _=>Fj ha),w1 (by omega),Vy]
  have:(bif N k then(bif (bif decide (k=b) then true else !Lq L r k b) then true else Lq L r k a) else false)=N (k+1):=by
   show _=(List.range (k+1)).all _
   rw[all_succ]
   show _=(N k&&_)
   cases N k<;>cases decide (k=b)<;>cases Lq L r k b<;>rfl
  rw[this]
 ·show Cp (Ia L) _ _ _ (_,_)=_
  unfold Cp;simp only[hgs,Gf,cond_false]
  rfl
def Mu(L:List (List Int))(r b:Nat)(x:Int):List Int:=(List.range L.length).map fun j=>if j<b then Ri L r j else if j=b then x else 0
omit hm hr in
theorem Xn{b:Nat}{x:Int}:(Mu L r b x).length=L.length:=by simp[Mu]
omit hm hr in
theorem Xo{b:Nat}{x y:Int}:(Mu L r b x).set b y=Mu L r b y:=by
 unfold Mu;rw[Tw];refine Gt fun i hi=>?_
 by_cases e:i=b
 ·subst e;rw[if_pos rfl,if_neg (by omega),if_pos rfl]
 ·rw[if_neg e,if_neg e,if_neg e]
omit hm hr in
theorem treeK_next{b:Nat}:Mu L r b (Ri L r b)=Mu L r (b+1) 0:=by
 unfold Mu;refine Gt fun i hi=>?_
 by_cases e:i<b
 ·rw[if_pos e,if_pos (by omega)]
 ·rw[if_neg e]
  by_cases e2:i=b
  ·subst e2;rw[if_pos rfl,if_pos (by omega)]
  ·rw[if_neg e2,if_neg (by omega)];split<;>rfl
omit hr in
theorem tree_L4(b:Nat)(hb:b<L.length)(hbr:b≠r):Ah (Bo (Ia L) (r:Int) (ovM L r) (b:Int)) ((0:Int),Mu L r b (-2))=some (Mu L r b (Ok L r b L.length)):=by
 obtain⟨h1,h2,h3⟩:=mayS_iff.1 hm;have hgs:(Ia L).Succ=L:=rfl;refine Fp (Bo (Ia L) (r:Int) (ovM L r) (b:Int)) (fun k=>(((k:Nat):Int),Mu L r b (Ok L r b k))) _ L.length (fun k hk=>?_) ?_
 ·show Bo (Ia L) _ _ _ (_,_)=_
  unfold Bo
  have hne:decide (b=r)=false:=by simp[hbr]
  simp only[hgs,Au,Dt hk,cond_true,ovM_at hk,ovM_len,rowD_len,rowD_at hb,Vy,bne_nat,hne,Bool.not_false];rw[Ac (fun _=>Fj hk),Ac (fun _=>Fj hb),tree_L3 hm k b hk hb]
  by_cases hkb:k=b
  ·have e:Ok L r b (k+1)=Ok L r b k:=by show(if _ then _ else _)=_;rw[if_neg (fun h=>h.1 hkb)]
   rw[decide_eq_true hkb,cond_true,cond_true,Option.bind_some,w1 (by omega),e]
  ·rw[decide_eq_false hkb,cond_false]
   cases ho:Lq L r k b with
   | false=>
    have e:Ok L r b (k+1)=Ok L r b k:=by show(if _ then _ else _)=_;rw[if_neg (fun h=>by rw[ho]at h;exact absurd h.2.1 (by decide))]
    rw[Bool.not_false,cond_true,Option.bind_some,w1 (by omega),e]
   | true=>
    rw[Bool.not_true,cond_false,Option.bind_some]
    cases hn:nearB L r k b with
    | false=>
     have e:Ok L r b (k+1)=Ok L r b k:=by show(if _ then _ else _)=_;rw[if_neg (fun h=>by rw[hn]at h;exact absurd h.2.2 (by decide))]
     rw[cond_false,Option.bind_some,w1 (by omega),e]
    | true=>
     have e:Ok L r b (k+1)=(k:Int):=by show(if _ then _ else _)=_;rw[if_pos ⟨hkb,ho,hn⟩]
     rw[cond_true,Ac (Fj (by rw[Xn];exact hb)),Option.bind_some,w1 (by omega),e,Xo]
 ·show Bo (Ia L) _ _ _ (_,_)=_
  unfold Bo;simp only[hgs,Gf,cond_false]
omit hr in
theorem tree_L5:Ah (Cq (Ia L) (r:Int) (ovM L r)) ((0:Int),List.replicate L.length (0:Int))=some (Tz L r):=by
 obtain⟨h1,h2,h3⟩:=mayS_iff.1 hm;have hgs:(Ia L).Succ=L:=rfl
 have e0:List.replicate L.length (0:Int)=Mu L r 0 0:=by
  refine List.ext_getElem (by simp[Mu]) fun i h1 h2=>by simp[Mu]
 have e1:Tz L r=Mu L r L.length 0:=Gt fun i hi=>by rw[if_pos hi]
 rw[e0];refine Fp (Cq (Ia L) (r:Int) (ovM L r)) (fun k=>(((k:Nat):Int),Mu L r k 0)) _ L.length (fun k hk=>?_) ?_
 ·show Cq (Ia L) _ _ (_,_)=_
  unfold Cq;simp only[hgs,Au,Dt hk,cond_true];rw[Ac (Fj (by rw[Xn];exact hk)),Vy,Xo,Xo]
  by_cases hkr:k=r
  ·rw[decide_eq_true hkr,cond_true,Ac (Fj (by rw[Xn];exact hk)),Option.bind_some]
   have hd:Ah (Bo (Ia L) (r:Int) (ovM L r) (k:Int)) ((0:Int),Mu L r k (-1))=some (Mu L r k (-1)):=by
    apply Ao
    unfold Bo;simp only[bne_nat,decide_eq_true hkr,Bool.not_true,bif_same,cond_false]
   rw[hd,Option.bind_some,w1 (by omega)]
   have:Ri L r k = -1:=by unfold Ri;rw[if_pos hkr]
   rw[← this,treeK_next]
  ·rw[decide_eq_false hkr,cond_false,Option.bind_some,tree_L4 hm k hk hkr,Option.bind_some,w1 (by omega)]
   have:Ri L r k=Ok L r k L.length:=by unfold Ri;rw[if_neg hkr]
   rw[← this,treeK_next]
 ·show Cq (Ia L) _ _ (_,_)=_
  unfold Cq;simp only[hgs,Gf,cond_false];rw[e1]
end
def treeG(g:TGraph)(r:Int):List Int:=if Uu g=true∧0≤r∧r<(g.Succ.length:Int) then Tz g.Succ r.toNat else[]
theorem m_ref_tree(g:TGraph)(h:Fits g.Succ)(r:Int):Hd g r=some (treeG g r):=by
 have hroom:(1000:Nat)≤room:=by decide
 unfold Hd treeG;rw[m_ref_may g h,Option.bind_some]
 cases hmg:Uu g with
 | false=>
  rw[if_neg (fun h=>by exact absurd h.1 (by decide))]
  rfl
 | true=>
  rw[Bool.not_true,cond_false]
  by_cases h0:r<0
  ·rw[decide_eq_true h0,cond_true,if_neg (by omega)]
   rfl
  ·rw[decide_eq_false h0,cond_false]
   by_cases h1:(g.Succ.length:Int)≤r
   ·rw[decide_eq_true h1,cond_true,if_neg (by omega)]
   ·rw[decide_eq_false h1,cond_false,if_pos ⟨rfl,by omega,by omega⟩];obtain⟨hms,hg⟩:=mayG_eq hmg;obtain⟨hl1,hl2,hl3⟩:=mayS_iff.1 hms;obtain⟨q,rfl⟩:∃ q:Nat,r=(q:Int):=⟨r.toNat,by omega⟩
    have hq:q<g.Succ.length:=by omega
    rw[hg];have hgs:(Ia g.Succ).Succ=g.Succ:=rfl;simp only[hgs,Au];rw[m_reachW hms hq,Option.bind_some,Ac ⟨by omega,Int.le_refl _,by omega⟩,tree_L2 hms hq,Option.bind_some,Ac ⟨by omega,Int.le_refl _,by omega⟩,tree_L5 hms,Option.bind_some]
def upD(t:List Int):Nat→Int→Option (List Int)
 | 0,_=>none
 | k+1,a=>if 0≤a∧a<(t.length:Int) then(if t.getD a.toNat 0 = -1 then some [a] else(upD t k (t.getD a.toNat 0)).map fun l=>a::l) else none
def Du(t:List Int)(a:Int):List Int:=(upD t t.length a).getD []
def sumO(l:List Int):Option (List Int)→Unit ⊕ List Int
 | none=>.inl ()
 | some q=>.inr (l++q)
theorem path_loop(t:List Int)(ht:t.length≤1000):∀(k:Nat) (a:Int) (l:List Int),l.length+k=t.length→Ah (B1 t) (a,l)=some (sumO l (upD t k a)):=by
 have hroom:(2000:Nat)≤room:=by decide
 intro k
 induction k with
 | zero=>
  intro a l hl
  apply Ao
  unfold B1;have:decide ((l.length:Int)<(t.length:Int))=false:=decide_eq_false (by omega);simp only[this,cond_false]
  rfl
 | succ k ih=>
  intro a l hl;have hlt:decide ((l.length:Int)<(t.length:Int))=true:=decide_eq_true (by omega);unfold upD
  by_cases h0:0≤a
  ·by_cases h1:a<(t.length:Int)
   ·have hin:Bb a t.length:=⟨h0,h1⟩;rw[if_pos ⟨h0,h1⟩]
    by_cases ht1:t.getD a.toNat 0 = -1
    ·rw[if_pos ht1]
     apply Ao
     unfold B1;simp only[hlt,decide_eq_true h0,decide_eq_true h1,cond_true];rw[Ac (by simp;omega),Ac hin,ht1]
     rfl
    ·rw[if_neg ht1]
     have hs:B1 t (a,l)=some (.next (t.getD a.toNat 0,l++[a])):=by
      unfold B1;have hb:(t.getD a.toNat 0==(-1:Int))=false:=beq_eq_false_iff_ne.2 ht1;simp only[hlt,decide_eq_true h0,decide_eq_true h1,cond_true];rw[Ac (by simp;omega),Ac hin,hb,cond_false,Ac hin]
     rw[Aw hs,ih _ (l++[a]) (by simp;omega)]
     cases upD t k (t.getD a.toNat 0) with
     | none=>rfl
     | some q=>show some (Sum.inr ((l++[a])++q))=some (Sum.inr (l++a::q));simp
   ·rw[if_neg (by omega)]
    apply Ao
    unfold B1;simp only[hlt,decide_eq_true h0,decide_eq_false h1,cond_true,cond_false]
    rfl
  ·rw[if_neg (by omega)]
   apply Ao
   unfold B1;simp only[hlt,decide_eq_false h0,cond_true,cond_false]
   rfl
theorem m_path(t:List Int)(ht:t.length≤1000)(a:Int):Em t a=some (Du t a):=by
 unfold Em Du;rw[path_loop t ht t.length a [] (by simp),Option.bind_some]
 cases upD t t.length a with
 | none=>rfl
 | some q=>rfl
theorem upD_len(t:List Int):∀ k a q,upD t k a=some q→q.length≤k∧1≤q.length:=by
 intro k
 induction k with
 | zero=>intro a q h;cases h
 | succ k ih=>
  intro a q h;unfold upD at h
  split at h
  ·split at h
   ·cases h;simp
   ·cases hu:upD t k (t.getD a.toNat 0) with
    | none=>rw[hu]at h;cases h
    | some q'=>rw[hu]at h;cases h;have:=ih _ _ hu;simp;omega
  ·cases h
theorem pathD_len(t:List Int)(a:Int):(Du t a).length≤t.length:=by
 unfold Du
 cases h:upD t t.length a with
 | none=>simp
 | some q=>exact(upD_len t _ _ _ h).1
theorem pathD_nil{t:List Int}{a:Int}:Du t a=[]↔upD t t.length a=none:=by
 unfold Du
 cases h:upD t t.length a with
 | none=>simp
 | some q=>have:=(upD_len t _ _ _ h).2;simp;intro e;subst e;simp at this
def topsK(t:List Int)(k:Nat):Nat:=((List.range k).filter fun a=>decide (t.getD a 0 = -1)).length
def okR(t:List Int)(a:Nat):Bool:=decide (t.getD a 0 = -2) || !decide (Du t (a:Int)=[])
def Ji(t:List Int):Bool:=(List.range t.length).all (okR t)&&decide (topsK t t.length=1)
theorem Vo(t:List Int)(k:Nat):topsK t (k+1)=topsK t k+if t.getD k 0 = -1 then 1 else 0:=by
 unfold topsK;rw[List.range_succ,List.filter_append,List.length_append]
 by_cases h:t.getD k 0 = -1
 ·rw[if_pos h]
  have:List.filter (fun a=>decide (t.getD a 0 = -1)) [k]=[k]:=by rw[List.filter_cons,if_pos (decide_eq_true h)];rfl
  rw[this];rfl
 ·rw[if_neg h]
  have:List.filter (fun a=>decide (t.getD a 0 = -1)) [k]=[]:=by rw[List.filter_cons,if_neg (by simpa using h)];rfl
  rw[this];rfl
theorem topsK_le(t:List Int)(k:Nat):topsK t k≤k:=by
 unfold topsK;exact Nat.le_trans (List.length_filter_le ..) (by simp)
theorem len_zero{l:List Int}:(((l.length:Nat):Int)==(0:Int))=decide (l=[]):=by
 cases l with
 | nil=>rfl
 | cons x l=>simp;omega
theorem right_loop(t:List Int)(ht:t.length≤1000):Ah (Bh t) ((0:Int),(0:Int))=some (bif (List.range t.length).all (okR t) then .inl ((topsK t t.length:Nat):Int) else .inr false):=by
 have body:∀ k,k<t.length→Bh t (((topsK t k:Nat):Int),(k:Int))=some (bif okR t k then .next (((topsK t (k+1):Nat):Int),((k+1:Nat):Int)) else .done (.inr false)):=fun k hk=>by
  have hle:=topsK_le t k;unfold Bh;simp only[Au,Dt hk,cond_true];rw[Ac (Fj hk)]
  have e1:(bif (t.getD k 0==(-1:Int)) then some (w64 (((topsK t k:Nat):Int)+1)) else some ((topsK t k:Nat):Int))=some ((topsK t (k+1):Nat):Int):=by
   rw[Vo]
   by_cases h:t.getD k 0 = -1
   ·rw[if_pos h,beq_iff_eq.2 h,cond_true,w1 (by omega)]
   ·rw[if_neg h,beq_eq_false_iff_ne.2 h,cond_false];rfl
  rw[e1,Option.bind_some]
  by_cases h2:t.getD k 0 = -2
  ·have hb:(t.getD k 0 !=(-2:Int))=false:=by rw[h2];rfl
   have ho:okR t k=true:=by unfold okR;rw[decide_eq_true h2];rfl
   rw[hb,show(false==true)=false from rfl,cond_false,Option.bind_some,cond_false,cond_false,Ac (Fj hk),w1 (by omega),ho,cond_true]
  ·have hb:(t.getD k 0 !=(-2:Int))=true:=bne_iff_ne.2 h2
   have ho:okR t k = !decide (Du t (k:Int)=[]):=by unfold okR;rw[decide_eq_false h2];rfl
   rw[hb,show(true==true)=true from rfl,cond_true,m_path t ht,Option.bind_some,cond_true,len_zero,Ac (Fj hk),w1 (by omega),ho]
   cases decide (Du t (k:Int)=[])<;>rfl
 have:=Hj (Bh t) (fun k=>(((topsK t k:Nat):Int),((k:Nat):Int))) (okR t) (.inl ((topsK t t.length:Nat):Int)) (.inr false) t.length (fun i hi hp=>by
   show Bh t _=_;rw[body i hi,hp,cond_true]) (fun i hi hp=>by
   show Bh t _=_;rw[body i hi,hp,cond_false]) (by
   show Bh t _=_
   unfold Bh
   simp only[Gf,cond_false])
 exact this
theorem m_right(t:List Int)(ht:t.length≤1000):Gq t=some (Ji t):=by
 unfold Gq Ji;rw[right_loop t ht,Option.bind_some]
 cases(List.range t.length).all (okR t) with
 | false=>rfl
 | true=>
  rw[cond_true,Bool.true_and]
  show some (((topsK t t.length:Nat):Int)==(1:Int))=_
  have:(1:Int)=((1:Nat):Int):=rfl;rw[this,Vy]
theorem find_first(p:Int→Bool):∀ l:List Int,(∃ n,n<l.length∧(∀ i,i<n→p (l.getD i 0)=false)∧p (l.getD n 0)=true∧l.find? p=some (l.getD n 0))∨((∀ i,i<l.length→p (l.getD i 0)=false)∧l.find? p=none):=by
 intro l
 induction l with
 | nil=>exact .inr ⟨fun i hi=>absurd hi (Nat.not_lt_zero i),rfl⟩
 | cons x l ih=>
  cases hx:p x with
  | true=>exact .inl ⟨0,by simp,fun i hi=>absurd hi (Nat.not_lt_zero i),by simpa using hx,by simp[List.find?,hx]⟩
  | false=>
   rcases ih with⟨n,h1,h2,h3,h4⟩|⟨h1,h2⟩
   ·refine .inl ⟨n+1,by simpa using h1,fun i hi=>?_,by simpa using h3,by simp[List.find?,hx,h4]⟩
    cases i with
    | zero=>simpa using hx
    | succ i=>simpa using h2 i (by omega)
   ·refine .inr ⟨fun i hi=>?_,by simp only[List.find?,hx];exact h2⟩
    cases i with
    | zero=>simpa using hx
    | succ i=>simpa using h1 i (by simpa using hi)
def Ms(t:List Int)(a b:Int):Int:=if Ji t=true then((Du t a).find? fun x=>(Du t b).contains x).getD (-2) else -2
def U7(t:List Int)(a b:Int):Bool:=Ms t a b==a&&Ms t a b !=-2
theorem m_meet(t:List Int)(ht:t.length≤1000)(a b:Int):Hc t a b=some (Ms t a b):=by
 unfold Hc Ms;rw[m_right t ht,Option.bind_some]
 cases Ji t with
 | false=>rfl
 | true=>
  rw[Bool.not_true,cond_false,m_path t ht,Option.bind_some,m_path t ht,Option.bind_some,if_pos rfl];have hp:=pathD_len t a;have hq:=pathD_len t b
  have body:∀ k,k<(Du t a).length→A7 (Du t a) (Du t b) (k:Int)=some (bif (Du t b).contains ((Du t a).getD k 0) then .done (.inr ((Du t a).getD k 0)) else .next ((k+1:Nat):Int)):=fun k hk=>by
   unfold A7;simp only[Au,Dt hk,cond_true];rw[Ac (Fj hk),m_has _ _ (by omega),Option.bind_some,w1 (by omega),Ac (Fj hk)]
   cases(Du t b).contains ((Du t a).getD k 0)<;>rfl
  rcases find_first (fun x=>(Du t b).contains x) (Du t a) with⟨n,h1,h2,h3,h4⟩|⟨h1,h2⟩
  ·have:=Fp (A7 (Du t a) (Du t b)) (fun k=>((k:Nat):Int)) (.inr ((Du t a).getD n 0)) n (fun k hk=>by
    show A7 _ _ _=_;rw[body k (by omega),h2 k hk,cond_false]) (by
    show A7 _ _ _=_;rw[body n h1,h3,cond_true])
   have e:Ah (A7 (Du t a) (Du t b)) (0:Int)=_:=this;rw[e,Option.bind_some,h4]
   rfl
  ·have:=Fp (A7 (Du t a) (Du t b)) (fun k=>((k:Nat):Int)) (.inl ()) (Du t a).length (fun k hk=>by
    show A7 _ _ _=_;rw[body k hk,h1 k hk,cond_false]) (by
    show A7 _ _ _=_
    unfold A7
    simp only[Gf,cond_false])
   have e:Ah (A7 (Du t a) (Du t b)) (0:Int)=_:=this;rw[e,Option.bind_some,h2]
   rfl
section
variable {S:Nat→List Nat} {r n:Nat} {P:List Nat} {t:List Int}
theorem DomTree.up(h:DomTree S r n P t):∀ k x,x<n→Bi t x≠-2→pos (r::P) x<k→∃ q,upD t k (x:Int)=some q∧(∀ w:Int,w∈q↔∃ z:Nat,w=(z:Int)∧UpTo (Bi t) x z) ∧
  ∀ p:Int→Bool,(q.find? p=none∧∀ z:Nat,UpTo (Bi t) x z→p (z:Int)=false)∨∃ f:Nat,q.find? p=some (f:Int)∧UpTo (Bi t) x f∧p (f:Int)=true∧∀ z:Nat,UpTo (Bi t) x z→p (z:Int)=true→UpTo (Bi t) f z:=by
 intro k
 induction k with
 | zero=>intro x _ _ hk;exact absurd hk (Nat.not_lt_zero _)
 | succ k ih=>
  intro x hx hp hk
  have hxt:(0:Int)≤(x:Int)∧(x:Int)<(t.length:Int):=by rw[h.len];omega
  unfold upD;rw[if_pos hxt,Au];have hpx:t.getD x 0=Bi t x:=rfl;rw[hpx];rcases h.inv.kind x hx with h1|rfl|⟨z,hz⟩
  ·exact absurd h1 hp
  ·rw[if_pos h.inv.top];refine⟨_,rfl,fun w=>?_,fun p=>?_⟩
   ·rw[List.mem_singleton]
    constructor
    ·rintro rfl;exact⟨x,rfl,.refl _⟩
    ·rintro⟨z,rfl,hz⟩;rw[h.inv.root_anc.1 hz]
   ·cases hpp:p (x:Int) with
    | false=>exact .inl ⟨by simp[List.find?,hpp],fun z hz=>by rw[h.inv.root_anc.1 hz];exact hpp⟩
    | true=>exact .inr ⟨x,by simp[List.find?,hpp],.refl _,hpp,fun z hz _=>hz⟩
  ·obtain⟨z1,z2,z3,z4⟩:=h.inv.up x hx z hz;rw[hz,if_neg (by omega)];obtain⟨q,hq1,hq2,hq3⟩:=ih z z1 z2 (by omega);rw[hq1];refine⟨(x:Int)::q,rfl,fun w=>?_,fun p=>?_⟩
   ·rw[List.mem_cons,hq2 w]
    constructor
    ·rintro(rfl|⟨y,rfl,hy⟩)
     ·exact⟨x,rfl,.refl _⟩
     ·exact⟨y,rfl,.up hz hy⟩
    ·rintro⟨y,rfl,hy⟩;rcases(anc_up hz).1 hy with rfl|hy
     ·exact .inl rfl
     ·exact .inr ⟨y,rfl,hy⟩
   ·cases hpp:p (x:Int) with
    | true=>exact .inr ⟨x,by simp[List.find?,hpp],.refl _,hpp,fun y hy _=>hy⟩
    | false=>
     have hf:((x:Int)::q).find? p=q.find? p:=by simp[List.find?,hpp]
     rw[hf];rcases hq3 p with⟨e1,e2⟩|⟨f,e1,e2,e3,e4⟩
     ·refine .inl ⟨e1,fun y hy=>?_⟩;rcases(anc_up hz).1 hy with rfl|hy
      ·exact hpp
      ·exact e2 y hy
     ·refine .inr ⟨f,e1,.up hz e2,e3,fun y hy hpy=>?_⟩;rcases(anc_up hz).1 hy with rfl|hy
      ·rw[hpp]at hpy;cases hpy
      ·exact e4 y hy hpy
theorem Ordered.pos_lt(o:Ordered S r n P){x:Nat}(hx:x∈r::P):pos (r::P) x<n:=by
 obtain⟨j,hj,rfl⟩:=List.getElem_of_mem hx;rw[(Zb o.nodup hj).2];have:=M0 n (r::P) o.nodup fun y hy=>o.lt hy;omega
theorem DomTree.path(h:DomTree S r n P t)(o:Ordered S r n P){x:Nat}(hx:x<n)(hp:Bi t x≠-2):Du t (x:Int)≠[]∧(∀ w:Int,w∈Du t (x:Int)↔∃ z:Nat,w=(z:Int)∧UpTo (Bi t) x z) ∧
  ∀ p:Int→Bool,((Du t (x:Int)).find? p=none∧∀ z:Nat,UpTo (Bi t) x z→p (z:Int)=false)∨∃ f:Nat,(Du t (x:Int)).find? p=some (f:Int)∧UpTo (Bi t) x f∧p (f:Int)=true∧∀ z:Nat,UpTo (Bi t) x z→p (z:Int)=true→UpTo (Bi t) f z:=by
 have hm:=(o.mem x).2 (h.inv.rc x hx hp);obtain⟨q,h1,h2,h3⟩:=h.up n x hx hp (o.pos_lt hm)
 have e:Du t (x:Int)=q:=by unfold Du;rw[h.len,h1];rfl
 rw[e];refine⟨fun e=>?_,h2,h3⟩;have:=(h2 (x:Int)).2 ⟨x,rfl,.refl _⟩;rw[e]at this
 cases this
theorem DomTree.nopath(h:DomTree S r n P t){x:Nat}(hx:x<n)(hp:Bi t x = -2):Du t (x:Int)=[]:=by
 rw[pathD_nil]
 cases hl:t.length with
 | zero=>rfl
 | succ k=>
  unfold upD;rw[if_pos ⟨by omega,by rw[h.len];omega⟩,Au,show t.getD x 0=Bi t x from rfl,hp,if_neg (by omega)]
  cases k with
  | zero=>rfl
  | succ k=>unfold upD;rw[if_neg (by omega)];rfl
theorem DomTree.right(h:DomTree S r n P t)(o:Ordered S r n P):Ji t=true:=by
 unfold Ji;rw[Bool.and_eq_true]
 constructor
 ·refine all_range.2 fun x hx=>?_;rw[h.len]at hx;unfold okR
  by_cases hp:Bi t x = -2
  ·rw[show t.getD x 0=Bi t x from rfl,hp];rfl
  ·rw[decide_eq_false (h.path o hx hp).1];simp
 ·apply decide_eq_true
  have key:∀ k,k≤n→topsK t k=if r<k then 1 else 0:=by
   intro k
   induction k with
   | zero=>intro _;rfl
   | succ k ih=>
    intro hk;rw[Vo,ih (by omega)]
    have hr:t.getD k 0 = -1↔k=r:=by
     constructor
     ·intro he;rcases h.inv.kind k (by omega) with h1|h1|⟨z,hz⟩
      ·rw[show t.getD k 0=Bi t k from rfl,h1]at he;omega
      ·exact h1
      ·rw[show t.getD k 0=Bi t k from rfl,hz]at he;omega
     ·rintro rfl;exact h.inv.top
    by_cases hkr:k=r
    ·subst hkr;rw[if_neg (by omega),if_pos (hr.2 rfl),if_pos (by omega)]
    ·rw[if_neg (fun e=>hkr (hr.1 e))]
     by_cases h2:r<k
     ·rw[if_pos h2,if_pos (by omega)]
     ·rw[if_neg h2,if_neg (by omega)]
  rw[h.len,key n (Nat.le_refl _),if_pos o.hr]
theorem DomTree.meet(h:DomTree S r n P t)(o:Ordered S r n P){a b:Nat}(ha:a<n)(hb:b<n)(hpa:Bi t a≠-2)(hpb:Bi t b≠-2):∃ m:Nat,Ms t (a:Int) (b:Int)=(m:Int)∧MeetAt (Bi t) a b m∧m<n∧Bi t m≠-2:=by
 have rd:Ready S r n P t P.length:=⟨h.inv,h.len,fun x hx=>by rw[List.take_length]at hx;exact h.full x (o.lt hx) ((o.mem x).1 hx)⟩;obtain⟨c,hc1,hc2,hc3⟩:=h.inv.meets (rd.inj o) pos_root _ a b (Nat.le_refl _) ha hb hpa hpb;refine⟨c,?_,hc1,hc2,hc3⟩;unfold Ms;rw[if_pos (h.right o)];obtain⟨hca,hcb⟩:=(hc1 c).1 (.refl _)
 have hin:∀ z:Nat,(Du t (b:Int)).contains (z:Int)=true↔UpTo (Bi t) b z:=fun z=>by
  rw[List.contains_iff_mem,(h.path o hb hpb).2.1]
  constructor
  ·rintro⟨y,hy,hu⟩;cases Int.ofNat.inj hy;exact hu
  ·intro hu;exact⟨z,rfl,hu⟩
 rcases(h.path o ha hpa).2.2 fun x=>(Du t (b:Int)).contains x with⟨_,h2⟩|⟨f,h1,h2,h3,h4⟩
 ·have:=h2 c hca;rw[(hin c).2 hcb]at this
  cases this
 ·rw[h1];have hfc:=h4 c hca ((hin c).2 hcb);have hcf:=(hc1 f).2 ⟨h2,(hin f).1 h3⟩;rw[h.inv.antisymm hcf hfc hc2 hc3]
  rfl
theorem DomTree.meet_none(h:DomTree S r n P t)(o:Ordered S r n P){a b:Nat}(ha:a<n)(hb:b<n)(hp:Bi t a = -2∨Bi t b = -2):Ms t (a:Int) (b:Int) = -2:=by
 unfold Ms;rw[if_pos (h.right o)];rcases hp with hp|hp
 ·rw[h.nopath ha hp];rfl
 ·rw[h.nopath hb hp]
  have:(Du t (a:Int)).find? (fun x=>([]:List Int).contains x)=none:=List.find?_eq_none.2 fun x _=>by simp
  rw[this];rfl
theorem DomTree.over(h:DomTree S r n P t)(o:Ordered S r n P){a b:Nat}(ha:a<n)(hb:b<n):U7 t (a:Int) (b:Int)=true↔Bi t b≠-2∧UpTo (Bi t) b a:=by
 unfold U7;rw[Bool.and_eq_true,beq_iff_eq,bne_iff_ne]
 by_cases hpa:Bi t a = -2
 ·rw[h.meet_none o ha hb (.inl hpa)]
  constructor
  ·rintro⟨h1,_⟩;omega
  ·rintro⟨h1,h2⟩;exact absurd hpa (h.inv.anc h2 hb h1).2.1
 ·by_cases hpb:Bi t b = -2
  ·rw[h.meet_none o ha hb (.inr hpb)]
   constructor
   ·rintro⟨h1,_⟩;omega
   ·rintro⟨h1,_⟩;exact absurd hpb h1
  ·obtain⟨m,hm1,hm2,hm3,hm4⟩:=h.meet o ha hb hpa hpb;rw[hm1]
   constructor
   ·rintro⟨h1,_⟩;have h1:=Int.ofNat.inj h1;subst h1;exact⟨hpb,((hm2 _).1 (.refl _)).2⟩
   ·rintro⟨_,h2⟩;have:=(hm2 a).2 ⟨.refl _,h2⟩;have h3:=((hm2 m).1 (.refl _)).1;rw[h.inv.antisymm h3 this ha hpa];exact⟨rfl,by omega⟩
theorem DomTree.over_dom(h:DomTree S r n P t)(o:Ordered S r n P){a b:Nat}(ha:a<n)(hb:b<n):U7 t (a:Int) (b:Int)=true↔Rc S r b∧¬ Av S r a b:=by
 rw[h.over o ha hb]
 constructor
 ·rintro⟨h1,h2⟩;exact⟨h.inv.rc b hb h1,(h.exact_ b hb h1 a).1 h2⟩
 ·rintro⟨h1,h2⟩;have:=h.full b hb h1;exact⟨this,(h.exact_ b hb this a).2 h2⟩
end
section
variable {L:List (List Int)} (hm:Lc L=true) {r:Nat} (hr:r<L.length)
include hm hr
theorem treeD_dom:∃ P,Ord (sN L) r (r::P)∧Ordered (sN L) r L.length P∧DomTree (sN L) r L.length P (Tz L r):=by
 obtain⟨O,hO⟩:=Ord.exist (Rw hm) hr;obtain⟨P,rfl,o⟩:=hO.ordered hr (Rw hm);obtain⟨J,_,hJ⟩:=stops o;have hd:=Yd o hJ;refine⟨P,hO,o,?_⟩;rw[← hd.eq hm hr o];exact hd
end
theorem W9{X:Type}(n:Nat)(p:Nat→Bool)(f:Int→Option (LR Int X))(yes no:X)(hn:∀ i:Nat,i<n→p i=true→f (i:Int)=some (.next ((i:Int)+1)))
  (hf:∀ i:Nat,i<n→p i=false→f (i:Int)=some (.done no)) (he:f (n:Int)=some (.done yes)):Ah f (0:Int)=some (bif (List.range n).all p then yes else no):=by
 have hg:∀ i,i<(List.range n).length→(List.range n).getD i 0=i:=fun i hi=>by rw[Ai _ _ _ hi];simp
 have:=Gk (List.range n) 0 p f yes no (fun i hi hp=>by rw[hg i hi]at hp;exact hn i (by simpa using hi) hp) (fun i hi hp=>by rw[hg i hi]at hp;exact hf i (by simpa using hi) hp) (by simpa using he) n 0 (by simp);rw[show(0:Int)=((0:Nat):Int) from rfl,this,List.drop_zero]
theorem allN{n:Nat}{p:Nat→Bool}(h:(List.range n).all p=true):∀ i,i<n→p i=true:=fun i hi=>List.all_eq_true.1 h i (by simpa using hi)
def K4(L:List (List Int)):List Bool:=Wm (sN L) L.length ((List.replicate L.length false).set 0 true) L.length
def Gv(l:List Int)(p:Er):Bool:=decide (p.From=l)&&((p.Args.length:Int)==(l.length:Int))
def Kd(L:List (List Int))(b:Ad)(i:Nat):Bool:=(K4 L).getD i false&&!((b.End.Kind==1 || b.End.Kind==3)&&(b.End.Arg !=0))&&b.Phis.all (Gv ((D7 L).getD i []))
def Fo(f:Ab):Bool:=Ld f&&(List.range f.Blocks.length).all fun i=>Kd (Ch f) (f.Blocks.getD i default) i
theorem Tn(f:Ab):(Ch f).length=f.Blocks.length:=by simp[Ch]
theorem reachB0_len(L:List (List Int)):(K4 L).length=L.length:=by rw[K4,Rd];simp
theorem bsh_aux{a b c d:Bool}{x:Option (LR Int (Unit ⊕ Bool))}:(bif (bif (!a) then true else(bif (bif b then true else c) then d else false)) then some (LR.done (Sum.inr false)) else x)=bif (a&&!((b || c)&&d)) then x else some (LR.done (Sum.inr false)):=by
 cases a<;>cases b<;>cases c<;>cases d<;>rfl
theorem m_shape {f : Ab} (hf : OkF f) : Gr f = some (Fo f) := by
  have hmax : f.Blocks.length ≤ maxLen := by have := hf.blocks; have : (64 : Nat) ≤ maxLen := by decide
                                             omega
  unfold Gr Fo; rw [m_ref_of f hmax, Option.bind_some]
  cases hs : Ld f with
  | false => rfl
  | true =>
    have hm := Nm hs; have hlen := Tn f; obtain ⟨h1, h2⟩ := N6 hm
    have hpos : 0 < (Ch f).length := by have := (shape_iff.1 hs).1.1; omega
    simp only [cond_true, Bool.true_and]; rw [show (((0 : Int) != 0)) = false from rfl, cond_false]; have hr := m_reach hm hpos; rw [show (((0 : Nat) : Int)) = 0 from rfl] at hr; rw [hr, Option.bind_some]
    show ((Ah (D0 f (Ia (Ch f), 0) (K4 (Ch f))) 0).bind _) = _
    have hphi : ∀ i, i < f.Blocks.length → Ah (C3 f (Ia (Ch f), 0) (i : Int)) (0 : Int) = some (bif (f.Blocks.getD i default).Phis.all (Gv ((D7 (Ch f)).getD i [])) then .inl () else .inr false) := fun i hi => by
      have hmem := As (d := (default : Ad)) hi; have hB := hf.block _ hmem
      have hpl : (Ia (Ch f)).Pred.length = f.Blocks.length := by rw [← hlen]; exact M2 _
      have hpi : Bb (i : Int) (Ia (Ch f)).Pred.length := Ap (by omega)
      have key : ∀ j, j < (f.Blocks.getD i default).Phis.length → C3 f (Ia (Ch f), 0) (i : Int) (j : Int) = some (bif Gv ((D7 (Ch f)).getD i []) ((f.Blocks.getD i default).Phis.getD j default) then .next ((j : Int) + 1) else .done (.inr false)) := fun j hj => by
        have hp := ok_phi hf hmem (As (d := (default : Er)) hj); unfold C3
        have hd : decide ((j : Int) < ((f.Blocks.getD i default).Phis.length : Int)) = true := by simpa using hj
        have hi1 := m_ints ((f.Blocks.getD i default).Phis.getD j default).From ((Ia (Ch f)).Pred.getD i []) (by omega); simp only [Int.toNat_natCast, hd, cond_true, Af (Ap hj), Af hpi, hi1, Option.bind_some]; rw [Af (fun _ => Ap hj), Af (fun _ => hpi), A4 hj (by have := hB.phis; omega)]; unfold Gv
        show (bif (bif (!decide (((f.Blocks.getD i default).Phis.getD j default).From = (D7 (Ch f)).getD i [])) then true else ((((f.Blocks.getD i default).Phis.getD j default).Args.length : Int) != (((D7 (Ch f)).getD i []).length : Int))) then _ else _) = _
        cases decide (((f.Blocks.getD i default).Phis.getD j default).From = (D7 (Ch f)).getD i []) with
        | false => rfl
        | true =>
          simp only [Bool.not_true, cond_false, Bool.true_and, bne]
          cases ((((f.Blocks.getD i default).Phis.getD j default).Args.length : Int) == (((D7 (Ch f)).getD i []).length : Int)) <;> rfl
      have := Gk (f.Blocks.getD i default).Phis (default : Er) (Gv ((D7 (Ch f)).getD i [])) (C3 f (Ia (Ch f), 0) (i : Int)) (.inl ()) (.inr false) (fun j hj hp => by rw [key j hj, hp]; rfl) (fun j hj hp => by rw [key j hj, hp]; rfl) (by unfold C3; simp) (f.Blocks.getD i default).Phis.length 0 (by omega); rw [List.drop_zero] at this; exact this
    have hrl := reachB0_len (Ch f)
    have key : ∀ i, i < f.Blocks.length → D0 f (Ia (Ch f), 0) (K4 (Ch f)) (i : Int) = some (bif Kd (Ch f) (f.Blocks.getD i default) i then .next ((i : Int) + 1) else .done (.inr false)) := fun i hi => by
      unfold D0
      have hd : decide ((i : Int) < (f.Blocks.length : Int)) = true := by simpa using hi
      simp only [hd, cond_true, Af (Ap hi), Af (Ap (show i < (K4 (Ch f)).length by omega)), Int.toNat_natCast, bsh_aux, hphi i hi, Option.bind_some, A4 hi (by have := hf.blocks; omega)]; unfold Kd
      cases ((K4 (Ch f)).getD i false && !(((f.Blocks.getD i default).End.Kind == 1 || (f.Blocks.getD i default).End.Kind == 3) && ((f.Blocks.getD i default).End.Arg != 0))) with
      | false => rfl
      | true => cases (f.Blocks.getD i default).Phis.all (Gv ((D7 (Ch f)).getD i [])) <;> rfl
    rw [W9 f.Blocks.length (fun i => Kd (Ch f) (f.Blocks.getD i default) i) _ (.inl ()) (.inr false) (fun i hi hp => by rw [key i hi, hp]; rfl) (fun i hi hp => by rw [key i hi, hp]; rfl) (by unfold D0; simp)]
    cases (List.range f.Blocks.length).all (fun i => Kd (Ch f) (f.Blocks.getD i default) i) <;> rfl
theorem shape_fit{f:Ab}(h:Fo f=true):phisFit f:=fun b hb p hp=>by
 simp only[Fo,Bool.and_eq_true]at h;obtain⟨i,hi,rfl⟩:=List.getElem_of_mem hb;have h1:=allN h.2 i hi;rw[Ai _ _ _ hi]at h1;simp only[Kd,Bool.and_eq_true]at h1;have h2:=List.all_eq_true.1 h1.2 p hp;simp only[Gv,Bool.and_eq_true,decide_eq_true_eq,beq_iff_eq]at h2;rw[h2.1];omega
def Km(l:List Bk)(i:Nat):Bool:=valS (l.getD i default).V&&(I5 l (l.getD i default).V==(i:Int))
def Iy(l:List Bk)(u:Bz):Bool:=!decide (I5 l u.V<0)
def defOf(l:List Bk)(v:Int):Bk:=l.getD (I5 l v).toNat default
def O9(l:List Bk)(u:Bz):Bool:=((defOf l u.V).Shape.1==u.Shape.1)&&(((defOf l u.V).Shape.2==u.Shape.2)&&true)
def O8(l:List Bk)(t:List Int)(u:Bz):Bool:=
 (decide ((defOf l u.V).Block<0) || ((defOf l u.V).Block==u.Block&&decide ((defOf l u.V).At<u.At))) || (!((defOf l u.V).Block==u.Block)&&!(Ms t (defOf l u.V).Block u.Block !=(defOf l u.V).Block))
def Cs(f:Ab):List Int:=treeG (Ia (Ch f)) 0
def Vp(f:Ab)(l:Int):Int:=
 bif !Fo f then 5 else bif !Ou f l then 6 else bif !(List.range (Aq f).length).all (Km (Aq f)) then 7 else bif !(Bs f).all (Iy (Aq f)) then 7 else
 bif !(Bs f).all (O9 (Aq f)) then 6 else bif !(Bs f).all (O8 (Aq f) (Cs f)) then 7 else 0
def Fl(f:Ab)(l:Int):Int:=bif decide (l<0) || decide (2<l) then 1 else bif !Oy f then 4 else Vp f l
theorem findD_in{l:List Bk}{v:Int}(h:¬ I5 l v<0):Bb (I5 l v) l.length:=by
 unfold I5 at h ⊢
 cases hx:l.findIdx? (fun d=>d.V==v) with
 | none=>rw[hx]at h;exact absurd (by decide) h
 | some i=>
  obtain⟨hi,_⟩:=List.findIdx?_eq_some_iff_getElem.1 hx;exact Ap hi
theorem tree_len{f:Ab}(h:Ld f=true):(Cs f).length≤1000:=by
 have h1:=(N6 (Nm h)).1;unfold Cs treeG
 split
 ·rw[treeD_len];show(Ch f).length≤1000;omega
 ·simp
theorem dom_aux(a b c:Bool)(m q x:Int):(Option.bind (α:=Unit ⊕ Int) (bif (bif a then true else(bif b then c else false)) then some (.inl ()) else((bif (b==false) then some m else some 0).bind fun x31=>(bif (bif b then true else(x31 !=q)) then some (.inr 7) else some (.inl ())))) (fun x32=>match x32 with | .inl _=>some (LR.next x) | .inr r34=>some (.done (.inr r34)))) =
  (some (bif (a || (b&&c)) || (!b&&!(m !=q)) then .next x else .done (.inr 7)):Option (LR Int (Unit ⊕ Int))):=by
 cases h:(m !=q)<;>cases a<;>cases b<;>cases c<;>simp[h]
theorem m_wrong {f : Ab} (hf : OkF f) (l : Int) (hm : Ge f = some (Oy f)) : D6 f l = some (Fl f l) := by
  unfold D6 Fl; rw [show (bif decide (l < (0 : Int)) then true else decide ((2 : Int) < l)) = (decide (l < 0) || decide (2 < l)) by cases decide (l < (0 : Int)) <;> rfl]
  cases (decide (l < 0) || decide (2 < l)) with
  | true => rfl
  | false =>
  simp only [cond_false, hm, Option.bind_some]
  cases Oy f with
  | false => rfl
  | true =>
  simp only [Bool.not_true, cond_false, m_shape hf, Option.bind_some, Vp]
  cases hs : Fo f with
  | false => rfl
  | true =>
  simp only [Bool.not_true, cond_false, m_typed hf, Option.bind_some]
  cases ht : Ou f l with
  | false => rfl
  | true =>
  simp only [Bool.not_true, cond_false, m_defs hf, Option.bind_some]; have hdl := defsF_len hf; have hul := Xp hf
  have hL1 : Ah (S := Int) (X := (Unit ⊕ Int)) (Dz (Aq f)) (0 : Int) = some (bif (List.range (Aq f).length).all (Km (Aq f)) then .inl () else .inr 7) := by
    have key : ∀ i, i < (Aq f).length → Dz (Aq f) (i : Int) = some (bif Km (Aq f) i then .next ((i : Int) + 1) else .done (.inr 7)) := fun i hi => by
      unfold Dz Km
      have hd : decide ((i : Int) < ((Aq f).length : Int)) = true := by simpa using hi
      simp only [hd, cond_true, Af (Ap hi), Int.toNat_natCast, Uh, Option.bind_some, Af (fun _ => Ap hi), m_find (Aq f) _ (by omega), A4 hi (by omega)]
      cases valS ((Aq f).getD i default).V with
      | false => rfl
      | true =>
        simp only [Bool.not_true, Option.bind_some, Bool.true_and]
        show (bif (I5 (Aq f) ((Aq f).getD i default).V != (i : Int)) then _ else _) = _
        simp only [bne]
        cases (I5 (Aq f) ((Aq f).getD i default).V == (i : Int)) <;> rfl
    exact W9 _ _ _ _ _ (fun i hi hp => by rw [key i hi, hp]; rfl) (fun i hi hp => by rw [key i hi, hp]; rfl) (by unfold Dz; simp)
  rw [hL1, Option.bind_some]
  cases (List.range (Aq f).length).all (Km (Aq f)) with
  | false => rfl
  | true =>
  simp only [cond_true, Bool.not_true, cond_false, m_uses hf (shape_fit hs), Option.bind_some]
  have hL2 : Ah (S := Int) (X := (Unit ⊕ Int)) (C1 (Aq f) (Bs f)) (0 : Int) = some (bif (Bs f).all (Iy (Aq f)) then .inl () else .inr 7) := by
    have key : ∀ i, i < (Bs f).length → C1 (Aq f) (Bs f) (i : Int) = some (bif Iy (Aq f) ((Bs f).getD i default) then .next ((i : Int) + 1) else .done (.inr 7)) := fun i hi => by
      unfold C1 Iy
      have hd : decide ((i : Int) < ((Bs f).length : Int)) = true := by simpa using hi
      simp only [hd, cond_true, Af (Ap hi), Int.toNat_natCast, m_find (Aq f) _ (by omega), Option.bind_some, A4 hi (by omega)]
      cases decide (I5 (Aq f) ((Bs f).getD i default).V < 0) <;> rfl
    have := Gk (Bs f) default (Iy (Aq f)) (C1 (Aq f) (Bs f)) (.inl ()) (.inr 7) (fun i hi hp => by rw [key i hi, hp]; rfl) (fun i hi hp => by rw [key i hi, hp]; rfl) (by unfold C1; simp) (Bs f).length 0 (by omega); rw [List.drop_zero] at this; exact this
  rw [hL2, Option.bind_some]
  cases hF : (Bs f).all (Iy (Aq f)) with
  | false => rfl
  | true =>
  have hfound : ∀ i, i < (Bs f).length → Bb (I5 (Aq f) ((Bs f).getD i default).V) (Aq f).length := fun i hi => by
    have := List.all_eq_true.1 hF _ (As (d := (default : Bz)) hi); simp only [Iy, Bool.not_eq_true', decide_eq_false_iff_not] at this; exact findD_in this
  simp only [cond_true, Bool.not_true, cond_false]
  have hL3 : Ah (S := Int) (X := (Unit ⊕ Int)) (C2 (Aq f) (Bs f)) (0 : Int) = some (bif (Bs f).all (O9 (Aq f)) then .inl () else .inr 6) := by
    have key : ∀ i, i < (Bs f).length → C2 (Aq f) (Bs f) (i : Int) = some (bif O9 (Aq f) ((Bs f).getD i default) then .next ((i : Int) + 1) else .done (.inr 6)) := fun i hi => by
      unfold C2 O9 defOf
      have hd : decide ((i : Int) < ((Bs f).length : Int)) = true := by simpa using hi
      simp only [hd, cond_true, Af (Ap hi), Int.toNat_natCast, m_find (Aq f) _ (by omega), Option.bind_some, Af (hfound i hi), A4 hi (by omega)]
      cases ((((Aq f).getD (I5 (Aq f) ((Bs f).getD i default).V).toNat default).Shape.1 == ((Bs f).getD i default).Shape.1) && ((((Aq f).getD (I5 (Aq f) ((Bs f).getD i default).V).toNat default).Shape.2 == ((Bs f).getD i default).Shape.2) && true)) <;> rfl
    have := Gk (Bs f) default (O9 (Aq f)) (C2 (Aq f) (Bs f)) (.inl ()) (.inr 6) (fun i hi hp => by rw [key i hi, hp]; rfl) (fun i hi hp => by rw [key i hi, hp]; rfl) (by unfold C2; simp) (Bs f).length 0 (by omega); rw [List.drop_zero] at this; exact this
  rw [hL3, Option.bind_some]
  cases (Bs f).all (O9 (Aq f)) with
  | false => rfl
  | true =>
  have hsB : Ld f = true := by simp only [Fo, Bool.and_eq_true] at hs; exact hs.1
  have hmax : f.Blocks.length ≤ maxLen := by have := hf.blocks; have : (64 : Nat) ≤ maxLen := by decide
                                             omega
  simp only [cond_true, Bool.not_true, cond_false, m_ref_of f hmax, hsB, Option.bind_some]; rw [m_ref_tree _ (V5 (Nm hsB)).1 0, Option.bind_some]; have htl := tree_len hsB
  have hL4 : Ah (S := Int) (X := (Unit ⊕ Int)) (Ce (Aq f) (Bs f) (Cs f)) (0 : Int) = some (bif (Bs f).all (O8 (Aq f) (Cs f)) then .inl () else .inr 7) := by
    have key : ∀ i, i < (Bs f).length → Ce (Aq f) (Bs f) (Cs f) (i : Int) = some (bif O8 (Aq f) (Cs f) ((Bs f).getD i default) then .next ((i : Int) + 1) else .done (.inr 7)) := fun i hi => by
      unfold Ce O8 defOf
      have hd : decide ((i : Int) < ((Bs f).length : Int)) = true := by simpa using hi
      simp only [hd, cond_true, Af (Ap hi), Int.toNat_natCast, m_find (Aq f) _ (by omega), Option.bind_some, Af (hfound i hi), A4 hi (by omega), m_meet (Cs f) htl]; exact dom_aux _ _ _ _ _ _
    have := Gk (Bs f) default (O8 (Aq f) (Cs f)) (Ce (Aq f) (Bs f) (Cs f)) (.inl ()) (.inr 7) (fun i hi hp => by rw [key i hi, hp]; rfl) (fun i hi hp => by rw [key i hi, hp]; rfl) (by unfold Ce; simp) (Bs f).length 0 (by omega); rw [List.drop_zero] at this; exact this
  show ((Ah (Ce (Aq f) (Bs f) (Cs f)) 0).bind _) = _
  rw [hL4, Option.bind_some]
  cases (Bs f).all (O8 (Aq f) (Cs f)) <;> rfl
theorem loop_fold{α S:Type}(l:List α)(d:α)(g:S→α→S)(f:S×Int→Option (LR (S×Int) S))(hn:∀(s:S) (i:Nat),i<l.length→f (s,(i:Int))=some (.next (g s (l.getD i d),(i:Int)+1)))
  (hd:∀ s:S,f (s,(l.length:Int))=some (.done s)):∀(k i:Nat) (s:S),i+k=l.length→Ah f (s,(i:Int))=some ((l.drop i).foldl g s)
 | 0,i,s,h=>by
  obtain rfl:i=l.length:=by omega
  rw[Ao (hd s)]
  simp
 | k+1,i,s,h=>by
  have hi:i<l.length:=by omega
  have hdr:l.drop i=l.getD i d::l.drop (i+1):=by rw[List.drop_eq_getElem_cons hi,Ai _ _ _ hi]
  rw[Aw (hn s i hi),show((i:Int)+1)=((i+1:Nat):Int) by omega,loop_fold l d g f hn hd k (i+1) _ (by omega),hdr,List.foldl_cons]
theorem Vk{α S:Type}(l:List α)(d:α)(g:S→α→S)(f:S×Int→Option (LR (S×Int) S))(hn:∀(s:S) (i:Nat),i<l.length→f (s,(i:Int))=some (.next (g s (l.getD i d),(i:Int)+1)))
  (hd:∀ s:S,f (s,(l.length:Int))=some (.done s)) (s:S):Ah f (s,(0:Int))=some (l.foldl g s):=by
 have:=loop_fold l d g f hn hd l.length 0 s (by omega);rw[List.drop_zero]at this;exact this
def grow(n d:Int):Int:=bif decide (n<d) then d else n
def lastD(f:Ab):Int:=f.Blocks.foldl (fun n b=>b.Ops.foldl (fun n o=>grow n o.Dst) (b.Phis.foldl (fun n p=>grow n p.Dst) n)) (f.Params.length:Int)
theorem w64_nx{i n:Nat}(h:i<n)(hn:n≤maxLen):w64 ((i:Int)+1)=(i:Int)+1:=A4 h (by rw[N5]at hn;omega)
def Sm(f:Ab):Prop:=InF f∧Fc f=some true
theorem sm_ok{f:Ab}(h:Sm f)(hm:Oy f=true):OkF f:=by
 obtain⟨sm,h1,h2⟩:=small_parts f h.1;rw[h.2]at h1;exact(h2 (OI h1).symm hm).1
theorem m_check_ref{f:Ab}(h:Sm f)(l:Int):D6 f l=some (Fl f l):=by
 have hm:=rmay_eq f h.1
 cases hb:Oy f with
 | true=>exact m_wrong (sm_ok h hb) l hm
 | false=>
  unfold D6 Fl;rw[show(bif decide (l<(0:Int)) then true else decide ((2:Int)<l))=(decide (l<0) || decide (2<l)) by cases decide (l<(0:Int))<;>rfl]
  cases(decide (l<0) || decide (2<l)) with
  | true=>rfl
  | false=>simp only[cond_false,hm,hb,Option.bind_some,Bool.not_false,cond_true]
structure ShapesOf(f:Ab)(s:List (Int×(Int×Int))):Prop where
 none:Fl f 2≠0→s.length=0
 len:Fl f 2=0→s.length=(Aq f).length
 get:Fl f 2=0→∀ d∈Aq f,Fh ((0:Int),(0:Int)) s d.V=d.Shape
 has:Fl f 2=0→∀ v,Gh s v=true→∃ d∈Aq f,d.V=v
structure Facts11:Prop where
 check:∀ f l,Sm f→Dn f l=some (Fl f l)
 last:∀ f,Sm f→Jk f=some (lastD f)
 shapes:∀ f,Sm f→∃ s,H4 f=some s∧ShapesOf f s
def aw(arg:Int):Ab:=⟨[8],8,[⟨[],[⟨1,8,1,2,[1,1],0⟩],⟨0,arg,[]⟩⟩]⟩
theorem aw_defs(arg:Int):Aq (aw arg)=[⟨1,-1,0,(8,1)⟩,⟨2,0,0,(8,1)⟩]:=by rfl
theorem aw2:Fl (aw 2) 0=0:=by decide +kernel
theorem aw22:Fl (aw 2) 2=0:=by decide +kernel
theorem aw3:Fl (aw 3) 0=7:=by decide +kernel
theorem aw33:Fl (aw 3) 3=1:=by decide +kernel
theorem awl:lastD (aw 2)=2:=by decide +kernel
theorem sm_of{f:Ab}(hf:InF f)(h0:f.Params.length≤64)(hb:∀ b∈f.Blocks,b.End.To.length≤64∧(∀ p∈b.Phis,p.From.length≤64∧p.Args.length≤64)∧∀ o∈b.Ops,o.Args.length≤64)(he:entF f≤20000):Sm f:=
 ⟨hf,by rw[small_eq f hf h0 hb,decide_eq_true he]⟩
theorem aw_in(a:Int):InF (aw a):=by
 have hb:∀ b∈(aw a).Blocks,b=⟨[],[⟨1,8,1,2,[1,1],0⟩],⟨0,a,[]⟩⟩:=fun b hb=>by simpa [aw] using hb
 have hM:(2:Nat)≤maxLen:=by decide
 refine⟨by show 1≤maxLen;omega,by show 1≤maxLen;omega,fun b h=>?_,fun b h p hp=>?_,fun b h o ho=>?_⟩
 ·rw[hb b h];exact⟨Nat.zero_le _,by show 1≤maxLen;omega,Nat.zero_le _⟩
 ·rw[hb b h]at hp;cases hp
 ·rw[hb b h]at ho
  obtain rfl:o=_:=by simpa using ho
  exact⟨hM,by decide,by decide⟩
theorem sm_aw(a:Int):Sm (aw a):=by
 have hb:∀ b∈(aw a).Blocks,b=⟨[],[⟨1,8,1,2,[1,1],0⟩],⟨0,a,[]⟩⟩:=fun b hb=>by simpa [aw] using hb
 refine sm_of (aw_in a) (by show 1≤64;omega) (fun b h=>?_) (by show 5≤20000;omega);rw[hb b h];refine⟨Nat.zero_le _,(fun p hp=>by cases hp),fun o ho=>?_⟩
 obtain rfl:o=_:=by simpa using ho
 exact(by decide:(2:Nat)≤64)
theorem m_awake11(F:Facts11):m_locksteplaw11_awake=some true:=by
 obtain⟨s,hs,hS⟩:=F.shapes (aw 2) (sm_aw 2)
 have hlen:s.length=2:=by rw[hS.len aw22,aw_defs];rfl
 have hg:=hS.get aw22 ⟨2,0,0,(8,1)⟩ (by rw[aw_defs];simp);have hg:Fh ((0:Int),(0:Int)) s 2=(8,1):=hg;unfold m_locksteplaw11_awake
 show((Dn (aw 2) (0:Int)).bind fun x1=>((Jk (aw 2)).bind fun x2=>((H4 (aw 2)).bind fun x3=>(Ba (Bb (0:Int) (aw 2).Blocks.length) ((Dn (aw 3) (0:Int)).bind fun x5=>((bif ((bif (bif (bif (bif ((x1:Int)==(0:Int)) then((x2:Int)==(2:Int)) else false) then(((x3.length:Int):Int)==(2:Int)) else false) then((((Fh ((0:Int),(0:Int)) x3 (2:Int)).1:Int)==(8:Int))&&((((Fh ((0:Int),(0:Int)) x3 (2:Int)).2:Int)==(1:Int))&&true)) else false) then((x5:Int)==(7:Int)) else false)==true) then Dn (aw 3) (3:Int) else some (0:Int)).bind fun x6=>(some (bif (bif (bif (bif (bif ((x1:Int)==(0:Int)) then((x2:Int)==(2:Int)) else false) then(((x3.length:Int):Int)==(2:Int)) else false) then((((Fh ((0:Int),(0:Int)) x3 (2:Int)).1:Int)==(8:Int))&&((((Fh ((0:Int),(0:Int)) x3 (2:Int)).2:Int)==(1:Int))&&true)) else false) then((x5:Int)==(7:Int)) else false) then((x6:Int)==(1:Int)) else false))))))))=_
 rw[F.check _ _ (sm_aw 2),F.last _ (sm_aw 2),hs,F.check _ _ (sm_aw 3),aw2,awl,aw3];simp only[Option.bind_some];rw[Af (show Bb (0:Int) (aw 2).Blocks.length from Ap (n:=1) (i:=0) (by omega)),F.check _ _ (sm_aw 3),aw33,hlen,hg]
 rfl
def restD(f:Ab):Int:=
 bif !(List.range (Aq f).length).all (Km (Aq f)) then 7 else bif !(Bs f).all (Iy (Aq f)) then 7 else
 bif !(Bs f).all (O9 (Aq f)) then 6 else bif !(Bs f).all (O8 (Aq f) (Cs f)) then 7 else 0
theorem check_zero{f:Ab}{l:Int}(h0:0≤l)(h2:l≤2):Fl f l=0↔Oy f=true∧Fo f=true∧Ou f l=true∧restD f=0:=by
 unfold Fl Vp;rw[decide_eq_false (show ¬ l<0 by omega),decide_eq_false (show ¬ 2<l by omega)]
 show _↔_∧_∧_∧restD f=0
 have e:(bif !(List.range (Aq f).length).all (Km (Aq f)) then(7:Int) else bif !(Bs f).all (Iy (Aq f)) then 7 else
  bif !(Bs f).all (O9 (Aq f)) then 6 else bif !(Bs f).all (O8 (Aq f) (Cs f)) then 7 else 0)=restD f:=rfl
 rw[e]
 cases Oy f<;>cases Fo f<;>cases Ou f l<;>simp
theorem lanes_of{o:Dv}(h:J9 o=true):1≤o.Lanes:=by
 simp only[J9,Bool.and_eq_true]at h;have:=Nq h.1.1;omega
theorem sum_suc{α:Type}(l:List α)(g:α→Nat):(l.map fun a=>g a+1).sum=l.length+(l.map g).sum:=by
 induction l with
 | nil=>rfl
 | cons a l ih=>simp only[List.map_cons,List.sum_cons,ih,List.length_cons];omega
theorem w64_plus(a b:Int):w64 (a+w64 b)=w64 (a+b):=by rw[Int.add_comm,Wv,Int.add_comm]
theorem xsize(f:Ab)(hf:InF f):Ng f=some (sizeW f):=by
 have hl:=W8 f.Blocks (default:Ad) (fun b=>b.Phis.length+b.Ops.length) id (Kf f) (fun n i hi=>?_) (fun n=>?_) f.Blocks.length 0 f.Blocks.length (Nat.zero_add _)
 ·unfold Ng;rw[Zf (by have:=hf.blocks;rw[N5]at this;omega),show((0:Nat):Int)=0 from rfl]at hl;rw[hl,Option.bind_some,List.drop_zero,sizeW,Pc,show(sizeB:Ad→Nat)=(fun b=>(b.Phis.length+b.Ops.length)+1) from rfl,sum_suc]
  rfl
 ·have e1:decide ((i:Int)<(f.Blocks.length:Int))=true:=decide_eq_true (by omega);unfold Kf;simp only[e1,cond_true,Af (Ap hi),Int.toNat_natCast,J1 hi hf.blocks,w64_plus,Wv];rw[show(n:Int)+(((f.Blocks.getD i default).Phis.length:Int)+((f.Blocks.getD i default).Ops.length:Int))=((n+((f.Blocks.getD i default).Phis.length+(f.Blocks.getD i default).Ops.length):Nat):Int) by omega]
 ·have e1:decide ((f.Blocks.length:Int)<(f.Blocks.length:Int))=false:=by simp
  unfold Kf;simp only[e1,cond_false,id]
theorem Vv{α:Type}(l:List α)(d:α)(p:α→Bool)(f:Int→Option (LR Int (Unit ⊕ Bool)))(hn:∀ i:Nat,i<l.length→f i=bif p (l.getD i d) then some (.next ((i:Int)+1)) else some (.done (.inr false)))
  (he:f l.length=some (.done (.inl ()))):Ah f 0=some (bif l.all p then .inl () else .inr false):=by
 have:=Gk l d p f (.inl ()) (.inr false) (fun i hi hp=>by rw[hn i hi,hp];rfl) (fun i hi hp=>by rw[hn i hi,hp];rfl) he l.length 0 (Nat.zero_add _)
 simpa using this
theorem numB_cond(x:Int):(bif decide (x<0) then true else decide (2147483647<x)) = !numB x:=by
 unfold numB
 by_cases h1:x<0
 ·have:¬ 0≤x:=by omega
  simp[h1,this]
 ·by_cases h2:2147483647<x
  ·have:¬ x≤2147483647:=by omega
   simp[h1,h2,this]
  ·have h3:0≤x:=by omega
   have h4:x≤2147483647:=by omega
   simp[h1,h2,h3,h4]
theorem xfits(l:List Int)(h:l.length≤maxLen):Do l=some (l.all numB):=by
 have hl:=Vv l 0 numB (G8 l) (fun i hi=>?_) ?_
 ·unfold Do;rw[hl]
  cases l.all numB<;>rfl
 ·have e1:decide ((i:Int)<(l.length:Int))=true:=decide_eq_true (by omega);unfold G8;simp only[e1,cond_true,Af (Ap hi),Int.toNat_natCast,numB_cond,J1 hi h]
  cases numB (l.getD i 0)<;>simp
 ·unfold G8
  simp
theorem Un(l:List Int)(h:l.length≤maxLen):Gg l=some (listB l):=by
 unfold Gg;rw[xfits l h]
 by_cases h1:l.length≤64
 ·have e1:decide ((l.length:Int)≤64)=true:=decide_eq_true (by omega);rw[e1];simp[listB,h1]
 ·have e1:decide ((l.length:Int)≤64)=false:=decide_eq_false (by omega);rw[e1];simp[listB,h1]
theorem Uk{l:List Int}(h:l.length≤10):l.length≤maxLen:=by rw[N5];omega
theorem xphiFits(p:Er)(h1:p.From.length≤maxLen)(h2:p.Args.length≤maxLen):Kh p=some (Wk p):=by
 unfold Kh Wk;rw[xfits _ (Uk (by simp)),Un _ h1,Un _ h2];simp only[List.all_cons,List.all_nil,Bool.and_true]
 cases numB p.Bits<;>cases numB p.Dst<;>cases listB p.From<;>cases listB p.Args<;>rfl
theorem xopFits(o:Dv)(h1:o.Args.length≤maxLen):Ll o=some (opB o):=by
 unfold Ll opB;rw[xfits _ (Uk (by simp)),Un _ h1];simp only[List.all_cons,List.all_nil,Bool.and_true]
 cases numB o.Kind<;>cases numB o.Bits<;>cases numB o.Lanes<;>cases numB o.Dst<;>cases listB o.Args<;>rfl
theorem xendFits(e:Ga)(h1:e.To.length≤maxLen):Kg e=some (endB e):=by
 unfold Kg endB;rw[xfits _ (Uk (by simp)),Un _ h1];simp only[List.all_cons,List.all_nil,Bool.and_true]
 cases numB e.Kind<;>cases numB e.Arg<;>cases listB e.To<;>rfl
theorem not_cond{X:Type}(b:Bool)(x y:X):(bif !b then x else y)=bif b then y else x:=by cases b<;>rfl
theorem xphis_fit(l:List Er)(hl:l.length≤maxLen)(h:∀ p∈l,p.From.length≤maxLen∧p.Args.length≤maxLen):Gn l=some (l.all Wk):=by
 have hl':=Vv l (default:Er) Wk (Fd l) (fun i hi=>?_) ?_
 ·unfold Gn;rw[hl']
  cases l.all Wk<;>rfl
 ·have e1:decide ((i:Int)<(l.length:Int))=true:=decide_eq_true (by omega);have:=h _ (As (d:=(default:Er)) hi);unfold Fd;simp only[e1,cond_true,Af (Ap hi),Int.toNat_natCast,xphiFits _ this.1 this.2,Option.bind_some,not_cond,J1 hi hl,Int.natCast_add,Int.natCast_one]
 ·unfold Fd
  simp
theorem xops_fit(l:List Dv)(hl:l.length≤maxLen)(h:∀ o∈l,o.Args.length≤maxLen):G7 l=some (l.all opB):=by
 have hl':=Vv l (default:Dv) opB (Fx l) (fun i hi=>?_) ?_
 ·unfold G7;rw[hl']
  cases l.all opB<;>rfl
 ·have e1:decide ((i:Int)<(l.length:Int))=true:=decide_eq_true (by omega);have:=h _ (As (d:=(default:Dv)) hi);unfold Fx;simp only[e1,cond_true,Af (Ap hi),Int.toNat_natCast,xopFits _ this,Option.bind_some,not_cond,J1 hi hl,Int.natCast_add,Int.natCast_one]
 ·unfold Fx
  simp
theorem xblockFits(b:Ad)(h1:b.Phis.length≤maxLen)(h2:b.Ops.length≤maxLen)(h3:b.End.To.length≤maxLen)(h4:∀ p∈b.Phis,p.From.length≤maxLen∧p.Args.length≤maxLen)(h5:∀ o∈b.Ops,o.Args.length≤maxLen):I9 b=some (blockB b):=by
 unfold I9 blockB;rw[xphis_fit _ h1 h4,xops_fit _ h2 h5,xendFits _ h3]
 cases b.Phis.all Wk<;>cases b.Ops.all opB<;>cases endB b.End<;>rfl
theorem xblocks_fit(f:Ab)(hf:InF f):Fv f.Blocks=some (f.Blocks.all blockB):=by
 have hl':=Vv f.Blocks (default:Ad) blockB (Ek f.Blocks) (fun i hi=>?_) ?_
 ·unfold Fv;rw[hl']
  cases f.Blocks.all blockB<;>rfl
 ·have e1:decide ((i:Int)<(f.Blocks.length:Int))=true:=decide_eq_true (by omega);have hm:=As (d:=(default:Ad)) hi;have q:=hf.block _ hm;unfold Ek;simp only[e1,cond_true,Af (Ap hi),Int.toNat_natCast,xblockFits _ q.1 q.2.1 q.2.2 (hf.phi _ hm) (fun o ho=>(hf.op _ hm o ho).1),Option.bind_some,not_cond,J1 hi hf.blocks,Int.natCast_add,Int.natCast_one]
 ·unfold Ek
  simp
theorem xmay(f:Ab)(hf:InF f):Oe f=some (Oy f):=by
 unfold Oe Oy;rw[xsize f hf,xfits _ hf.params,xfits _ (Uk (by simp)),xblocks_fit f hf];simp only[List.all_cons,List.all_nil,Bool.and_true,listB]
 have d1:∀ n:Nat,decide ((n:Int)<1) = !decide (1≤n):=fun n=>by by_cases h:1≤n<;>simp[h]<;>omega
 have d2:∀ n:Nat,decide ((64:Int)<(n:Int)) = !decide (n≤64):=fun n=>by by_cases h:n≤64<;>simp[h]<;>omega
 have d3:∀ n:Nat,decide ((16:Int)<(n:Int)) = !decide (n≤16):=fun n=>by by_cases h:n≤16<;>simp[h]<;>omega
 have d4:∀ n:Int,decide ((512:Int)<n) = !decide (n≤512):=fun n=>by by_cases h:n≤512<;>simp[h]<;>omega
 simp only[d1,d2,d3,d4]
 have himp:decide (f.Params.length≤16)=true→decide (f.Params.length≤64)=true:=fun h=>by simp at h ⊢;omega
 revert himp
 generalize decide (1≤f.Blocks.length)=c1
 generalize decide (f.Blocks.length≤64)=c2
 generalize decide (f.Params.length≤16)=c3
 generalize decide (f.Params.length≤64)=c4
 generalize f.Params.all numB=c6
 generalize numB f.Ret=c7
 generalize f.Blocks.all blockB=c8
 cases c3 with
 | true=>
  intro h;obtain rfl:=h rfl;simp only[Bool.not_true,beq_self_eq_true,cond_true,Option.bind_some,cond_false]
  generalize decide (sizeW f≤512)=c5
  cases c1<;>cases c2<;>cases c6<;>cases c7<;>cases c8<;>cases c5<;>rfl
 | false=>
  intro _
  cases c1<;>cases c2<;>rfl
inductive Tp (t:List Int):Nat→Nat→Nat→Prop
 | top {x:Nat} (hx:x<t.length) (h:t.getD x 0 = -1):Tp t x x 0
 | up {x y r k:Nat} (hx:x<t.length) (h:t.getD x 0=(y:Int)) (hk:Tp t y r k):Tp t x r (k+1)
section
variable {t:List Int}
theorem Tp.lt{x r k:Nat}(h:Tp t x r k):x<t.length:=by cases h<;>assumption
theorem Tp.tops{x r k:Nat}(h:Tp t x r k):r<t.length∧t.getD r 0 = -1:=by
 induction h with
 | top hx h=>exact⟨hx,h⟩
 | up _ _ _ ih=>exact ih
theorem Tp.det{x r k r' k':Nat}(h:Tp t x r k)(h':Tp t x r' k'):r=r'∧k=k':=by
 induction h generalizing k' with
 | top hx h=>cases h' with
  | top=>exact⟨rfl,rfl⟩
  | up _ h2 _=>omega
 | up hx h1 _ ih=>cases h' with
  | top _ h2=>omega
  | up _ h2 k2=>
   have:_=_:=h1.symm.trans h2
   cases Int.ofNat.inj this
   obtain⟨e1,e2⟩:=ih k2;exact⟨e1,by omega⟩
theorem Tp.upTo{x r k:Nat}(h:Tp t x r k):UpTo (Bi t) x r:=by
 induction h with
 | top=>exact .refl _
 | up _ h _ ih=>exact .up h ih
theorem Tp.on{x r k z:Nat}(h:Tp t x r k)(hz:UpTo (Bi t) x z):∃ j,j≤k∧Tp t z r j∧(j=k→z=x):=by
 induction hz generalizing k with
 | refl x=>exact⟨k,Nat.le_refl _,h,fun _=>rfl⟩
 | up hp _ ih=>
  cases h with
  | top _ h2=>have:_=_:=hp.symm.trans h2;omega
  | up _ h2 k2=>
   have:_=_:=hp.symm.trans h2
   cases Int.ofNat.inj this
   obtain⟨j,h1,h3,_⟩:=ih k2;exact⟨j,by omega,h3,fun e=>by omega⟩
theorem Tp.anti{x r k z:Nat}(h:Tp t x r k)(h1:UpTo (Bi t) x z)(h2:UpTo (Bi t) z x):z=x:=by
 obtain⟨j,j1,j2,j3⟩:=h.on h1;obtain⟨i,i1,i2,i3⟩:=j2.on h2;have:=h.det i2;exact j3 (by omega)
theorem Tp.list{x r k:Nat}(h:Tp t x r k):∃ l:List Nat,l.length=k+1∧l.Nodup∧∀ y∈l,y<t.length∧∃ j,j≤k∧Tp t y r j:=by
 induction h with
 | top hx h=>exact⟨[_],rfl,by simp,fun y hy=>by rw[List.mem_singleton.1 hy];exact⟨hx,0,Nat.le_refl _,.top hx h⟩⟩
 | @up x y r k hx h hk ih=>
  obtain⟨l,h1,h2,h3⟩:=ih;refine⟨x::l,by simp[h1],List.nodup_cons.2 ⟨fun hm=>?_,h2⟩,fun z hz=>?_⟩
  ·obtain⟨_,j,hj,hj2⟩:=h3 _ hm;have:=(Tp.up hx h hk).det hj2;omega
  ·rcases List.mem_cons.1 hz with rfl|hz
   ·exact⟨hx,k+1,Nat.le_refl _,.up hx h hk⟩
   ·obtain⟨e1,j,e2,e3⟩:=h3 z hz;exact⟨e1,j,by omega,e3⟩
theorem Tp.short{x r k:Nat}(h:Tp t x r k):k<t.length:=by
 obtain⟨l,h1,h2,h3⟩:=h.list;have:=M0 t.length l h2 fun y hy=>(h3 y hy).1;omega
theorem Tp.upD{x r k:Nat}(h:Tp t x r k):∀ m,k<m→∃ q,upD t m (x:Int)=some q∧(∀ w:Int,w∈q↔∃ z:Nat,w=(z:Int)∧UpTo (Bi t) x z) ∧
  ∀ p:Int→Bool,(q.find? p=none∧∀ z:Nat,UpTo (Bi t) x z→p (z:Int)=false)∨∃ f:Nat,q.find? p=some (f:Int)∧UpTo (Bi t) x f∧p (f:Int)=true∧∀ z:Nat,UpTo (Bi t) x z→p (z:Int)=true→UpTo (Bi t) f z:=by
 induction h with
 | @top x hx h=>
  intro m hm;obtain⟨m,rfl⟩:∃ i,m=i+1:=⟨m-1,by omega⟩
  have htop:∀ z,UpTo (Bi t) x z↔z=x:=fun z=>Yz fun p hp=>by have:_=_:=hp.symm.trans h;omega
  unfold Go.Proofs.YtggpeloimmlkgaaGreat.upD;rw[if_pos ⟨by omega,by omega⟩,Au,if_pos h];refine⟨_,rfl,fun w=>?_,fun p=>?_⟩
  ·rw[List.mem_singleton]
   constructor
   ·rintro rfl;exact⟨x,rfl,.refl _⟩
   ·rintro⟨z,rfl,hz⟩;rw[(htop z).1 hz]
  ·cases hpp:p (x:Int) with
   | false=>exact .inl ⟨by simp[List.find?,hpp],fun z hz=>by rw[(htop z).1 hz];exact hpp⟩
   | true=>exact .inr ⟨x,by simp[List.find?,hpp],.refl _,hpp,fun z hz _=>hz⟩
 | @up x y r k hx h hk ih=>
  intro m hm;obtain⟨m,rfl⟩:∃ i,m=i+1:=⟨m-1,by omega⟩;unfold Go.Proofs.YtggpeloimmlkgaaGreat.upD;rw[if_pos ⟨by omega,by omega⟩,Au,if_neg (by omega),h];obtain⟨q,hq1,hq2,hq3⟩:=ih m (by omega);rw[hq1];refine⟨(x:Int)::q,rfl,fun w=>?_,fun p=>?_⟩
  ·rw[List.mem_cons,hq2 w]
   constructor
   ·rintro(rfl|⟨y,rfl,hy⟩)
    ·exact⟨x,rfl,.refl _⟩
    ·exact⟨y,rfl,.up h hy⟩
   ·rintro⟨y,rfl,hy⟩;rcases(anc_up h).1 hy with rfl|hy
    ·exact .inl rfl
    ·exact .inr ⟨y,rfl,hy⟩
  ·cases hpp:p (x:Int) with
   | true=>exact .inr ⟨x,by simp[List.find?,hpp],.refl _,hpp,fun y hy _=>hy⟩
   | false=>
    have hf:((x:Int)::q).find? p=q.find? p:=by simp[List.find?,hpp]
    rw[hf];rcases hq3 p with⟨e1,e2⟩|⟨f,e1,e2,e3,e4⟩
    ·refine .inl ⟨e1,fun y hy=>?_⟩;rcases(anc_up h).1 hy with rfl|hy
     ·exact hpp
     ·exact e2 y hy
    ·refine .inr ⟨f,e1,.up h e2,e3,fun y hy hpy=>?_⟩;rcases(anc_up h).1 hy with rfl|hy
     ·rw[hpp]at hpy;cases hpy
     ·exact e4 y hy hpy
theorem upD_tp:∀ m (a:Int) q,upD t m a=some q→∃ x r k:Nat,a=(x:Int)∧k<m∧Tp t x r k:=by
 intro m
 induction m with
 | zero=>intro a q h;cases h
 | succ m ih=>
  intro a q h;unfold Go.Proofs.YtggpeloimmlkgaaGreat.upD at h
  by_cases ha:0≤a∧a<(t.length:Int)
  ·rw[if_pos ha]at h;have e:((a.toNat:Nat):Int)=a:=Int.toNat_of_nonneg ha.1
   by_cases h1:t.getD a.toNat 0 = -1
   ·exact⟨a.toNat,a.toNat,0,e.symm,by omega,.top (by omega) h1⟩
   ·rw[if_neg h1]at h
    cases hu:Go.Proofs.YtggpeloimmlkgaaGreat.upD t m (t.getD a.toNat 0) with
    | none=>rw[hu]at h;cases h
    | some q'=>
     obtain⟨y,r,k,e1,e2,e3⟩:=ih _ _ hu;exact⟨a.toNat,r,k+1,e.symm,by omega,.up (by omega) e1 e3⟩
  ·rw[if_neg ha]at h;cases h
theorem pathD_tp{a:Int}:Du t a≠[]↔∃ x r k:Nat,a=(x:Int)∧Tp t x r k:=by
 constructor
 ·intro h
  cases hu:upD t t.length a with
  | none=>exact absurd (pathD_nil.2 hu) h
  | some q=>obtain⟨x,r,k,e1,_,e2⟩:=upD_tp _ _ _ hu;exact⟨x,r,k,e1,e2⟩
 ·rintro⟨x,r,k,rfl,h⟩ e;obtain⟨q,hq,_⟩:=h.upD t.length h.short;rw[pathD_nil.1 e]at hq;cases hq
theorem Tp.path{x r k:Nat}(h:Tp t x r k):(∀ w:Int,w∈Du t (x:Int)↔∃ z:Nat,w=(z:Int)∧UpTo (Bi t) x z) ∧
  ∀ p:Int→Bool,((Du t (x:Int)).find? p=none∧∀ z:Nat,UpTo (Bi t) x z→p (z:Int)=false)∨∃ f:Nat,(Du t (x:Int)).find? p=some (f:Int)∧UpTo (Bi t) x f∧p (f:Int)=true∧∀ z:Nat,UpTo (Bi t) x z→p (z:Int)=true→UpTo (Bi t) f z:=by
 obtain⟨q,h1,h2,h3⟩:=h.upD t.length h.short
 have e:Du t (x:Int)=q:=by unfold Du;rw[h1];rfl
 rw[e];exact⟨h2,h3⟩
theorem Zy{α:Type}{l:List α}{i j:Nat}{x d:α}(hi:i<l.length):(l.set i x).getD j d=if j=i then x else l.getD j d:=by
 by_cases h:j=i
 ·subst h;simp[List.getD,hi]
 ·simp[List.getD,h,Ne.symm h]
theorem meet_L1{x r k:Nat}(h:Tp t x r k):∀ l:List Bool,l.length=t.length→∃ l',Ah (Fe t) ((x:Int),l)=some l'∧l'.length=t.length∧∀ z,z<t.length→(l'.getD z false=true↔l.getD z false=true∨UpTo (Bi t) x z):=by
 induction h with
 | @top x hx h=>
  intro l hl
  have hs:Fe t ((x:Int),l)=some (.next (-1,l.set x true)):=by
   unfold Fe
   have hb:((x:Int)!=(-1:Int))=true:=by rw[bne_iff_ne];omega
   simp only[hb,cond_true,Au,h];rw[Ac (Fj (by omega)),Ac (Fj hx)]
  have hd:Fe t (-1,l.set x true)=some (.done (l.set x true)):=by
   unfold Fe
   rfl
  refine⟨l.set x true,by rw[Aw hs,Ao hd],by simp[hl],fun z hz=>?_⟩;rw[Zy (by omega)]
  have htop:UpTo (Bi t) x z↔z=x:=Yz fun p hp=>by have:_=_:=hp.symm.trans h;omega
  rw[htop]
  by_cases e:z=x
  ·simp[e]
  ·simp[e]
 | @up x y r k hx h hk ih=>
  intro l hl
  have hs:Fe t ((x:Int),l)=some (.next ((y:Int),l.set x true)):=by
   unfold Fe
   have hb:((x:Int)!=(-1:Int))=true:=by rw[bne_iff_ne];omega
   simp only[hb,cond_true,Au,h];rw[Ac (Fj (by omega)),Ac (Fj hx)]
  obtain⟨l',e1,e2,e3⟩:=ih (l.set x true) (by simp[hl]);refine⟨l',by rw[Aw hs,e1],e2,fun z hz=>?_⟩;rw[e3 z hz,Zy (by omega),anc_up (par:=Bi t) h]
  by_cases e:z=x
  ·simp[e]
  ·simp[e]
theorem meet_L2{b r k:Nat}(h:Tp t b r k)(l:List Bool)(hl:l.length=t.length):l.getD r false=true→∃ c:Nat,Ah (Ff t l) (b:Int)=some (c:Int)∧UpTo (Bi t) b c∧l.getD c false=true∧∀ z,UpTo (Bi t) b z→l.getD z false=true→UpTo (Bi t) c z:=by
 induction h with
 | @top x hx h=>
  intro hr
  have hd:Ff t l (x:Int)=some (.done (x:Int)):=by
   unfold Ff;rw[Ac (Fj (by omega)),Au,hr]
   rfl
  exact⟨x,Ao hd,.refl _,hr,fun z hz _=>hz⟩
 | @up x y r k hx h hk ih=>
  intro hr
  cases hx2:l.getD x false with
  | true=>
   have hd:Ff t l (x:Int)=some (.done (x:Int)):=by
    unfold Ff;rw[Ac (Fj (by omega)),Au,hx2]
    rfl
   exact⟨x,Ao hd,.refl _,hx2,fun z hz _=>hz⟩
  | false=>
   have hs:Ff t l (x:Int)=some (.next (y:Int)):=by
    unfold Ff;rw[Ac (Fj (by omega)),Au,hx2,Bool.not_false,cond_true,Ac (Fj hx),h]
   obtain⟨c,e1,e2,e3,e4⟩:=ih hr;refine⟨c,by rw[Aw hs,e1],.up h e2,e3,fun z hz hlz=>?_⟩;rcases(anc_up (par:=Bi t) h).1 hz with rfl|hz
   ·rw[hx2]at hlz;cases hlz
   ·exact e4 z hz hlz
theorem X0(ht:t.length≤1000){a b r k m:Nat}(ha:Tp t a r k)(hb:Tp t b r m):∃ c:Nat,Ki t (a:Int) (b:Int)=some (c:Int)∧MeetAt (Bi t) a b c:=by
 unfold Ki
 have hroom:(1000:Nat)≤room:=by decide
 rw[Ac ⟨by omega,by omega,by omega⟩,Au];obtain⟨l',h1,h2,h3⟩:=meet_L1 ha (List.replicate t.length false) (by simp);rw[h1,Option.bind_some]
 have h3':∀ z,z<t.length→(l'.getD z false=true↔UpTo (Bi t) a z):=fun z hz=>by rw[h3 z hz,Ol];simp
 obtain⟨c,e1,e2,e3,e4⟩:=meet_L2 hb l' h2 ((h3' r ha.tops.1).2 ha.upTo)
 have hc:c<t.length:=by obtain⟨j,_,hj,_⟩:=hb.on e2;exact hj.lt
 refine⟨c,by rw[e1];rfl,fun w=>⟨fun hw=>⟨((h3' c hc).1 e3).trans hw,e2.trans hw⟩,fun⟨hw1,hw2⟩=>?_⟩⟩;obtain⟨j,_,hj,_⟩:=ha.on hw1;exact e4 w hw2 ((h3' w hj.lt).2 hw1)
theorem meetD_at(hR:Ji t=true){a b r k m:Nat}(ha:Tp t a r k)(hb:Tp t b r m):∃ c:Nat,Ms t (a:Int) (b:Int)=(c:Int)∧MeetAt (Bi t) a b c:=by
 unfold Ms;rw[if_pos hR]
 have hcon:∀ z:Nat,(Du t (b:Int)).contains (z:Int)=true↔UpTo (Bi t) b z:=fun z=>by
  rw[List.contains_iff_mem,hb.path.1]
  constructor
  ·rintro⟨y,e,hy⟩;cases Int.ofNat.inj e;exact hy
  ·intro hz;exact⟨z,rfl,hz⟩
 rcases ha.path.2 (fun x=>(Du t (b:Int)).contains x) with⟨e1,e2⟩|⟨f,e1,e2,e3,e4⟩
 ·have:=e2 r ha.upTo;rw[(hcon r).2 hb.upTo]at this
  cases this
 ·exact⟨f,by rw[e1];rfl,fun w=>⟨fun hw=>⟨e2.trans hw,((hcon f).1 e3).trans hw⟩,fun⟨hw1,hw2⟩=>e4 w hw1 ((hcon w).2 hw2)⟩⟩
theorem MeetAt.same{a b r k c d:Nat}(ha:Tp t a r k)(hc:MeetAt (Bi t) a b c)(hd:MeetAt (Bi t) a b d):c=d:=by
 obtain⟨j,_,hj,_⟩:=ha.on ((hc c).1 (.refl _)).1;exact(hj.anti ((hc d).2 ((hd d).1 (.refl _))) ((hd c).2 ((hc c).1 (.refl _)))).symm
end
theorem m_index(t:List Int)(v:Int)(ht:t.length≤1000):(∃ r:Nat,r<t.length∧t.getD r 0=v∧(∀ i,i<r→t.getD i 0≠v)∧E1 t v=some (r:Int))∨((∀ i,i<t.length→t.getD i 0≠v)∧E1 t v=some (-1)):=by
 have key:∀ k i:Nat,i+k=t.length→(∀ j,j<i→t.getD j 0≠v)→
   (∃ r:Nat,r<t.length∧t.getD r 0=v∧(∀ i,i<r→t.getD i 0≠v)∧Ah (B7 t v) (i:Int)=some (.inr (r:Int)))∨((∀ i,i<t.length→t.getD i 0≠v)∧Ah (B7 t v) (i:Int)=some (.inl ())):=by
  intro k
  induction k with
  | zero=>
   intro i hi hj
   obtain rfl:i=t.length:=by omega
   refine .inr ⟨hj,Ao ?_⟩;unfold B7;rw[Gf];rfl
  | succ k ih=>
   intro i hi hj
   by_cases e:v=t.getD i 0
   ·refine .inl ⟨i,by omega,e.symm,hj,Ao ?_⟩;unfold B7;have hb:((v:Int)==t.getD i 0)=true:=beq_iff_eq.2 e;simp only[Dt (show i<t.length by omega),cond_true,Au,hb];rw[Ac (Fj (by omega))]
   ·have hs:B7 t v (i:Int)=some (.next ((i+1:Nat):Int)):=by
     unfold B7;have hb:((v:Int)==t.getD i 0)=false:=beq_eq_false_iff_ne.2 e;simp only[Dt (show i<t.length by omega),cond_true,Au,hb,cond_false];rw[Ac (Fj (by omega)),w1 (by omega)]
    rw[Aw hs]
    exact ih (i+1) (by omega) fun j hj2=>by
     by_cases ej:j=i
     ·subst ej;exact fun h=>e h.symm
     ·exact hj j (by omega)
 have h0:=key t.length 0 (by omega) (fun j hj=>absurd hj (Nat.not_lt_zero _));unfold E1;rcases h0 with⟨r,h1,h2,h3,h4⟩|⟨h1,h2⟩
 ·exact .inl ⟨r,h1,h2,h3,by rw[show((0:Int))=((0:Nat):Int) from rfl,h4];rfl⟩
 ·exact .inr ⟨h1,by rw[show((0:Int))=((0:Nat):Int) from rfl,h2];rfl⟩
section
variable {t:List Int}
structure Ux(t:List Int)(r f:Nat)(w:List Int):Prop where
 len:w.length=t.length
 old:∀ y,y<t.length→w.getD y 0≠0→(w.getD y 0≤(f:Int))∧∃ k,Tp t y r k
structure Walk(t:List Int)(r f x:Nat)(w:List Int):Prop where
 len:w.length=t.length
 hx:x<t.length
 old:∀ y,y<t.length→w.getD y 0≠0→w.getD y 0≤(f:Int)∧(∃ k,Tp t y r k)∨w.getD y 0=((f+1:Nat):Int)∧∀ r' k,Tp t x r' k→∃ j,k<j∧Tp t y r' j
 fwd:∀ r' k,Tp t x r' k→∃ j,k≤j∧Tp t f r' j
 back:∀ r' k,Tp t f r' k→∃ j,Tp t x r' j
def zeros(w:List Int):Nat:=w.countP fun z=>z==0
theorem zeros_set{w:List Int}{x:Nat}{v:Int}(hx:x<w.length)(h0:w.getD x 0=0)(hv:v≠0):zeros (w.set x v)<zeros w:=by
 unfold zeros;rw[List.countP_set hx];rw[Ai _ _ _ hx]at h0;have hp:0<w.countP fun z=>z==0:=List.countP_pos_iff.2 ⟨w[x],List.getElem_mem hx,by simp[h0]⟩;have hb:(v==0)=false:=beq_eq_false_iff_ne.2 hv;simp only[h0,beq_self_eq_true,if_true,hb,Bool.false_eq_true,if_false];omega
theorem leads_loop(ht:t.length≤1000){r:Nat}(hr:r<t.length)(htop:t.getD r 0 = -1){f:Nat}(hf:f<t.length):∀(m x:Nat) (w:List Int),zeros w≤m→Walk t r f x w→
  (∃ w',Ah (Dj t (f:Int) (r:Int)) ((x:Int),w)=some (.inl w')∧Ux t r (f+1) w'∧∃ k,Tp t f r k) ∨
  ∃ b w',Ah (Dj t (f:Int) (r:Int)) ((x:Int),w)=some (.inr (b,w'))∧w'.length=t.length∧(b=true→Ux t r (f+1) w'∧∃ k,Tp t f r k)∧(b=false→∀ k,¬ Tp t f r k):=by
 intro m
 induction m with
 | zero=>
  intro x w hz hw;exact go 0 (fun x w hz=>absurd hz (Nat.not_lt_zero _)) x w hz hw
 | succ m ih=>
  intro x w hz hw;exact go (m+1) (fun x w hz=>ih x w (Nat.le_of_lt_succ hz)) x w hz hw
where
 go (m:Nat) (ih:∀(x:Nat) (w:List Int),zeros w<m→Walk t r f x w→
  (∃ w',Ah (Dj t (f:Int) (r:Int)) ((x:Int),w)=some (.inl w')∧Ux t r (f+1) w'∧∃ k,Tp t f r k) ∨
  ∃ b w',Ah (Dj t (f:Int) (r:Int)) ((x:Int),w)=some (.inr (b,w'))∧w'.length=t.length∧(b=true→Ux t r (f+1) w'∧∃ k,Tp t f r k)∧(b=false→∀ k,¬ Tp t f r k)) (x:Nat) (w:List Int) (hz:zeros w≤m) (hw:Walk t r f x w) :
  (∃ w',Ah (Dj t (f:Int) (r:Int)) ((x:Int),w)=some (.inl w')∧Ux t r (f+1) w'∧∃ k,Tp t f r k) ∨
  ∃ b w',Ah (Dj t (f:Int) (r:Int)) ((x:Int),w)=some (.inr (b,w'))∧w'.length=t.length∧(b=true→Ux t r (f+1) w'∧∃ k,Tp t f r k)∧(b=false→∀ k,¬ Tp t f r k):=by
  have hxl:=hw.hx
  have told:∀ k,Tp t x r k→Ux t r (f+1) w∧∃ k,Tp t f r k:=fun k hk=>by
   obtain⟨j,_,hj⟩:=hw.fwd _ _ hk;refine⟨⟨hw.len,fun y hy hy0=>?_⟩,j,hj⟩;rcases hw.old y hy hy0 with⟨h1,h2⟩|⟨h1,h2⟩
   ·exact⟨by omega,h2⟩
   ·obtain⟨i,_,hi⟩:=h2 _ _ hk;exact⟨by omega,i,hi⟩
  by_cases hxr:x=r
  ·subst hxr;refine .inl ⟨w,Ao ?_,told 0 (.top hr htop)⟩;unfold Dj
   have hb:((x:Int)!=(x:Int))=false:=by simp
   simp only[hb,cond_false]
  ·have hb:((x:Int)!=(r:Int))=true:=by rw[bne_iff_ne];omega
   have hin:Bb (x:Int) w.length:=Fj (by rw[hw.len];exact hxl)
   by_cases hw0:w.getD x 0=0
   ·have hb0:((w.getD x 0:Int)!=0)=false:=by rw[hw0];rfl
    by_cases hpl:0≤t.getD x 0∧t.getD x 0<(t.length:Int)
    ·have hwf:w64 ((f:Int)+1)=((f+1:Nat):Int):=w1 (by omega)
     have hs:Dj t (f:Int) (r:Int) ((x:Int),w)=some (.next (t.getD x 0,w.set x ((f+1:Nat):Int))):=by
      unfold Dj Is;simp only[hb,cond_true,Au,hb0,cond_false];rw[Ac hin,Ac (Fj hxl),decide_eq_true hpl.1,decide_eq_true hpl.2,cond_true,Option.bind_some,Bool.not_true,cond_false,Ac hin,Ac (Fj hxl),hwf]
     rw[Aw hs];obtain⟨y,hy⟩:∃ y:Nat,t.getD x 0=(y:Int):=⟨(t.getD x 0).toNat,(Int.toNat_of_nonneg hpl.1).symm⟩;rw[hy]at hpl ⊢
     have hyl:y<t.length:=by omega
     have hst:∀ r' k,Tp t y r' k→Tp t x r' (k+1):=fun r' k hk=>.up hxl hy hk
     have hset:∀ z,z<t.length→(w.set x ((f+1:Nat):Int)).getD z 0=if z=x then((f+1:Nat):Int) else w.getD z 0:=fun z _=>Zy (by rw[hw.len];exact hxl)
     have hW:Walk t r f y (w.set x ((f+1:Nat):Int)):=by
      refine⟨by simp[hw.len],hyl,fun z hzl hz0=>?_,fun r' k hk=>?_,fun r' k hk=>?_⟩
      ·rw[hset z hzl]at hz0 ⊢
       by_cases e:z=x
       ·subst e;rw[if_pos rfl];exact .inr ⟨rfl,fun r' k hk=>⟨k+1,by omega,hst r' k hk⟩⟩
       ·rw[if_neg e]at hz0 ⊢;rcases hw.old z hzl hz0 with h1|⟨h1,h2⟩
        ·exact .inl h1
        ·refine .inr ⟨h1,fun r' k hk=>?_⟩;obtain⟨j,hj1,hj2⟩:=h2 _ _ (hst r' k hk);exact⟨j,by omega,hj2⟩
      ·obtain⟨j,hj1,hj2⟩:=hw.fwd _ _ (hst r' k hk);exact⟨j,by omega,hj2⟩
      ·obtain⟨j,hj⟩:=hw.back _ _ hk
       cases hj with
       | top _ h2=>omega
       | up _ h2 h3=>
        have:=hy.symm.trans h2
        cases Int.ofNat.inj this
        exact⟨_,h3⟩
     have hzz:=zeros_set (x:=x) (v:=((f+1:Nat):Int)) (by rw[hw.len];exact hxl) hw0 (by omega);exact ih y _ (by omega) hW
    ·refine .inr ⟨false,w,Ao ?_,hw.len,⟨fun h=>(by cases h),fun _ k hk=>?_⟩⟩
     ·unfold Dj Is;simp only[hb,cond_true,Au,hb0,cond_false];rw[Ac hin,Ac (Fj hxl)]
      have:(bif decide ((0:Int)≤t.getD x 0) then decide (t.getD x 0<(t.length:Int)) else false)=false:=by
       cases h1:decide ((0:Int)≤t.getD x 0) with
       | false=>rfl
       | true=>rw[cond_true];exact decide_eq_false fun h2=>hpl ⟨of_decide_eq_true h1,h2⟩
      rw[this,Option.bind_some]
      rfl
     ·obtain⟨j,hj⟩:=hw.back _ _ hk
      cases hj with
      | top=>exact hxr rfl
      | up _ h2 h3=>have:=h3.lt;exact hpl ⟨by omega,by omega⟩
   ·have hb0:((w.getD x 0:Int)!=0)=true:=by rw[bne_iff_ne];exact hw0
    have hwf:w64 ((f:Int)+1)=((f+1:Nat):Int):=w1 (by omega);refine .inr ⟨w.getD x 0 !=((f+1:Nat):Int),w,Ao ?_,hw.len,⟨fun h=>?_,fun h k hk=>?_⟩⟩
    ·unfold Dj;simp only[hb,cond_true,Au,hb0];rw[Ac hin,Ac hin,hwf]
    ·rcases hw.old x hxl hw0 with⟨_,k,hk⟩|⟨h1,_⟩
     ·exact told k hk
     ·rw[h1]at h;simp at h
    ·have he:w.getD x 0=((f+1:Nat):Int):=by simpa using h
     obtain⟨j,hj⟩:=hw.back _ _ hk;rcases hw.old x hxl hw0 with⟨h1,_⟩|⟨_,h2⟩
     ·omega
     ·obtain⟨i,hi1,hi2⟩:=h2 _ _ hj;have:=hj.det hi2;omega
end
section
variable {t:List Int}
theorem m_leads(ht:t.length≤1000){r:Nat}(hr:r<t.length)(htop:t.getD r 0 = -1){f:Nat}(hf:f<t.length){w:List Int}(hw:Ux t r f w) :
  ∃ b w',Ni t w (f:Int) (r:Int)=some (b,w')∧w'.length=t.length∧(b=true→Ux t r (f+1) w'∧∃ k,Tp t f r k)∧(b=false→∀ k,¬ Tp t f r k):=by
 unfold Ni;have hW:Walk t r f f w:=⟨hw.len,hf,fun y hy h0=>.inl (hw.old y hy h0),fun r' k hk=>⟨k,Nat.le_refl _,hk⟩,fun r' k hk=>⟨k,hk⟩⟩;rcases leads_loop ht hr htop hf _ f w (Nat.le_refl _) hW with⟨w',e1,e2⟩|⟨b,w',e1,e2,e3,e4⟩
 ·exact⟨true,w',by rw[e1];rfl,e2.1.len,fun _=>e2,fun h=>by cases h⟩
 ·exact⟨b,w',by rw[e1];rfl,e2,e3,e4⟩
def AllUp(t:List Int)(r:Nat):Prop:=∀ f,f<t.length→t.getD f 0≠-2→∃ k,Tp t f r k
open Classical in
theorem isTree_loop(ht:t.length≤1000){r:Nat}(hr:r<t.length)(htop:t.getD r 0 = -1):∀(k f:Nat) (w:List Int),f+k=t.length→Ux t r f w→(∀ y,y<f→t.getD y 0≠-2→∃ k,Tp t y r k)→
  Ah (Fi t (r:Int)) ((f:Int),w)=some (if AllUp t r then .inl () else .inr false):=by
 intro k
 induction k with
 | zero=>
  intro f w hk hw hd
  obtain rfl:f=t.length:=by omega
  apply Ao
  unfold Fi;simp only[Gf,cond_false];rw[if_pos (show AllUp t r from hd)]
 | succ k ih=>
  intro f w hk hw hd
  have hf:f<t.length:=by omega
  by_cases h2:t.getD f 0 = -2
  ·have hb:((t.getD f 0:Int)!=(-2))=false:=by rw[h2];rfl
   have hs:Fi t (r:Int) ((f:Int),w)=some (.next (((f+1:Nat):Int),w)):=by
    unfold Fi;simp only[Dt hf,cond_true,Au,hb,show(false==true)=false from rfl,cond_false,Option.bind_some];rw[Ac (Fj hf),Ac (fun h=>by cases h),w1 (by omega)]
   rw[Aw hs];refine ih (f+1) w (by omega) ⟨hw.len,fun y hy h0=>?_⟩ fun y hy hy2=>?_
   ·obtain⟨e1,e2⟩:=hw.old y hy h0;exact⟨by omega,e2⟩
   ·by_cases e:y=f
    ·subst e;exact absurd h2 hy2
    ·exact hd y (by omega) hy2
  ·have hb:((t.getD f 0:Int)!=(-2))=true:=by rw[bne_iff_ne];exact h2
   obtain⟨b,w',e1,e2,e3,e4⟩:=m_leads ht hr htop hf hw
   cases b with
   | false=>
    rw[if_neg (fun hA:AllUp t r=>by obtain⟨k,hk⟩:=hA f hf h2;exact e4 rfl k hk)]
    apply Ao
    unfold Fi;simp only[Dt hf,cond_true,Au,hb,show(true==true)=true from rfl,e1,Option.bind_some];rw[Ac (Fj hf),Ac (fun _=>by rw[hw.len,e2])]
    rfl
   | true=>
    have hs:Fi t (r:Int) ((f:Int),w)=some (.next (((f+1:Nat):Int),w')):=by
     unfold Fi;simp only[Dt hf,cond_true,Au,hb,show(true==true)=true from rfl,e1,Option.bind_some];rw[Ac (Fj hf),Ac (fun _=>by rw[hw.len,e2]),w1 (by omega)]
     rfl
    rw[Aw hs];obtain⟨e5,e6⟩:=e3 rfl;refine ih (f+1) w' (by omega) e5 fun y hy hy2=>?_
    by_cases e:y=f
    ·subst e;exact e6
    ·exact hd y (by omega) hy2
theorem tops_one:topsK t t.length=1↔∃ r,r<t.length∧t.getD r 0 = -1∧∀ x,x<t.length→t.getD x 0 = -1→x=r:=by
 have key:∀ n,(topsK t n=0↔∀ x,x<n→t.getD x 0≠-1)∧(topsK t n=1↔∃ r,r<n∧t.getD r 0 = -1∧∀ x,x<n→t.getD x 0 = -1→x=r):=by
  intro n
  induction n with
  | zero=>exact⟨⟨fun _ x hx=>absurd hx (Nat.not_lt_zero _),fun _=>rfl⟩,⟨fun h=>by simp[topsK]at h,fun⟨r,h,_⟩=>absurd h (Nat.not_lt_zero _)⟩⟩
  | succ n ih=>
   rw[Vo]
   by_cases e:t.getD n 0 = -1
   ·rw[if_pos e];refine⟨⟨fun h=>by omega,fun h=>absurd e (h n (by omega))⟩,⟨fun h=>⟨n,by omega,e,fun x hx hx1=>?_⟩,fun⟨r,h1,h2,h3⟩=>?_⟩⟩
    ·by_cases ex:x=n
     ·exact ex
     ·exact absurd hx1 (ih.1.1 (by omega) x (by omega))
    ·have:=ih.1.2 fun x hx hx1=>by
      have:=h3 x (by omega) hx1;have:=h3 n (by omega) e;omega
     omega
   ·rw[if_neg e,Nat.add_zero];refine⟨⟨fun h x hx=>?_,fun h=>ih.1.2 fun x hx=>h x (by omega)⟩,⟨fun h=>?_,fun⟨r,h1,h2,h3⟩=>?_⟩⟩
    ·by_cases ex:x=n
     ·subst ex;exact e
     ·exact ih.1.1 h x (by omega)
    ·obtain⟨r,h1,h2,h3⟩:=ih.2.1 h;refine⟨r,by omega,h2,fun x hx hx1=>?_⟩
     by_cases ex:x=n
     ·subst ex;exact absurd hx1 e
     ·exact h3 x (by omega) hx1
    ·refine ih.2.2 ⟨r,?_,h2,fun x hx hx1=>h3 x (by omega) hx1⟩
     by_cases ex:r=n
     ·subst ex;exact absurd h2 e
     ·omega
 exact(key _).2
theorem rightD_iff:Ji t=true↔∃ r,r<t.length∧t.getD r 0 = -1∧AllUp t r:=by
 unfold Ji;rw[Bool.and_eq_true,all_range,decide_eq_true_eq,tops_one]
 constructor
 ·rintro⟨h1,r,h2,h3,h4⟩;refine⟨r,h2,h3,fun f hf hf2=>?_⟩;have:=h1 f hf;unfold okR at this;rw[Bool.or_eq_true,decide_eq_true_eq,Bool.not_eq_true',decide_eq_false_iff_not]at this;rcases this with h|h
  ·exact absurd h hf2
  ·obtain⟨x,r',k,e,hk⟩:=pathD_tp.1 h
   cases Int.ofNat.inj e
   have:=h4 _ hk.tops.1 hk.tops.2;subst this;exact⟨k,hk⟩
 ·rintro⟨r,h2,h3,h4⟩;refine⟨fun f hf=>?_,r,h2,h3,fun x hx hx1=>?_⟩
  ·unfold okR;rw[Bool.or_eq_true,decide_eq_true_eq,Bool.not_eq_true',decide_eq_false_iff_not]
   by_cases e:t.getD f 0 = -2
   ·exact .inl e
   ·obtain⟨k,hk⟩:=h4 f hf e;exact .inr (pathD_tp.2 ⟨f,r,k,rfl,hk⟩)
  ·obtain⟨k,hk⟩:=h4 x hx (by omega);exact((hk.det (.top hx hx1)).1).symm
theorem rightD_at(hR:Ji t=true):∃ r,AllUp t r:=by obtain⟨r,_,_,h⟩:=rightD_iff.1 hR;exact⟨r,h⟩
theorem m_isTree(ht:t.length≤1000):Md t=some (Ji t):=by
 unfold Md
 have hroom:(1000:Nat)≤room:=by decide
 rcases m_index t (-1) ht with⟨r,h1,h2,h3,h4⟩|⟨h1,h2⟩
 ·rw[h4,Option.bind_some,show decide ((r:Int)<0)=false from decide_eq_false (by omega),cond_false,Ac ⟨by omega,by omega,by omega⟩,Au];have hl:=isTree_loop ht h1 h2 t.length 0 (List.replicate t.length 0) (by omega) ⟨by simp,fun y hy h0=>absurd Ol h0⟩ (fun y hy=>absurd hy (Nat.not_lt_zero _));rw[show(((0:Nat):Int))=0 from rfl]at hl;rw[hl,Option.bind_some]
  by_cases hA:AllUp t r
  ·rw[if_pos hA,rightD_iff.2 ⟨r,h1,h2,hA⟩]
  ·rw[if_neg hA]
   have:Ji t=false:=Bool.eq_false_iff.2 fun hR=>by
    obtain⟨r',g1,g2,g3⟩:=rightD_iff.1 hR;obtain⟨k,hk⟩:=g3 r h1 (by omega);have:=(hk.det (.top h1 h2)).1;subst this;exact hA g3
   rw[this]
 ·rw[h2,Option.bind_some]
  have:Ji t=false:=Bool.eq_false_iff.2 fun hR=>by
   obtain⟨r',g1,g2,g3⟩:=rightD_iff.1 hR;exact h1 r' g1 g2
  rw[this]
  rfl
def Vh(t:List Int)(a:Int):Bool:=decide (0≤a)&&decide (a<(t.length:Int))&&decide (t.getD a.toNat 0≠-2)
theorem Zz(hR:Ji t=true){a:Int}:Vh t a=true↔∃ x k r:Nat,a=(x:Int)∧Tp t x r k:=by
 unfold Vh;rw[Bool.and_eq_true,Bool.and_eq_true,decide_eq_true_eq,decide_eq_true_eq,decide_eq_true_eq]
 constructor
 ·rintro⟨⟨h1,h2⟩,h3⟩;obtain⟨r,hA⟩:=rightD_at hR;obtain⟨k,hk⟩:=hA a.toNat (by omega) h3;exact⟨a.toNat,k,r,(Int.toNat_of_nonneg h1).symm,hk⟩
 ·rintro⟨x,k,r,rfl,h⟩;have:=h.lt;refine⟨⟨by omega,by omega⟩,?_⟩;rw[Au]
  cases h with
  | top _ h2=>omega
  | up _ h2 _=>omega
theorem Aal(a:Int):Ja t a=some (Vh t a):=by
 unfold Ja Is Vh;rw[Option.bind_some]
 cases h1:decide ((0:Int)≤a) with
 | false=>rfl
 | true=>
  rw[cond_true,Bool.true_and]
  cases h2:decide (a<(t.length:Int)) with
  | false=>rfl
  | true=>
   rw[Ac (fun _=>⟨of_decide_eq_true h1,of_decide_eq_true h2⟩),cond_true,Bool.true_and]
   congr 1
   rw[Bool.eq_iff_iff,bne_iff_ne,decide_eq_true_eq]
theorem m_areIn(ht:t.length≤1000)(a b:Int):Nh t a b=some (Ji t&&Vh t a&&Vh t b):=by
 unfold Nh;rw[m_isTree ht,Option.bind_some]
 cases Ji t with
 | false=>rfl
 | true=>
  simp only[show(true==true)=true from rfl,cond_true,Aal,Option.bind_some,Bool.true_and]
  cases Vh t a with
  | false=>rfl
  | true=>simp only[show(true==true)=true from rfl,cond_true,Aal,Option.bind_some,Bool.true_and]
theorem meetD_out{a b:Int}(h:(Ji t&&Vh t a&&Vh t b)=false):Ms t a b = -2:=by
 unfold Ms
 by_cases hR:Ji t=true
 ·rw[if_pos hR];rw[hR,Bool.true_and]at h
  have hno:∀ c,Vh t c=false→Du t c=[]:=fun c hc=>by
   by_cases e:Du t c=[]
   ·exact e
   ·obtain⟨x,r,k,e1,e2⟩:=pathD_tp.1 e;rw[(Zz hR).2 ⟨x,k,r,e1,e2⟩]at hc;cases hc
  cases ha:Vh t a with
  | false=>rw[hno a ha];rfl
  | true=>
   rw[ha,Bool.true_and]at h;rw[hno b h]
   have:((Du t a).find? fun x=>([]:List Int).contains x)=none:=List.find?_eq_none.2 fun x _=>by simp
   rw[this]
   rfl
 ·rw[if_neg hR]
theorem meet_prog_doc(ht:t.length≤1000){a b:Int}(h:(Ji t&&Vh t a&&Vh t b)=true):Ki t a b=some (Ms t a b)∧0≤Ms t a b:=by
 rw[Bool.and_eq_true,Bool.and_eq_true]at h;obtain⟨⟨hR,ha⟩,hb⟩:=h;obtain⟨x,k,r,rfl,hx⟩:=(Zz hR).1 ha;obtain⟨y,m,r',rfl,hy⟩:=(Zz hR).1 hb;obtain⟨rr,hA⟩:=rightD_at hR
 have top:∀{x r k},Tp t x r k→r=rr:=fun{x r k} h=>by
  obtain⟨i,hi⟩:=hA r h.tops.1 (by rw[h.tops.2];omega);exact((Tp.top h.tops.1 h.tops.2).det hi).1
 obtain rfl:=top hx;obtain rfl:=top hy;obtain⟨c,h1,h2⟩:=X0 ht hx hy;obtain⟨d,h3,h4⟩:=meetD_at hR hx hy;have:=h2.same hx h4;subst this;exact⟨by rw[h1,h3],by omega⟩
theorem m_Over(ht:t.length≤1000)(a b:Int):Of t a b=some (U7 t a b):=by
 unfold Of U7;rw[m_areIn ht,Option.bind_some]
 cases h:(Ji t&&Vh t a&&Vh t b) with
 | false=>
  rw[meetD_out h]
  have:((-2:Int)==a&&((-2:Int)!=-2))=false:=by simp
  rw[this]
  rfl
 | true=>
  obtain⟨h1,h2⟩:=meet_prog_doc ht h;simp only[show(true==true)=true from rfl,cond_true,h1,Option.bind_some]
  have:(Ms t a b !=-2)=true:=by rw[bne_iff_ne];omega
  rw[this,Bool.and_true]
end
theorem mul_fin:∀ n:Fin 65,Lv (Hi 1) (Hi ((n.val:Nat):Int))=some (0,((n.val:Nat):Int)):=by decide +kernel
theorem mul_small{n:Nat}(h:n≤64):Lv (Hi 1) (Hi (n:Int))=some (0,(n:Int)):=mul_fin ⟨n,by omega⟩
theorem repeat_loop{v:Int}{n:Nat}(hn:n≤64):∀(m i:Nat) (l:List Int),n-i≤m→1≤i→i≤n→l.length=n→(∀ j,j<i→l.getD j 0=v)→Ah Ck ((i:Int),l)=some (List.replicate n v):=by
 intro m
 induction m with
 | zero=>
  intro i l hm h1 h2 hl hv
  obtain rfl:i=n:=by omega
  exact fin l hl hv
 | succ m ih=>
  intro i l hm h1 h2 hl hv
  by_cases e:i=n
  ·subst e;exact fin l hl hv
  ·have hs:Ck ((i:Int),l)=some (.next (((i+Nat.min i (n-i):Nat):Int),cpL l i (Nat.min i (n-i)) (fun j=>l.getD (0+j) 0))):=by
    unfold Ck;simp only[hl,Dt (show i<n by omega),cond_true,Au,Nat.zero_add,Nat.sub_zero];have hc:(0:Int)≤(i:Int)∧i≤n:=⟨by omega,h2⟩;have hmn:Nat.min i (n-i)≤i:=Nat.min_le_left _ _;rw[Ac hc,Ac hc,Iv (by omega) (by omega),Int.natCast_add]
   rw[Aw hs];have hmn:Nat.min i (n-i)≤i∧Nat.min i (n-i)≤n-i:=⟨Nat.min_le_left _ _,Nat.min_le_right _ _⟩;have hge:1≤Nat.min i (n-i):=Nat.le_min.2 ⟨h1,by omega⟩;refine ih _ _ (by omega) (by omega) (by omega) (by rw[← H1];exact hl) fun j hj=>?_;rw[Zs _ _ _ _ _ _ (by omega)]
   by_cases hji:i≤j∧j<i+Nat.min i (n-i)
   ·rw[if_pos hji,Nat.zero_add];exact hv _ (by omega)
   ·rw[if_neg hji];exact hv _ (by omega)
where
 fin {v:Int} {i:Nat} (l:List Int) (hl:l.length=i) (hv:∀ j,j<i→l.getD j 0=v):Ah Ck ((i:Int),l)=some (List.replicate i v):=by
  apply Ao
  unfold Ck;simp only[hl,Gf,cond_false]
  congr 2
  refine List.ext_getElem (by simp[hl]) fun j h1 h2=>?_;rw[← Ai _ _ 0 h1,hv j (by omega)]
  simp
theorem m_repeat{v:Int}{n:Nat}(h1:1≤n)(hn:n≤64):F5 [v] (n:Int)=some (List.replicate n v):=by
 have hroom:(64:Nat)≤room:=by decide
 unfold F5;rw[show decide ((n:Int)<0)=false from decide_eq_false (by omega),cond_false,Option.bind_some]
 show Option.bind (Lv (Hi 1) (Hi (n:Int))) _=_
 rw[mul_small hn,Option.bind_some];have e1:decide ((0:Int)<(0:Int))=false:=rfl;have e2:decide ((9223372036854775807:Int)<(n:Int))=false:=decide_eq_false (by omega);simp only[e1,e2,cond_false,Option.bind_some];have ew:w64 (n:Int)=(n:Int):=Iv (by omega) (by omega);rw[ew,Ac ⟨by omega,by omega,by omega⟩,Au,List.length_replicate,Nat.sub_zero];have em:Nat.min [v].length n=1:=Nat.min_eq_left h1;rw[em,repeat_loop hn n 1 _ (by omega) (Nat.le_refl _) h1 (by rw[← H1];simp) (fun j hj=>?_)]
 ·rfl
 ·rw[Zs _ _ _ _ _ _ (by simp;omega),if_pos ⟨by omega,by omega⟩]
  have:j-0=0:=by omega
  rw[this];rfl
theorem meet_v2(t:List Int)(a b:Int):Lm t a b=(Ki t a b).map fun c=>(c,t):=by
 have e1:My t=Fe t:=rfl;have e2:Mz t=Ff t:=rfl;unfold Lm Ki;rw[e1,e2]
 by_cases hc:0≤(t.length:Int)∧(t.length:Int)≤(t.length:Int)∧(t.length:Int)≤(room:Int)
 ·rw[Ac hc,Ac hc]
  cases Ah (Fe t) (a,List.replicate ((t.length:Int)).toNat false) with
  | none=>rfl
  | some x=>
   rw[Option.bind_some,Option.bind_some]
   cases Ah (Ff t x) b with
   | none=>rfl
   | some y=>rfl
 ·have hf:∀{R:Type} (k:Option R),Ba (0≤(t.length:Int)∧(t.length:Int)≤(t.length:Int)∧(t.length:Int)≤(room:Int)) k=none:=fun k=>if_neg hc;rw[hf,hf]
  rfl
section
variable {S:Nat→List Nat} {r n:Nat} {P:List Nat}
theorem Inv.tp{at_:Nat→Nat}{t:List Int}(h:Inv S r n at_ (Bi t))(hl:t.length=n):∀ m x,at_ x≤m→x<n→Bi t x≠-2→∃ k,Tp t x r k:=by
 intro m
 induction m with
 | zero=>
  intro x hm hx hp;rcases h.kind x hx with h1|h1|⟨z,hz⟩
  ·exact absurd h1 hp
  ·subst h1;exact⟨0,.top (by omega) h.top⟩
  ·obtain⟨_,_,h3,_⟩:=h.up x hx z hz;omega
 | succ m ih=>
  intro x hm hx hp;rcases h.kind x hx with h1|h1|⟨z,hz⟩
  ·exact absurd h1 hp
  ·subst h1;exact⟨0,.top (by omega) h.top⟩
  ·obtain⟨z1,z2,z3,_⟩:=h.up x hx z hz;obtain⟨k,hk⟩:=ih z (by omega) z1 z2;exact⟨k+1,.up (by omega) hz hk⟩
def Vq(t l:List Int)(i:Nat)(v:Int):Prop:=
 (v = -2∧∀ j,j<i→Bi t (l.getD j 0).toNat = -2) ∨
 ∃ z:Nat,v=(z:Int)∧z<t.length∧Bi t z≠-2∧(∀ w,UpTo (Bi t) z w↔∀ j,j<i→Bi t (l.getD j 0).toNat≠-2→UpTo (Bi t) (l.getD j 0).toNat w)
theorem meetAll_loop{at_:Nat→Nat}{t l:List Int}(ht:t.length≤64)(hll:l.length≤64)(h:Inv S r n at_ (Bi t))(hl:t.length=n)(hin:∀ x∈l,0≤x∧x<(n:Int)):∀(k i:Nat) (v:Int),i+k=l.length→Vq t l i v→
  ∃ v',Ah (C9 l) (v,(i:Int),t)=some (v',t)∧Vq t l l.length v':=by
 intro k
 induction k with
 | zero=>
  intro i v hi hv
  obtain rfl:i=l.length:=by omega
  refine⟨v,Ao ?_,hv⟩;unfold C9;simp only[Gf,cond_false]
 | succ k ih=>
  intro i v hi hv
  have hil:i<l.length:=by omega
  obtain⟨x0,x1⟩:=hin _ (As (d:=0) hil);have hxe:(((l.getD i 0).toNat:Nat):Int)=l.getD i 0:=Int.toNat_of_nonneg x0;have hxin:Bb (l.getD i 0) t.length:=inbz x0 (by omega)
  have next:∀ v',C9 l (v,(i:Int),t)=some (.next (v',((i+1:Nat):Int),t))→Vq t l (i+1) v'→∃ v',Ah (C9 l) (v,(i:Int),t)=some (v',t)∧Vq t l l.length v':=fun v' hs hv'=>by
   rw[Aw hs];exact ih (i+1) v' (by omega) hv'
  by_cases hp:Bi t (l.getD i 0).toNat = -2
  ·have hb:((t.getD (l.getD i 0).toNat 0:Int)==-2)=true:=beq_iff_eq.2 hp;refine next v ?_ ?_
   ·unfold C9;simp only[Dt hil,cond_true,Au,hb];rw[Ac (Fj hil),Ac hxin,Option.bind_some,w1 (by omega)]
   ·have hstep:∀ w,(∀ j,j<i→Bi t (l.getD j 0).toNat≠-2→UpTo (Bi t) (l.getD j 0).toNat w)↔∀ j,j<i+1→Bi t (l.getD j 0).toNat≠-2→UpTo (Bi t) (l.getD j 0).toNat w:=fun w=>by
     refine⟨fun hj j hj1 hj2=>?_,fun hj j hj1=>hj j (by omega)⟩
     by_cases e:j=i
     ·subst e;exact absurd hp hj2
     ·exact hj j (by omega) hj2
    rcases hv with⟨h1,h2⟩|⟨z,h1,h2,h3,h4⟩
    ·refine .inl ⟨h1,fun j hj=>?_⟩
     by_cases e:j=i
     ·subst e;exact hp
     ·exact h2 j (by omega)
    ·exact .inr ⟨z,h1,h2,h3,fun w=>by rw[h4 w,hstep w]⟩
  ·have hb:((t.getD (l.getD i 0).toNat 0:Int)==-2)=false:=beq_eq_false_iff_ne.2 hp;rcases hv with⟨h1,h2⟩|⟨z,h1,h2,h3,h4⟩
   ·subst h1;refine next (l.getD i 0) ?_ (.inr ⟨(l.getD i 0).toNat,hxe.symm,by omega,hp,fun w=>⟨fun hw j hj hj2=>?_,fun hw=>hw i (by omega) hp⟩⟩)
    ·unfold C9;simp only[Dt hil,cond_true,Au,hb,cond_false,show((-2:Int)==-2)=true from rfl];rw[Ac (Fj hil),Ac hxin,Option.bind_some,w1 (by omega)]
    ·by_cases e:j=i
     ·subst e;exact hw
     ·exact absurd (h2 j (by omega)) hj2
   ·subst h1;have hb2:((z:Int)==-2)=false:=beq_eq_false_iff_ne.2 (by omega);obtain⟨k1,hk1⟩:=h.tp hl _ z (Nat.le_refl _) (by omega) h3;obtain⟨k2,hk2⟩:=h.tp hl _ (l.getD i 0).toNat (Nat.le_refl _) (by omega) hp;obtain⟨c,c1,c2⟩:=X0 (by omega) hk1 hk2;have hcz:=(c2 c).1 (.refl _);obtain⟨jc,_,hjc,_⟩:=hk1.on hcz.1
    have hcp:Bi t c≠-2:=by
     show t.getD c 0≠-2
     cases hjc with
     | top _ h=>omega
     | up _ h _=>omega
    refine next (c:Int) ?_ (.inr ⟨c,rfl,hjc.lt,hcp,fun w=>?_⟩)
    ·rw[hxe]at c1;unfold C9;simp only[Dt hil,cond_true,Au,hb,cond_false,hb2,meet_v2,c1,Option.map_some,Option.bind_some];rw[Ac (Fj hil),Ac hxin,Ac trivial,Option.bind_some,w1 (by omega)]
    ·rw[c2 w,h4 w];refine⟨fun⟨a1,a2⟩ j hj hj2=>?_,fun ha=>⟨fun j hj=>ha j (by omega),ha i (by omega) hp⟩⟩
     by_cases e:j=i
     ·subst e;exact a2
     ·exact a1 j (by omega) hj2
theorem m_meetAll{at_:Nat→Nat}{t l:List Int}(ht:t.length≤64)(hll:l.length≤64)(h:Inv S r n at_ (Bi t))(hl:t.length=n)(hin:∀ x∈l,0≤x∧x<(n:Int)) :
  ∃ v,Gy t l=some (v,t)∧Vq t l l.length v:=by
 obtain⟨v,h1,h2⟩:=meetAll_loop ht hll h hl hin l.length 0 (-2) (by omega) (.inl ⟨rfl,fun j hj=>absurd hj (Nat.not_lt_zero _)⟩);refine⟨v,?_,h2⟩;unfold Gy;rw[show((0:Int))=((0:Nat):Int) from rfl,h1]
 rfl
end
section
variable {L:List (List Int)} (hm:Lc L=true) {r:Nat} {P:List Nat}
include hm
theorem sN_iff{p y:Nat}(hp:p<L.length):y∈sN L p↔S4 L p y=true:=by
 rw[goes_iff];obtain⟨_,_,h3⟩:=mayS_iff.1 hm
 constructor
 ·intro h;obtain⟨x,hx,rfl⟩:=List.mem_map.1 h;have:=okL_mem (h3 p hp) hx;rw[Int.toNat_of_nonneg this.1];exact hx
 ·intro h;exact List.mem_map.2 ⟨_,h,Au y⟩
theorem Wl{y:Nat}(hy:y<L.length){x:Int}:x∈(D7 L).getD y []↔∃ p:Nat,x=(p:Int)∧p<L.length∧y∈sN L p:=by
 rw[predOf_at hy];unfold It;rw[mem_filt]
 constructor
 ·rintro⟨k,h1,h2,h3⟩;exact⟨k,h1,h2,(sN_iff hm h2).2 h3⟩
 ·rintro⟨k,h1,h2,h3⟩;exact⟨k,h1,h2,(sN_iff hm h2).1 h3⟩
theorem meetAll_best(o:Ordered (sN L) r L.length P){t:List Int}{i:Nat}(h:Ready (sN L) r L.length P t i)(hi:i<P.length) :
  Gy t ((D7 L).getD (P.getD i 0) [])=some ((Lu (sN L) L.length t (P.getD i 0):Int),t):=by
 obtain⟨hL1,hL64,_⟩:=mayS_iff.1 hm;have hyn:P.getD i 0<L.length:=o.lt (List.mem_cons_of_mem _ (N4 hi))
 have hlen:((D7 L).getD (P.getD i 0) []).length≤64:=by
  rw[predOf_at hyn];have:=Ra L L.length (P.getD i 0);omega
 obtain⟨v,h1,h2⟩:=m_meetAll (by rw[h.len];exact hL64) hlen h.inv h.len fun x hx=>by
  obtain⟨p,rfl,hp,_⟩:=(Wl hm hyn).1 hx;omega
 rw[h1];have hb:=h.best o hi
 have mem:∀ p,p<L.length→P.getD i 0∈sN L p→∃ j,j<((D7 L).getD (P.getD i 0) []).length∧(((D7 L).getD (P.getD i 0) []).getD j 0).toNat=p:=fun p hp hy=>by
  obtain⟨j,hj,e⟩:=List.getElem_of_mem ((Wl hm hyn).2 ⟨p,rfl,hp,hy⟩);exact⟨j,hj,by rw[Ai _ _ _ hj,e,Au]⟩
 have mem':∀ j,j<((D7 L).getD (P.getD i 0) []).length→(((D7 L).getD (P.getD i 0) []).getD j 0).toNat<L.length∧P.getD i 0∈sN L (((D7 L).getD (P.getD i 0) []).getD j 0).toNat:=fun j hj=>by
  obtain⟨p,e,hp,hy⟩:=(Wl hm hyn).1 (As (d:=(0:Int)) hj);rw[e,Au];exact⟨hp,hy⟩
 rcases h2 with⟨rfl,h3⟩|⟨z,rfl,hz,hz2,h4⟩
 ·obtain⟨p,hp,hyp,hp2,_⟩:=hb.fwd;obtain⟨j,hj,e⟩:=mem p hp hyp;exact absurd (by rw[← e];exact h3 j hj) hp2
 ·have hbest:Best (sN L) L.length (Bi t) (P.getD i 0) z:=fun w=>by
   rw[h4 w];refine⟨fun ha p hp hyp hp2=>?_,fun ha j hj hj2=>?_⟩
   ·obtain⟨j,hj,e⟩:=mem p hp hyp;have:=ha j hj (by rw[e];exact hp2);rwa[e]at this
   ·obtain⟨q1,q2⟩:=mem' j hj;exact ha _ q1 q2 hj2
  rw[h.best_eq o hi (by rw[← h.len];exact hz) hz2 hbest]
end
end
end Go.Proofs.YtggpeloimmlkgaaGreat
