/-
  The machine, the program's functions and the laws' arithmetic: part 5 of 6.
-/
import Derived.Test.YtfhggcbcamamdaaGreatPk4
import Derived.Lib.RowBridge
set_option linter.unusedSectionVars false
set_option linter.unusedVariables false
set_option linter.unusedSimpArgs false
namespace Go.Proofs.YtfhggcbcamamdaaGreat
noncomputable section
open Go Go.RowKit
theorem ID:room=1099511627776:=rfl
theorem Mv{β:Type}(n A C:Nat)(E:Nat->List β)(hE:∀ i,i<n->(E i).length<=C)(f:List β×Int->Option (LR (List β×Int) (List β)))
  (hn:∀(acc:List β) (i:Nat),i<n->acc.length<=A+i*C->f (acc,(i:Int))=some (.next (acc++E i,(i:Int)+1)))
  (hd:∀ acc:List β,f (acc,(n:Int))=some (.done acc)):∀(k i:Nat) (acc:List β),i+k=n->acc.length<=A+i*C->Ac f (acc,(i:Int))=some (acc++(List.range' i k).flatMap E)
 | 0,i,acc,h,_=>by
  obtain rfl:i=n:=by omega
  rw[Ak (hd acc)]
  simp
 | k+1,i,acc,h,hA=>by
  have hi:i<n:=by omega
  have h2:acc.length+C<=A+(i+1)*C:=by rw[Gm];omega
  rw[Ap (hn acc i hi hA),show(i+1)=((i+1:Nat):Int) by omega,Mv n A C E hE f hn hd k _ _ (by omega) (by grind),EW,MR,EV]
theorem Kc{β:Type}(C:Nat)(E:Nat->List β):∀ l:List Nat,(∀ i∈l,(E i).length<=C)->(l.flatMap E).length<=l.length*C
 | [],_=>by simp
 | a::l,h=>by
  have h1:=h a (by simp);have h2:=Kc C E l (λi hi=>h i (by simp[hi]));rw[MR,Fh,EX,Gm];omega
def Lp(l:List Bz)(v:Int):Int:=match l.findIdx? (λd=>d.V==v) with|some i=>(i:Int)|none=>-1
theorem ab(l:List Bz)(v:Int)(hl:l.length<=1000000):Ex l v=some (Lp l v):=by
 have key:∀(k i:Nat),i+k=l.length->Ac (Gh l v) i=some (match(l.drop i).findIdx? (λd=>d.V==v) with|some j=>.inr (i+j:Nat)|none=>.inl ()):=by
  intro k
  induction k with
  | zero=>
   intro i h
   obtain rfl:i=l.length:=by omega
   rw[Ak (x:=.inl ()) (by unfold Gh;simp)]
   simp
  | succ k ih=>
   intro i h
   have hi:i<l.length:=by omega
   have hdr:l.drop i=l.getD i default::l.drop (i+1):=by simp_all
   have hd:decide (i<(l.length:Int))=true:=by simpa using hi
   rw[hdr,List.findIdx?_cons]
   cases hb:(l.getD i _).V==v with
   | true=>
    rw[Ak (x:=.inr i) (by unfold Gh;simp only[hd,Ah,Aa (Ai hi),C9,hb])]
    simp
   | false=>
    rw[Ap (s':=((i+1:Nat):Int)) (by unfold Gh;simp only[hd, Aa (Ai hi),C9,hb, A0 hi (by omega)];rfl),ih _ (by omega)]
    cases(l.drop _).findIdx? _ with
    | none=>simp
    | some j=>simp;omega
 unfold Ex Lp;rw[show 0=((0:Nat):Int) from rfl,key l.length 0 (by omega),N9]
 cases l.findIdx? _ with
 | none=>rfl
 | some j=>simp
def H2(o:Bv):Int×Int:=bif Gs o then Xn o.Kind o.Bits o.Lanes else(0,0)
def He(o:Bv):List (Int×Int):=bif Gs o then Rw o else[]
def Q9(f:TFunc):List Bz:=(List.range f.Params.length).flatMap λ(i:Nat)=>[⟨(i:Int)+1,-1,0,(f.Params.getD i 0,1)⟩]
def Ry(b:Ae)(i:Nat):List Bz:=(List.range b.Phis.length).flatMap λ(k:Nat)=>[⟨(b.Phis.getD k default).Dst,i,-1,((b.Phis.getD k default).Bits,1)⟩]
def Xe(b:Ae)(i:Nat):List Bz:=(List.range b.Ops.length).flatMap λ(k:Nat)=>bif decide (0<(H2 (b.Ops.getD k default)).1) then[⟨(b.Ops.getD k default).Dst,i,k,H2 (b.Ops.getD k default)⟩] else[]
def Q8(b:Ae)(i:Nat):List Bz:=Ry b i++Xe b i
def Au(f:TFunc):List Bz:=Q9 f++(List.range f.Blocks.length).flatMap λi=>Q8 (f.Blocks.getD i default) i
theorem LH(b:Ae)(i:Nat):(Ry b i).length<=b.Phis.length:=by
 have:=Kc 1 (λk=>[(⟨(b.Phis.getD k default).Dst,i,-1,((b.Phis.getD k default).Bits,1)⟩:Bz)]) (List.range b.Phis.length) (λ_ _=>zzL6 _)
 simpa [Ry] using this
theorem ff(b:Ae)(i:Nat):(Xe b i).length<=b.Ops.length:=by
 have:=Kc 1 (λk=>bif decide (0<(H2 (b.Ops.getD k default)).1) then[(⟨(b.Ops.getD k default).Dst,i,k,H2 (b.Ops.getD k default)⟩:Bz)] else[]) (List.range b.Ops.length) (λk _=>by grind)
 simpa [Xe] using this
theorem WK{f:TFunc}(hf:OkF f){i:Nat}(hi:i<f.Blocks.length):(Q8 (f.Blocks.getD i default) i).length<=1024:=by
 have hB:=hf.block _ (Ag (d:=default) hi);have h1:=LH (f.Blocks.getD i default) i;have h2:=ff (f.Blocks.getD i default) i;have h3:=hB.phis;have h4:=hB.ops;rw[Q8,Fh];omega
theorem DB(f:TFunc):(Q9 f).length=f.Params.length:=by
 have h:∀ l:List Nat,(l.map λ_=>1).sum=l.length:=λl=>by induction l with|nil=>rfl|cons a l ih=>simp[ih];omega
 simp[Q9, h]
theorem lL{f:TFunc}(hf:OkF f):(Au f).length<=100000:=by
 have h1:=Kc _ _ (List.range _) (λi hi=>WK hf (by simpa using hi));have h2:=DB f;have h3:=hf.few;have h4:=hf.blocks;rw[Vb]at h1;rw[Au,Fh];omega
theorem wr{f:TFunc}(hf:OkF f):Kq f=some (Au f):=by
 have hp:=Mv f.Params.length 0 1 (λ(i:Nat)=>[(⟨(i:Int)+1,-1,0,(f.Params.getD i 0,1)⟩:Bz)]) (λ_ _=>zzL6 _) (Il f) (λacc i hi hA=>by
   unfold Il
   have hd:decide ((i:Int)<(f.Params.length:Int))=true:=by simpa using hi
   have hr:acc.length+([(⟨(i:Int)+1,(-1:Int),(0:Int),((f.Params.getD i 0),(1:Int))⟩:Bz)]:List (Bz)).length<=room:=by have:=hf.few;rw[ID];simp;omega
   simp only[hd,Ah,Aa (Ai hi),C9,A0 hi (by have:=hf.few;omega),Aa hr]) (λacc=>by unfold Il;simp) f.Params.length 0 [] (by omega) (by simp)
 have hphi:∀(i:Nat),i<f.Blocks.length->∀ acc:List Bz,acc.length<=100000->Ac (Gf f (i:Int)) (acc,(0:Int))=some (acc++Ry (f.Blocks.getD i default) i):=λi hi acc hacc=>by
  have hB:=hf.block _ (Ag (d:=(default:Ae)) hi)
  have:=Mv (f.Blocks.getD i default).Phis.length 100000 1 (λ(k:Nat)=>[(⟨((f.Blocks.getD i default).Phis.getD k default).Dst,i,-1,(((f.Blocks.getD i default).Phis.getD k default).Bits,1)⟩:Bz)]) (λ_ _=>zzL6 _) (Gf f (i:Int)) (λacc k hk hA=>by
   unfold Gf
   have hd:decide ((k:Int)<((f.Blocks.getD i default).Phis.length:Int))=true:=by simpa using hk
   have hr:∀ x:Bz,acc.length+([x]:List Bz).length<=room:=λx=>by have:=hB.phis;rw[ID];simp;omega
   simp only[C9,hd,Ah,Aa (Ai hk),A0 hk (by have:=hB.phis;omega),Aa (hr _)]) (λacc=>by unfold Gf;simp) (f.Blocks.getD i default).Phis.length 0 acc (by omega) (by omega)
  rw[show(0:Int)=((0:Nat):Int) from rfl,this,Ry,Si]
 have hop:∀(i:Nat),i<f.Blocks.length->∀ acc:List Bz,acc.length<=100000->Ac (Gg f (i:Int)) (acc,(0:Int))=some (acc++Xe (f.Blocks.getD i default) i):=λi hi acc hacc=>by
  have hmem:=Ag (d:=(default:Ae)) hi;have hB:=hf.block _ hmem
  have:=Mv (f.Blocks.getD i default).Ops.length 100000 1 (λ(k:Nat)=>bif decide (0<(H2 ((f.Blocks.getD i default).Ops.getD k default)).1) then[(⟨((f.Blocks.getD i default).Ops.getD k default).Dst,i,k,H2 ((f.Blocks.getD i default).Ops.getD k default)⟩:Bz)] else[]) (λk _=>by grind) (Gg f (i:Int)) (λacc k hk hA=>by
   unfold Gg;have hok:=lr hf hmem (Ag (d:=(default:Bv)) hk)
   have hd:decide ((k:Int)<((f.Blocks.getD i default).Ops.length:Int))=true:=by simpa using hk
   have hr:∀ x:Bz,acc.length+([x]:List Bz).length<=room:=λx=>by have:=hB.ops;rw[ID];simp;omega
   have hg:Hm ((f.Blocks.getD i default).Ops.getD k default)=some (H2 ((f.Blocks.getD i default).Ops.getD k default)):=lx _ hok;simp only[C9,hd,Ah,Aa (Ai hk),hg,An,A0 hk (by have:=hB.ops;omega),Aa (hr _)]
   cases decide (0<(H2 ((f.Blocks.getD i default).Ops.getD k default)).1)<;>simp) (λacc=>by unfold Gg;simp) (f.Blocks.getD i default).Ops.length 0 acc (by omega) (by omega)
  rw[show(0:Int)=((0:Nat):Int) from rfl,this,Xe,Si]
 have hb:=Mv f.Blocks.length 16 1024 (λi=>Q8 (f.Blocks.getD i default) i) (λi hi=>WK hf hi) (Im f) (λacc i hi hA=>by
   unfold Im
   have hd:decide ((i:Int)<(f.Blocks.length:Int))=true:=by simpa using hi
   have hB:=hf.block _ (Ag (d:=(default:Ae)) hi);have h64:=hf.blocks;have h2:=LH (f.Blocks.getD i default) i;have h3:=hB.phis
   simp only[hd,Ah,Aa (Ai hi),hphi i hi acc (by omega),An,hop i hi (acc++Ry (f.Blocks.getD i default) i) (by rw[Fh];omega),A0 hi (by omega),Q8,EV]) (λacc=>by unfold Im;simp) f.Blocks.length 0 (Q9 f) (by omega) (by have:=DB f;have:=hf.few;omega)
 unfold Kq;rw[show(0:Int)=((0:Nat):Int) from rfl,hp,An,Y8]
 have e:(List.range' 0 f.Params.length).flatMap (λ(i:Nat)=>[(⟨(i:Int)+1,-1,0,(f.Params.getD i 0,1)⟩:Bz)])=Q9 f:=by rw[Q9,Si]
 rw[e,hb,An,Au,Si]
def N6(p:A8):List Cq:=(List.range p.Args.length).flatMap λ(j:Nat)=>[⟨p.Args.getD j 0,p.From.getD j 0,1000,(p.Bits,1)⟩]
def M9(b:Ae):List Cq:=(List.range b.Phis.length).flatMap λ(k:Nat)=>N6 (b.Phis.getD k default)
def Q3(o:Bv)(i k:Nat):List Cq:=(List.range (He o).length).flatMap λ(j:Nat)=>[⟨o.Args.getD j 0,i,k,(He o).getD j (0,0)⟩]
def Su(b:Ae)(i:Nat):List Cq:=(List.range b.Ops.length).flatMap λ(k:Nat)=>Q3 (b.Ops.getD k default) i k
def Yl(f:TFunc)(b:Ae)(i:Nat):List Cq:=(bif b.End.Kind==0 then[⟨b.End.Arg,i,1000,(f.Ret,1)⟩] else[])++(bif b.End.Kind==2 then[⟨b.End.Arg,i,1000,(1,1)⟩] else[])
def IE(f:TFunc)(b:Ae)(i:Nat):List Cq:=M9 b++Su b i++Yl f b i
def Bh(f:TFunc):List Cq:=(List.range f.Blocks.length).flatMap λ(i:Nat)=>IE f (f.Blocks.getD i default) i
theorem Yj{o:Bv}(h:o.Args.length<=64):(He o).length<=64/\(He o).length<=o.Args.length:=by
 unfold He
 cases hm:Gs o with
 | false=>simp
 | true=>
  simp only[Ah]
  have :=by
   simp only[Gs,A6]at hm;exact hm.1.2.2
  have h2 :=by simpa using this
  have h3:(Rw o).length=o.Args.length:=by rw[Rw,Dz,Vb,<- h2,C9]
  omega
theorem RC{f:TFunc}(hf:OkF f){b:Ae}(hb:b∈f.Blocks){p:A8}(hp:p∈b.Phis):p.From.length<=64/\p.Args.length<=64:=by
 have:=(blockB_iff.1 (hf.block b hb).may).1 p hp;simp only[FL,A6]at this;exact⟨(listB_iff.1 this.1.2).2,(listB_iff.1 this.2).2⟩
theorem jk{f:TFunc}(hf:OkF f){b:Ae}(hb:b∈f.Blocks){o:Bv}(ho:o∈b.Ops):o.Args.length<=64:=by
 have:=(blockB_iff.1 (hf.block b hb).may).2.1 o ho;simp only[ei,A6]at this;exact(listB_iff.1 this.2).2
theorem IF(p:A8):(N6 p).length<=p.Args.length:=by
 have:=Kc 1 (λj=>[(⟨p.Args.getD j 0,p.From.getD j 0,1000,(p.Bits,1)⟩:Cq)]) (List.range p.Args.length) (λ_ _=>zzL6 _)
 simpa [N6] using this
theorem MN(o:Bv)(i k:Nat):(Q3 o i k).length<=(He o).length:=by
 have:=Kc 1 (λj=>[(⟨o.Args.getD j 0,i,k,(He o).getD j (0,0)⟩:Cq)]) (List.range (He o).length) (λ_ _=>zzL6 _)
 simpa [Q3] using this
theorem MO{f:TFunc}(hf:OkF f){b:Ae}(hb:b∈f.Blocks):(M9 b).length<=32768:=by
 have:=Kc 64 (λk=>N6 (b.Phis.getD k default)) (List.range _) (λk hk=>by
  have h1:=IF (b.Phis.getD k default);have h2:=(RC hf hb (Ag (d:=default) (by simpa using hk))).2
  omega)
 have h3:=(hf.block b hb).phis;rw[Vb]at this;rw[M9];omega
theorem SH{f:TFunc}(hf:OkF f){b:Ae}(hb:b∈f.Blocks)(i:Nat):(Su b i).length<=32768:=by
 have:=Kc 64 (λk=>Q3 (b.Ops.getD k default) i k) (List.range _) (λk hk=>by
  have h1:=MN (b.Ops.getD k default) i k;have h2:=(Yj (jk hf hb (Ag (d:=default) (by simpa using hk)))).1
  omega)
 have h3:=(hf.block b hb).ops;rw[Vb]at this;rw[Su];omega
theorem eQ(f:TFunc)(b:Ae)(i:Nat):(Yl f b i).length<=2:=by
 unfold Yl
 cases b.End.Kind==0<;>cases b.End.Kind==2<;>simp
theorem YF{f:TFunc}(hf:OkF f){i:Nat}(hi:i<f.Blocks.length):(IE f (f.Blocks.getD i default) i).length<=70000:=by
 have hmem:=Ag (d:=default) hi;have h1:=MO hf hmem;have h2:=SH hf hmem i;have h3:=eQ f (f.Blocks.getD i default) i;rw[IE,Fh,Fh];omega
theorem KH{f:TFunc}(hf:OkF f):(Bh f).length<=4480000:=by
 have h1:=Kc _ _ (List.range _) (λi hi=>YF hf (by simpa using hi));have h4:=hf.blocks;rw[Vb]at h1;rw[Bh];omega
def jr(f:TFunc):Prop:=∀ b∈f.Blocks,∀ p∈b.Phis,p.Args.length<=p.From.length
theorem ww{f:TFunc}(hf:OkF f)(hp:jr f):Kr f=some (Bh f):=by
 have hbig:∀{n:Nat},n<=100000000->∀ x:Cq,n+([x]:List Cq).length<=room:=λ{n} h x=>by rw[ID];simp;omega
 have h1:∀(i:Nat),i<f.Blocks.length->∀(k:Nat),k<(f.Blocks.getD i default).Phis.length->∀ acc:List Cq,acc.length<=50000000->Ac (Gi f (i:Int) (k:Int)) (acc,(0:Int))=some (acc++N6 ((f.Blocks.getD i default).Phis.getD k default)):=λi hi k hk acc hacc=>by
  have hmem:=Ag (d:=(default:Ae)) hi;have hpm:=Ag (d:=(default:A8)) hk;have hlen:=RC hf hmem hpm;have hfit:=hp _ hmem _ hpm
  have:=Mv ((f.Blocks.getD i default).Phis.getD k default).Args.length 50000000 1 (λ(j:Nat)=>[(⟨((f.Blocks.getD i default).Phis.getD k default).Args.getD j 0,((f.Blocks.getD i default).Phis.getD k default).From.getD j 0,1000,(((f.Blocks.getD i default).Phis.getD k default).Bits,1)⟩:Cq)]) (λ_ _=>zzL6 _) (Gi f (i:Int) (k:Int)) (λacc j hj hA=>by
   unfold Gi
   have hd:decide ((j:Int)<(((f.Blocks.getD i default).Phis.getD k default).Args.length:Int))=true:=by simpa using hj
   simp only[C9,hd,Ah,Aa (Ai hj),Aa (Ai (Nat.lt_of_lt_of_le hj hfit)),A0 hj (by omega),Aa (hbig (n:=acc.length) (by omega) _)]) (λacc=>by unfold Gi;simp) ((f.Blocks.getD i default).Phis.getD k default).Args.length 0 acc (by omega) (by omega)
  rw[show(0:Int)=((0:Nat):Int) from rfl,this,N6,Si]
 have h2:∀(i:Nat),i<f.Blocks.length->∀ acc:List Cq,acc.length<=40000000->Ac (Gj f (i:Int)) (acc,(0:Int))=some (acc++M9 (f.Blocks.getD i default)):=λi hi acc hacc=>by
  have hmem:=Ag (d:=(default:Ae)) hi;have hB:=hf.block _ hmem
  have:=Mv (f.Blocks.getD i default).Phis.length 40000000 64 (λ(k:Nat)=>N6 ((f.Blocks.getD i default).Phis.getD k default)) (λk hk=>by have:=IF ((f.Blocks.getD i default).Phis.getD k default);have:=(RC hf hmem (Ag (d:=(default:A8)) hk)).2;omega) (Gj f (i:Int)) (λacc k hk hA=>by
   unfold Gj
   have hd:decide ((k:Int)<((f.Blocks.getD i default).Phis.length:Int))=true:=by simpa using hk
   have h5:=hB.phis;have h6:k*64<=512*64:=Fx _ (by omega)
   simp only[C9,hd,Ah,Aa (Ai hk),h1 i hi k hk acc (by omega),An,A0 hk (by omega)]) (λacc=>by unfold Gj;simp) (f.Blocks.getD i default).Phis.length 0 acc (by omega) (by omega)
  rw[show(0:Int)=((0:Nat):Int) from rfl,this,M9,Si]
 have h3:∀(i:Nat),i<f.Blocks.length->∀(k:Nat),k<(f.Blocks.getD i default).Ops.length->∀ acc:List Cq,acc.length<=50000000->Ac (Gk f (i:Int) (k:Int) (He ((f.Blocks.getD i default).Ops.getD k default))) (acc,(0:Int))=some (acc++Q3 ((f.Blocks.getD i default).Ops.getD k default) i k):=λi hi k hk acc hacc=>by
  have hmem:=Ag (d:=(default:Ae)) hi;have hom:=Ag (d:=(default:Bv)) hk;have hlen:=Yj (jk hf hmem hom)
  have:=Mv (He ((f.Blocks.getD i default).Ops.getD k default)).length 50000000 1 (λ(j:Nat)=>[(⟨((f.Blocks.getD i default).Ops.getD k default).Args.getD j 0,i,k,(He ((f.Blocks.getD i default).Ops.getD k default)).getD j (0,0)⟩:Cq)]) (λ_ _=>zzL6 _) (Gk f (i:Int) (k:Int) (He ((f.Blocks.getD i default).Ops.getD k default))) (λacc j hj hA=>by
   unfold Gk
   have hd:decide ((j:Int)<((He ((f.Blocks.getD i default).Ops.getD k default)).length:Int))=true:=by simpa using hj
   simp only[C9,hd,Ah,Aa (Ai hk),Aa (Ai hj),Aa (Ai (Nat.lt_of_lt_of_le hj hlen.2)),A0 hj (by omega),Aa (hbig (n:=acc.length) (by omega) _)]) (λacc=>by unfold Gk;simp) (He ((f.Blocks.getD i default).Ops.getD k default)).length 0 acc (by omega) (by omega)
  rw[show(0:Int)=((0:Nat):Int) from rfl,this,Q3,Si]
 have h4:∀(i:Nat),i<f.Blocks.length->∀ acc:List Cq,acc.length<=40000000->Ac (Gl f (i:Int)) (acc,(0:Int))=some (acc++Su (f.Blocks.getD i default) i):=λi hi acc hacc=>by
  have hmem:=Ag (d:=(default:Ae)) hi;have hB:=hf.block _ hmem
  have:=Mv (f.Blocks.getD i default).Ops.length 40000000 64 (λ(k:Nat)=>Q3 ((f.Blocks.getD i default).Ops.getD k default) i k) (λk hk=>by have:=MN ((f.Blocks.getD i default).Ops.getD k default) i k;have:=(Yj (jk hf hmem (Ag (d:=(default:Bv)) hk))).1;omega) (Gl f (i:Int)) (λacc k hk hA=>by
   unfold Gl
   have hd:decide ((k:Int)<((f.Blocks.getD i default).Ops.length:Int))=true:=by simpa using hk
   have h5:=hB.ops;have h6:k*64<=512*64:=Fx _ (by omega);have ht:Hn ((f.Blocks.getD i default).Ops.getD k default)=some (He ((f.Blocks.getD i default).Ops.getD k default)):=lz _ (lr hf hmem (Ag (d:=(default:Bv)) hk))
   simp only[C9,hd,Ah,Aa (Ai hk),ht,An,h3 i hi k hk acc (by omega),A0 hk (by omega)]) (λacc=>by unfold Gl;simp) (f.Blocks.getD i default).Ops.length 0 acc (by omega) (by omega)
  rw[show(0:Int)=((0:Nat):Int) from rfl,this,Su,Si]
 have hb:=Mv f.Blocks.length 0 70000 (λ(i:Nat)=>IE f (f.Blocks.getD i default) i) (λi hi=>YF hf hi) (In f) (λacc i hi hA=>by
   unfold In
   have hd:decide ((i:Int)<(f.Blocks.length:Int))=true:=by simpa using hi
   have hmem:=Ag (d:=(default:Ae)) hi;have h64:=hf.blocks;have q1:i*70000<=64*70000:=Fx _ (by omega);have q2:=MO hf hmem;have q3:=SH hf hmem i;have e1:=h4 i hi (acc++M9 (f.Blocks.getD i default)) (by rw[Fh];omega)
   have l1:(acc++M9 (f.Blocks.getD i default)++Su (f.Blocks.getD i default) i).length<=50000000:=by rw[Fh,Fh];omega
   simp only[hd,Ah,Aa (Ai hi),h2 i hi acc (by omega),An,e1,C9,Aa (hbig (n:=(acc++M9 (f.Blocks.getD i default)++Su (f.Blocks.getD i default) i).length) (by omega) _),IE,Yl]
   cases(f.Blocks.getD i default).End.Kind==0 with
   | true=>
    simp only[Ah,An]
    cases(f.Blocks.getD i default).End.Kind==2 with
    | true=>rw[Aa (by rw[Fh];have:=hbig (n:=(acc++M9 (f.Blocks.getD i default)++Su (f.Blocks.getD i default) i).length+1) (by omega) (default:Cq);simpa using this)];simp[A0 hi (by omega:f.Blocks.length<9223372036854775808)]
    | false=>simp[A0 hi (by omega:f.Blocks.length<9223372036854775808)]
   | false=>
    simp only[Ax,An]
    cases(f.Blocks.getD i default).End.Kind==2 with
    | true=>rw[Ah,Aa (hbig (n:=(acc++M9 (f.Blocks.getD i default)++Su (f.Blocks.getD i default) i).length) (by omega) _)];simp[A0 hi (by omega:f.Blocks.length<9223372036854775808)]
    | false=>simp[A0 hi (by omega:f.Blocks.length<9223372036854775808)]) (λacc=>by unfold In;simp) f.Blocks.length 0 [] (by omega) (by simp)
 unfold Kr;rw[show(0:Int)=((0:Nat):Int) from rfl,hb,An,Bh,Si,Y8]
def gW(n:Nat)(l:List Int)(i:Nat):Bool:=decide ((if i=0 then(-1:Int) else l.getD (i-1) 0)<l.getD i 0)&&(decide (0<=l.getD i 0)&&decide (l.getD i 0<n))
def mc(n:Nat)(l:List Int):Bool:=(List.range l.length).all (gW n l)
def Mo(L:List (List Int)):Bool:=decide (1<=L.length)&&decide (L.length<=64)&&(List.range L.length).all λi=>mc L.length (L.getD i [])
def Yu(L:List (List Int))(k i:Nat):Bool:=(L.getD k []).contains (i:Int)
def J5(L:List (List Int))(m i:Nat):List Int:=((List.range m).filter λk=>Yu L k i).map Int.ofNat
def Dq(L:List (List Int)):List (List Int):=(List.range L.length).map (J5 L L.length)
theorem Wa(a n:Int):J8 a n=some (decide (0<=a)&&decide (a<n)):=by
 unfold J8
 cases decide (0<=a)<;>rfl
theorem XC(n:Nat):Mj (n:Int)=some (decide (1<=n)&&decide (n<=64)):=by
 unfold Mj
 have h1:decide ((1:Int)<=n)=decide (1<=n):=by grind
 have h2:decide (n<=(64:Int))=decide (n<=64):=by grind
 rw[h1,h2]
 cases decide (1<=n)<;>rfl
theorem SE(L:List (List Int))(i:Nat)(hl:(L.getD i []).length<4611686018427387904) :
  Ac (Ht L (i:Int)) ((-1:Int),(0:Int))=some (bif mc L.length (L.getD i []) then .inl () else .inr false):=by
 refine H7 (Ht L i) (λj=>((if j=0 then -1 else(L.getD i []).getD (j-1) 0),(j:Nat))) _ _ _ _ (λj hj hp=>?_) (λj hj hp=>?_) ?_
 ·unfold gW at hp;simp only[A6,Gr]at hp;obtain⟨h1,h2,h3⟩:=hp;unfold Ht;simp only[Am,B1 hj, Wa];rw[Ad (Fz hj)]
  have e1:decide ((L.getD i []).getD j 0<=(if j=0 then -1 else(L.getD i []).getD (j-1) 0))=false:=by simpa using h1
  simp only[e1,Co h2,Co h3,     Ds];rw[w1 (show j<4611686018427387904 by omega)]
  simp
 ·unfold Ht;simp only[Am,B1 hj, Wa];rw[Ad (Fz hj)]
  cases h1:decide ((L.getD i []).getD j 0<=(if j=0 then -1 else(L.getD i []).getD _ 0)) with
  | true=>grind
  | false=>
   have h1':decide ((if j=0 then -1 else(L.getD i []).getD (j-1) 0)<(L.getD i []).getD j 0)=true:=by simpa using h1
   unfold gW at hp;rw[h1',Ld]at hp;simp only[Vc,Ah,Ax,An,hp,J2]
 ·unfold Ht;simp only[Am,Da,Ax]
def Fits(L:List (List Int)):Prop:=L.length<4611686018427387904/\∀ l∈L,l.length<4611686018427387904
theorem Fits.at{L:List (List Int)}(h:Fits L)(i:Nat):(L.getD i []).length<4611686018427387904:=by
 by_cases hi:i<L.length
 ·exact h.2 _ (Ag hi)
 ·grind
theorem lc(L:List (List Int))(h:Fits L):Pe L=some (Mo L):=by
 unfold Pe;rw[XC,An];unfold Mo
 cases hc:(decide (1<=L.length)&&decide (L.length<=64)) with
 | false=>rfl
 | true=>
  simp only[Ds,Ax,Ld];have:=H7 (Dx L) (λj=>((j:Nat):Int)) (λi=>mc L.length (L.getD i [])) (.inl ()) (.inr false) L.length (λj hj hp=>?_) (λj hj hp=>?_) ?_
  ·rw[show Ac (Dx L) (0:Int)=_ from this]
   cases(List.range L.length).all λi=>mc L.length (L.getD i [])<;>rfl
  ·show Dx L (j:Int)=_
   unfold Dx;simp only[B1 hj,Ah];rw[Ad (Fz hj),SE L j (h.at j),hp];simp only[Ah,An,w1 (show j<4611686018427387904 by have:=h.1;omega)]
  ·show Dx L (j:Int)=_
   unfold Dx;simp only[B1 hj,Ah];rw[Ad (Fz hj),SE L j (h.at j),hp]
   rfl
  ·show Dx L _=_
   unfold Dx;simp only[Da,Ax]
theorem O8{α:Type}{n i:Nat}{g:Nat->α}{d:α}(h:i<n):((List.range n).map g).getD i d=g i:=by simp[ h]
theorem BW{α:Type}{n i:Nat}{g:Nat->α}{x:α}:((List.range n).map g).set i x=(List.range n).map λj=>if j=i then x else g j:=by
 apply List.ext_getElem?
 intro j;rw[List.getElem?_set]
 by_cases hj:j<n
 ·grind
 ·grind
theorem Hp{α:Type}{n:Nat}{g h:Nat->α}(H:∀ i,i<n->g i=h i):(List.range n).map g=(List.range n).map h:=MQ λi hi=>H i (zzL45.1 hi)
theorem mayS_iff{L:List (List Int)}:Mo L=true↔1<=L.length/\L.length<=64/\∀ i,i<L.length->mc L.length (L.getD i [])=true:=by
 unfold Mo;rw[A6,A6,all_range];simp only[Gr];exact⟨λ⟨⟨a,b⟩,c⟩=>⟨a,b,c⟩,λ⟨a,b,c⟩=>⟨⟨a,b⟩,c⟩⟩
theorem okL_iff{n:Nat}{l:List Int}:mc n l=true↔∀ i,i<l.length->(0<=l.getD i 0/\l.getD i 0<n)/\(0<i->l.getD (i-1) 0<l.getD i 0):=by
 unfold mc;rw[all_range];unfold gW;simp only[A6,Gr]
 constructor
 ·grind
 ·intro h i hi;obtain⟨⟨h2,h3⟩,h1⟩:=h i hi
  by_cases hz:i=0
  · omega
  ·grind
section
variable {n:Nat} {l:List Int} (h:mc n l=true)
include h
theorem AZ{i:Nat}(hi:i<l.length):0<=l.getD i 0/\l.getD i 0<n:=(okL_iff.1 h i hi).1
theorem pZ{i j:Nat}(hij:i<j)(hj:j<l.length):l.getD i 0<l.getD j 0:=by
 induction j with
 | zero=>omega
 | succ j ih=>
  have h1:=(okL_iff.1 h _ hj).2 (by omega)
  by_cases he:i=j
  ·rw[he];exact h1
  ·grind
theorem w4{i:Nat}(hi:i<l.length):(i:Int)<=l.getD i 0:=by
 induction i with
 | zero=>exact(AZ h hi).1
 | succ i ih=>
  have:=pZ h (show i<i+1 by omega) hi;omega
theorem DN:l.length<=n:=by
 by_cases hz:l.length=0
 ·omega
 ·have h1:=w4 h (show l.length-1<l.length by omega);have h2:=(AZ h (show l.length-1<l.length by omega)).2;omega
theorem am{x:Int}(hx:x∈l):0<=x/\x<n:=by
 obtain⟨i,hi,rfl⟩:=G7 hx;have:=AZ h hi;rwa[Ab _ _ _ hi]at this
end
theorem w5{n:Nat}{l:List Int}(h1:∀ x∈l,0<=x/\x<n)(h2:l.Pairwise (·<·)):mc n l=true:=by
 rw[okL_iff];intro i hi;rw[Ab _ _ _ hi];refine⟨h1 _ (KN hi),λhp=>?_⟩;rw[Ab _ _ _ (show i-1<l.length by omega)];exact(zzL91.1 h2) _ _ _ _ (by omega)
theorem Tk{L:List (List Int)}(h:Mo L=true):L.length<=64/\∀ l∈L,l.length<=64:=by
 obtain⟨h1,h2,h3⟩:=mayS_iff.1 h;refine⟨h2,λl hl=>?_⟩;obtain⟨i,hi,rfl⟩:=G7 hl;have:=DN (h3 i hi);rw[Ab _ _ _ hi]at this;omega
theorem s5{L:List (List Int)}(h:L.length<=1000/\∀ l∈L,l.length<=1000):Fits L:=⟨by omega,λl hl=>by have:=h.2 l hl;omega⟩
theorem BM(L:List (List Int))(k i:Nat):J5 L (k+1) i=J5 L k i++(if Yu L k i=true then[(k:Int)] else[]):=by
 unfold J5;rw[W0,Wv];cases hg:Yu L k i<;>simp[hg]
theorem Yb(L:List (List Int))(k i:Nat):(J5 L k i).length<=k:=by
 unfold J5;have:=List.length_filter_le (λk=>Yu L k i) (List.range k)
 simpa using this
theorem WR{l:List Int}{j:Nat}(hj:j<l.length):l.take (j+1)=l.take j++[l.getD j 0]:=by
 simp_all
def Vk(L:List (List Int))(k j i:Nat):Bool:=((L.getD k []).take j).contains (i:Int)
def Ou(L:List (List Int))(k j:Nat):List (List Int):=(List.range L.length).map λi=>J5 L k i++(if Vk L k j i=true then[(k:Int)] else[])
theorem cR(L:List (List Int))(h:Mo L=true)(k j:Nat)(hk:k<L.length)(hj:j<(L.getD k []).length) :
  (Ou L k j).set ((L.getD k []).getD j 0).toNat ((Ou L k j).getD ((L.getD k []).getD j 0).toNat []++[(k:Int)])=Ou L k (j+1):=by
 obtain⟨h1,h2,h3⟩:=mayS_iff.1 h;have hok:=h3 k hk;obtain⟨a0,a1⟩:=AZ hok hj;unfold Ou;rw[O8 (by omega),BW]
 apply Hp
 intro i hi
 have hnot:Vk L k j ((L.getD k []).getD j 0).toNat=false:=by
  unfold Vk;rw[Y5 a0]
  cases hc:((L.getD k []).take j).contains _ with
  | false=>rfl
  | true=>
   rw[zzL64]at hc;obtain⟨m,hm,he⟩:=G7 hc
   have hm':m<j:=by simp at hm;omega
   rw[List.getElem_take]at he;have:=pZ hok hm' hj;rw[Ab _ _ _ (show m<(L.getD k []).length by omega)]at this;omega
 by_cases hi2:i=((L.getD k []).getD j 0).toNat
 ·rw[ hnot]
  have:Vk L k (j+1) i=true:=by
   unfold Vk;rw[WR hj, hi2,Y5 a0]
   simp
  rw[this,hi2]
  simp
 ·rw[if_neg hi2]
  have:Vk L k (j+1) i=Vk L k j i:=by
   unfold Vk;rw[WR hj,Y7,zzL64,zzL64,zzL12]
   constructor
   ·grind
   ·exact .inl
  rw[this]
theorem dF(L:List (List Int))(h:Mo L=true):Nr L=some (Dq L):=by
 obtain⟨h1,h2,h3⟩:=mayS_iff.1 h
 have hroom:(1000:Nat)<=room:=by decide
 unfold Nr;rw[Ad ⟨by omega,Int.le_refl _,by omega⟩,Am]
 have inner:∀ k,k<L.length->Ac _ ((0:Int),Ou L k 0)=some (Ou L k (L.getD k []).length):=λk hk=>by
  have hok:=h3 k hk;refine Em (M5 L (k:Int)) (λj=>(((j:Nat):Int),Ou L k j)) _ (L.getD k []).length (λj hj=>?_) ?_
  ·obtain⟨a0,a1⟩:=AZ hok hj
   have hlen:(Ou L k j).length=L.length:=by simp[Ou]
   have hl64:=DN hok;unfold M5;simp only[Am,B1 hj,Ah];have hb:A2 ((L.getD k []).getD j 0) (Ou L k j).length:=⟨a0,by rw[hlen];exact a1⟩
   have hrow:((Ou L k j).getD ((L.getD k []).getD j 0).toNat []).length<=k+1:=by
    unfold Ou;rw[O8 (by omega),Fh];have:=Yb L k ((L.getD k []).getD j 0).toNat
    split
    ·rw[ET];omega
    ·rw[List.length_nil];omega
   rw[Ad (Fz hj),Ad hb,Ad hb,Ad (by grind),Ad hb,cR L h k j hk hj,w1 (by omega)]
  ·unfold M5;simp only[Am,Da,Ax]
 have r0:∀ k,Ou L k 0=(List.range L.length).map (J5 L k):=λk=>by
  unfold Ou
  apply Hp
  intro i _;simp[Vk]
 have r1:∀ k,Ou L k (L.getD k []).length=(List.range L.length).map (J5 L (k+1)):=λk=>by
  unfold Ou
  apply Hp
  intro i _;rw[BM];unfold Vk Yu;rw[Wx]
 have:Ac (Kj L) ((0:Int),(List.range L.length).map (J5 L 0))=some (Dq L):=Em (Kj L) (λk=>(((k:Nat):Int),(List.range L.length).map (J5 L k))) (Dq L) L.length (λk hk=>?_) ?_
 ·have e0:(List.replicate L.length ([]:List Int))=(List.range L.length).map (J5 L 0):=by
   apply List.ext_getElem?
   intro i
   by_cases hi:i<L.length<;>simp[hi,List.getElem?_replicate,J5]
  rw[e0,this];rfl
 ·unfold Kj;simp only[B1 hk,Ah];rw[Ad (Fz hk),<- r0,inner k hk,r1,w1 (by omega)]
  rfl
 ·unfold Kj;simp only[Da,Ax]
  rfl
theorem Uq{α:Type}[DecidableEq α]{a b:List α}{d:α}(h:a.length=b.length):((List.range a.length).all λi=>decide (a.getD i d=b.getD i d))=decide (a=b):=by
 rw[Y7,all_range,Gr]
 constructor
 ·intro hall
  apply CI h
  intro i h1 h2;have:=KM (hall i h1);rwa[Ab _ _ _ h1,Ab _ _ _ h2]at this
 ·rintro rfl i _
  simp
theorem HJ{a b:Nat}:(((a:Nat):Int)!=(b:Int))=decide (a≠b):=by
 grind
theorem ZS{a b:Int}:(a !=b) = !decide (a=b):=by
 grind
theorem aa(a b:List Int)(hb:b.length<4611686018427387904):G2 a b=some (decide (a=b)):=by
 unfold G2;rw[HJ]
 by_cases hl:a.length=b.length
 ·rw[Ce (by simpa using hl)];have:Ac (E6 a b) 0=_:=H7 _ (λj=>(j:Int)) (λi=>decide (a.getD i 0=b.getD i 0)) (.inl ()) (.inr false) a.length (λj hj hp=>?_) (λj hj hp=>?_) ?_
  ·rw[this,Uq hl]
   cases decide (a=b)<;>rfl
  ·unfold E6;simp only[Am,B1 hj];rw[Ad (Fz hj),Ad (Fz (by omega)),ZS,hp,w1 (by omega)]
   rfl
  ·unfold E6;simp only[Am,B1 hj];rw[Ad (Fz hj),Ad (Fz (by omega)),ZS,hp]
   rfl
  ·unfold E6;simp only[Da,Ax]
 ·rw[Co (by simpa using hl),Ah,Ce (λh=>hl (by rw[h]))]
theorem f9(a b:List Int)(ha:a.length<4611686018427387904):Bb a b=some (decide (a=b)):=by
 unfold Bb;rw[HJ]
 by_cases hl:a.length=b.length
 ·rw[Ce (by simpa using hl)];have:Ac _ (0:Int)=_:=H7 (B4 a b) (λj=>(j:Nat)) (λi=>decide (a.getD i 0=b.getD i 0)) (.inl ()) (.inr false) a.length (λj hj hp=>?_) (λj hj hp=>?_) ?_
  ·rw[this,Uq hl]
   cases decide (a=b)<;>rfl
  ·unfold B4;simp only[Am,B1 hj];rw[Ad (Fz hj),Ad (Fz (by omega)),ZS,hp,w1 (by omega)]
   rfl
  ·unfold B4;simp only[Am,B1 hj];rw[Ad (Fz hj),Ad (Fz (by omega)),ZS,hp]
   rfl
  ·unfold B4;simp only[Da,Ax]
 ·rw[Co (by simpa using hl),Ah,Ce (λh=>hl (by rw[h]))]
theorem dG(a b:List (List Int))(hb:Fits b):Dy a b=some (decide (a=b)):=by
 unfold Dy;rw[HJ]
 by_cases hl:a.length=b.length
 ·rw[Ce (by simpa using hl)];have hb1:=hb.1;have:Ac _ (0:Int)=_:=H7 (B7 a b) (λj=>(j:Nat)) (λi=>decide (a.getD i []=b.getD i [])) (.inl ()) (.inr false) a.length (λj hj hp=>?_) (λj hj hp=>?_) ?_
  ·rw[this,Uq hl]
   cases decide (a=b)<;>rfl
  ·unfold B7;simp only[Am,B1 hj];rw[Ad (Fz hj),Ad (Fz (by omega)),aa _ _ (hb.at j),hp,w1 (by omega)]
   rfl
  ·unfold B7;simp only[Am,B1 hj];rw[Ad (Fz hj),Ad (Fz (by omega)),aa _ _ (hb.at j),hp]
   rfl
  ·unfold B7;simp only[Da,Ax]
 ·rw[Co (by simpa using hl),Ah,Ce (λh=>hl (by rw[h]))]
theorem Pp(L:List (List Int)):(Dq L).length=L.length:=by simp[Dq]
theorem DP{L:List (List Int)}{i:Nat}(hi:i<L.length):(Dq L).getD i []=J5 L L.length i:=by unfold Dq;rw[O8 hi]
theorem Yc{L:List (List Int)}(h:Mo L=true):(Dq L).length<=64/\∀ l∈Dq L,l.length<=64:=by
 obtain⟨h1,_⟩:=Tk h;refine⟨by rw[Pp];exact h1,λl hl=>?_⟩;obtain⟨i,hi,rfl⟩:=zzL21.1 hl;have:=Yb L L.length i;omega
theorem Ub{L:List (List Int)}(h:L.length<=64/\∀ l∈L,l.length<=64):Fits L:=s5 ⟨by omega,λl hl=>by have:=h.2 l hl;omega⟩
def DZ(g:TGraph):Bool:=Mo g.Succ&&decide (g.Pred=Dq g.Succ)
theorem u4(g:TGraph)(h:Fits g.Succ):Uu g=some (DZ g):=by
 unfold Uu DZ;rw[lc _ h]
 cases hm:Mo _ with
 | false=>rfl
 | true=>
  simp only[Vc,Ah,dF _ hm,An,dG _ _ (Ub (Yc hm)),Ld]
def Kd(L:List (List Int)):TGraph:=⟨L,Dq L⟩
def g0:TGraph:=⟨[],[]⟩
theorem QO{L:List (List Int)}(h:Mo L=true):DZ (Kd L)=true:=by simp[DZ,Kd,h]
theorem pO(l:List Int)(x:Int)(h:l.length<4611686018427387904):Ha l x=some (l.contains x):=by
 unfold Ha;have:Ac _ (0:Int)=_:=H7 (G1 l x) (λj=>(j:Nat)) (λi=>!decide (l.getD i 0=x)) (.inl ()) (.inr true) l.length (λj hj hp=>?_) (λj hj hp=>?_) ?_
 ·rw[this]
  have e:l.contains x = !((List.range l.length).all λi=>!decide (l.getD i 0=x)):=by
   rw[Y7,zzL64,Y6,<- Bool.not_eq_true,all_range]
   constructor
   ·intro hx hall;obtain⟨i,hi,rfl⟩:=G7 hx;have:=hall i hi;rw[Ab _ _ _ hi]at this;simp at this
   ·grind
  rw[e]
  cases(List.range _).all _<;>rfl
 ·unfold G1;simp only[Am,B1 hj]
  have:(l.getD j 0==x)=false:=by simpa using hp
  rw[Ad (Fz hj),this,w1 (by omega)]
  rfl
 ·unfold G1;simp only[Am,B1 hj]
  have:(l.getD j 0==x)=true:=by simpa using hp
  rw[Ad (Fz hj),this]
  rfl
 ·unfold G1;simp only[Da,Ax]
theorem XY{X:Type}(a b:List (List Int))(f:Int->Option (LR Int (Unit ⊕ Bool)))(ha:Fits a)(hl:a.length=b.length)
  (hn:∀ i:Nat,i<a.length->f (i:Int)=(Bb (a.getD i []) (b.getD i [])).bind λx=>bif (!x) then some (.done (.inr false)) else some (.next (w64 ((i:Int)+1)))) (he:f (a.length:Int)=some (.done (.inl ()))) :
  Ac f (0:Int)=some (bif decide (a=b) then .inl () else .inr false):=by
 have ha1:=ha.1;have:Ac f 0=_:=H7 f (λj=>(j:Int)) (λi=>decide (a.getD i []=b.getD i [])) _ (.inr false) _ (λj hj hp=>?_) (λj hj hp=>?_) he
 ·rw[this,Uq hl]
 ·rw[hn j hj,f9 _ _ (ha.at j),hp,w1 (by omega)];rfl
 ·rw[hn j hj,f9 _ _ (ha.at j),hp];rfl
theorem wv(a b:TGraph)(h1:Fits a.Succ)(h2:Fits a.Pred):Kn a b=some (decide (a=b)):=by
 have e:decide (a=b)=(decide (a.Succ=b.Succ)&&decide (a.Pred=b.Pred)):=by
  cases a;cases b
  simp
 rw[e];unfold Kn;rw[HJ,HJ]
 by_cases hs:a.Succ.length=b.Succ.length
 ·by_cases hp:a.Pred.length=b.Pred.length
  ·rw[Ce (by simpa using hs), Ce (by simpa using hp)]
   have s1:=XY (X:=Unit) _ _ (Ii a b) h1 hs (λi hi=>by
    unfold Ii;simp only[Am,B1 hi,Ah]
    rw[Ad (Fz hi),Ad (Fz (by omega))]) (by
    unfold Ii
    simp only[Da,Ax])
   have s2:=XY (X:=Unit) _ _ (Ij a b) h2 hp (λi hi=>by
    unfold Ij;simp only[Am,B1 hi,Ah]
    rw[Ad (Fz hi),Ad (Fz (by omega))]) (by
    unfold Ij
    simp only[Da,Ax])
   rw[s1]
   cases decide (a.Succ=b.Succ) with
   | false=>rfl
   | true=>
    grind
  ·grind
 ·grind
theorem M4{R:Type}{c:Bool}{q:Prop}[Decidable q]{k:Option R}(h:q):Az (c=true->q) k=k:=Ad λ_=>h
def oC(n:Nat)(l:List Int)(j:Nat):Bool:=
 bif (bif decide (l.getD j 0<0) then true else decide ((n:Int)<=l.getD j 0)) then true else(bif decide ((0:Int)<(j:Int)) then decide (l.getD j 0<=l.getD (j-1) 0) else false)
theorem oD(n:Nat)(l:List Int)(j:Nat):oC n l j = !gW n l j:=by
 unfold oC gW
 by_cases h0:l.getD j 0<0
 ·grind
 ·grind
theorem MD(L:List (List Int))(i:Nat)(hi:i<L.length)(hl:(L.getD i []).length<4611686018427387904) :
  Ac (Ef L (i:Int)) (0:Int)=some (bif mc L.length (L.getD i []) then .inl () else .inr (g0,5)):=by
 have hw:∀ j:Nat,j<(L.getD i []).length->0<j->w64 (j-1)=(j-1:Nat):=λj hj hp=>by rw[Hg (by omega) (by omega)];omega
 have step:∀ j,j<(L.getD i []).length->Ef L i j=bif oC _ _ j then some _ else some (.next ((j+1:Nat))):=λj hj=>by
  unfold Ef;simp only[Am,B1 hj];rw[Ad (Fz hi),Ad (Fz hi),Ad (Fz hj),M4 (Fz hi),M4 (Fz hj),M4 (Fz hi),M4 (Fz hj),M4 (Fz hi),w1 (by omega)]
  by_cases hz:j=0
  ·subst hz
   have:decide (0<((0:Nat):Int))=false:=by decide
   rw[this];rw[show((false==true)=false) from rfl,Bool.and_false]
   rfl
  ·rw[hw j hj (by omega),M4 (Fz (by omega))]
   rfl
 have:=H7 (Ef L i) (λj=>(j:Nat)) (gW L.length (L.getD i [])) (.inl ()) (.inr (g0,5)) (L.getD i []).length (λj hj hp=>?_) (λj hj hp=>?_) ?_
 ·exact this
 ·rw[step j hj,oD,hp];rfl
 ·rw[step j hj,oD,hp];rfl
 ·unfold Ef;simp only[Am,Da,Ax];rw[Ad (Fz hi)]
theorem VP(L:List (List Int))(h:Mo L=true):Ac (Eg L) ((0:Int),List.replicate L.length ([]:List Int))=some (Dq L):=by
 obtain⟨h1,h2,h3⟩:=mayS_iff.1 h
 have hroom:(1000:Nat)<=room:=by decide
 have hfit:=Ub (Tk h)
 let R:Nat->Nat->List (List Int):=λi k=>(List.range L.length).map λj=>if j<i then J5 L L.length j else if j=i then J5 L k i else[]
 have inner:∀ i,i<L.length->Ac _ ((0:Int),R i 0)=some (R i L.length):=λi hi=>by
  refine Em (Ih L (i:Int)) (λk=>(((k:Nat):Int),R i k)) (R i L.length) L.length (λk hk=>?_) ?_
  ·have hlen:(R i k).length=L.length:=by simp[R]
   have hat:(R i k).getD i []=J5 L k i:=by simp only[R];rw[O8 hi];simp
   unfold Ih;simp only[Am,B1 hk,Ah];rw[Ad (Fz hk),pO _ _ (hfit.at k),An,w1 (by omega)];have hg:Yu L k i=(L.getD k []).contains (i:Int):=rfl;rw[<- hg,hat]
   have hs:(if Yu L k i=true then(R i k).set i (J5 L k i++[(k:Int)]) else R i k)=R i (k+1):=by
    split
    ·rename_i hgo
     simp only[R];rw[BW]
     apply Hp
     intro j hj
     by_cases hji:j=i
     ·subst hji;simp[BM,hgo]
     ·simp[hji]
    ·rename_i hgo
     simp only[R]
     apply Hp
     intro j hj
     by_cases hji:j=i
     ·subst hji;simp[BM,hgo]
     ·simp[hji]
   rw[<- hs]
   cases hgo:Yu L k i with
   | false=>rfl
   | true=>
    have:=Yb L k i;simp only[Ah];rw[Ad (by rw[hlen];exact Fz hi),Ad (by rw[hlen];exact Fz hi),Ad (by rw[ET];omega),Ad (by rw[hlen];exact Fz hi)]
    rfl
  ·unfold Ih;simp only[Da,Ax]
 have:Ac (Eg L) ((0:Int),R 0 0)=some (Dq L):=Em (Eg L) (λi=>(((i:Nat):Int),R i 0)) (Dq L) L.length (λi hi=>?_) ?_
 ·have e0:List.replicate L.length ([]:List Int)=R 0 0:=by
   simp only[R]
   apply List.ext_getElem?
   intro j
   by_cases hj:j<L.length<;>simp[hj,List.getElem?_replicate,J5]
  rw[e0,this]
 ·unfold Eg;simp only[B1 hi,Ah];rw[inner i hi,w1 (by omega)];simp only[An]
  congr 3
  simp only[R]
  apply Hp
  intro j hj
  by_cases h4:j<i
  ·simp[h4,show j<i+1 by omega]
  ·by_cases h5:j=i
   ·subst h5;simp
   ·simp[h4,h5,show ¬ j<i+1 by omega];intro h6;simp[J5]
 ·unfold Eg;simp only[Da,Ax]
  congr 2
  simp only[R,Dq]
  apply Hp
  intro j hj;simp[hj]
theorem QK(L:List (List Int))(h:Fits L):H3 L=some (bif Mo L then(Kd L,0) else(g0,5)):=by
 have hroom:1000<=room:=by decide
 unfold H3
 have hc:(bif (L.length==(0:Int)) then true else decide (64<(L.length:Int))) = !(decide (1<=L.length)&&decide (L.length<=64)):=by
  grind
 rw[hc];have hm:Mo L=((decide _&&decide _)&&(List.range _).all _):=rfl
 cases hb:(decide (1<=L.length)&&decide (L.length<=64)) with
 | false=>rw[hm,hb];rfl
 | true=>
  have hb':=hb;simp only[A6,Gr]at hb';have:Ac (Gd L) 0=_:=H7 _ (λj=>(j:Int)) (λi=>mc L.length (L.getD i [])) (.inl ()) (.inr (g0,5)) L.length (λj hj hp=>?_) (λj hj hp=>?_) ?_
  ·rw[this]
   cases hall:(List.range L.length).all _ with
   | false=>rw[hm,hb,hall];rfl
   | true=>
    have hmay:Mo L=true:=by rw[hm,hb,hall];rfl
    rw[hmay];rw[Ad ⟨by omega,Int.le_refl _,by omega⟩,Am,VP L hmay]
    rfl
  ·unfold Gd;simp only[B1 hj];rw[MD L j hj (h.at j),hp,w1 (by omega)]
   rfl
  ·unfold Gd;simp only[B1 hj];rw[MD L j hj (h.at j),hp]
   rfl
  ·unfold Gd;simp only[Da,Ax]
theorem HF{L:List (List Int)}(h:Mo L=true):Fits (Kd L).Succ/\Fits (Kd L).Pred:=⟨Ub (Tk h),Ub (Yc h)⟩
theorem lY(g:TGraph)(h:Fits g.Succ):Lo g=some (DZ g):=by
 unfold Lo DZ;rw[QK _ h,An]
 cases hm:Mo _ with
 | false=>rfl
 | true=>
  simp only[Ah,Vc];rw[wv _ _ (HF hm).1 (HF hm).2];simp only[An]
  congr 1
  apply zzL77.2
  cases g with
  | mk s p=>
   simp only[Kd,TGraph.mk.injEq,true_and];exact Sx
noncomputable section
def upd(s:Nat->Bool)(y:Nat):Nat->Bool:=λz=>decide (z=y) || s z
theorem upd_true{s:Nat->Bool}{y z:Nat}:upd s y z=true↔z=y\/s z=true:=by simp[upd]
theorem upd_false{s:Nat->Bool}{y z:Nat}:upd s y z=false↔z≠y/\s z=false:=by simp[upd]
inductive VL (S:Nat->List Nat):(Nat->Bool)->List Nat->(Nat->Bool)->List Nat->Prop
 | nil (s:Nat->Bool):VL S s [] s []
 | skip {s s':Nat->Bool} {y:Nat} {l o:List Nat} (h:s y=true) (t:VL S s l s' o):VL S s (y::l) s' o
 | step {s s1 s2:Nat->Bool} {y:Nat} {l o1 o2:List Nat} (h:s y=false) (a:VL S (upd s y) (S y) s1 o1) (b:VL S s1 l s2 o2):VL S s (y::l) s2 (o1++y::o2)
inductive Rch (S:Nat->List Nat):Nat->Nat->Prop
 | refl (x:Nat):Rch S x x
 | head {x y z:Nat} (h:y∈S x) (t:Rch S y z):Rch S x z
theorem Rch.tail{S:Nat->List Nat}{x y z:Nat}(h:Rch S x y)(hz:z∈S y):Rch S x z:=by
 induction h with
 | refl x=>exact .head hz (.refl _)
 | head h _ ih=>exact .head h (ih hz)
theorem Rch.trans{S:Nat->List Nat}{x y z:Nat}(h:Rch S x y)(k:Rch S y z):Rch S x z:=by
 induction h with
 | refl x=>exact k
 | head h _ ih=>exact .head h (ih k)
variable {S:Nat->List Nat} {s s':Nat->Bool} {l o:List Nat}
theorem VL.seen(h:VL S s l s' o)(z:Nat):s' z=true↔s z=true\/z∈o:=by
 induction h with
 | nil s=>simp
 | skip h _ ih=>exact ih
 | @step s s1 s2 y l o1 o2 h a b iha ihb=>
  rw[ihb,iha,upd_true]
  constructor
  ·grind
  ·grind
theorem VL.fresh(h:VL S s l s' o){z:Nat}(hz:z∈o):s z=false:=by
 induction h with
 | nil s=>cases hz
 | skip h _ ih=>exact ih hz
 | @step s s1 s2 y l o1 o2 h a b iha ihb=>
  rcases zzL12.1 hz with h1|h1
  ·exact(upd_false.1 (iha h1)).2
  ·rcases zzL37.1 h1 with rfl|h1
   ·exact h
   ·have:=ihb h1
    cases hs:s z with
    | false=>rfl
    | true=>rw[(a.seen z).2 (.inl (upd_true.2 (.inr hs)))]at this;cases this
theorem VL.nodup(h:VL S s l s' o):o.Nodup:=by
 induction h with
 | nil s=>exact List.nodup_nil
 | skip h _ ih=>exact ih
 | @step s s1 s2 y l o1 o2 h a b iha ihb=>
  rw[List.nodup_append];refine⟨iha,zzL113.2 ⟨λhy=>?_,ihb⟩,λu hu v hv=>?_⟩
  ·have:=b.fresh hy;rw[(a.seen y).2 (.inl (upd_true.2 (.inl rfl)))]at this
   cases this
  ·rintro rfl;rcases zzL37.1 hv with rfl|hv
   ·have:=a.fresh hu;rw[upd_true.2 (.inl rfl)]at this
    cases this
   ·have:=b.fresh hv;rw[(a.seen u).2 (.inr hu)]at this
    cases this
theorem VL.rch(h:VL S s l s' o){z:Nat}(hz:z∈o):∃ y∈l,Rch S y z:=by
 induction h with
 | nil s=>cases hz
 | skip h _ ih=>grind
 | @step s s1 s2 y l o1 o2 h a b iha ihb=>
  rcases zzL12.1 hz with h1|h1
  ·obtain⟨u,hu,hr⟩:=iha h1;exact⟨y,zzL53 ..,.head hu hr⟩
  ·rcases zzL37.1 h1 with rfl|h1
   ·exact⟨z,zzL53 ..,.refl z⟩
   ·grind
theorem VL.closed(h:VL S s l s' o):(∀ y∈l,s' y=true)/\∀ z∈o,∀ y∈S z,s' y=true:=by
 induction h with
 | nil s=>grind
 | @skip s s' y l o h t ih=>
  refine⟨λu hu=>?_,ih.2⟩;rcases zzL37.1 hu with rfl|hu
  ·exact(t.seen u).2 (.inl h)
  ·exact ih.1 u hu
 | @step s s1 s2 y l o1 o2 h a b iha ihb=>
  refine⟨λu hu=>?_,λz hz u hu=>?_⟩
  ·rcases zzL37.1 hu with rfl|hu
   ·exact(b.seen u).2 (.inl ((a.seen u).2 (.inl (upd_true.2 (.inl rfl)))))
   ·exact ihb.1 u hu
  ·rcases zzL12.1 hz with h1|h1
   ·exact(b.seen u).2 (.inl (iha.2 z h1 u hu))
   ·rcases zzL37.1 h1 with rfl|h1
    ·exact(b.seen u).2 (.inl (iha.1 u hu))
    ·exact ihb.2 z h1 u hu
theorem VL.above(h:VL S s l s' o)(hf:∀ z,∀ y∈S z,z<y){b:Nat}(hb:∀ y∈l,b<y):∀ z∈o,b<z:=by
 induction h generalizing b with
 | nil s=>intro z hz;cases hz
 | skip h _ ih=>exact ih (λy hy=>hb y (N8 _ hy))
 | @step s s1 s2 y l o1 o2 h a c iha ihb=>
  intro z hz;have hy:=hb y (zzL53 ..);rcases zzL12.1 hz with h1|h1
  ·exact iha (λu hu=>Nat.lt_trans hy (hf y u hu)) z h1
  ·rcases zzL37.1 h1 with rfl|h1
   ·exact hy
   ·exact ihb (λu hu=>hb u (N8 _ hu)) z h1
theorem VL.ahead(h:VL S s l s' o)(hf:∀ z,∀ y∈S z,z<y):∀ z∈o,∀ y∈S z,s y=true\/∃ A B,o=A++z::B/\y∈A:=by
 induction h with
 | nil s=>intro z hz;cases hz
 | skip h _ ih=>exact ih
 | @step s s1 s2 y l o1 o2 h a c iha ihb=>
  intro z hz u hu;rcases zzL12.1 hz with h1|h1
  ·have hzy :=a.above hf (λv hv=>hf y v hv) z h1;have hzu:=hf z u hu;rcases iha z h1 u hu with h2|⟨A,B,rfl,hA⟩
   ·rcases upd_true.1 h2 with rfl|h2
    ·omega
    ·exact .inl h2
   ·grind
  ·rcases zzL37.1 h1 with rfl|h1z
   ·have hzu:=hf z u hu;rcases(a.seen u).1 (a.closed.1 u hu) with h2|h2
    ·rcases upd_true.1 h2 with rfl|h2
     ·omega
     ·exact .inl h2
    ·grind
   ·rcases ihb z h1z u hu with h2|⟨A,B,rfl,hA⟩
    ·rcases(a.seen u).1 h2 with h3|h3
     ·rcases upd_true.1 h3 with rfl|h3
      ·obtain⟨P,Q,rfl⟩:=List.append_of_mem h1z;exact .inr ⟨o1++u::P,Q,by simp,by simp⟩
      ·exact .inl h3
     ·obtain⟨P,Q,rfl⟩:=List.append_of_mem h1z;exact .inr ⟨o1++y::P,Q,by simp,by simp[h3]⟩
    ·grind
def cP(n:Nat)(s:Nat->Bool):Nat:=((List.range n).filter λz=>!s z).length
theorem CZ{n:Nat}{s:Nat->Bool}{y:Nat}(hy:y<n)(h:s y=false):cP n (upd s y)+1=cP n s:=by
 unfold cP
 induction n with
 | zero=>omega
 | succ n ih=>
  rw[W0,Wv,Wv,Fh,Fh]
  by_cases hyn:y=n
  ·subst hyn
   have e:(List.range y).filter (λz=>!upd s y z)=(List.range y).filter (λz=>!s z):=by
    apply List.filter_congr
    intro z hz;have:=zzL45.1 hz;simp[upd,show z≠y by omega]
   rw[e];simp[upd,h]
  ·have e:([n].filter λz=>!upd s y z).length=([n].filter λz=>!s z).length:=by
    simp only[List.filter_cons, upd];simp[Q4 hyn]
   omega
theorem cQ{n:Nat}{s s':Nat->Bool}(h:∀ z,s z=true->s' z=true):cP n s'<=cP n s:=by
 apply List.Sublist.length_le
 have:(List.range n).filter (λz=>!s' z)=((List.range n).filter λz=>!s z).filter λz=>!s' z:=by
  rw[List.filter_filter]
  apply List.filter_congr
  intro z _
  cases hs:s z with
  | false=>simp
  | true=>simp[h z hs]
 rw[this];exact List.filter_sublist
theorem VL.exist{n:Nat}(hS:∀ z,z<n->∀ y∈S z,y<n):∀(m:Nat) (s:Nat->Bool),cP n s<=m->∀ l:List Nat,(∀ y∈l,y<n)->∃ s' o,VL S s l s' o:=by
 intro m
 induction m with
 | zero=>
  intro s hm l
  induction l with
  | nil=>intro _;exact⟨s,[],.nil s⟩
  | cons y l ih=>
   intro hl;obtain⟨s',o,h⟩:=ih (λz hz=>hl z (N8 _ hz))
   cases hy:s y with
   | true=>exact⟨s',o,.skip hy h⟩
   | false=>have:=CZ (hl y (zzL53 ..)) hy;omega
 | succ m ih=>
  intro s hm l
  induction l generalizing s with
  | nil=>intro _;exact⟨s,[],.nil s⟩
  | cons y l ihl=>
   intro hl
   cases hy:s y with
   | true=>
    obtain⟨s',o,h⟩:=ihl s hm (λz hz=>hl z (N8 _ hz));exact⟨s',o,.skip hy h⟩
   | false=>
    have hyn:=hl y (zzL53 ..);have:=CZ hyn hy;obtain⟨s1,o1,h1⟩:=ih (upd s y) (by omega) _ (hS y hyn);have h2:cP n s1<=cP n s:=cQ λz hz=>(h1.seen z).2 (.inl (upd_true.2 (.inr hz)));obtain⟨s2,o2,h3⟩:=ihl s1 (by omega) (λz hz=>hl z (N8 _ hz));exact⟨s2,_,.step hy h1 h3⟩
def one(r:Nat):Nat->Bool:=λz=>decide (z=r)
def Ord(S:Nat->List Nat)(r:Nat)(L:List Nat):Prop:=∃ s' o,VL S (one r) (S r) s' o/\L=r::o.reverse
theorem Ord.exist{n:Nat}(hS:∀ z,z<n->∀ y∈S z,y<n){r:Nat}(hr:r<n):∃ L,Ord S r L:=by
 obtain⟨s',o,h⟩:=VL.exist hS _ _ (zzL6 _) _ (hS r hr);exact⟨_,s',o,h,rfl⟩
theorem Ord.mem{r:Nat}{L:List Nat}(h:Ord S r L)(z:Nat):z∈L↔Rch S r z:=by
 obtain⟨s',o,h,rfl⟩:=h
 have hs:∀ z,s' z=true↔z=r\/z∈o:=λz=>by rw[h.seen];simp[one]
 have hc:∀ x,s' x=true->∀ y∈S x,s' y=true:=λx hx y hy=>by
  rcases(hs x).1 hx with rfl|hx
  ·exact h.closed.1 y hy
  ·exact h.closed.2 x hx y hy
 simp only[zzL37,List.mem_reverse];rw[<- hs z]
 constructor
 ·intro hz;rcases(hs z).1 hz with rfl|hz
  ·exact .refl _
  ·obtain⟨y,hy,hr⟩:=h.rch hz;exact .head hy hr
 ·intro hr
  have key:∀ x z,Rch S x z->s' x=true->s' z=true:=by
   intro x z hxz
   induction hxz with
   | refl x=>exact id
   | head hy _ ih=>grind
  exact key r z hr ((hs r).2 (.inl rfl))
theorem Ord.nodup{r:Nat}{L:List Nat}(h:Ord S r L):L.Nodup:=by
 obtain⟨s',o,h,rfl⟩:=h;refine zzL113.2 ⟨λhr=>?_,(List.reverse_perm o).nodup_iff.2 h.nodup⟩;have:=h.fresh (List.mem_reverse.1 hr);simp[one]at this
theorem Ord.fwd{r:Nat}{L:List Nat}(h:Ord S r L)(hf:∀ z,∀ y∈S z,z<y):∀ z∈L,∀ y∈S z,∃ A B,L=A++z::B/\y∈B:=by
 obtain⟨s',o,h,rfl⟩:=h;intro z hz y hy;have hzy:=hf z y hy;rcases zzL37.1 hz with rfl|hz
 ·refine⟨[],o.reverse,rfl,?_⟩;rcases(h.seen y).1 (h.closed.1 y hy) with h1|h1
  ·simp[one]at h1;omega
  ·grind
 ·have hz:=List.mem_reverse.1 hz;have hrz :=h.above hf (λv hv=>hf r v hv) z hz;rcases h.ahead hf z hz y hy with h1|⟨A,B,rfl,hA⟩
  ·simp[one]at h1;omega
  ·grind
end
theorem lZ(l:List Int)(hl:l.length<4611686018427387904):Fu l=some l.reverse:=by
 unfold Fu
 by_cases h0:l.length=0
 ·obtain rfl:l=[]:=zzL93.1 h0
  have:Ac Bl ((0:Int),(w64 ((([]:List Int).length:Int)-1)),([]:List Int))=some []:=by
   apply Ak
   unfold Bl;rw[Hg (by simp) (by simp)]
   rfl
  rw[this];rfl
 ·have hw:w64 ((l.length:Int)-1)=((l.length-1:Nat):Int):=by rw[Hg (by omega) (by omega)];omega
  rw[hw]
  let C:Nat->List Int:=λk=>(List.range l.length).map λi=>if i<k\/l.length-1-k<i then l.getD (l.length-1-i) 0 else l.getD i 0
  have hC:∀ k i,i<l.length->(C k).getD i 0=if i<k\/l.length-1-k<i then l.getD (l.length-1-i) 0 else l.getD i 0:=λk i hi=>by simp only[C];rw[O8 hi]
  have hlen:∀ k,(C k).length=l.length:=λk=>by simp[C]
  have:=Em Bl (λk=>(((k:Nat):Int),((l.length-1-k:Nat):Int),C k)) l.reverse (l.length / 2) (λk hk=>?_) ?_
  ·have e0:C 0=l:=by
    apply CI (by simp[C])
    intro i h1 h2;have:=hC 0 i h2;rw[Ab _ _ _ h1,Ab _ _ _ h2]at this;rw[this,if_neg (by omega)]
   have this':Ac Bl ((0:Int),((l.length-1:Nat):Int),l)=some l.reverse:=by
    have h2:=this;simp only[e0]at h2;exact h2
   rw[this'];rfl
  ·show Bl (_,_,_)=_
   unfold Bl
   have hlt:k<l.length-1-k:=by omega
   simp only[B1 hlt,Ah,Am];rw[Ad (Fz (by rw[hlen];omega)),Ad (Fz (by rw[hlen];omega)),Ad (Fz (by rw[hlen];omega)),Ad (Fz (by rw[hlen];omega))];rw[w1 (by omega),show w64 (((l.length-1-k:Nat):Int)-1)=((l.length-1-(k+1):Nat):Int) by rw[Hg (by omega) (by omega)];omega]
   congr 4
   rw[hC k _ (by omega),hC k _ (by omega),if_neg (by omega),if_neg (by omega)];simp only[C];rw[BW,BW]
   apply Hp
   intro i hi
   by_cases h1:i=k
   ·subst h1;rw[if_neg (by omega),if_pos rfl,if_pos (by omega)]
   ·by_cases h2:i=l.length-1-k
    ·subst h2;rw[if_pos rfl,if_pos (by omega)]
     congr 1;omega
    ·rw[if_neg h2,if_neg h1]
     by_cases h3:i<k\/l.length-1-k<i
     ·rw[if_pos h3,if_pos (by omega)]
     ·rw[if_neg h3,if_neg (by omega)]
  ·show Bl (_,_,_)=_
   unfold Bl;have hd:decide (((l.length / 2:Nat):Int)<((l.length-1-l.length / 2:Nat):Int))=false:=Ce (by omega);simp only[hd,Ax]
   congr 2
   apply CI (by simp[C])
   intro i h1 h2
   have h3:i<l.length:=by simpa [C] using h1
   have:=hC (l.length / 2) i h3;rw[Ab _ _ _ h1]at this;rw[this,List.getElem_reverse]
   split
   ·rw[Ab _ _ _ (by omega)]
   ·rw[Ab _ _ _ h3]
    congr 1;omega
theorem top{st:List Int}{a:Int}(h:st.length<4611686018427387904):(st++[a]).getD (w64 (((st++[a]).length:Int)-1)).toNat 0=a:=by
 have:w64 ((st++[a]).length-1)=(st.length:Int):=by rw[Fh,ET,Hg (by omega) (by omega)];omega
 rw[this];simp[List.getD]
theorem ze{st:List Int}{a:Int}(h:st.length<4611686018427387904):w64 (((st++[a]).length:Int)-1)=((st.length:Nat):Int):=by
 rw[Fh,ET,Hg (by omega) (by omega)];omega
theorem rV{g:TGraph}{R:List Bool}{st T:List Int}{a:Nat}(hst:st.length<64)(ha:a<g.Succ.length)(h64:g.Succ.length<=64)(ht:T.getD a 0=((g.Succ.getD a []).length:Int)) :
  Jd g R (st++[(a:Int)]) T=some (.done (.inl T)):=by
 unfold Jd;simp only[top (st:=st)  (by omega),Am];rw[Ad (Fz (by omega)),Ad (Fz ha),ht,Da,Ax]
theorem ii{g:TGraph}{R:List Bool}{st T:List Int}{a t y:Nat}(hst:st.length<64)(ha:a<g.Succ.length)(h64:g.Succ.length<=64)(ht:T.getD a 0=(t:Int))(htl:t<(g.Succ.getD a []).length)(htm:t<64)
  (hy:(g.Succ.getD a []).getD t 0=(y:Int)) (hyn:y<g.Succ.length) :
  Jd g R (st++[(a:Int)]) T=bif R.getD y false then some (.next (P5 64 (0:Int) T a ((t+1:Nat):Int))) else some (.done (.inr (P5 64 false R y true,P5 64 (0:Int) T a ((t+1:Nat):Int),(st++[(a:Int)])++[(y:Int)]))):=by
 have hroom:1000<=room:=by decide
 unfold Jd;simp only[top (st:=st)  (by omega),Am,ht,hy];rw[Ad (Fz (by omega)),Ad (Fz ha),B1 htl, Ad (Fz ha),Ad (Fz (by omega)),Ad (Fz htl),Ad (Fz (by omega)),Ad (Fz (by omega)),Ad (Fz (by omega)),w1 (by omega)]
 cases R.getD y _ with
 | true=>rfl
 | false=>
  simp only[J2,Ah,Ax];rw[Ad (Fz (by omega)),Ad (by grind)]
theorem ig{g:TGraph}{R:List Bool}{st T Lf:List Int}{a:Nat}(hst:st.length<64)(hLf:Lf.length<64) :
  E3 g (R,T,st++[(a:Int)],Lf)=(Ac (Jd g R (st++[(a:Int)])) T).bind λx=>match x with
   | .inl T'=>if st=[] then some (.done (Lf++[(a:Int)]).reverse) else some (.next (R,T',st,Lf++[(a:Int)]))
   | .inr (R',T',st')=>some (.next (R',T',st',Lf)):=by
 have hroom:1000<=room:=by decide
 unfold E3;simp only
 have hb:A2 (w64 ((st++[(a:Int)]).length-1)) (st++[(a:Int)]).length:=by rw[ze (by omega)];exact Fz (by simp)
 rw[Ad hb]
 congr 1
 funext x
 cases x with
 | inr y =>  rfl
 | inl T'=>
  simp only[top (st:=st)  (by omega)];rw[ze (by omega),Am,Ad (by grind),Ad ⟨by omega,by simp⟩];have e:(st++[(a:Int)]).take _=st:=List.take_left' rfl;rw[e]
  cases st with
  | nil=>
   rw[if_pos rfl]
   have:decide (0<(([]:List Int).length:Int))=false:=by decide
   rw[this,Ax,lZ _ (by simp;omega)];simp only[An];rw[Ad (by simp)]
  | cons b st'=>
   simp_all
theorem f7{S X:Type}{f:S->Option (LR S X)}{a b:S}(h:f a=f b):Ac f a=Ac f b:=by
 cases hb:f b with
 | none=>rw[Xr (h.trans hb),Xr hb]
 | some r=>cases r with
  | done x=>rw[Ak (h.trans hb),Ak hb]
  | next s=>rw[Ap (h.trans hb),Ap hb]
theorem MH{S X:Type}{f:S->Option (LR S X)}{s:S}:Ru (f s) f=Ac f s:=by
 cases hb:f s with
 | none=>rw[Xr hb];rfl
 | some r=>cases r with
  | done x=>rw[Ak hb];rfl
  | next s'=>rw[Ap hb];rfl
def sN(L:List (List Int))(k:Nat):List Nat:=(L.getD k []).map Int.toNat
def RelS(R:List Bool)(s:Nat->Bool):Prop:=∀ z,z<64->R.getD z false=s z
theorem Tg{α:Type}{d:α}{l:List α}{i:Nat}{x:α}{k:Nat}(hk:k<64):(P5 64 d l i x).getD k d=if k=i then x else l.getD k d:=by
 rw[XZ hk]
 by_cases h:k=i
 · simp
 ·have:Nat.beq k i=false:=by cases hb:Nat.beq k i with|false=>rfl|true=>simp_all
  rw[this,if_neg h];rfl
theorem RelS.set{R:List Bool}{s:Nat->Bool}(h:RelS R s){y:Nat}:RelS (P5 64 false R y true) (upd s y):=λz hz=>by
 rw[Tg hz,h z hz]
 by_cases hzy:z=y
 ·simp[upd]
 ·simp[upd]
def V1(o:List Nat):List Int:=o.map Int.ofNat
theorem gb{g:TGraph}(hm:Mo g.Succ=true){s s':Nat->Bool}{l o:List Nat}(hv:VL (sN g.Succ) s l s' o) :
  ∀(R:List Bool) (T st Lf:List Int) (a t:Nat),RelS R s->a<g.Succ.length->l=(sN g.Succ a).drop t->T.getD a 0=(t:Int)->t<=(sN g.Succ a).length->s a=true->(∀ z,z<64->s z=false->T.getD z 0=0)->
   Lf.length+cP 64 s+st.length+1<=64->
   ∃(R':List Bool) (T':List Int),RelS R' s'/\(∀ z,z<64->s' z=false->T'.getD z 0=0)/\(∀ z,z<64->s z=true->z≠a->T'.getD z 0=T.getD z 0)/\Lf.length+o.length+cP 64 s'+st.length+1<=64 /\
    Ac (E3 g) (R,T,st++[(a:Int)],Lf)=if st=[] then some (Lf++V1 o++[(a:Int)]).reverse else Ac (E3 g) (R',T',st,Lf++V1 o++[(a:Int)]):=by
 obtain⟨hL1,hL64,hLok⟩:=mayS_iff.1 hm
 have hlenS:∀ a,(sN g.Succ a).length=(g.Succ.getD a []).length:=λa=>by simp[sN]
 have hdrop:∀(a t y:Nat) (l':List Nat),a<g.Succ.length->y::l'=(sN g.Succ a).drop t->t<(g.Succ.getD a []).length/\(g.Succ.getD a []).getD t 0=(y:Int)/\y<g.Succ.length/\l'=(sN g.Succ a).drop (t+1):=λa t y l' ha he=>by
  have ht:t<(sN g.Succ a).length:=by
   rcases zzL126 t (sN g.Succ a).length with h|h
   ·exact h
   ·rw[List.drop_eq_nil_of_le h]at he;cases he
  rw[SN ht]at he;simp only[Dt]at he;obtain⟨h1,h2⟩:=he
  have ht':t<(g.Succ.getD a []).length:=by rw[<- hlenS];exact ht
  obtain⟨b0,b1⟩:=AZ (hLok a ha) ht'
  have h3:(sN g.Succ a)[t]=((g.Succ.getD a []).getD t 0).toNat:=by rw[Ab _ _ _ ht'];simp[sN]
  exact⟨ht',by omega,by omega,h2⟩
 induction hv with
 | nil s=>
  intro R T st Lf a t hR ha hl hT htl hsa hz hc
  have ht:t=(g.Succ.getD a []).length:=by
   have:=Bk List.length hl;simp at this;rw[hlenS]at htl this;omega
  refine⟨R,T,hR,hz,λ_ _ _ _=>rfl,by simpa using hc,?_⟩
  have hF:E3 g (R,T,st++[(a:Int)],Lf)=if st=[] then some (.done (Lf++[(a:Int)]).reverse) else some (.next (R,T,st,Lf++[(a:Int)])):=by
   rw[ig (by omega) (by omega),Ak (rV (by omega) ha hL64 (by rw[hT,ht]))]
   rfl
  by_cases hst:st=[]
  ·rw[if_pos hst]at hF ⊢;rw[Ak hF];simp[V1]
  ·rw[if_neg hst]at hF ⊢;rw[Ap hF];simp[V1]
 | @skip s s' y l o h tl ih=>
  intro R T st Lf a t hR ha hl hT htl hsa hz hc;obtain⟨h1,h2,h3,h4⟩:=hdrop a t y l ha hl;have hb:=DN (hLok a ha);have hs:=ii (g:=g) (R:=R) (st:=st) (T:=T) (a:=a) (t:=t) (y:=y) (by omega) ha hL64 hT h1 (by omega) h2 h3;rw[hR y (by omega),h,Ah]at hs;obtain⟨R',T',a1,a2,a3,a4,a5⟩:=ih R (P5 64 (0:Int) T a ((t+1:Nat):Int)) st Lf a (t+1) hR ha h4 (by rw[Tg (by omega),if_pos rfl]) (by rw[hlenS];omega) hsa
   (λz hz1 hz2=>by rw[Tg hz1,if_neg (by rintro rfl;rw[hsa]at hz2;cases hz2)];exact hz z hz1 hz2) hc
  refine⟨R',T',a1,a2,λz hz1 hz2 hz3=>by rw[a3 z hz1 hz2 hz3,Tg hz1,if_neg hz3],a4,?_⟩;rw[<- a5]
  apply f7
  rw[ig (by omega) (by omega),ig (by omega) (by omega),Ap hs]
 | @step s s1 s2 y l o1 o2 h tl tr ih1 ih2=>
  intro R T st Lf a t hR ha hl hT htl hsa hz hc;obtain⟨h1,h2,h3,h4⟩:=hdrop a t y l ha hl;have hb:=DN (hLok a ha)
  have hay:y≠a:=by rintro rfl;rw[hsa]at h;cases h
  have hs:=ii (g:=g) (R:=R) (st:=st) (T:=T) (a:=a) (t:=t) (y:=y) (by omega) ha hL64 hT h1 (by omega) h2 h3;rw[hR y (by omega),h,Ax]at hs;have hcu:=CZ (n:=64) (show y<64 by omega) h
  have hF:E3 g (R,T,st++[(a:Int)],Lf)=some (.next (P5 64 false R y true,P5 64 (0:Int) T a ((t+1:Nat):Int),(st++[(a:Int)])++[(y:Int)],Lf)):=by
   rw[ig (by omega) (by omega),Ak hs]
   rfl
  obtain⟨R1,T1,b1,b2,b3,b4,b5⟩:=ih1 (P5 64 false R y true) (P5 64 (0:Int) T a ((t+1:Nat):Int)) (st++[(a:Int)]) Lf y 0 hR.set h3 (by simp)
   (by rw[Tg (by omega),if_neg hay];exact hz y (by omega) h) (P1 _) (upd_true.2 (.inl rfl))
   (λz hz1 hz2=>by
    obtain⟨c1,c2⟩:=upd_false.1 hz2;rw[Tg hz1,if_neg (by rintro rfl;rw[hsa]at c2;cases c2)]
    exact hz z hz1 c2) (by rw[Fh,ET];omega)
  rw[if_neg (by simp)]at b5
  have hTa:T1.getD a 0=((t+1:Nat):Int):=by rw[b3 a (by omega) (upd_true.2 (.inr hsa)) (Q4 hay),Tg (by omega),if_pos rfl]
  rw[Fh,ET]at b4;obtain⟨R2,T2,c1,c2,c3,c4,c5⟩:=ih2 R1 T1 st (Lf++V1 o1++[(y:Int)]) a (t+1) b1 ha h4 hTa (by rw[hlenS];omega) ((tl.seen a).2 (.inl (upd_true.2 (.inr hsa)))) b2
   (by simp only[Fh,ET,V1,Dz];omega)
  refine⟨R2,T2,c1,c2,λz hz1 hz2 hz3=>?_,?_,?_⟩
  ·rw[c3 z hz1 ((tl.seen z).2 (.inl (upd_true.2 (.inr hz2)))) hz3,b3 z hz1 (upd_true.2 (.inr hz2)) (by rintro rfl;rw[h]at hz2;cases hz2),Tg hz1,if_neg hz3]
  ·simp only[Fh,ET,V1,Dz,EX]at c4 ⊢;omega
  ·rw[Ap hF,b5,c5]
   have e:Lf++V1 o1++[(y:Int)]++V1 o2++[(a:Int)]=Lf++V1 (o1++y::o2)++[(a:Int)]:=by simp[V1]
   rw[e]
theorem Wn{L:List (List Int)}(h:Mo L=true):∀ z,z<L.length->∀ y∈sN L z,y<L.length:=λz hz y hy=>by
 obtain⟨_,_,h3⟩:=mayS_iff.1 h;obtain⟨x,hx,rfl⟩:=zzL21.1 hy;have:=am (h3 z hz) hx;omega
theorem ss{r:Nat}(hr:r<64):cP 64 (one r)=63:=by
 have h:=CZ  (s:=λ_=>false) hr rfl
 have e:upd (λ_=>false) r=one r:=by funext z;simp[upd,one]
 rw[e]at h
 have:cP 64 (λ_=>false)=64:=by decide
 omega
theorem IC{α:Type}{n z:Nat}{d:α}:(List.replicate n d).getD z d=d:=by grind
theorem ae(g:TGraph)(h:Fits g.Succ)(hP:True)(r:Int) :
  (DZ g=true->0<=r->r<(g.Succ.length:Int)->∀ L,Ord (sN g.Succ) r.toNat L->K9 g r=some (V1 L)) /\
  ((DZ g&&(decide (0<=r)&&decide (r<(g.Succ.length:Int))))=false->K9 g r=some []):=by
 refine⟨λhm h0 h1 L hL=>?_,λhf=>?_⟩
 ·have hms:Mo g.Succ=true:=by unfold DZ at hm;exact(A6 _ _▸hm).1
  obtain⟨hL1,hL64,hLok⟩:=mayS_iff.1 hms;obtain⟨s',o,hv,rfl⟩:=hL;have hrn :=Y5 h0
  have hr:r.toNat<g.Succ.length:=by omega
  obtain⟨R',T',_,_,_,_,hmain⟩:=gb hms hv (P5 64 false (List.replicate 64 false) r.toNat true) _ [] [] r.toNat 0
   (λz hz=>by rw[Tg hz,IC];by_cases hzr:z=r.toNat<;>simp[one,hzr]) hr (by simp) IC (P1 _) (by simp[one])
   (λz hz _=>IC) (by rw[ss (by omega)];simp)
  rw[if_pos rfl,hrn]at hmain;unfold K9;rw[u4 _ h,hm,An];simp only[Ds,Vc,Ah,Ax,Wa,Co h0,Co h1,Bool.and_self,An];rw[Ad ⟨h0,by omega⟩];have hF:∀ X,Ac (E3 g) (P5 64 false (List.replicate 64 false) r.toNat true,List.replicate 64 (0:Int),[]++[r],[])=some X->
    (Ru _ (E3 g)).bind (λx=>some x)=some X:=λX hX=>by
   rw[MH];rw[hX];rfl
  refine(hF _ hmain).trans ?_;simp only[Y8,List.reverse_append,V1,Cu,List.map_reverse,List.reverse_cons,List.reverse_nil]
  simp
  omega
 ·unfold K9;rw[u4 _ h,An]
  cases hm:DZ g with
  | false=>rfl
  | true=>
   rw[hm,Ld]at hf;simp only[Ds,Vc,Ah,Ax,Wa,hf,An,J2]
   rfl
def RelN(n:Nat)(R:List Bool)(s:Nat->Bool):Prop:=R.length=n/\∀ z,z<n->R.getD z false=s z
theorem RelN.set{n:Nat}{R:List Bool}{s:Nat->Bool}(h:RelN n R s){y:Nat}(hy:y<n):RelN n (R.set y true) (upd s y):=by
 refine⟨by rw[Dd];exact h.1,λz hz=>?_⟩;rw[Wu,List.getElem?_set]
 by_cases hzy:y=z
 ·subst hzy;simp[upd,h.1,hy]
 ·rw[if_neg hzy,<- Wu,h.2 z hz];simp[upd,Q4 hzy]
theorem Tl:∀(n:Nat) (l:List Nat),l.Nodup->(∀ x∈l,x<n)->l.length<=n
 | 0,l,_,h=>by
  cases l with
  | nil=>simp
  | cons x l=>have:=h x (zzL53 ..);omega
 | n+1,l,hd,h=>by
  by_cases hn:n∈l
  ·have h1:=Tl n _ (hd.erase n) λx hx=>by
    grind
   rw[List.length_erase_of_mem hn]at h1;omega
  ·have h1:=Tl n l hd λx hx=>by
    grind
   omega
theorem FQ:∀{a b:List Int},a.Pairwise (·<·)->b.Pairwise (·<·)->(∀ x,x∈a↔x∈b)->a=b
 | [],[],_,_,_=>rfl
 | [],y::b,_,_,h=>by have:=(h y).2 (zzL53 ..);cases this
 | x::a,[],_,_,h=>by have:=(h x).1 (zzL53 ..);cases this
 | x::a,y::b,ha,hb,h=>by
  have ha':=zzL75.1 ha;have hb':=zzL75.1 hb
  have hxy:x=y:=by
   rcases zzL37.1 ((h x).1 (zzL53 ..)) with h1|h1
   ·exact h1
   ·rcases zzL37.1 ((h y).2 (zzL53 ..)) with h2|h2
    ·exact h2.symm
    ·grind
  congr 1
  refine FQ ha'.2 hb'.2 λz=>⟨λhz=>?_,λhz=>?_⟩
  ·grind
  ·grind
theorem LK(p:Nat->Bool)(n:Nat):(((List.range n).filter p).map Int.ofNat).Pairwise (·<·):=by
 rw[List.pairwise_map];have:=(List.pairwise_lt_range (n:=n)).filter p
 exact this.imp λh=>by simpa using h
theorem dL{p:Nat->Bool}{n:Nat}{x:Int}:x∈((List.range n).filter p).map Int.ofNat↔∃ k:Nat,x=(k:Int)/\k<n/\p k=true:=by
 grind
theorem o6{L:List (List Int)}{k i:Nat}:Yu L k i=true↔(i:Int)∈L.getD k []:=by unfold Yu;rw[zzL64]
theorem oF{b:Bool}{α:Type}{x:α}:(bif b then x else x)=x:=by cases b<;>rfl
theorem wz{L:List (List Int)}(h:Mo L=true){x y:Nat}(hx:x<L.length):y∈sN L x↔(y:Int)∈L.getD x []:=by
 obtain⟨_,_,h3⟩:=mayS_iff.1 h;unfold sN;rw[zzL21]
 constructor
 ·rintro⟨z,hz,rfl⟩;have:=am (h3 x hx) hz;rw[Y5 this.1];exact hz
 ·grind
def mk(o:List Bool)(l:List Nat):List Bool:=l.foldl (λo y=>o.set y true) o
theorem gH(l:List Nat):∀ o:List Bool,(mk o l).length=o.length:=by
 induction l with
 | nil=>intro o;rfl
 | cons y l ih=>intro o;show(mk _ l).length=_;rw[ih,Dd]
theorem mk_at{n:Nat}(l:List Nat):∀(o:List Bool),o.length=n->(∀ y∈l,y<n)->∀ z,(mk o l).getD z false=true↔o.getD z false=true\/z∈l:=by
 induction l with
 | nil =>  simp[mk]
 | cons y l ih=>
  intro o ho hl z
  show(mk _ l).getD z _=true↔_
  rw[ih _ (by grind) (λu hu=>hl u (N8 _ hu)) z]
  have e:(o.set y true).getD z false=true↔o.getD z false=true\/z=y:=by
   grind
  rw[e,zzL37]
  constructor
  ·grind
  ·rintro(h|h|h)
   ·exact .inl (.inl h)
   ·exact .inl (.inr h)
   ·exact .inr h
def sw(S:Nat->List Nat)(o:List Bool):Nat->List Bool
 | 0=>o
 | i+1=>if(sw S o i).getD i false=true then mk (sw S o i) (S i) else sw S o i
def HY(S:Nat->List Nat)(n:Nat)(o:List Bool):Nat->List Bool
 | 0=>o
 | j+1=>sw S (HY S n o j) n
section
variable {S:Nat->List Nat} {n:Nat} (hS:∀ z,z<n->∀ y∈S z,y<n)
theorem sw_len(o:List Bool):∀ i,(sw S o i).length=o.length:=by
 intro i
 induction i with
 | zero=>rfl
 | succ i ih=>unfold sw;split;rw[gH,ih];exact ih
theorem Yd(o:List Bool):∀ j,(HY S n o j).length=o.length:=by
 intro j
 induction j with
 | zero=>rfl
 | succ j ih=>unfold HY;rw[sw_len,ih]
include hS
theorem OM{o:List Bool}(ho:o.length=n):∀ i,i<=n->∀ z,o.getD z false=true->(sw S o i).getD z false=true:=by
 intro i
 induction i with
 | zero=>intro _ z h;exact h
 | succ i ih=>
  intro hi z h;unfold sw
  split
  ·exact(mk_at  _ _ (by rw[sw_len];exact ho) (hS i (by omega)) z).2 (.inl (ih (by omega) z h))
  ·exact ih (by omega) z h
theorem qL{o:List Bool}{r:Nat}(ho:o.length=n)(h:∀ z,o.getD z false=true->Rch S r z):∀ i,i<=n->∀ z,(sw S o i).getD z false=true->Rch S r z:=by
 intro i
 induction i with
 | zero=>intro _ z hz;exact h z hz
 | succ i ih=>
  intro hi z hz;unfold sw at hz
  split at hz
  ·rename_i hsi
   rcases(mk_at  _ _ (by rw[sw_len];exact ho) (hS i (by omega)) z).1 hz with h1|h1
   ·exact ih (by omega) z h1
   ·exact(ih (by omega) i hsi).tail h1
  ·exact ih (by omega) z hz
theorem uL{o:List Bool}(ho:o.length=n):∀ i,i<=n->∀ j,j<i->o.getD j false=true->∀ y∈S j,(sw S o i).getD y false=true:=by
 intro i
 induction i with
 | zero =>  omega
 | succ i ih=>
  intro hi j hj hoj y hy;unfold sw
  by_cases hji:j=i
  ·subst hji;have h1:=OM hS ho j (by omega) j hoj;rw[if_pos h1];exact(mk_at  _ _ (by rw[sw_len];exact ho) (hS j (by omega)) y).2 (.inr hy)
  ·have h1:=ih (by omega) j (by omega) hoj y hy
   split
   ·exact(mk_at  _ _ (by rw[sw_len];exact ho) (hS i (by omega)) y).2 (.inl h1)
   ·exact h1
theorem mL{o:List Bool}(ho:o.length=n)(hc:∀ j,j<n->o.getD j false=true->∀ y∈S j,o.getD y false=true):∀ i,i<=n->∀ z,(sw S o i).getD z false=true->o.getD z false=true:=by
 intro i
 induction i with
 | zero=>intro _ z h;exact h
 | succ i ih=>
  intro hi z hz;unfold sw at hz
  split at hz
  ·rcases(mk_at  _ _ (by rw[sw_len];exact ho) (hS i (by omega)) z).1 hz with h1|h1
   ·exact ih (by omega) z h1
   ·grind
  ·exact ih (by omega) z hz
theorem BO{r:Nat}(hr:r<n)(z:Nat):(HY S n ((List.replicate n false).set r true) n).getD z false=true↔Rch S r z:=by
 let o0:=(List.replicate n false).set r true
 have ho0:o0.length=n:=by simp[o0]
 have hat0:∀ z,o0.getD z false=true↔z=r:=λz=>by
  grind
 have hlen:∀ j,(HY S n o0 j).length=n:=λj=>by rw[Yd,ho0]
 have hsound:∀ j z,(HY S n o0 j).getD z false=true->Rch S r z:=by
  intro j
  induction j with
  | zero=>intro z hz;rw[(hat0 z).1 hz];exact .refl _
  | succ j ih=>intro z hz;exact qL hS (hlen j) ih n (zzL6 _) z hz
 have hmono:∀ j,∀ z,o0.getD z false=true->(HY S n o0 j).getD z false=true:=by
  intro j
  induction j with
  | zero=>intro z h;exact h
  | succ j ih=>intro z h;exact OM hS (hlen j) n (zzL6 _) z (ih z h)
 let C:Nat->Prop:=λj=>∀ i,i<n->(HY S n o0 j).getD i false=true->∀ y∈S i,(HY S n o0 j).getD y false=true
 have key:∀ j,C j\/cP n (λz=>(HY S n o0 j).getD z false)+j+1<=n:=by
  intro j
  induction j with
  | zero=>
   refine .inr ?_;have h1:=CZ (n:=n) (s:=λ_=>false) hr rfl
   have e:upd (λ_=>false) r=λz=>(HY S n o0 0).getD z false:=by
    funext z
    rw[Y7,upd_true]
    show _↔o0.getD z false=true
    rw[hat0]
    simp
   rw[e]at h1
   have hcl:cP n (λ_=>false)=n:=by
    unfold cP;rw[List.filter_eq_self.2 (by simp)]
    simp
   omega
  | succ j ih=>
   by_cases hc:C j
   ·refine .inl λi hi h y hy=>?_;have h1:=mL hS (hlen j) hc n (zzL6 _) i h;exact OM hS (hlen j) n (zzL6 _) y (hc i hi h1 y hy)
   ·rcases ih with ih|ih
    ·exact(hc ih).elim
    ·refine .inr ?_
     have hex:∃ i,i<n/\(HY S n o0 j).getD i false=true/\∃ y,y∈S i/\(HY S n o0 j).getD y false=false:=by
      grind
     obtain⟨i,hi,h1,y,hy,h2⟩:=hex;have h3:=uL hS (hlen j) n (zzL6 _) i hi h1 y hy;have hyn:=hS i hi y hy;have h4:=CZ (n:=n) (s:=λz=>(HY S n o0 j).getD z false) hyn h2
     have h5:cP n (λz=>(HY S n o0 (j+1)).getD z false)<=cP n (upd (λz=>(HY S n o0 j).getD z false) y):=cQ λz hz=>by
      rcases upd_true.1 hz with rfl|hz
      ·exact h3
      ·exact OM hS (hlen j) n (zzL6 _) z hz
     omega
 constructor
 ·exact hsound n z
 ·intro hrch
  have hlt:∀ x z,Rch S x z->x<n->z<n/\((HY S n o0 n).getD x false=true->(HY S n o0 n).getD z false=true):=by
   intro x z hxz
   induction hxz with
   | refl x=>exact λhx=>⟨hx,id⟩
   | @head x y z hy _ ih=>
    grind
  exact(hlt r z hrch hr).2 (hmono n r ((hat0 r).2 rfl))
end
theorem tO{L:List (List Int)}(hm:Mo L=true){r:Nat}(hr:r<L.length) :
  Dc (Kd L) (r:Int) (-1:Int)=some (HY (sN L) L.length ((List.replicate L.length false).set r true) L.length):=by
 obtain⟨h1,h2,h3⟩:=mayS_iff.1 hm
 have hroom:(1000:Nat)<=room:=by decide
 have hS:=Wn hm;have hgs:(Kd L).Succ=L:=rfl
 have hlenS:∀ a,(sN L a).length=(L.getD a []).length:=λa=>by simp[sN]
 have hin:∀(o:List Bool) (i:Nat),o.length=L.length->i<L.length->Ac (A3 (Kd L) (-1) (i:Int)) ((0:Int),o)=some (if o.getD i false=true then mk o (sN L i) else o):=λo i ho hi=>by
  have hb:=DN (h3 i hi)
  by_cases hoi:o.getD i false=true
  ·rw[if_pos hoi];have hmi:∀ k,(mk o ((sN L i).take k)).getD i false=true:=λk=>(mk_at (n:=L.length) _ _ ho (λy hy=>hS i hi y (List.mem_of_mem_take hy)) i).2 (.inl hoi)
   have hml:∀ k,(mk o ((sN L i).take k)).length=L.length:=λk=>by rw[gH,ho]
   refine Em (A3 (Kd L) (-1) (i:Int)) (λk=>(((k:Nat):Int),mk o ((sN L i).take k))) _ (L.getD i []).length (λk hk=>?_) ?_
   ·unfold A3;obtain⟨a0,a1⟩:=AZ (h3 i hi) hk;simp only[hgs,Am,hmi];rw[Ad (Fz (by rw[hml];exact hi)),M4 (Fz hi),Ah,B1 hk,Ah,Ad (Fz hi),Ad (Fz hk)]
    have hne:((L.getD i []).getD k 0 !=(-1:Int))=true:=by rw[zzL100];omega
    rw[hne,Ah,Ad (Fz hi),Ad (Fz hk),Ad ⟨a0,by rw[hml];exact a1⟩,w1 (by omega)]
    have e:mk o ((sN L i).take (k+1))=(mk o ((sN L i).take k)).set ((L.getD i []).getD k 0).toNat true:=by
     have hk':k<(sN L i).length:=by rw[hlenS];exact hk
     rw[bO hk'];unfold mk;rw[List.foldl_append]
     have:(sN L i)[k]=((L.getD i []).getD k 0).toNat:=by rw[Ab _ _ _ hk];simp[sN]
     rw[this]
     rfl
    rw[e]
    rfl
   ·unfold A3;simp only[hgs,Am,hmi];rw[Ad (Fz (by rw[hml];exact hi)),M4 (Fz hi),Ah,Da,Ax]
    have:(sN L i).take (L.getD i []).length=sN L i:=by rw[<- hlenS];exact Wx ..
    rw[this]
  ·have hof:o.getD i false=false:=by simpa using hoi
   rw[if_neg hoi]
   apply Ak
   unfold A3;simp only[hgs,Am,hof];rw[Ad (Fz (by rw[ho];exact hi)),M4 (Fz hi),Ax,Ax]
 have hsw:∀ o:List Bool,o.length=L.length->Ac (A4 (Kd L) (-1)) ((0:Int),o)=some (sw (sN L) o L.length):=λo ho=>by
  refine Em (A4 (Kd L) (-1)) (λi=>(((i:Nat):Int),sw (sN L) o i)) _ L.length (λi hi=>?_) ?_
  ·show A4 (Kd L) (-1) (_,_)=_
   unfold A4
   have hl:(sw (sN L) o i).length=L.length:=by rw[sw_len,ho]
   simp only[hl,B1 hi,Ah];rw[hin _ i hl hi,w1 (by omega)]
   rfl
  ·show A4 (Kd L) (-1) (_,_)=_
   unfold A4
   have hl:(sw (sN L) o L.length).length=L.length:=by rw[sw_len,ho]
   simp only[hl,Da,Ax]
 unfold Dc;simp only[hgs,Am];rw[Ad ⟨by omega,Int.le_refl _,by omega⟩]
 have hne:((r:Int)==(-1:Int))=false:=by rw[zzL30];omega
 rw[hne,Ax,Ad (Fz (by simpa using hr))]
 have hl0:((List.replicate L.length false).set r true).length=L.length:=by simp
 have:Ac (A5 (Kd L) (-1)) ((0:Int),(List.replicate L.length false).set r true)=some (HY (sN L) L.length ((List.replicate L.length false).set r true) L.length):=by
  refine Em (A5 (Kd L) (-1)) (λj=>(((j:Nat):Int),HY (sN L) L.length ((List.replicate L.length false).set r true) j)) _ L.length (λj hj=>?_) ?_
  ·show A5 (Kd L) (-1) (_,_)=_
   unfold A5
   have hl:(HY (sN L) L.length ((List.replicate L.length false).set r true) j).length=L.length:=by rw[Yd,hl0]
   simp only[hl,B1 hj,Ah];rw[hsw _ hl,w1 (by omega)]
   rfl
  ·show A5 (Kd L) (-1) (_,_)=_
   unfold A5
   have hl:(HY (sN L) L.length ((List.replicate L.length false).set r true) L.length).length=L.length:=by rw[Yd,hl0]
   simp only[hl,Da,Ax]
 rw[this]
 rfl
def pos:List Nat->Nat->Nat
 | [],_=>0
 | x::l,z=>if x=z then 0 else pos l z+1
theorem RM(x:Nat)(l:List Nat)(z:Nat):pos (x::l) z=if x=z then 0 else pos l z+1:=rfl
theorem tv{A l:List Nat}{z:Nat}(h:z∉A):pos (A++l) z=A.length+pos l z:=by
 induction A with
 | nil=>simp
 | cons x A ih=>
  have h1:x≠z:=λe=>h (by grind);have h2 :=λe=>h (N8 _ e);rw[CF,RM,if_neg h1,ih h2,EX];omega
theorem OK{P:List Nat}(hd:P.Nodup){i:Nat}(hi:i<P.length):P[i]∉P.take i/\pos P P[i]=i:=by
 have e:P=P.take i++P[i]::P.drop (i+1):=by simp_all
 have hn:P[i]∉P.take i:=by
  grind
 refine⟨hn,?_⟩
 have h2:pos (P.take i++P[i]::P.drop (i+1)) P[i]=i:=by
  rw[tv hn]
  have:pos (P[i]::P.drop (i+1)) P[i]=0:=by rw[RM,if_pos rfl]
  rw[ Ww];omega
 rw[<- e]at h2;exact h2
theorem nj{n:Nat}{p:Nat->Bool}:(List.range (n+1)).all p=((List.range n).all p&&p n):=by
 grind
theorem cS(d:Array Int)(hs:∀ i j,i<=j->j<d.size->d[i]!<=d[j]!):∀ m,m<=d.size->(∀ x∈Lib.compactUpTo d m,∃ j,j<m/\x=d[j]!)/\(∀ j,j<m->d[j]!∈Lib.compactUpTo d m)/\(Lib.compactUpTo d m).Pairwise (·<·):=by
 intro m
 induction m with
 | zero=>intro _;exact⟨(λx hx=>by simp[Lib.compactUpTo]at hx),(λj hj=>by omega),by simp[Lib.compactUpTo]⟩
 | succ m ih=>
  intro hm;obtain⟨h1,h2,h3⟩:=ih (by omega);rw[Lib.compactUpTo_succ]
  cases hk:Lib.keeps d m with
  | true=>
   rw[if_pos rfl];refine⟨λx hx=>?_,λj hj=>?_,?_⟩
   ·grind
   ·grind
   ·rw[zzL128];refine⟨h3,List.pairwise_singleton _ _,λx hx y hy=>?_⟩;obtain⟨j,hj,rfl⟩:=h1 x hx
    have hy':y=d[m]!:=by simpa using hy
    subst hy'
    have hk':m=0\/d[m]!≠d[m-1]!:=by simpa [Lib.keeps] using hk
    rcases hk' with h0|h0
    ·omega
    ·have a1:=hs j (m-1) (by omega) (by omega);have a2:=hs (m-1) m (by omega) (by omega);omega
  | false=>
   have hk':m≠0/\d[m]! = d[m-1]!:=by
    have:¬ (m=0\/d[m]!≠d[m-1]!):=by
     intro h
     have:Lib.keeps d m=true:=by simpa [Lib.keeps] using h
     rw[hk]at this;cases this
    exact⟨λh=>this (.inl h),Classical.not_not.1 λh=>this (.inr h)⟩
   simp only[FT,Iw,List.append_nil];refine⟨λx hx=>by grind,λj hj=>?_,h3⟩
   by_cases hjm:j=m
   ·subst hjm;rw[hk'.2];exact h2 _ (by omega)
   ·exact h2 j (by omega)
def BQ(l:List Int):List Int:=Lib.compact (l.mergeSort λx y=>decide (x<=y))
theorem KC(l:List Int):(BQ l).Pairwise (·<·)/\∀ x,x∈BQ l↔x∈l:=by
 unfold BQ Lib.compact;have hp:(l.mergeSort _).Pairwise (λa b=>decide (a<=b)=true):=List.pairwise_mergeSort (λa b c h1 h2=>by simp at *;omega) (λa b=>by simp;omega) l;have hm:∀ x,x∈(l.mergeSort λx y=>decide (x<=y))↔x∈l:=λx=>List.mem_mergeSort
 generalize l.mergeSort _=z at hp hm ⊢
 have hz:∀ j,j<z.length->z.toArray[j]! = z.getD j 0:=λj hj=>by simp[ hj]
 obtain⟨h1,h2,h3⟩:=cS z.toArray (λi j hij hj=>by
  have hj' :=by simpa using hj
  rw[hz i (by omega),hz j hj']
  by_cases he:i=j
  ·grind
  ·have:=(zzL91.1 hp) i j (by omega) hj' (by omega);rw[Ab _ _ _ _,Ab _ _ _ hj']
   simpa using this) z.length (by simp)
 refine⟨h3,λx=>?_⟩;rw[<- hm x]
 constructor
 ·grind
 ·intro hx;obtain⟨j,hj,rfl⟩:=G7 hx;have:=h2 j hj;rwa[hz j hj,Ab _ _ _ hj]at this
def rR(n:Nat)(l:List Int):Bool:=(List.range l.length).all λi=>decide (0<l.getD i 0)&&decide (l.getD i 0<(n:Int))
def CB(k:Int):Int:=([0,1,2,0]:List Int).getD k.toNat 0
def Yv(e:J9):Bool:=(decide (0<=e.Kind)&&decide (e.Kind<=3))&&decide ((e.To.length:Int)=CB e.Kind)
def Kb(e:J9)(n:Nat):Bool:=Yv e&&rR n e.To
theorem toB_iff{n:Nat}{l:List Int}:rR n l=true↔∀ x∈l,0<x/\x<n:=by
 unfold rR;rw[all_range];simp only[A6,Gr]
 constructor
 ·intro h x hx;obtain⟨i,hi,rfl⟩:=G7 hx;have:=h i hi;rwa[Ab _ _ _ hi]at this
 ·simp_all
theorem ol(e:J9)(n:Nat)(hl:e.To.length<4611686018427387904):Ac (F1 e (n:Int)) (0:Int)=some (bif rR n e.To then .inl () else .inr false):=by
 have step:∀ j ,j<e.To.length->F1 e n j=bif (decide (0<e.To.getD j 0)&&decide (e.To.getD j 0<n)) then some (.next ((j+1:Int))) else some _:=λj hj=>by
  unfold F1;simp only[Am,B1 hj, Wa,w1 (show j<4611686018427387904 by omega)];rw[Ad (Fz hj)]
  by_cases h0:e.To.getD j 0=0
  ·rw[h0];rfl
  ·grind
 have:=H7 (F1 e n) (λj=>(j:Nat)) (λi=>decide (0<e.To.getD i 0)&&decide (e.To.getD i 0<n)) (.inl ()) (.inr false) e.To.length (λj hj hp=>?_) (λj hj hp=>?_) ?_
 ·exact this
 ·grind
 ·rw[step j hj,hp];rfl
 ·unfold F1;simp only[Da,Ax]
theorem HB(e:J9)(n:Nat)(w:Int)(hw:0<=w/\w<=2) :
  (bif ((e.To.length:Int)!=w) then(some false) else((Ac (F1 e (n:Int)) (0:Int)).bind (λx10=>(match x10 with|(.inl _)=>(some true)|(.inr r12)=>(some r12)))))=some (decide ((e.To.length:Int)=w)&&rR n e.To):=by
 by_cases h:e.To.length=w
 ·rw[show(e.To.length !=w)=false by simpa using h, ol e n (by omega),Co h]
  cases rR n _<;>rfl
 ·grind
theorem lW(e:J9)(n:Nat):Pd e (n:Int)=some (Kb e n):=by
 unfold Pd Kb Yv
 by_cases h0:e.Kind=0
 ·rw[h0];exact HB e n 0 (by omega)
 by_cases h1:e.Kind=1
 ·rw[h1];exact HB e n 1 (by omega)
 by_cases h2:e.Kind=2
 ·rw[h2];exact HB e n 2 (by omega)
 by_cases h3:e.Kind=3
 ·rw[h3];exact HB e n 0 (by omega)
 have e0:(e.Kind==0)=false:=by rw[zzL30];exact h0
 have e1:(e.Kind==1)=false:=by rw[zzL30];exact h1
 have e2:(e.Kind==2)=false:=by rw[zzL30];exact h2
 have e3:(e.Kind==3)=false:=by rw[zzL30];exact h3
 rw[e0,e1,e2,e3]
 have:(decide (0<=e.Kind)&&decide (e.Kind<=3))=false:=by
  by_cases h:0<=e.Kind
  ·rw[Ce (show ¬ e.Kind<=3 by omega)];simp
  ·rw[Ce h];rfl
 rw[this]
 rfl
theorem ou{e:J9}{n:Nat}(h:Kb e n=true):e.To.length<=2:=by
 unfold Kb Yv at h;simp only[A6,Gr]at h;obtain⟨⟨⟨h0,h1⟩,h2⟩,_⟩:=h
 have:CB e.Kind<=2:=by
  have:e.Kind=0\/e.Kind=1\/e.Kind=2\/e.Kind=3:=by omega
  rcases this with h|h|h|h<;>rw[h]<;>decide
 omega
theorem ZQ{e:J9}{n:Nat}(h:Kb e n=true):rR n e.To=true:=by unfold Kb at h;exact(A6 _ _▸h).2
def Bn(f:TFunc)(i:Nat):J9:=(f.Blocks.getD i (default:Ae)).End
def A1(f:TFunc):List (List Int):=(List.range f.Blocks.length).map λi=>BQ (Bn f i).To
def Gp(f:TFunc):Bool:=(decide (1<=f.Blocks.length)&&decide (f.Blocks.length<=64))&&(List.range f.Blocks.length).all λi=>Kb (Bn f i) f.Blocks.length
theorem shape_iff{f:TFunc}:Gp f=true↔(1<=f.Blocks.length/\f.Blocks.length<=64)/\∀ i,i<f.Blocks.length->Kb (Bn f i) f.Blocks.length=true:=by
 unfold Gp;rw[A6,A6,all_range];simp only[Gr]
theorem uC{f:TFunc}{i:Nat}(h:Kb (Bn f i) f.Blocks.length=true):mc f.Blocks.length (BQ (Bn f i).To)=true:=by
 obtain⟨h1,h2⟩:=KC (Bn f i).To;exact w5 (λx hx=>by have:=(toB_iff.1 (ZQ h)) x ((h2 x).1 hx);omega) h1
theorem Jp{f:TFunc}(h:Gp f=true):Mo (A1 f)=true:=by
 obtain⟨⟨h1,h2⟩,h3⟩:=shape_iff.1 h
 have hl:(A1 f).length=f.Blocks.length:=by simp[A1]
 refine mayS_iff.2 ⟨by omega,by omega,λi hi=>?_⟩;rw[hl]at hi ⊢;unfold A1;rw[O8 hi];exact uC (h3 i hi)
theorem zF(f:TFunc)(hf:f.Blocks.length<=maxLen):Tx f=some (bif Gp f then(Kd (A1 f),0) else(g0,5)):=by
 have hroom:(1000:Nat)<=room:=by decide
 unfold Tx;rw[XC,An];have hsh:Gp f=((decide (1<=f.Blocks.length)&&decide (f.Blocks.length<=64))&&(List.range f.Blocks.length).all λi=>Kb (Bn f i) f.Blocks.length):=rfl
 cases hc:(decide (1<=f.Blocks.length)&&decide (f.Blocks.length<=64)) with
 | false=>rw[hsh,hc];rfl
 | true=>
  have hc':=hc;simp only[A6,Gr]at hc';simp only[Ds,Ax];rw[Ad ⟨by omega,Int.le_refl _,by omega⟩,Am]
  let U:Nat->List (List Int):=λi=>(List.range f.Blocks.length).map λj=>if j<i then BQ (Bn f j).To else[]
  have e0:List.replicate f.Blocks.length ([]:List Int)=U 0:=by
   simp only[U]
   apply List.ext_getElem?
   intro j
   by_cases hj:j<f.Blocks.length<;>simp[hj,List.getElem?_replicate]
  have eN:U f.Blocks.length=A1 f:=by
   simp only[U,A1]
   apply Hp
   intro j hj;rw[if_pos hj]
  rw[e0]
  have hstep:∀ i:Nat,i<f.Blocks.length->Hz f ((i:Int),U i)=bif Kb (Bn f i) f.Blocks.length then some (.next (((i+1:Nat):Int),U (i+1))) else some (.done (.inr (g0,5))):=λi hi=>by
   unfold Hz;simp only[B1 hi,Ah,Am];rw[Ad (Fz hi)];have he:(⟨(f.Blocks.getD i (default:Ae)).End.Kind,(f.Blocks.getD i (default:Ae)).End.Arg,(f.Blocks.getD i (default:Ae)).End.To⟩:J9)=Bn f i:=rfl;rw[he,lW,An]
   cases hfit:Kb (Bn f i) f.Blocks.length with
   | false=>rfl
   | true=>
    have hl2:=ou hfit;simp only[Ds,Ax,Ah]
    have hx:II (f.Blocks.getD i (default:Ae)).End.To=some (BQ (Bn f i).To):=by
     unfold II;rw[jT,Ad (by show(Bn f i).To.length<=_;omega)]
     rfl
    rw[hx,An,Ad (Fz (by simp[U];omega)),w1 (by omega)]
    congr 3
    simp only[U];rw[BW]
    apply Hp
    intro j hj
    by_cases h1:j=i
    ·subst h1;rw[if_pos rfl,if_pos (by omega)]
    ·rw[if_neg h1]
     by_cases h2:j<i
     ·rw[if_pos h2,if_pos (by omega)]
     ·rw[if_neg h2,if_neg (by omega)]
  have:=H7 (Hz f) (λi=>(((i:Nat):Int),U i)) (λi=>Kb (Bn f i) f.Blocks.length) (.inl (U f.Blocks.length)) (.inr (g0,5)) f.Blocks.length (λi hi hp=>?_) (λi hi hp=>?_) ?_
  ·rw[show Ac (Hz f) ((0:Int),U 0)=_ from this,hsh,hc,eN,Ld]
   cases hall:(List.range f.Blocks.length).all λi=>Kb (Bn f i) f.Blocks.length with
   | false=>rfl
   | true=>
    simp only[Ah,An];rw[dF _ (Jp (by rw[hsh,hc,hall];rfl))]
    rfl
  ·show Hz f (_,_)=_
   rw[hstep i hi,hp];rfl
  ·show Hz f (_,_)=_
   rw[hstep i hi,hp];rfl
  ·show Hz f (_,_)=_
   unfold Hz;simp only[Da,Ax]
def KA(l:List Int)(k:Nat):List Int:=((List.range k).filter λz:Nat=>decide (1<=z)&&l.contains (z:Int)).map Int.ofNat
theorem px{n:Nat}{l:List Int}(h:rR n l=true):KA l n=BQ l:=by
 obtain⟨h1,h2⟩:=KC l;refine FQ (LK _ _) h1 λx=>?_;rw[h2 x];unfold KA;rw[dL]
 constructor
 ·grind
 ·intro hx;have:=(toB_iff.1 h) x hx;refine⟨x.toNat,by omega,by omega,?_⟩;rw[Y5 (by omega),zzL64.2 hx,Co (by omega)]
  rfl
theorem mA(f:TFunc)(i:Nat)(hl:(Bn f i).To.length<4611686018427387904):Ac (Fk f (i:Int)) (0:Int)=some (bif rR f.Blocks.length (Bn f i).To then .inl () else .inr (g0,5)):=by
 have hE:(f.Blocks.getD i _).End=Bn f i:=rfl
 have step:∀ j ,j<(Bn f i).To.length->Fk f i j=bif (decide (0<(Bn f i).To.getD j 0)&&decide ((Bn f i).To.getD j 0<f.Blocks.length)) then some (.next ((j+1:Nat))) else some _:=λj hj=>by
  unfold Fk;simp only[Am,hE,B1 hj, w1 (show j<4611686018427387904 by omega)];rw[Ad (Fz hj),M4 (Fz hj)]
  by_cases h0:(Bn f i).To.getD j 0<=0
  ·rw[Co h0,Ce (show ¬ 0<(Bn f i).To.getD j 0 by omega)];rfl
  ·rw[Ce h0,Co (show 0<(Bn f i).To.getD j 0 by omega)]
   by_cases h1:f.Blocks.length<=(Bn f i).To.getD j 0
   ·rw[Co h1,Ce (show ¬ (Bn f i).To.getD j 0<f.Blocks.length by omega)];rfl
   ·grind
 have:=H7 (Fk f i) (λj=>(j:Nat)) (λk=>decide (0<(Bn f i).To.getD k 0)&&decide ((Bn f i).To.getD k 0<f.Blocks.length)) (.inl ()) (.inr (g0,5)) (Bn f i).To.length (λj hj hp=>?_) (λj hj hp=>?_) ?_
 ·exact this
 ·grind
 ·rw[step j hj,hp];rfl
 ·unfold Fk;simp only[Am,hE,Da,Ax]
theorem mB(f:TFunc)(i:Nat)(hn:1<=f.Blocks.length/\f.Blocks.length<=64)(hl:(Bn f i).To.length<4611686018427387904):Ac (Ho f (i:Int)) (([]:List Int),(1:Int))=some (KA (Bn f i).To f.Blocks.length):=by
 have hroom:1000<=room:=by decide
 have hE:(f.Blocks.getD i _).End=Bn f i:=rfl
 have e0:KA (Bn f i).To 1=[]:=by unfold KA;simp
 have key:=Em (Ho f i) (λk=>(KA (Bn f i).To (k+1),(k+1:Nat))) (KA (Bn f i).To f.Blocks.length) (f.Blocks.length-1) (λk hk=>?_) ?_
 ·grind
 ·unfold Ho
  have hlen:(KA (Bn f i).To (k+1)).length<=k+1:=by
   unfold KA;have:=List.length_filter_le (λz =>decide (1<=z)&&(Bn f i).To.contains (z:Nat)) (List.range (k+1))
   simpa using this
  simp only[Am,hE,B1 (show k+1<f.Blocks.length by omega)];rw[pO _ _ hl,An,w1 (by omega)]
  have hs:KA (Bn f i).To (k+1+1)=KA (Bn f i).To (k+1)++(if(Bn f i).To.contains ((k+1:Nat))=true then[(k+1:Int)] else[]):=by
   unfold KA;rw[W0,Wv]
   cases hg:(Bn f i).To.contains _ with
   | true=>grind
   | false=>grind
  rw[hs]
  cases hg:(Bn f i).To.contains _ with
  | true=>
   rw[ Ad (by grind)]
   rfl
  | false =>  simp
 ·unfold Ho;simp only[show f.Blocks.length-1+1=f.Blocks.length by omega,Da,Ax]
theorem dI(f:TFunc)(hf:f.Blocks.length<=maxLen):Jh f=some (bif Gp f then(Kd (A1 f),0) else(g0,5)):=by
 have hroom:(1000:Nat)<=room:=by decide
 unfold Jh
 have hc:(bif ((f.Blocks.length:Int)==(0:Int)) then true else decide ((64:Int)<(f.Blocks.length:Int))) = !(decide (1<=f.Blocks.length)&&decide (f.Blocks.length<=64)):=by
  grind
 rw[hc];have hsh:Gp f=((decide (1<=f.Blocks.length)&&decide (f.Blocks.length<=64))&&(List.range f.Blocks.length).all λi=>Kb (Bn f i) f.Blocks.length):=rfl
 cases hb:(decide (1<=f.Blocks.length)&&decide (f.Blocks.length<=64)) with
 | false=>rw[hsh,hb];rfl
 | true=>
  have hb':=hb;simp only[A6,Gr]at hb';simp only[Ds,Ax]
  let U:Nat->List (List Int):=λi=>(List.range i).map λj=>KA (Bn f j).To f.Blocks.length
  have hstep:∀ i:Nat,i<f.Blocks.length->Ck f (U i,(i:Int))=bif Kb (Bn f i) f.Blocks.length then some (.next (U (i+1),((i+1:Nat):Int))) else some (.done (.inr (g0,5))):=λi hi=>by
   unfold Ck;have hE:(f.Blocks.getD i (default:Ae)).End=Bn f i:=rfl;simp only[B1 hi,Ah,Am,hE];rw[Ad (Fz hi),w1 (by omega)]
   by_cases hk:0<=(Bn f i).Kind/\(Bn f i).Kind<=3
   ·rw[Ce (show ¬ (Bn f i).Kind<0 by omega),Ce (show ¬ (3:Int)<(Bn f i).Kind by omega)];simp only[Ax];rw[M4 (show A2 (Bn f i).Kind ([(0:Int),1,2,0]:List Int).length from⟨hk.1,by show(Bn f i).Kind<4;omega⟩)];have hw:([(0:Int),1,2,0]:List Int).getD (Bn f i).Kind.toNat 0=CB (Bn f i).Kind:=rfl;rw[hw]
    have hkb:Yv (Bn f i)=decide (((Bn f i).To.length:Int)=CB (Bn f i).Kind):=by
     unfold Yv;rw[Co hk.1,Co hk.2];rfl
    unfold Kb;rw[hkb]
    by_cases hl:((Bn f i).To.length:Int)=CB (Bn f i).Kind
    ·have hw2:CB (Bn f i).Kind<=2:=by
      have:(Bn f i).Kind=0\/(Bn f i).Kind=1\/(Bn f i).Kind=2\/(Bn f i).Kind=3:=by omega
      rcases this with h|h|h|h<;>rw[h]<;>decide
     rw[show(((Bn f i).To.length:Int)!=CB (Bn f i).Kind)=false by simpa using hl,Co hl,Ax,mA f i (by omega),Ld]
     cases htb:rR f.Blocks.length (Bn f i).To with
     | false=>rfl
     | true=>
      simp only[Ah,An];rw[mB f i hb' (by omega)];simp only[An];rw[Ad (by simp only[U,Dz,Vb,ET];omega)]
      congr 3
      simp only[U];rw[W0,Wy]
      rfl
    ·rw[show(((Bn f i).To.length:Int)!=CB (Bn f i).Kind)=true by simpa using hl,Ce hl];rfl
   ·have hbad:(bif decide ((Bn f i).Kind<0) then true else decide ((3:Int)<(Bn f i).Kind))=true:=by
     by_cases h0:(Bn f i).Kind<0
     ·rw[Co h0];rfl
     ·rw[Ce h0,Co (show(3:Int)<(Bn f i).Kind by omega)];rfl
    have hkb:Yv (Bn f i)=false:=by
     unfold Yv
     by_cases h0:0<=(Bn f i).Kind
     ·rw[Ce (show ¬ (Bn f i).Kind<=3 by omega)];simp
     ·rw[Ce h0];simp
    simp only[hbad];rw[Ad (by intro h;cases h)];unfold Kb;rw[hkb]
    rfl
  have:=H7 (Ck f) (λi=>(U i,((i:Nat):Int))) (λi=>Kb (Bn f i) f.Blocks.length) (.inl (U f.Blocks.length)) (.inr (g0,5)) f.Blocks.length (λi hi hp=>?_) (λi hi hp=>?_) ?_
  ·rw[show Ac (Ck f) (([]:List (List Int)),(0:Int))=_ from this,hsh,hb,Ld]
   cases hall:(List.range f.Blocks.length).all λi=>Kb (Bn f i) f.Blocks.length with
   | false=>rfl
   | true=>
    have hshape:Gp f=true:=by rw[hsh,hb,hall];rfl
    have hm:=Jp hshape
    have hU:U f.Blocks.length=A1 f:=by
     simp only[U,A1]
     apply Hp
     intro j hj;exact px (ZQ ((shape_iff.1 hshape).2 j hj))
    simp only[Ah,An];rw[hU,QK _ (Ub (Tk hm)),hm]
    rfl
  ·show Ck f (_,_)=_
   rw[hstep i hi,hp];rfl
  ·show Ck f (_,_)=_
   rw[hstep i hi,hp];rfl
  ·show Ck f (_,_)=_
   unfold Ck;simp only[Da,Ax]
inductive Rc (S:Nat->List Nat) (r:Nat):Nat->Prop
 | root:Rc S r r
 | step {x y:Nat} (h:Rc S r x) (hy:y∈S x):Rc S r y
inductive Av (S:Nat->List Nat) (r z:Nat):Nat->Prop
 | root (h:r≠z):Av S r z r
 | step {x y:Nat} (h:Av S r z x) (hy:y∈S x) (hz:y≠z):Av S r z y
inductive AvN (S:Nat->List Nat) (r z:Nat):Nat->Nat->Prop
 | root (h:r≠z) (k:Nat):AvN S r z k r
 | step {k x y:Nat} (h:AvN S r z k x) (hy:y∈S x) (hz:y≠z):AvN S r z (k+1) y
section
variable {S:Nat->List Nat} {r:Nat}
theorem rc_iff{x:Nat}:Rc S r x↔Rch S r x:=by
 constructor
 ·intro h
  induction h with
  | root=>exact .refl _
  | step _ hy ih=>exact ih.tail hy
 ·intro h
  have key:∀ a b,Rch S a b->Rc S r a->Rc S r b:=by
   intro a b hab
   induction hab with
   | refl x=>exact id
   | head hy _ ih=>exact λha=>ih (.step ha hy)
  exact key _ _ h .root
def wo(S:Nat->List Nat)(z:Nat):Nat->List Nat:=λx=>(S x).filter λy=>decide (y≠z)
theorem av_iff{z x:Nat}:Av S r z x↔r≠z/\Rch (wo S z) r x:=by
 constructor
 ·intro h
  induction h with
  | root h=>exact⟨h,.refl _⟩
  | step _ hy hz ih=>exact⟨ih.1,ih.2.tail (zzL114.2 ⟨hy,by simpa using hz⟩)⟩
 ·rintro⟨hr,h⟩
  have key:∀ a b,Rch (wo S z) a b->Av S r z a->Av S r z b:=by
   intro a b hab
   induction hab with
   | refl x=>exact id
   | head hy _ ih=>
    obtain⟨h1,h2⟩:=zzL114.1 hy;exact λha=>ih (.step ha h1 (by simpa using h2))
  exact key _ _ h (.root hr)
theorem Av.rc{z x:Nat}(h:Av S r z x):Rc S r x:=by
 induction h with
 | root _=>exact .root
 | step _ hy _ ih=>exact .step ih hy
theorem Av.ne{z x:Nat}(h:Av S r z x):x≠z:=by
 cases h with
 | root h=>exact h
 | step _ _ hz=>exact hz
theorem AvN.av{z k x:Nat}(h:AvN S r z k x):Av S r z x:=by
 induction h with
 | root h=>exact .root h
 | step _ hy hz ih=>exact .step ih hy hz
theorem AvN.up{z k x:Nat}(h:AvN S r z k x):AvN S r z (k+1) x:=by
 induction h with
 | root h k=>exact .root h _
 | step _ hy hz ih=>exact .step ih hy hz
theorem AvN.mono{z k m x:Nat}(h:AvN S r z k x)(hm:k<=m):AvN S r z m x:=by
 obtain⟨d,rfl⟩:=Nat.exists_eq_add_of_le hm;clear hm
 induction d with
 | zero=>exact h
 | succ d ih=>exact ih.up
theorem Av.avn{z x:Nat}(h:Av S r z x):∃ k,AvN S r z k x:=by
 induction h with
 | root h=>exact⟨0,.root h 0⟩
 | step _ hy hz ih=>obtain⟨k,hk⟩:=ih;exact⟨k+1,.step hk hy hz⟩
theorem AvN.via {z k x : Nat} (h : AvN S r z k x) (y : Nat) : AvN S r y k x ∨ AvN S r z k y := by
  induction h with
  | root h k => by_cases hy : r = y
                · subst hy; exact .inr (.root h _)
                · exact .inl (.root hy _)
  | @step k x w h hy hz ih =>
    rcases ih with h1 | h1
    · by_cases hw : w = y
      · subst hw; exact .inr (.step h hy hz)
      · exact .inl (.step h1 hy hw)
    · exact .inr h1.up
theorem k5(n:Nat):∃ K,∀ z,z<n->∀ x,x<n->Av S r z x->AvN S r z K x:=by
 have one:∀ z m,∃ K,∀ x,x<m->Av S r z x->AvN S r z K x:=by
  intro z m
  induction m with
  | zero=>simp_all
  | succ m ih=>
   obtain⟨K,hK⟩:=ih
   by_cases h:Av S r z m
   ·obtain⟨k,hk⟩:=h.avn;refine⟨max K k,λx hx ha=>?_⟩;rcases Nat.lt_succ_iff_lt_or_eq.1 hx with h1|rfl
    ·exact(hK x h1 ha).mono (Nat.le_max_left ..)
    ·exact hk.mono (Nat.le_max_right ..)
   ·refine⟨K,λx hx ha=>?_⟩;rcases Nat.lt_succ_iff_lt_or_eq.1 hx with h1|rfl
    ·exact hK x h1 ha
    ·exact absurd ha h
 have two:∀ m,∃ K,∀ z,z<m->∀ x,x<n->Av S r z x->AvN S r z K x:=by
  intro m
  induction m with
  | zero=>simp_all
  | succ m ih=>
   obtain⟨K,hK⟩:=ih;obtain⟨k,hk⟩:=one m n;refine⟨max K k,λz hz x hx ha=>?_⟩;rcases Nat.lt_succ_iff_lt_or_eq.1 hz with h1|rfl
   ·exact(hK z h1 x hx ha).mono (Nat.le_max_left ..)
   ·exact(hk x hx ha).mono (Nat.le_max_right ..)
 exact two n
end
inductive UpTo (par:Nat->Int):Nat->Nat->Prop
 | refl (x:Nat):UpTo par x x
 | up {x y z:Nat} (h:par x=(y:Int)) (t:UpTo par y z):UpTo par x z
inductive Fw (S:Nat->List Nat) (at_:Nat->Nat) (u:Nat):Nat->Prop
 | refl:Fw S at_ u u
 | step {v w:Nat} (h:Fw S at_ u v) (hw:w∈S v) (hl:at_ v<at_ w):Fw S at_ u w
section
variable {S:Nat->List Nat} {at_:Nat->Nat} {par:Nat->Int}
theorem Fw.le{u w:Nat}(h:Fw S at_ u w):at_ u<=at_ w:=by
 induction h with
 | refl=>exact zzL6 _
 | step _ _ hl ih=>omega
theorem Fw.trans{u v w:Nat}(h:Fw S at_ u v)(k:Fw S at_ v w):Fw S at_ u w:=by
 induction k with
 | refl=>exact h
 | step _ hw hl ih=>exact .step ih hw hl
theorem Fw.av{r d u w:Nat}(h:Fw S at_ u w)(ha:Av S r d u)(hd:at_ d<at_ u):Av S r d w:=by
 induction h with
 | refl=>exact ha
 | @step v w h hw hl ih=>exact .step ih hw (by rintro rfl;have:=h.le;omega)
theorem UpTo.trans{x y z:Nat}(h:UpTo par x y)(k:UpTo par y z):UpTo par x z:=by
 induction h with
 | refl x=>exact k
 | up h _ ih=>exact .up h (ih k)
theorem anc_up{x p z:Nat}(h:par x=(p:Int)):UpTo par x z↔z=x\/UpTo par p z:=by
 constructor
 ·intro k
  cases k with
  | refl=>exact .inl rfl
  | up h' t=>grind
 ·rintro(rfl|k)
  ·exact .refl _
  ·exact .up h k
theorem NT{x z:Nat}(h:∀ p:Nat,par x≠(p:Int)):UpTo par x z↔z=x:=by
 constructor
 ·intro k
  cases k with
  | refl=>rfl
  | up h' t=>exact absurd h' (h _)
 ·rintro rfl;exact .refl _
structure Inv(S:Nat->List Nat)(r n:Nat)(at_:Nat->Nat)(par:Nat->Int):Prop where
 top:par r = -1
 kind:∀ x,x<n->par x = -2\/x=r\/∃ z:Nat,par x=(z:Int)
 up:∀ x,x<n->∀ z:Nat,par x=(z:Int)->z<n/\par z≠-2/\at_ z<at_ x/\Fw S at_ z x
 rc:∀ x,x<n->par x≠-2->Rc S r x
 all:∀ x,x<n->par x≠-2->∀ d,¬ UpTo par x d->Av S r d x
end
section
variable {S:Nat->List Nat} {at_:Nat->Nat} {par:Nat->Int} {r n:Nat}
theorem Inv.anc(h:Inv S r n at_ par){x z:Nat}(k:UpTo par x z)(hx:x<n)(hp:par x≠-2):z<n/\par z≠-2/\at_ z<=at_ x/\Fw S at_ z x:=by
 induction k with
 | refl x=>exact⟨hx,hp,zzL6 _,.refl⟩
 | @up x y z hxy t ih=>
  obtain⟨h1,h2,h3,h4⟩:=h.up x hx y hxy;obtain⟨i1,i2,i3,i4⟩:=ih h1 h2;exact⟨i1,i2,by omega,i4.trans h4⟩
theorem Inv.root_anc(h:Inv S r n at_ par){z:Nat}:UpTo par r z↔z=r:=NT λp hp=>by rw[h.top]at hp;omega
theorem Inv.strict(h:Inv S r n at_ par){x z:Nat}(k:UpTo par x z)(hx:x<n)(hp:par x≠-2):z=x\/at_ z<at_ x:=by
 cases k with
 | refl=>exact .inl rfl
 | up hxy t=>
  obtain⟨h1,h2,h3,h4⟩:=h.up x hx _ hxy;obtain⟨i1,i2,i3,i4⟩:=h.anc t h1 h2;exact .inr (by omega)
theorem Inv.antisymm(h:Inv S r n at_ par){x z:Nat}(k:UpTo par x z)(m:UpTo par z x)(hx:x<n)(hp:par x≠-2):z=x:=by
 rcases h.strict k hx hp with rfl|h1
 ·rfl
 ·obtain⟨i1,i2,i3,i4⟩:=h.anc k hx hp;have:=(h.anc m i1 i2).2.2.1;omega
def MeetAt(par:Nat->Int)(a b m:Nat):Prop:=∀ w,UpTo par m w↔UpTo par a w/\UpTo par b w
theorem XD{a:Nat}:MeetAt par a a a:=λw=>by simp
theorem lh{a b m:Nat}(h:MeetAt par a b m):MeetAt par b a m:=λw=>by rw[h w];exact And.comm
theorem Inv.meet_left(h:Inv S r n at_ par)(hinj:∀ x y,x<n->y<n->par x≠-2->par y≠-2->at_ x=at_ y->x=y){a b p m:Nat}(ha:a<n)(hpa:par a≠-2)(hb:b<n)(hpb:par b≠-2)(hab:a≠b)(hl:at_ b<=at_ a)(hp:par a=(p:Int))(k:MeetAt par p b m):MeetAt par a b m:=λw=>by
 rw[k w]
 constructor
 ·rintro⟨h1,h2⟩;exact⟨.up hp h1,h2⟩
 ·rintro⟨h1,h2⟩;rcases(anc_up hp).1 h1 with rfl|h1
  ·exfalso
   rcases h.strict h2 hb hpb with h3|h3
   ·exact hab h3
   ·omega
  ·exact⟨h1,h2⟩
end
section
variable {S:Nat->List Nat} {at_:Nat->Nat} {par:Nat->Int} {r n:Nat}
def Rx(par:Nat->Int)(y:Nat)(v:Int):Nat->Int:=λx=>if x=y then v else par x
def ek(S:Nat->List Nat)(n:Nat)(par:Nat->Int)(y z:Nat):Prop:=∀ w,UpTo par z w↔∀ p,p<n->y∈S p->par p≠-2->UpTo par p w
theorem LE{y:Nat}{v:Int}{x z:Nat}(k:UpTo par x z)(hy:¬ UpTo par x y):UpTo (Rx par y v) x z:=by
 induction k with
 | refl x=>exact .refl _
 | @up x q z h t ih=>
  have hxy:x≠y:=by rintro rfl;exact hy (.refl _)
  refine .up  ?_ (ih λk=>hy (.up h k));unfold Rx;rw[if_neg hxy];exact h
theorem cD{y:Nat}{v:Int}{x:Nat}(k:UpTo par x y):UpTo (Rx par y v) x y:=by
 induction k with
 | refl x=>exact .refl _
 | @up x q z h t ih=>
  by_cases hxy:x=z
  ·subst hxy;exact .refl _
  ·refine .up  ?_ ih;unfold Rx;rw[if_neg hxy];exact h
theorem anc_upd_inv{y:Nat}{v:Int}{x w:Nat}(k:UpTo (Rx par y v) x w):UpTo par x w\/(UpTo par x y/\UpTo (Rx par y v) y w):=by
 induction k with
 | refl x=>exact .inl (.refl _)
 | @up x q w h t ih=>
  by_cases hxy:x=y
  ·subst hxy;exact .inr ⟨.refl _,.up h t⟩
  ·unfold Rx at h;rw[if_neg hxy]at h;rcases ih with h1|⟨h1,h2⟩
   ·exact .inl (.up h h1)
   ·exact .inr ⟨.up h h1,h2⟩
theorem low_or{y:Nat}{v:Int}{x d:Nat}(k:UpTo par x y)(hd:UpTo par x d):UpTo par y d\/UpTo (Rx par y v) x d:=by
 induction k with
 | refl x=>exact .inl hd
 | @up x q y hq t ih=>
  by_cases e:x=y
  ·subst e;exact .inl hd
  ·rcases(anc_up hq).1 hd with rfl|k
   ·exact .inr (.refl _)
   ·rcases ih k with h1|h1
    ·exact .inl h1
    ·exact .inr (.up  (by unfold Rx;rw[if_neg e];exact hq) h1)
structure Better(S:Nat->List Nat)(r n:Nat)(at_:Nat->Nat)(par:Nat->Int)(y z:Nat):Prop where
 inv:Inv S r n at_ par
 hy:y<n
 hr:y≠r
 hz:z<n
 best:ek S n par y z
 fwd:∃ p,p<n/\y∈S p/\par p≠-2/\at_ p<at_ y
variable {y z:Nat}
theorem Better.zlt(h:Better S r n at_ par y z):UpTo par z z/\par z≠-2/\at_ z<at_ y/\Fw S at_ z y:=by
 obtain⟨p,hp,hyp,hpp,hl⟩:=h.fwd;obtain⟨h1,h2,h3,h4⟩:=h.inv.anc ((h.best z).1 (.refl _) p hp hyp hpp) hp hpp;exact⟨.refl _,h2,by omega,.step h4 hyp hl⟩
theorem Better.above(h:Better S r n at_ par y z){w:Nat}:UpTo (Rx par y z) z w↔UpTo par z w:=by
 obtain⟨_,h2,h3,_⟩:=h.zlt
 have hn:¬ UpTo par z y:=λk=>by have:=(h.inv.anc k h.hz h2).2.2.1;omega
 constructor
 ·intro k;rcases anc_upd_inv k with h1|⟨h1,_⟩
  ·exact h1
  ·exact absurd h1 hn
 ·intro k;exact LE k hn
theorem Better.here(h:Better S r n at_ par y z){w:Nat}:UpTo (Rx par y z) y w↔w=y\/UpTo par z w:=by
 rw[anc_up (p:=z) (by simp[Rx]),h.above]
theorem Better.av_here(h:Better S r n at_ par y z){d:Nat}(hd:¬ UpTo (Rx par y z) y d):Av S r d y:=by
 rw[h.here]at hd;have h1:¬ ∀ p,p<n->y∈S p->par p≠-2->UpTo par p d:=λhh=>hd (.inr ((h.best d).2 hh));simp only[Classical.not_forall]at h1;obtain⟨p,hp,hyp,hpp,hnp⟩:=h1;exact .step (h.inv.all p hp hpp d hnp) hyp λe=>hd (.inl e.symm)
theorem Better.inv'(h:Better S r n at_ par y z):Inv S r n at_ (Rx par y z):=by
 obtain⟨hzz,hz2,hzl,hzf⟩:=h.zlt;obtain⟨p,hp,hyp,hpp,hl⟩:=h.fwd
 have hne:∀ x,Rx par y z x≠-2->x=y\/par x≠-2:=λx hx=>by
  by_cases e:x=y
  ·exact .inl e
  ·unfold Rx at hx;rw[if_neg e]at hx;exact .inr hx
 have hyv:Rx par y z y=z:=by simp[Rx]
 have hyo:∀ x,x≠y->Rx par y z x=par x:=λx e=>by unfold Rx;rw[if_neg e]
 refine⟨by rw[hyo _ (Q4 h.hr)];exact h.inv.top,λx hx=>?_,λx hx w hw=>?_,λx hx hxp=>?_,λx hx hxp d hd=>?_⟩
 ·by_cases e:x=y
  ·grind
  ·rw[hyo x e];exact h.inv.kind x hx
 ·have hzn:∀ w,par w≠-2->Rx par y z w≠-2:=λw hw=>by
   grind
  by_cases e:x=y
  ·subst e;rw[hyv]at hw
   cases KP hw
   exact⟨h.hz,hzn _ hz2,hzl,hzf⟩
  ·rw[hyo x e]at hw;obtain⟨h1,h2,h3,h4⟩:=h.inv.up x hx w hw;exact⟨h1,hzn _ h2,h3,h4⟩
 ·rcases hne x hxp with rfl|h1
  ·exact .step (h.inv.rc p hp hpp) hyp
  ·exact h.inv.rc x hx h1
 ·by_cases e:x=y
  ·subst e;exact h.av_here hd
  ·rw[hyo x e]at hxp
   by_cases hxd:UpTo par x d
   ·
    by_cases hxy:UpTo par x y
    ·have hyd :=λk=>hd ((cD hxy).trans k);have hav:=h.av_here hyd;have hf:=(h.inv.anc hxy hx hxp).2.2.2
     have hdy:UpTo par y d:=by
      rcases low_or  hxy hxd with h1|h1
      ·exact h1
      ·exact absurd h1 hd
     by_cases hpy:par y = -2
     ·
      have :=by
       refine(NT  λp hp=>?_).1 hdy;rw[hpy]at hp;omega
      subst this;exact absurd (.refl _) hyd
     ·rcases h.inv.strict hdy h.hy hpy with rfl|hlt
      ·exact absurd (.refl _) hyd
      ·exact hf.av hav hlt
    ·exact absurd (LE hxd hxy) hd
   ·exact h.inv.all x hx hxp d hxd
end
section
variable {S:Nat->List Nat} {at_:Nat->Nat} {par:Nat->Int} {r n:Nat}
def QB(S:Nat->List Nat)(r n:Nat)(par:Nat->Int)(b:Nat->Nat):Prop:=∀ x,x<n->par x≠-2->∀ z,AvN S r z (b x) x->¬ UpTo par x z
def en(S:Nat->List Nat)(r n:Nat)(par:Nat->Int):Prop:=∀ x,x<n->Rc S r x->par x≠-2
def ie(S:Nat->List Nat)(r n:Nat)(par:Nat->Int):Prop:=∀ x,x<n->par x≠-2->∀ d,UpTo par x d↔¬ Av S r d x
theorem tx(h:Inv S r n at_ par):QB S r n par λ_=>0:=λx hx hp z hz k=>by
 cases hz with
 | root hr _=>exact hr (h.root_anc.1 k).symm
theorem ju(hS:∀ x,x<n->∀ w∈S x,w<n)(hr:r<n){x:Nat}(h:Rc S r x):x<n:=by
 induction h with
 | root=>exact hr
 | step _ hy ih=>exact hS _ ih _ hy
theorem Better.qb{y z k:Nat}{b:Nat->Nat}(h:Better S r n at_ par y z)(hS:∀ x,x<n->∀ w∈S x,w<n)(hrn:r<n)(full:en S r n par)(hb:∀ x,x<n->k<=b x/\b x<=k+1)(q:QB S r n par b) :
  QB S r n (Rx par y z) λx=>if x=y then k+1 else b x:=by
 have here:∀ w,AvN S r w (k+1) y->¬ UpTo _ y w:=λw hw hu=>by
  rcases h.here.1 hu with rfl|hu
  ·exact hw.av.ne rfl
  ·cases hw with
   | root hr _=>exact h.hr rfl
   | @step _ p _ hp hyp hne=>
    have hpn:=ju hS hrn hp.av.rc;have hpp:=full p hpn hp.av.rc;exact q p hpn hpp w (hp.mono (hb p hpn).1) ((h.best w).1 hu p hpn hyp hpp)
 intro x hx hxp w hw hu
 dsimp only at hw
 by_cases e:x=y
 ·grind
 ·rw[if_neg e]at hw;unfold Rx at hxp;rw[if_neg e]at hxp;rcases anc_upd_inv hu with h1|⟨h1,h2⟩
  ·exact q x hx hxp w hw h1
  ·rcases hw.via y with h3|h3
   ·exact q x hx hxp y h3 h1
   ·exact here w (h3.mono (hb x hx).2) h2
theorem om(h:Inv S r n at_ par){K:Nat}(hK:∀ z,z<n->∀ x,x<n->Av S r z x->AvN S r z K x)(q:QB S r n par λ_=>K):ie S r n par:=λx hx hp d=>by
 constructor
 ·intro hu ha;exact q x hx hp d (hK d (h.anc hu hx hp).1 x hx ha) hu
 ·intro ha;exact SO λhn=>ha (h.all x hx hp d hn)
theorem Better.same{y z:Nat}(h:Better S r n at_ par y z)(hS:∀ x,x<n->∀ w∈S x,w<n)(hrn:r<n)(full:en S r n par)(hy2:par y≠-2)(ex:ie S r n par):par y=(z:Int):=by
 obtain⟨hzz,hz2,hzl,hzf⟩:=h.zlt;rcases h.inv.kind y h.hy with h1|h1|⟨q,hq⟩
 ·exact absurd h1 hy2
 ·exact absurd h1 h.hr
 ·obtain⟨q1,q2,q3,q4⟩:=h.inv.up y h.hy q hq
  have key:∀ w,UpTo par z w↔UpTo par q w:=λw=>by
   rw[h.best w]
   constructor
   ·intro hall
    have hwy:¬ Av S r w y:=λha=>by
     cases ha with
     | root _=>exact h.hr rfl
     | @step p _ hp hyp hne=>
      have hpn:=ju hS hrn hp.rc;have hpp:=full p hpn hp.rc;exact(ex p hpn hpp w).1 (hall p hpn hyp hpp) hp
    rcases(anc_up hq).1 ((ex y h.hy hy2 w).2 hwy) with rfl|hu
    ·have:=(h.inv.anc ((h.best _).2 hall) h.hz hz2).2.2.1;omega
    ·exact hu
   ·intro hu p hp hyp hpp;have hwy:UpTo par y w:=.up hq hu;refine(ex p hp hpp w).2 λha=>?_
    have hne:y≠w:=by rintro rfl;have:=(h.inv.anc hu q1 q2).2.2.1;omega
    exact(ex y h.hy hy2 w).1 hwy (.step ha hyp hne)
  have:=h.inv.antisymm ((key q).2 (.refl _)) ((key z).1 (.refl _)) h.hz hz2;rw[hq,this]
theorem lO(h:Inv S r n at_ par)(hS:∀ x,x<n->∀ w∈S x,w<n)(hrn:r<n)(full:en S r n par)(fix:∀ y,y<n->y≠r->Rc S r y->∃ z:Nat,par y=(z:Int)/\ek S n par y z):ie S r n par:=λx hx hp d=>by
 constructor
 ·intro hu ha
  induction ha with
  | root hne=>exact hne (h.root_anc.1 hu).symm
  | @step p y hp' hyp hne ih=>
   have hpn:=ju hS hrn hp'.rc;have hpp:=full p hpn hp'.rc
   by_cases e:y=r
   ·subst e;exact hne (h.root_anc.1 hu).symm
   ·obtain⟨z,hz,hb⟩:=fix y hx e (.step hp'.rc hyp);rcases(anc_up hz).1 hu with rfl|hu
    ·exact hne rfl
    ·exact ih hpn hpp ((hb d).1 hu p hpn hyp hpp)
 ·intro ha;exact SO λhn=>ha (h.all x hx hp d hn)
end
def Bs(t:List Int):Nat->Int:=λx=>t.getD x 0
theorem dl{t:List Int}{y:Nat}{v:Int}(hy:y<t.length):Bs (t.set y v)=Rx (Bs t) y v:=by
 funext x
 unfold Bs Rx
 by_cases e:x=y
 ·grind
 ·grind
open Classical in
def Pj(S:Nat->List Nat)(n:Nat)(t:List Int)(y:Nat):Nat:=if h:∃ z,z<n/\ek S n (Bs t) y z then Classical.choose h else 0
def Z0(S:Nat->List Nat)(n:Nat)(P:List Nat)(t:List Int):Nat->List Int
 | 0=>t
 | i+1=>(Z0 S n P t i).set (P.getD i 0) (Pj S n (Z0 S n P t i) (P.getD i 0):Int)
def UK(S:Nat->List Nat)(n:Nat)(P:List Nat)(t:List Int):Nat->List Int
 | 0=>t
 | j+1=>Z0 S n P (UK S n P t j) P.length
def Jc(n r:Nat):List Int:=(List.replicate n (-2:Int)).set r (-1)
structure Ordered(S:Nat->List Nat)(r n:Nat)(P:List Nat):Prop where
 hr:r<n
 hS:∀ x,x<n->∀ w∈S x,w<n
 nodup:(r::P).Nodup
 mem:∀ x,x∈r::P↔Rc S r x
 fwd:∀ i,i<P.length->∃ p,p∈r::P.take i/\P.getD i 0∈S p
section
variable {S:Nat->List Nat} {r n:Nat} {P:List Nat}
theorem Ordered.lt(o:Ordered S r n P){x:Nat}(h:x∈r::P):x<n:=ju o.hS o.hr ((o.mem x).1 h)
theorem V6{i:Nat}(hi:i<P.length):P.getD i 0∈P:=by grind
theorem Ordered.at_lt(o:Ordered S r n P){i:Nat}(hi:i<P.length){p:Nat}(hp:p∈r::P.take i):pos (r::P) p<pos (r::P) (P.getD i 0):=by
 have hd:=o.nodup
 have h1:pos (r::P) (P.getD i 0)=i+1:=by
  have:=(OK hd (i:=i+1) (by simpa using hi)).2;rw[Ab _ _ _ hi]
  simpa using this
 rw[h1];obtain⟨j,hj,rfl⟩:=G7 hp
 have hj':j<i+1:=by simp at hj;omega
 have hjl:j<(r::P).length:=by simp;omega
 have e:(r::P.take i)[j]=(r::P)[j]:=by
  grind
 rw[e,(OK hd hjl).2];exact hj'
theorem Aap(o:Ordered S r n P):Inv S r n (pos (r::P)) (Bs (Jc n r))/\(Jc n r).length=n/\Bs (Jc n r) r≠-2:=by
 have hlen:(Jc n r).length=n:=by simp[Jc]
 have hr:=o.hr
 have at_:∀ x,x<n->Bs (Jc n r) x=if x=r then -1 else -2:=λx hx=>by
  unfold Bs Jc
  by_cases e:x=r
  ·grind
  ·grind
 have hno:∀ x,x<n->∀ p:Nat,Bs (Jc n r) x≠p:=λx hx p hp=>by grind
 refine⟨⟨by grind,λx hx=>?_,λx hx z hz=>absurd hz (hno x hx z),λx hx hp=>?_,λx hx hp d hd=>?_⟩,hlen,by grind⟩
 ·grind
 ·by_cases e:x=r
  ·subst e;exact .root
  ·grind
 ·by_cases e:x=r
  ·subst e;exact .root (λe=>hd (by rw[e];exact .refl _))
  ·grind
structure Ready(S:Nat->List Nat)(r n:Nat)(P:List Nat)(t:List Int)(i:Nat):Prop where
 inv:Inv S r n (pos (r::P)) (Bs t)
 len:t.length=n
 done:∀ x∈r::P.take i,Bs t x≠-2
theorem Inv.meets{at_:Nat->Nat}{par:Nat->Int}(h:Inv S r n at_ par)(hinj:∀ x y,x<n->y<n->par x≠-2->par y≠-2->at_ x=at_ y->x=y)(hr:at_ r=0):∀ m a b,at_ a+at_ b<=m->a<n->b<n->par a≠-2->par b≠-2->∃ c,MeetAt par a b c/\c<n/\par c≠-2:=by
 intro m
 induction m with
 | zero=>
  intro a b hm ha hb hpa hpb;have:a=b:=hinj a b ha hb hpa hpb (by omega);subst this;exact⟨a,XD,ha,hpa⟩
 | succ m ih=>
  have go:∀ a b,at_ a+at_ b<=m+1->a<n->b<n->par a≠-2->par b≠-2->at_ b<=at_ a->∃ c,MeetAt par a b c/\c<n/\par c≠-2:=λa b hm ha hb hpa hpb hl=>by
   by_cases e:a=b
   ·subst e;exact⟨a,XD,ha,hpa⟩
   ·rcases h.kind a ha with h1|h1|⟨p,hp⟩
    ·exact absurd h1 hpa
    ·subst h1;exact absurd (hinj a b ha hb hpa hpb (by omega)) e
    ·obtain⟨p1,p2,p3,p4⟩:=h.up a ha p hp;obtain⟨c,hc,hc2⟩:=ih p b (by omega) p1 hb p2 hpb;exact⟨c,h.meet_left hinj ha hpa hb hpb e hl hp hc,hc2⟩
  intro a b hm ha hb hpa hpb;rcases Nat.le_total (at_ b) (at_ a) with hl|hl
  ·exact go a b hm ha hb hpa hpb hl
  ·obtain⟨c,hc,hc2⟩:=go b a (by omega) hb ha hpb hpa hl;exact⟨c,lh hc,hc2⟩
theorem Ready.inj(o:Ordered S r n P){t:List Int}{i:Nat}(h:Ready S r n P t i):∀ x y,x<n->y<n->Bs t x≠-2->Bs t y≠-2->pos (r::P) x=pos (r::P) y->x=y:=λx y hx hy hpx hpy he=>by
 have hm :=λx hx hp=>(o.mem x).2 (h.inv.rc x hx hp)
 have back:∀ x∈r::P,(r::P).getD (pos _ x) 0=x:=λx hx=>by
  obtain⟨j,hj,rfl⟩:=G7 hx;rw[(OK o.nodup hj).2,Ab _ _ _ hj]
 rw[<- back x (hm x hx hpx),<- back y (hm y hy hpy),he]
theorem dp:pos (r::P) r=0:=by rw[RM,if_pos rfl]
theorem Ready.meetAll(o:Ordered S r n P){t:List Int}{i:Nat}(h:Ready S r n P t i):∀ l:List Nat,(∀ p∈l,p<n/\Bs t p≠-2)->l≠[]->∃ z,z<n/\Bs t z≠-2/\∀ w,UpTo (Bs t) z w↔∀ p∈l,UpTo (Bs t) p w:=by
 intro l
 induction l with
 | nil=>grind
 | cons p l ih=>
  intro hl _;obtain⟨hp1,hp2⟩:=hl p (zzL53 ..)
  by_cases hl0:l=[]
  ·grind
  ·obtain⟨z,hz1,hz2,hz3⟩:=ih (λq hq=>hl q (N8 _ hq)) hl0;obtain⟨c,hc1,hc2,hc3⟩:=h.inv.meets (h.inj o) dp _ p z (zzL6 _) hp1 hz1 hp2 hz2;exact⟨c,hc2,hc3,λw=>by rw[hc1 w,hz3 w];simp⟩
theorem Ready.best(o:Ordered S r n P){t:List Int}{i:Nat}(h:Ready S r n P t i)(hi:i<P.length):Better S r n (pos (r::P)) (Bs t) (P.getD i 0) (Pj S n t (P.getD i 0)):=by
 have hy:=V6 hi;have hyr:P.getD i 0≠r:=λe=>(zzL113.1 o.nodup).1 (e▸hy);have hyn:=o.lt (N8 _ hy);obtain⟨p,hp,hyp⟩:=o.fwd i hi;have hp2:=h.done p hp
 have hpP:p∈r::P:=by
  grind
 have hpn:=o.lt hpP
 have hex:∃ z,z<n/\ek S n (Bs t) (P.getD i 0) z:=by
  classical
  obtain⟨z,hz1,hz2,hz3⟩:=h.meetAll o ((List.range n).filter λp=>decide (P.getD i 0∈S p/\Bs t p≠-2)) (λp hp=>by
   grind) (λe=>by
   simp_all)
  refine⟨z,hz1,λw=>?_⟩
  constructor
  ·grind
  ·grind
 have hb:Pj S n t (P.getD i 0)<n/\ek S n (Bs t) (P.getD i 0) (Pj S n t (P.getD i 0)):=by
  unfold Pj;rw[dif_pos hex];exact Classical.choose_spec hex
 exact⟨h.inv,hyn,hyr,hb.1,hb.2,p,hpn,hyp,hp2,o.at_lt hi hp⟩
theorem Ready.best_eq(o:Ordered S r n P){t:List Int}{i:Nat}(h:Ready S r n P t i)(hi:i<P.length){z:Nat}(hz:z<n)(hz2:Bs t z≠-2)(hb:ek S n (Bs t) (P.getD i 0) z):z=Pj S n t (P.getD i 0):=by
 have b:=h.best o hi;exact(h.inv.antisymm ((hb _).2 ((b.best _).1 (.refl _))) ((b.best _).2 ((hb _).1 (.refl _))) hz hz2).symm
theorem Ready.next(o:Ordered S r n P){t:List Int}{i:Nat}(h:Ready S r n P t i)(hi:i<P.length):Ready S r n P (t.set (P.getD i 0) (Pj S n t (P.getD i 0):Int)) (i+1):=by
 have b:=h.best o hi;have e:=dl   (v:=Pj S n t (P.getD i 0)) (by rw[h.len];exact b.hy);refine⟨by rw[e];exact b.inv',by rw[Dd];exact h.len,λx hx=>?_⟩;rw[e];unfold Rx
 split
 ·omega
 ·refine h.done x ?_;rcases zzL37.1 hx with rfl|hx
  ·grind
  ·rw[bO hi]at hx;rcases zzL12.1 hx with hx|hx
   ·grind
   ·grind
theorem Ready.more(o:Ordered S r n P){t:List Int}(h:Ready S r n P t P.length)(i:Nat):Ready S r n P t i:=
 ⟨h.inv,h.len,λx hx=>h.done x (by
  grind)⟩
theorem Ready.full(o:Ordered S r n P){t:List Int}(h:Ready S r n P t P.length):en S r n (Bs t):=λx hx hr=>h.done x (by rw[Wx];exact(o.mem x).2 hr)
theorem Ready.round(o:Ordered S r n P){t:List Int}(h:Ready S r n P t 0):∀ i,i<=P.length->Ready S r n P (Z0 S n P t i) i:=by
 intro i
 induction i with
 | zero=>intro _;exact h
 | succ i ih=>intro hi;exact(ih (by omega)).next o (by omega)
theorem xC(o:Ordered S r n P):Ready S r n P (Jc n r) 0:=by
 obtain⟨h1,h2,h3⟩:=Aap o;exact⟨h1,h2,λx hx=>by grind⟩
theorem Ready.rounds(o:Ordered S r n P):∀ j,Ready S r n P (UK S n P (Jc n r) j) 0:=by
 intro j
 induction j with
 | zero=>exact xC o
 | succ j ih=>exact((ih.round o) _ (zzL6 _)).more o 0
theorem Ready.rounds'(o:Ordered S r n P)(j:Nat):Ready S r n P (UK S n P (Jc n r) (j+1)) P.length:=(Ready.rounds o j).round o _ (zzL6 _)
theorem pq(o:Ordered S r n P){t:List Int}{k:Nat}(h:Ready S r n P t P.length)(q:QB S r n (Bs t) λ_=>k):QB S r n (Bs (Z0 S n P t P.length)) λ_=>k+1:=by
 have key:∀ i,i<=P.length->QB S r n (Bs (Z0 S n P t i)) (λx=>if x∈P.take i then k+1 else k)/\en S r n (Bs (Z0 S n P t i)):=by
  intro i
  induction i with
  | zero=>intro _;exact⟨by simpa [Z0] using q,h.full o⟩
  | succ i ih=>
   intro hi;obtain⟨q1,f1⟩:=ih (by omega);have rd:=(h.more o 0).round o i (by omega);have b:=rd.best o (by omega);have e:=dl   (v:=Pj S n (Z0 S n P t i) (P.getD i 0)) (by rw[rd.len];exact b.hy)
   constructor
   ·show QB S r n (Bs ((Z0 S n P t i).set _ _)) _
    rw[e];have:=b.qb (k:=k) o.hS o.hr f1 (λx _=>by split<;>omega) q1;intro x hx hp z hz;refine this x hx hp z ?_;rw[bO (by omega)]at hz
    by_cases e1:x=P.getD i 0
    ·grind
    ·grind
   ·show en S r n (Bs ((Z0 S n P t i).set _ _))
    rw[e];intro x hx hr;unfold Rx
    split
    ·omega
    ·exact f1 x hx hr
 have q1:=(key _ (zzL6 _)).1;rw[Wx]at q1;have rd:=(h.more o 0).round o _ (zzL6 _);intro x hx hp z hz;refine q1 x hx hp z ?_
 dsimp only at hz ⊢
 by_cases e:x∈P
 ·rw[if_pos e];exact hz
 ·rw[if_neg e]
  have hxr:x=r:=by
   rcases zzL37.1 ((o.mem x).2 (rd.inv.rc x hx hp)) with h1|h1
   ·exact h1
   ·exact absurd h1 e
  subst hxr;exact .root hz.av.ne k
def AJ(S:Nat->List Nat)(n:Nat)(P:List Nat)(t:List Int):Prop:=∀ i,i<P.length->Bs t (P.getD i 0)=(Pj S n t (P.getD i 0):Int)
theorem BZ{t:List Int}(o:Ordered S r n P)(hl:t.length=n)(h:AJ S n P t):∀ i,i<=P.length->Z0 S n P t i=t:=by
 intro i
 induction i with
 | zero=>intro _;rfl
 | succ i ih=>
  intro hi;unfold Z0;rw[ih (by omega),<- h i (by omega)]
  have hlt:P.getD i 0<t.length:=by rw[hl];exact o.lt (N8 _ (V6 (by omega)))
  unfold Bs;rw[Ab _ _ _ hlt];exact List.set_getElem_self hlt
theorem vB(o:Ordered S r n P):∃ J,(∀ j,j<J->¬ AJ S n P (UK S n P (Jc n r) j))/\AJ S n P (UK S n P (Jc n r) J):=by
 obtain⟨K,hK⟩:=k5   n
 have hq:∀ k,QB S r n (Bs (UK S n P (Jc n r) (k+1))) λ_=>k:=by
  intro k
  induction k with
  | zero=>exact tx (Ready.rounds' o 0).inv
  | succ k ih=>exact pq o (Ready.rounds' o k) ih
 have hst :=λi hi=>by
  have rd:=Ready.rounds' o K;exact((rd.more o i).best o hi).same o.hS o.hr (rd.full o) (rd.done _ (N8 _ (by grind))) (om rd.inv hK (hq K))
 have key:∀ m,(∃ J,J<=m/\AJ S n P (UK S n P (Jc n r) J))->∃ J,(∀ j,j<J->¬ AJ S n P (UK S n P (Jc n r) j))/\AJ S n P (UK S n P (Jc n r) J):=by
  intro m
  induction m with
  | zero=>grind
  | succ m ih=>
   rintro⟨J,hJ,h⟩
   by_cases hm:∃ J,J<=m/\AJ S n P (UK S n P (Jc n r) J)
   ·exact ih hm
   ·grind
 exact key _ ⟨K+1,zzL6 _,hst⟩
structure DomTree(S:Nat->List Nat)(r n:Nat)(P:List Nat)(t:List Int):Prop where
 inv:Inv S r n (pos (r::P)) (Bs t)
 len:t.length=n
 full:en S r n (Bs t)
 exact_:ie S r n (Bs t)
theorem ML(o:Ordered S r n P){j:Nat}(h:AJ S n P (UK S n P (Jc n r) j)):DomTree S r n P (UK S n P (Jc n r) j):=by
 have rd:=Ready.rounds o j
 have hall :=by
  have:=rd.round o _ (zzL6 _);rwa[BZ o rd.len h _ (zzL6 _)]at this
 refine⟨rd.inv,rd.len,hall.full o,lO rd.inv o.hS o.hr (hall.full o) λy hy hne hr=>?_⟩
 have hm:y∈P:=by
  rcases zzL37.1 ((o.mem y).2 hr) with h1|h1
  ·exact absurd h1 hne
  ·exact h1
 obtain⟨i,hi,rfl⟩:=G7 hm;have b:=(hall.more o i).best o hi;rw[Ab _ _ _ hi]at b;have hs:=h i hi;rw[Ab _ _ _ hi]at hs;exact⟨_,hs,b.best⟩
end
section
variable {S:Nat->List Nat} {s s':Nat->Bool} {l o:List Nat}
theorem VL.before(h:VL S s l s' o):∀ A z B,o=A++z::B->z∈l\/∃ p∈B,z∈S p:=by
 induction h with
 | nil s=>intro A z B e;simp at e
 | skip h _ ih=>
  grind
 | @step s s1 s2 y l o1 o2 h a b iha ihb=>
  intro A z B e;rcases List.append_eq_append_iff.1 e with⟨C,hC1,hC2⟩|⟨C,hC1,hC2⟩
  ·
   cases C with
   | nil=>
    grind
   | cons c C=>
    grind
  ·cases C with
   | nil=>
    grind
   | cons c C=>
    grind
theorem Ord.ordered{n r:Nat}{L:List Nat}(hr:r<n)(hS:∀ x,x<n->∀ w∈S x,w<n)(h:Ord S r L):∃ P,L=r::P/\Ordered S r n P:=by
 have h1:=h.nodup;have h2:=h.mem;obtain⟨s',o,hv,rfl⟩:=h;refine⟨o.reverse,rfl,hr,hS,h1,λx=>by rw[h2 x,rc_iff],λi hi=>?_⟩
 have e:o.reverse=o.reverse.take i++o.reverse[i]::o.reverse.drop (i+1):=by rw[<- SN hi,List.take_append_drop]
 have e2:o=(o.reverse.drop (i+1)).reverse++o.reverse[i]::(o.reverse.take i).reverse:=by
  have:=Bk List.reverse e
  simpa using this
 rw[Ab _ _ _ hi];rcases hv.before _ _ _ e2 with h3|⟨p,hp,hz⟩
 ·exact⟨r,zzL53 ..,h3⟩
 ·grind
end
def kB(S:Nat->List Nat)(w:Int):Nat->List Nat:=λx=>(S x).filter λy=>decide ((y:Int)≠w)
theorem qX(S:Nat->List Nat):kB S (-1)=S:=by
 funext x
 exact List.filter_eq_self.2 λy _=>Co (by omega)
theorem uS(S:Nat->List Nat)(z:Nat):kB S (z:Int)=wo S z:=by
 funext x
 unfold kB wo
 congr 1
 funext y
 exact zzL77.2 ⟨λh e=>h (by rw[e]),λh e=>h (KP e)⟩
def M1(L:List (List Int))(r:Nat)(w:Int):List Bool:=if(r:Int)=w then List.replicate L.length false else HY (kB (sN L) w) L.length ((List.replicate L.length false).set r true) L.length
theorem RO(L:List (List Int))(r:Nat)(w:Int):(M1 L r w).length=L.length:=by
 unfold M1
 split
 ·simp
 ·rw[Yd];simp
theorem dH{L:List (List Int)}(hm:Mo L=true){r:Nat}(hr:r<L.length)(w:Int) :
  Dc (Kd L) (r:Int) w=some (M1 L r w):=by
 obtain⟨h1,h2,h3⟩:=mayS_iff.1 hm
 have hroom:(1000:Nat)<=room:=by decide
 have hS:=Wn hm;have hSw:∀ z,z<L.length->∀ y∈kB (sN L) w z,y<L.length:=λz hz y hy=>hS z hz y (zzL114.1 hy).1;have hgs:(Kd L).Succ=L:=rfl
 have hlenS:∀ a,(sN L a).length=(L.getD a []).length:=λa=>by simp[sN]
 let fl:List Nat->List Nat:=λl=>l.filter λy=>decide ((y:Int)≠w)
 have hin:∀(o:List Bool) (i:Nat),o.length=L.length->i<L.length->Ac (A3 (Kd L) w (i:Int)) ((0:Int),o)=some (if o.getD i false=true then mk o (kB (sN L) w i) else o):=λo i ho hi=>by
  have hb:=DN (h3 i hi)
  by_cases hoi:o.getD i false=true
  ·rw[if_pos hoi];have hmi:∀ k,(mk o (fl ((sN L i).take k))).getD i false=true:=λk=>(mk_at (n:=L.length) _ _ ho (λy hy=>hS i hi y (List.mem_of_mem_take (zzL114.1 hy).1)) i).2 (.inl hoi)
   have hml:∀ k,(mk o (fl ((sN L i).take k))).length=L.length:=λk=>by rw[gH,ho]
   refine Em (A3 (Kd L) w (i:Int)) (λk=>(((k:Nat):Int),mk o (fl ((sN L i).take k)))) _ (L.getD i []).length (λk hk=>?_) ?_
   ·show A3 (Kd L) w (i:Int) (_,_)=_
    unfold A3;obtain⟨a0,a1⟩:=AZ (h3 i hi) hk;simp only[hgs,Am,hmi];rw[Ad (Fz (by rw[hml];exact hi)),M4 (Fz hi),Ah,B1 hk,Ah,Ad (Fz hi),Ad (Fz hk)]
    have hk':k<(sN L i).length:=by rw[hlenS];exact hk
    have hsk:(sN L i)[k]=((L.getD i []).getD k 0).toNat:=by rw[Ab _ _ _ hk];simp[sN]
    have hski:(((sN L i)[k]:Nat):Int)=(L.getD i []).getD k 0:=by rw[hsk];exact Y5 a0
    have e:mk o (fl ((sN L i).take (k+1)))=if(L.getD i []).getD k 0=w then mk o (fl ((sN L i).take k)) else(mk o (fl ((sN L i).take k))).set ((L.getD i []).getD k 0).toNat true:=by
     rw[bO hk']
     show mk o (List.filter _ (_++[_]))=_
     rw[Wv]
     by_cases hw:(L.getD i []).getD k 0=w
     ·rw[if_pos hw]
      have:List.filter (λy:Nat=>decide ((y:Int)≠w)) [(sN L i)[k]]=[]:=by rw[List.filter_cons,hski,hw];simp
      rw[this,List.append_nil]
     ·rw[if_neg hw]
      have:List.filter (λy:Nat=>decide ((y:Int)≠w)) [(sN L i)[k]]=[(sN L i)[k]]:=by rw[List.filter_cons,hski,if_pos (Co hw)];rfl
      rw[this];unfold mk;rw[List.foldl_append,hsk]
      rfl
    by_cases hw:(L.getD i []).getD k 0=w
    ·have hne:((L.getD i []).getD k 0 !=w)=false:=by rw[hw];simp
     rw[hne,Ax,An,w1 (by omega),e,if_pos hw]
    ·have hne:((L.getD i []).getD k 0 !=w)=true:=by rw[zzL100];exact hw
     rw[hne,Ah,Ad (Fz hi),Ad (Fz hk),Ad ⟨a0,by rw[hml];exact a1⟩,w1 (by omega),e,if_neg hw]
     rfl
   ·show A3 (Kd L) w (i:Int) (_,_)=_
    unfold A3;simp only[hgs,Am,hmi];rw[Ad (Fz (by rw[hml];exact hi)),M4 (Fz hi),Ah,Da,Ax]
    have:(sN L i).take (L.getD i []).length=sN L i:=by rw[<- hlenS];exact Wx ..
    rw[this]
    rfl
  ·have hof:o.getD i false=false:=by simpa using hoi
   rw[if_neg hoi]
   apply Ak
   unfold A3;simp only[hgs,Am,hof];rw[Ad (Fz (by rw[ho];exact hi)),M4 (Fz hi),Ax,Ax]
 have hsw:∀ o:List Bool,o.length=L.length->Ac (A4 (Kd L) w) ((0:Int),o)=some (sw (kB (sN L) w) o L.length):=λo ho=>by
  refine Em (A4 (Kd L) w) (λi=>(((i:Nat):Int),sw (kB (sN L) w) o i)) _ L.length (λi hi=>?_) ?_
  ·show A4 (Kd L) w (_,_)=_
   unfold A4
   have hl:(sw (kB (sN L) w) o i).length=L.length:=by rw[sw_len,ho]
   simp only[hl,B1 hi,Ah];rw[hin _ i hl hi,w1 (by omega)]
   rfl
  ·show A4 (Kd L) w (_,_)=_
   unfold A4
   have hl:(sw (kB (sN L) w) o L.length).length=L.length:=by rw[sw_len,ho]
   simp only[hl,Da,Ax]
 unfold Dc;simp only[hgs,Am];rw[Ad ⟨by omega,Int.le_refl _,by omega⟩];unfold M1
 by_cases hrw:(r:Int)=w
 ·rw[if_pos hrw]
  have:((r:Int)==w)=true:=by simpa using hrw
  rw[this,Ah]
 ·rw[if_neg hrw]
  have hne:((r:Int)==w)=false:=by rw[zzL30];exact hrw
  rw[hne,Ax,Ad (Fz (by simpa using hr))]
  have hl0:((List.replicate L.length false).set r true).length=L.length:=by simp
  have:Ac (A5 (Kd L) w) ((0:Int),(List.replicate L.length false).set r true)=some (HY (kB (sN L) w) L.length ((List.replicate L.length false).set r true) L.length):=by
   refine Em (A5 (Kd L) w) (λj=>(((j:Nat):Int),HY (kB (sN L) w) L.length ((List.replicate L.length false).set r true) j)) _ L.length (λj hj=>?_) ?_
   ·show A5 (Kd L) w (_,_)=_
    unfold A5
    have hl:(HY (kB (sN L) w) L.length ((List.replicate L.length false).set r true) j).length=L.length:=by rw[Yd,hl0]
    simp only[hl,B1 hj,Ah];rw[hsw _ hl,w1 (by omega)]
    rfl
   ·show A5 (Kd L) w (_,_)=_
    unfold A5
    have hl:(HY (kB (sN L) w) L.length ((List.replicate L.length false).set r true) L.length).length=L.length:=by rw[Yd,hl0]
    simp only[hl,Da,Ax]
  rw[this]
  rfl
theorem pt{L:List (List Int)}(hm:Mo L=true){r:Nat}(hr:r<L.length){b:Nat}:(M1 L r (-1)).getD b false=true↔Rc (sN L) r b:=by
 unfold M1;rw[if_neg (by omega),qX,BO (Wn hm) hr b,rc_iff]
theorem gk{L:List (List Int)}(hm:Mo L=true){r:Nat}(hr:r<L.length){a b:Nat}(hb:b<L.length):(M1 L r (a:Int)).getD b false=true↔Av (sN L) r a b:=by
 unfold M1;rw[av_iff]
 by_cases h:r=a
 ·grind
 ·rw[if_neg (by omega),uS,BO (S:=wo _ a) (λz hz y hy=>Wn hm z hz y (zzL114.1 hy).1) hr b];simp[h]
def Pw(L:List (List Int))(r a b:Nat):Bool:=(M1 L r (-1)).getD b false&&!(M1 L r (a:Int)).getD b false
theorem dk{L:List (List Int)}(hm:Mo L=true){r a b:Nat}(hr:r<L.length)(hb:b<L.length):Pw L r a b=true↔Rc (sN L) r b/\¬ Av (sN L) r a b:=by
 unfold Pw;rw[A6,Y6,<- Bool.not_eq_true,pt hm hr,gk hm hr hb]
def QU(L:List (List Int))(r a b:Nat):Bool:=(List.range L.length).all λc=>decide (c=b) || !Pw L r c b || Pw L r c a
def T8(L:List (List Int))(r b:Nat):Nat->Int
 | 0=>-2
 | a+1=>if a≠b/\Pw L r a b=true/\QU L r a b=true then(a:Int) else T8 L r b a
def Yk(L:List (List Int))(r b:Nat):Int:=if b=r then -1 else T8 L r b L.length
def Y3(L:List (List Int))(r:Nat):List Int:=(List.range L.length).map (Yk L r)
theorem YD(L:List (List Int))(r:Nat):(Y3 L r).length=L.length:=by simp[Y3]
theorem qP{L:List (List Int)}{r b:Nat}(hb:b<L.length):(Y3 L r).getD b 0=Yk L r b:=by unfold Y3;rw[O8 hb]
theorem pick_cases(L:List (List Int))(r b:Nat):∀ m,(T8 L r b m = -2/\∀ a,a<m->¬ (a≠b/\Pw L r a b=true/\QU L r a b=true))\/∃ a,a<m/\T8 L r b m=(a:Int)/\a≠b/\Pw L r a b=true/\QU L r a b=true:=by
 intro m
 induction m with
 | zero=>exact .inl ⟨rfl,λa ha=>absurd ha (Wz a)⟩
 | succ m ih=>
  unfold T8
  by_cases h:m≠b/\Pw L r m b=true/\QU L r m b=true
  ·grind
  ·grind
theorem DomTree.eq{L:List (List Int)}(hm:Mo L=true){r:Nat}(hr:r<L.length){P t:List _}(o:Ordered (sN L) r L.length P)(h:DomTree (sN L) r L.length P t):t=Y3 L r:=by
 refine CI (by rw[h.len,YD]) λb h1 h2=>?_
 have hb:b<L.length:=by rw[<- h.len];exact h1
 rw[<- Ab _ _ 0 h1,<- Ab _ _ 0 h2,qP hb]
 show Bs t b=_
 have hov:∀ a b,b<L.length->Bs t b≠-2->(Pw L r a b=true↔UpTo _ b a):=λa b hb hp=>by
  rw[dk hm hr hb,h.exact_ b hb hp];exact⟨λk=>k.2,λk=>⟨h.inv.rc b hb hp,k⟩⟩
 unfold Yk
 by_cases hbr:b=r
 ·subst hbr;rw[if_pos rfl];exact h.inv.top
 ·rw[if_neg hbr];rcases h.inv.kind b hb with hk|hk|⟨z,hz⟩
  ·
   have hn :=λk=>h.full b hb k hk;rcases pick_cases L r b _ with⟨h3,_⟩|⟨a,_,_,_,h6,_⟩
   ·rw[hk,h3]
   ·exact absurd ((dk hm hr hb).1 h6).1 hn
  ·exact absurd hk hbr
  ·obtain⟨z1,z2,z3,z4⟩:=h.inv.up b hb z hz
   have hp:Bs t b≠-2:=by omega
   have hzo :=(hov z b hb hp).2 (.up hz (.refl _))
   have hzb:z≠b:=by rintro rfl;omega
   have hnear:QU L r z b=true:=all_range.2 λc hc=>by
    by_cases e:c=b
    ·simp[e]
    ·cases ho:Pw L r c b with
     | false=>simp
     | true=>
      have:=(hov c b hb hp).1 ho;rcases(anc_up hz).1 this with h3|h3
      ·exact absurd h3 e
      ·grind
   rcases pick_cases L r b L.length with⟨_,h3⟩|⟨a,h3,h4,h5,h6,h7⟩
   ·grind
   ·rw[h4,hz];have haU:=(hov a b hb hp).1 h6
    have ha1:UpTo (Bs t) z a:=by
     rcases(anc_up hz).1 haU with h8|h8
     ·exact absurd h8 h5
     ·exact h8
    have hap:=(h.inv.anc ha1 z1 z2).2.1
    have hza :=by
     have:=all_range.1 h7 z z1;simp only[hzo,hzb, Ds]at this;exact(hov z a h3 hap).1 this
    rw[h.inv.antisymm ha1 hza z1 z2]
theorem jd{g:TGraph}(h:DZ g=true):Mo g.Succ=true/\g=Kd g.Succ:=by
 unfold DZ at h;rw[A6]at h;refine⟨h.1,?_⟩;obtain⟨s,p⟩:=g;have:=KM h.2;simp only at this;unfold Kd;rw[this]
theorem GU{a b:Nat}:(((a:Nat):Int)==(b:Int))=decide (a=b):=by
 grind
theorem iy{a b:Nat}:(((a:Nat):Int)!=(b:Int)) = !decide (a=b):=by
 unfold bne;rw[GU]
section
variable {L:List (List Int)} (hm:Mo L=true) {r:Nat} (hr:r<L.length)
def RZ(L:List (List Int))(r a k:Nat):List Bool:=(List.range L.length).map λb=>if b<k then Pw L r a b else false
def RY(L:List (List Int))(r a:Nat):List Bool:=(List.range L.length).map λb=>Pw L r a b
def ls(L:List (List Int))(r:Nat):List (List Bool):=(List.range L.length).map λa=>RY L r a
theorem jn:(ls L r).length=L.length:=by simp[ls]
theorem pm{a:Nat}(ha:a<L.length):(ls L r).getD a []=RY L r a:=by unfold ls;rw[O8 ha]
theorem eD{a:Nat}:(RY L r a).length=L.length:=by simp[RY]
theorem bJ{a b:Nat}(hb:b<L.length):(RY L r a).getD b false=Pw L r a b:=by unfold RY;rw[O8 hb]
include hm hr
omit hr in
theorem uM(a:Nat)(l5:List (List Bool))(hl5:l5.length=L.length)(ha:a<L.length):Ac (Di (Kd L) (M1 L r (-1)) (a:Int) l5 (M1 L r (a:Int))) ((0:Int),List.replicate L.length false)=some (RY L r a):=by
 obtain⟨h1,h2,h3⟩:=mayS_iff.1 hm;have hgs:(Kd L).Succ=L:=rfl
 have e0:List.replicate L.length false=RZ L r a 0:=by
  refine CI (by simp[RZ]) λi h1 h2=>by simp[RZ]
 have e1:RY L r a=RZ L r a L.length:=by
  unfold RY RZ
  exact Hp λi hi=>by rw[if_pos hi]
 have hlen:∀ k,(RZ L r a k).length=L.length:=λk=>by simp[RZ]
 rw[e0];refine Em (Di (Kd L) (M1 L r (-1)) (a:Int) l5 (M1 L r (a:Int))) (λk=>(((k:Nat):Int),RZ L r a k)) _ L.length (λk hk=>?_) ?_
 ·show Di (Kd L) _ _ _ _ (_,_)=_
  unfold Di;simp only[hgs,Am,B1 hk,Ah];rw[Ad (Fz (by rw[hl5];exact ha)),Ad (Fz (by rw[RO];exact hk)),Ad (λ_=>Fz (by rw[RO];exact hk)),Ad (Fz (by rw[hlen];exact hk)),w1 (by omega)]
  have:(RZ L r a k).set k (bif (M1 L r (-1)).getD k false then !(M1 L r (a:Int)).getD k false else false)=RZ L r a (k+1):=by
   unfold RZ;rw[BW];refine Hp λi hi=>?_
   by_cases e:i=k
   ·subst e;rw[if_pos rfl,if_pos (by omega)];unfold Pw
    cases(M1 L r (-1)).getD i false<;>rfl
   ·rw[if_neg e]
    by_cases e2:i<k
    ·rw[if_pos e2,if_pos (by omega)]
    ·rw[if_neg e2,if_neg (by omega)]
  rw[this]
 ·show Di (Kd L) _ _ _ _ (_,_)=_
  unfold Di;simp only[hgs,Da,Ax];rw[e1]
theorem uN:Ac (Ik (Kd L) (r:Int) (M1 L r (-1))) ((0:Int),List.replicate L.length ([]:List Bool))=some (ls L r):=by
 obtain⟨h1,h2,h3⟩:=mayS_iff.1 hm;have hgs:(Kd L).Succ=L:=rfl
 have hroom:1000<=room:=by decide
 let M:Nat->List _:=λk=>(List.range L.length).map λa=>if a<k then RY L r a else[]
 have hM:∀ k,(M k).length=L.length:=λk=>by simp[M]
 have e0:List.replicate L.length []=M 0:=by
  refine CI (by simp[M]) λi h1 h2=>by simp[M]
 have e1:ls L r=M _:=Hp λi hi=>by rw[if_pos hi]
 rw[e0];refine Em _ (λk=>(((k:Nat):Int),M k)) _ L.length (λk hk=>?_) ?_
 ·unfold Ik;simp only[hgs,Am,B1 hk,Ah];rw[Ad ⟨by omega,Int.le_refl _,by omega⟩,Ad (Fz (by rw[hM];exact hk)),dH hm hr,An,uM hm k (M k) (hM k) hk,An,w1 (by omega)]
  have:(M k).set k (RY L r k)=M (k+1):=by
   rw[BW];refine Hp λi hi=>?_
   by_cases e:i=k
   ·grind
   ·grind
  rw[this]
 ·unfold Ik;simp only[hgs,Da,Ax];rw[e1]
omit hr in
theorem uO(a b:Nat)(ha:a<L.length)(hb:b<L.length):Ac (Dj (Kd L) (ls L r) (b:Int) (a:Int)) (true,(0:Int))=some (QU L r a b):=by
 obtain⟨h1,h2,h3⟩:=mayS_iff.1 hm;have hgs:(Kd L).Succ=L:=rfl
 let N:Nat->Bool:=λk=>(List.range k).all λc=>decide (c=b) || !Pw L r c b || Pw L r c a
 refine Em (Dj (Kd L) (ls L r) (b:Int) (a:Int)) (λk=>(N k,((k:Nat):Int))) _ L.length (λk hk=>?_) ?_
 ·show Dj (Kd L) _ _ _ (_,_)=_
  unfold Dj;simp only[hgs,Am,B1 hk,Ah,pm hk,jn,eD,bJ hb,bJ ha];rw[Ad (λ_=>Fz hk),Ad (λ_=>Fz hb),Ad (λ_=>Fz hk),Ad (λ_=>Fz ha),w1 (by omega),GU]
  have:(bif N k then(bif (bif decide (k=b) then true else !Pw L r k b) then true else Pw L r k a) else false)=N (k+1):=by
   show _=(List.range (k+1)).all _
   rw[nj]
   show _=(N k&&_)
   cases N k<;>cases decide (k=b)<;>cases Pw L r k b<;>rfl
  rw[this]
 ·show Dj (Kd L) _ _ _ (_,_)=_
  unfold Dj;simp only[hgs,Da,Ax]
  rfl
def Re(L:List (List Int))(r b:Nat)(x:Int):List Int:=(List.range L.length).map λj=>if j<b then Yk L r j else if j=b then x else 0
omit hm hr in
theorem KF{b:Nat}{x:Int}:(Re L r b x).length=L.length:=by simp[Re]
omit hm hr in
theorem KG{b:Nat}{x y:Int}:(Re L r b x).set b y=Re L r b y:=by
 unfold Re;rw[BW];refine Hp λi hi=>?_
 by_cases e:i=b
 ·subst e;rw[if_pos rfl,if_neg (by omega),if_pos rfl]
 ·rw[if_neg e,if_neg e,if_neg e]
omit hm hr in
theorem SG{b:Nat}:Re L r b (Yk L r b)=Re L r (b+1) 0:=by
 unfold Re;refine Hp λi hi=>?_
 by_cases e:i<b
 ·rw[if_pos e,if_pos (by omega)]
 ·rw[if_neg e]
  by_cases e2:i=b
  ·subst e2;rw[if_pos rfl,if_pos (by omega)]
  ·rw[if_neg e2,if_neg (by omega)];split<;>rfl
omit hr in
theorem uP(b:Nat)(hb:b<L.length)(hbr:b≠r):Ac (B5 (Kd L) (r:Int) (ls L r) (b:Int)) ((0:Int),Re L r b (-2))=some (Re L r b (T8 L r b L.length)):=by
 obtain⟨h1,h2,h3⟩:=mayS_iff.1 hm;have hgs:(Kd L).Succ=L:=rfl;refine Em (B5 (Kd L) (r:Int) (ls L r) (b:Int)) (λk=>(((k:Nat):Int),Re L r b (T8 L r b k))) _ L.length (λk hk=>?_) ?_
 ·show B5 (Kd L) _ _ _ (_,_)=_
  unfold B5
  have hne:decide (b=r)=false:=by simp[hbr]
  simp only[hgs,Am,B1 hk,Ah,pm hk,jn,eD,bJ hb,GU,iy,hne,J2];rw[Ad (λ_=>Fz hk),Ad (λ_=>Fz hb),uO hm k b hk hb]
  by_cases hkb:k=b
  ·have e:T8 L r b (k+1)=T8 L r b k:=by show(if _ then _ else _)=_;rw[if_neg (λh=>h.1 hkb)]
   rw[Co hkb,Ah,Ah,An,w1 (by omega),e]
  ·rw[Ce hkb,Ax]
   cases ho:Pw L r k b with
   | false=>
    have e:T8 L r b (k+1)=T8 L r b k:=by show(if _ then _ else _)=_;rw[if_neg (λh=>by rw[ho]at h;exact absurd h.2.1 (by decide))]
    rw[J2,Ah,An,w1 (by omega),e]
   | true=>
    rw[Ds,Ax,An]
    cases hn:QU L r k b with
    | false=>
     have e:T8 L r b (k+1)=T8 L r b k:=by show(if _ then _ else _)=_;rw[if_neg (λh=>by rw[hn]at h;exact absurd h.2.2 (by decide))]
     rw[Ax,An,w1 (by omega),e]
    | true=>
     have e:T8 L r b (k+1)=(k:Int):=by show(if _ then _ else _)=_;rw[if_pos ⟨hkb,ho,hn⟩]
     rw[Ah,Ad (Fz (by rw[KF];exact hb)),An,w1 (by omega),e,KG]
 ·show B5 (Kd L) _ _ _ (_,_)=_
  unfold B5;simp only[hgs,Da,Ax]
omit hr in
theorem uQ:Ac (Dk (Kd L) (r:Int) (ls L r)) ((0:Int),List.replicate L.length (0:Int))=some (Y3 L r):=by
 obtain⟨h1,h2,h3⟩:=mayS_iff.1 hm;have hgs:(Kd L).Succ=L:=rfl
 have e0:List.replicate L.length (0:Int)=Re L r 0 0:=by
  refine CI (by simp[Re]) λi h1 h2=>by simp[Re]
 have e1:Y3 L r=Re L r L.length 0:=Hp λi hi=>by rw[if_pos hi]
 rw[e0];refine Em (Dk (Kd L) (r:Int) (ls L r)) (λk=>(((k:Nat):Int),Re L r k 0)) _ L.length (λk hk=>?_) ?_
 ·show Dk (Kd L) _ _ (_,_)=_
  unfold Dk;simp only[hgs,Am,B1 hk,Ah];rw[Ad (Fz (by rw[KF];exact hk)),GU,KG,KG]
  by_cases hkr:k=r
  ·rw[Co hkr,Ah,Ad (Fz (by rw[KF];exact hk)),An]
   have hd:Ac (B5 (Kd L) (r:Int) (ls L r) (k:Int)) ((0:Int),Re L r k (-1))=some (Re L r k (-1)):=by
    apply Ak
    unfold B5;simp only[iy,Co hkr,Ds,oF,Ax]
   rw[hd,An,w1 (by omega)]
   have:Yk L r k = -1:=by unfold Yk;rw[if_pos hkr]
   rw[<- this,SG]
  ·rw[Ce hkr,Ax,An,uP hm k hk hkr,An,w1 (by omega)]
   have:Yk L r k=T8 L r k L.length:=by unfold Yk;rw[if_neg hkr]
   rw[<- this,SG]
 ·show Dk (Kd L) _ _ (_,_)=_
  unfold Dk;simp only[hgs,Da,Ax];rw[e1]
end
def MM(g:TGraph)(r:Int):List Int:=if DZ g=true/\0<=r/\r<(g.Succ.length:Int) then Y3 g.Succ r.toNat else[]
theorem gE(g:TGraph)(h:Fits g.Succ)(r:Int):Kp g r=some (MM g r):=by
 have hroom:1000<=room:=by decide
 unfold Kp MM;rw[lY g h,An]
 cases hmg:DZ g with
 | false=>
  rfl
 | true=>
  rw[Ds,Ax]
  by_cases h0:r<0
  ·grind
  ·rw[Ce h0,Ax]
   by_cases h1:g.Succ.length<=r
   ·grind
   ·rw[Ce h1,Ax,if_pos ⟨rfl,by omega,by omega⟩];obtain⟨hms,hg⟩:=jd hmg;obtain⟨hl1,hl2,hl3⟩:=mayS_iff.1 hms;obtain⟨q,rfl⟩:∃ q:Nat,r=q:=⟨r.toNat,by omega⟩
    have hq:q<g.Succ.length:=by omega
    rw[hg];have hgs:(Kd _).Succ=g.Succ:=rfl;simp only[hgs,Am];rw[dH hms hq,An,Ad ⟨by omega,Int.le_refl _,by omega⟩,uN hms hq,An,Ad ⟨by omega,Int.le_refl _,by omega⟩,uQ hms,An]
def upD(t:List Int):Nat->Int->Option (List Int)
 | 0,_=>none
 | k+1,a=>if 0<=a/\a<(t.length:Int) then(if t.getD a.toNat 0 = -1 then some [a] else(upD t k (t.getD a.toNat 0)).map λl=>a::l) else none
def E7(t:List Int)(a:Int):List Int:=(upD t t.length a).getD []
def Aas(l:List Int):Option (List Int)->Unit ⊕ List Int
 | none=>.inl ()
 | some q=>.inr (l++q)
theorem lu(t:List Int)(ht:t.length<=1000):∀(k:Nat) (a:Int) (l:List Int),l.length+k=t.length->Ac (Cm t) (a,l)=some (Aas l (upD t k a)):=by
 have hroom:2000<=room:=by decide
 intro k
 induction k with
 | zero=>
  intro a l hl
  apply Ak
  unfold Cm;have:decide ((l.length:Int)<t.length)=false:=Ce (by omega);simp only[this]
  rfl
 | succ k ih=>
  intro a l hl;have hlt:decide (l.length<(t.length:Int))=true:=Co (by omega);unfold upD
  by_cases h0:0<=a
  ·by_cases h1:a<t.length
   ·have hin:A2 a _:=⟨h0,h1⟩;rw[if_pos ⟨h0,h1⟩]
    by_cases ht1:t.getD a.toNat 0 = -1
    ·apply Ak
     unfold Cm;simp only[hlt,Co h0,Co h1];rw[Ad (by simp;omega),Ad hin,ht1]
     rfl
    ·rw[if_neg ht1]
     have hs:Cm t (a,l)=some (.next (t.getD a.toNat 0,l++[a])):=by
      unfold Cm;have hb :=zzL30.2 ht1;simp only[hlt,Co h0,Co h1,Ah];rw[Ad (by simp;omega),Ad hin,hb,Ax,Ad hin]
     rw[Ap hs,ih _ _ (by simp;omega)]
     cases upD t k _ with
     | none=>rfl
     | some q=>show some (Sum.inr _)=some (Sum.inr _);simp
   ·rw[if_neg (by omega)]
    apply Ak
    unfold Cm;simp only[hlt,Co h0,Ce h1,Ah]
    rfl
  ·rw[if_neg (by omega)]
   apply Ak
   unfold Cm;simp only[hlt,Ce h0,Ah]
   rfl
theorem gD(t:List Int)(ht:t.length<=1000)(a:Int):Ge t a=some (E7 t a):=by
 unfold Ge E7;rw[lu t ht t.length a [] (by simp)]
 cases upD t _ a with
 | none=>rfl
 | some q=>rfl
theorem j9(t:List Int):∀ k a q,upD t k a=some q->q.length<=k/\1<=q.length:=by
 intro k
 induction k with
 | zero=>intro a q h;cases h
 | succ k ih=>
  intro a q h;unfold upD at h
  split at h
  ·split at h
   ·cases h;simp
   ·cases hu:upD t k _ with
    | none=>rw[hu]at h;cases h
    | some q'=>grind
  ·cases h
theorem XO(t:List Int)(a:Int):(E7 t a).length<=t.length:=by
 unfold E7
 cases h:upD t _ a with
 | none=>simp
 | some q=>exact(j9 t _ _ _ h).1
theorem pathD_nil{t:List Int}{a:Int}:E7 t a=[]↔upD t t.length a=none:=by
 unfold E7
 cases h:upD t _ a with
 | none=>simp
 | some q=>have:=(j9 t _ _ _ h).2;simp;intro e;subst e;simp at this
def topsK(t:List Int)(k:Nat):Nat:=((List.range k).filter λa=>decide (t.getD a 0 = -1)).length
def pc(t:List Int)(a:Nat):Bool:=decide (t.getD a 0 = -2) || !decide (E7 t (a:Int)=[])
def M2(t:List Int):Bool:=(List.range t.length).all (pc t)&&decide (topsK t t.length=1)
theorem FS(t:List Int)(k:Nat):topsK t (k+1)=topsK t k+if t.getD k 0 = -1 then 1 else 0:=by
 unfold topsK;rw[W0,Wv]
 by_cases h:t.getD k 0 = -1
 ·grind
 ·grind
theorem qN(t:List Int)(k:Nat):topsK t k<=k:=by
 exact P0 (List.length_filter_le ..) (by simp)
theorem pJ{l:List Int}:(((l.length:Nat):Int)==(0:Int))=decide (l=[]):=by
 cases l with
 | nil=>rfl
 | cons x l=>simp;omega
theorem gu(t:List Int)(ht:t.length<=1000):Ac (B0 t) ((0:Int),(0:Int))=some (bif (List.range t.length).all (pc t) then .inl ((topsK t t.length:Nat):Int) else .inr false):=by
 have body:∀ k,k<t.length->B0 t (((topsK t k:Nat):Int),(k:Int))=some (bif pc t k then .next (((topsK t (k+1):Nat):Int),((k+1:Nat):Int)) else .done (.inr false)):=λk hk=>by
  have hle:=qN t k;unfold B0;simp only[Am,B1 hk,Ah];rw[Ad (Fz hk)]
  have e1:(bif (t.getD k 0==(-1:Int)) then some (w64 (((topsK t k:Nat):Int)+1)) else some ((topsK t k:Nat):Int))=some ((topsK t (k+1):Nat):Int):=by
   rw[FS]
   by_cases h:t.getD k 0 = -1
   ·rw[if_pos h,zzL63.2 h,Ah,w1 (by omega)]
   ·rw[if_neg h,zzL30.2 h,Ax];rfl
  rw[e1,An]
  by_cases h2:t.getD k 0 = -2
  ·have hb:(t.getD k 0 !=(-2:Int))=false:=by rw[h2];rfl
   have ho:pc t k=true:=by unfold pc;rw[Co h2];rfl
   rw[hb,show(false==true)=false from rfl,Ax,An,Ax,Ax,Ad (Fz hk),w1 (by omega),ho,Ah]
  ·have hb:(t.getD k 0 !=(-2:Int))=true:=zzL100.2 h2
   have ho:pc t k = !decide (E7 t (k:Int)=[]):=by unfold pc;rw[Ce h2];rfl
   rw[hb,show(true==true)=true from rfl,Ah,gD t ht,An,Ah,pJ,Ad (Fz hk),w1 (by omega),ho]
   cases decide (E7 t (k:Int)=[])<;>rfl
 have:=H7 (B0 t) (λk=>(((topsK t k:Nat):Int),((k:Nat):Int))) (pc t) (.inl ((topsK t t.length:Nat):Int)) (.inr false) t.length (λi hi hp=>by
   show B0 t _=_;rw[body i hi,hp,Ah]) (λi hi hp=>by
   show B0 t _=_;rw[body i hi,hp,Ax]) (by
   show B0 t _=_
   unfold B0
   simp only[Da,Ax])
 exact this
theorem tP(t:List Int)(ht:t.length<=1000):Jy t=some (M2 t):=by
 unfold Jy M2;rw[gu t ht]
 cases(List.range _).all _ with
 | false=>rfl
 | true=>
  rw[ Ld]
  show some _=_
  have:(1:Int)=(1:Nat):=rfl;rw[this,GU]
theorem find_first(p:Int->Bool):∀ l:List Int,(∃ n,n<l.length/\(∀ i,i<n->p (l.getD i 0)=false)/\p (l.getD n 0)=true/\l.find? p=some (l.getD n 0))\/((∀ i,i<l.length->p (l.getD i 0)=false)/\l.find? p=none):=by
 intro l
 induction l with
 | nil=>grind
 | cons x l ih=>
  cases hx:p x with
  | true=>exact .inl ⟨0,by simp,λi hi=>absurd hi (Wz i),by simpa using hx,by simp[ hx]⟩
  | false=>
   rcases ih with⟨n,h1,h2,h3,h4⟩|⟨h1,h2⟩
   ·refine .inl ⟨n+1,by simpa using h1,λi hi=>?_,by simpa using h3,by grind⟩
    cases i with
    | zero=>simpa using hx
    | succ i=>grind
   ·grind
def Ra(t:List Int)(a b:Int):Int:=if M2 t=true then((E7 t a).find? λx=>(E7 t b).contains x).getD (-2) else -2
def Lt(t:List Int)(a b:Int):Bool:=Ra t a b==a&&Ra t a b !=-2
theorem wu(t:List Int)(ht:t.length<=1000)(a b:Int):Ko t a b=some (Ra t a b):=by
 unfold Ko Ra;rw[tP t ht,An]
 cases M2 t with
 | false=>rfl
 | true=>
  rw[Ds, gD t ht,An,gD t ht,An];have hp:=XO t a;have hq:=XO t b
  have body:∀ k,k<(E7 t a).length->Eh (E7 t a) (E7 t b) (k:Int)=some (bif (E7 t b).contains _ then .done _ else .next _):=λk hk=>by
   unfold Eh;simp only[Am,B1 hk];rw[Ad (Fz hk),pO _ _ (by omega), w1 (by omega),Ad (Fz hk)]
   cases(E7 t b).contains _<;>rfl
  rcases find_first (λx=>(E7 t b).contains x) (E7 t a) with⟨n,h1,h2,h3,h4⟩|⟨h1,h2⟩
  ·have:=Em (Eh (E7 t a) (E7 t b)) (λk=>(k:Nat)) (.inr ((E7 t a).getD n 0)) n (λk hk=>by
    grind) (by
    grind)
   have e:Ac _ (0:Int)=_:=this;rw[e, h4]
   rfl
  ·have:=Em (Eh (E7 t a) (E7 t b)) (λk=>((k:Nat):Int)) (.inl ()) (E7 t a).length (λk hk=>by
    grind) (by
    unfold Eh
    simp only[Da,Ax])
   have e:Ac _ (0:Int)=_:=this;rw[e, h2]
   rfl
section
variable {S:Nat->List Nat} {r n:Nat} {P:List Nat} {t:List Int}
theorem DomTree.up(h:DomTree S r n P t):∀ k x,x<n->Bs t x≠-2->pos (r::P) x<k->∃ q,upD t k (x:Int)=some q/\(∀ w:Int,w∈q↔∃ z:Nat,w=(z:Int)/\UpTo (Bs t) x z) /\
  ∀ p:Int->Bool,(q.find? p=none/\∀ z:Nat,UpTo (Bs t) x z->p (z:Int)=false)\/∃ f:Nat,q.find? p=some (f:Int)/\UpTo (Bs t) x f/\p (f:Int)=true/\∀ z:Nat,UpTo (Bs t) x z->p (z:Int)=true->UpTo (Bs t) f z:=by
 intro k
 induction k with
 | zero=>omega
 | succ k ih=>
  intro x hx hp hk
  have hxt:(0:Int)<=(x:Int)/\(x:Int)<(t.length:Int):=by rw[h.len];omega
  unfold upD;rw[if_pos hxt,Am];have hpx:t.getD x 0=Bs t x:=rfl;rw[hpx];rcases h.inv.kind x hx with h1|rfl|⟨z,hz⟩
  ·exact absurd h1 hp
  ·rw[if_pos h.inv.top];refine⟨_,rfl,λw=>?_,λp=>?_⟩
   ·rw[zzL16]
    constructor
    ·rintro rfl;exact⟨x,rfl,.refl _⟩
    ·rintro⟨z,rfl,hz⟩;rw[h.inv.root_anc.1 hz]
   ·cases hpp:p (x:Int) with
    | false=>exact .inl ⟨by simp[List.find?,hpp],λz hz=>by rw[h.inv.root_anc.1 hz];exact hpp⟩
    | true=>exact .inr ⟨x,by simp[List.find?,hpp],.refl _,hpp,λz hz _=>hz⟩
  ·obtain⟨z1,z2,z3,z4⟩:=h.inv.up x hx z hz;rw[hz,if_neg (by omega)];obtain⟨q,hq1,hq2,hq3⟩:=ih z z1 z2 (by omega);rw[hq1];refine⟨(x:Int)::q,rfl,λw=>?_,λp=>?_⟩
   ·rw[zzL37,hq2 w]
    constructor
    ·rintro(rfl|⟨y,rfl,hy⟩)
     ·exact⟨x,rfl,.refl _⟩
     ·exact⟨y,rfl,.up hz hy⟩
    ·rintro⟨y,rfl,hy⟩;rcases(anc_up hz).1 hy with rfl|hy
     ·exact .inl rfl
     ·exact .inr ⟨y,rfl,hy⟩
   ·cases hpp:p (x:Int) with
    | true=>exact .inr ⟨x,by simp[List.find?,hpp],.refl _,hpp,λy hy _=>hy⟩
    | false=>
     have hf:((x:Int)::q).find? p=q.find? p:=by simp[List.find?,hpp]
     rw[hf];rcases hq3 p with⟨e1,e2⟩|⟨f,e1,e2,e3,e4⟩
     ·refine .inl ⟨e1,λy hy=>?_⟩;rcases(anc_up hz).1 hy with rfl|hy
      ·exact hpp
      ·exact e2 y hy
     ·refine .inr ⟨f,e1,.up hz e2,e3,λy hy hpy=>?_⟩;rcases(anc_up hz).1 hy with rfl|hy
      ·rw[hpp]at hpy;cases hpy
      ·exact e4 y hy hpy
theorem Ordered.pos_lt(o:Ordered S r n P){x:Nat}(hx:x∈r::P):pos (r::P) x<n:=by
 obtain⟨j,hj,rfl⟩:=G7 hx;rw[(OK o.nodup hj).2];have:=Tl n _ o.nodup λy hy=>o.lt hy;omega
theorem DomTree.path(h:DomTree S r n P t)(o:Ordered S r n P){x:Nat}(hx:x<n)(hp:Bs t x≠-2):E7 t (x:Int)≠[]/\(∀ w:Int,w∈E7 t (x:Int)↔∃ z:Nat,w=(z:Int)/\UpTo (Bs t) x z) /\
  ∀ p:Int->Bool,((E7 t (x:Int)).find? p=none/\∀ z:Nat,UpTo (Bs t) x z->p (z:Int)=false)\/∃ f:Nat,(E7 t (x:Int)).find? p=some (f:Int)/\UpTo (Bs t) x f/\p (f:Int)=true/\∀ z:Nat,UpTo (Bs t) x z->p (z:Int)=true->UpTo (Bs t) f z:=by
 have hm:=(o.mem x).2 (h.inv.rc x hx hp);obtain⟨q,h1,h2,h3⟩:=h.up n x hx hp (o.pos_lt hm)
 have e:E7 t x=q:=by unfold E7;rw[h.len,h1];rfl
 rw[e];refine⟨λe=>?_,h2,h3⟩;have:=(h2 _).2 ⟨x,rfl,.refl _⟩;rw[e]at this
 cases this
theorem DomTree.nopath(h:DomTree S r n P t){x:Nat}(hx:x<n)(hp:Bs t x = -2):E7 t (x:Int)=[]:=by
 rw[pathD_nil]
 cases hl:t.length with
 | zero=>rfl
 | succ k=>
  unfold upD;rw[if_pos ⟨by omega,by rw[h.len];omega⟩,Am,show t.getD x 0=Bs t x from rfl,hp]
  cases k with
  | zero=>rfl
  | succ k =>   rfl
theorem DomTree.right(h:DomTree S r n P t)(o:Ordered S r n P):M2 t=true:=by
 unfold M2;rw[A6]
 constructor
 ·refine all_range.2 λx hx=>?_;rw[h.len]at hx;unfold pc
  by_cases hp:Bs t x = -2
  ·rw[show t.getD x 0=Bs t x from rfl,hp];rfl
  ·rw[Ce (h.path o hx hp).1];simp
 ·apply Co
  have key:∀ k,k<=n->topsK t k=if r<k then 1 else 0:=by
   intro k
   induction k with
   | zero=>intro _;rfl
   | succ k ih=>
    intro hk;rw[FS]
    have hr:t.getD k 0 = -1↔k=r:=by
     constructor
     ·intro he;rcases h.inv.kind k (by omega) with h1|h1|⟨z,hz⟩
      ·rw[show t.getD k 0=Bs t k from rfl]at he;omega
      ·exact h1
      ·rw[show t.getD k 0=Bs t k from rfl]at he;omega
     ·rintro rfl;exact h.inv.top
    by_cases hkr:k=r
    ·grind
    ·grind
  rw[h.len,key n (zzL6 _),if_pos o.hr]
theorem DomTree.meet(h:DomTree S r n P t)(o:Ordered S r n P){a b:Nat}(ha:a<n)(hb:b<n)(hpa:Bs t a≠-2)(hpb:Bs t b≠-2):∃ m:Nat,Ra t (a:Int) (b:Int)=(m:Int)/\MeetAt (Bs t) a b m/\m<n/\Bs t m≠-2:=by
 have rd:Ready S r n P t _:=⟨h.inv,h.len,λx hx=>by rw[Wx]at hx;exact h.full x (o.lt hx) ((o.mem x).1 hx)⟩;obtain⟨c,hc1,hc2,hc3⟩:=h.inv.meets (rd.inj o) dp _ a b (zzL6 _) ha hb hpa hpb;refine⟨c,?_,hc1,hc2,hc3⟩;unfold Ra;rw[if_pos (h.right o)];obtain⟨hca,hcb⟩:=(hc1 c).1 (.refl _)
 have hin:∀ z:Nat,(E7 t _).contains z=true↔UpTo (Bs t) b z:=λz=>by
  rw[zzL64,(h.path o hb hpb).2.1]
  constructor
  ·grind
  ·grind
 rcases(h.path o ha hpa).2.2 λx=>(E7 t b).contains x with⟨_,h2⟩|⟨f,h1,h2,h3,h4⟩
 ·grind
 ·rw[h1];have hfc:=h4 c hca ((hin c).2 hcb);have hcf:=(hc1 f).2 ⟨h2,(hin f).1 h3⟩;rw[h.inv.antisymm hcf hfc hc2 hc3]
  rfl
theorem DomTree.meet_none(h:DomTree S r n P t)(o:Ordered S r n P){a b:Nat}(ha:a<n)(hb:b<n)(hp:Bs t a = -2\/Bs t b = -2):Ra t (a:Int) (b:Int) = -2:=by
 unfold Ra;rw[if_pos (h.right o)];rcases hp with hp|hp
 ·rw[h.nopath ha hp];rfl
 ·rw[h.nopath hb hp]
  have:(E7 t a).find? (λx=>[].contains x)=none:=List.find?_eq_none.2 λx _=>by simp
  rw[this];rfl
theorem DomTree.over(h:DomTree S r n P t)(o:Ordered S r n P){a b:Nat}(ha:a<n)(hb:b<n):Lt t (a:Int) (b:Int)=true↔Bs t b≠-2/\UpTo (Bs t) b a:=by
 unfold Lt;rw[A6,zzL63,zzL100]
 by_cases hpa:Bs t a = -2
 ·rw[h.meet_none o ha hb (.inl hpa)]
  constructor
  ·omega
  ·rintro⟨h1,h2⟩;exact absurd hpa (h.inv.anc h2 hb h1).2.1
 ·by_cases hpb:Bs t b = -2
  ·rw[h.meet_none o ha hb (.inr hpb)]
   constructor
   ·omega
   ·grind
  ·obtain⟨m,hm1,hm2,hm3,hm4⟩:=h.meet o ha hb hpa hpb;rw[hm1]
   constructor
   ·rintro⟨h1,_⟩;have h1:=KP h1;subst h1;exact⟨hpb,((hm2 _).1 (.refl _)).2⟩
   ·rintro⟨_,h2⟩;have:=(hm2 a).2 ⟨.refl _,h2⟩;have h3:=((hm2 m).1 (.refl _)).1;rw[h.inv.antisymm h3 this ha hpa];exact⟨rfl,by omega⟩
theorem DomTree.over_dom(h:DomTree S r n P t)(o:Ordered S r n P){a b:Nat}(ha:a<n)(hb:b<n):Lt t (a:Int) (b:Int)=true↔Rc S r b/\¬ Av S r a b:=by
 rw[h.over o ha hb]
 constructor
 ·rintro⟨h1,h2⟩;exact⟨h.inv.rc b hb h1,(h.exact_ b hb h1 a).1 h2⟩
 ·rintro⟨h1,h2⟩;have:=h.full b hb h1;exact⟨this,(h.exact_ b hb this a).2 h2⟩
end
section
variable {L:List (List Int)} (hm:Mo L=true) {r:Nat} (hr:r<L.length)
include hm hr
theorem YC:∃ P,Ord (sN L) r (r::P)/\Ordered (sN L) r L.length P/\DomTree (sN L) r L.length P (Y3 L r):=by
 obtain⟨O,hO⟩:=Ord.exist (Wn hm) hr;obtain⟨P,rfl,o⟩:=hO.ordered hr (Wn hm);obtain⟨J,_,hJ⟩:=vB o;have hd:=ML o hJ;refine⟨P,hO,o,?_⟩;rw[<- hd.eq hm hr o];exact hd
end
theorem JL{X:Type}(n:Nat)(p:Nat->Bool)(f:Int->Option (LR Int X))(yes no:X)(hn:∀ i:Nat,i<n->p i=true->f (i:Int)=some (.next ((i:Int)+1)))
  (hf:∀ i:Nat,i<n->p i=false->f (i:Int)=some (.done no)) (he:f (n:Int)=some (.done yes)):Ac f (0:Int)=some (bif (List.range n).all p then yes else no):=by
 have hg:∀ i,i<(List.range n).length->(List.range n).getD i 0=i:=λi hi=>by grind
 have:=Hk (List.range n) 0 p f yes no (λi hi hp=>by grind) (λi hi hp=>by grind) (by simpa using he) n 0 (by simp);rw[show(0:Int)=(0:Nat) from rfl,this,N9]
theorem fQ{n:Nat}{p:Nat->Bool}(h:(List.range n).all p=true):∀ i,i<n->p i=true:=λi hi=>zzL26.1 h i (by simpa using hi)
def Q0(L:List (List Int)):List Bool:=HY (sN L) L.length ((List.replicate L.length false).set 0 true) L.length
def Jo(l:List Int)(p:A8):Bool:=decide (p.From=l)&&((p.Args.length:Int)==(l.length:Int))
def K7(L:List (List Int))(b:Ae)(i:Nat):Bool:=(Q0 L).getD i false&&!((b.End.Kind==1 || b.End.Kind==3)&&(b.End.Arg !=0))&&b.Phis.all (Jo ((Dq L).getD i []))
def Fe(f:TFunc):Bool:=Gp f&&(List.range f.Blocks.length).all λi=>K7 (A1 f) (f.Blocks.getD i default) i
theorem Lw(f:TFunc):(A1 f).length=f.Blocks.length:=by simp[A1]
theorem dt(L:List (List Int)):(Q0 L).length=L.length:=by rw[Q0,Yd];simp
theorem sb{a b c d:Bool}{x:Option (LR Int (Unit ⊕ Bool))}:(bif (bif (!a) then true else(bif (bif b then true else c) then d else false)) then some (LR.done (Sum.inr false)) else x)=bif (a&&!((b || c)&&d)) then x else some (LR.done (Sum.inr false)):=by
 grind
theorem tQ {f : TFunc} (hf : OkF f) : Jz f = some (Fe f) := by
  have hmax : f.Blocks.length ≤ maxLen := by have := hf.blocks; have : (64 : Nat) ≤ maxLen := by decide
                                             omega
  unfold Jz Fe; rw [dI f hmax, An]
  cases hs : Gp f with
  | false => rfl
  | true =>
    have hm := Jp hs; have hlen := Lw f; obtain ⟨h1, h2⟩ := Tk hm
    have hpos : 0 < (A1 f).length := by have := (shape_iff.1 hs).1.1; omega
    simp only [Ah, Ld]; have hr := tO hm hpos; rw [show (((0 : Nat) : Int)) = 0 from rfl] at hr; rw [hr, An]
    show ((Ac (Fp f (Kd (A1 f), 0) (Q0 (A1 f))) 0).bind _) = _
    have hphi : ∀ i, i < f.Blocks.length → Ac _ (0 : Int) = some _ := fun i hi => by
      have hmem := Ag (d := (default : Ae)) hi; have hB := hf.block _ hmem
      have hpl : (Kd (A1 f)).Pred.length = f.Blocks.length := by rw [← hlen]; exact Pp _
      have hpi : A2 (i : Int) (Kd (A1 f)).Pred.length := Ai (by omega)
      have key : ∀ j, j < (f.Blocks.getD i default).Phis.length → Fo f (Kd (A1 f), 0) (i : Int) (j : Int) = some (bif Jo ((Dq (A1 f)).getD i []) _ then .next ((j : Int) + 1) else .done (.inr false)) := fun j hj => by
        have hp := RC hf hmem (Ag (d := (default : A8)) hj); unfold Fo
        have hd : decide ((j : Int) < ((f.Blocks.getD i default).Phis.length : Int)) = true := by simpa using hj
        have hi1 := f9 ((f.Blocks.getD i default).Phis.getD j default).From ((Kd (A1 f)).Pred.getD i []) (by omega); simp only [C9, hd, Ah, Aa (Ai hj), Aa hpi, hi1, An]; rw [Aa (fun _ => Ai hj), Aa (fun _ => hpi), A0 hj (by have := hB.phis; omega)]; unfold Jo
        show (bif (bif (!decide (((f.Blocks.getD i default).Phis.getD j default).From = (Dq (A1 f)).getD i [])) then true else ((((f.Blocks.getD i default).Phis.getD j default).Args.length : Int) != (((Dq (A1 f)).getD i []).length : Int))) then _ else _) = _
        cases decide (((f.Blocks.getD i default).Phis.getD j default).From = (Dq (A1 f)).getD i []) with
        | false => rfl
        | true =>
          grind
      have := Hk (f.Blocks.getD i default).Phis (default : A8) (Jo ((Dq (A1 f)).getD i [])) (Fo f (Kd (A1 f), 0) (i : Int)) (.inl ()) (.inr false) (fun j hj hp => by rw [key j hj, hp]; rfl) (fun j hj hp => by rw [key j hj, hp]; rfl) (by unfold Fo; simp) (f.Blocks.getD i default).Phis.length 0 (by omega); rw [N9] at this; exact this
    have hrl := dt (A1 f)
    have key : ∀ i, i < f.Blocks.length → Fp f (Kd (A1 f), 0) (Q0 (A1 f)) (i : Int) = some (bif K7 (A1 f) (f.Blocks.getD i default) i then .next ((i : Int) + 1) else .done (.inr false)) := fun i hi => by
      unfold Fp
      have hd : decide ((i : Int) < (f.Blocks.length : Int)) = true := by simpa using hi
      simp only [hd, Ah, Aa (Ai hi), Aa (Ai (show i < (Q0 (A1 f)).length by omega)), C9, sb, hphi i hi, An, A0 hi (by have := hf.blocks; omega)]; unfold K7
      cases ((Q0 (A1 f)).getD i false && !(((f.Blocks.getD i default).End.Kind == 1 || (f.Blocks.getD i default).End.Kind == 3) && ((f.Blocks.getD i default).End.Arg != 0))) with
      | false => rfl
      | true => grind
    rw [JL f.Blocks.length (fun i => K7 (A1 f) (f.Blocks.getD i default) i) _ (.inl ()) (.inr false) (fun i hi hp => by rw [key i hi, hp]; rfl) (fun i hi hp => by rw [key i hi, hp]; rfl) (by unfold Fp; simp)]
    cases (List.range f.Blocks.length).all _ <;> rfl
theorem YA{f:TFunc}(h:Fe f=true):jr f:=λb hb p hp=>by
 simp only[Fe,A6]at h;obtain⟨i,hi,rfl⟩:=G7 hb;have h1:=fQ h.2 i hi;rw[Ab _ _ _ hi]at h1;simp only[K7,A6]at h1;have h2:=zzL26.1 h1.2 p hp;simp only[Jo,A6,Gr,zzL63]at h2;rw[h2.1];omega
def Rb(l:List Bz)(i:Nat):Bool:=valS (l.getD i default).V&&(Lp l (l.getD i default).V==(i:Int))
def K0(l:List Bz)(u:Cq):Bool:=!decide (Lp l u.V<0)
def defOf(l:List Bz)(v:Int):Bz:=l.getD (Lp l v).toNat default
def U0(l:List Bz)(u:Cq):Bool:=((defOf l u.V).Shape.1==u.Shape.1)&&(((defOf l u.V).Shape.2==u.Shape.2)&&true)
def Uz(l:List Bz)(t:List Int)(u:Cq):Bool:=
 (decide ((defOf l u.V).Block<0) || ((defOf l u.V).Block==u.Block&&decide ((defOf l u.V).At<u.At))) || (!((defOf l u.V).Block==u.Block)&&!(Ra t (defOf l u.V).Block u.Block !=(defOf l u.V).Block))
def B8(f:TFunc):List Int:=MM (Kd (A1 f)) 0
def SK(f:TFunc)(l:Int):Int:=
 bif !Fe f then 5 else bif !M3 f l then 6 else bif !(List.range (Au f).length).all (Rb (Au f)) then 7 else bif !(Bh f).all (K0 (Au f)) then 7 else
 bif !(Bh f).all (U0 (Au f)) then 6 else bif !(Bh f).all (Uz (Au f) (B8 f)) then 7 else 0
def D8(f:TFunc)(l:Int):Int:=bif decide (l<0) || decide (2<l) then 1 else bif !Qv f then 4 else SK f l
theorem PQ{l:List Bz}{v:Int}(h:¬ Lp l v<0):A2 (Lp l v) l.length:=by
 unfold Lp at h ⊢
 cases hx:l.findIdx? _ with
 | none=>grind
 | some i=>
  obtain⟨hi,_⟩:=List.findIdx?_eq_some_iff_getElem.1 hx;exact Ai hi
theorem eL{f:TFunc}(h:Gp f=true):(B8 f).length<=1000:=by
 have h1:=(Tk (Jp h)).1;unfold B8 MM
 split
 ·rw[YD];show(A1 f).length<=1000;omega
 ·simp
theorem sx(a b c:Bool)(m q x:Int):(Option.bind (α:=Unit ⊕ Int) (bif (bif a then true else(bif b then c else false)) then some (.inl ()) else((bif (b==false) then some m else some 0).bind λx31=>(bif (bif b then true else(x31 !=q)) then some (.inr 7) else some (.inl ())))) (λx32=>match x32 with | .inl _=>some (LR.next x) | .inr r34=>some (.done (.inr r34)))) =
  (some (bif (a || (b&&c)) || (!b&&!(m !=q)) then .next x else .done (.inr 7)):Option (LR Int (Unit ⊕ Int))):=by
 grind
theorem tX {f : TFunc} (hf : OkF f) (l : Int) (hm : Iv f = some (Qv f)) : D9 f l = some (D8 f l) := by
  unfold D9 D8; rw [show (bif decide (l < (0 : Int)) then true else decide ((2 : Int) < l)) = (decide (l < 0) || decide (2 < l)) by cases decide (l < (0 : Int)) <;> rfl]
  cases (decide (l < 0) || decide (2 < l)) with
  | true => rfl
  | false =>
  simp only [Ax, hm, An]
  cases Qv f with
  | false => rfl
  | true =>
  simp only [Ds, Ax, tQ hf, An, SK]
  cases hs : Fe f with
  | false => rfl
  | true =>
  simp only [Ds, Ax, tR hf, An]
  cases ht : M3 f l with
  | false => rfl
  | true =>
  simp only [Ds, Ax, wr hf, An]; have hdl := lL hf; have hul := KH hf
  have hL1 : Ac (S := Int) (X := (Unit ⊕ Int)) (Fn (Au f)) (0 : Int) = some (bif (List.range (Au f).length).all (Rb (Au f)) then .inl () else .inr 7) := by
    have key : ∀ i, i < (Au f).length → Fn (Au f) (i : Int) = some (bif Rb (Au f) i then .next ((i : Int) + 1) else .done (.inr 7)) := fun i hi => by
      unfold Fn Rb
      have hd : decide ((i : Int) < ((Au f).length : Int)) = true := by simpa using hi
      simp only [hd, Ah, Aa (Ai hi), C9, DQ, An, Aa (fun _ => Ai hi), ab (Au f) _ (by omega), A0 hi (by omega)]
      cases valS ((Au f).getD i default).V with
      | false => rfl
      | true =>
        grind
    exact JL _ _ _ _ _ (fun i hi hp => by rw [key i hi, hp]; rfl) (fun i hi hp => by rw [key i hi, hp]; rfl) (by unfold Fn; simp)
  rw [hL1, An]
  cases (List.range (Au f).length).all (Rb (Au f)) with
  | false => rfl
  | true =>
  simp only [Ah, Ds, Ax, ww hf (YA hs), An]
  have hL2 : Ac (S := Int) (X := (Unit ⊕ Int)) (D3 (Au f) (Bh f)) (0 : Int) = some (bif (Bh f).all (K0 (Au f)) then .inl () else .inr 7) := by
    have key : ∀ i, i < (Bh f).length → D3 (Au f) (Bh f) (i : Int) = some (bif K0 (Au f) ((Bh f).getD i default) then .next ((i : Int) + 1) else .done (.inr 7)) := fun i hi => by
      unfold D3 K0
      have hd : decide ((i : Int) < ((Bh f).length : Int)) = true := by simpa using hi
      simp only [hd, Ah, Aa (Ai hi), C9, ab (Au f) _ (by omega), An, A0 hi (by omega)]
      cases decide (Lp (Au f) ((Bh f).getD i default).V < 0) <;> rfl
    have := Hk (Bh f) default (K0 (Au f)) (D3 (Au f) (Bh f)) (.inl ()) (.inr 7) (fun i hi hp => by rw [key i hi, hp]; rfl) (fun i hi hp => by rw [key i hi, hp]; rfl) (by unfold D3; simp) (Bh f).length 0 (by omega); rw [N9] at this; exact this
  rw [hL2, An]
  cases hF : (Bh f).all (K0 (Au f)) with
  | false => rfl
  | true =>
  have hfound : ∀ i, i < (Bh f).length → A2 (Lp (Au f) ((Bh f).getD i default).V) (Au f).length := fun i hi => by
    have := zzL26.1 hF _ (Ag (d := (default : Cq)) hi); simp only [K0, Y6, SP] at this; exact PQ this
  simp only [Ah, Ds, Ax]
  have hL3 : Ac (S := Int) (X := (Unit ⊕ Int)) (D4 (Au f) (Bh f)) (0 : Int) = some (bif (Bh f).all (U0 (Au f)) then .inl () else .inr 6) := by
    have key : ∀ i, i < (Bh f).length → D4 (Au f) (Bh f) (i : Int) = some (bif U0 (Au f) ((Bh f).getD i default) then .next ((i : Int) + 1) else .done (.inr 6)) := fun i hi => by
      unfold D4 U0 defOf
      have hd : decide ((i : Int) < ((Bh f).length : Int)) = true := by simpa using hi
      simp only [hd, Ah, Aa (Ai hi), C9, ab (Au f) _ (by omega), An, Aa (hfound i hi), A0 hi (by omega)]
      cases ((((Au f).getD (Lp (Au f) ((Bh f).getD i default).V).toNat default).Shape.1 == ((Bh f).getD i default).Shape.1) && ((((Au f).getD (Lp (Au f) ((Bh f).getD i default).V).toNat default).Shape.2 == ((Bh f).getD i default).Shape.2) && true)) <;> rfl
    have := Hk (Bh f) default (U0 (Au f)) (D4 (Au f) (Bh f)) (.inl ()) (.inr 6) (fun i hi hp => by rw [key i hi, hp]; rfl) (fun i hi hp => by rw [key i hi, hp]; rfl) (by unfold D4; simp) (Bh f).length 0 (by omega); rw [N9] at this; exact this
  rw [hL3, An]
  cases (Bh f).all (U0 (Au f)) with
  | false => rfl
  | true =>
  have hsB : Gp f = true := by simp only [Fe, A6] at hs; exact hs.1
  have hmax : f.Blocks.length ≤ maxLen := by have := hf.blocks; have : (64 : Nat) ≤ maxLen := by decide
                                             omega
  simp only [Ah, Ds, Ax, dI f hmax, hsB, An]; rw [gE _ (HF (Jp hsB)).1 0, An]; have htl := eL hsB
  have hL4 : Ac (S := Int) (X := (Unit ⊕ Int)) (C5 (Au f) (Bh f) (B8 f)) (0 : Int) = some (bif (Bh f).all (Uz (Au f) (B8 f)) then .inl () else .inr 7) := by
    have key : ∀ i, i < (Bh f).length → C5 (Au f) (Bh f) (B8 f) (i : Int) = some (bif Uz (Au f) (B8 f) ((Bh f).getD i default) then .next ((i : Int) + 1) else .done (.inr 7)) := fun i hi => by
      unfold C5 Uz defOf
      have hd : decide ((i : Int) < ((Bh f).length : Int)) = true := by simpa using hi
      simp only [hd, Ah, Aa (Ai hi), C9, ab (Au f) _ (by omega), An, Aa (hfound i hi), A0 hi (by omega), wu (B8 f) htl]; exact sx _ _ _ _ _ _
    have := Hk (Bh f) default (Uz (Au f) (B8 f)) (C5 (Au f) (Bh f) (B8 f)) (.inl ()) (.inr 7) (fun i hi hp => by rw [key i hi, hp]; rfl) (fun i hi hp => by rw [key i hi, hp]; rfl) (by unfold C5; simp) (Bh f).length 0 (by omega); rw [N9] at this; exact this
  show ((Ac (C5 (Au f) (Bh f) (B8 f)) 0).bind _) = _
  rw [hL4, An]
  cases (Bh f).all (Uz (Au f) (B8 f)) <;> rfl
def grow(n d:Int):Int:=bif decide (n<d) then d else n
def Sm(f:TFunc):Prop:=VY f/\Db f=some true
theorem jy{f:TFunc}(h:Sm f)(hm:Qv f=true):OkF f:=by
 obtain⟨sm,h1,h2⟩:=MK f h.1;rw[h.2]at h1;exact(h2 (OI h1).symm hm).1
theorem lb{f:TFunc}(hf:VY f):∃ b,Ea f=some b/\(b=true->Sm f):=by
 obtain⟨x,hx⟩:∃ x,Ac _ ((0:Int),(0:Int))=some x:=by
  refine Tu f.Blocks.length (Ch f) (λn i hi=>.inl ?_) (λn=>?_) f.Blocks.length 0 0 (by omega)
  ·unfold Ch
   have hd:decide (i<(f.Blocks.length:Int))=true:=by simpa using hi
   simp only[hd, Aa (Ai hi),K4 hi hf.blocks];exact⟨_,rfl⟩
  ·unfold Ch;exact⟨n,by simp⟩
 obtain⟨sm,h1⟩:=SD f hf;unfold Ea;rw[hx, h1];refine⟨_,rfl,λhb=>⟨hf,?_⟩⟩
 cases sm with
 | true=>exact h1
 | false=>cases hb
theorem dE{f:TFunc}(h:Sm f)(l:Int):D9 f l=some (D8 f l):=by
 have hm:=uE f h.1
 cases hb:Qv f with
 | true=>exact tX (jy h hb) l hm
 | false=>
  unfold D9 D8;rw[show(bif decide _ then true else decide _)=(decide (l<0) || decide (2<l)) by grind]
  cases(decide (l<0) || decide (2<l)) with
  | true=>rfl
  | false=>grind
structure yY(f:TFunc)(s:List (Int×(Int×Int))):Prop where
 none:D8 f 2≠0->s.length=0
 len:D8 f 2=0->s.length=(Au f).length
 get:D8 f 2=0->∀ d∈Au f,Fy ((0:Int),(0:Int)) s d.V=d.Shape
 has:D8 f 2=0->∀ v,Ec s v=true->∃ d∈Au f,d.V=v
theorem zZ{f:TFunc}(hf:VY f)(h0:f.Params.length<=64)(hb:∀ b∈f.Blocks,b.End.To.length<=64/\(∀ p∈b.Phis,p.From.length<=64/\p.Args.length<=64)/\∀ o∈b.Ops,o.Args.length<=64)(he:fg f<=20000):Sm f:=
 ⟨hf,by rw[eG f hf h0 hb,Co he]⟩
def XT(f:TFunc):Int:=
 bif !(List.range (Au f).length).all (Rb (Au f)) then 7 else bif !(Bh f).all (K0 (Au f)) then 7 else
 bif !(Bh f).all (U0 (Au f)) then 6 else bif !(Bh f).all (Uz (Au f) (B8 f)) then 7 else 0
theorem PE{f:TFunc}{l:Int}(h0:0<=l)(h2:l<=2):D8 f l=0↔Qv f=true/\Fe f=true/\M3 f l=true/\XT f=0:=by
 unfold D8 SK;rw[Ce (show ¬ l<0 by omega),Ce (show ¬ 2<l by omega)]
 have e:(bif !(List.range _).all _ then 7 else bif !(Bh f).all _ then 7 else
  bif !(Bh f).all _ then 6 else bif !(Bh f).all _ then 7 else 0)=XT f:=rfl
 rw[e]
 cases Qv f<;>cases Fe f<;>cases M3 f l<;>simp
theorem pH{o:Bv}(h:Gs o=true):1<=o.Lanes:=by
 simp only[Gs,A6]at h;have:=shape_lanes h.1.1;omega
theorem uK{α:Type}(l:List α)(g:α->Nat):(l.map λa=>g a+1).sum=l.length+(l.map g).sum:=by
 induction l with
 | nil=>rfl
 | cons a l ih=>grind
theorem qV(a b:Int):w64 (a+w64 b)=w64 (a+b):=by rw[Int.add_comm,U8,Int.add_comm]
theorem vD(f:TFunc)(hf:VY f):Hb f=some (sizeW f):=by
 have hl:=DJ f.Blocks default (λb=>b.Phis.length+b.Ops.length) id (Qj f) (λn i hi=>?_) (λn=>?_) _ 0 f.Blocks.length (E8 _)
 ·unfold Hb;rw[U9 (by have:=hf.blocks;rw[Oe]at this;omega),show((0:Nat):Int)=0 from rfl]at hl;rw[hl,  sizeW,sizeN,show Ez=(λb=>(b.Phis.length+b.Ops.length)+1) from rfl,uK]
  rfl
 ·have e1:decide (i<(f.Blocks.length:Int))=true:=Co (by omega);unfold Qj;simp only[e1,Ah,Aa (Ai hi),C9,K4 hi hf.blocks,qV,U8];rw[show n+((f.Blocks.getD i default).Phis.length+(f.Blocks.getD i default).Ops.length)=((n+((f.Blocks.getD i default).Phis.length+(f.Blocks.getD i default).Ops.length):Nat):Int) by omega]
 ·have e1:decide (f.Blocks.length<(f.Blocks.length:Int))=false:=by simp
  unfold Qj;simp only[e1,Ax,id]
theorem GQ{α:Type}(l:List α)(d:α)(p:α->Bool)(f:Int->Option (LR Int (Unit ⊕ Bool)))(hn:∀ i:Nat,i<l.length->f i=bif p (l.getD i d) then some (.next ((i:Int)+1)) else some (.done (.inr false)))
  (he:f l.length=some (.done (.inl ()))):Ac f 0=some (bif l.all p then .inl () else .inr false):=by
 have:=Hk l d p f _ _ (λi hi hp=>by rw[hn i hi,hp];rfl) (λi hi hp=>by rw[hn i hi,hp];rfl) he _ 0 (E8 _)
 simpa using this
theorem ll(x:Int):(bif decide (x<0) then true else decide (2147483647<x)) = !numB x:=by
 unfold numB
 by_cases h1:x<0
 ·grind
 ·grind
theorem YI(l:List Int)(h:l.length<=maxLen):Eb l=some (l.all numB):=by
 have hl:=GQ l 0 numB (Ki l) (λi hi=>?_) ?_
 ·unfold Eb;rw[hl]
  cases l.all _<;>rfl
 ·have e1:decide ((i:Int)<l.length)=true:=Co (by omega);unfold Ki;simp only[e1, Aa (Ai hi),C9,ll,K4 hi h]
  cases numB _<;>simp
 ·unfold Ki
  simp
theorem DU(l:List Int)(h:l.length<=maxLen):Iq l=some (listB l):=by
 unfold Iq;rw[YI l h]
 by_cases h1:l.length<=64
 ·have e1:decide ((l.length:Int)<=64)=true:=Co (by omega);rw[e1];simp[listB,h1]
 ·have e1:decide ((l.length:Int)<=64)=false:=Ce (by omega);rw[e1];simp[listB,h1]
theorem DT{l:List Int}(h:l.length<=10):l.length<=maxLen:=by rw[Oe];omega
theorem qe(p:A8)(h1:p.From.length<=maxLen)(h2:p.Args.length<=maxLen):Ql p=some (FL p):=by
 unfold Ql FL;rw[YI _ (DT (by simp)),DU _ h1,DU _ h2];simp only[Vw,List.all_nil,FY]
 cases numB p.Bits<;>cases numB p.Dst<;>cases listB p.From<;>cases listB p.Args<;>rfl
theorem uT(o:Bv)(h1:o.Args.length<=maxLen):Rz o=some (ei o):=by
 unfold Rz ei;rw[YI _ (DT (by simp)),DU _ h1];simp only[Vw,List.all_nil,FY]
 cases numB o.Kind<;>cases numB o.Bits<;>cases numB o.Lanes<;>cases numB o.Dst<;>cases listB o.Args<;>rfl
theorem qa(e:J9)(h1:e.To.length<=maxLen):Qk e=some (cW e):=by
 unfold Qk cW;rw[YI _ (DT (by simp)),DU _ h1];simp only[Vw,List.all_nil,FY]
 cases numB e.Kind<;>cases numB e.Arg<;>cases listB e.To<;>rfl
theorem QV{X:Type}(b:Bool)(x y:X):(bif !b then x else y)=bif b then y else x:=by cases b<;>rfl
theorem mQ(l:List A8)(hl:l.length<=maxLen)(h:∀ p∈l,p.From.length<=maxLen/\p.Args.length<=maxLen):Jw l=some (l.all FL):=by
 have hl':=GQ l (default:A8) FL (Hx l) (λi hi=>?_) ?_
 ·unfold Jw;rw[hl']
  cases l.all FL<;>rfl
 ·have e1:decide ((i:Int)<(l.length:Int))=true:=Co (by omega);have:=h _ (Ag (d:=(default:A8)) hi);unfold Hx;simp only[e1,Ah,Aa (Ai hi),C9,qe _ this.1 this.2,An,QV,K4 hi hl,Int.natCast_add,Int.natCast_one]
 ·unfold Hx
  simp
theorem qd(l:List Bv)(hl:l.length<=maxLen)(h:∀ o∈l,o.Args.length<=maxLen):Kh l=some (l.all ei):=by
 have hl':=GQ l (default:Bv) ei (Ie l) (λi hi=>?_) ?_
 ·unfold Kh;rw[hl']
  cases l.all ei<;>rfl
 ·have e1:decide ((i:Int)<(l.length:Int))=true:=Co (by omega);have:=h _ (Ag (d:=(default:Bv)) hi);unfold Ie;simp only[e1,Ah,Aa (Ai hi),C9,uT _ this,An,QV,K4 hi hl,Int.natCast_add,Int.natCast_one]
 ·unfold Ie
  simp
theorem hZ(b:Ae)(h1:b.Phis.length<=maxLen)(h2:b.Ops.length<=maxLen)(h3:b.End.To.length<=maxLen)(h4:∀ p∈b.Phis,p.From.length<=maxLen/\p.Args.length<=maxLen)(h5:∀ o∈b.Ops,o.Args.length<=maxLen):Oc b=some (blockB b):=by
 unfold Oc blockB;rw[mQ _ h1 h4,qd _ h2 h5,qa _ h3]
 cases b.Phis.all FL<;>cases b.Ops.all ei<;>cases cW b.End<;>rfl
theorem eR(f:TFunc)(hf:VY f):Ic f.Blocks=some (f.Blocks.all blockB):=by
 have hl':=GQ f.Blocks (default:Ae) blockB (Gx f.Blocks) (λi hi=>?_) ?_
 ·unfold Ic;rw[hl']
  cases f.Blocks.all blockB<;>rfl
 ·have e1:decide ((i:Int)<(f.Blocks.length:Int))=true:=Co (by omega);have hm:=Ag (d:=(default:Ae)) hi;have q:=hf.block _ hm;unfold Gx;simp only[e1,Ah,Aa (Ai hi),C9,hZ _ q.1 q.2.1 q.2.2 (hf.phi _ hm) (λo ho=>(hf.op _ hm o ho).1),An,QV,K4 hi hf.blocks,Int.natCast_add,Int.natCast_one]
 ·unfold Gx
  simp
theorem Aau(f:TFunc)(hf:VY f):Xs f=some (Qv f):=by
 unfold Xs Qv;rw[vD f hf,YI _ hf.params,YI _ (DT (by simp)),eR f hf];simp only[Vw,List.all_nil,FY,listB]
 have d1:∀ n:Nat,decide ((n:Int)<1) = !decide (1<=n):=λn=>by by_cases h:1<=n<;>simp[h]<;>omega
 have d2:∀ n:Nat,decide ((64:Int)<(n:Int)) = !decide (n<=64):=λn=>by by_cases h:n<=64<;>simp[h]<;>omega
 have d3:∀ n:Nat,decide ((16:Int)<(n:Int)) = !decide (n<=16):=λn=>by by_cases h:n<=16<;>simp[h]<;>omega
 have d4:∀ n:Int,decide ((512:Int)<n) = !decide (n<=512):=λn=>by by_cases h:n<=512<;>simp[h]<;>omega
 simp only[d1,d2,d3,d4]
 have himp:decide (f.Params.length<=16)=true->decide (f.Params.length<=64)=true:=λh=>by simp at h ⊢;omega
 revert himp
 generalize decide (1<=f.Blocks.length)=c1
 generalize decide (f.Blocks.length<=64)=c2
 generalize decide (f.Params.length<=16)=c3
 generalize decide (f.Params.length<=64)=c4
 generalize f.Params.all numB=c6
 generalize numB f.Ret=c7
 generalize f.Blocks.all blockB=c8
 cases c3 with
 | true=>
  intro h;obtain rfl:=h rfl;simp only[Ds,Vc,Ah,An,Ax]
  generalize decide (sizeW f<=512)=c5
  cases c1<;>cases c2<;>cases c6<;>cases c7<;>cases c8<;>cases c5<;>rfl
 | false=>
  intro _
  cases c1<;>cases c2<;>rfl
inductive Tp (t:List Int):Nat->Nat->Nat->Prop
 | top {x:Nat} (hx:x<t.length) (h:t.getD x 0 = -1):Tp t x x 0
 | up {x y r k:Nat} (hx:x<t.length) (h:t.getD x 0=(y:Int)) (hk:Tp t y r k):Tp t x r (k+1)
section
variable {t:List Int}
theorem Tp.lt{x r k:Nat}(h:Tp t x r k):x<t.length:=by cases h<;>assumption
theorem Tp.tops{x r k:Nat}(h:Tp t x r k):r<t.length/\t.getD r 0 = -1:=by
 induction h with
 | top hx h=>exact⟨hx,h⟩
 | up _ _ _ ih=>exact ih
theorem Tp.det{x r k r' k':Nat}(h:Tp t x r k)(h':Tp t x r' k'):r=r'/\k=k':=by
 induction h generalizing k' with
 | top hx h=>cases h' with
  | top=>exact⟨rfl,rfl⟩
  | up _ h2 _=>omega
 | up hx h1 _ ih=>cases h' with
  | top _ h2=>omega
  | up _ h2 k2=>
   grind
theorem Tp.upTo{x r k:Nat}(h:Tp t x r k):UpTo (Bs t) x r:=by
 induction h with
 | top=>exact .refl _
 | up _ h _ ih=>exact .up h ih
theorem Tp.on{x r k z:Nat}(h:Tp t x r k)(hz:UpTo (Bs t) x z):∃ j,j<=k/\Tp t z r j/\(j=k->z=x):=by
 induction hz generalizing k with
 | refl x=>grind
 | up hp _ ih=>
  cases h with
  | top _ h2=>have :=hp.symm.trans h2;omega
  | up _ h2 k2=>
   have :=hp.symm.trans h2
   cases KP this
   obtain⟨j,h1,h3,_⟩:=ih k2;exact⟨j,by omega,h3,λe=>by omega⟩
theorem Tp.anti{x r k z:Nat}(h:Tp t x r k)(h1:UpTo (Bs t) x z)(h2:UpTo (Bs t) z x):z=x:=by
 obtain⟨j,j1,j2,j3⟩:=h.on h1;obtain⟨i,i1,i2,i3⟩:=j2.on h2;have:=h.det i2;exact j3 (by omega)
theorem Tp.list{x r k:Nat}(h:Tp t x r k):∃ l:List Nat,l.length=k+1/\l.Nodup/\∀ y∈l,y<t.length/\∃ j,j<=k/\Tp t y r j:=by
 induction h with
 | top hx h=>exact⟨[_],rfl,by simp,λy hy=>by rw[zzL16.1 hy];exact⟨hx,0,zzL6 _,.top hx h⟩⟩
 | @up x y r k hx h hk ih=>
  obtain⟨l,h1,h2,h3⟩:=ih;refine⟨x::l,by simp[h1],zzL113.2 ⟨λhm=>?_,h2⟩,λz hz=>?_⟩
  ·obtain⟨_,j,hj,hj2⟩:=h3 _ hm;have:=(Tp.up hx h hk).det hj2;omega
  ·rcases zzL37.1 hz with rfl|hz
   ·exact⟨hx,k+1,zzL6 _,.up hx h hk⟩
   ·grind
theorem Tp.short{x r k:Nat}(h:Tp t x r k):k<t.length:=by
 obtain⟨l,h1,h2,h3⟩:=h.list;have:=Tl _ l h2 λy hy=>(h3 y hy).1;omega
theorem Tp.upD{x r k:Nat}(h:Tp t x r k):∀ m,k<m->∃ q,upD t m (x:Int)=some q/\(∀ w:Int,w∈q↔∃ z:Nat,w=(z:Int)/\UpTo (Bs t) x z) /\
  ∀ p:Int->Bool,(q.find? p=none/\∀ z:Nat,UpTo (Bs t) x z->p (z:Int)=false)\/∃ f:Nat,q.find? p=some (f:Int)/\UpTo (Bs t) x f/\p (f:Int)=true/\∀ z:Nat,UpTo (Bs t) x z->p (z:Int)=true->UpTo (Bs t) f z:=by
 induction h with
 | @top x hx h=>
  intro m hm;obtain⟨m,rfl⟩:∃ i,m=i+1:=⟨m-1,by omega⟩
  have htop:∀ z,UpTo (Bs t) x z↔z=x:=λz=>NT λp hp=>by have:_=_:=hp.symm.trans h;omega
  unfold Go.Proofs.YtfhggcbcamamdaaGreat.upD;rw[if_pos ⟨by omega,by omega⟩,Am,if_pos h];refine⟨_,rfl,λw=>?_,λp=>?_⟩
  ·grind
  ·grind
 | @up x y r k hx h hk ih=>
  intro m hm;obtain⟨m,rfl⟩:∃ i,m=i+1:=⟨m-1,by omega⟩;unfold Go.Proofs.YtfhggcbcamamdaaGreat.upD;rw[if_pos ⟨by omega,by omega⟩,Am,if_neg (by omega),h];obtain⟨q,hq1,hq2,hq3⟩:=ih m (by omega);rw[hq1];refine⟨(x:Int)::q,rfl,λw=>?_,λp=>?_⟩
  ·rw[zzL37,hq2 w]
   constructor
   ·rintro(rfl|⟨y,rfl,hy⟩)
    ·exact⟨x,rfl,.refl _⟩
    ·exact⟨y,rfl,.up h hy⟩
   ·rintro⟨y,rfl,hy⟩;rcases(anc_up h).1 hy with rfl|hy
    ·exact .inl rfl
    ·exact .inr ⟨y,rfl,hy⟩
  ·cases hpp:p (x:Int) with
   | true=>exact .inr ⟨x,by simp[List.find?,hpp],.refl _,hpp,λy hy _=>hy⟩
   | false=>
    have hf:((x:Int)::q).find? p=q.find? p:=by simp[List.find?,hpp]
    rw[hf];rcases hq3 p with⟨e1,e2⟩|⟨f,e1,e2,e3,e4⟩
    ·refine .inl ⟨e1,λy hy=>?_⟩;rcases(anc_up h).1 hy with rfl|hy
     ·exact hpp
     ·exact e2 y hy
    ·refine .inr ⟨f,e1,.up h e2,e3,λy hy hpy=>?_⟩;rcases(anc_up h).1 hy with rfl|hy
     ·rw[hpp]at hpy;cases hpy
     ·exact e4 y hy hpy
theorem xD:∀ m (a:Int) q,upD t m a=some q->∃ x r k:Nat,a=(x:Int)/\k<m/\Tp t x r k:=by
 intro m
 induction m with
 | zero=>intro a q h;cases h
 | succ m ih=>
  intro a q h;unfold Go.Proofs.YtfhggcbcamamdaaGreat.upD at h
  by_cases ha:0<=a/\a<t.length
  ·rw[if_pos ha]at h;have e :=Y5 ha.1
   by_cases h1:t.getD a.toNat 0 = -1
   ·exact⟨a.toNat,a.toNat,0,e.symm,by omega,.top (by omega) h1⟩
   ·rw[if_neg h1]at h
    cases hu:Go.Proofs.YtfhggcbcamamdaaGreat.upD t m _ with
    | none=>rw[hu]at h;cases h
    | some q'=>
     obtain⟨y,r,k,e1,e2,e3⟩:=ih _ _ hu;exact⟨a.toNat,r,k+1,e.symm,by omega,.up (by omega) e1 e3⟩
  ·grind
theorem pathD_tp{a:Int}:E7 t a≠[]↔∃ x r k:Nat,a=(x:Int)/\Tp t x r k:=by
 constructor
 ·intro h
  cases hu:upD t _ a with
  | none=>exact absurd (pathD_nil.2 hu) h
  | some q=>obtain⟨x,r,k,e1,_,e2⟩:=xD _ _ _ hu;exact⟨x,r,k,e1,e2⟩
 ·rintro⟨x,r,k,rfl,h⟩ e;obtain⟨q,hq,_⟩:=h.upD _ h.short;rw[pathD_nil.1 e]at hq;cases hq
theorem Tp.path{x r k:Nat}(h:Tp t x r k):(∀ w:Int,w∈E7 t (x:Int)↔∃ z:Nat,w=(z:Int)/\UpTo (Bs t) x z) /\
  ∀ p:Int->Bool,((E7 t (x:Int)).find? p=none/\∀ z:Nat,UpTo (Bs t) x z->p (z:Int)=false)\/∃ f:Nat,(E7 t (x:Int)).find? p=some (f:Int)/\UpTo (Bs t) x f/\p (f:Int)=true/\∀ z:Nat,UpTo (Bs t) x z->p (z:Int)=true->UpTo (Bs t) f z:=by
 obtain⟨q,h1,h2,h3⟩:=h.upD _ h.short
 have e:E7 t x=q:=by unfold E7;rw[h1];rfl
 rw[e];exact⟨h2,h3⟩
theorem PR{α:Type}{l:List α}{i j:Nat}{x d:α}(hi:i<l.length):(l.set i x).getD j d=if j=i then x else l.getD j d:=by
 grind
theorem tZ{x r k:Nat}(h:Tp t x r k):∀ l:List Bool,l.length=t.length->∃ l',Ac (K8 t) ((x:Int),l)=some l'/\l'.length=t.length/\∀ z,z<t.length->(l'.getD z false=true↔l.getD z false=true\/UpTo (Bs t) x z):=by
 induction h with
 | @top x hx h=>
  intro l hl
  have hs:K8 t (x,l)=some (.next (-1,l.set x true)):=by
   unfold K8
   have hb:((x:Int)!=-1)=true:=by rw[zzL100];omega
   simp only[hb,Ah,Am,h];rw[Ad (Fz (by omega)),Ad (Fz hx)]
  have hd:K8 t (-1,l.set x true)=some (.done (l.set x true)):=by
   rfl
  refine⟨l.set x _,by rw[Ap hs,Ak hd],by simp[hl],λz hz=>?_⟩;rw[PR (by omega)]
  have htop:UpTo (Bs t) x z↔z=x:=NT λp hp=>by have :=hp.symm.trans h;omega
  rw[htop]
  by_cases e:z=x
  ·simp[e]
  ·simp[e]
 | @up x y r k hx h hk ih=>
  intro l hl
  have hs:K8 t (x,l)=some (.next (y,l.set x true)):=by
   unfold K8
   have hb:(x !=(-1:Int))=true:=by rw[zzL100];omega
   simp only[hb,Ah,Am,h];rw[Ad (Fz (by omega)),Ad (Fz hx)]
  obtain⟨l',e1,e2,e3⟩:=ih (l.set x _) (by simp[hl]);refine⟨l',by rw[Ap hs,e1],e2,λz hz=>?_⟩;rw[e3 z hz,PR (by omega),anc_up (par:=Bs t) h]
  by_cases e:z=x
  ·simp[e]
  ·simp[e]
theorem ta{b r k:Nat}(h:Tp t b r k)(l:List Bool)(hl:l.length=t.length):l.getD r false=true->∃ c:Nat,Ac (I8 t l) (b:Int)=some (c:Int)/\UpTo (Bs t) b c/\l.getD c false=true/\∀ z,UpTo (Bs t) b z->l.getD z false=true->UpTo (Bs t) c z:=by
 induction h with
 | @top x hx h=>
  intro hr
  have hd:I8 t l x=some (.done x):=by
   unfold I8;rw[Ad (Fz (by omega)),Am,hr]
   rfl
  exact⟨x,Ak hd,.refl _,hr,λz hz _=>hz⟩
 | @up x y r k hx h hk ih=>
  intro hr
  cases hx2:l.getD x _ with
  | true=>
   have hd:I8 t l x=some (.done x):=by
    unfold I8;rw[Ad (Fz (by omega)),Am,hx2]
    rfl
   exact⟨x,Ak hd,.refl _,hx2,λz hz _=>hz⟩
  | false=>
   have hs:I8 t l x=some (.next y):=by
    unfold I8;rw[Ad (Fz (by omega)),Am,hx2,J2,Ah,Ad (Fz hx),h]
   obtain⟨c,e1,e2,e3,e4⟩:=ih hr;refine⟨c,by rw[Ap hs,e1],.up h e2,e3,λz hz hlz=>?_⟩;rcases(anc_up  h).1 hz with rfl|hz
   ·grind
   ·exact e4 z hz hlz
theorem LT(ht:t.length<=1000){a b r k m:Nat}(ha:Tp t a r k)(hb:Tp t b r m):∃ c:Nat,Rm t (a:Int) (b:Int)=some (c:Int)/\MeetAt (Bs t) a b c:=by
 unfold Rm
 have hroom:1000<=room:=by decide
 rw[Ad ⟨by omega,by omega,by omega⟩,Am];obtain⟨l',h1,h2,h3⟩:=tZ ha (List.replicate t.length _) (by simp);rw[h1,An]
 have h3':∀ z,z<t.length->(l'.getD z false=true↔UpTo (Bs t) a z):=λz hz=>by grind
 obtain⟨c,e1,e2,e3,e4⟩:=ta hb l' h2 ((h3' r ha.tops.1).2 ha.upTo)
 have hc:c<t.length:=by grind
 refine⟨c,by rw[e1];rfl,λw=>⟨λhw=>⟨((h3' c hc).1 e3).trans hw,e2.trans hw⟩,λ⟨hw1,hw2⟩=>?_⟩⟩;obtain⟨j,_,hj,_⟩:=ha.on hw1;exact e4 w hw2 ((h3' w hj.lt).2 hw1)
theorem pS(hR:M2 t=true){a b r k m:Nat}(ha:Tp t a r k)(hb:Tp t b r m):∃ c:Nat,Ra t (a:Int) (b:Int)=(c:Int)/\MeetAt (Bs t) a b c:=by
 unfold Ra;rw[if_pos hR]
 have hcon:∀ z:Nat,(E7 t b).contains z=true↔UpTo (Bs t) b z:=λz=>by
  rw[zzL64,hb.path.1]
  constructor
  ·grind
  ·grind
 rcases ha.path.2 (λx=>(E7 t _).contains x) with⟨e1,e2⟩|⟨f,e1,e2,e3,e4⟩
 ·have:=e2 r ha.upTo;rw[(hcon r).2 hb.upTo]at this
  cases this
 ·exact⟨f,by rw[e1];rfl,λw=>⟨λhw=>⟨e2.trans hw,((hcon f).1 e3).trans hw⟩,λ⟨hw1,hw2⟩=>e4 w hw1 ((hcon w).2 hw2)⟩⟩
theorem MeetAt.same{a b r k c d:Nat}(ha:Tp t a r k)(hc:MeetAt (Bs t) a b c)(hd:MeetAt (Bs t) a b d):c=d:=by
 obtain⟨j,_,hj,_⟩:=ha.on ((hc c).1 (.refl _)).1;exact(hj.anti ((hc d).2 ((hd d).1 (.refl _))) ((hd c).2 ((hc c).1 (.refl _)))).symm
end
theorem m_index(t:List Int)(v:Int)(ht:t.length<=1000):(∃ r:Nat,r<t.length/\t.getD r 0=v/\(∀ i,i<r->t.getD i 0≠v)/\G3 t v=some (r:Int))\/((∀ i,i<t.length->t.getD i 0≠v)/\G3 t v=some (-1)):=by
 have key:∀ k i:Nat,i+k=t.length->(∀ j,j<i->t.getD j 0≠v)->
   (∃ r:Nat,r<t.length/\t.getD r 0=v/\(∀ i,i<r->t.getD i 0≠v)/\Ac (Cr t v) (i:Int)=some (.inr (r:Int)))\/((∀ i,i<t.length->t.getD i 0≠v)/\Ac (Cr t v) (i:Int)=some (.inl ())):=by
  intro k
  induction k with
  | zero=>
   intro i hi hj
   obtain rfl:i=t.length:=by omega
   refine .inr ⟨hj,Ak ?_⟩;unfold Cr;rw[Da];rfl
  | succ k ih=>
   intro i hi hj
   by_cases e:v=t.getD i 0
   ·refine .inl ⟨i,by omega,e.symm,hj,Ak ?_⟩;unfold Cr;have hb:((v:Int)==t.getD i 0)=true:=zzL63.2 e;simp only[B1 (show i<t.length by omega),Ah,Am,hb];rw[Ad (Fz (by omega))]
   ·have hs:Cr t v (i:Int)=some (.next ((i+1:Nat):Int)):=by
     unfold Cr;have hb:((v:Int)==t.getD i 0)=false:=zzL30.2 e;simp only[B1 (show i<t.length by omega),Ah,Am,hb,Ax];rw[Ad (Fz (by omega)),w1 (by omega)]
    rw[Ap hs]
    exact ih (i+1) (by omega) λj hj2=>by
     by_cases ej:j=i
     ·subst ej;exact λh=>e h.symm
     ·exact hj j (by omega)
 have h0:=key t.length 0 (by omega) (λj hj=>absurd hj (Wz _));unfold G3;rcases h0 with⟨r,h1,h2,h3,h4⟩|⟨h1,h2⟩
 ·exact .inl ⟨r,h1,h2,h3,by rw[show((0:Int))=((0:Nat):Int) from rfl,h4];rfl⟩
 ·exact .inr ⟨h1,by rw[show((0:Int))=((0:Nat):Int) from rfl,h2];rfl⟩
section
variable {t:List Int}
structure ED(t:List Int)(r f:Nat)(w:List Int):Prop where
 len:w.length=t.length
 old:∀ y,y<t.length->w.getD y 0≠0->(w.getD y 0<=(f:Int))/\∃ k,Tp t y r k
structure nT(t:List Int)(r f x:Nat)(w:List Int):Prop where
 len:w.length=t.length
 hx:x<t.length
 old:∀ y,y<t.length->w.getD y 0≠0->w.getD y 0<=(f:Int)/\(∃ k,Tp t y r k)\/w.getD y 0=((f+1:Nat):Int)/\∀ r' k,Tp t x r' k->∃ j,k<j/\Tp t y r' j
 fwd:∀ r' k,Tp t x r' k->∃ j,k<=j/\Tp t f r' j
 back:∀ r' k,Tp t f r' k->∃ j,Tp t x r' j
def YL(w:List Int):Nat:=w.countP λz=>z==0
theorem mU{w:List Int}{x:Nat}{v:Int}(hx:x<w.length)(h0:w.getD x 0=0)(hv:v≠0):YL (w.set x v)<YL w:=by
 unfold YL;rw[List.countP_set hx];rw[Ab _ _ _ hx]at h0;have hp:0<w.countP λz=>z==0:=List.countP_pos_iff.2 ⟨w[x],KN hx,by simp[h0]⟩;have hb :=zzL30.2 hv;simp only[h0,Vc,Ms,hb,FT,Iw];omega
theorem leads_loop(ht:t.length<=1000){r:Nat}(hr:r<t.length)(htop:t.getD r 0 = -1){f:Nat}(hf:f<t.length):∀(m x:Nat) (w:List Int),YL w<=m->nT t r f x w->
  (∃ w',Ac (D1 t (f:Int) (r:Int)) ((x:Int),w)=some (.inl w')/\ED t r (f+1) w'/\∃ k,Tp t f r k) \/
  ∃ b w',Ac (D1 t (f:Int) (r:Int)) ((x:Int),w)=some (.inr (b,w'))/\w'.length=t.length/\(b=true->ED t r (f+1) w'/\∃ k,Tp t f r k)/\(b=false->∀ k,¬ Tp t f r k):=by
 intro m
 induction m with
 | zero=>
  intro x w hz hw;exact go 0 (λx w hz=>absurd hz (Wz _)) x w hz hw
 | succ m ih=>
  intro x w hz hw;exact go (m+1) (λx w hz=>ih x w (Nat.le_of_lt_succ hz)) x w hz hw
where
 go (m:Nat) (ih:∀(x:Nat) (w:List Int),YL w<m->nT t r f x w->
  (∃ w',Ac (D1 t (f:Int) (r:Int)) ((x:Int),w)=some (.inl w')/\ED t r (f+1) w'/\∃ k,Tp t f r k) \/
  ∃ b w',Ac (D1 t (f:Int) (r:Int)) ((x:Int),w)=some (.inr (b,w'))/\w'.length=t.length/\(b=true->ED t r (f+1) w'/\∃ k,Tp t f r k)/\(b=false->∀ k,¬ Tp t f r k)) (x:Nat) (w:List Int) (hz:YL w<=m) (hw:nT t r f x w) :
  (∃ w',Ac (D1 t (f:Int) (r:Int)) ((x:Int),w)=some (.inl w')/\ED t r (f+1) w'/\∃ k,Tp t f r k) \/
  ∃ b w',Ac (D1 t (f:Int) (r:Int)) ((x:Int),w)=some (.inr (b,w'))/\w'.length=t.length/\(b=true->ED t r (f+1) w'/\∃ k,Tp t f r k)/\(b=false->∀ k,¬ Tp t f r k):=by
  have hxl:=hw.hx
  have told:∀ k,Tp t x r k->ED t r (f+1) w/\∃ k,Tp t f r k:=λk hk=>by
   obtain⟨j,_,hj⟩:=hw.fwd _ _ hk;refine⟨⟨hw.len,λy hy hy0=>?_⟩,j,hj⟩;rcases hw.old y hy hy0 with⟨h1,h2⟩|⟨h1,h2⟩
   ·exact⟨by omega,h2⟩
   ·obtain⟨i,_,hi⟩:=h2 _ _ hk;exact⟨by omega,i,hi⟩
  by_cases hxr:x=r
  ·subst hxr;refine .inl ⟨w,Ak ?_,told 0 (.top hr htop)⟩;unfold D1
   have hb:((x:Int)!=(x:Int))=false:=by simp
   simp only[hb,Ax]
  ·have hb:((x:Int)!=(r:Int))=true:=by rw[zzL100];omega
   have hin:A2 (x:Int) w.length:=Fz (by rw[hw.len];exact hxl)
   by_cases hw0:w.getD x 0=0
   ·have hb0:((w.getD x 0:Int)!=0)=false:=by rw[hw0];rfl
    by_cases hpl:0<=t.getD x 0/\t.getD x 0<(t.length:Int)
    ·have hwf:w64 ((f:Int)+1)=((f+1:Nat):Int):=w1 (by omega)
     have hs:D1 t (f:Int) (r:Int) ((x:Int),w)=some (.next (t.getD x 0,w.set x ((f+1:Nat):Int))):=by
      unfold D1 Mw;simp only[hb,Ah,Am,hb0,Ax];rw[Ad hin,Ad (Fz hxl),Co hpl.1,Co hpl.2,Ah,An,Ds,Ax,Ad hin,Ad (Fz hxl),hwf]
     rw[Ap hs];obtain⟨y,hy⟩:∃ y:Nat,t.getD x 0=(y:Int):=⟨(t.getD x 0).toNat,(Y5 hpl.1).symm⟩;rw[hy]at hpl ⊢
     have hyl:y<t.length:=by omega
     have hst:∀ r' k,Tp t y r' k->Tp t x r' (k+1):=λr' k hk=>.up hxl hy hk
     have hset:∀ z,z<t.length->(w.set x ((f+1:Nat):Int)).getD z 0=if z=x then((f+1:Nat):Int) else w.getD z 0:=λz _=>PR (by rw[hw.len];exact hxl)
     have hW:nT t r f y (w.set x ((f+1:Nat):Int)):=by
      refine⟨by simp[hw.len],hyl,λz hzl hz0=>?_,λr' k hk=>?_,λr' k hk=>?_⟩
      ·rw[hset z hzl]at hz0 ⊢
       by_cases e:z=x
       ·subst e;rw[if_pos rfl];exact .inr ⟨rfl,λr' k hk=>⟨k+1,by omega,hst r' k hk⟩⟩
       ·rw[if_neg e]at hz0 ⊢;rcases hw.old z hzl hz0 with h1|⟨h1,h2⟩
        ·exact .inl h1
        ·refine .inr ⟨h1,λr' k hk=>?_⟩;obtain⟨j,hj1,hj2⟩:=h2 _ _ (hst r' k hk);exact⟨j,by omega,hj2⟩
      ·obtain⟨j,hj1,hj2⟩:=hw.fwd _ _ (hst r' k hk);exact⟨j,by omega,hj2⟩
      ·obtain⟨j,hj⟩:=hw.back _ _ hk
       cases hj with
       | top _ h2=>omega
       | up _ h2 h3=>
        have:=hy.symm.trans h2
        cases KP this
        exact⟨_,h3⟩
     have hzz:=mU (x:=x) (v:=((f+1:Nat):Int)) (by rw[hw.len];exact hxl) hw0 (by omega);exact ih y _ (by omega) hW
    ·refine .inr ⟨false,w,Ak ?_,hw.len,⟨λh=>(by cases h),λ_ k hk=>?_⟩⟩
     ·unfold D1 Mw;simp only[hb,Ah,Am,hb0,Ax];rw[Ad hin,Ad (Fz hxl)]
      have:(bif decide ((0:Int)<=t.getD x 0) then decide (t.getD x 0<(t.length:Int)) else false)=false:=by
       cases h1:decide ((0:Int)<=t.getD x 0) with
       | false=>rfl
       | true=>rw[Ah];exact Ce λh2=>hpl ⟨KM h1,h2⟩
      rw[this,An]
      rfl
     ·obtain⟨j,hj⟩:=hw.back _ _ hk
      cases hj with
      | top=>exact hxr rfl
      | up _ h2 h3=>have:=h3.lt;exact hpl ⟨by omega,by omega⟩
   ·have hb0:((w.getD x 0:Int)!=0)=true:=by rw[zzL100];exact hw0
    have hwf:w64 ((f:Int)+1)=((f+1:Nat):Int):=w1 (by omega);refine .inr ⟨w.getD x 0 !=((f+1:Nat):Int),w,Ak ?_,hw.len,⟨λh=>?_,λh k hk=>?_⟩⟩
    ·unfold D1;simp only[hb,Ah,Am,hb0];rw[Ad hin,Ad hin,hwf]
    ·rcases hw.old x hxl hw0 with⟨_,k,hk⟩|⟨h1,_⟩
     ·exact told k hk
     ·rw[h1]at h;simp at h
    ·have he:w.getD x 0=((f+1:Nat):Int):=by simpa using h
     obtain⟨j,hj⟩:=hw.back _ _ hk;rcases hw.old x hxl hw0 with⟨h1,_⟩|⟨_,h2⟩
     ·omega
     ·obtain⟨i,hi1,hi2⟩:=h2 _ _ hj;have:=hj.det hi2;omega
end
section
variable {t:List Int}
theorem tM(ht:t.length<=1000){r:Nat}(hr:r<t.length)(htop:t.getD r 0 = -1){f:Nat}(hf:f<t.length){w:List Int}(hw:ED t r f w) :
  ∃ b w',Ut t w (f:Int) (r:Int)=some (b,w')/\w'.length=t.length/\(b=true->ED t r (f+1) w'/\∃ k,Tp t f r k)/\(b=false->∀ k,¬ Tp t f r k):=by
 unfold Ut;have hW:nT t r f f w:=⟨hw.len,hf,λy hy h0=>.inl (hw.old y hy h0),λr' k hk=>⟨k,zzL6 _,hk⟩,λr' k hk=>⟨k,hk⟩⟩;rcases leads_loop ht hr htop hf _ f w (zzL6 _) hW with⟨w',e1,e2⟩|⟨b,w',e1,e2,e3,e4⟩
 ·exact⟨true,w',by rw[e1];rfl,e2.1.len,λ_=>e2,λh=>by cases h⟩
 ·grind
def VX(t:List Int)(r:Nat):Prop:=∀ f,f<t.length->t.getD f 0≠-2->∃ k,Tp t f r k
open Classical in
theorem cp(ht:t.length<=1000){r:Nat}(hr:r<t.length)(htop:t.getD r 0 = -1):∀(k f:Nat) (w:List Int),f+k=t.length->ED t r f w->(∀ y,y<f->t.getD y 0≠-2->∃ k,Tp t y r k)->
  Ac (Hc t (r:Int)) ((f:Int),w)=some (if VX t r then .inl () else .inr false):=by
 intro k
 induction k with
 | zero=>
  intro f w hk hw hd
  obtain rfl:f=t.length:=by omega
  apply Ak
  unfold Hc;simp only[Da,Ax];rw[if_pos (show VX t r from hd)]
 | succ k ih=>
  intro f w hk hw hd
  have hf:f<t.length:=by omega
  by_cases h2:t.getD f 0 = -2
  ·have hb:((t.getD f 0:Int)!=(-2))=false:=by rw[h2];rfl
   have hs:Hc t (r:Int) ((f:Int),w)=some (.next (((f+1:Nat):Int),w)):=by
    unfold Hc;simp only[B1 hf,Ah,Am,hb,show(false==true)=false from rfl,Ax,An];rw[Ad (Fz hf),Ad (λh=>by cases h),w1 (by omega)]
   rw[Ap hs];refine ih (f+1) w (by omega) ⟨hw.len,λy hy h0=>?_⟩ λy hy hy2=>?_
   ·obtain⟨e1,e2⟩:=hw.old y hy h0;exact⟨by omega,e2⟩
   ·by_cases e:y=f
    ·subst e;exact absurd h2 hy2
    ·exact hd y (by omega) hy2
  ·have hb:((t.getD f 0:Int)!=(-2))=true:=by rw[zzL100];exact h2
   obtain⟨b,w',e1,e2,e3,e4⟩:=tM ht hr htop hf hw
   cases b with
   | false=>
    rw[if_neg (λhA:VX t r=>by obtain⟨k,hk⟩:=hA f hf h2;exact e4 rfl k hk)]
    apply Ak
    unfold Hc;simp only[B1 hf,Ah,Am,hb,show(true==true)=true from rfl,e1,An];rw[Ad (Fz hf),Ad (λ_=>by rw[hw.len,e2])]
    rfl
   | true=>
    have hs:Hc t (r:Int) ((f:Int),w)=some (.next (((f+1:Nat):Int),w')):=by
     unfold Hc;simp only[B1 hf,Ah,Am,hb,show(true==true)=true from rfl,e1,An];rw[Ad (Fz hf),Ad (λ_=>by rw[hw.len,e2]),w1 (by omega)]
     rfl
    rw[Ap hs];obtain⟨e5,e6⟩:=e3 rfl;refine ih (f+1) w' (by omega) e5 λy hy hy2=>?_
    by_cases e:y=f
    ·subst e;exact e6
    ·exact hd y (by omega) hy2
theorem qO:topsK t t.length=1↔∃ r,r<t.length/\t.getD r 0 = -1/\∀ x,x<t.length->t.getD x 0 = -1->x=r:=by
 have key:∀ n,(topsK t n=0↔∀ x,x<n->t.getD x 0≠-1)/\(topsK t n=1↔∃ r,r<n/\t.getD r 0 = -1/\∀ x,x<n->t.getD x 0 = -1->x=r):=by
  intro n
  induction n with
  | zero=>exact⟨⟨λ_ x hx=>absurd hx (Wz _),λ_=>rfl⟩,⟨λh=>by simp[topsK]at h,λ⟨r,h,_⟩=>absurd h (Wz _)⟩⟩
  | succ n ih=>
   rw[FS]
   by_cases e:t.getD n 0 = -1
   ·rw[if_pos e];refine⟨⟨λh=>by omega,λh=>absurd e (h n (by omega))⟩,⟨λh=>⟨n,by omega,e,λx hx hx1=>?_⟩,λ⟨r,h1,h2,h3⟩=>?_⟩⟩
    ·by_cases ex:x=n
     ·exact ex
     ·grind
    ·have:=ih.1.2 λx hx hx1=>by
      grind
     omega
   ·grind
 exact(key _).2
theorem rightD_iff:M2 t=true↔∃ r,r<t.length/\t.getD r 0 = -1/\VX t r:=by
 unfold M2;rw[A6,all_range,Gr,qO]
 constructor
 ·rintro⟨h1,r,h2,h3,h4⟩;refine⟨r,h2,h3,λf hf hf2=>?_⟩;have:=h1 f hf;unfold pc at this;rw[FV,Gr,Y6,SP]at this;rcases this with h|h
  ·exact absurd h hf2
  ·obtain⟨x,r',k,e,hk⟩:=pathD_tp.1 h
   cases KP e
   have:=h4 _ hk.tops.1 hk.tops.2;subst this;exact⟨k,hk⟩
 ·rintro⟨r,h2,h3,h4⟩;refine⟨λf hf=>?_,r,h2,h3,λx hx hx1=>?_⟩
  ·unfold pc;rw[FV,Gr,Y6,SP]
   by_cases e:t.getD f 0 = -2
   ·exact .inl e
   ·obtain⟨k,hk⟩:=h4 f hf e;exact .inr (pathD_tp.2 ⟨f,r,k,rfl,hk⟩)
  ·obtain⟨k,hk⟩:=h4 x hx (by omega);exact((hk.det (.top hx hx1)).1).symm
theorem XV(hR:M2 t=true):∃ r,VX t r:=by obtain⟨r,_,_,h⟩:=rightD_iff.1 hR;exact⟨r,h⟩
theorem pP(ht:t.length<=1000):Ta t=some (M2 t):=by
 unfold Ta
 have hroom:1000<=room:=by decide
 rcases m_index t _ ht with⟨r,h1,h2,h3,h4⟩|⟨h1,h2⟩
 ·rw[h4,An,Ce (by omega),Ax,Ad ⟨by omega,by omega,by omega⟩,Am];have hl:=cp ht h1 h2 t.length 0 (List.replicate t.length 0) (by omega) ⟨by simp,λy hy h0=>absurd IC h0⟩ (λy hy=>absurd hy (Wz _));rw[show(((0:Nat):Int))=0 from rfl]at hl;rw[hl,An]
  by_cases hA:VX t r
  ·rw[if_pos hA,rightD_iff.2 ⟨r,h1,h2,hA⟩]
  ·rw[if_neg hA]
   have :=Bool.eq_false_iff.2 λhR=>by
    obtain⟨r',g1,g2,g3⟩:=rightD_iff.1 hR;obtain⟨k,hk⟩:=g3 r h1 (by omega);have:=(hk.det (.top h1 h2)).1;subst this;exact hA g3
   rw[this]
 ·rw[h2]
  have :=Bool.eq_false_iff.2 λhR=>by
   obtain⟨r',g1,g2,g3⟩:=rightD_iff.1 hR;exact h1 r' g1 g2
  rw[this]
  rfl
def FI(t:List Int)(a:Int):Bool:=decide (0<=a)&&decide (a<(t.length:Int))&&decide (t.getD a.toNat 0≠-2)
theorem PT(hR:M2 t=true){a:Int}:FI t a=true↔∃ x k r:Nat,a=(x:Int)/\Tp t x r k:=by
 unfold FI;rw[A6,A6,Gr,Gr,Gr]
 constructor
 ·rintro⟨⟨h1,h2⟩,h3⟩;obtain⟨r,hA⟩:=XV hR;obtain⟨k,hk⟩:=hA _ (by omega) h3;exact⟨a.toNat,k,r,(Y5 h1).symm,hk⟩
 ·rintro⟨x,k,r,rfl,h⟩;rw[Am]
  cases h with
  | top _ h2=>omega
  | up _ h2 _=>omega
theorem f8(a:Int):Nq t a=some (FI t a):=by
 unfold Nq Mw FI;rw[An]
 cases h1:decide (0<=a) with
 | false=>rfl
 | true=>
  rw[Ah,Ld]
  cases h2:decide (a<t.length) with
  | false=>rfl
  | true=>
   rw[Ad (λ_=>⟨KM h1,KM h2⟩),Ah,Ld]
   congr 1
   rw[Y7,zzL100,Gr]
theorem tK(ht:t.length<=1000)(a b:Int):Us t a b=some (M2 t&&FI t a&&FI t b):=by
 unfold Us;rw[pP ht]
 cases M2 t with
 | false=>rfl
 | true=>
  simp only[  f8, Ld]
  cases FI t a with
  | false=>rfl
  | true=>grind
theorem lg{a b:Int}(h:(M2 t&&FI t a&&FI t b)=false):Ra t a b = -2:=by
 unfold Ra
 by_cases hR:M2 t=true
 ·rw[if_pos hR];rw[hR]at h
  have hno:∀ c,FI t c=false->E7 t c=[]:=λc hc=>by
   by_cases e:E7 t c=[]
   ·exact e
   ·obtain⟨x,r,k,e1,e2⟩:=pathD_tp.1 e;rw[(PT hR).2 ⟨x,k,r,e1,e2⟩]at hc;cases hc
  cases ha:FI t a with
  | false=>rw[hno a ha];rfl
  | true=>
   rw[ha]at h;rw[hno b h]
   have:((E7 t a).find? λx=>[].contains x)=none:=List.find?_eq_none.2 λx _=>by simp
   rw[this]
   rfl
 ·rw[if_neg hR]
theorem VC(ht:t.length<=1000){a b:Int}(h:(M2 t&&FI t a&&FI t b)=true):Rm t a b=some (Ra t a b)/\0<=Ra t a b:=by
 rw[A6,A6]at h;obtain⟨⟨hR,ha⟩,hb⟩:=h;obtain⟨x,k,r,rfl,hx⟩:=(PT hR).1 ha;obtain⟨y,m,r',rfl,hy⟩:=(PT hR).1 hb;obtain⟨rr,hA⟩:=XV hR
 have top:∀{x r k},Tp t x r k->r=rr:=λ{x r k} h=>by
  obtain⟨i,hi⟩:=hA r h.tops.1 (by rw[h.tops.2];omega);exact((Tp.top h.tops.1 h.tops.2).det hi).1
 obtain rfl:=top hx;obtain rfl:=top hy;obtain⟨c,h1,h2⟩:=LT ht hx hy;obtain⟨d,h3,h4⟩:=pS hR hx hy;have:=h2.same hx h4;subst this;exact⟨by rw[h1,h3],by omega⟩
theorem wm(ht:t.length<=1000)(a b:Int):Xt t a b=some (Lt t a b):=by
 unfold Xt Lt;rw[tK ht]
 cases h:(M2 t&&FI t a&&FI t b) with
 | false=>
  rw[lg h]
  have:(-2==a&&(-2 !=-2))=false:=by simp
  rw[this]
  rfl
 | true=>
  obtain⟨h1,h2⟩:=VC ht h;simp only[show(true==true)=true from rfl,Ah,h1,An]
  have:(Ra t a b !=-2)=true:=by rw[zzL100];omega
  rw[this,FY]
end
theorem tc:∀ n:Fin 65,Rk (It 1) (It ((n.val:Nat):Int))=some (0,((n.val:Nat):Int)):=by decide +kernel
theorem lj{n:Nat}(h:n<=64):Rk (It 1) (It (n:Int))=some (0,(n:Int)):=tc ⟨n,by omega⟩
theorem d9{v:Int}{n:Nat}(hn:n<=64):∀(m i:Nat) (l:List Int),n-i<=m->1<=i->i<=n->l.length=n->(∀ j,j<i->l.getD j 0=v)->Ac Dm ((i:Int),l)=some (List.replicate n v):=by
 intro m
 induction m with
 | zero=>
  intro i l hm h1 h2 hl hv
  obtain rfl:i=n:=by omega
  exact fin l hl hv
 | succ m ih=>
  intro i l hm h1 h2 hl hv
  by_cases e:i=n
  ·grind
  ·have hs:Dm ((i:Int),l)=some (.next (((i+Nat.min i (n-i):Nat):Int),NY l i (Nat.min i (n-i)) (λj=>l.getD (0+j) 0))):=by
    unfold Dm;simp only[hl,B1 (show i<n by omega),Ah,Am,E8,CG];have hc:(0:Int)<=(i:Int)/\i<=n:=⟨by omega,h2⟩;have hmn:Nat.min i (n-i)<=i:=Nat.min_le_left _ _;rw[Ad hc,Ad hc,Hg (by omega) (by omega),Int.natCast_add]
   rw[Ap hs];have hmn:Nat.min i (n-i)<=i/\Nat.min i (n-i)<=n-i:=⟨Nat.min_le_left _ _,Nat.min_le_right _ _⟩;have hge:1<=Nat.min i (n-i):=Nat.le_min.2 ⟨h1,by omega⟩;refine ih _ _ (by omega) (by omega) (by omega) (by rw[<- Ek];exact hl) λj hj=>?_;rw[GX _ _ _ _ _ _ (by omega)]
   by_cases hji:i<=j/\j<i+Nat.min i (n-i)
   ·grind
   ·grind
where
 fin {v:Int} {i:Nat} (l:List Int) (hl:l.length=i) (hv:∀ j,j<i->l.getD j 0=v):Ac Dm ((i:Int),l)=some (List.replicate i v):=by
  apply Ak
  unfold Dm;simp only[hl,Da,Ax]
  congr 2
  refine CI (by simp[hl]) λj h1 h2=>?_;rw[<- Ab _ _ 0 h1,hv j (by omega)]
  simp
theorem pQ{v:Int}{n:Nat}(h1:1<=n)(hn:n<=64):Io [v] (n:Int)=some (List.replicate n v):=by
 have hroom:64<=room:=by decide
 unfold Io;rw[Ce (by omega),Ax,An]
 show Option.bind (Rk (It 1) _) _=_
 rw[lj hn,An];have e1:decide (0<0)=false:=rfl;have e2:decide (9223372036854775807<(n:Int))=false:=Ce (by omega);simp only[ e2,Ax];have ew:w64 n=n:=Hg (by omega) (by omega);rw[ew,Ad ⟨by omega,by omega,by omega⟩,Am,N7,CG];have em:Nat.min [v].length n=1:=Nat.min_eq_left h1;rw[em,d9 hn n 1 _ (by omega) (zzL6 _) h1 (by rw[<- Ek];simp) (λj hj=>?_)]
 ·rfl
 ·rw[GX _ _ _ _ _ _ (by simp;omega),if_pos ⟨by omega,by omega⟩]
  have:j-0=0:=by omega
  rw[this];rfl
section
variable {S:Nat->List Nat} {r n:Nat} {P:List Nat}
theorem Inv.tp{at_:Nat->Nat}{t:List Int}(h:Inv S r n at_ (Bs t))(hl:t.length=n):∀ m x,at_ x<=m->x<n->Bs t x≠-2->∃ k,Tp t x r k:=by
 intro m
 induction m with
 | zero=>
  intro x hm hx hp;rcases h.kind x hx with h1|h1|⟨z,hz⟩
  ·exact absurd h1 hp
  ·subst h1;exact⟨0,.top (by omega) h.top⟩
  ·obtain⟨_,_,h3,_⟩:=h.up x hx z hz;omega
 | succ m ih=>
  intro x hm hx hp;rcases h.kind x hx with h1|h1|⟨z,hz⟩
  ·exact absurd h1 hp
  ·subst h1;exact⟨0,.top (by omega) h.top⟩
  ·obtain⟨z1,z2,z3,_⟩:=h.up x hx z hz;obtain⟨k,hk⟩:=ih z (by omega) z1 z2;exact⟨k+1,.up (by omega) hz hk⟩
def GF(t l:List Int)(i:Nat)(v:Int):Prop:=
 (v = -2/\∀ j,j<i->Bs t (l.getD j 0).toNat = -2) \/
 ∃ z:Nat,v=(z:Int)/\z<t.length/\Bs t z≠-2/\(∀ w,UpTo (Bs t) z w↔∀ j,j<i->Bs t (l.getD j 0).toNat≠-2->UpTo (Bs t) (l.getD j 0).toNat w)
theorem ah{at_:Nat->Nat}{t l:List Int}(ht:t.length<=64)(hll:l.length<=64)(h:Inv S r n at_ (Bs t))(hl:t.length=n)(hin:∀ x∈l,0<=x/\x<(n:Int)):∀(k i:Nat) (v:Int),i+k=l.length->GF t l i v->
  ∃ v',Ac (F7 t l) (v,(i:Int))=some v'/\GF t l l.length v':=by
 intro k
 induction k with
 | zero=>
  intro i v hi hv
  obtain rfl:i=l.length:=by omega
  refine⟨v,Ak ?_,hv⟩;unfold F7;simp only[Da,Ax]
 | succ k ih=>
  intro i v hi hv
  have hil:i<l.length:=by omega
  obtain⟨x0,x1⟩:=hin _ (Ag (d:=0) hil);have hxe:(((l.getD i 0).toNat:Nat):Int)=l.getD i 0:=Y5 x0;have hxin:A2 (l.getD i 0) t.length:=yz x0 (by omega)
  have next:∀ v',F7 t l (v,(i:Int))=some (.next (v',((i+1:Nat):Int)))->GF t l (i+1) v'->∃ v',Ac (F7 t l) (v,(i:Int))=some v'/\GF t l l.length v':=λv' hs hv'=>by
   rw[Ap hs];exact ih (i+1) v' (by omega) hv'
  by_cases hp:Bs t (l.getD i 0).toNat = -2
  ·have hb:((t.getD (l.getD i 0).toNat 0:Int)==-2)=true:=zzL63.2 hp;refine next v ?_ ?_
   ·unfold F7;simp only[B1 hil,Ah,Am,hb];rw[Ad (Fz hil),Ad hxin,An,w1 (by omega)]
   ·have hstep:∀ w,(∀ j,j<i->Bs t (l.getD j 0).toNat≠-2->UpTo (Bs t) (l.getD j 0).toNat w)↔∀ j,j<i+1->Bs t (l.getD j 0).toNat≠-2->UpTo (Bs t) (l.getD j 0).toNat w:=λw=>by
     refine⟨λhj j hj1 hj2=>?_,λhj j hj1=>hj j (by omega)⟩
     by_cases e:j=i
     ·subst e;exact absurd hp hj2
     ·exact hj j (by omega) hj2
    rcases hv with⟨h1,h2⟩|⟨z,h1,h2,h3,h4⟩
    ·refine .inl ⟨h1,λj hj=>?_⟩
     by_cases e:j=i
     ·subst e;exact hp
     ·exact h2 j (by omega)
    ·exact .inr ⟨z,h1,h2,h3,λw=>by rw[h4 w,hstep w]⟩
  ·have hb:((t.getD (l.getD i 0).toNat 0:Int)==-2)=false:=zzL30.2 hp;rcases hv with⟨h1,h2⟩|⟨z,h1,h2,h3,h4⟩
   ·subst h1;refine next (l.getD i 0) ?_ (.inr ⟨(l.getD i 0).toNat,hxe.symm,by omega,hp,λw=>⟨λhw j hj hj2=>?_,λhw=>hw i (by omega) hp⟩⟩)
    ·unfold F7;simp only[B1 hil,Ah,Am,hb,Ax,show((-2:Int)==-2)=true from rfl];rw[Ad (Fz hil),Ad hxin,An,w1 (by omega)]
    ·by_cases e:j=i
     ·subst e;exact hw
     ·exact absurd (h2 j (by omega)) hj2
   ·subst h1;have hb2:((z:Int)==-2)=false:=zzL30.2 (by omega);obtain⟨k1,hk1⟩:=h.tp hl _ z (zzL6 _) (by omega) h3;obtain⟨k2,hk2⟩:=h.tp hl _ (l.getD i 0).toNat (zzL6 _) (by omega) hp;obtain⟨c,c1,c2⟩:=LT (by omega) hk1 hk2;have hcz:=(c2 c).1 (.refl _);obtain⟨jc,_,hjc,_⟩:=hk1.on hcz.1
    have hcp:Bs t c≠-2:=by
     show t.getD c 0≠-2
     cases hjc with
     | top _ h=>omega
     | up _ h _=>omega
    refine next (c:Int) ?_ (.inr ⟨c,rfl,hjc.lt,hcp,λw=>?_⟩)
    ·rw[hxe]at c1;unfold F7;simp only[B1 hil,Ah,Am,hb,Ax,hb2,c1,An];rw[Ad (Fz hil),Ad hxin,An,w1 (by omega)]
    ·rw[c2 w,h4 w];refine⟨λ⟨a1,a2⟩ j hj hj2=>?_,λha=>⟨λj hj=>ha j (by omega),ha i (by omega) hp⟩⟩
     by_cases e:j=i
     ·subst e;exact a2
     ·exact a1 j (by omega) hj2
theorem lX{at_:Nat->Nat}{t l:List Int}(ht:t.length<=64)(hll:l.length<=64)(h:Inv S r n at_ (Bs t))(hl:t.length=n)(hin:∀ x∈l,0<=x/\x<(n:Int)) :
  ∃ v,Mx t l=some v/\GF t l l.length v:=by
 obtain⟨v,h1,h2⟩:=ah ht hll h hl hin l.length 0 _ (by omega) (.inl ⟨rfl,λj hj=>absurd hj (Wz _)⟩);refine⟨v,?_,h2⟩;unfold Mx;rw[show((0:Int))=(0:Nat) from rfl,h1]
 rfl
end
section
variable {L:List (List Int)} (hm:Mo L=true) {r:Nat} {P:List Nat}
include hm
theorem qH{p y:Nat}(hp:p<L.length):y∈sN L p↔Yu L p y=true:=by
 rw[o6];obtain⟨_,_,h3⟩:=mayS_iff.1 hm
 constructor
 ·intro h;obtain⟨x,hx,rfl⟩:=zzL21.1 h;have:=am (h3 p hp) hx;rw[Y5 this.1];exact hx
 ·intro h;exact zzL21.2 ⟨_,h,Am y⟩
theorem BN{y:Nat}(hy:y<L.length){x:Int}:x∈(Dq L).getD y []↔∃ p:Nat,x=(p:Int)/\p<L.length/\y∈sN L p:=by
 rw[DP hy];unfold J5;rw[dL]
 constructor
 ·rintro⟨k,h1,h2,h3⟩;exact⟨k,h1,h2,(qH hm h2).2 h3⟩
 ·rintro⟨k,h1,h2,h3⟩;exact⟨k,h1,h2,(qH hm h2).1 h3⟩
theorem af(o:Ordered (sN L) r L.length P){t:List Int}{i:Nat}(h:Ready (sN L) r L.length P t i)(hi:i<P.length) :
  Mx t ((Dq L).getD (P.getD i 0) [])=some (Pj (sN L) L.length t (P.getD i 0):Int):=by
 obtain⟨hL1,hL64,_⟩:=mayS_iff.1 hm;have hyn:P.getD i 0<L.length:=o.lt (N8 _ (V6 hi))
 have hlen:((Dq L).getD (P.getD i 0) []).length<=64:=by
  rw[DP hyn];have:=Yb L L.length (P.getD i 0);omega
 obtain⟨v,h1,h2⟩:=lX (by rw[h.len];exact hL64) hlen h.inv h.len λx hx=>by
  obtain⟨p,rfl,hp,_⟩:=(BN hm hyn).1 hx;omega
 rw[h1];have hb:=h.best o hi
 have mem:∀ p,p<L.length->P.getD i 0∈sN L p->∃ j,j<((Dq L).getD (P.getD i 0) []).length/\(((Dq L).getD (P.getD i 0) []).getD j 0).toNat=p:=λp hp hy=>by
  obtain⟨j,hj,e⟩:=G7 ((BN hm hyn).2 ⟨p,rfl,hp,hy⟩);exact⟨j,hj,by rw[Ab _ _ _ hj,e,Am]⟩
 have mem':∀ j,j<((Dq L).getD (P.getD i 0) []).length->(((Dq L).getD (P.getD i 0) []).getD j 0).toNat<L.length/\P.getD i 0∈sN L (((Dq L).getD (P.getD i 0) []).getD j 0).toNat:=λj hj=>by
  obtain⟨p,e,hp,hy⟩:=(BN hm hyn).1 (Ag (d:=(0:Int)) hj);rw[e,Am];exact⟨hp,hy⟩
 rcases h2 with⟨rfl,h3⟩|⟨z,rfl,hz,hz2,h4⟩
 ·obtain⟨p,hp,hyp,hp2,_⟩:=hb.fwd;obtain⟨j,hj,e⟩:=mem p hp hyp;exact absurd (by rw[<- e];exact h3 j hj) hp2
 ·have hbest:ek (sN L) L.length (Bs t) (P.getD i 0) z:=λw=>by
   rw[h4 w];refine⟨λha p hp hyp hp2=>?_,λha j hj hj2=>?_⟩
   ·obtain⟨j,hj,e⟩:=mem p hp hyp;have:=ha j hj (by rw[e];exact hp2);rwa[e]at this
   ·grind
  rw[h.best_eq o hi (by rw[<- h.len];exact hz) hz2 hbest]
end
theorem dU{P:List Nat}{i:Nat}(h:i<P.length):(V1 P).getD i 0=((P.getD i 0:Nat):Int):=by
 unfold V1;rw[Ab _ _ _ (by simpa using h),Ab _ _ _ h,List.getElem_map]
 rfl
theorem eF{t:List Int}{x:Nat}{v:Int}(hx:x<t.length)(h:t.getD x 0=v):t.set x v=t:=by
 subst h;rw[Ab _ _ _ hx];exact List.set_getElem_self hx
section
variable {L:List (List Int)} (hm:Mo L=true) {r:Nat} {P:List Nat} (o:Ordered (sN L) r L.length P)
include hm o
theorem gw{t0:List Int}(h:Ready (sN L) r L.length P t0 0):∀(k i:Nat) (b:Bool),i+k=P.length->
  ∃ b',Ac (Fm (Kd L) (V1 (r::P))) (b,(i:Int),Z0 (sN L) L.length P t0 i)=some (b',Z0 (sN L) L.length P t0 P.length) /\
   (b'=false↔b=false/\∀ j,i<=j->j<P.length->Bs (Z0 (sN L) L.length P t0 j) (P.getD j 0)=(Pj (sN L) L.length (Z0 (sN L) L.length P t0 j) (P.getD j 0):Int)):=by
 have hP64:P.length<=64:=by
  have h1:=Tl L.length (r::P) o.nodup λx hx=>o.lt hx;have h2:=(mayS_iff.1 hm).2.1;simp at h1;omega
 have hdl:(V1 (r::P)).drop (1:Int).toNat=V1 P:=rfl
 have hlen:(V1 P).length=P.length:=by simp[V1]
 intro k
 induction k with
 | zero=>
  intro i b hi
  obtain rfl:i=P.length:=by omega
  refine⟨b,Ak ?_,λh=>⟨h,λj h1 h2=>by omega⟩,λh=>h.1⟩;unfold Fm;simp only[hdl,hlen,Da,Ax]
 | succ k ih=>
  intro i b hi
  have hil:i<P.length:=by omega
  have rd:=h.round o i (by omega);have hma:=af hm o rd hil;have hyn:P.getD i 0<L.length:=o.lt (N8 _ (V6 hil))
  have hyt:P.getD i 0<(Z0 (sN L) L.length P t0 i).length:=by rw[rd.len];exact hyn
  have hpred:(Kd L).Pred=Dq L:=rfl
  by_cases he:Bs (Z0 (sN L) L.length P t0 i) (P.getD i 0)=(Pj (sN L) L.length (Z0 (sN L) L.length P t0 i) (P.getD i 0):Int)
  ·have hb:((Pj (sN L) L.length (Z0 (sN L) L.length P t0 i) (P.getD i 0):Int)!=(Z0 (sN L) L.length P t0 i).getD (P.getD i 0) 0)=false:=by
    have:(Z0 (sN L) L.length P t0 i).getD (P.getD i 0) 0=_:=he;rw[this];simp
   have hnx:Z0 (sN L) L.length P t0 (i+1)=Z0 (sN L) L.length P t0 i:=eF hyt he
   have hs:Fm (Kd L) (V1 (r::P)) (b,(i:Int),Z0 (sN L) L.length P t0 i)=some (.next (b,((i+1:Nat):Int),Z0 (sN L) L.length P t0 (i+1))):=by
    unfold Fm;simp only[hdl,hlen,B1 hil,Ah,Am,dU hil,hpred,hma,An,hb,Ax];rw[Ad (Fz hil),Ad (Fz (by rw[Pp];exact hyn)),Ad (Fz hyt),An,w1 (by omega),hnx]
   obtain⟨b',e1,e2⟩:=ih (i+1) b (by omega);refine⟨b',by rw[Ap hs,e1],λh=>?_,λ⟨h1,h2⟩=>e2.2 ⟨h1,λj hj=>h2 j (by omega)⟩⟩;obtain⟨h1,h2⟩:=e2.1 h;refine⟨h1,λj hj1 hj2=>?_⟩
   by_cases e:j=i
   ·subst e;exact he
   ·exact h2 j (by omega) hj2
  ·have hb:((Pj (sN L) L.length (Z0 (sN L) L.length P t0 i) (P.getD i 0):Int)!=(Z0 (sN L) L.length P t0 i).getD (P.getD i 0) 0)=true:=by
    rw[zzL100];exact λe=>he e.symm
   have hs:Fm (Kd L) (V1 (r::P)) (b,(i:Int),Z0 (sN L) L.length P t0 i)=some (.next (true,((i+1:Nat):Int),Z0 (sN L) L.length P t0 (i+1))):=by
    unfold Fm;simp only[hdl,hlen,B1 hil,Ah,Am,dU hil,hpred,hma,An,hb];rw[Ad (Fz hil),Ad (Fz (by rw[Pp];exact hyn)),Ad (Fz hyt),Ad (Fz hyt),An,w1 (by omega)]
    rfl
   obtain⟨b',e1,e2⟩:=ih (i+1) true (by omega);refine⟨b',by rw[Ap hs,e1],λh=>?_,λ⟨h1,h2⟩=>absurd (h2 i (zzL6 _) hil) he⟩;obtain⟨h1,_⟩:=e2.1 h;cases h1
theorem mH{t0:List Int}(h:Ready (sN L) r L.length P t0 0):∃ b,Ac (Fm (Kd L) (V1 (r::P))) (false,(0:Int),t0)=some (b,Z0 (sN L) L.length P t0 P.length)/\(b=false↔AJ (sN L) L.length P t0):=by
 obtain⟨b,e1,e2⟩:=gw hm o h P.length 0 _ (by omega);refine⟨b,e1,e2.trans ⟨λ⟨_,h2⟩=>?_,λhs=>⟨rfl,λj _ hj=>?_⟩⟩⟩
 ·have key:∀ j,j<=P.length->Z0 (sN L) L.length P t0 j=t0:=by
   intro j
   induction j with
   | zero=>intro _;rfl
   | succ j ih=>
    intro hj;have ih':=ih (by omega);have rd:=h.round o j (by omega)
    have hyn:P.getD j 0<(Z0 (sN L) L.length P t0 j).length:=by rw[rd.len];exact o.lt (N8 _ (V6 (by omega)))
    have:Z0 _ _ P t0 (j+1)=Z0 _ _ P t0 j:=eF hyn (h2 j (P1 _) (by omega));rw[this,ih']
  intro i hi;have:=h2 i (P1 _) hi;rwa[key i (by omega)]at this
 ·rw[BZ o h.len hs j (by omega)];exact hs j hj
open Classical in
theorem j8(j:Nat):Hy (Kd L) (V1 (r::P),UK (sN L) L.length P (Jc L.length r) j)=some (if AJ (sN L) L.length P (UK (sN L) L.length P (Jc L.length r) j) then .done (UK (sN L) L.length P (Jc L.length r) (j+1)) else .next (V1 (r::P),UK (sN L) L.length P (Jc L.length r) (j+1))):=by
 obtain⟨b,e1,e2⟩:=mH hm o (Ready.rounds o j);have hL2:Vl (Kd L) (V1 (r::P))=Fm (Kd L) (V1 (r::P)):=rfl
 have hlen:(0:Int)<=1/\(1:Int)<=((V1 (r::P)).length:Int):=by simp[V1];omega
 unfold Hy;simp only[hL2,e1,An];rw[Ad hlen]
 cases b with
 | false=>rw[if_pos (e2.1 rfl)];rfl
 | true=>rw[if_neg (λh=>by have:=e2.2 h;cases this)];rfl
theorem eM:∃ J,AJ (sN L) L.length P (UK (sN L) L.length P (Jc L.length r) J)/\Ac (Hy (Kd L)) (V1 (r::P),Jc L.length r)=some (UK (sN L) L.length P (Jc L.length r) J):=by
 obtain⟨J,h1,h2⟩:=vB o;refine⟨J,h2,?_⟩
 have key:∀ d j,j+d=J->Ac (Hy (Kd L)) (V1 (r::P),UK (sN L) L.length P (Jc L.length r) j)=some (UK (sN L) L.length P (Jc L.length r) J):=by
  intro d
  induction d with
  | zero=>
   intro j hj
   obtain rfl:j=J:=by omega
   have hF:=j8 hm o j;rw[if_pos h2]at hF;rw[Ak hF];have:UK _ _ P _ (j+1)=UK _ _ P _ j:=BZ o (Ready.rounds o j).len h2 _ (zzL6 _);rw[this]
  | succ d ih=>
   intro j hj;have hF:=j8 hm o j;rw[if_neg (h1 j (by omega))]at hF;rw[Ap hF];exact ih _ (by omega)
 exact key J 0 (by omega)
end
theorem wq(g:TGraph)(r:Int)(h1:Fits g.Succ)(h2:Fits g.Pred):Tw g r=some (MM g r):=by
 unfold MM
 by_cases hc:DZ g=true/\0<=r/\r<g.Succ.length
 ·rw[if_pos hc];obtain⟨hG,h0,hlt⟩:=hc;obtain⟨hm,hg⟩:=jd hG;obtain⟨hL1,hL64,_⟩:=mayS_iff.1 hm
  have hr:r.toNat<g.Succ.length:=by omega
  obtain⟨O,hO⟩:=Ord.exist (Wn hm) hr;have hord:=(ae g h1 trivial r).1 hG h0 hlt O hO;obtain⟨P,rfl,o⟩:=hO.ordered hr (Wn hm);obtain⟨J,hJ,hl⟩:=eM hm o;have ht:=(ML o hJ).eq hm hr o;rw[ht]at hl;have hlen:(((V1 (r.toNat::P)).length:Int)==0)=false:=zzL30.2 (by simp[V1];omega)
  have hlen2:(0:Int)<=1/\(1:Int)<=(V1 (r.toNat::P)).length:=by simp[V1];omega
  have hL2:Vl g _=Fm g (V1 (r.toNat::P)):=rfl
  have hst:(Ru (Hy g (V1 (r.toNat::P),Jc g.Succ.length r.toNat)) (Hy g))=some (Y3 g.Succ r.toNat):=by
   rw[MH,hg];exact hl
  unfold Tw;rw[hord,An,  pQ hL1 hL64,An,Ad (yz h0 (by simpa using hlt)),Ad hlen2]
  have:(Hy g (V1 (r.toNat::P),Jc g.Succ.length r.toNat))=(Ac (Fm g (V1 (r.toNat::P))) (false,0,(List.replicate g.Succ.length (-2)).set r.toNat (-1))).bind (λx22=>(match x22 with|(b10,l11)=>(bif b10 then(some (.next (V1 (r.toNat::P),l11))) else(some (.done l11))))):=by
   unfold Hy Jc;simp only[hL2];rw[Ad hlen2]
  rw[this]at hst;refine Eq.trans ?_ (Bk (λx =>x.bind λx42=>some x42) hst)
  rfl
 ·rw[if_neg hc];unfold Tw
  have:(DZ g&&(decide (0<=r)&&decide (r<g.Succ.length)))=false:=by
   grind
  rw[(ae g h1 trivial r).2 this]
  rfl
theorem wL{α:Type}(l:List α)(d:α)(p:α->Bool){X:Type}(f:Int->Option (LR Int X))(yes no:X)(hl:l.length<9223372036854775808)(hk:∀ i:Nat,i<l.length->f i=some (bif p (l.getD i d) then .next (w64 ((i:Int)+1)) else .done no))
  (he:f l.length=some (.done yes)):Ac f (0:Int)=some (bif l.all p then yes else no):=by
 have:=Hk l d p f yes no (λi hi hp=>by rw[hk i hi,hp,Ah,A0 hi hl]) (λi hi hp=>by grind) he l.length 0 (by omega);rwa[N9]at this
theorem wX(f:TFunc)(hf:VY f)(l:Int)(t:List Int)(u:List Bg):Kf f l t u=some (bif Qv f then 0 else 4,f,l,t,u):=by
 unfold Kf Np;rw[Aau f hf]
 cases Qv f<;>rfl
theorem lH(phis:List A8)(l:List Int)(h1:phis.length<9223372036854775808)(h2:l.length<4611686018427387904):Pb phis l=some (phis.all (Jo l)):=by
 unfold Pb
 rw[wL _ _ (Jo l) _ (.inl ()) _ h1 (λi hi=>by
  unfold Pm
  have hd:decide ((i:Int)<phis.length)=true:=by simpa using hi
  simp only[hd, Aa (Ai hi),C9,aa _ _ h2, Jo]
  cases decide ((phis.getD i _).From=l) with
  | false=>rfl
  | true=>
   grind) (by unfold Pm;simp)]
 cases phis.all _<;>rfl
def fS(e:J9):Bool:=!((e.Kind==1 || e.Kind==3)&&(e.Arg !=0))
theorem lB{n:Nat}(e:J9)(hk:Kb e n=true):Pa e=some (fS e):=by
 have h4 :=by
  have:=(A6 _ _▸hk).1;unfold Yv at this;simp only[A6,Gr]at this;omega
 unfold Pa fS
 have:e.Kind=0\/e.Kind=1\/e.Kind=2\/e.Kind=3:=by omega
 rcases this with h|h|h|h<;>rw[h]<;>cases hb:(e.Arg==0)<;>simp[hb,bne]
theorem ga{L:List (List Int)}(hm:Mo L=true){P:List Nat}(h0:0<L.length)(o:Ord (sN L) 0 P):decide (P.length<L.length) = !(List.range L.length).all λi=>(Q0 L).getD i false:=by
 have hin:∀ x∈P,x<L.length:=λx hx=>(by obtain⟨Q,rfl,oo⟩:=o.ordered h0 (Wn hm);exact oo.lt hx)
 have hr:∀ z,(Q0 L).getD z _=true↔z∈P:=λz=>by
  rw[o.mem z];exact BO (Wn hm) h0 z
 cases ha:(List.range _).all _ with
 | true=>
  have:=((List.perm_ext_iff_of_nodup o.nodup List.nodup_range).2 λi=>⟨λh=>zzL45.2 (hin i h),λh=>(hr i).1 (zzL26.1 ha i h)⟩).length_eq;rw[Vb]at this
  simp;omega
 | false=>
  obtain⟨i,hi,hni⟩:∃ i,i<L.length/\i∉P:=SO λhc=>by
   grind
  have :=Tl L.length _ (zzL113.2 ⟨hni,o.nodup⟩) (λx hx=>by grind);simp at this ⊢;omega
theorem oR {f : TFunc} (hf : OkF f) (l : Int) (t : List Int) (u : List Bg) : ∃ t', I4 f l t u = some (bif Fe f then 0 else 5, f, l, t', u) ∧ (Fe f = true → t' = B8 f) := by
  have hmax : f.Blocks.length ≤ maxLen := by have := hf.blocks; have : (64 : Nat) ≤ maxLen := by decide
                                             omega
  unfold I4; rw [zF f hmax, An]
  cases hs : Gp f with
  | false => exact ⟨t, by unfold Fe; rw [hs]; rfl, fun h => by unfold Fe at h; rw [hs] at h; cases h⟩
  | true =>
    have hm := Jp hs; have hlen := Lw f
    have hpos : 0 < (A1 f).length := by have := (shape_iff.1 hs).1.1; omega
    obtain ⟨h1, h2⟩ := HF hm; obtain ⟨P, hP⟩ := Ord.exist (Wn hm) hpos; have ho := (ae (Kd (A1 f)) h1 trivial 0).1 (QO hm) (by omega) (by show (0 : Int) < ((A1 f).length : Int); omega) P hP; have hfull := ga hm hpos hP; simp only [Ah,  show ((0 : Int) != 0) = false from rfl, Ax, ho, An, show (false == false) = true from rfl]
    have e1 : decide (((V1 P).length : Int) < (f.Blocks.length : Int)) = decide (P.length < (A1 f).length) := by
      rw [hlen]; apply zzL77.2; simp [V1]
    rw [e1, hfull]
    have hsd : Fe f = (((List.range f.Blocks.length).all fun i => (Q0 (A1 f)).getD i false) && (List.range f.Blocks.length).all fun i => fS (f.Blocks.getD i default).End && (f.Blocks.getD i default).Phis.all (Jo ((Dq (A1 f)).getD i []))) := by
      unfold Fe; rw [hs, Ld]
      have : ∀ (n : Nat) (p q : Nat → Bool), ((List.range n).all fun i => p i && q i) = ((List.range n).all p && (List.range n).all q) := fun n p q => by
        grind
      rw [← this]
      congr 1
      funext i
      show (_ && _ && _) = _
      rw [Bool.and_assoc]
      rfl
    rw [hlen]; rw [hsd]
    cases hr : (List.range f.Blocks.length).all _ with
    | false => exact ⟨t, rfl, fun h => by cases h⟩
    | true =>
      refine ⟨B8 f, ?_, fun _ => rfl⟩; rw [Ds, Ax, wq _ 0 h1 h2, An, Ld]; have hp := Yc hm
      have hpl : (Kd (A1 f)).Pred.length = f.Blocks.length := by rw [← hlen]; exact Pp _
      have key : Ac (Dv f l u (Kd (A1 f), 0) (B8 f)) (0 : Int) = some (bif (List.range f.Blocks.length).all (fun i => fS (f.Blocks.getD i default).End && (f.Blocks.getD i default).Phis.all (Jo ((Dq (A1 f)).getD i []))) then .inl () else .inr ((5 : Int), f, l, B8 f, u)) := by
        have hk : ∀ i : Nat, i < f.Blocks.length → Dv f l u (Kd (A1 f), 0) (B8 f) (i : Int) = some (bif (fS (f.Blocks.getD i default).End && (f.Blocks.getD i default).Phis.all (Jo ((Dq (A1 f)).getD i []))) then .next ((i : Int) + 1) else .done (.inr ((5 : Int), f, l, B8 f, u))) := fun i hi => by
          have hB := hf.block _ (Ag (d := (default : Ae)) hi); have hpi : A2 (i : Int) (Kd (A1 f)).Pred.length := Ai (by omega); have hpg : ((Kd (A1 f)).Pred.getD i []).length ≤ 64 := hp.2 _ (Ag (by rw [Pp]; omega)); unfold Dv
          have hd : decide ((i : Int) < (f.Blocks.length : Int)) = true := by simpa using hi
          simp only [hd, Ah, Aa (Ai hi), Aa hpi, C9, lH (f.Blocks.getD i default).Phis ((Kd (A1 f)).Pred.getD i []) (by have := hB.phis; omega) (by omega), An]; have ha  := lB (n := f.Blocks.length) (f.Blocks.getD i default).End ((shape_iff.1 hs).2 i hi); rw [ha, A0 hi (by have := hf.blocks; omega)]
          show _ = some (bif (fS (f.Blocks.getD i default).End && (f.Blocks.getD i default).Phis.all (Jo ((Kd (A1 f)).Pred.getD i []))) then _ else _)
          cases (f.Blocks.getD i default).Phis.all _ <;> cases fS (f.Blocks.getD i default).End <;> rfl
        exact JL _ _ _ _ _ (fun i hi hp => by rw [hk i hi, hp]; rfl) (fun i hi hp => by rw [hk i hi, hp]; rfl) (by unfold Dv; simp)
      show ((Ac (Dv f l u (Kd (A1 f), 0) (B8 f)) (0 : Int)).bind _) = _
      rw [key, An]
      cases (List.range f.Blocks.length).all _ <;> rfl
theorem wS(o:Bv)(l:Int)(h0:0<=l)(h2:l<=2)(hk:Gs o=true):S9 o l=some (!decide (HK l<o.Kind)&&!(decide (l<2)&&decide (1<o.Lanes))):=by
 have hl:=pH hk
 have hK :=by
  simp only[Gs,A6]at hk;have:=hk.1.2.1.1.1;unfold cn at this;simp only[A6,Gr]at this;omega
 unfold S9 HK
 have:l=0\/l=1\/l=2:=by omega
 rcases this with rfl|rfl|rfl
 ·have ha:decide (o.Kind<=17) = !decide (17<o.Kind):=by grind
  have hb:(o.Lanes==1) = !decide (1<o.Lanes):=by grind
  show some _=some (!decide (17<o.Kind)&&!(true&&decide _))
  rw[ha,hb]
  cases decide (17<o.Kind)<;>cases decide (1<o.Lanes)<;>rfl
 ·have ha:decide (o.Kind<=20) = !decide (20<o.Kind):=by grind
  have hb:(o.Lanes==1) = !decide (1<o.Lanes):=by grind
  show some _=some (!decide (20<o.Kind)&&!(true&&decide _))
  rw[ha,hb]
  cases decide (20<o.Kind)<;>cases decide (1<o.Lanes)<;>rfl
 ·grind
theorem lG(o:Bv)(ho:bo o)(f:TFunc)(l:Int)(h0:0<=l)(h2:l<=2)(t:List Int)(u:List Bg):Ib o f l t u=some (K2 l o,f,l,t,u):=by
 unfold Ib K2;rw[PZ o ho,An]
 cases hk:Gs o with
 | false=>rfl
 | true=>
  rw[show(true==true)=true from rfl,Ah,wS o l h0 h2 hk,An,Ah,Ld]
theorem sc(b:Ae){f:TFunc}(hf:OkF f)(hb:b∈f.Blocks)(l:Int)(h0:0<=l)(h2:l<=2)(t:List Int)(u:List Bg):Mb b.Ops f l t u=some (b.Ops.all (K2 l),f,l,t,u):=by
 have hB:=hf.block b hb
 have key:∀ k i ,i+k=b.Ops.length->Ac (Hl b.Ops) (i,f.Params,f.Ret,f.Blocks,l,t,u)=some (bif (b.Ops.drop i).all (K2 l) then .inl (f.Params,f.Ret,f.Blocks,l,t,u) else .inr (false,f,l,t,u)):=by
  intro k
  induction k with
  | zero=>
   intro i h
   obtain rfl:i=b.Ops.length:=by omega
   rw[Ak (x:=.inl (f.Params,f.Ret,f.Blocks,l,t,u)) (by unfold Hl;simp)]
   simp
  | succ k ih=>
   intro i h
   have hi:i<b.Ops.length:=by omega
   have hd:decide (i<(b.Ops.length:Int))=true:=by simpa using hi
   have hdr:b.Ops.drop i=b.Ops.getD i default::b.Ops.drop (i+1):=by simp_all
   have hx:=lG (b.Ops.getD i default) (lr hf hb (Ag hi)) f l h0 h2 t u;rw[hdr,Vw]
   cases ho:K2 l _ with
   | true=>
    rw[ho]at hx
    rw[Ap (s':=(((i+1:Nat):Int),f.Params,f.Ret,f.Blocks,l,t,u)) (by
     unfold Hl;simp only[hd, Aa (Ai hi),C9,hx,   A0 hi (by have:=hB.ops;omega)]
     rfl),ih _ (by omega),Ld]
   | false=>
    rw[ho]at hx
    rw[Ak (x:=.inr (false,f,l,t,u)) (by
     unfold Hl
     simp only[hd,Ah,Aa (Ai hi),C9,hx,An,J2])]
    rfl
 unfold Mb;rw[show(0:Int)=(0:Nat) from rfl,key b.Ops.length 0 (by omega),N9]
 cases b.Ops.all _<;>rfl
theorem oK(b:Ae)(h:b.Phis.length<9223372036854775808):Lm b.Phis=some (b.Phis.all λp=>widthB p.Bits):=by
 unfold Lm
 rw[wL _ _ (λp=>widthB _) _ (.inl ()) _ h (λi hi=>by
  unfold Mc Rl
  have hd:decide (i<(b.Phis.length:Int))=true:=by simpa using hi
  simp only[hd, Aa (Ai hi),C9,Ws]
  cases widthB _<;>rfl) (by unfold Mc;simp)]
 cases b.Phis.all _<;>rfl
theorem oJ(p:List Int)(h:p.length<9223372036854775808):O9 p=some (p.all widthB):=by
 unfold O9
 rw[wL p 0 widthB _ (.inl ()) _ h (λi hi=>by
  unfold Pl
  have hd:decide (i<(p.length:Int))=true:=by simpa using hi
  simp only[hd, Aa (Ai hi),C9,Ws]
  cases widthB _<;>rfl) (by unfold Pl;simp)]
 cases p.all _<;>rfl
theorem ZK(b:Ae){f:TFunc}(hf:OkF f)(hb:b∈f.Blocks)(l:Int)(h0:0<=l)(h2:l<=2)(t:List Int)(u:List Bg):Gu b f l t u=some (E9 l b,f,l,t,u):=by
 unfold Gu E9;rw[oK b (by have:=(hf.block b hb).phis;omega), sc b hf hb l h0 h2 t u]
 cases(b.Phis.all _)<;>rfl
theorem sk{f:TFunc}(hf:OkF f)(l:Int)(h0:0<=l)(h2:l<=2)(t:List Int)(u:List Bg):Ju f l t u=some (bif M3 f l then 0 else 6,f,l,t,u):=by
 have key:∀ k i ,i+k=f.Blocks.length->Ac (Fl f.Blocks) (i,f.Params,f.Ret,f.Blocks,l,t,u)=some (bif (f.Blocks.drop i).all (E9 l) then .inl (f.Params,f.Ret,f.Blocks,l,t,u) else .inr (false,f,l,t,u)):=by
  intro k
  induction k with
  | zero=>
   intro i h
   obtain rfl:i=f.Blocks.length:=by omega
   rw[Ak (x:=.inl (f.Params,f.Ret,f.Blocks,l,t,u)) (by unfold Fl;simp)]
   simp
  | succ k ih=>
   intro i h
   have hi:i<f.Blocks.length:=by omega
   have hd:decide ((i:Int)<f.Blocks.length)=true:=by simpa using hi
   have hdr:f.Blocks.drop i=f.Blocks.getD i default::f.Blocks.drop (i+1):=by simp_all
   have hx:=ZK (f.Blocks.getD i default) hf (Ag hi) l h0 h2 t u;rw[hdr,Vw]
   cases ho:E9 l _ with
   | true=>
    rw[ho]at hx
    rw[Ap (s':=(((i+1:Nat):Int),f.Params,f.Ret,f.Blocks,l,t,u)) (by
     unfold Fl;simp only[hd, Aa (Ai hi),C9,hx,   A0 hi (by have:=hf.blocks;omega)]
     rfl),ih _ (by omega),Ld]
   | false=>
    rw[ho]at hx
    rw[Ak (x:=.inr (false,f,l,t,u)) (by
     unfold Fl
     simp only[hd,Ah,Aa (Ai hi),C9,hx,An,J2])]
    rfl
 have hall:Jt f.Blocks f l t u=some (f.Blocks.all (E9 l),f,l,t,u):=by
  unfold Jt;rw[show(0:Int)=(0:Nat) from rfl,key f.Blocks.length 0 (by omega),N9]
  cases f.Blocks.all _<;>rfl
 unfold Ju M3 Np;rw[oJ _ (by have:=hf.few;omega), hall,Ws]
 cases f.Params.all _<;>cases widthB f.Ret<;>cases f.Blocks.all _<;>rfl
def ut(d:Bz):L6:=bif decide (d.Block<0) then⟨0,-1⟩ else⟨d.Block,d.At⟩
def SI(d:Bz):Ay:=⟨d.Shape,ut d⟩
def dv(l:List Bz):List (Int×Ay):=l.map λd=>(d.V,SI d)
def UU(acc:List (Int×Ay))(v:Int):Bool:=(Ec acc v || decide (v<1)) || decide (1023<v)
def Lb:List (Int×Ay)->List Bz->Bool×List (Int×Ay)
 | acc,[]=>(true,acc)
 | acc,d::ds=>bif UU acc d.V then(false,acc) else Lb (Jl acc d.V (SI d)) ds
theorem JE:∀(a b:List Bz) (acc:List (Int×Ay)),Lb acc (a++b)=bif (Lb acc a).1 then Lb (Lb acc a).2 b else Lb acc a
 | [],b,acc=>rfl
 | d::a,b,acc=>by
  rw[CF];simp only[Lb]
  cases UU acc d.V with
  | true=>rfl
  | false =>  exact JE a b _
theorem QP{V:Type}(k:Int):∀ l:List (Int×V),Ec l k=l.any λq=>k==q.1
 | []=>rfl
 | (a,b)::l=>by rw[List.any_cons,<- QP k l];rfl
theorem JQ{V:Type}(k:Int)(v:V):∀{l:List (Int×V)},Ec l k=false->Jl l k v=l++[(k,v)]
 | [],_=>rfl
 | (a,b)::l,h=>by
  simp only[Ec,KK]at h;simp only[Jl,h.1,Ax,JQ k v h.2,CF]
theorem cM(v:Int)(s:Int×Int)(p:L6)(f:TFunc)(l:Int)(t:List Int)(vs:List (Int×Ay))(u:List Bg) :
  Gv v s p f l t vs u=some (bif UU vs v then(false,f,l,t,u,vs) else(true,f,l,t,u,Jl vs v ⟨s,p⟩)):=by
 unfold Gv UU
 cases Ec vs v<;>cases decide (v<1)<;>cases decide (1023<v)<;>rfl
def uA(f:TFunc)(l:Int)(t:List Int)(u:List Bg)(r:Bool×List (Int×Ay)):(List Int×Int×List Ae×Int×List Int×List Bg×List (Int×Ay)) ⊕ (Bool×TFunc×Int×List Int×List Bg×List (Int×Ay)):=
 bif r.1 then .inl (f.Params,f.Ret,f.Blocks,l,t,u,r.2) else .inr (false,f,l,t,u,r.2)
theorem wV(b:Ae)(h:b.Phis.length<9223372036854775808)(i:Nat)(f:TFunc)(l:Int)(t:List Int)(u:List Bg):∀(k j:Nat) (vs:List (Int×Ay)),j+k=b.Phis.length->
  Ac (D0 (i:Int) b) ((j:Int),f.Params,f.Ret,f.Blocks,l,t,u,vs)=some (uA f l t u (Lb vs ((List.range' j k).flatMap λ(k:Nat)=>[(⟨(b.Phis.getD k default).Dst,i,-1,((b.Phis.getD k default).Bits,1)⟩:Bz)]))):=by
 intro k
 induction k with
 | zero=>
  intro j vs hj
  obtain rfl:j=b.Phis.length:=by omega
  rw[Ak (x:=.inl (f.Params,f.Ret,f.Blocks,l,t,u,vs)) (by unfold D0;simp)]
  rfl
 | succ k ih=>
  intro j vs hj
  have hi:j<b.Phis.length:=by omega
  have hd:decide (j<(b.Phis.length:Int))=true:=by simpa using hi
  have hx:=cM (b.Phis.getD j default).Dst ((b.Phis.getD j default).Bits,1) ⟨(i:Int),-1⟩ f l t vs u
  have hat:ut ⟨(b.Phis.getD j default).Dst,i,-1,((b.Phis.getD j default).Bits,1)⟩=⟨i,-1⟩:=by   rfl
  rw[EW,MR,List.singleton_append];simp only[Lb]
  cases hb:UU vs _ with
  | true=>
   rw[hb]at hx
   rw[Ak  (by
    unfold D0 Eu;simp only[hd, Aa (Ai hi),C9,An];rw[ hx]
    rfl)]
   rfl
  | false=>
   rw[hb]at hx
   rw[Ap (s':=(((j+1:Nat):Int),f.Params,f.Ret,f.Blocks,l,t,u,Jl vs _ _)) (by
    unfold D0 Eu;simp only[hd, Aa (Ai hi),C9,An];rw[ hx,A0 hi h]
    rfl),ih _ _ (by omega)]
   unfold SI
   rfl
theorem yq{f0:TFunc}(hf:OkF f0){b:Ae}(hb:b∈f0.Blocks)(i:Nat)(f:TFunc)(l:Int)(t:List Int)(u:List Bg):∀(k j:Nat) (vs:List (Int×Ay)),j+k=b.Ops.length->
  Ac (Cs (i:Int) b) ((j:Int),f.Params,f.Ret,f.Blocks,l,t,u,vs)=some (uA f l t u (Lb vs ((List.range' j k).flatMap λ(k:Nat)=>bif decide (0<(H2 (b.Ops.getD k default)).1) then[(⟨(b.Ops.getD k default).Dst,i,k,H2 (b.Ops.getD k default)⟩:Bz)] else[]))):=by
 have hB:=hf.block b hb;intro k
 induction k with
 | zero=>
  intro j vs hj
  obtain rfl:j=b.Ops.length:=by omega
  rw[Ak (x:=.inl (f.Params,f.Ret,f.Blocks,l,t,u,vs)) (by unfold Cs;simp)]
  rfl
 | succ k ih=>
  intro j vs hj
  have hi:j<b.Ops.length:=by omega
  have hd:decide ((j:Int)<(b.Ops.length:Int))=true:=by simpa using hi
  have hg:Qm _=some (H2 (b.Ops.getD j default)):=fu _ (lr hf hb (Ag hi));have hx:=cM (b.Ops.getD j default).Dst (H2 (b.Ops.getD j default)) (⟨(i:Int),(j:Int)⟩:L6) f l t vs u
  have hat:ut (⟨(b.Ops.getD j default).Dst,i,j,H2 (b.Ops.getD j default)⟩:Bz)=⟨(i:Int),(j:Int)⟩:=by unfold ut; rfl
  rw[EW,MR]
  cases hp:decide (0<(H2 _).1) with
  | false=>
   rw[Ax,Y8,<- ih (j+1) vs (by omega),Ap (s':=(((j+1:Nat):Int),f.Params,f.Ret,f.Blocks,l,t,u,vs)) (by
    unfold Cs;simp only[hd,Ah,Aa (Ai hi),C9,hg,An,hp];rw[A0 hi (by have:=hB.ops;omega)]
    rfl)]
  | true=>
   rw[Ah,List.singleton_append];simp only[Lb]
   cases hb:UU vs _ with
   | true=>
    rw[hb]at hx
    rw[Ak  (by
     unfold Cs;simp only[hd,Ah,Aa (Ai hi),C9,hg,An,hp];rw[show(true==true)=true from rfl,Ah, hx]
     rfl)]
    rfl
   | false=>
    rw[hb]at hx
    rw[Ap (s':=(((j+1:Nat):Int),f.Params,f.Ret,f.Blocks,l,t,u,Jl vs _ _)) (by
     unfold Cs;simp only[hd,Ah,Aa (Ai hi),C9,hg,An,hp];rw[show(true==true)=true from rfl,Ah, hx,A0 hi (by have:=hB.ops;omega)]
     rfl),ih (j+1) _ (by omega)]
    unfold SI
    rfl
theorem cN{f:TFunc}(hf:OkF f){b:Ae}(hb:b∈f.Blocks)(i:Nat)(l:Int)(t:List Int)(u:List Bg)(vs:List (Int×Ay)) :
  Hh (i:Int) b f l t vs u=some ((Lb vs (Q8 b i)).1,f,l,t,u,(Lb vs (Q8 b i)).2):=by
 unfold Hh Q8;rw[show 0=((0:Nat):Int) from rfl,wV b (by have:=(hf.block b hb).phis;omega) i f l t u b.Phis.length 0 vs (by omega),An,JE];rw[show(List.range' 0 _).flatMap _=Ry b i by rw[Ry,Si]];unfold uA
 cases h1:(Lb vs _).1 with
 | false=>grind
 | true=>
  simp only[Ah];rw[yq hf hb i f l t u b.Ops.length 0 _ (by omega)];rw[show(List.range' 0 _).flatMap _=Xe b i by rw[Xe,Si]];unfold uA;cases h2:(Lb _ _).1<;>rfl
theorem Wb{l:List Bz}{i:Nat}(hi:i<l.length):Rb l i=true↔valS (l.getD i default).V=true/\∀ j,j<i->(l.getD j default).V≠(l.getD i default).V:=by
 unfold Rb;rw[A6];refine and_congr Iff.rfl ?_;unfold Lp
 cases hx:l.findIdx? _ with
 | none=>
  rw[List.findIdx?_eq_none_iff]at hx;have:=hx _ (Ag (d:=default) hi);simp at this
 | some j=>
  obtain⟨hj,h1,h2⟩:=List.findIdx?_eq_some_iff_getElem.1 hx;simp only[zzL63]
  constructor
  ·grind
  ·intro h
   have hv:(l.getD j default).V=(l.getD i default).V:=by grind
   rcases Nat.lt_trichotomy j i with hlt|rfl|hgt
   ·grind
   ·rfl
   ·grind
theorem tb(l:List Bz)(v:Int):Ec (dv l) v=l.any λd=>v==d.V:=by
 rw[QP,dv,List.any_map];rfl
theorem PJ:∀(ds pre:List Bz),(Lb (dv pre) ds).1=(List.range' pre.length ds.length).all (Rb (pre++ds))/\((Lb (dv pre) ds).1=true->(Lb (dv pre) ds).2=dv (pre++ds))
 | [],pre=>by simp[Lb]
 | d::ds,pre=>by
  have hi:pre.length<(pre++d::ds).length:=by simp
  have hg:(pre++d::ds).getD pre.length default=d:=by simp[List.getD]
  have hj:∀ j,j<pre.length->(pre++d::ds).getD j default=pre.getD j default:=λj h=>by grind
  have hok:Rb (pre++d::ds) pre.length = !UU (dv pre) d.V:=by
   rw[Y7,Wb hi,hg];unfold UU valS;rw[tb];simp only[Y6,KK,SP,List.any_eq_false,zzL63,A6,Gr]
   constructor
   ·rintro⟨⟨h1,h2⟩,h3⟩;refine⟨⟨λx hx he=>?_,by omega⟩,by omega⟩;obtain⟨j,hjl,rfl⟩:=G7 hx;have:=h3 j hjl;rw[hj j hjl,Ab _ _ _ hjl]at this;exact this he.symm
   ·grind
  rw[EX,EW,Vw,hok];simp only[Lb]
  cases hb:UU _ d.V with
  | true=>grind
  | false=>
   have hn :=by
    unfold UU at hb;simp only[KK]at hb;exact hb.1.1
   have hs:Jl (dv pre) d.V (SI d)=dv (pre++[d]):=by rw[JQ _ _ hn,dv,dv,Wy];rfl
   have:=PJ ds (pre++[d]);rw[Fh,EV]at this;rw[ hs,J2];exact this
def pv(f:TFunc)(n:Nat):List (Int×Ay):=(List.range n).map λ(j:Nat)=>((j:Int)+1,⟨(f.Params.getD j 0,1),⟨0,-1⟩⟩)
theorem zT(f:TFunc):pv f f.Params.length=dv (Q9 f):=by
 unfold pv dv Q9
 induction List.range _ with
 | nil=>rfl
 | cons a l ih=>rw[Cu, ih];rfl
theorem oQ{f:TFunc}(hf:OkF f):∀(k i:Nat),i+k=f.Params.length->Ac (Gw f) ((i:Int),pv f i)=some (pv f f.Params.length):=by
 intro k
 induction k with
 | zero=>
  intro i h
  obtain rfl:i=f.Params.length:=by omega
  exact Ak (by unfold Gw;simp)
 | succ k ih=>
  intro i h
  have hi:i<f.Params.length:=by omega
  have hd:decide ((i:Int)<(f.Params.length:Int))=true:=by simpa using hi
  have hn:Ec (pv f i) ((i:Int)+1)=false:=by
   rw[QP,pv,List.any_map,List.any_eq_false];intro j hj;have:=zzL45.1 hj
   simp;omega
  have hs:Jl (pv f i) ((i:Int)+1) ⟨(f.Params.getD i 0,1),⟨0,-1⟩⟩=pv f (i+1):=by
   rw[JQ _ _ hn,pv,pv,W0,Wy];rfl
  rw[Ap  (by
   unfold Gw Eu;simp only[hd,Ah,Aa (Ai hi),C9,An,A0 hi (by have:=hf.few;omega),hs]
   rfl)]
  exact ih (i+1) (by omega)
theorem oM{f:TFunc}(hf:OkF f)(l:Int)(t:List Int)(u:List Bg):∀(k i:Nat) (vs:List (Int×Ay)),i+k=f.Blocks.length->
  Ac (Et f) ((i:Int),vs,f.Params,f.Ret,f.Blocks,l,t,u)=some (bif (Lb vs ((List.range' i k).flatMap λi=>Q8 (f.Blocks.getD i default) i)).1 then .inl ((Lb vs ((List.range' i k).flatMap λi=>Q8 (f.Blocks.getD i default) i)).2,f.Params,f.Ret,f.Blocks,l,t,u) else
   .inr (7,f,l,t,u,(Lb vs ((List.range' i k).flatMap λi=>Q8 (f.Blocks.getD i default) i)).2)):=by
 intro k
 induction k with
 | zero=>
  intro i vs h
  obtain rfl:i=f.Blocks.length:=by omega
  rw[Ak (x:=.inl (vs,f.Params,f.Ret,f.Blocks,l,t,u)) (by unfold Et;simp)]
  rfl
 | succ k ih=>
  intro i vs h
  have hi:i<f.Blocks.length:=by omega
  have hd:decide (i<(f.Blocks.length:Int))=true:=by simpa using hi
  have hx:=cN hf (Ag (d:=default) hi) i l t u vs;rw[EW,MR,JE]
  cases hb:(Lb vs _).1 with
  | false=>
   rw[hb]at hx
   rw[Ak  (by
    unfold Et;simp only[hd, Aa (Ai hi),C9];rw[ hx]
    rfl),Ax,hb]
   rfl
  | true=>
   rw[hb]at hx
   rw[Ap (s':=(((i+1:Nat):Int),(Lb vs _).2,f.Params,f.Ret,f.Blocks,l,t,u)) (by
    unfold Et;simp only[hd, Aa (Ai hi),C9];rw[ hx,A0 hi (by have:=hf.blocks;omega)]
    rfl),ih _ _ (by omega),Ah]
theorem okP{f:TFunc}(hf:OkF f):∀ i,i<f.Params.length->Rb (Au f) i=true:=λi hi=>by
 have hl:=DB f
 have hg:∀ j,j<f.Params.length->(Au f).getD j default=⟨j+1,-1,0,(f.Params.getD j 0,1)⟩:=λj hj=>by
  have e:Q9 f=(List.range f.Params.length).map λi=>⟨(i:Int)+1,-1,0,(f.Params.getD i 0,1)⟩:=by
   unfold Q9
   induction List.range _ with
   | nil=>rfl
   | cons a l ih=>grind
  rw[Au,List.getD,Uf (by omega),e];simp[hj]
 have hle:i<(Au f).length:=by rw[Au,Fh];omega
 rw[Wb hle,hg i hi];refine⟨?_,λj hj=>?_⟩
 ·have:=hf.few;simp only[valS,A6,Gr];omega
 ·grind
theorem lE{f:TFunc}(hf:OkF f)(l:Int)(t:List Int)(u:List Bg):∃ vs,H9 f l t u=some (bif (List.range (Au f).length).all (Rb (Au f)) then 0 else 7,f,l,t,u,vs)/\((List.range (Au f).length).all (Rb (Au f))=true->vs=dv (Au f)):=by
 have hsp:=PJ ((List.range f.Blocks.length).flatMap λi=>Q8 (f.Blocks.getD i default) i) (Q9 f)
 have hall:(List.range (Au f).length).all (Rb (Au f))=(Lb (dv (Q9 f)) ((List.range f.Blocks.length).flatMap λi=>Q8 (f.Blocks.getD i default) i)).1:=by
  rw[hsp.1]
  show(List.range _).all _=(List.range' _ _).all (Rb (Au f))
  have hs:List.range (Au f).length=List.range (Q9 f).length++List.range' (Q9 f).length ((List.range f.Blocks.length).flatMap λi=>Q8 (f.Blocks.getD i default) i).length:=by
   rw[Si,Si,Au,Fh];have:=List.range'_append_1 (s:=0) (m:=(Q9 f).length) (n:=((List.range f.Blocks.length).flatMap λi=>Q8 (f.Blocks.getD i default) i).length);rw[E8]at this;exact this.symm
  rw[hs,List.all_append];have :=zzL26.2 λi hi=>okP hf i (by rw[<- DB f];exact zzL45.1 hi);rw[this,Ld]
 unfold H9;have hp:=oQ hf f.Params.length 0 (by omega);have e0:pv f 0=[]:=rfl;rw[e0,show(((0:Nat):Int))=0 from rfl]at hp;rw[hp,An,zT];have hb:=oM hf l t u f.Blocks.length 0 (dv (Q9 f)) (by omega);rw[show(((0:Nat):Int))=0 from rfl,<- Si]at hb;rw[hb, hall];refine⟨(Lb _ _).2,?_,hsp.2⟩
 cases(Lb _ _).1<;>rfl
theorem DK{β S X:Type}(B:Nat)(mk:Int->List β->S)(out:List β->X)(n:Nat)(E:Nat->List β)(f:S->Option (LR S X))(hn:∀(acc:List β) (i:Nat),i<n->(acc++E i).length<=B->f (mk i acc)=some (.next (mk ((i:Int)+1) (acc++E i))))
  (hd:∀ acc:List β,f (mk n acc)=some (.done (out acc))):∀(k i:Nat) (acc:List β),i+k=n->(acc++(List.range' i k).flatMap E).length<=B->Ac f (mk i acc)=some (out (acc++(List.range' i k).flatMap E))
 | 0,i,acc,h,_=>by
  obtain rfl:i=n:=by omega
  rw[Ak (hd acc)]
  simp
 | k+1,i,acc,h,hB=>by
  have hi:i<n:=by omega
  rw[EW,MR,<- EV]at hB ⊢;rw[Ap (hn acc i hi (by grind)),show(i+1)=((i+1:Nat):Int) by omega,DK B mk out n E f hn hd k _ _ (by omega) hB]
theorem dK{β γ:Type}(h:β->γ)(n:Nat)(g:Nat->β):(List.range' 0 n).flatMap (λj=>[h (g j)])=((List.range n).flatMap λj=>[g j]).map h:=by
 rw[List.map_flatMap,Si];rfl
theorem QN{β γ:Type}(h:β->γ)(n:Nat)(g:Nat->List β):(List.range' 0 n).flatMap (λj=>(g j).map h)=((List.range n).flatMap g).map h:=by
 rw[List.map_flatMap,Si]
def Sr(f:TFunc)(b:Int):Int:=((f.Blocks.getD b.toNat default).Ops.length:Int)
def Jq(f:TFunc)(u:Cq):Bg:=⟨u.V,u.Shape,⟨u.Block,bif u.At==1000 then Sr f u.Block else u.At⟩⟩
theorem jF(f:TFunc)(l:Int)(t:List Int)(vs:List (Int×Ay))(v:Int)(s:Int×Int)(p:L6)(u:List Bg)(h:(u++[(⟨v,s,p⟩:Bg)]).length<=10000000):Fb v s p f l t vs u=some (f,l,t,u++[⟨v,s,p⟩]):=by
 unfold Fb;rw[Ad (by rw[Fh]at h;rw[ID];omega)]
theorem oP(f:TFunc)(l:Int)(t:List Int)(vs:List (Int×Ay))(b:Int)(hb:A2 b f.Blocks.length)(u:List Bg):G8 b f l t vs u=some (⟨b,Sr f b⟩,f,l,t,u):=by
 unfold G8;rw[Ad hb];rfl
section
variable {f:TFunc} (hf:OkF f) (l:Int) (t:List Int) (vs:List (Int×Ay))
include hf
theorem wU(i k:Nat)(hi:i<f.Blocks.length)(hk:k<(f.Blocks.getD i default).Phis.length)(hfit:((f.Blocks.getD i default).Phis.getD k default).Args.length<=((f.Blocks.getD i default).Phis.getD k default).From.length)
  (hin:∀ x∈((f.Blocks.getD i default).Phis.getD k default).From,A2 x f.Blocks.length) (u:List Bg) (hB:(u++(N6 ((f.Blocks.getD i default).Phis.getD k default)).map (Jq f)).length<=10000000) :
  Ac (En f vs (i:Int) (k:Int)) ((0:Int),f.Params,f.Ret,f.Blocks,l,t,u)=some (f.Params,f.Ret,f.Blocks,l,t,u++(N6 ((f.Blocks.getD i default).Phis.getD k default)).map (Jq f)):=by
 have hlen:=RC hf (Ag  hi) (Ag (d:=default) hk)
 generalize hp:(f.Blocks.getD i _).Phis.getD k _=p at *
 have e:=dK (Jq f) p.Args.length λj=>⟨p.Args.getD j 0,p.From.getD j 0,1000,(p.Bits,1)⟩
 have:=DK _ (λj u=>(j,f.Params,f.Ret,f.Blocks,l,t,u)) (λu=>(f.Params,f.Ret,f.Blocks,l,t,u)) _ (λj=>[Jq f _]) (En f vs i k) (λacc j hj hacc=>by
  unfold En Eu
  have hd:decide (j<(p.Args.length:Int))=true:=by simpa using hj
  have hjf:j<p.From.length:=by omega
  simp only[C9,hp,hd,Ah,Aa (Ai hj),An,Aa (Ai hjf)];rw[ oP f l t vs _ (hin _ (Ag hjf)),An];have eu:Jq f ⟨p.Args.getD j 0,p.From.getD j 0,1000,(p.Bits,1)⟩=⟨p.Args.getD j 0,(p.Bits,1),⟨p.From.getD j 0,Sr f _⟩⟩:=rfl;rw[eu]at hacc ⊢
  rw[jF f l t vs _ _ _ acc hacc,An,A0 hj (by omega)]) (λacc=>by unfold En;simp only[C9,hp,show decide (p.Args.length<(p.Args.length:Int))=false by simp,Ax]) p.Args.length 0 u (by omega) (by rw[e];exact hB)
 rw[e]at this;exact this
theorem sj(i:Nat)(hi:i<f.Blocks.length)(hfit:∀ p∈(f.Blocks.getD i default).Phis,p.Args.length<=p.From.length/\∀ x∈p.From,A2 x f.Blocks.length)(u:List Bg)(hB:(u++(M9 (f.Blocks.getD i default)).map (Jq f)).length<=10000000) :
  Ac (Eo f vs (i:Int)) ((0:Int),f.Params,f.Ret,f.Blocks,l,t,u)=some (f.Params,f.Ret,f.Blocks,l,t,u++(M9 (f.Blocks.getD i default)).map (Jq f)):=by
 have hBk:=hf.block _ (Ag (d:=default) hi);have e:=QN (Jq f) (f.Blocks.getD i default).Phis.length λk=>N6 ((f.Blocks.getD i default).Phis.getD k default)
 have:=DK _ (λj u=>(j,f.Params,f.Ret,f.Blocks,l,t,u)) (λu=>(f.Params,f.Ret,f.Blocks,l,t,u)) _ _ (Eo f vs i) (λacc k hk hacc=>by
  have hq:=hfit _ (Ag (d:=default) hk);have h1:=wU hf l t vs i k hi hk hq.1 hq.2 acc hacc;unfold Eo
  have hd:decide ((k:Int)<(f.Blocks.getD i default).Phis.length)=true:=by simpa using hk
  simp only[C9,hd,Ah,Aa (Ai hk),h1,An,A0 hk (by have:=hBk.phis;omega)]) (λacc=>by unfold Eo;simp) (f.Blocks.getD i default).Phis.length 0 u (by omega) (by rw[e];exact hB)
 rw[e]at this;exact this
theorem yp(i k:Nat)(hi:i<f.Blocks.length)(hk:k<(f.Blocks.getD i default).Ops.length)(u:List Bg)(hB:(u++(Q3 ((f.Blocks.getD i default).Ops.getD k default) i k).map (Jq f)).length<=10000000) :
  Ac (Ep f vs (i:Int) (k:Int) (He ((f.Blocks.getD i default).Ops.getD k default))) ((0:Int),f.Params,f.Ret,f.Blocks,l,t,u)=some (f.Params,f.Ret,f.Blocks,l,t,u++(Q3 ((f.Blocks.getD i default).Ops.getD k default) i k).map (Jq f)):=by
 have hBk:=hf.block _ (Ag (d:=default) hi);have hlen:=Yj (jk hf (Ag  hi) (Ag (d:=default) hk));have hk512:=hBk.ops
 generalize hp:(f.Blocks.getD i _).Ops.getD k _=o at *
 have e:=dK (Jq f) (He o).length λj=>⟨o.Args.getD j 0,i,k,(He o).getD j (0,0)⟩
 have:=DK _ (λj u=>(j,f.Params,f.Ret,f.Blocks,l,t,u)) (λu=>(f.Params,f.Ret,f.Blocks,l,t,u)) _ (λj=>[Jq f _]) (Ep f vs i k (He o)) (λacc j hj hacc=>by
  have hkk:((k:Int)==1000)=false:=by simp;omega
  have eu:Jq f ⟨o.Args.getD j 0,i,k,(He o).getD j (0,0)⟩=⟨o.Args.getD j 0,(He o).getD j (0,0),⟨i,k⟩⟩:=by unfold Jq;simp only[hkk,Ax]
  rw[eu]at hacc ⊢;unfold Ep
  have hd:decide (j<((He o).length:Int))=true:=by simpa using hj
  have hja:j<o.Args.length:=by omega
  simp only[C9,hp,hd,Ah,Aa (Ai hj),Aa (Ai hja)]
  rw[ jF f l t vs _ _ _ acc hacc,An,A0 hj (by omega)]) (λacc=>by unfold Ep;simp) (He o).length 0 u (by omega) (by rw[e];exact hB)
 rw[e]at this;exact this
theorem wT(i:Nat)(hi:i<f.Blocks.length)(u:List Bg)(hB:(u++(Su (f.Blocks.getD i default) i).map (Jq f)).length<=10000000) :
  Ac (Er f vs (i:Int)) ((0:Int),f.Params,f.Ret,f.Blocks,l,t,u)=some (f.Params,f.Ret,f.Blocks,l,t,u++(Su (f.Blocks.getD i default) i).map (Jq f)):=by
 have hmem:=Ag (d:=default) hi;have hBk:=hf.block _ hmem;have e:=QN (Jq f) (f.Blocks.getD i default).Ops.length λk=>Q3 ((f.Blocks.getD i default).Ops.getD k default) i k
 have:=DK _ (λj u=>(j,f.Params,f.Ret,f.Blocks,l,t,u)) (λu=>(f.Params,f.Ret,f.Blocks,l,t,u)) _ _ (Er f vs i) (λacc k hk hacc=>by
  have h1:=yp hf l t vs i k hi hk acc hacc;have ht:Qn _=some (He ((f.Blocks.getD i _).Ops.getD k default)):=fx _ (lr hf hmem (Ag hk));unfold Er
  have hd:decide (k<((f.Blocks.getD i default).Ops.length:Int))=true:=by simpa using hk
  simp only[C9,hd,Ah,Aa (Ai hk),ht,h1,An,A0 hk (by have:=hBk.ops;omega)]) (λacc=>by unfold Er;simp) (f.Blocks.getD i default).Ops.length 0 u (by omega) (by rw[e];exact hB)
 rw[e]at this;exact this
theorem lC (hfit : ∀ b ∈ f.Blocks, ∀ p ∈ b.Phis, p.Args.length ≤ p.From.length ∧ ∀ x ∈ p.From, A2 x f.Blocks.length) : H8 f l t vs [] = some (f, l, t, (Bh f).map (Jq f)) := by
  have e := QN (Jq f) f.Blocks.length fun (i : Nat) => IE f (f.Blocks.getD i default) i; have hul := KH hf
  have := DK 10000000 (fun j u => (j, f.Params, f.Ret, f.Blocks, l, t, u)) (fun u => (f.Params, f.Ret, f.Blocks, l, t, u)) f.Blocks.length (fun (i : Nat) => (IE f (f.Blocks.getD i default) i).map (Jq f)) (Es f vs) (fun acc i hi hacc => by
    have hmem := Ag (d := (default : Ae)) hi; unfold IE at hacc ⊢; rw [Wy, Wy, ← EV, ← EV] at hacc ⊢; have l1 := hacc; simp only [Fh, Dz] at l1; have h1 := sj hf l t vs i hi (hfit _ hmem) acc (by simp only [Fh, Dz]; omega); have h2 := wT hf l t vs i hi (acc ++ (M9 (f.Blocks.getD i default)).map (Jq f)) (by simp only [Fh, Dz]; omega); have hinb : A2 (i : Int) f.Blocks.length := Ai hi; unfold Es Eu
    have hd : decide ((i : Int) < (f.Blocks.length : Int)) = true := by simpa using hi
    simp only [hd, Ah, Aa (Ai hi), h1, An, h2, C9]; have hF : (⟨f.Params, f.Ret, f.Blocks⟩ : TFunc) = f := rfl; have hw : w64 ((i : Int) + 1) = (i : Int) + 1 := A0 hi (by have := hf.blocks; omega); unfold Yl at hacc ⊢
    cases hz : ((f.Blocks.getD i default).End.Kind == 0) with
    | true =>
      have hz2 : ((f.Blocks.getD i default).End.Kind == 2) = false := by have : (f.Blocks.getD i default).End.Kind = 0 := by simpa using hz
                                                                         rw [this]; rfl
      rw [hz, hz2] at hacc; simp only [Ah, Ax, hz2, List.append_nil, Cu, Dp] at hacc ⊢; rw [hF, oP f l t vs _ hinb, An]; simp only; rw [jF f l t vs _ _ _ _ (show (_ ++ [(⟨_, _, ⟨(i : Int), Sr f (i : Int)⟩⟩ : Bg)]).length ≤ 10000000 from hacc), An, An, hw]
      rfl
    | false =>
      rw [hz] at hacc
      cases hz2 : ((f.Blocks.getD i default).End.Kind == 2) with
      | true =>
        rw [hz2] at hacc; simp only [Ah, Ax, Y8, Cu, Dp] at hacc ⊢; rw [hF, oP f l t vs _ hinb, An]; simp only; rw [jF f l t vs _ _ _ _ (show (_ ++ [(⟨_, _, ⟨(i : Int), Sr f (i : Int)⟩⟩ : Bg)]).length ≤ 10000000 from hacc), An, An, hw]
        rfl
      | false =>
        simp only [Ax, Y8, Dp, List.append_nil, An, hw]) (fun acc => by unfold Es; simp) f.Blocks.length 0 [] (by omega) (by rw [e]; simpa [Bh] using (by omega : (Bh f).length ≤ 10000000))
  rw [e, Y8] at this; unfold H8; rw [show (0 : Int) = ((0 : Nat) : Int) from rfl]
  show ((Ac (Es f vs) (((0 : Nat) : Int), f.Params, f.Ret, f.Blocks, l, t, [])).bind _) = _
  rw [this, An]
  rfl
end
theorem sT{σ X:Type}(mk:Int->σ)(U:List Bg)(p:Bg->Bool)(f:σ->Option (LR σ X))(yes no:X)(hk:∀ i:Nat,i<U.length->f (mk i)=some (bif p (U.getD i default) then .next (mk ((i:Int)+1)) else .done no))(he:f (mk U.length)=some (.done yes)) :
  ∀ k i:Nat,i+k=U.length->Ac f (mk i)=some (bif (U.drop i).all p then yes else no)
 | 0,i,h=>by
  obtain rfl:i=U.length:=by omega
  rw[Ak he]
  simp
 | k+1,i,h=>by
  have hi:i<U.length:=by omega
  have hdr:U.drop i=U.getD i default::U.drop (i+1):=by simp_all
  have hx:=hk i hi;rw[hdr,Vw]
  cases hp:p _ with
  | true=>
   rw[hp]at hx;rw[Ap hx,show((i:Int)+1)=(i+1:Nat) by omega,sT mk U p f yes no hk he k _ (by omega),Ld]
  | false=>
   rw[hp]at hx;rw[Ak hx]
   rfl
theorem PP(d:Bz)(l:List Bz)(v:Int):Lp (d::l) v=bif d.V==v then 0 else bif decide (Lp l v<0) then -1 else Lp l v+1:=by
 unfold Lp;rw[List.findIdx?_cons]
 cases d.V==v with
 | true=>rfl
 | false=>
  grind
theorem QQ(v:Int):∀ l:List Bz,Ec (dv l) v = !decide (Lp l v<0)
 | []=>rfl
 | d::l=>by
  rw[PP]
  show((v==d.V) || Ec (dv l) v)=_
  rw[QQ v l,show(v==d.V)=(d.V==v) by grind]
  cases d.V==v with
  | true=>rfl
  | false=>
   grind
theorem FK(v:Int):∀ l:List Bz,¬ Lp l v<0->Fy (default:Ay) (dv l) v=SI (defOf l v)
 | [],h=>absurd (show -1<0 by decide) h
 | d::l,h=>by
  unfold defOf;rw[PP]at h ⊢
  show(bif v==d.V then SI d else Fy _ (dv l) v)=_
  rw[show(v==d.V)=(d.V==v) by grind]
  cases hb:d.V==v with
  | true=>rfl
  | false=>
   rw[hb]at h
   by_cases hn:Lp l v<0
   ·simp[hn]at h
   ·have hz :=Ce hn;simp only[Ax,hz];rw[FK v l hn,show(Lp l v+1).toNat=(Lp l v).toNat+1 by omega]
    rfl
def mj(f:TFunc)(d:Bz):Prop:=d.Block = -1\/(A2 d.Block f.Blocks.length/\d.At<Sr f d.Block/\d.At<1000)
def uk(f:TFunc)(u:Cq):Prop:=A2 u.Block f.Blocks.length/\0<=u.At
theorem defs_in{f:TFunc}(hf:OkF f):∀ d∈Au f,mj f d:=λd hd=>by
 rcases zzL12.1 hd with h|h
 ·obtain⟨i,_,hi⟩:=zzL48.1 h;rw[zzL16.1 hi];exact .inl rfl
 ·obtain⟨i,hi,h⟩:=zzL48.1 h
  have hi :=by simpa using hi
  have hB:=hf.block _ (Ag (d:=default) hi);have ho:Sr f i=(f.Blocks.getD i default).Ops.length:=rfl;rcases zzL12.1 h with h|h
  ·obtain⟨k,hk,h⟩:=zzL48.1 h;rw[zzL16.1 h];refine .inr ⟨Ai hi,?_,?_⟩
   ·grind
   ·grind
  ·obtain⟨k,hk,h⟩:=zzL48.1 h
   have hk:k<(f.Blocks.getD i default).Ops.length:=by simpa using hk
   cases hg:decide (0<(H2 _).1) with
   | false=>rw[hg]at h;cases h
   | true=>
    rw[hg]at h;rw[zzL16.1 h];refine .inr ⟨Ai hi,?_,?_⟩
    ·grind
    ·show(k:Int)<1000;have:=hB.ops;omega
theorem uR{f:TFunc}(hfit:∀ b∈f.Blocks,∀ p∈b.Phis,p.Args.length<=p.From.length/\∀ x∈p.From,A2 x f.Blocks.length):∀ u∈Bh f,uk f u:=λu hu=>by
 obtain⟨i,hi,h⟩:=zzL48.1 hu
 have hi :=by simpa using hi
 have hmem:=Ag (d:=default) hi;rcases zzL12.1 h with h|h
 ·rcases zzL12.1 h with h|h
  ·obtain⟨k,hk,h⟩:=zzL48.1 h
   have hk :=by simpa using hk
   obtain⟨j,hj,h⟩:=zzL48.1 h;have hj:=zzL45.1 hj;have hq:=hfit _ hmem _ (Ag (d:=default) hk);rw[zzL16.1 h];exact⟨hq.2 _ (Ag (by omega)),by grind⟩
  ·obtain⟨k,hk,h⟩:=zzL48.1 h;obtain⟨j,hj,h⟩:=zzL48.1 h;rw[zzL16.1 h];exact⟨Ai hi,by grind⟩
 ·unfold Yl at h
  have:u=⟨(f.Blocks.getD i default).End.Arg,i,1000,(f.Ret,1)⟩\/u=⟨(f.Blocks.getD i default).End.Arg,i,1000,(1,1)⟩:=by
   grind
  rcases this with rfl|rfl<;>exact⟨Ai hi,by grind⟩
theorem wd{f:TFunc}(h:Fe f=true):∀ b∈f.Blocks,∀ p∈b.Phis,p.Args.length<=p.From.length/\∀ x∈p.From,A2 x f.Blocks.length:=λb hb p hp=>by
 have hs :=by simp only[Fe,A6]at h;exact h.1
 refine⟨YA h b hb p hp,λx hx=>?_⟩;obtain⟨i,hi,rfl⟩:=G7 hb;simp only[Fe,A6]at h;have h1:=fQ h.2 i hi;simp only[K7,A6,zzL26]at h1;rw[Ab _ _ _ hi]at h1;have h2:=h1.2 p hp;simp only[Jo,A6,Gr]at h2;rw[h2.1]at hx;obtain⟨q,rfl,hq,_⟩:=(BN  (Jp hs)  (by rw[Lw];exact hi)).1 hx;exact Ai (by rw[Lw]at hq;exact hq)
theorem ge{f:TFunc}(h:Fe f=true){b:Int}(hb:A2 b f.Blocks.length):Lt (B8 f) 0 b=true:=by
 have hs :=by simp only[Fe,A6]at h;exact h.1
 have hm:=Jp hs;have hlen:=Lw f
 have hpos:0<(A1 f).length:=by have:=(shape_iff.1 hs).1.1;omega
 obtain⟨P,hP,o,ht⟩:=YC hm hpos
 have e:B8 f=Y3 (A1 f) 0:=by
  unfold B8 MM;rw[if_pos ⟨QO hm,Int.le_refl _,by show(0:Int)<(A1 f).length;omega⟩]
  rfl
 obtain⟨k,rfl⟩:∃ k:Nat,b=k:=⟨b.toNat,(Y5 hb.1).symm⟩
 have hk:k<f.Blocks.length:=by have:=hb.2;omega
 simp only[Fe,A6]at h;have h1:=fQ h.2 k hk;simp only[K7,A6]at h1;have hr :=(BO (Wn hm) hpos k).1 h1.1.1;rw[e];refine(ht.over_dom o hpos (by omega)).2 ⟨rc_iff.2 hr,λha=>?_⟩;exact(av_iff.1 ha).1 rfl
theorem AL{l:List Cq}{g:Cq->Bg}{p:Bg->Bool}{q:Cq->Bool}(h:∀ u∈l,p (g u)=q u):(l.map g).all p=l.all q:=by
 grind
def sy(vs:List (Int×Ay))(u:Bg):Bool:=((Fy (default:Ay) vs u.v).shape.1==u.shape.1)&&(((Fy (default:Ay) vs u.v).shape.2==u.shape.2)&&true)
def FF(vs:List (Int×Ay))(t:List Int)(u:Bg):Bool:=bif (Fy (default:Ay) vs u.v).place.block==u.place.block then decide ((Fy (default:Ay) vs u.v).place.at_<u.place.at_) else Lt t (Fy (default:Ay) vs u.v).place.block u.place.block
theorem nh{f:TFunc}(hs:Fe f=true){D:List Bz}(hD:∀ d∈D,mj f d){u:Cq}(hu:uk f u)(hfd:K0 D u=true):FF (dv D) (B8 f) (Jq f u)=Uz D (B8 f) u:=by
 have hF:¬ Lp D u.V<0:=by simpa [K0] using hfd
 have hin:=PQ hF;have hd:mj f (defOf D u.V):=hD _ (by unfold defOf;exact Ag (by have:=hin.1;have:=hin.2;omega));have hg:Fy (default:Ay) (dv D) (Jq f u).v=SI (defOf D u.V):=FK u.V D hF;unfold FF Uz;rw[hg]
 generalize defOf D u.V=d at *
 have hub:=hu.1.1
 have hul:0<=Sr f u.Block:=by unfold Sr;omega
 have hat:∀ a:Int,a<0\/(a<Sr f u.Block/\a<1000)->decide (a<(Jq f u).place.at_)=decide (a<u.At)\/a<0:=λa ha=>by
  rcases ha with ha|ha
  ·exact .inr ha
  ·refine .inl ?_
   show decide (a<bif u.At==1000 then Sr f u.Block else u.At)=_
   by_cases h:u.At=1000
   ·rw[h];simp only[show((1000:Int)==1000)=true from rfl,Ah];rw[Co ha.1,Co ha.2]
   ·have:(u.At==1000)=false:=by simpa using h
    rw[this];rfl
 have hpos:0<=(Jq f u).place.at_:=by
  show 0<=bif u.At==1000 then Sr f u.Block else u.At
  cases u.At==1000
  ·exact hu.2
  ·exact hul
 have hblk:(Jq f u).place.block=u.Block:=rfl;rw[hblk];rcases hd with hd|⟨hd1,hd2,hd3⟩
 ·have e:(SI d).place=⟨0,-1⟩:=by show ut d=_;unfold ut;rw[hd];rfl
  rw[e,hd,Co (show(-1:Int)<0 by decide)];rw[Bool.true_or,Bool.true_or,ge hs hu.1,Co (show(-1:Int)<(Jq f u).place.at_ by omega)]
  cases(0:Int)==u.Block<;>rfl
 ·have hn:¬ d.Block<0:=by have:=hd1.1;omega
  have e:(SI d).place=⟨d.Block,d.At⟩:=by show ut d=_;unfold ut;rw[Ce hn];rfl
  rw[e,Ce hn,Bool.false_or]
  cases hb:d.Block==u.Block with
  | true=>
   have hbe:d.Block=u.Block:=by simpa using hb
   simp only[Ah,Ld,Ds,FX,Bool.or_false];rcases hat d.At (.inr ⟨by rw[<- hbe];exact hd2,hd3⟩) with h|h
   ·exact h
   ·rw[Co (by omega),Co (by have:=hu.2;omega)]
  | false=>
   simp only[Ax,FX,Bool.false_or,J2,Ld];unfold Lt
   by_cases hm:Ra (B8 f) d.Block u.Block=d.Block
   ·rw[hm]
    have:(d.Block !=-2)=true:=by simp;omega
    simp[this]
   ·have:(Ra (B8 f) d.Block u.Block==d.Block)=false:=by simpa using hm
    simp[this,bne]
section
variable {f:TFunc} (l:Int) (vs:List (Int×Ay))
def me(f:TFunc)(l:Int)(U:List Bg)(i:Int):Int×List Int×Int×List Ae×Int×List Int×List Bg:=(i,f.Params,f.Ret,f.Blocks,l,B8 f,U)
def mf(f:TFunc)(l:Int)(U:List Bg):List Int×Int×List Ae×Int×List Int×List Bg:=(f.Params,f.Ret,f.Blocks,l,B8 f,U)
theorem sl(U:List Bg)(hU:U.length<9223372036854775808):Ac (F4 vs (f,l,B8 f,U)) (me f l U 0)=some (bif U.all (λu=>Ec vs u.v) then .inl (mf f l U) else .inr (mf f l U)):=by
 have:=sT (me f l U) U (λu=>Ec vs u.v) (F4 vs (f,l,B8 f,U)) _ _ (λi hi=>by
  unfold F4 me Lq
  have hd:decide (i<(U.length:Int))=true:=by simpa using hi
  simp only[hd, Aa (Ai hi),C9, A0 hi hU]
  cases Ec vs _<;>rfl) (by unfold F4 me;simp;rfl) U.length 0 (by omega)
 exact this
theorem sn(U:List Bg)(hU:U.length<9223372036854775808):Ac (F5 vs U) (me f l U 0)=some (bif U.all (sy vs) then .inl (mf f l U) else .inr (mf f l U)):=by
 have:=sT (me f l U) U (sy vs) (F5 vs U) _ _ (λi hi=>by
  unfold F5 me Nn
  have hd:decide (i<(U.length:Int))=true:=by simpa using hi
  simp only[hd, Aa (Ai hi),C9, A0 hi hU];unfold sy
  cases(((Fy _ vs _).shape.1==(U.getD i _).shape.1)&&(((Fy _ vs _).shape.2==(U.getD i _).shape.2)&&true))<;>rfl) (by unfold F5 me;simp;rfl) U.length 0 (by omega)
 exact this
theorem so(htl:(B8 f).length<=1000)(U:List Bg)(hU:U.length<9223372036854775808):Ac (F6 vs U) (me f l U 0)=some (bif U.all (FF vs (B8 f)) then .inl (mf f l U) else .inr (mf f l U)):=by
 have:=sT (me f l U) U (FF vs _) (F6 vs U) _ _ (λi hi=>by
  have hx:Ia (U.getD i default) f l (B8 f) vs U=some (FF vs (B8 f) (U.getD i default),f,l,B8 f,U):=by
   unfold Ia FF;rw[wm htl]
   cases(Fy _ vs _).place.block==(U.getD i _).place.block<;>rfl
  unfold F6 me
  have hd:decide ((i:Int)<U.length)=true:=by simpa using hi
  simp only[hd, Aa (Ai hi),C9];rw[ hx, A0 hi hU]
  cases FF vs _ _<;>rfl) (by unfold F6 me;simp;rfl) U.length 0 (by omega)
 exact this
end
def eP(f:TFunc):Int:=bif !(Bh f).all (K0 (Au f)) then 7 else bif !(Bh f).all (U0 (Au f)) then 6 else bif !(Bh f).all (Uz (Au f) (B8 f)) then 7 else 0
theorem wY{f:TFunc}(hf:OkF f)(hs:Fe f=true)(l:Int):∃ U,Kg f l (B8 f) (dv (Au f)) []=some (eP f,f,l,B8 f,U):=by
 have hfit:=wd hs;have hul:=KH hf
 have hsB :=by simp only[Fe,A6]at hs;exact hs.1
 refine⟨(Bh f).map (Jq f),?_⟩
 have hU:((Bh f).map (Jq f)).length<9223372036854775808:=by grind
 have h1:=sl (f:=f) l (dv (Au f)) _ hU;have h2:=sn (f:=f) l (dv (Au f)) _ hU;have h3:=so  l (dv (Au f)) (eL hsB) _ hU;rw[AL (q:=K0 _) (λu _=>QQ u.V _)]at h1;unfold Kg eP Ru;rw[lC hf l _ _ hfit,An];rw[show(Ac _ ((0:Int),f.Params,f.Ret,f.Blocks,l,B8 f,(Bh f).map _))=_ from h1,An];have fin:∀ e ,Ac Ps (e,f.Params,f.Ret,f.Blocks,l,B8 f,(Bh f).map (Jq f))=some _:=λe=>Ak rfl
 cases hfd:(Bh f).all _ with
 | false=>simp only[Ax,J2,Ah,mf,An,fin]
 | true=>
  have hmf:=zzL26.1 hfd
  rw[AL (q:=U0 _) (λu hu=>by
   have:=hmf u hu;simp only[K0,Y6,SP]at this;have hg:Fy _ _ (Jq f u).v=SI _:=FK u.V _ this;unfold sy U0
   rw[hg];rfl)]at h2
  rw[AL  (λu hu=>nh hs (defs_in hf) (uR hfit u hu) (hmf u hu))]at h3;simp only[Ah,Ds, mf];rw[show(Ac _ ((0:Int),f.Params,f.Ret,f.Blocks,l,B8 f,(Bh f).map _))=_ from h2,An]
  cases(Bh f).all _ with
  | false=>simp only[Ax,J2,Ah,mf,An,fin]
  | true=>
   simp only[Ah,Ds, mf];rw[show(Ac _ ((0:Int),f.Params,f.Ret,f.Blocks,l,B8 f,(Bh f).map _))=_ from h3]
   cases(Bh f).all _ with
   | false=>simp only[Ax,J2,Ah,mf,An,fin]
   | true=>simp only[Ah,Ds,Ax,mf,An]
theorem sq{f:TFunc}(h:Sm f)(l:Int)(h0:0<=l)(h2:l<=2):∃ t u vs,Jv f l [] []=some (D8 f l,f,l,t,u,vs)/\(D8 f l=0->vs=dv (Au f)):=by
 have hc:D8 f l=bif !Qv f then 4 else SK f l:=by
  unfold D8;rw[Ce (by omega),Ce (by omega)];rfl
 rw[hc];unfold Jv;rw[wX f h.1,An]
 cases hm:Qv f with
 | false=>simp_all
 | true=>
  have hf:=jy h hm;simp only[    SK];obtain⟨t',hsh,hst⟩:=oR hf l [] [];rw[hsh,An]
  cases hs:Fe f with
  | false=>simp_all
  | true=>
   obtain rfl:=hst hs;rw[sk hf l h0 h2,An]
   cases M3 f l with
   | false=>simp_all
   | true=>
    obtain⟨vs,hd,hv⟩:=lE hf l _ [];rw[hd,An]
    cases hdd:(List.range _).all _ with
    | false=>grind
    | true=>
     obtain rfl:=hv hdd;obtain⟨U,hu⟩:=wY hf hs l;rw[hu];refine⟨B8 f,U,dv _,?_,λ_=>rfl⟩
     show(bif eP f !=0 then some _ else some _)=some (eP f,f,l,B8 f,U,dv _)
     cases hz:eP f !=0 with
     | true=>rfl
     | false=>
      grind
theorem jA(f:TFunc)(l:Int)(h:Sm f):O0 f l=some (D8 f l):=by
 unfold O0
 by_cases h0:l<0
 · unfold D8;rw[Co h0];rfl
 ·by_cases h2:2<l
  · unfold D8;rw[Ce h0,Co h2];rfl
  ·obtain⟨t,u,vs,hw,_⟩:=sq h l (by omega) (by omega);rw[Ce h0,Ce h2,hw];rfl
def lone(e:J9)(b r:Int):TFunc:=⟨[b],r,[⟨[],[],e⟩]⟩
theorem Aa2{α:Type}(l:List α):(l.map λ_=>1).sum=l.length:=by induction l with|nil=>rfl|cons a l ih=>simp[ih];omega
theorem Xf{f:TFunc}(h:(List.range (Au f).length).all (Rb (Au f))=true):((Au f).map (·.V)).Nodup:=by
 rw[List.nodup_iff_pairwise_ne,List.pairwise_map,zzL91];intro i j hi hj hij he;have:=((Wb hj).1 (fQ h j hj)).2 i hij;rw[Ab _ _ _ hi,Ab _ _ _ hj]at this;exact this he
abbrev bA(f:TFunc)(i:Nat):Ae:=f.Blocks.getD i default
def mM(f:TFunc)(i:Nat)(k:Nat):Int:=(bA f i).End.To.getD k 0
def prF(f:TFunc)(i:Nat):List Int:=(Dq (A1 f)).getD i []
structure Rt(f:TFunc):Prop where
 lo:1<=f.Blocks.length
 hi:f.Blocks.length<=64
 to:∀ i,i<f.Blocks.length->∀ k,k<(bA f i).End.To.length->0<mM f i k/\mM f i k<f.Blocks.length
 one:∀ i,i<f.Blocks.length->(bA f i).End.Kind=1->(bA f i).End.To.length=1
 two:∀ i,i<f.Blocks.length->(bA f i).End.Kind=2->(bA f i).End.To.length=2
 may:Mo (A1 f)=true
 ok:OkF f
theorem uF{f:TFunc}{i:Nat}(hi:i<f.Blocks.length):(A1 f).getD i []=BQ (bA f i).End.To:=by
 unfold A1;rw[O8 hi];rfl
theorem xB(f:TFunc):(Dq (A1 f)).length=f.Blocks.length:=by rw[Pp,Lw]
set_option maxRecDepth 100000
def kw(f:TFunc)(d:Bz)(b a:Int):Prop:=d.Block<0\/(d.Block=b/\d.At<a)\/(d.Block≠b/\Lt (B8 f) d.Block b=true)
theorem PK{l:List Bz}(hn:(l.map (·.V)).Nodup){d:Bz}(hd:d∈l):0<=Lp l d.V/\defOf l d.V=d:=by
 obtain⟨i,hi,rfl⟩:=G7 hd
 have hx:∃ k,l.findIdx? (λe=>e.V==l[i].V)=some k:=by
  cases h:l.findIdx? _ with
  | some k=>exact⟨k,rfl⟩
  | none=>
   grind
 obtain⟨k,hk⟩:=hx;obtain⟨hk1,hk2,_⟩:=List.findIdx?_eq_some_iff_getElem.1 hk
 have e :=by
  have h1:(l.map (·.V))[k]'(by simpa using hk1)=(l.map (·.V))[i]'(by simpa using hi):=by simpa using hk2
  exact(List.getElem_inj hn).1 h1
 subst e;unfold defOf Lp;rw[hk];refine⟨by simp,?_⟩;rw[Am,Ab _ _ _ hi]
theorem RV{f:TFunc}(hn:((Au f).map (·.V)).Nodup)(hv:∀ d∈Au f,valS d.V=true)(hu:∀ u∈Bh f,∃ d∈Au f,d.V=u.V/\d.Shape=u.Shape/\kw f d u.Block u.At):XT f=0:=by
 have h1:(List.range (Au f).length).all (Rb (Au f))=true:=by
  rw[zzL26];intro i hi;rw[zzL45]at hi;refine(Wb hi).2 ⟨hv _ (Ag hi),λj hj he=>?_⟩;rw[Ab _ _ _ hi,Ab _ _ _ (by omega)]at he;have:=(List.getElem_inj (h₀:=show j<((Au f).map _).length by simp;omega) (h₁:=by simpa using hi) hn).1 (by simpa using he);omega
 have h2:(Bh f).all (K0 (Au f))=true:=by
  rw[zzL26];intro u h;obtain⟨d,hd,e,_⟩:=hu u h;unfold K0;have:=(PK hn hd).1;rw[e]at this
  simp;omega
 have h3:(Bh f).all (U0 (Au f))=true:=by
  rw[zzL26];intro u h;obtain⟨d,hd,e,es,_⟩:=hu u h;unfold U0;rw[<- e,(PK hn hd).2,es];simp
 have h4:(Bh f).all (Uz (Au f) (B8 f))=true:=by
  rw[zzL26];intro u h;obtain⟨d,hd,e,_,ht⟩:=hu u h;unfold Uz;rw[<- e,(PK hn hd).2];rcases ht with h|⟨h,h'⟩|⟨h,h'⟩
  ·grind
  ·grind
  ·unfold Lt at h';rw[A6,zzL63]at h';rw[h'.1,zzL30.2 h];simp
 unfold XT;rw[h1,h2,h3,h4];rfl
structure Zy(f:TFunc)(l:Int):Prop where
 may:Qv f=true
 shape:Fe f=true
 typed:M3 f l=true
 rest:XT f=0
theorem Yf{f:TFunc}{l:Int}(hl:0<=l/\l<=2):D8 f l=0↔Zy f l:=
 ⟨λh=>by obtain⟨a,b,c,d⟩:=(PE hl.1 hl.2).1 h;exact⟨a,b,c,d⟩,λh=>(PE hl.1 hl.2).2 ⟨h.1,h.2,h.3,h.4⟩⟩
section
variable {f:TFunc} {l:Int} (R:Zy f l)
include R
theorem eC{b:Ae}(hb:b∈f.Blocks){o:Bv}(ho:o∈b.Ops):K2 l o=true:=by
 have h:=R.typed;simp only[M3,E9,A6,zzL26]at h;exact(h.1.2 b hb).2 o ho
theorem vA{b:Ae}(hb:b∈f.Blocks){o:Bv}(ho:o∈b.Ops):Gs o=true:=by
 have:=eC R hb ho;unfold K2 at this;simp only[A6]at this;exact this.1.1
theorem DR:(List.range (Au f).length).all (Rb (Au f))=true/\(∀ u∈Bh f,K0 (Au f) u=true)/\(∀ u∈Bh f,U0 (Au f) u=true)/\∀ u∈Bh f,Uz (Au f) (B8 f) u=true:=by
 have h:=R.rest;unfold XT at h
 cases h1:(List.range _).all _ with
 | false=>rw[h1]at h;cases h
 | true=>grind
theorem qB{d e:Bz}(hd:d∈Au f)(he:e∈Au f)(hv:d.V=e.V):d=e:=by
 have hn:=Xf (DR R).1;have h1:=(PK hn hd).2;rw[hv,(PK hn he).2]at h1;exact h1.symm
theorem Yg{d:Bz}(hd:d∈Au f):valS d.V=true:=by
 obtain⟨i,hi,rfl⟩:=G7 hd;have:=((Wb hi).1 (fQ (DR R).1 i hi)).1;rw[Ab _ _ _ hi]at this;exact this
theorem KB{u:Cq}(hu:u∈Bh f):∃ d∈Au f,d.V=u.V/\d.Shape=u.Shape/\kw f d u.Block u.At:=by
 obtain⟨_,h2,h3,h4⟩:=DR R;have hf:=h2 u hu;have hfit:=h3 u hu;have hdom:=h4 u hu;unfold K0 at hf
 have hneg:¬ Lp (Au f) u.V<0:=by simpa using hf
 have hin:=PQ hneg;have hmem:defOf _ u.V∈Au f:=Ag (by  have:=hin.2;omega)
 have hV:(defOf (Au f) u.V).V=u.V:=by
  unfold defOf;unfold Lp at hneg ⊢
  cases hx:(Au f).findIdx? _ with
  | none=>grind
  | some i=>
   obtain⟨hi,hp,_⟩:=List.findIdx?_eq_some_iff_getElem.1 hx;rw[Am,Ab _ _ _ hi]
   simpa using hp
 refine⟨_,hmem,hV,?_,?_⟩
 ·unfold U0 at hfit;simp only[A6,zzL63]at hfit;exact Prod.ext hfit.1 hfit.2.1
 ·unfold Uz at hdom;simp only[FV,A6,Gr,zzL63,Y6,zzL30]at hdom;rcases hdom with(h|h)|⟨h,h'⟩
  ·exact .inl h
  ·exact .inr (.inl h)
  ·by_cases hb:(defOf (Au f) u.V).Block<0
   ·exact .inl hb
   ·refine .inr (.inr ⟨h,?_⟩);rw[bne_eq_false_iff_eq]at h';unfold Lt;rw[h',A6];exact⟨by simp,by rw[zzL100];omega⟩
end
theorem ri_def{f:TFunc}{d:Bz}:d∈Au f↔(∃ i,i<f.Params.length/\d=⟨(i:Int)+1,-1,0,(f.Params.getD i 0,1)⟩) \/
  ∃ i,i<f.Blocks.length/\((∃ k,k<(bA f i).Phis.length/\d=⟨((bA f i).Phis.getD k default).Dst,i,-1,(((bA f i).Phis.getD k default).Bits,1)⟩) \/
   ∃ k,k<(bA f i).Ops.length/\0<(H2 ((bA f i).Ops.getD k default)).1/\d=⟨((bA f i).Ops.getD k default).Dst,i,k,H2 ((bA f i).Ops.getD k default)⟩):=by
 unfold Au Q9 Q8 Ry Xe;simp only[zzL12,zzL48,zzL45,zzL16]
 constructor
 ·grind
 ·rintro(h|⟨i,hi,⟨k,hk,h⟩|⟨k,hk,hg,h⟩⟩)
  ·exact .inl h
  ·exact .inr ⟨i,hi,.inl ⟨k,hk,h⟩⟩
  ·exact .inr ⟨i,hi,.inr ⟨k,hk,by simp_all⟩⟩
theorem YB{o:Bv}(hm:Gs o=true):(He o).length=o.Args.length/\∀ j,j<o.Args.length->(He o).getD j (0,0)=PM o j:=by
 obtain⟨_,_,_,_,hn,_,_⟩:=Xv hm
 have ht:He o=Rw o:=by unfold He;rw[hm];rfl
 have htl:(Rw o).length=o.Args.length:=by unfold Rw;rw[Dz,Vb];omega
 refine⟨by rw[ht,htl],λj hj=>?_⟩;rw[ht];unfold Rw;rw[O8 (by omega)]
theorem H1 {f : TFunc} (hk : ∀ b ∈ f.Blocks, ∀ o ∈ b.Ops, Gs o = true) {u : Cq} : u ∈ Bh f ↔ ∃ i, i < f.Blocks.length ∧
    ((∃ k j, k < (bA f i).Phis.length ∧ j < ((bA f i).Phis.getD k default).Args.length ∧ u = ⟨((bA f i).Phis.getD k default).Args.getD j 0, ((bA f i).Phis.getD k default).From.getD j 0, 1000, (((bA f i).Phis.getD k default).Bits, 1)⟩) ∨
     (∃ k j, k < (bA f i).Ops.length ∧ j < ((bA f i).Ops.getD k default).Args.length ∧ u = ⟨((bA f i).Ops.getD k default).Args.getD j 0, i, k, PM ((bA f i).Ops.getD k default) j⟩) ∨
     ((bA f i).End.Kind = 0 ∧ u = ⟨(bA f i).End.Arg, i, 1000, (f.Ret, 1)⟩) ∨ ((bA f i).End.Kind = 2 ∧ u = ⟨(bA f i).End.Arg, i, 1000, (1, 1)⟩)) := by
  unfold Bh IE M9 N6 Su Q3 Yl; simp only [zzL12, zzL48, zzL45, zzL16]
  have hE : ∀ (k c : Int) (x : Cq), u ∈ (bif k == c then [x] else []) ↔ (k = c ∧ u = x) := fun k c x => by
    grind
  simp only [hE]
  constructor
  · rintro ⟨i, hi, (⟨k, hk', j, hj, h⟩ | ⟨k, hk', j, hj, h⟩) | h⟩
    · exact ⟨i, hi, .inl ⟨k, j, hk', hj, h⟩⟩
    · obtain ⟨e1, e2⟩ := YB (hk _ (Ag  hi) _ (Ag  hk')); rw [e1] at hj; rw [e2 j hj] at h; exact ⟨i, hi, .inr (.inl ⟨k, j, hk', hj, h⟩)⟩
    · exact ⟨i, hi, .inr (.inr h)⟩
  · rintro ⟨i, hi, ⟨k, j, hk', hj, h⟩ | ⟨k, j, hk', hj, h⟩ | h⟩
    · grind
    · obtain ⟨e1, e2⟩ := YB (hk _ (Ag  hi) _ (Ag  hk')); exact ⟨i, hi, .inl (.inr ⟨k, hk', j, by rw [e1]; exact hj, by rw [e2 j hj]; exact h⟩)⟩
    · grind
theorem qC{f:TFunc}(hm:Mo (A1 f)=true){x y:Nat}(hx:x<f.Blocks.length):y∈sN (A1 f) x↔(y:Int)∈(bA f x).End.To:=by
 rw[wz hm (by rw[Lw];exact hx),uF hx,(KC _).2]
theorem uB{f:TFunc}(hm:Mo (A1 f)=true)(h0:0<f.Blocks.length){a b:Nat}(ha:a<f.Blocks.length)(hb:b<f.Blocks.length):Lt (B8 f) (a:Int) (b:Int)=true↔Rc (sN (A1 f)) 0 b/\¬ Av (sN (A1 f)) 0 a b:=by
 have hl:=Lw f;obtain⟨P,_,o,t⟩:=YC hm (r:=0) (by omega)
 have e:B8 f=Y3 (A1 f) 0:=by
  unfold B8 MM;rw[if_pos ⟨QO hm,Int.le_refl _,by show 0<((A1 f).length:Int);omega⟩];rfl
 rw[e];exact t.over_dom o (by omega) (by omega)
theorem eA{f:TFunc}(hm:Mo (A1 f)=true)(h0:0<f.Blocks.length)(z:Nat):(Q0 (A1 f)).getD z false=true↔Rc (sN (A1 f)) 0 z:=by
 rw[rc_iff];exact BO (Wn hm) (by rw[Lw];exact h0) z
theorem XP(f:TFunc){i:Nat}(hi:i<f.Blocks.length):(prF f i).Pairwise (·<·):=by
 unfold prF;rw[DP (by rw[Lw];exact hi)];exact LK _ _
set_option linter.unusedSectionVars false
theorem Wr{l:Int}{o:Bv}(h:K2 l o=true):Gs o=true:=by
 unfold K2 at h;simp only[A6]at h;exact h.1.1
theorem PS{o:Bv}(h:Gs o=true):H2 o=Xn o.Kind o.Bits o.Lanes:=by unfold H2;rw[h];rfl
theorem WS{o:Bv}(h:Gs o=true)(hg:0<(H2 o).1):valS o.Dst=true:=by
 have hd:=(Xv h).2.2.2.2.2.2;rw[PS h]at hg;unfold dstS at hd
 cases hk:(o.Kind==17 || o.Kind==19) with
 | true=>unfold Xn at hg;rw[hk,Ah]at hg;exact absurd hg (by decide)
 | false=>rw[hk]at hd;exact hd
def ZN(s:List Bv):List Int:=(s.filter λo=>decide (0<(H2 o).1)).map (·.Dst)
def UL(b:Ae):List Int:=b.Phis.map (·.Dst)++ZN b.Ops
theorem XS{α β:Type}(l:List α)(d:α)(F:α->β):(List.range l.length).map (λk=>F (l.getD k d))=l.map F:=by
 apply CI
 ·simp
 ·intro i h1 h2;simp at h1 h2 ⊢;simp[h1]
theorem lM(l:List Bv):l.flatMap (λo=>bif decide (0<(H2 o).1) then[o.Dst] else[])=ZN l:=by
 induction l with
 | nil=>rfl
 | cons o l ih=>
  rw[MR,ih];unfold ZN
  by_cases h:0<(H2 o).1<;>simp[h]
theorem sv(b:Ae)(i:Nat):(Q8 b i).map (·.V)=UL b:=by
 unfold Q8 UL Ry Xe;rw[Wy,List.map_flatMap,List.map_flatMap]
 congr 1
 ·show(List.range b.Phis.length).flatMap (λk=>[(b.Phis.getD k default).Dst])=_
  rw[<- List.map_eq_flatMap];exact XS b.Phis default (·.Dst)
 ·rw[<- lM,List.flatMap_def,List.flatMap_def]
  congr 1
  rw[<- XS b.Ops default];refine MQ λk hk=>?_
  cases decide (0<(H2 (b.Ops.getD k default)).1)<;>rfl
theorem od(g:TFunc):(Au g).map (·.V)=(List.range g.Params.length).map (λi:Nat=>(i:Int)+1)++(List.range g.Blocks.length).flatMap (λy=>UL (bA g y)):=by
 unfold Au Q9;rw[Wy,List.map_flatMap,List.map_flatMap]
 congr 1
 ·rw[List.map_eq_flatMap];rfl
 ·rw[List.flatMap_def,List.flatMap_def]
  congr 1
  exact MQ λy _=>sv _ y
theorem nodup_split(g:TFunc):((Au g).map (·.V)).Nodup↔(∀ y,y<g.Blocks.length->(UL (bA g y)).Nodup)/\(∀ y z,y<g.Blocks.length->z<g.Blocks.length->y≠z->∀ v∈UL (bA g y),v∉UL (bA g z))/\(∀ i:Nat,i<g.Params.length->∀ y,y<g.Blocks.length->((i:Int)+1)∉UL (bA g y)):=by
 rw[od,List.nodup_append,List.nodup_iff_pairwise_ne (l:=List.flatMap _ _),List.pairwise_flatMap]
 have hP:((List.range g.Params.length).map (λi:Nat=>(i:Int)+1)).Nodup:=by
  rw[List.nodup_iff_pairwise_ne,List.pairwise_map];exact List.Pairwise.imp (λ{a b} (h:a<b)=>by omega) List.pairwise_lt_range
 constructor
 ·rintro⟨_,⟨h1,h2⟩,h3⟩;refine⟨λy hy=>List.nodup_iff_pairwise_ne.2 (h1 y (zzL45.2 hy)),?_,λi hi y hy hv=>h3 _ (zzL21.2 ⟨i,zzL45.2 hi,rfl⟩) _ (zzL48.2 ⟨y,zzL45.2 hy,hv⟩) rfl⟩
  have key:∀ y z,y<z->z<g.Blocks.length->∀ v∈UL (bA g y),v∉UL (bA g z):=λy z hyz hz v h4 h5=>by
   have:=(zzL91.1 h2) y z (by simp;omega) (by simpa using hz) hyz;simp only[List.getElem_range]at this;exact this v h4 v h5 rfl
  intro y z hy hz hne v h4 h5;rcases Nat.lt_or_gt_of_ne hne with e|e
  ·exact key y z e hz v h4 h5
  ·exact key z y e hy v h5 h4
 ·rintro⟨h1,h2,h3⟩;refine⟨hP,⟨λy hy=>List.nodup_iff_pairwise_ne.1 (h1 y (zzL45.1 hy)),?_⟩,λa ha b hb hab=>?_⟩
  ·refine List.Pairwise.imp_of_mem (λ{a b} ha hb hab v hv w hw e=>?_) (List.pairwise_lt_range (n:=g.Blocks.length));exact h2 a b (zzL45.1 ha) (zzL45.1 hb) (by omega) v hv (e▸hw)
  ·obtain⟨i,hi,rfl⟩:=zzL21.1 ha;obtain⟨y,hy,hv⟩:=zzL48.1 hb;exact h3 i (zzL45.1 hi) y (zzL45.1 hy) (hab▸hv)
def IV(y k:Nat):Nat:=if k<y then k else k+1
def psJ(x y b:Nat):Nat:=if y<(if b=y then x else b) then(if b=y then x else b)-1 else(if b=y then x else b)
def lw(x y:Nat)(a:Int):Int:=((psJ x y a.toNat:Nat):Int)
def VU(ps:List A8)(v:Int):Int:=match ps.find? (λp=>p.Dst==v) with|some p=>p.Args.getD 0 0|none=>v
def NG(l:List (Int×Int))(e:Int×Int):List (Int×Int):=l.takeWhile (λp=>decide (p.1<e.1))++e::l.dropWhile (λp=>decide (p.1<e.1))
def Zw(l:List (Int×Int)):List (Int×Int):=l.foldl NG []
def Ov(v:Int->Int)(x y:Nat)(p:A8):List (Int×Int):=List.zip (p.From.map (lw x y)) (p.Args.map v)
def NO(v:Int->Int)(x y:Nat)(p:A8):A8:=⟨p.Bits,p.Dst,(Zw (Ov v x y p)).map (·.1),(Zw (Ov v x y p)).map (·.2)⟩
def md(v:Int->Int)(o:Bv):Bv:=⟨o.Kind,o.Bits,o.Lanes,o.Dst,o.Args.map v,o.Imm⟩
def oi(v:Int->Int)(x y:Nat)(e:J9):J9:=⟨e.Kind,v e.Arg,e.To.map (lw x y)⟩
def GV(v:Int->Int)(x y:Nat)(b:Ae):Ae:=⟨b.Phis.map (NO v x y),b.Ops.map (md v),oi v x y b.End⟩
def Ke(f:TFunc)(x y i:Nat):Ae:=if i=x then⟨(bA f x).Phis,(bA f x).Ops++(bA f y).Ops,(bA f y).End⟩ else bA f i
def vJ(f:TFunc)(y:Nat):Int->Int:=VU (bA f y).Phis
def Cb(f:TFunc)(x y:Nat):TFunc:=⟨f.Params,f.Ret,(List.range (f.Blocks.length-1)).map λk=>GV (vJ f y) x y (Ke f x y (IV y k))⟩
structure Jn(f:TFunc)(x y:Nat):Prop where
 hx:x<f.Blocks.length
 kind:(bA f x).End.Kind=1
 to:(bA f x).End.To=[(y:Int)]
 ne:y≠x
 pred:prF f y=[(x:Int)]
def UG(f:TFunc)(x y:Nat):Prop:=(y:Int)∈(bA f x).End.To
def Th(x y a:Nat):Nat:=if a=x then y else a
theorem Qz{g:TFunc}(hg:Gp g=true){y:Nat}(hy:y<g.Blocks.length){x:Int}:x∈prF g y↔∃ p:Nat,x=(p:Int)/\p<g.Blocks.length/\UG g p y:=by
 unfold prF;have hl:=Lw g;rw[BN (Jp hg) (by omega)]
 constructor
 ·rintro⟨p,h1,h2,h3⟩;exact⟨p,h1,by omega,(qC (Jp hg) (by omega)).1 h3⟩
 ·rintro⟨p,h1,h2,h3⟩;exact⟨p,h1,by omega,(qC (Jp hg) h2).2 h3⟩
theorem FR{f:TFunc}(hs:Gp f=true){a:Nat}(ha:a<f.Blocks.length){z:Int}(hz:z∈(bA f a).End.To):∃ c:Nat,z=(c:Int)/\c<f.Blocks.length/\0<c/\UG f a c:=by
 have h:=toB_iff.1 (ZQ ((shape_iff.1 hs).2 a ha)) z hz;refine⟨z.toNat,by omega,by omega,by omega,?_⟩;unfold UG;rw[show((z.toNat:Nat):Int)=z by omega];exact hz
theorem gV{f:TFunc}(hs:Gp f=true){a b:Nat}(ha:a<f.Blocks.length)(h:UG f a b):b<f.Blocks.length/\0<b:=by
 obtain⟨c,h1,h2,h3,_⟩:=FR hs ha h;omega
theorem Ss{f:TFunc}(hs:Gp f=true){a b:Nat}(ha:a<f.Blocks.length):b∈sN (A1 f) a↔UG f a b:=qC (Jp hs) ha
theorem gj{f:TFunc}(hs:Gp f=true){b:Nat}(h:Rc (sN (A1 f)) 0 b):b<f.Blocks.length:=by
 have h0:=(shape_iff.1 hs).1.1
 induction h with
 | root=>omega
 | step hx hy ih=>exact(gV hs ih ((Ss hs ih).1 hy)).1
theorem ym{S:Nat->List Nat}{r z b:Nat}(h:Av S r z b):Rc S r b:=by
 induction h with
 | root=>exact .root
 | step _ hy _ ih=>exact .step ih hy
theorem uu{S:Nat->List Nat}{r z b:Nat}(h:Av S r z b):b≠z:=by
 cases h with
 | root h=>exact h
 | step _ _ h=>exact h
theorem av_split{S:Nat->List Nat}{r a b c:Nat}(h:Av S r a c):Av S r b c\/Av S r a b:=by
 induction h with
 | root h=>
  by_cases e:r=b
  ·subst e;exact .inr (.root h)
  ·exact .inl (.root e)
 | @step x y h hy hz ih=>
  rcases ih with h1|h1
  ·by_cases e:y=b
   ·subst e;exact .inr (.step h hy hz)
   ·exact .inl (.step h1 hy e)
  ·exact .inr h1
section
variable {f:TFunc} (hs:Gp f=true)
include hs
theorem Vv{a b:Nat}(ha:a<f.Blocks.length)(hb:b<f.Blocks.length):Lt (B8 f) (a:Int) (b:Int)=true↔Rc (sN (A1 f)) 0 b/\¬ Av (sN (A1 f)) 0 a b:=
 uB (Jp hs) (by have:=(shape_iff.1 hs).1.1;omega) ha hb
theorem RG{a b c:Nat}(ha:a<f.Blocks.length)(hb:b<f.Blocks.length)(hc:c<f.Blocks.length)(h1:Lt (B8 f) (a:Int) (b:Int)=true)(h2:Lt (B8 f) (b:Int) (c:Int)=true):Lt (B8 f) (a:Int) (c:Int)=true:=by
 rw[Vv hs ha hb]at h1;rw[Vv hs hb hc]at h2;refine(Vv hs ha hc).2 ⟨h2.1,λh=>?_⟩;rcases av_split (b:=b) h with e|e
 ·exact h2.2 e
 ·exact h1.2 e
end
theorem up_eq(y k:Nat):(k<y/\IV y k=k)\/(y<=k/\IV y k=k+1):=by unfold IV;split<;>omega
theorem ps_eq{x y:Nat}(hne:y≠x)(b:Nat):(b=y/\psJ x y b=psJ x y x)\/(b<y/\psJ x y b=b)\/(y<b/\psJ x y b=b-1):=by
 unfold psJ
 by_cases e:b=y
 ·left;subst e;simp
 ·rw[if_neg e]
  by_cases h:y<b
  ·rw[if_pos h];omega
  ·rw[if_neg h];omega
theorem dq{x y:Nat}(hne:y≠x)(k:Nat):psJ x y (IV y k)=k:=by
 rcases up_eq y k with⟨h,e⟩|⟨h,e⟩<;>rw[e]
 ·rcases ps_eq hne k with h1|h1|h1<;>omega
 ·rcases ps_eq hne (k+1) with h1|h1|h1<;>omega
theorem qQ{x y:Nat}(hne:y≠x){b:Nat}(hb:b≠y):IV y (psJ x y b)=b:=by
 rcases ps_eq hne b with h|⟨h,e⟩|⟨h,e⟩
 ·omega
 ·rw[e];rcases up_eq y b with h1|h1<;>omega
 ·rw[e];rcases up_eq y (b-1) with h1|h1<;>omega
theorem YE(y k:Nat):IV y k≠y:=by rcases up_eq y k with h|h<;>omega
theorem gh{x y:Nat}(hne:y≠x){b c:Nat}(hb:b≠y)(hc:c≠y)(h:psJ x y b=psJ x y c):b=c:=by
 rw[<- qQ hne hb,<- qQ hne hc,h]
theorem zR{x y n:Nat}(hne:y≠x)(hx:x<n)(hy:y<n){b:Nat}(hb:b<n):psJ x y b<n-1:=by
 rcases ps_eq hne b with⟨_,e⟩|h|h
 ·rw[e];rcases ps_eq hne x with h|h|h<;>omega
 ·omega
 ·omega
theorem eO{y n k:Nat}(hy:y<n)(hk:k<n-1):IV y k<n:=by rcases up_eq y k with h|h<;>omega
theorem Pg(x y b:Nat):lw x y (b:Int)=((psJ x y b:Nat):Int):=by unfold lw;rw[Am]
section
variable {f:TFunc} {x y:Nat} (J:Jn f x y) (hs:Gp f=true)
include J
theorem Ok:(Cb f x y).Blocks.length=f.Blocks.length-1:=by
 show(List.map _ _).length=_;rw[Dz,Vb]
theorem zA{k:Nat}(hk:k<f.Blocks.length-1):bA (Cb f x y) k=GV (vJ f y) x y (Ke f x y (IV y k)):=O8 hk
include hs
theorem LO:y<f.Blocks.length/\0<y:=gV hs J.hx (by unfold UG;rw[J.to];exact zzL16.2 rfl)
theorem V7{b:Nat}(hb:b<f.Blocks.length):psJ x y b<f.Blocks.length-1:=zR J.ne J.hx (LO J hs).1 hb
theorem tE{b:Nat}(hb:b<f.Blocks.length)(hne:b≠y):bA (Cb f x y) (psJ x y b)=GV (vJ f y) x y (Ke f x y b):=by
 rw[zA J (V7 J hs hb),qQ J.ne hne]
theorem SM{a:Nat}(ha:a<f.Blocks.length)(h:UG f a y):a=x:=by
 have:(a:Int)∈prF f y:=(Qz hs (LO J hs).1).2 ⟨a,rfl,ha,h⟩;rw[J.pred,zzL16]at this;omega
theorem Yh{a:Nat}(ha:a<f.Blocks.length):Th x y a<f.Blocks.length:=by
 unfold Th;split
 ·exact(LO J hs).1
 ·exact ha
theorem gz{a b:Nat}(ha:a<f.Blocks.length)(hay:a≠y)(h:UG f (Th x y a) b):b≠y:=by
 intro e;subst e;have:=SM J hs (Yh J hs ha) h;unfold Th at this
 split at this
 ·exact J.ne this
 ·omega
theorem PV{a:Nat}(ha:a<f.Blocks.length)(hay:a≠y):(bA (Cb f x y) (psJ x y a)).End=oi (vJ f y) x y (bA f (Th x y a)).End:=by
 rw[tE J hs ha hay];unfold GV Ke Th
 split
 ·rfl
 ·rfl
theorem tA{a b:Nat}(ha:a<f.Blocks.length)(hay:a≠y)(hb:b≠y):UG (Cb f x y) (psJ x y a) (psJ x y b)↔UG f (Th x y a) b:=by
 unfold UG;rw[PV J hs ha hay]
 constructor
 ·intro h;obtain⟨z,hz,e⟩:=zzL21.1 h;obtain⟨c,rfl,hc,_,hn⟩:=FR hs (Yh J hs ha) hz;rw[Pg]at e;have:c=b:=gh J.ne (gz J hs ha hay hn) hb (by omega);rw[<- this];exact hz
 ·intro h;exact zzL21.2 ⟨_,h,Pg x y b⟩
theorem zB{a:Nat}(ha:a<f.Blocks.length)(hay:a≠y){w:Nat}(h:UG (Cb f x y) (psJ x y a) w):∃ b,b<f.Blocks.length/\b≠y/\0<b/\w=psJ x y b/\UG f (Th x y a) b:=by
 have h0:=h;unfold UG at h;rw[PV J hs ha hay]at h;obtain⟨z,hz,e⟩:=zzL21.1 h;obtain⟨c,rfl,hc,hc0,hn⟩:=FR hs (Yh J hs ha) hz;rw[Pg]at e;exact⟨c,hc,gz J hs ha hay hn,hc0,by omega,hn⟩
theorem wk:(0:Nat)≠y/\psJ x y 0=0:=by
 have:=(LO J hs).2;refine⟨by omega,?_⟩;rcases ps_eq J.ne 0 with h|h|h<;>omega
theorem j_shapeB:Gp (Cb f x y)=true:=by
 obtain⟨⟨s1,s2⟩,s3⟩:=shape_iff.1 hs;have hy:=LO J hs;have hx:=J.hx;have hne:=J.ne;refine shape_iff.2 ⟨by rw[Ok J];omega,λk hk=>?_⟩;rw[Ok J]at hk ⊢;have hu:=eO hy.1 hk
 have e:Bn (Cb f x y) k=oi (vJ f y) x y (bA f (Th x y (IV y k))).End:=by
  have:=PV J hs hu (YE y k);rw[dq hne]at this;exact this
 have h3:=s3 _ (Yh J hs hu);have h4:Kb (bA f (Th x y (IV y k))).End f.Blocks.length=true:=h3;rw[e];unfold Kb at h4 ⊢;rw[A6]at h4 ⊢;refine⟨?_,toB_iff.2 λw hw=>?_⟩
 ·have:=h4.1;unfold Yv oi at *
  simpa using this
 ·obtain⟨z,hz,rfl⟩:=zzL21.1 hw;obtain⟨c,rfl,hc,hc0,hn⟩:=FR hs (Yh J hs hu) hz;rw[Pg];have h1:=V7 J hs hc;have h2:=gz J hs hu (YE y k) hn
  have:0<psJ x y c:=by rcases ps_eq hne c with h|h|h<;>omega
  omega
theorem jW{b:Nat}(h:Rc (sN (A1 f)) 0 b):b<f.Blocks.length/\Rc (sN (A1 (Cb f x y))) 0 (psJ x y b):=by
 have hy:=LO J hs;have hgs:=j_shapeB J hs
 induction h with
 | root=>exact⟨by omega,by rw[(wk J hs).2];exact .root⟩
 | @step a b ha hb ih=>
  have hn:=(Ss hs ih.1).1 hb;have hbl:=(gV hs ih.1 hn).1;refine⟨hbl,?_⟩
  have key:∀ c,c<f.Blocks.length->c≠y->psJ x y c=psJ x y a->UG f (Th x y c) b->b≠y->Rc (sN (A1 (Cb f x y))) 0 (psJ x y b):=λc hc hcy e hcn hby=>by
   rw[<- e]at ih;exact .step ih.2 ((Ss hgs (by rw[Ok J];exact V7 J hs hc)).2 ((tA J hs hc hcy hby).2 hcn))
  by_cases e:b=y
  ·subst e;have:=SM J hs ih.1 hn;subst this;rcases ps_eq J.ne b with h|h|h
   ·rw[h.2];exact ih.2
   ·omega
   ·omega
  ·by_cases ea:a=y
   ·refine key x J.hx (λh=>J.ne h.symm) ?_ ?_ e
    ·rw[ea];rcases ps_eq J.ne y with h|h|h
     ·rw[h.2]
     ·omega
     ·omega
    ·unfold Th;rw[if_pos rfl,<- ea];exact hn
   ·by_cases ex:a=x
    ·exfalso
     unfold UG at hn;rw[ex,J.to,zzL16]at hn;omega
    ·refine key a ih.1 ea rfl ?_ e;unfold Th;rw[if_neg ex];exact hn
theorem Aaq{a:Nat}(hay:a≠y){w:Nat}(h:Av (sN (A1 (Cb f x y))) 0 (psJ x y a) w):∃ b,b<f.Blocks.length/\b≠y/\psJ x y b=w/\Av (sN (A1 f)) 0 a b:=by
 have hy:=LO J hs;have hgs:=j_shapeB J hs
 induction h with
 | root hne=>exact⟨0,by omega,(wk J hs).1,(wk J hs).2,.root (λe=>hne (by rw[<- e,(wk J hs).2]))⟩
 | @step w w' hw hy' hz ih=>
  obtain⟨b,hb,hby,rfl,hav⟩:=ih;have hn:=(Ss hgs (by rw[Ok J];exact V7 J hs hb)).1 hy';obtain⟨c,hc,hcy,_,rfl,hnc⟩:=zB J hs hb hby hn;have hca:c≠a:=λe=>hz (by rw[e]);refine⟨c,hc,hcy,rfl,?_⟩;unfold Th at hnc
  by_cases e:b=x
  ·rw[if_pos e]at hnc;have h1:Av (sN (A1 f)) 0 a y:=.step hav ((Ss hs hb).2 (by unfold UG;rw[e,J.to];exact zzL16.2 rfl)) (λe=>hay e.symm);exact .step h1 ((Ss hs hy.1).2 hnc) hca
  ·rw[if_neg e]at hnc;exact .step hav ((Ss hs hb).2 hnc) hca
theorem wl{a b:Nat}(ha:a<f.Blocks.length)(hay:a≠y)(hb:b<f.Blocks.length)(hby:b≠y)(h:Lt (B8 f) (a:Int) (b:Int)=true):Lt (B8 (Cb f x y)) (psJ x y a:Int) (psJ x y b:Int)=true:=by
 obtain⟨h1,h2⟩:=(Vv hs ha hb).1 h;refine(Vv (j_shapeB J hs) (by rw[Ok J];exact V7 J hs ha) (by rw[Ok J];exact V7 J hs hb)).2 ⟨(jW J hs h1).2,λhav=>h2 ?_⟩;obtain⟨c,hc,hcy,e,hv⟩:=Aaq J hs hay hav;rw[<- gh J.ne hcy hby e];exact hv
theorem Aat{d:Nat}(hd:d≠y)(h:Av (sN (A1 f)) 0 d x):Av (sN (A1 f)) 0 d y:=
 .step h ((Ss hs J.hx).2 (by unfold UG;rw[J.to];exact zzL16.2 rfl)) (λe=>hd e.symm)
theorem Aav{d:Nat}(h:Av (sN (A1 f)) 0 d y):Av (sN (A1 f)) 0 d x:=by
 cases h with
 | root=>exact absurd rfl (wk J hs).1
 | @step a _ h hy _=>
  have ha:=gj hs (ym h);have:=SM J hs ha ((Ss hs ha).1 hy);rw[<- this];exact h
theorem Aaw(h:Rc (sN (A1 f)) 0 y):Rc (sN (A1 f)) 0 x:=by
 cases h with
 | root=>exact absurd rfl (wk J hs).1
 | @step a _ h hy=>
  have ha:=gj hs h;have:=SM J hs ha ((Ss hs ha).1 hy);rw[<- this];exact h
theorem xA{d:Nat}(hd:d<f.Blocks.length)(hdy:d≠y):Lt (B8 f) (d:Int) (y:Int)=true↔Lt (B8 f) (d:Int) (x:Int)=true:=by
 rw[Vv hs hd (LO J hs).1,Vv hs hd J.hx]
 constructor
 ·rintro⟨h1,h2⟩;exact⟨Aaw J hs h1,λh=>h2 (Aat J hs hdy h)⟩
 ·rintro⟨h1,h2⟩;exact⟨.step h1 ((Ss hs J.hx).2 (by unfold UG;rw[J.to];exact zzL16.2 rfl)),λh=>h2 (Aav J hs h)⟩
theorem gQ:¬ Lt (B8 f) (y:Int) (x:Int)=true:=by
 intro h;obtain⟨h1,h2⟩:=(Vv hs (LO J hs).1 J.hx).1 h
 have key:∀ b,Rc (sN (A1 f)) 0 b->Av (sN (A1 f)) 0 y b\/Av (sN (A1 f)) 0 y x:=by
  intro b hb
  induction hb with
  | root=>exact .inl (.root (wk J hs).1)
  | @step a b ha hb ih=>
   rcases ih with ih|ih
   ·by_cases eb:b=y
    ·right
     have hal:=gj hs ha;have:=SM J hs hal ((Ss hs hal).1 (by rw[<- eb];exact hb));rw[<- this];exact ih
    ·exact .inl (.step ih hb eb)
   ·exact .inr ih
 rcases key x h1 with h|h
 ·exact h2 h
 ·exact h2 h
end
theorem HP{α β:Type}{l:List α}{F:α->β}{d:α}{d':β}{j:Nat}(h:j<l.length):(l.map F).getD j d'=F (l.getD j d):=by
 rw[Ab _ _ _ (by rw[Dz];exact h),List.getElem_map,Ab _ _ _ h]
def kv(l:List (Int×Int)):Prop:=l.Pairwise λp q=>p.1<q.1
theorem DG(p:Int×Int)(l:List (Int×Int))(e:Int×Int):NG (p::l) e=if p.1<e.1 then p::NG l e else e::p::l:=by
 unfold NG
 by_cases h:p.1<e.1<;>simp[h]
theorem insJ_perm(e:Int×Int):∀ l:List (Int×Int),(NG l e).Perm (e::l)
 | []=>.refl _
 | p::l=>by
  rw[DG]
  split
  ·exact((insJ_perm e l).cons p).trans (.swap ..)
  ·exact .refl _
theorem cm{e:Int×Int}:∀{l:List (Int×Int)},kv l->(∀ p∈l,p.1≠e.1)->kv (NG l e)
 | [],_,_=>List.pairwise_singleton _ _
 | p::l,h,hn=>by
  rw[DG];obtain⟨h1,h2⟩:=zzL75.1 h;have hp:=hn p (by simp)
  split
  ·rename_i hlt
   refine zzL75.2 ⟨λq hq=>?_,cm h2 λq hq=>hn q (by simp[hq])⟩;rcases zzL37.1 ((insJ_perm e l).mem_iff.1 hq) with rfl|hq
   ·exact hlt
   ·exact h1 q hq
  ·refine zzL75.2 ⟨λq hq=>?_,h⟩;rcases zzL37.1 hq with rfl|hq
   ·omega
   ·have:=h1 q hq;omega
theorem jz:∀(L acc:List (Int×Int)),kv acc->((acc++L).map (·.1)).Nodup->(L.foldl NG acc).Perm (acc++L)/\kv (L.foldl NG acc)
 | [],acc,h,_=>⟨by simp,h⟩
 | e::L,acc,h,hn=>by
  rw[IL];have hp:=insJ_perm e acc
  have hne:∀ p∈acc,p.1≠e.1:=λp hp he=>by
   rw[Wy,List.nodup_append]at hn;exact hn.2.2 _ (zzL21.2 ⟨p,hp,rfl⟩) _ (by simp) he
  have hpp:(acc++e::L).Perm (NG acc e++L):=by
   refine List.perm_middle.trans ?_;exact(hp.symm.append_right L)
  obtain⟨h1,h2⟩:=jz L (NG acc e) (cm h hne) ((hpp.map _).nodup_iff.1 hn);exact⟨h1.trans hpp.symm,h2⟩
theorem j0{L:List (Int×Int)}(h:(L.map (·.1)).Nodup):(Zw L).Perm L/\kv (Zw L):=by
 have:=jz L [] List.Pairwise.nil (by simpa using h)
 simpa [Zw] using this
theorem OO{v:Int->Int}{x y:Nat}{p:A8}(h:p.Args.length=p.From.length):(Ov v x y p).map (·.1)=p.From.map (lw x y):=by
 unfold Ov;rw[List.map_fst_zip];simp[h]
theorem kC{v:Int->Int}{x y:Nat}{p:A8}(h:p.Args.length=p.From.length):(Ov v x y p).length=p.From.length:=by
 have:=Bk List.length (OO (v:=v) (x:=x) (y:=y) h)
 simpa using this
theorem ue{v:Int->Int}{x y:Nat}{p:A8}(h:p.Args.length=p.From.length){e:Int×Int}:e∈Ov v x y p↔∃ i,i<p.Args.length/\e=(lw x y (p.From.getD i 0),v (p.Args.getD i 0)):=by
 unfold Ov;rw[List.mem_iff_getElem]
 constructor
 ·rintro⟨i,hi,rfl⟩
  have hi':i<p.Args.length:=by simp at hi;omega
  refine⟨i,hi',?_⟩;rw[List.getElem_zip,List.getElem_map,List.getElem_map,Ab _ _ _ hi',Ab _ _ _ (by omega)]
 ·rintro⟨i,hi,rfl⟩;refine⟨i,by simp;omega,?_⟩;rw[List.getElem_zip,List.getElem_map,List.getElem_map,Ab _ _ _ hi,Ab _ _ _ (by omega)]
section
variable {f:TFunc} {x y:Nat} (J:Jn f x y) (hs:Gp f=true)
include J hs
theorem pV{a b:Nat}(ha:a<f.Blocks.length)(hb:b≠y)(h:UG f a b):a≠x:=by
 intro e;unfold UG at h;rw[e,J.to,zzL16]at h;omega
theorem u9{b:Nat}(hb:b<f.Blocks.length)(hby:b≠y):((prF f b).map (lw x y)).Nodup:=by
 rw[List.nodup_iff_pairwise_ne,List.pairwise_map];refine List.Pairwise.imp_of_mem (λ{p q} hp hq hpq e=>?_) (XP f hb);obtain⟨a,rfl,ha,hna⟩:=(Qz hs hb).1 hp;obtain⟨c,rfl,hc,hnc⟩:=(Qz hs hb).1 hq;rw[Pg,Pg]at e;have h1:=pV J hs ha hby hna;have h2:=pV J hs hc hby hnc;have hne:=J.ne
 have e':psJ x y a=psJ x y c:=by omega
 rcases ps_eq hne a with h3|h3|h3<;>rcases ps_eq hne c with h4|h4|h4<;>rcases ps_eq hne x with h5|h5|h5<;>omega
theorem pD{b:Nat}(hb:b<f.Blocks.length)(hby:b≠y){z:Int}:z∈prF (Cb f x y) (psJ x y b)↔z∈(prF f b).map (lw x y):=by
 have hgs:=j_shapeB J hs
 have hbl:psJ x y b<(Cb f x y).Blocks.length:=by rw[Ok J];exact V7 J hs hb
 rw[Qz hgs hbl,zzL21]
 constructor
 ·rintro⟨w,rfl,hw,hn⟩;rw[Ok J]at hw;have hu:=eO (LO J hs).1 hw;have e:=dq J.ne (x:=x) (y:=y) w;rw[<- e,tA J hs hu (YE y w) hby]at hn;refine⟨(Th x y (IV y w):Int),(Qz hs hb).2 ⟨_,rfl,Yh J hs hu,hn⟩,?_⟩;rw[Pg];unfold Th
  split
  ·rename_i h
   rcases ps_eq J.ne y with h1|h1|h1
   ·rw[h1.2];rw[h]at e;omega
   ·omega
   ·omega
  ·rw[e]
 ·rintro⟨q,hq,rfl⟩;obtain⟨c,rfl,hc,hnc⟩:=(Qz hs hb).1 hq;rw[Pg];have hcx:=pV J hs hc hby hnc
  by_cases e:c=y
  ·refine⟨psJ x y x,?_,by rw[Ok J];exact V7 J hs J.hx,(tA J hs J.hx (λh=>J.ne h.symm) hby).2 (by unfold Th;rw[if_pos rfl,<- e];exact hnc)⟩;rcases ps_eq J.ne c with h1|h1|h1
   ·rw[h1.2]
   ·omega
   ·omega
  ·exact⟨psJ x y c,rfl,by rw[Ok J];exact V7 J hs hc,(tA J hs hc e hby).2 (by unfold Th;rw[if_neg hcx];exact hnc)⟩
theorem OJ{v:Int->Int}{b:Nat}(hb:b<f.Blocks.length)(hby:b≠y){p:A8}(h1:p.From=prF f b)(h2:p.Args.length=p.From.length) :
  (NO v x y p).From=prF (Cb f x y) (psJ x y b)/\(NO v x y p).Args.length=p.Args.length/\(NO v x y p).From.length=p.From.length/\(Zw (Ov v x y p)).Perm (Ov v x y p)/\kv (Zw (Ov v x y p)):=by
 have hnd:((Ov v x y p).map (·.1)).Nodup:=by rw[OO h2,h1];exact u9 J hs hb hby
 obtain⟨k1,k2⟩:=j0 hnd
 have hbl:psJ x y b<(Cb f x y).Blocks.length:=by rw[Ok J];exact V7 J hs hb
 have hl:(Zw (Ov v x y p)).length=p.From.length:=by rw[k1.length_eq,kC h2]
 refine⟨?_,by show(List.map _ _).length=_;rw[Dz,hl,h2],by show(List.map _ _).length=_;rw[Dz,hl],k1,k2⟩;refine FQ ?_ (XP _ hbl) λz=>?_
 ·show(List.map _ _).Pairwise _
  rw[List.pairwise_map];exact k2
 ·rw[pD J hs hb hby,<- h1,<- OO (v:=v) h2];exact(k1.map _).mem_iff
theorem jp{v:Int->Int}{p:A8}(h2:p.Args.length=p.From.length)(hp:(Zw (Ov v x y p)).Perm (Ov v x y p)){j:Nat}(hj:j<(NO v x y p).Args.length) :
  ∃ i,i<p.Args.length/\(NO v x y p).From.getD j 0=lw x y (p.From.getD i 0)/\(NO v x y p).Args.getD j 0=v (p.Args.getD i 0):=by
 have hj':j<(Zw (Ov v x y p)).length:=by
  have:j<(List.map _ _).length:=hj;rwa[Dz]at this
 obtain⟨i,hi,e⟩:=(ue h2).1 (hp.mem_iff.1 (KN hj'));refine⟨i,hi,?_,?_⟩
 ·show(List.map _ _).getD j 0=_
  rw[Ab _ _ _ (by rw[Dz];exact hj'),List.getElem_map,e]
 ·show(List.map _ _).getD j 0=_
  rw[Ab _ _ _ (by rw[Dz];exact hj'),List.getElem_map,e]
end
theorem Bd{f:TFunc}{l:Int}(R:Zy f l):Gp f=true:=by
 have:=R.shape;unfold Fe at this;rw[A6]at this;exact this.1
theorem Hi{f:TFunc}{l:Int}(R:Zy f l):∀ b∈f.Blocks,∀ o∈b.Ops,Gs o=true:=λb hb o ho=>vA R hb ho
theorem Td{f:TFunc}{l:Int}(R:Zy f l){b:Nat}(hb:b<f.Blocks.length){p:A8}(hp:p∈(bA f b).Phis):p.From=prF f b/\p.Args.length=p.From.length:=by
 have hs:=R.shape;unfold Fe at hs;rw[A6]at hs;have:=fQ hs.2 b hb;unfold K7 at this;simp only[A6,zzL26]at this;have:=this.2 p hp;unfold Jo at this;rw[A6,Gr,zzL63]at this;refine⟨this.1,?_⟩;rw[this.1];omega
theorem Wj{f:TFunc}{l:Int}(R:Zy f l){b:Nat}(hb:b<f.Blocks.length):Rc (sN (A1 f)) 0 b/\((bA f b).End.Kind=1\/(bA f b).End.Kind=3->(bA f b).End.Arg=0):=by
 have hs:=R.shape;unfold Fe at hs;rw[A6]at hs;have h0:=(shape_iff.1 hs.1).1.1;have:=fQ hs.2 b hb;unfold K7 at this;simp only[A6]at this;refine⟨(eA (Jp hs.1) (by omega) b).1 this.1.1,λh=>?_⟩;have h2:=this.1.2;rcases h with h|h<;>rw[h]at h2<;>simpa using h2
theorem MJ{f:TFunc}(hs:Gp f=true)(h:∀ b,b<f.Blocks.length->Rc (sN (A1 f)) 0 b/\((bA f b).End.Kind=1\/(bA f b).End.Kind=3->(bA f b).End.Arg=0)/\∀ p∈(bA f b).Phis,p.From=prF f b/\p.Args.length=p.From.length):Fe f=true:=by
 have h0:=(shape_iff.1 hs).1.1;unfold Fe;rw[hs,Ld,zzL26];intro b hb;rw[zzL45]at hb;obtain⟨h1,h2,h3⟩:=h b hb;unfold K7;simp only[A6,zzL26];refine⟨⟨(eA (Jp hs) (by omega) b).2 h1,?_⟩,λp hp=>?_⟩
 ·by_cases hk:(bA f b).End.Kind=1\/(bA f b).End.Kind=3
  ·rw[h2 hk];simp
  ·have e:((bA f b).End.Kind==1 || (bA f b).End.Kind==3)=false:=by
    rw[KK,zzL30,zzL30];exact⟨λh=>hk (.inl h),λh=>hk (.inr h)⟩
   rw[e];rfl
 ·obtain⟨e1,e2⟩:=h3 p hp;unfold Jo;rw[A6,Gr,zzL63];refine⟨e1,?_⟩;have e3:(Dq (A1 f)).getD b []=prF f b:=rfl;rw[e3,<- e1];omega
end
end Go.Proofs.YtfhggcbcamamdaaGreat
