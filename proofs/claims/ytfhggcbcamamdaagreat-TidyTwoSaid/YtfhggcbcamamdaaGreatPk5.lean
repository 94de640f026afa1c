/-
  The machine, the program's functions and the laws' arithmetic: part 5 of 6.
-/
import Derived.Test.YtfhggcbcamamdaaGreatPk4
import Derived.Lib.RowBridge
set_option linter.unusedSectionVars false
set_option linter.unusedVariables false
set_option linter.unusedSimpArgs false
namespace Go.Proofs.YtfhggcbcamamdaaGreat
noncomputable section
open Go Go.RowKit
theorem IC:room=1099511627776:=rfl
theorem My{β:Type}(n A C:Nat)(E:Nat->List β)(hE:∀ i,i<n->(E i).length<=C)(f:List β×Int->Option (LR (List β×Int) (List β)))
  (hn:∀(acc:List β) (i:Nat),i<n->acc.length<=A+i*C->f (acc,(i:Int))=some (.next (acc++E i,(i:Int)+1)))
  (hd:∀ acc:List β,f (acc,(n:Int))=some (.done acc)):∀(k i:Nat) (acc:List β),i+k=n->acc.length<=A+i*C->Ac f (acc,(i:Int))=some (acc++(List.range' i k).flatMap E)
 | 0,i,acc,h,_=>by
  obtain rfl:i=n:=by omega
  rw[Ak (hd acc)]
  simp
 | k+1,i,acc,h,hA=>by
  have hi:i<n:=by omega
  have h2:acc.length+C<=A+(i+1)*C:=by rw[Gl];omega
  rw[Ap (hn acc i hi hA),show(i+1)=((i+1:Nat):Int) by omega,My n A C E hE f hn hd k _ _ (by omega) (by grind),EV,MS,EU]
theorem Kg{β:Type}(C:Nat)(E:Nat->List β):∀ l:List Nat,(∀ i∈l,(E i).length<=C)->(l.flatMap E).length<=l.length*C
 | [],_=>by simp
 | a::l,h=>by
  have h1:=h a (by simp);have h2:=Kg C E l (λi hi=>h i (by simp[hi]));rw[MS,Fe,EW,Gl];omega
def Lt(l:List Cc)(v:Int):Int:=match l.findIdx? (λd=>d.V==v) with|some i=>(i:Int)|none=>-1
theorem au(l:List Cc)(v:Int)(hl:l.length<=1000000):Et l v=some (Lt l v):=by
 have key:∀(k i:Nat),i+k=l.length->Ac (Gg l v) i=some (match(l.drop i).findIdx? (λd=>d.V==v) with|some j=>.inr (i+j:Nat)|none=>.inl ()):=by
  intro k
  induction k with
  | zero=>
   intro i h
   obtain rfl:i=l.length:=by omega
   rw[Ak (x:=.inl ()) (by unfold Gg;simp)]
   simp
  | succ k ih=>
   intro i h
   have hi:i<l.length:=by omega
   have hdr:l.drop i=l.getD i default::l.drop (i+1):=by simp_all
   have hd:decide (i<(l.length:Int))=true:=by simpa using hi
   rw[hdr,List.findIdx?_cons]
   cases hb:(l.getD i _).V==v with
   | true=>
    rw[Ak (x:=.inr i) (by unfold Gg;simp only[hd,Ah,Aa (Ai hi),C5,hb])]
    simp
   | false=>
    rw[Ap (s':=((i+1:Nat):Int)) (by unfold Gg;simp only[hd, Aa (Ai hi),C5,hb, A0 hi (by omega)];rfl),ih _ (by omega)]
    cases(l.drop _).findIdx? _ with
    | none=>simp
    | some j=>simp;omega
 unfold Et Lt;rw[show 0=((0:Nat):Int) from rfl,key l.length 0 (by omega),Oc]
 cases l.findIdx? _ with
 | none=>rfl
 | some j=>simp
def Gr(o:TOp):Int×Int:=bif Gs o then Vr o.Kind o.Bits o.Lanes else(0,0)
def Hg(o:TOp):List (Int×Int):=bif Gs o then R3 o else[]
def Ql(f:TFunc):List Cc:=(List.range f.Params.length).flatMap λ(i:Nat)=>[⟨(i:Int)+1,-1,0,(f.Params.getD i 0,1)⟩]
def Qm(b:Ae)(i:Nat):List Cc:=(List.range b.Phis.length).flatMap λ(k:Nat)=>[⟨(b.Phis.getD k default).Dst,i,-1,((b.Phis.getD k default).Bits,1)⟩]
def Vp(b:Ae)(i:Nat):List Cc:=(List.range b.Ops.length).flatMap λ(k:Nat)=>bif decide (0<(Gr (b.Ops.getD k default)).1) then[⟨(b.Ops.getD k default).Dst,i,k,Gr (b.Ops.getD k default)⟩] else[]
def Qk(b:Ae)(i:Nat):List Cc:=Qm b i++Vp b i
def As(f:TFunc):List Cc:=Ql f++(List.range f.Blocks.length).flatMap λi=>Qk (f.Blocks.getD i default) i
theorem LJ(b:Ae)(i:Nat):(Qm b i).length<=b.Phis.length:=by
 have:=Kg 1 (λk=>[(⟨(b.Phis.getD k default).Dst,i,-1,((b.Phis.getD k default).Bits,1)⟩:Cc)]) (List.range b.Phis.length) (λ_ _=>zzL6 _)
 simpa [Qm] using this
theorem ft(b:Ae)(i:Nat):(Vp b i).length<=b.Ops.length:=by
 have:=Kg 1 (λk=>bif decide (0<(Gr (b.Ops.getD k default)).1) then[(⟨(b.Ops.getD k default).Dst,i,k,Gr (b.Ops.getD k default)⟩:Cc)] else[]) (List.range b.Ops.length) (λk _=>by grind)
 simpa [Vp] using this
theorem WQ{f:TFunc}(hf:OkF f){i:Nat}(hi:i<f.Blocks.length):(Qk (f.Blocks.getD i default) i).length<=1024:=by
 have hB:=hf.block _ (Ag (d:=default) hi);have h1:=LJ (f.Blocks.getD i default) i;have h2:=ft (f.Blocks.getD i default) i;have h3:=hB.phis;have h4:=hB.ops;rw[Qk,Fe];omega
theorem DA(f:TFunc):(Ql f).length=f.Params.length:=by
 have h:∀ l:List Nat,(l.map λ_=>1).sum=l.length:=λl=>by induction l with|nil=>rfl|cons a l ih=>simp[ih];omega
 simp[Ql, h]
theorem lf{f:TFunc}(hf:OkF f):(As f).length<=100000:=by
 have h1:=Kg _ _ (List.range _) (λi hi=>WQ hf (by simpa using hi));have h2:=DA f;have h3:=hf.few;have h4:=hf.blocks;rw[Vf]at h1;rw[As,Fe];omega
theorem w6{f:TFunc}(hf:OkF f):Ku f=some (As f):=by
 have hp:=My f.Params.length 0 1 (λ(i:Nat)=>[(⟨(i:Int)+1,-1,0,(f.Params.getD i 0,1)⟩:Cc)]) (λ_ _=>zzL6 _) (Io f) (λacc i hi hA=>by
   unfold Io
   have hd:decide ((i:Int)<(f.Params.length:Int))=true:=by simpa using hi
   have hr:acc.length+([(⟨(i:Int)+1,(-1:Int),(0:Int),((f.Params.getD i 0),(1:Int))⟩:Cc)]:List (Cc)).length<=room:=by have:=hf.few;rw[IC];simp;omega
   simp only[hd,Ah,Aa (Ai hi),C5,A0 hi (by have:=hf.few;omega),Aa hr]) (λacc=>by unfold Io;simp) f.Params.length 0 [] (by omega) (by simp)
 have hphi:∀(i:Nat),i<f.Blocks.length->∀ acc:List Cc,acc.length<=100000->Ac (Ge f (i:Int)) (acc,(0:Int))=some (acc++Qm (f.Blocks.getD i default) i):=λi hi acc hacc=>by
  have hB:=hf.block _ (Ag (d:=(default:Ae)) hi)
  have:=My (f.Blocks.getD i default).Phis.length 100000 1 (λ(k:Nat)=>[(⟨((f.Blocks.getD i default).Phis.getD k default).Dst,i,-1,(((f.Blocks.getD i default).Phis.getD k default).Bits,1)⟩:Cc)]) (λ_ _=>zzL6 _) (Ge f (i:Int)) (λacc k hk hA=>by
   unfold Ge
   have hd:decide ((k:Int)<((f.Blocks.getD i default).Phis.length:Int))=true:=by simpa using hk
   have hr:∀ x:Cc,acc.length+([x]:List Cc).length<=room:=λx=>by have:=hB.phis;rw[IC];simp;omega
   simp only[C5,hd,Ah,Aa (Ai hk),A0 hk (by have:=hB.phis;omega),Aa (hr _)]) (λacc=>by unfold Ge;simp) (f.Blocks.getD i default).Phis.length 0 acc (by omega) (by omega)
  rw[show(0:Int)=((0:Nat):Int) from rfl,this,Qm,Sl]
 have hop:∀(i:Nat),i<f.Blocks.length->∀ acc:List Cc,acc.length<=100000->Ac (Gf f (i:Int)) (acc,(0:Int))=some (acc++Vp (f.Blocks.getD i default) i):=λi hi acc hacc=>by
  have hmem:=Ag (d:=(default:Ae)) hi;have hB:=hf.block _ hmem
  have:=My (f.Blocks.getD i default).Ops.length 100000 1 (λ(k:Nat)=>bif decide (0<(Gr ((f.Blocks.getD i default).Ops.getD k default)).1) then[(⟨((f.Blocks.getD i default).Ops.getD k default).Dst,i,k,Gr ((f.Blocks.getD i default).Ops.getD k default)⟩:Cc)] else[]) (λk _=>by grind) (Gf f (i:Int)) (λacc k hk hA=>by
   unfold Gf;have hok:=mO hf hmem (Ag (d:=(default:TOp)) hk)
   have hd:decide ((k:Int)<((f.Blocks.getD i default).Ops.length:Int))=true:=by simpa using hk
   have hr:∀ x:Cc,acc.length+([x]:List Cc).length<=room:=λx=>by have:=hB.ops;rw[IC];simp;omega
   have hg:Hm ((f.Blocks.getD i default).Ops.getD k default)=some (Gr ((f.Blocks.getD i default).Ops.getD k default)):=mS _ hok;simp only[C5,hd,Ah,Aa (Ai hk),hg,An,A0 hk (by have:=hB.ops;omega),Aa (hr _)]
   cases decide (0<(Gr ((f.Blocks.getD i default).Ops.getD k default)).1)<;>simp) (λacc=>by unfold Gf;simp) (f.Blocks.getD i default).Ops.length 0 acc (by omega) (by omega)
  rw[show(0:Int)=((0:Nat):Int) from rfl,this,Vp,Sl]
 have hb:=My f.Blocks.length 16 1024 (λi=>Qk (f.Blocks.getD i default) i) (λi hi=>WQ hf hi) (Ip f) (λacc i hi hA=>by
   unfold Ip
   have hd:decide ((i:Int)<(f.Blocks.length:Int))=true:=by simpa using hi
   have hB:=hf.block _ (Ag (d:=(default:Ae)) hi);have h64:=hf.blocks;have h2:=LJ (f.Blocks.getD i default) i;have h3:=hB.phis
   simp only[hd,Ah,Aa (Ai hi),hphi i hi acc (by omega),An,hop i hi (acc++Qm (f.Blocks.getD i default) i) (by rw[Fe];omega),A0 hi (by omega),Qk,EU]) (λacc=>by unfold Ip;simp) f.Blocks.length 0 (Ql f) (by omega) (by have:=DA f;have:=hf.few;omega)
 unfold Ku;rw[show(0:Int)=((0:Nat):Int) from rfl,hp,An,Zc]
 have e:(List.range' 0 f.Params.length).flatMap (λ(i:Nat)=>[(⟨(i:Int)+1,-1,0,(f.Params.getD i 0,1)⟩:Cc)])=Ql f:=by rw[Ql,Sl]
 rw[e,hb,An,As,Sl]
def N9(p:TPhi):List D1:=(List.range p.Args.length).flatMap λ(j:Nat)=>[⟨p.Args.getD j 0,p.From.getD j 0,1000,(p.Bits,1)⟩]
def Nc(b:Ae):List D1:=(List.range b.Phis.length).flatMap λ(k:Nat)=>N9 (b.Phis.getD k default)
def Q9(o:TOp)(i k:Nat):List D1:=(List.range (Hg o).length).flatMap λ(j:Nat)=>[⟨o.Args.getD j 0,i,k,(Hg o).getD j (0,0)⟩]
def Sx(b:Ae)(i:Nat):List D1:=(List.range b.Ops.length).flatMap λ(k:Nat)=>Q9 (b.Ops.getD k default) i k
def Yq(f:TFunc)(b:Ae)(i:Nat):List D1:=(bif b.End.Kind==0 then[⟨b.End.Arg,i,1000,(f.Ret,1)⟩] else[])++(bif b.End.Kind==2 then[⟨b.End.Arg,i,1000,(1,1)⟩] else[])
def ID(f:TFunc)(b:Ae)(i:Nat):List D1:=Nc b++Sx b i++Yq f b i
def Bf(f:TFunc):List D1:=(List.range f.Blocks.length).flatMap λ(i:Nat)=>ID f (f.Blocks.getD i default) i
theorem Yo{o:TOp}(h:o.Args.length<=64):(Hg o).length<=64/\(Hg o).length<=o.Args.length:=by
 unfold Hg
 cases hm:Gs o with
 | false=>simp
 | true=>
  simp only[Ah]
  have :=by
   simp only[Gs,A6]at hm;exact hm.1.2.2
  have h2 :=by simpa using this
  have h3:(R3 o).length=o.Args.length:=by rw[R3,Dx,Vf,<- h2,C5]
  omega
theorem RK{f:TFunc}(hf:OkF f){b:Ae}(hb:b∈f.Blocks){p:TPhi}(hp:p∈b.Phis):p.From.length<=64/\p.Args.length<=64:=by
 have:=(blockB_iff.1 (hf.block b hb).may).1 p hp;simp only[FL,A6]at this;exact⟨(listB_iff.1 this.1.2).2,(listB_iff.1 this.2).2⟩
theorem j0{f:TFunc}(hf:OkF f){b:Ae}(hb:b∈f.Blocks){o:TOp}(ho:o∈b.Ops):o.Args.length<=64:=by
 have:=(blockB_iff.1 (hf.block b hb).may).2.1 o ho;simp only[fC,A6]at this;exact(listB_iff.1 this.2).2
theorem IE(p:TPhi):(N9 p).length<=p.Args.length:=by
 have:=Kg 1 (λj=>[(⟨p.Args.getD j 0,p.From.getD j 0,1000,(p.Bits,1)⟩:D1)]) (List.range p.Args.length) (λ_ _=>zzL6 _)
 simpa [N9] using this
theorem MO(o:TOp)(i k:Nat):(Q9 o i k).length<=(Hg o).length:=by
 have:=Kg 1 (λj=>[(⟨o.Args.getD j 0,i,k,(Hg o).getD j (0,0)⟩:D1)]) (List.range (Hg o).length) (λ_ _=>zzL6 _)
 simpa [Q9] using this
theorem MP{f:TFunc}(hf:OkF f){b:Ae}(hb:b∈f.Blocks):(Nc b).length<=32768:=by
 have:=Kg 64 (λk=>N9 (b.Phis.getD k default)) (List.range _) (λk hk=>by
  have h1:=IE (b.Phis.getD k default);have h2:=(RK hf hb (Ag (d:=default) (by simpa using hk))).2
  omega)
 have h3:=(hf.block b hb).phis;rw[Vf]at this;rw[Nc];omega
theorem SO{f:TFunc}(hf:OkF f){b:Ae}(hb:b∈f.Blocks)(i:Nat):(Sx b i).length<=32768:=by
 have:=Kg 64 (λk=>Q9 (b.Ops.getD k default) i k) (List.range _) (λk hk=>by
  have h1:=MO (b.Ops.getD k default) i k;have h2:=(Yo (j0 hf hb (Ag (d:=default) (by simpa using hk)))).1
  omega)
 have h3:=(hf.block b hb).ops;rw[Vf]at this;rw[Sx];omega
theorem ed(f:TFunc)(b:Ae)(i:Nat):(Yq f b i).length<=2:=by
 unfold Yq
 cases b.End.Kind==0<;>cases b.End.Kind==2<;>simp
theorem YO{f:TFunc}(hf:OkF f){i:Nat}(hi:i<f.Blocks.length):(ID f (f.Blocks.getD i default) i).length<=70000:=by
 have hmem:=Ag (d:=default) hi;have h1:=MP hf hmem;have h2:=SO hf hmem i;have h3:=ed f (f.Blocks.getD i default) i;rw[ID,Fe,Fe];omega
theorem KJ{f:TFunc}(hf:OkF f):(Bf f).length<=4480000:=by
 have h1:=Kg _ _ (List.range _) (λi hi=>YO hf (by simpa using hi));have h4:=hf.blocks;rw[Vf]at h1;rw[Bf];omega
def kB(f:TFunc):Prop:=∀ b∈f.Blocks,∀ p∈b.Phis,p.Args.length<=p.From.length
theorem w9{f:TFunc}(hf:OkF f)(hp:kB f):Kv f=some (Bf f):=by
 have hbig:∀{n:Nat},n<=100000000->∀ x:D1,n+([x]:List D1).length<=room:=λ{n} h x=>by rw[IC];simp;omega
 have h1:∀(i:Nat),i<f.Blocks.length->∀(k:Nat),k<(f.Blocks.getD i default).Phis.length->∀ acc:List D1,acc.length<=50000000->Ac (Gh f (i:Int) (k:Int)) (acc,(0:Int))=some (acc++N9 ((f.Blocks.getD i default).Phis.getD k default)):=λi hi k hk acc hacc=>by
  have hmem:=Ag (d:=(default:Ae)) hi;have hpm:=Ag (d:=(default:TPhi)) hk;have hlen:=RK hf hmem hpm;have hfit:=hp _ hmem _ hpm
  have:=My ((f.Blocks.getD i default).Phis.getD k default).Args.length 50000000 1 (λ(j:Nat)=>[(⟨((f.Blocks.getD i default).Phis.getD k default).Args.getD j 0,((f.Blocks.getD i default).Phis.getD k default).From.getD j 0,1000,(((f.Blocks.getD i default).Phis.getD k default).Bits,1)⟩:D1)]) (λ_ _=>zzL6 _) (Gh f (i:Int) (k:Int)) (λacc j hj hA=>by
   unfold Gh
   have hd:decide ((j:Int)<(((f.Blocks.getD i default).Phis.getD k default).Args.length:Int))=true:=by simpa using hj
   simp only[C5,hd,Ah,Aa (Ai hj),Aa (Ai (Nat.lt_of_lt_of_le hj hfit)),A0 hj (by omega),Aa (hbig (n:=acc.length) (by omega) _)]) (λacc=>by unfold Gh;simp) ((f.Blocks.getD i default).Phis.getD k default).Args.length 0 acc (by omega) (by omega)
  rw[show(0:Int)=((0:Nat):Int) from rfl,this,N9,Sl]
 have h2:∀(i:Nat),i<f.Blocks.length->∀ acc:List D1,acc.length<=40000000->Ac (Gi f (i:Int)) (acc,(0:Int))=some (acc++Nc (f.Blocks.getD i default)):=λi hi acc hacc=>by
  have hmem:=Ag (d:=(default:Ae)) hi;have hB:=hf.block _ hmem
  have:=My (f.Blocks.getD i default).Phis.length 40000000 64 (λ(k:Nat)=>N9 ((f.Blocks.getD i default).Phis.getD k default)) (λk hk=>by have:=IE ((f.Blocks.getD i default).Phis.getD k default);have:=(RK hf hmem (Ag (d:=(default:TPhi)) hk)).2;omega) (Gi f (i:Int)) (λacc k hk hA=>by
   unfold Gi
   have hd:decide ((k:Int)<((f.Blocks.getD i default).Phis.length:Int))=true:=by simpa using hk
   have h5:=hB.phis;have h6:k*64<=512*64:=Ft _ (by omega)
   simp only[C5,hd,Ah,Aa (Ai hk),h1 i hi k hk acc (by omega),An,A0 hk (by omega)]) (λacc=>by unfold Gi;simp) (f.Blocks.getD i default).Phis.length 0 acc (by omega) (by omega)
  rw[show(0:Int)=((0:Nat):Int) from rfl,this,Nc,Sl]
 have h3:∀(i:Nat),i<f.Blocks.length->∀(k:Nat),k<(f.Blocks.getD i default).Ops.length->∀ acc:List D1,acc.length<=50000000->Ac (Gj f (i:Int) (k:Int) (Hg ((f.Blocks.getD i default).Ops.getD k default))) (acc,(0:Int))=some (acc++Q9 ((f.Blocks.getD i default).Ops.getD k default) i k):=λi hi k hk acc hacc=>by
  have hmem:=Ag (d:=(default:Ae)) hi;have hom:=Ag (d:=(default:TOp)) hk;have hlen:=Yo (j0 hf hmem hom)
  have:=My (Hg ((f.Blocks.getD i default).Ops.getD k default)).length 50000000 1 (λ(j:Nat)=>[(⟨((f.Blocks.getD i default).Ops.getD k default).Args.getD j 0,i,k,(Hg ((f.Blocks.getD i default).Ops.getD k default)).getD j (0,0)⟩:D1)]) (λ_ _=>zzL6 _) (Gj f (i:Int) (k:Int) (Hg ((f.Blocks.getD i default).Ops.getD k default))) (λacc j hj hA=>by
   unfold Gj
   have hd:decide ((j:Int)<((Hg ((f.Blocks.getD i default).Ops.getD k default)).length:Int))=true:=by simpa using hj
   simp only[C5,hd,Ah,Aa (Ai hk),Aa (Ai hj),Aa (Ai (Nat.lt_of_lt_of_le hj hlen.2)),A0 hj (by omega),Aa (hbig (n:=acc.length) (by omega) _)]) (λacc=>by unfold Gj;simp) (Hg ((f.Blocks.getD i default).Ops.getD k default)).length 0 acc (by omega) (by omega)
  rw[show(0:Int)=((0:Nat):Int) from rfl,this,Q9,Sl]
 have h4:∀(i:Nat),i<f.Blocks.length->∀ acc:List D1,acc.length<=40000000->Ac (Gk f (i:Int)) (acc,(0:Int))=some (acc++Sx (f.Blocks.getD i default) i):=λi hi acc hacc=>by
  have hmem:=Ag (d:=(default:Ae)) hi;have hB:=hf.block _ hmem
  have:=My (f.Blocks.getD i default).Ops.length 40000000 64 (λ(k:Nat)=>Q9 ((f.Blocks.getD i default).Ops.getD k default) i k) (λk hk=>by have:=MO ((f.Blocks.getD i default).Ops.getD k default) i k;have:=(Yo (j0 hf hmem (Ag (d:=(default:TOp)) hk))).1;omega) (Gk f (i:Int)) (λacc k hk hA=>by
   unfold Gk
   have hd:decide ((k:Int)<((f.Blocks.getD i default).Ops.length:Int))=true:=by simpa using hk
   have h5:=hB.ops;have h6:k*64<=512*64:=Ft _ (by omega);have ht:Hn ((f.Blocks.getD i default).Ops.getD k default)=some (Hg ((f.Blocks.getD i default).Ops.getD k default)):=mU _ (mO hf hmem (Ag (d:=(default:TOp)) hk))
   simp only[C5,hd,Ah,Aa (Ai hk),ht,An,h3 i hi k hk acc (by omega),A0 hk (by omega)]) (λacc=>by unfold Gk;simp) (f.Blocks.getD i default).Ops.length 0 acc (by omega) (by omega)
  rw[show(0:Int)=((0:Nat):Int) from rfl,this,Sx,Sl]
 have hb:=My f.Blocks.length 0 70000 (λ(i:Nat)=>ID f (f.Blocks.getD i default) i) (λi hi=>YO hf hi) (Iu f) (λacc i hi hA=>by
   unfold Iu
   have hd:decide ((i:Int)<(f.Blocks.length:Int))=true:=by simpa using hi
   have hmem:=Ag (d:=(default:Ae)) hi;have h64:=hf.blocks;have q1:i*70000<=64*70000:=Ft _ (by omega);have q2:=MP hf hmem;have q3:=SO hf hmem i;have e1:=h4 i hi (acc++Nc (f.Blocks.getD i default)) (by rw[Fe];omega)
   have l1:(acc++Nc (f.Blocks.getD i default)++Sx (f.Blocks.getD i default) i).length<=50000000:=by rw[Fe,Fe];omega
   simp only[hd,Ah,Aa (Ai hi),h2 i hi acc (by omega),An,e1,C5,Aa (hbig (n:=(acc++Nc (f.Blocks.getD i default)++Sx (f.Blocks.getD i default) i).length) (by omega) _),ID,Yq]
   cases(f.Blocks.getD i default).End.Kind==0 with
   | true=>
    simp only[Ah,An]
    cases(f.Blocks.getD i default).End.Kind==2 with
    | true=>rw[Aa (by rw[Fe];have:=hbig (n:=(acc++Nc (f.Blocks.getD i default)++Sx (f.Blocks.getD i default) i).length+1) (by omega) (default:D1);simpa using this)];simp[A0 hi (by omega:f.Blocks.length<9223372036854775808)]
    | false=>simp[A0 hi (by omega:f.Blocks.length<9223372036854775808)]
   | false=>
    simp only[Aw,An]
    cases(f.Blocks.getD i default).End.Kind==2 with
    | true=>rw[Ah,Aa (hbig (n:=(acc++Nc (f.Blocks.getD i default)++Sx (f.Blocks.getD i default) i).length) (by omega) _)];simp[A0 hi (by omega:f.Blocks.length<9223372036854775808)]
    | false=>simp[A0 hi (by omega:f.Blocks.length<9223372036854775808)]) (λacc=>by unfold Iu;simp) f.Blocks.length 0 [] (by omega) (by simp)
 unfold Kv;rw[show(0:Int)=((0:Nat):Int) from rfl,hb,An,Bf,Sl,Zc]
def gq(n:Nat)(l:List Int)(i:Nat):Bool:=decide ((if i=0 then(-1:Int) else l.getD (i-1) 0)<l.getD i 0)&&(decide (0<=l.getD i 0)&&decide (l.getD i 0<n))
def m8(n:Nat)(l:List Int):Bool:=(List.range l.length).all (gq n l)
def Ms(L:List (List Int)):Bool:=decide (1<=L.length)&&decide (L.length<=64)&&(List.range L.length).all λi=>m8 L.length (L.getD i [])
def Yz(L:List (List Int))(k i:Nat):Bool:=(L.getD k []).contains (i:Int)
def Kb(L:List (List Int))(m i:Nat):List Int:=((List.range m).filter λk=>Yz L k i).map Int.ofNat
def Do(L:List (List Int)):List (List Int):=(List.range L.length).map (Kb L L.length)
theorem Wk(a n:Int):Kd a n=some (decide (0<=a)&&decide (a<n)):=by
 unfold Kd
 cases decide (0<=a)<;>rfl
theorem XL(n:Nat):Mn (n:Int)=some (decide (1<=n)&&decide (n<=64)):=by
 unfold Mn
 have h1:decide ((1:Int)<=n)=decide (1<=n):=by grind
 have h2:decide (n<=(64:Int))=decide (n<=64):=by grind
 rw[h1,h2]
 cases decide (1<=n)<;>rfl
theorem SL(L:List (List Int))(i:Nat)(hl:(L.getD i []).length<4611686018427387904) :
  Ac (Hu L (i:Int)) ((-1:Int),(0:Int))=some (bif m8 L.length (L.getD i []) then .inl () else .inr false):=by
 refine Ia (Hu L i) (λj=>((if j=0 then -1 else(L.getD i []).getD (j-1) 0),(j:Nat))) _ _ _ _ (λj hj hp=>?_) (λj hj hp=>?_) ?_
 ·unfold gq at hp;simp only[A6,Gq]at hp;obtain⟨h1,h2,h3⟩:=hp;unfold Hu;simp only[Am,Bx hj, Wk];rw[Ad (Fv hj)]
  have e1:decide ((L.getD i []).getD j 0<=(if j=0 then -1 else(L.getD i []).getD (j-1) 0))=false:=by simpa using h1
  simp only[e1,Ci h2,Ci h3,     Dq];rw[w1 (show j<4611686018427387904 by omega)]
  simp
 ·unfold Hu;simp only[Am,Bx hj, Wk];rw[Ad (Fv hj)]
  cases h1:decide ((L.getD i []).getD j 0<=(if j=0 then -1 else(L.getD i []).getD _ 0)) with
  | true=>grind
  | false=>
   have h1':decide ((if j=0 then -1 else(L.getD i []).getD (j-1) 0)<(L.getD i []).getD j 0)=true:=by simpa using h1
   unfold gq at hp;rw[h1',Lj]at hp;simp only[Vg,Ah,Aw,An,hp,J9]
 ·unfold Hu;simp only[Am,C8,Aw]
def Fits(L:List (List Int)):Prop:=L.length<4611686018427387904/\∀ l∈L,l.length<4611686018427387904
theorem Fits.at{L:List (List Int)}(h:Fits L)(i:Nat):(L.getD i []).length<4611686018427387904:=by
 by_cases hi:i<L.length
 ·exact h.2 _ (Ag hi)
 ·grind
theorem mA(L:List (List Int))(h:Fits L):Pg L=some (Ms L):=by
 unfold Pg;rw[XL,An];unfold Ms
 cases hc:(decide (1<=L.length)&&decide (L.length<=64)) with
 | false=>rfl
 | true=>
  simp only[Dq,Aw,Lj];have:=Ia (Dv L) (λj=>((j:Nat):Int)) (λi=>m8 L.length (L.getD i [])) (.inl ()) (.inr false) L.length (λj hj hp=>?_) (λj hj hp=>?_) ?_
  ·rw[show Ac (Dv L) (0:Int)=_ from this]
   cases(List.range L.length).all λi=>m8 L.length (L.getD i [])<;>rfl
  ·show Dv L (j:Int)=_
   unfold Dv;simp only[Bx hj,Ah];rw[Ad (Fv hj),SL L j (h.at j),hp];simp only[Ah,An,w1 (show j<4611686018427387904 by have:=h.1;omega)]
  ·show Dv L (j:Int)=_
   unfold Dv;simp only[Bx hj,Ah];rw[Ad (Fv hj),SL L j (h.at j),hp]
   rfl
  ·show Dv L _=_
   unfold Dv;simp only[C8,Aw]
theorem Pa{α:Type}{n i:Nat}{g:Nat->α}{d:α}(h:i<n):((List.range n).map g).getD i d=g i:=by simp[ h]
theorem BZ{α:Type}{n i:Nat}{g:Nat->α}{x:α}:((List.range n).map g).set i x=(List.range n).map λj=>if j=i then x else g j:=by
 apply List.ext_getElem?
 intro j;rw[List.getElem?_set]
 by_cases hj:j<n
 ·grind
 ·grind
theorem Hp{α:Type}{n:Nat}{g h:Nat->α}(H:∀ i,i<n->g i=h i):(List.range n).map g=(List.range n).map h:=MR λi hi=>H i (zzL40.1 hi)
theorem mayS_iff{L:List (List Int)}:Ms L=true↔1<=L.length/\L.length<=64/\∀ i,i<L.length->m8 L.length (L.getD i [])=true:=by
 unfold Ms;rw[A6,A6,all_range];simp only[Gq];exact⟨λ⟨⟨a,b⟩,c⟩=>⟨a,b,c⟩,λ⟨a,b,c⟩=>⟨⟨a,b⟩,c⟩⟩
theorem okL_iff{n:Nat}{l:List Int}:m8 n l=true↔∀ i,i<l.length->(0<=l.getD i 0/\l.getD i 0<n)/\(0<i->l.getD (i-1) 0<l.getD i 0):=by
 unfold m8;rw[all_range];unfold gq;simp only[A6,Gq]
 constructor
 ·grind
 ·intro h i hi;obtain⟨⟨h2,h3⟩,h1⟩:=h i hi
  by_cases hz:i=0
  · omega
  ·grind
section
variable {n:Nat} {l:List Int} (h:m8 n l=true)
include h
theorem BD{i:Nat}(hi:i<l.length):0<=l.getD i 0/\l.getD i 0<n:=(okL_iff.1 h i hi).1
theorem pw{i j:Nat}(hij:i<j)(hj:j<l.length):l.getD i 0<l.getD j 0:=by
 induction j with
 | zero=>omega
 | succ j ih=>
  have h1:=(okL_iff.1 h _ hj).2 (by omega)
  by_cases he:i=j
  ·rw[he];exact h1
  ·grind
theorem xD{i:Nat}(hi:i<l.length):(i:Int)<=l.getD i 0:=by
 induction i with
 | zero=>exact(BD h hi).1
 | succ i ih=>
  have:=pw h (show i<i+1 by omega) hi;omega
theorem DM:l.length<=n:=by
 by_cases hz:l.length=0
 ·omega
 ·have h1:=xD h (show l.length-1<l.length by omega);have h2:=(BD h (show l.length-1<l.length by omega)).2;omega
theorem bE{x:Int}(hx:x∈l):0<=x/\x<n:=by
 obtain⟨i,hi,rfl⟩:=Fx hx;have:=BD h hi;rwa[Ab _ _ _ hi]at this
end
theorem xE{n:Nat}{l:List Int}(h1:∀ x∈l,0<=x/\x<n)(h2:l.Pairwise (·<·)):m8 n l=true:=by
 rw[okL_iff];intro i hi;rw[Ab _ _ _ hi];refine⟨h1 _ (KQ hi),λhp=>?_⟩;rw[Ab _ _ _ (show i-1<l.length by omega)];exact(zzL92.1 h2) _ _ _ _ (by omega)
theorem Tm{L:List (List Int)}(h:Ms L=true):L.length<=64/\∀ l∈L,l.length<=64:=by
 obtain⟨h1,h2,h3⟩:=mayS_iff.1 h;refine⟨h2,λl hl=>?_⟩;obtain⟨i,hi,rfl⟩:=Fx hl;have:=DM (h3 i hi);rw[Ab _ _ _ hi]at this;omega
theorem tM{L:List (List Int)}(h:L.length<=1000/\∀ l∈L,l.length<=1000):Fits L:=⟨by omega,λl hl=>by have:=h.2 l hl;omega⟩
theorem BO(L:List (List Int))(k i:Nat):Kb L (k+1) i=Kb L k i++(if Yz L k i=true then[(k:Int)] else[]):=by
 unfold Kb;rw[Xb,W5];cases hg:Yz L k i<;>simp[hg]
theorem Yh(L:List (List Int))(k i:Nat):(Kb L k i).length<=k:=by
 unfold Kb;have:=List.length_filter_le (λk=>Yz L k i) (List.range k)
 simpa using this
theorem WY{l:List Int}{j:Nat}(hj:j<l.length):l.take (j+1)=l.take j++[l.getD j 0]:=by
 simp_all
def Vt(L:List (List Int))(k j i:Nat):Bool:=((L.getD k []).take j).contains (i:Int)
def Oy(L:List (List Int))(k j:Nat):List (List Int):=(List.range L.length).map λi=>Kb L k i++(if Vt L k j i=true then[(k:Int)] else[])
theorem ck(L:List (List Int))(h:Ms L=true)(k j:Nat)(hk:k<L.length)(hj:j<(L.getD k []).length) :
  (Oy L k j).set ((L.getD k []).getD j 0).toNat ((Oy L k j).getD ((L.getD k []).getD j 0).toNat []++[(k:Int)])=Oy L k (j+1):=by
 obtain⟨h1,h2,h3⟩:=mayS_iff.1 h;have hok:=h3 k hk;obtain⟨a0,a1⟩:=BD hok hj;unfold Oy;rw[Pa (by omega),BZ]
 apply Hp
 intro i hi
 have hnot:Vt L k j ((L.getD k []).getD j 0).toNat=false:=by
  unfold Vt;rw[Za a0]
  cases hc:((L.getD k []).take j).contains _ with
  | false=>rfl
  | true=>
   rw[zzL64]at hc;obtain⟨m,hm,he⟩:=Fx hc
   have hm':m<j:=by simp at hm;omega
   rw[List.getElem_take]at he;have:=pw hok hm' hj;rw[Ab _ _ _ (show m<(L.getD k []).length by omega)]at this;omega
 by_cases hi2:i=((L.getD k []).getD j 0).toNat
 ·rw[ hnot]
  have:Vt L k (j+1) i=true:=by
   unfold Vt;rw[WY hj, hi2,Za a0]
   simp
  rw[this,hi2]
  simp
 ·rw[if_neg hi2]
  have:Vt L k (j+1) i=Vt L k j i:=by
   unfold Vt;rw[WY hj,W9,zzL64,zzL64,zzL11]
   constructor
   ·grind
   ·exact .inl
  rw[this]
theorem dP(L:List (List Int))(h:Ms L=true):Ns L=some (Do L):=by
 obtain⟨h1,h2,h3⟩:=mayS_iff.1 h
 have hroom:(1000:Nat)<=room:=by decide
 unfold Ns;rw[Ad ⟨by omega,Int.le_refl _,by omega⟩,Am]
 have inner:∀ k,k<L.length->Ac _ ((0:Int),Oy L k 0)=some (Oy L k (L.getD k []).length):=λk hk=>by
  have hok:=h3 k hk;refine Ek (M7 L (k:Int)) (λj=>(((j:Nat):Int),Oy L k j)) _ (L.getD k []).length (λj hj=>?_) ?_
  ·obtain⟨a0,a1⟩:=BD hok hj
   have hlen:(Oy L k j).length=L.length:=by simp[Oy]
   have hl64:=DM hok;unfold M7;simp only[Am,Bx hj,Ah];have hb:A1 ((L.getD k []).getD j 0) (Oy L k j).length:=⟨a0,by rw[hlen];exact a1⟩
   have hrow:((Oy L k j).getD ((L.getD k []).getD j 0).toNat []).length<=k+1:=by
    unfold Oy;rw[Pa (by omega),Fe];have:=Yh L k ((L.getD k []).getD j 0).toNat
    split
    ·rw[ES];omega
    ·rw[List.length_nil];omega
   rw[Ad (Fv hj),Ad hb,Ad hb,Ad (by grind),Ad hb,ck L h k j hk hj,w1 (by omega)]
  ·unfold M7;simp only[Am,C8,Aw]
 have r0:∀ k,Oy L k 0=(List.range L.length).map (Kb L k):=λk=>by
  unfold Oy
  apply Hp
  intro i _;simp[Vt]
 have r1:∀ k,Oy L k (L.getD k []).length=(List.range L.length).map (Kb L (k+1)):=λk=>by
  unfold Oy
  apply Hp
  intro i _;rw[BO];unfold Vt Yz;rw[W7]
 have:Ac (Kn L) ((0:Int),(List.range L.length).map (Kb L 0))=some (Do L):=Ek (Kn L) (λk=>(((k:Nat):Int),(List.range L.length).map (Kb L k))) (Do L) L.length (λk hk=>?_) ?_
 ·have e0:(List.replicate L.length ([]:List Int))=(List.range L.length).map (Kb L 0):=by
   apply List.ext_getElem?
   intro i
   by_cases hi:i<L.length<;>simp[hi,List.getElem?_replicate,Kb]
  rw[e0,this];rfl
 ·unfold Kn;simp only[Bx hk,Ah];rw[Ad (Fv hk),<- r0,inner k hk,r1,w1 (by omega)]
  rfl
 ·unfold Kn;simp only[C8,Aw]
  rfl
theorem Ur{α:Type}[DecidableEq α]{a b:List α}{d:α}(h:a.length=b.length):((List.range a.length).all λi=>decide (a.getD i d=b.getD i d))=decide (a=b):=by
 rw[W9,all_range,Gq]
 constructor
 ·intro hall
  apply CI h
  intro i h1 h2;have:=KP (hall i h1);rwa[Ab _ _ _ h1,Ab _ _ _ h2]at this
 ·rintro rfl i _
  simp
theorem HK{a b:Nat}:(((a:Nat):Int)!=(b:Int))=decide (a≠b):=by
 grind
theorem ah{a b:Int}:(a !=b) = !decide (a=b):=by
 grind
theorem aq(a b:List Int)(hb:b.length<4611686018427387904):G2 a b=some (decide (a=b)):=by
 unfold G2;rw[HK]
 by_cases hl:a.length=b.length
 ·rw[Ch (by simpa using hl)];have:Ac (E4 a b) 0=_:=Ia _ (λj=>(j:Int)) (λi=>decide (a.getD i 0=b.getD i 0)) (.inl ()) (.inr false) a.length (λj hj hp=>?_) (λj hj hp=>?_) ?_
  ·rw[this,Ur hl]
   cases decide (a=b)<;>rfl
  ·unfold E4;simp only[Am,Bx hj];rw[Ad (Fv hj),Ad (Fv (by omega)),ah,hp,w1 (by omega)]
   rfl
  ·unfold E4;simp only[Am,Bx hj];rw[Ad (Fv hj),Ad (Fv (by omega)),ah,hp]
   rfl
  ·unfold E4;simp only[C8,Aw]
 ·rw[Ci (by simpa using hl),Ah,Ch (λh=>hl (by rw[h]))]
theorem ga(a b:List Int)(ha:a.length<4611686018427387904):Bb a b=some (decide (a=b)):=by
 unfold Bb;rw[HK]
 by_cases hl:a.length=b.length
 ·rw[Ch (by simpa using hl)];have:Ac _ (0:Int)=_:=Ia (B1 a b) (λj=>(j:Nat)) (λi=>decide (a.getD i 0=b.getD i 0)) (.inl ()) (.inr false) a.length (λj hj hp=>?_) (λj hj hp=>?_) ?_
  ·rw[this,Ur hl]
   cases decide (a=b)<;>rfl
  ·unfold B1;simp only[Am,Bx hj];rw[Ad (Fv hj),Ad (Fv (by omega)),ah,hp,w1 (by omega)]
   rfl
  ·unfold B1;simp only[Am,Bx hj];rw[Ad (Fv hj),Ad (Fv (by omega)),ah,hp]
   rfl
  ·unfold B1;simp only[C8,Aw]
 ·rw[Ci (by simpa using hl),Ah,Ch (λh=>hl (by rw[h]))]
theorem dQ(a b:List (List Int))(hb:Fits b):Dw a b=some (decide (a=b)):=by
 unfold Dw;rw[HK]
 by_cases hl:a.length=b.length
 ·rw[Ch (by simpa using hl)];have hb1:=hb.1;have:Ac _ (0:Int)=_:=Ia (B4 a b) (λj=>(j:Nat)) (λi=>decide (a.getD i []=b.getD i [])) (.inl ()) (.inr false) a.length (λj hj hp=>?_) (λj hj hp=>?_) ?_
  ·rw[this,Ur hl]
   cases decide (a=b)<;>rfl
  ·unfold B4;simp only[Am,Bx hj];rw[Ad (Fv hj),Ad (Fv (by omega)),aq _ _ (hb.at j),hp,w1 (by omega)]
   rfl
  ·unfold B4;simp only[Am,Bx hj];rw[Ad (Fv hj),Ad (Fv (by omega)),aq _ _ (hb.at j),hp]
   rfl
  ·unfold B4;simp only[C8,Aw]
 ·rw[Ci (by simpa using hl),Ah,Ch (λh=>hl (by rw[h]))]
theorem Ps(L:List (List Int)):(Do L).length=L.length:=by simp[Do]
theorem DO{L:List (List Int)}{i:Nat}(hi:i<L.length):(Do L).getD i []=Kb L L.length i:=by unfold Do;rw[Pa hi]
theorem Yi{L:List (List Int)}(h:Ms L=true):(Do L).length<=64/\∀ l∈Do L,l.length<=64:=by
 obtain⟨h1,_⟩:=Tm h;refine⟨by rw[Ps];exact h1,λl hl=>?_⟩;obtain⟨i,hi,rfl⟩:=zzL21.1 hl;have:=Yh L L.length i;omega
theorem Uc{L:List (List Int)}(h:L.length<=64/\∀ l∈L,l.length<=64):Fits L:=tM ⟨by omega,λl hl=>by have:=h.2 l hl;omega⟩
def DY(g:TGraph):Bool:=Ms g.Succ&&decide (g.Pred=Do g.Succ)
theorem vH(g:TGraph)(h:Fits g.Succ):Uv g=some (DY g):=by
 unfold Uv DY;rw[mA _ h]
 cases hm:Ms _ with
 | false=>rfl
 | true=>
  simp only[Vg,Ah,dP _ hm,An,dQ _ _ (Uc (Yi hm)),Lj]
def Kh(L:List (List Int)):TGraph:=⟨L,Do L⟩
def g0:TGraph:=⟨[],[]⟩
theorem QV{L:List (List Int)}(h:Ms L=true):DY (Kh L)=true:=by simp[DY,Kh,h]
theorem pj(l:List Int)(x:Int)(h:l.length<4611686018427387904):Ha l x=some (l.contains x):=by
 unfold Ha;have:Ac _ (0:Int)=_:=Ia (G1 l x) (λj=>(j:Nat)) (λi=>!decide (l.getD i 0=x)) (.inl ()) (.inr true) l.length (λj hj hp=>?_) (λj hj hp=>?_) ?_
 ·rw[this]
  have e:l.contains x = !((List.range l.length).all λi=>!decide (l.getD i 0=x)):=by
   rw[W9,zzL64,Zb,<- Bool.not_eq_true,all_range]
   constructor
   ·intro hx hall;obtain⟨i,hi,rfl⟩:=Fx hx;have:=hall i hi;rw[Ab _ _ _ hi]at this;simp at this
   ·grind
  rw[e]
  cases(List.range _).all _<;>rfl
 ·unfold G1;simp only[Am,Bx hj]
  have:(l.getD j 0==x)=false:=by simpa using hp
  rw[Ad (Fv hj),this,w1 (by omega)]
  rfl
 ·unfold G1;simp only[Am,Bx hj]
  have:(l.getD j 0==x)=true:=by simpa using hp
  rw[Ad (Fv hj),this]
  rfl
 ·unfold G1;simp only[C8,Aw]
theorem YH{X:Type}(a b:List (List Int))(f:Int->Option (LR Int (Unit ⊕ Bool)))(ha:Fits a)(hl:a.length=b.length)
  (hn:∀ i:Nat,i<a.length->f (i:Int)=(Bb (a.getD i []) (b.getD i [])).bind λx=>bif (!x) then some (.done (.inr false)) else some (.next (w64 ((i:Int)+1)))) (he:f (a.length:Int)=some (.done (.inl ()))) :
  Ac f (0:Int)=some (bif decide (a=b) then .inl () else .inr false):=by
 have ha1:=ha.1;have:Ac f 0=_:=Ia f (λj=>(j:Int)) (λi=>decide (a.getD i []=b.getD i [])) _ (.inr false) _ (λj hj hp=>?_) (λj hj hp=>?_) he
 ·rw[this,Ur hl]
 ·rw[hn j hj,ga _ _ (ha.at j),hp,w1 (by omega)];rfl
 ·rw[hn j hj,ga _ _ (ha.at j),hp];rfl
theorem w8(a b:TGraph)(h1:Fits a.Succ)(h2:Fits a.Pred):Kr a b=some (decide (a=b)):=by
 have e:decide (a=b)=(decide (a.Succ=b.Succ)&&decide (a.Pred=b.Pred)):=by
  cases a;cases b
  simp
 rw[e];unfold Kr;rw[HK,HK]
 by_cases hs:a.Succ.length=b.Succ.length
 ·by_cases hp:a.Pred.length=b.Pred.length
  ·rw[Ch (by simpa using hs), Ch (by simpa using hp)]
   have s1:=YH (X:=Unit) _ _ (Il a b) h1 hs (λi hi=>by
    unfold Il;simp only[Am,Bx hi,Ah]
    rw[Ad (Fv hi),Ad (Fv (by omega))]) (by
    unfold Il
    simp only[C8,Aw])
   have s2:=YH (X:=Unit) _ _ (Im a b) h2 hp (λi hi=>by
    unfold Im;simp only[Am,Bx hi,Ah]
    rw[Ad (Fv hi),Ad (Fv (by omega))]) (by
    unfold Im
    simp only[C8,Aw])
   rw[s1]
   cases decide (a.Succ=b.Succ) with
   | false=>rfl
   | true=>
    grind
  ·grind
 ·grind
theorem M6{R:Type}{c:Bool}{q:Prop}[Decidable q]{k:Option R}(h:q):Az (c=true->q) k=k:=Ad λ_=>h
def oW(n:Nat)(l:List Int)(j:Nat):Bool:=
 bif (bif decide (l.getD j 0<0) then true else decide ((n:Int)<=l.getD j 0)) then true else(bif decide ((0:Int)<(j:Int)) then decide (l.getD j 0<=l.getD (j-1) 0) else false)
theorem oX(n:Nat)(l:List Int)(j:Nat):oW n l j = !gq n l j:=by
 unfold oW gq
 by_cases h0:l.getD j 0<0
 ·grind
 ·grind
theorem ME(L:List (List Int))(i:Nat)(hi:i<L.length)(hl:(L.getD i []).length<4611686018427387904) :
  Ac (Ed L (i:Int)) (0:Int)=some (bif m8 L.length (L.getD i []) then .inl () else .inr (g0,5)):=by
 have hw:∀ j:Nat,j<(L.getD i []).length->0<j->w64 (j-1)=(j-1:Nat):=λj hj hp=>by rw[Hh (by omega) (by omega)];omega
 have step:∀ j,j<(L.getD i []).length->Ed L i j=bif oW _ _ j then some _ else some (.next ((j+1:Nat))):=λj hj=>by
  unfold Ed;simp only[Am,Bx hj];rw[Ad (Fv hi),Ad (Fv hi),Ad (Fv hj),M6 (Fv hi),M6 (Fv hj),M6 (Fv hi),M6 (Fv hj),M6 (Fv hi),w1 (by omega)]
  by_cases hz:j=0
  ·subst hz
   have:decide (0<((0:Nat):Int))=false:=by decide
   rw[this];rw[show((false==true)=false) from rfl,Bool.and_false]
   rfl
  ·rw[hw j hj (by omega),M6 (Fv (by omega))]
   rfl
 have:=Ia (Ed L i) (λj=>(j:Nat)) (gq L.length (L.getD i [])) (.inl ()) (.inr (g0,5)) (L.getD i []).length (λj hj hp=>?_) (λj hj hp=>?_) ?_
 ·exact this
 ·rw[step j hj,oX,hp];rfl
 ·rw[step j hj,oX,hp];rfl
 ·unfold Ed;simp only[Am,C8,Aw];rw[Ad (Fv hi)]
theorem VV(L:List (List Int))(h:Ms L=true):Ac (Ee L) ((0:Int),List.replicate L.length ([]:List Int))=some (Do L):=by
 obtain⟨h1,h2,h3⟩:=mayS_iff.1 h
 have hroom:(1000:Nat)<=room:=by decide
 have hfit:=Uc (Tm h)
 let R:Nat->Nat->List (List Int):=λi k=>(List.range L.length).map λj=>if j<i then Kb L L.length j else if j=i then Kb L k i else[]
 have inner:∀ i,i<L.length->Ac _ ((0:Int),R i 0)=some (R i L.length):=λi hi=>by
  refine Ek (Ik L (i:Int)) (λk=>(((k:Nat):Int),R i k)) (R i L.length) L.length (λk hk=>?_) ?_
  ·have hlen:(R i k).length=L.length:=by simp[R]
   have hat:(R i k).getD i []=Kb L k i:=by simp only[R];rw[Pa hi];simp
   unfold Ik;simp only[Am,Bx hk,Ah];rw[Ad (Fv hk),pj _ _ (hfit.at k),An,w1 (by omega)];have hg:Yz L k i=(L.getD k []).contains (i:Int):=rfl;rw[<- hg,hat]
   have hs:(if Yz L k i=true then(R i k).set i (Kb L k i++[(k:Int)]) else R i k)=R i (k+1):=by
    split
    ·rename_i hgo
     simp only[R];rw[BZ]
     apply Hp
     intro j hj
     by_cases hji:j=i
     ·subst hji;simp[BO,hgo]
     ·simp[hji]
    ·rename_i hgo
     simp only[R]
     apply Hp
     intro j hj
     by_cases hji:j=i
     ·subst hji;simp[BO,hgo]
     ·simp[hji]
   rw[<- hs]
   cases hgo:Yz L k i with
   | false=>rfl
   | true=>
    have:=Yh L k i;simp only[Ah];rw[Ad (by rw[hlen];exact Fv hi),Ad (by rw[hlen];exact Fv hi),Ad (by rw[ES];omega),Ad (by rw[hlen];exact Fv hi)]
    rfl
  ·unfold Ik;simp only[C8,Aw]
 have:Ac (Ee L) ((0:Int),R 0 0)=some (Do L):=Ek (Ee L) (λi=>(((i:Nat):Int),R i 0)) (Do L) L.length (λi hi=>?_) ?_
 ·have e0:List.replicate L.length ([]:List Int)=R 0 0:=by
   simp only[R]
   apply List.ext_getElem?
   intro j
   by_cases hj:j<L.length<;>simp[hj,List.getElem?_replicate,Kb]
  rw[e0,this]
 ·unfold Ee;simp only[Bx hi,Ah];rw[inner i hi,w1 (by omega)];simp only[An]
  congr 3
  simp only[R]
  apply Hp
  intro j hj
  by_cases h4:j<i
  ·simp[h4,show j<i+1 by omega]
  ·by_cases h5:j=i
   ·subst h5;simp
   ·simp[h4,h5,show ¬ j<i+1 by omega];intro h6;simp[Kb]
 ·unfold Ee;simp only[C8,Aw]
  congr 2
  simp only[R,Do]
  apply Hp
  intro j hj;simp[hj]
theorem QQ(L:List (List Int))(h:Fits L):H5 L=some (bif Ms L then(Kh L,0) else(g0,5)):=by
 have hroom:1000<=room:=by decide
 unfold H5
 have hc:(bif (L.length==(0:Int)) then true else decide (64<(L.length:Int))) = !(decide (1<=L.length)&&decide (L.length<=64)):=by
  grind
 rw[hc];have hm:Ms L=((decide _&&decide _)&&(List.range _).all _):=rfl
 cases hb:(decide (1<=L.length)&&decide (L.length<=64)) with
 | false=>rw[hm,hb];rfl
 | true=>
  have hb':=hb;simp only[A6,Gq]at hb';have:Ac (Gc L) 0=_:=Ia _ (λj=>(j:Int)) (λi=>m8 L.length (L.getD i [])) (.inl ()) (.inr (g0,5)) L.length (λj hj hp=>?_) (λj hj hp=>?_) ?_
  ·rw[this]
   cases hall:(List.range L.length).all _ with
   | false=>rw[hm,hb,hall];rfl
   | true=>
    have hmay:Ms L=true:=by rw[hm,hb,hall];rfl
    rw[hmay];rw[Ad ⟨by omega,Int.le_refl _,by omega⟩,Am,VV L hmay]
    rfl
  ·unfold Gc;simp only[Bx hj];rw[ME L j hj (h.at j),hp,w1 (by omega)]
   rfl
  ·unfold Gc;simp only[Bx hj];rw[ME L j hj (h.at j),hp]
   rfl
  ·unfold Gc;simp only[C8,Aw]
theorem HF{L:List (List Int)}(h:Ms L=true):Fits (Kh L).Succ/\Fits (Kh L).Pred:=⟨Uc (Tm h),Uc (Yi h)⟩
theorem lw(g:TGraph)(h:Fits g.Succ):Lr g=some (DY g):=by
 unfold Lr DY;rw[QQ _ h,An]
 cases hm:Ms _ with
 | false=>rfl
 | true=>
  simp only[Ah,Vg];rw[w8 _ _ (HF hm).1 (HF hm).2];simp only[An]
  congr 1
  apply zzL78.2
  cases g with
  | mk s p=>
   simp only[Kh,TGraph.mk.injEq,true_and];exact Sz
noncomputable section
def upd(s:Nat->Bool)(y:Nat):Nat->Bool:=λz=>decide (z=y) || s z
theorem upd_true{s:Nat->Bool}{y z:Nat}:upd s y z=true↔z=y\/s z=true:=by simp[upd]
theorem upd_false{s:Nat->Bool}{y z:Nat}:upd s y z=false↔z≠y/\s z=false:=by simp[upd]
inductive VL (S:Nat->List Nat):(Nat->Bool)->List Nat->(Nat->Bool)->List Nat->Prop
 | nil (s:Nat->Bool):VL S s [] s []
 | skip {s s':Nat->Bool} {y:Nat} {l o:List Nat} (h:s y=true) (t:VL S s l s' o):VL S s (y::l) s' o
 | step {s s1 s2:Nat->Bool} {y:Nat} {l o1 o2:List Nat} (h:s y=false) (a:VL S (upd s y) (S y) s1 o1) (b:VL S s1 l s2 o2):VL S s (y::l) s2 (o1++y::o2)
inductive Rch (S:Nat->List Nat):Nat->Nat->Prop
 | refl (x:Nat):Rch S x x
 | head {x y z:Nat} (h:y∈S x) (t:Rch S y z):Rch S x z
theorem Rch.tail{S:Nat->List Nat}{x y z:Nat}(h:Rch S x y)(hz:z∈S y):Rch S x z:=by
 induction h with
 | refl x=>exact .head hz (.refl _)
 | head h _ ih=>exact .head h (ih hz)
theorem Rch.trans{S:Nat->List Nat}{x y z:Nat}(h:Rch S x y)(k:Rch S y z):Rch S x z:=by
 induction h with
 | refl x=>exact k
 | head h _ ih=>exact .head h (ih k)
variable {S:Nat->List Nat} {s s':Nat->Bool} {l o:List Nat}
theorem VL.seen(h:VL S s l s' o)(z:Nat):s' z=true↔s z=true\/z∈o:=by
 induction h with
 | nil s=>simp
 | skip h _ ih=>exact ih
 | @step s s1 s2 y l o1 o2 h a b iha ihb=>
  rw[ihb,iha,upd_true]
  constructor
  ·grind
  ·grind
theorem VL.fresh(h:VL S s l s' o){z:Nat}(hz:z∈o):s z=false:=by
 induction h with
 | nil s=>cases hz
 | skip h _ ih=>exact ih hz
 | @step s s1 s2 y l o1 o2 h a b iha ihb=>
  rcases zzL11.1 hz with h1|h1
  ·exact(upd_false.1 (iha h1)).2
  ·rcases zzL34.1 h1 with rfl|h1
   ·exact h
   ·have:=ihb h1
    cases hs:s z with
    | false=>rfl
    | true=>rw[(a.seen z).2 (.inl (upd_true.2 (.inr hs)))]at this;cases this
theorem VL.nodup(h:VL S s l s' o):o.Nodup:=by
 induction h with
 | nil s=>exact List.nodup_nil
 | skip h _ ih=>exact ih
 | @step s s1 s2 y l o1 o2 h a b iha ihb=>
  rw[List.nodup_append];refine⟨iha,zzL112.2 ⟨λhy=>?_,ihb⟩,λu hu v hv=>?_⟩
  ·have:=b.fresh hy;rw[(a.seen y).2 (.inl (upd_true.2 (.inl rfl)))]at this
   cases this
  ·rintro rfl;rcases zzL34.1 hv with rfl|hv
   ·have:=a.fresh hu;rw[upd_true.2 (.inl rfl)]at this
    cases this
   ·have:=b.fresh hv;rw[(a.seen u).2 (.inr hu)]at this
    cases this
theorem VL.rch(h:VL S s l s' o){z:Nat}(hz:z∈o):∃ y∈l,Rch S y z:=by
 induction h with
 | nil s=>cases hz
 | skip h _ ih=>grind
 | @step s s1 s2 y l o1 o2 h a b iha ihb=>
  rcases zzL11.1 hz with h1|h1
  ·obtain⟨u,hu,hr⟩:=iha h1;exact⟨y,zzL53 ..,.head hu hr⟩
  ·rcases zzL34.1 h1 with rfl|h1
   ·exact⟨z,zzL53 ..,.refl z⟩
   ·grind
theorem VL.closed(h:VL S s l s' o):(∀ y∈l,s' y=true)/\∀ z∈o,∀ y∈S z,s' y=true:=by
 induction h with
 | nil s=>grind
 | @skip s s' y l o h t ih=>
  refine⟨λu hu=>?_,ih.2⟩;rcases zzL34.1 hu with rfl|hu
  ·exact(t.seen u).2 (.inl h)
  ·exact ih.1 u hu
 | @step s s1 s2 y l o1 o2 h a b iha ihb=>
  refine⟨λu hu=>?_,λz hz u hu=>?_⟩
  ·rcases zzL34.1 hu with rfl|hu
   ·exact(b.seen u).2 (.inl ((a.seen u).2 (.inl (upd_true.2 (.inl rfl)))))
   ·exact ihb.1 u hu
  ·rcases zzL11.1 hz with h1|h1
   ·exact(b.seen u).2 (.inl (iha.2 z h1 u hu))
   ·rcases zzL34.1 h1 with rfl|h1
    ·exact(b.seen u).2 (.inl (iha.1 u hu))
    ·exact ihb.2 z h1 u hu
theorem VL.above(h:VL S s l s' o)(hf:∀ z,∀ y∈S z,z<y){b:Nat}(hb:∀ y∈l,b<y):∀ z∈o,b<z:=by
 induction h generalizing b with
 | nil s=>intro z hz;cases hz
 | skip h _ ih=>exact ih (λy hy=>hb y (Ob _ hy))
 | @step s s1 s2 y l o1 o2 h a c iha ihb=>
  intro z hz;have hy:=hb y (zzL53 ..);rcases zzL11.1 hz with h1|h1
  ·exact iha (λu hu=>Nat.lt_trans hy (hf y u hu)) z h1
  ·rcases zzL34.1 h1 with rfl|h1
   ·exact hy
   ·exact ihb (λu hu=>hb u (Ob _ hu)) z h1
theorem VL.ahead(h:VL S s l s' o)(hf:∀ z,∀ y∈S z,z<y):∀ z∈o,∀ y∈S z,s y=true\/∃ A B,o=A++z::B/\y∈A:=by
 induction h with
 | nil s=>intro z hz;cases hz
 | skip h _ ih=>exact ih
 | @step s s1 s2 y l o1 o2 h a c iha ihb=>
  intro z hz u hu;rcases zzL11.1 hz with h1|h1
  ·have hzy :=a.above hf (λv hv=>hf y v hv) z h1;have hzu:=hf z u hu;rcases iha z h1 u hu with h2|⟨A,B,rfl,hA⟩
   ·rcases upd_true.1 h2 with rfl|h2
    ·omega
    ·exact .inl h2
   ·grind
  ·rcases zzL34.1 h1 with rfl|h1z
   ·have hzu:=hf z u hu;rcases(a.seen u).1 (a.closed.1 u hu) with h2|h2
    ·rcases upd_true.1 h2 with rfl|h2
     ·omega
     ·exact .inl h2
    ·grind
   ·rcases ihb z h1z u hu with h2|⟨A,B,rfl,hA⟩
    ·rcases(a.seen u).1 h2 with h3|h3
     ·rcases upd_true.1 h3 with rfl|h3
      ·obtain⟨P,Q,rfl⟩:=List.append_of_mem h1z;exact .inr ⟨o1++u::P,Q,by simp,by simp⟩
      ·exact .inl h3
     ·obtain⟨P,Q,rfl⟩:=List.append_of_mem h1z;exact .inr ⟨o1++y::P,Q,by simp,by simp[h3]⟩
    ·grind
def cg(n:Nat)(s:Nat->Bool):Nat:=((List.range n).filter λz=>!s z).length
theorem CY{n:Nat}{s:Nat->Bool}{y:Nat}(hy:y<n)(h:s y=false):cg n (upd s y)+1=cg n s:=by
 unfold cg
 induction n with
 | zero=>omega
 | succ n ih=>
  rw[Xb,W5,W5,Fe,Fe]
  by_cases hyn:y=n
  ·subst hyn
   have e:(List.range y).filter (λz=>!upd s y z)=(List.range y).filter (λz=>!s z):=by
    apply List.filter_congr
    intro z hz;have:=zzL40.1 hz;simp[upd,show z≠y by omega]
   rw[e];simp[upd,h]
  ·have e:([n].filter λz=>!upd s y z).length=([n].filter λz=>!s z).length:=by
    simp only[List.filter_cons, upd];simp[Ra hyn]
   omega
theorem cj{n:Nat}{s s':Nat->Bool}(h:∀ z,s z=true->s' z=true):cg n s'<=cg n s:=by
 apply List.Sublist.length_le
 have:(List.range n).filter (λz=>!s' z)=((List.range n).filter λz=>!s z).filter λz=>!s' z:=by
  rw[List.filter_filter]
  apply List.filter_congr
  intro z _
  cases hs:s z with
  | false=>simp
  | true=>simp[h z hs]
 rw[this];exact List.filter_sublist
theorem VL.exist{n:Nat}(hS:∀ z,z<n->∀ y∈S z,y<n):∀(m:Nat) (s:Nat->Bool),cg n s<=m->∀ l:List Nat,(∀ y∈l,y<n)->∃ s' o,VL S s l s' o:=by
 intro m
 induction m with
 | zero=>
  intro s hm l
  induction l with
  | nil=>intro _;exact⟨s,[],.nil s⟩
  | cons y l ih=>
   intro hl;obtain⟨s',o,h⟩:=ih (λz hz=>hl z (Ob _ hz))
   cases hy:s y with
   | true=>exact⟨s',o,.skip hy h⟩
   | false=>have:=CY (hl y (zzL53 ..)) hy;omega
 | succ m ih=>
  intro s hm l
  induction l generalizing s with
  | nil=>intro _;exact⟨s,[],.nil s⟩
  | cons y l ihl=>
   intro hl
   cases hy:s y with
   | true=>
    obtain⟨s',o,h⟩:=ihl s hm (λz hz=>hl z (Ob _ hz));exact⟨s',o,.skip hy h⟩
   | false=>
    have hyn:=hl y (zzL53 ..);have:=CY hyn hy;obtain⟨s1,o1,h1⟩:=ih (upd s y) (by omega) _ (hS y hyn);have h2:cg n s1<=cg n s:=cj λz hz=>(h1.seen z).2 (.inl (upd_true.2 (.inr hz)));obtain⟨s2,o2,h3⟩:=ihl s1 (by omega) (λz hz=>hl z (Ob _ hz));exact⟨s2,_,.step hy h1 h3⟩
def one(r:Nat):Nat->Bool:=λz=>decide (z=r)
def Ord(S:Nat->List Nat)(r:Nat)(L:List Nat):Prop:=∃ s' o,VL S (one r) (S r) s' o/\L=r::o.reverse
theorem Ord.exist{n:Nat}(hS:∀ z,z<n->∀ y∈S z,y<n){r:Nat}(hr:r<n):∃ L,Ord S r L:=by
 obtain⟨s',o,h⟩:=VL.exist hS _ _ (zzL6 _) _ (hS r hr);exact⟨_,s',o,h,rfl⟩
theorem Ord.mem{r:Nat}{L:List Nat}(h:Ord S r L)(z:Nat):z∈L↔Rch S r z:=by
 obtain⟨s',o,h,rfl⟩:=h
 have hs:∀ z,s' z=true↔z=r\/z∈o:=λz=>by rw[h.seen];simp[one]
 have hc:∀ x,s' x=true->∀ y∈S x,s' y=true:=λx hx y hy=>by
  rcases(hs x).1 hx with rfl|hx
  ·exact h.closed.1 y hy
  ·exact h.closed.2 x hx y hy
 simp only[zzL34,List.mem_reverse];rw[<- hs z]
 constructor
 ·intro hz;rcases(hs z).1 hz with rfl|hz
  ·exact .refl _
  ·obtain⟨y,hy,hr⟩:=h.rch hz;exact .head hy hr
 ·intro hr
  have key:∀ x z,Rch S x z->s' x=true->s' z=true:=by
   intro x z hxz
   induction hxz with
   | refl x=>exact id
   | head hy _ ih=>grind
  exact key r z hr ((hs r).2 (.inl rfl))
theorem Ord.nodup{r:Nat}{L:List Nat}(h:Ord S r L):L.Nodup:=by
 obtain⟨s',o,h,rfl⟩:=h;refine zzL112.2 ⟨λhr=>?_,(List.reverse_perm o).nodup_iff.2 h.nodup⟩;have:=h.fresh (List.mem_reverse.1 hr);simp[one]at this
theorem Ord.fwd{r:Nat}{L:List Nat}(h:Ord S r L)(hf:∀ z,∀ y∈S z,z<y):∀ z∈L,∀ y∈S z,∃ A B,L=A++z::B/\y∈B:=by
 obtain⟨s',o,h,rfl⟩:=h;intro z hz y hy;have hzy:=hf z y hy;rcases zzL34.1 hz with rfl|hz
 ·refine⟨[],o.reverse,rfl,?_⟩;rcases(h.seen y).1 (h.closed.1 y hy) with h1|h1
  ·simp[one]at h1;omega
  ·grind
 ·have hz:=List.mem_reverse.1 hz;have hrz :=h.above hf (λv hv=>hf r v hv) z hz;rcases h.ahead hf z hz y hy with h1|⟨A,B,rfl,hA⟩
  ·simp[one]at h1;omega
  ·grind
end
theorem lx(l:List Int)(hl:l.length<4611686018427387904):Fq l=some l.reverse:=by
 unfold Fq
 by_cases h0:l.length=0
 ·obtain rfl:l=[]:=zzL94.1 h0
  have:Ac Bk ((0:Int),(w64 ((([]:List Int).length:Int)-1)),([]:List Int))=some []:=by
   apply Ak
   unfold Bk;rw[Hh (by simp) (by simp)]
   rfl
  rw[this];rfl
 ·have hw:w64 ((l.length:Int)-1)=((l.length-1:Nat):Int):=by rw[Hh (by omega) (by omega)];omega
  rw[hw]
  let C:Nat->List Int:=λk=>(List.range l.length).map λi=>if i<k\/l.length-1-k<i then l.getD (l.length-1-i) 0 else l.getD i 0
  have hC:∀ k i,i<l.length->(C k).getD i 0=if i<k\/l.length-1-k<i then l.getD (l.length-1-i) 0 else l.getD i 0:=λk i hi=>by simp only[C];rw[Pa hi]
  have hlen:∀ k,(C k).length=l.length:=λk=>by simp[C]
  have:=Ek Bk (λk=>(((k:Nat):Int),((l.length-1-k:Nat):Int),C k)) l.reverse (l.length / 2) (λk hk=>?_) ?_
  ·have e0:C 0=l:=by
    apply CI (by simp[C])
    intro i h1 h2;have:=hC 0 i h2;rw[Ab _ _ _ h1,Ab _ _ _ h2]at this;rw[this,if_neg (by omega)]
   have this':Ac Bk ((0:Int),((l.length-1:Nat):Int),l)=some l.reverse:=by
    have h2:=this;simp only[e0]at h2;exact h2
   rw[this'];rfl
  ·show Bk (_,_,_)=_
   unfold Bk
   have hlt:k<l.length-1-k:=by omega
   simp only[Bx hlt,Ah,Am];rw[Ad (Fv (by rw[hlen];omega)),Ad (Fv (by rw[hlen];omega)),Ad (Fv (by rw[hlen];omega)),Ad (Fv (by rw[hlen];omega))];rw[w1 (by omega),show w64 (((l.length-1-k:Nat):Int)-1)=((l.length-1-(k+1):Nat):Int) by rw[Hh (by omega) (by omega)];omega]
   congr 4
   rw[hC k _ (by omega),hC k _ (by omega),if_neg (by omega),if_neg (by omega)];simp only[C];rw[BZ,BZ]
   apply Hp
   intro i hi
   by_cases h1:i=k
   ·subst h1;rw[if_neg (by omega),if_pos rfl,if_pos (by omega)]
   ·by_cases h2:i=l.length-1-k
    ·subst h2;rw[if_pos rfl,if_pos (by omega)]
     congr 1;omega
    ·rw[if_neg h2,if_neg h1]
     by_cases h3:i<k\/l.length-1-k<i
     ·rw[if_pos h3,if_pos (by omega)]
     ·rw[if_neg h3,if_neg (by omega)]
  ·show Bk (_,_,_)=_
   unfold Bk;have hd:decide (((l.length / 2:Nat):Int)<((l.length-1-l.length / 2:Nat):Int))=false:=Ch (by omega);simp only[hd,Aw]
   congr 2
   apply CI (by simp[C])
   intro i h1 h2
   have h3:i<l.length:=by simpa [C] using h1
   have:=hC (l.length / 2) i h3;rw[Ab _ _ _ h1]at this;rw[this,List.getElem_reverse]
   split
   ·rw[Ab _ _ _ (by omega)]
   ·rw[Ab _ _ _ h3]
    congr 1;omega
theorem top{st:List Int}{a:Int}(h:st.length<4611686018427387904):(st++[a]).getD (w64 (((st++[a]).length:Int)-1)).toNat 0=a:=by
 have:w64 ((st++[a]).length-1)=(st.length:Int):=by rw[Fe,ES,Hh (by omega) (by omega)];omega
 rw[this];simp[List.getD]
theorem zq{st:List Int}{a:Int}(h:st.length<4611686018427387904):w64 (((st++[a]).length:Int)-1)=((st.length:Nat):Int):=by
 rw[Fe,ES,Hh (by omega) (by omega)];omega
theorem rp{g:TGraph}{R:List Bool}{st T:List Int}{a:Nat}(hst:st.length<64)(ha:a<g.Succ.length)(h64:g.Succ.length<=64)(ht:T.getD a 0=((g.Succ.getD a []).length:Int)) :
  Jh g R (st++[(a:Int)]) T=some (.done (.inl T)):=by
 unfold Jh;simp only[top (st:=st)  (by omega),Am];rw[Ad (Fv (by omega)),Ad (Fv ha),ht,C8,Aw]
theorem jD{g:TGraph}{R:List Bool}{st T:List Int}{a t y:Nat}(hst:st.length<64)(ha:a<g.Succ.length)(h64:g.Succ.length<=64)(ht:T.getD a 0=(t:Int))(htl:t<(g.Succ.getD a []).length)(htm:t<64)
  (hy:(g.Succ.getD a []).getD t 0=(y:Int)) (hyn:y<g.Succ.length) :
  Jh g R (st++[(a:Int)]) T=bif R.getD y false then some (.next (P8 64 (0:Int) T a ((t+1:Nat):Int))) else some (.done (.inr (P8 64 false R y true,P8 64 (0:Int) T a ((t+1:Nat):Int),(st++[(a:Int)])++[(y:Int)]))):=by
 have hroom:1000<=room:=by decide
 unfold Jh;simp only[top (st:=st)  (by omega),Am,ht,hy];rw[Ad (Fv (by omega)),Ad (Fv ha),Bx htl, Ad (Fv ha),Ad (Fv (by omega)),Ad (Fv htl),Ad (Fv (by omega)),Ad (Fv (by omega)),Ad (Fv (by omega)),w1 (by omega)]
 cases R.getD y _ with
 | true=>rfl
 | false=>
  simp only[J9,Ah,Aw];rw[Ad (Fv (by omega)),Ad (by grind)]
theorem jC{g:TGraph}{R:List Bool}{st T Lf:List Int}{a:Nat}(hst:st.length<64)(hLf:Lf.length<64) :
  E1 g (R,T,st++[(a:Int)],Lf)=(Ac (Jh g R (st++[(a:Int)])) T).bind λx=>match x with
   | .inl T'=>if st=[] then some (.done (Lf++[(a:Int)]).reverse) else some (.next (R,T',st,Lf++[(a:Int)]))
   | .inr (R',T',st')=>some (.next (R',T',st',Lf)):=by
 have hroom:1000<=room:=by decide
 unfold E1;simp only
 have hb:A1 (w64 ((st++[(a:Int)]).length-1)) (st++[(a:Int)]).length:=by rw[zq (by omega)];exact Fv (by simp)
 rw[Ad hb]
 congr 1
 funext x
 cases x with
 | inr y =>  rfl
 | inl T'=>
  simp only[top (st:=st)  (by omega)];rw[zq (by omega),Am,Ad (by grind),Ad ⟨by omega,by simp⟩];have e:(st++[(a:Int)]).take _=st:=List.take_left' rfl;rw[e]
  cases st with
  | nil=>
   rw[if_pos rfl]
   have:decide (0<(([]:List Int).length:Int))=false:=by decide
   rw[this,Aw,lx _ (by simp;omega)];simp only[An];rw[Ad (by simp)]
  | cons b st'=>
   simp_all
theorem gY{S X:Type}{f:S->Option (LR S X)}{a b:S}(h:f a=f b):Ac f a=Ac f b:=by
 cases hb:f b with
 | none=>rw[Xy (h.trans hb),Xy hb]
 | some r=>cases r with
  | done x=>rw[Ak (h.trans hb),Ak hb]
  | next s=>rw[Ap (h.trans hb),Ap hb]
theorem MI{S X:Type}{f:S->Option (LR S X)}{s:S}:Rz (f s) f=Ac f s:=by
 cases hb:f s with
 | none=>rw[Xy hb];rfl
 | some r=>cases r with
  | done x=>rw[Ak hb];rfl
  | next s'=>rw[Ap hb];rfl
def sN(L:List (List Int))(k:Nat):List Nat:=(L.getD k []).map Int.toNat
def RelS(R:List Bool)(s:Nat->Bool):Prop:=∀ z,z<64->R.getD z false=s z
theorem Ti{α:Type}{d:α}{l:List α}{i:Nat}{x:α}{k:Nat}(hk:k<64):(P8 64 d l i x).getD k d=if k=i then x else l.getD k d:=by
 rw[YI hk]
 by_cases h:k=i
 · simp
 ·have:Nat.beq k i=false:=by cases hb:Nat.beq k i with|false=>rfl|true=>simp_all
  rw[this,if_neg h];rfl
theorem RelS.set{R:List Bool}{s:Nat->Bool}(h:RelS R s){y:Nat}:RelS (P8 64 false R y true) (upd s y):=λz hz=>by
 rw[Ti hz,h z hz]
 by_cases hzy:z=y
 ·simp[upd]
 ·simp[upd]
def Wb(o:List Nat):List Int:=o.map Int.ofNat
theorem gx{g:TGraph}(hm:Ms g.Succ=true){s s':Nat->Bool}{l o:List Nat}(hv:VL (sN g.Succ) s l s' o) :
  ∀(R:List Bool) (T st Lf:List Int) (a t:Nat),RelS R s->a<g.Succ.length->l=(sN g.Succ a).drop t->T.getD a 0=(t:Int)->t<=(sN g.Succ a).length->s a=true->(∀ z,z<64->s z=false->T.getD z 0=0)->
   Lf.length+cg 64 s+st.length+1<=64->
   ∃(R':List Bool) (T':List Int),RelS R' s'/\(∀ z,z<64->s' z=false->T'.getD z 0=0)/\(∀ z,z<64->s z=true->z≠a->T'.getD z 0=T.getD z 0)/\Lf.length+o.length+cg 64 s'+st.length+1<=64 /\
    Ac (E1 g) (R,T,st++[(a:Int)],Lf)=if st=[] then some (Lf++Wb o++[(a:Int)]).reverse else Ac (E1 g) (R',T',st,Lf++Wb o++[(a:Int)]):=by
 obtain⟨hL1,hL64,hLok⟩:=mayS_iff.1 hm
 have hlenS:∀ a,(sN g.Succ a).length=(g.Succ.getD a []).length:=λa=>by simp[sN]
 have hdrop:∀(a t y:Nat) (l':List Nat),a<g.Succ.length->y::l'=(sN g.Succ a).drop t->t<(g.Succ.getD a []).length/\(g.Succ.getD a []).getD t 0=(y:Int)/\y<g.Succ.length/\l'=(sN g.Succ a).drop (t+1):=λa t y l' ha he=>by
  have ht:t<(sN g.Succ a).length:=by
   rcases zzL126 t (sN g.Succ a).length with h|h
   ·exact h
   ·rw[List.drop_eq_nil_of_le h]at he;cases he
  rw[SU ht]at he;simp only[Dr]at he;obtain⟨h1,h2⟩:=he
  have ht':t<(g.Succ.getD a []).length:=by rw[<- hlenS];exact ht
  obtain⟨b0,b1⟩:=BD (hLok a ha) ht'
  have h3:(sN g.Succ a)[t]=((g.Succ.getD a []).getD t 0).toNat:=by rw[Ab _ _ _ ht'];simp[sN]
  exact⟨ht',by omega,by omega,h2⟩
 induction hv with
 | nil s=>
  intro R T st Lf a t hR ha hl hT htl hsa hz hc
  have ht:t=(g.Succ.getD a []).length:=by
   have:=Bi List.length hl;simp at this;rw[hlenS]at htl this;omega
  refine⟨R,T,hR,hz,λ_ _ _ _=>rfl,by simpa using hc,?_⟩
  have hF:E1 g (R,T,st++[(a:Int)],Lf)=if st=[] then some (.done (Lf++[(a:Int)]).reverse) else some (.next (R,T,st,Lf++[(a:Int)])):=by
   rw[jC (by omega) (by omega),Ak (rp (by omega) ha hL64 (by rw[hT,ht]))]
   rfl
  by_cases hst:st=[]
  ·rw[if_pos hst]at hF ⊢;rw[Ak hF];simp[Wb]
  ·rw[if_neg hst]at hF ⊢;rw[Ap hF];simp[Wb]
 | @skip s s' y l o h tl ih=>
  intro R T st Lf a t hR ha hl hT htl hsa hz hc;obtain⟨h1,h2,h3,h4⟩:=hdrop a t y l ha hl;have hb:=DM (hLok a ha);have hs:=jD (g:=g) (R:=R) (st:=st) (T:=T) (a:=a) (t:=t) (y:=y) (by omega) ha hL64 hT h1 (by omega) h2 h3;rw[hR y (by omega),h,Ah]at hs;obtain⟨R',T',a1,a2,a3,a4,a5⟩:=ih R (P8 64 (0:Int) T a ((t+1:Nat):Int)) st Lf a (t+1) hR ha h4 (by rw[Ti (by omega),if_pos rfl]) (by rw[hlenS];omega) hsa
   (λz hz1 hz2=>by rw[Ti hz1,if_neg (by rintro rfl;rw[hsa]at hz2;cases hz2)];exact hz z hz1 hz2) hc
  refine⟨R',T',a1,a2,λz hz1 hz2 hz3=>by rw[a3 z hz1 hz2 hz3,Ti hz1,if_neg hz3],a4,?_⟩;rw[<- a5]
  apply gY
  rw[jC (by omega) (by omega),jC (by omega) (by omega),Ap hs]
 | @step s s1 s2 y l o1 o2 h tl tr ih1 ih2=>
  intro R T st Lf a t hR ha hl hT htl hsa hz hc;obtain⟨h1,h2,h3,h4⟩:=hdrop a t y l ha hl;have hb:=DM (hLok a ha)
  have hay:y≠a:=by rintro rfl;rw[hsa]at h;cases h
  have hs:=jD (g:=g) (R:=R) (st:=st) (T:=T) (a:=a) (t:=t) (y:=y) (by omega) ha hL64 hT h1 (by omega) h2 h3;rw[hR y (by omega),h,Aw]at hs;have hcu:=CY (n:=64) (show y<64 by omega) h
  have hF:E1 g (R,T,st++[(a:Int)],Lf)=some (.next (P8 64 false R y true,P8 64 (0:Int) T a ((t+1:Nat):Int),(st++[(a:Int)])++[(y:Int)],Lf)):=by
   rw[jC (by omega) (by omega),Ak hs]
   rfl
  obtain⟨R1,T1,b1,b2,b3,b4,b5⟩:=ih1 (P8 64 false R y true) (P8 64 (0:Int) T a ((t+1:Nat):Int)) (st++[(a:Int)]) Lf y 0 hR.set h3 (by simp)
   (by rw[Ti (by omega),if_neg hay];exact hz y (by omega) h) (P4 _) (upd_true.2 (.inl rfl))
   (λz hz1 hz2=>by
    obtain⟨c1,c2⟩:=upd_false.1 hz2;rw[Ti hz1,if_neg (by rintro rfl;rw[hsa]at c2;cases c2)]
    exact hz z hz1 c2) (by rw[Fe,ES];omega)
  rw[if_neg (by simp)]at b5
  have hTa:T1.getD a 0=((t+1:Nat):Int):=by rw[b3 a (by omega) (upd_true.2 (.inr hsa)) (Ra hay),Ti (by omega),if_pos rfl]
  rw[Fe,ES]at b4;obtain⟨R2,T2,c1,c2,c3,c4,c5⟩:=ih2 R1 T1 st (Lf++Wb o1++[(y:Int)]) a (t+1) b1 ha h4 hTa (by rw[hlenS];omega) ((tl.seen a).2 (.inl (upd_true.2 (.inr hsa)))) b2
   (by simp only[Fe,ES,Wb,Dx];omega)
  refine⟨R2,T2,c1,c2,λz hz1 hz2 hz3=>?_,?_,?_⟩
  ·rw[c3 z hz1 ((tl.seen z).2 (.inl (upd_true.2 (.inr hz2)))) hz3,b3 z hz1 (upd_true.2 (.inr hz2)) (by rintro rfl;rw[h]at hz2;cases hz2),Ti hz1,if_neg hz3]
  ·simp only[Fe,ES,Wb,Dx,EW]at c4 ⊢;omega
  ·rw[Ap hF,b5,c5]
   have e:Lf++Wb o1++[(y:Int)]++Wb o2++[(a:Int)]=Lf++Wb (o1++y::o2)++[(a:Int)]:=by simp[Wb]
   rw[e]
theorem Ww{L:List (List Int)}(h:Ms L=true):∀ z,z<L.length->∀ y∈sN L z,y<L.length:=λz hz y hy=>by
 obtain⟨_,_,h3⟩:=mayS_iff.1 h;obtain⟨x,hx,rfl⟩:=zzL21.1 hy;have:=bE (h3 z hz) hx;omega
theorem tG{r:Nat}(hr:r<64):cg 64 (one r)=63:=by
 have h:=CY  (s:=λ_=>false) hr rfl
 have e:upd (λ_=>false) r=one r:=by funext z;simp[upd,one]
 rw[e]at h
 have:cg 64 (λ_=>false)=64:=by decide
 omega
theorem IB{α:Type}{n z:Nat}{d:α}:(List.replicate n d).getD z d=d:=by grind
theorem aw(g:TGraph)(h:Fits g.Succ)(hP:True)(r:Int) :
  (DY g=true->0<=r->r<(g.Succ.length:Int)->∀ L,Ord (sN g.Succ) r.toNat L->Ld g r=some (Wb L)) /\
  ((DY g&&(decide (0<=r)&&decide (r<(g.Succ.length:Int))))=false->Ld g r=some []):=by
 refine⟨λhm h0 h1 L hL=>?_,λhf=>?_⟩
 ·have hms:Ms g.Succ=true:=by unfold DY at hm;exact(A6 _ _▸hm).1
  obtain⟨hL1,hL64,hLok⟩:=mayS_iff.1 hms;obtain⟨s',o,hv,rfl⟩:=hL;have hrn :=Za h0
  have hr:r.toNat<g.Succ.length:=by omega
  obtain⟨R',T',_,_,_,_,hmain⟩:=gx hms hv (P8 64 false (List.replicate 64 false) r.toNat true) _ [] [] r.toNat 0
   (λz hz=>by rw[Ti hz,IB];by_cases hzr:z=r.toNat<;>simp[one,hzr]) hr (by simp) IB (P4 _) (by simp[one])
   (λz hz _=>IB) (by rw[tG (by omega)];simp)
  rw[if_pos rfl,hrn]at hmain;unfold Ld;rw[vH _ h,hm,An];simp only[Dq,Vg,Ah,Aw,Wk,Ci h0,Ci h1,Bool.and_self,An];rw[Ad ⟨h0,by omega⟩];have hF:∀ X,Ac (E1 g) (P8 64 false (List.replicate 64 false) r.toNat true,List.replicate 64 (0:Int),[]++[r],[])=some X->
    (Rz _ (E1 g)).bind (λx=>some x)=some X:=λX hX=>by
   rw[MI];rw[hX];rfl
  refine(hF _ hmain).trans ?_;simp only[Zc,List.reverse_append,Wb,Cq,List.map_reverse,List.reverse_cons,List.reverse_nil]
  simp
  omega
 ·unfold Ld;rw[vH _ h,An]
  cases hm:DY g with
  | false=>rfl
  | true=>
   rw[hm,Lj]at hf;simp only[Dq,Vg,Ah,Aw,Wk,hf,An,J9]
   rfl
def RelN(n:Nat)(R:List Bool)(s:Nat->Bool):Prop:=R.length=n/\∀ z,z<n->R.getD z false=s z
theorem RelN.set{n:Nat}{R:List Bool}{s:Nat->Bool}(h:RelN n R s){y:Nat}(hy:y<n):RelN n (R.set y true) (upd s y):=by
 refine⟨by rw[Db];exact h.1,λz hz=>?_⟩;rw[W4,List.getElem?_set]
 by_cases hzy:y=z
 ·subst hzy;simp[upd,h.1,hy]
 ·rw[if_neg hzy,<- W4,h.2 z hz];simp[upd,Ra hzy]
theorem Tn:∀(n:Nat) (l:List Nat),l.Nodup->(∀ x∈l,x<n)->l.length<=n
 | 0,l,_,h=>by
  cases l with
  | nil=>simp
  | cons x l=>have:=h x (zzL53 ..);omega
 | n+1,l,hd,h=>by
  by_cases hn:n∈l
  ·have h1:=Tn n _ (hd.erase n) λx hx=>by
    grind
   rw[List.length_erase_of_mem hn]at h1;omega
  ·have h1:=Tn n l hd λx hx=>by
    grind
   omega
theorem FQ:∀{a b:List Int},a.Pairwise (·<·)->b.Pairwise (·<·)->(∀ x,x∈a↔x∈b)->a=b
 | [],[],_,_,_=>rfl
 | [],y::b,_,_,h=>by have:=(h y).2 (zzL53 ..);cases this
 | x::a,[],_,_,h=>by have:=(h x).1 (zzL53 ..);cases this
 | x::a,y::b,ha,hb,h=>by
  have ha':=zzL76.1 ha;have hb':=zzL76.1 hb
  have hxy:x=y:=by
   rcases zzL34.1 ((h x).1 (zzL53 ..)) with h1|h1
   ·exact h1
   ·rcases zzL34.1 ((h y).2 (zzL53 ..)) with h2|h2
    ·exact h2.symm
    ·grind
  congr 1
  refine FQ ha'.2 hb'.2 λz=>⟨λhz=>?_,λhz=>?_⟩
  ·grind
  ·grind
theorem LM(p:Nat->Bool)(n:Nat):(((List.range n).filter p).map Int.ofNat).Pairwise (·<·):=by
 rw[List.pairwise_map];have:=(List.pairwise_lt_range (n:=n)).filter p
 exact this.imp λh=>by simpa using h
theorem dV{p:Nat->Bool}{n:Nat}{x:Int}:x∈((List.range n).filter p).map Int.ofNat↔∃ k:Nat,x=(k:Int)/\k<n/\p k=true:=by
 grind
theorem pP{L:List (List Int)}{k i:Nat}:Yz L k i=true↔(i:Int)∈L.getD k []:=by unfold Yz;rw[zzL64]
theorem oZ{b:Bool}{α:Type}{x:α}:(bif b then x else x)=x:=by cases b<;>rfl
theorem xC{L:List (List Int)}(h:Ms L=true){x y:Nat}(hx:x<L.length):y∈sN L x↔(y:Int)∈L.getD x []:=by
 obtain⟨_,_,h3⟩:=mayS_iff.1 h;unfold sN;rw[zzL21]
 constructor
 ·rintro⟨z,hz,rfl⟩;have:=bE (h3 x hx) hz;rw[Za this.1];exact hz
 ·grind
def mk(o:List Bool)(l:List Nat):List Bool:=l.foldl (λo y=>o.set y true) o
theorem gi(l:List Nat):∀ o:List Bool,(mk o l).length=o.length:=by
 induction l with
 | nil=>intro o;rfl
 | cons y l ih=>intro o;show(mk _ l).length=_;rw[ih,Db]
theorem mk_at{n:Nat}(l:List Nat):∀(o:List Bool),o.length=n->(∀ y∈l,y<n)->∀ z,(mk o l).getD z false=true↔o.getD z false=true\/z∈l:=by
 induction l with
 | nil =>  simp[mk]
 | cons y l ih=>
  intro o ho hl z
  show(mk _ l).getD z _=true↔_
  rw[ih _ (by grind) (λu hu=>hl u (Ob _ hu)) z]
  have e:(o.set y true).getD z false=true↔o.getD z false=true\/z=y:=by
   grind
  rw[e,zzL34]
  constructor
  ·grind
  ·rintro(h|h|h)
   ·exact .inl (.inl h)
   ·exact .inl (.inr h)
   ·exact .inr h
def sw(S:Nat->List Nat)(o:List Bool):Nat->List Bool
 | 0=>o
 | i+1=>if(sw S o i).getD i false=true then mk (sw S o i) (S i) else sw S o i
def HX(S:Nat->List Nat)(n:Nat)(o:List Bool):Nat->List Bool
 | 0=>o
 | j+1=>sw S (HX S n o j) n
section
variable {S:Nat->List Nat} {n:Nat} (hS:∀ z,z<n->∀ y∈S z,y<n)
theorem sw_len(o:List Bool):∀ i,(sw S o i).length=o.length:=by
 intro i
 induction i with
 | zero=>rfl
 | succ i ih=>unfold sw;split;rw[gi,ih];exact ih
theorem Yj(o:List Bool):∀ j,(HX S n o j).length=o.length:=by
 intro j
 induction j with
 | zero=>rfl
 | succ j ih=>unfold HX;rw[sw_len,ih]
include hS
theorem OP{o:List Bool}(ho:o.length=n):∀ i,i<=n->∀ z,o.getD z false=true->(sw S o i).getD z false=true:=by
 intro i
 induction i with
 | zero=>intro _ z h;exact h
 | succ i ih=>
  intro hi z h;unfold sw
  split
  ·exact(mk_at  _ _ (by rw[sw_len];exact ho) (hS i (by omega)) z).2 (.inl (ih (by omega) z h))
  ·exact ih (by omega) z h
theorem qe{o:List Bool}{r:Nat}(ho:o.length=n)(h:∀ z,o.getD z false=true->Rch S r z):∀ i,i<=n->∀ z,(sw S o i).getD z false=true->Rch S r z:=by
 intro i
 induction i with
 | zero=>intro _ z hz;exact h z hz
 | succ i ih=>
  intro hi z hz;unfold sw at hz
  split at hz
  ·rename_i hsi
   rcases(mk_at  _ _ (by rw[sw_len];exact ho) (hS i (by omega)) z).1 hz with h1|h1
   ·exact ih (by omega) z h1
   ·exact(ih (by omega) i hsi).tail h1
  ·exact ih (by omega) z hz
theorem uZ{o:List Bool}(ho:o.length=n):∀ i,i<=n->∀ j,j<i->o.getD j false=true->∀ y∈S j,(sw S o i).getD y false=true:=by
 intro i
 induction i with
 | zero =>  omega
 | succ i ih=>
  intro hi j hj hoj y hy;unfold sw
  by_cases hji:j=i
  ·subst hji;have h1:=OP hS ho j (by omega) j hoj;rw[if_pos h1];exact(mk_at  _ _ (by rw[sw_len];exact ho) (hS j (by omega)) y).2 (.inr hy)
  ·have h1:=ih (by omega) j (by omega) hoj y hy
   split
   ·exact(mk_at  _ _ (by rw[sw_len];exact ho) (hS i (by omega)) y).2 (.inl h1)
   ·exact h1
theorem mg{o:List Bool}(ho:o.length=n)(hc:∀ j,j<n->o.getD j false=true->∀ y∈S j,o.getD y false=true):∀ i,i<=n->∀ z,(sw S o i).getD z false=true->o.getD z false=true:=by
 intro i
 induction i with
 | zero=>intro _ z h;exact h
 | succ i ih=>
  intro hi z hz;unfold sw at hz
  split at hz
  ·rcases(mk_at  _ _ (by rw[sw_len];exact ho) (hS i (by omega)) z).1 hz with h1|h1
   ·exact ih (by omega) z h1
   ·grind
  ·exact ih (by omega) z hz
theorem BQ{r:Nat}(hr:r<n)(z:Nat):(HX S n ((List.replicate n false).set r true) n).getD z false=true↔Rch S r z:=by
 let o0:=(List.replicate n false).set r true
 have ho0:o0.length=n:=by simp[o0]
 have hat0:∀ z,o0.getD z false=true↔z=r:=λz=>by
  grind
 have hlen:∀ j,(HX S n o0 j).length=n:=λj=>by rw[Yj,ho0]
 have hsound:∀ j z,(HX S n o0 j).getD z false=true->Rch S r z:=by
  intro j
  induction j with
  | zero=>intro z hz;rw[(hat0 z).1 hz];exact .refl _
  | succ j ih=>intro z hz;exact qe hS (hlen j) ih n (zzL6 _) z hz
 have hmono:∀ j,∀ z,o0.getD z false=true->(HX S n o0 j).getD z false=true:=by
  intro j
  induction j with
  | zero=>intro z h;exact h
  | succ j ih=>intro z h;exact OP hS (hlen j) n (zzL6 _) z (ih z h)
 let C:Nat->Prop:=λj=>∀ i,i<n->(HX S n o0 j).getD i false=true->∀ y∈S i,(HX S n o0 j).getD y false=true
 have key:∀ j,C j\/cg n (λz=>(HX S n o0 j).getD z false)+j+1<=n:=by
  intro j
  induction j with
  | zero=>
   refine .inr ?_;have h1:=CY (n:=n) (s:=λ_=>false) hr rfl
   have e:upd (λ_=>false) r=λz=>(HX S n o0 0).getD z false:=by
    funext z
    rw[W9,upd_true]
    show _↔o0.getD z false=true
    rw[hat0]
    simp
   rw[e]at h1
   have hcl:cg n (λ_=>false)=n:=by
    unfold cg;rw[List.filter_eq_self.2 (by simp)]
    simp
   omega
  | succ j ih=>
   by_cases hc:C j
   ·refine .inl λi hi h y hy=>?_;have h1:=mg hS (hlen j) hc n (zzL6 _) i h;exact OP hS (hlen j) n (zzL6 _) y (hc i hi h1 y hy)
   ·rcases ih with ih|ih
    ·exact(hc ih).elim
    ·refine .inr ?_
     have hex:∃ i,i<n/\(HX S n o0 j).getD i false=true/\∃ y,y∈S i/\(HX S n o0 j).getD y false=false:=by
      grind
     obtain⟨i,hi,h1,y,hy,h2⟩:=hex;have h3:=uZ hS (hlen j) n (zzL6 _) i hi h1 y hy;have hyn:=hS i hi y hy;have h4:=CY (n:=n) (s:=λz=>(HX S n o0 j).getD z false) hyn h2
     have h5:cg n (λz=>(HX S n o0 (j+1)).getD z false)<=cg n (upd (λz=>(HX S n o0 j).getD z false) y):=cj λz hz=>by
      rcases upd_true.1 hz with rfl|hz
      ·exact h3
      ·exact OP hS (hlen j) n (zzL6 _) z hz
     omega
 constructor
 ·exact hsound n z
 ·intro hrch
  have hlt:∀ x z,Rch S x z->x<n->z<n/\((HX S n o0 n).getD x false=true->(HX S n o0 n).getD z false=true):=by
   intro x z hxz
   induction hxz with
   | refl x=>exact λhx=>⟨hx,id⟩
   | @head x y z hy _ ih=>
    grind
  exact(hlt r z hrch hr).2 (hmono n r ((hat0 r).2 rfl))
end
theorem tj{L:List (List Int)}(hm:Ms L=true){r:Nat}(hr:r<L.length) :
  Da (Kh L) (r:Int) (-1:Int)=some (HX (sN L) L.length ((List.replicate L.length false).set r true) L.length):=by
 obtain⟨h1,h2,h3⟩:=mayS_iff.1 hm
 have hroom:(1000:Nat)<=room:=by decide
 have hS:=Ww hm;have hgs:(Kh L).Succ=L:=rfl
 have hlenS:∀ a,(sN L a).length=(L.getD a []).length:=λa=>by simp[sN]
 have hin:∀(o:List Bool) (i:Nat),o.length=L.length->i<L.length->Ac (A3 (Kh L) (-1) (i:Int)) ((0:Int),o)=some (if o.getD i false=true then mk o (sN L i) else o):=λo i ho hi=>by
  have hb:=DM (h3 i hi)
  by_cases hoi:o.getD i false=true
  ·rw[if_pos hoi];have hmi:∀ k,(mk o ((sN L i).take k)).getD i false=true:=λk=>(mk_at (n:=L.length) _ _ ho (λy hy=>hS i hi y (List.mem_of_mem_take hy)) i).2 (.inl hoi)
   have hml:∀ k,(mk o ((sN L i).take k)).length=L.length:=λk=>by rw[gi,ho]
   refine Ek (A3 (Kh L) (-1) (i:Int)) (λk=>(((k:Nat):Int),mk o ((sN L i).take k))) _ (L.getD i []).length (λk hk=>?_) ?_
   ·unfold A3;obtain⟨a0,a1⟩:=BD (h3 i hi) hk;simp only[hgs,Am,hmi];rw[Ad (Fv (by rw[hml];exact hi)),M6 (Fv hi),Ah,Bx hk,Ah,Ad (Fv hi),Ad (Fv hk)]
    have hne:((L.getD i []).getD k 0 !=(-1:Int))=true:=by rw[zzL100];omega
    rw[hne,Ah,Ad (Fv hi),Ad (Fv hk),Ad ⟨a0,by rw[hml];exact a1⟩,w1 (by omega)]
    have e:mk o ((sN L i).take (k+1))=(mk o ((sN L i).take k)).set ((L.getD i []).getD k 0).toNat true:=by
     have hk':k<(sN L i).length:=by rw[hlenS];exact hk
     rw[be hk'];unfold mk;rw[List.foldl_append]
     have:(sN L i)[k]=((L.getD i []).getD k 0).toNat:=by rw[Ab _ _ _ hk];simp[sN]
     rw[this]
     rfl
    rw[e]
    rfl
   ·unfold A3;simp only[hgs,Am,hmi];rw[Ad (Fv (by rw[hml];exact hi)),M6 (Fv hi),Ah,C8,Aw]
    have:(sN L i).take (L.getD i []).length=sN L i:=by rw[<- hlenS];exact W7 ..
    rw[this]
  ·have hof:o.getD i false=false:=by simpa using hoi
   rw[if_neg hoi]
   apply Ak
   unfold A3;simp only[hgs,Am,hof];rw[Ad (Fv (by rw[ho];exact hi)),M6 (Fv hi),Aw,Aw]
 have hsw:∀ o:List Bool,o.length=L.length->Ac (A4 (Kh L) (-1)) ((0:Int),o)=some (sw (sN L) o L.length):=λo ho=>by
  refine Ek (A4 (Kh L) (-1)) (λi=>(((i:Nat):Int),sw (sN L) o i)) _ L.length (λi hi=>?_) ?_
  ·show A4 (Kh L) (-1) (_,_)=_
   unfold A4
   have hl:(sw (sN L) o i).length=L.length:=by rw[sw_len,ho]
   simp only[hl,Bx hi,Ah];rw[hin _ i hl hi,w1 (by omega)]
   rfl
  ·show A4 (Kh L) (-1) (_,_)=_
   unfold A4
   have hl:(sw (sN L) o L.length).length=L.length:=by rw[sw_len,ho]
   simp only[hl,C8,Aw]
 unfold Da;simp only[hgs,Am];rw[Ad ⟨by omega,Int.le_refl _,by omega⟩]
 have hne:((r:Int)==(-1:Int))=false:=by rw[zzL30];omega
 rw[hne,Aw,Ad (Fv (by simpa using hr))]
 have hl0:((List.replicate L.length false).set r true).length=L.length:=by simp
 have:Ac (A5 (Kh L) (-1)) ((0:Int),(List.replicate L.length false).set r true)=some (HX (sN L) L.length ((List.replicate L.length false).set r true) L.length):=by
  refine Ek (A5 (Kh L) (-1)) (λj=>(((j:Nat):Int),HX (sN L) L.length ((List.replicate L.length false).set r true) j)) _ L.length (λj hj=>?_) ?_
  ·show A5 (Kh L) (-1) (_,_)=_
   unfold A5
   have hl:(HX (sN L) L.length ((List.replicate L.length false).set r true) j).length=L.length:=by rw[Yj,hl0]
   simp only[hl,Bx hj,Ah];rw[hsw _ hl,w1 (by omega)]
   rfl
  ·show A5 (Kh L) (-1) (_,_)=_
   unfold A5
   have hl:(HX (sN L) L.length ((List.replicate L.length false).set r true) L.length).length=L.length:=by rw[Yj,hl0]
   simp only[hl,C8,Aw]
 rw[this]
 rfl
def pos:List Nat->Nat->Nat
 | [],_=>0
 | x::l,z=>if x=z then 0 else pos l z+1
theorem RT(x:Nat)(l:List Nat)(z:Nat):pos (x::l) z=if x=z then 0 else pos l z+1:=rfl
theorem uH{A l:List Nat}{z:Nat}(h:z∉A):pos (A++l) z=A.length+pos l z:=by
 induction A with
 | nil=>simp
 | cons x A ih=>
  have h1:x≠z:=λe=>h (by grind);have h2 :=λe=>h (Ob _ e);rw[CF,RT,if_neg h1,ih h2,EW];omega
theorem ON{P:List Nat}(hd:P.Nodup){i:Nat}(hi:i<P.length):P[i]∉P.take i/\pos P P[i]=i:=by
 have e:P=P.take i++P[i]::P.drop (i+1):=by simp_all
 have hn:P[i]∉P.take i:=by
  grind
 refine⟨hn,?_⟩
 have h2:pos (P.take i++P[i]::P.drop (i+1)) P[i]=i:=by
  rw[uH hn]
  have:pos (P[i]::P.drop (i+1)) P[i]=0:=by rw[RT,if_pos rfl]
  rw[ W6];omega
 rw[<- e]at h2;exact h2
theorem oF{n:Nat}{p:Nat->Bool}:(List.range (n+1)).all p=((List.range n).all p&&p n):=by
 grind
theorem cl(d:Array Int)(hs:∀ i j,i<=j->j<d.size->d[i]!<=d[j]!):∀ m,m<=d.size->(∀ x∈Lib.compactUpTo d m,∃ j,j<m/\x=d[j]!)/\(∀ j,j<m->d[j]!∈Lib.compactUpTo d m)/\(Lib.compactUpTo d m).Pairwise (·<·):=by
 intro m
 induction m with
 | zero=>intro _;exact⟨(λx hx=>by simp[Lib.compactUpTo]at hx),(λj hj=>by omega),by simp[Lib.compactUpTo]⟩
 | succ m ih=>
  intro hm;obtain⟨h1,h2,h3⟩:=ih (by omega);rw[Lib.compactUpTo_succ]
  cases hk:Lib.keeps d m with
  | true=>
   rw[if_pos rfl];refine⟨λx hx=>?_,λj hj=>?_,?_⟩
   ·grind
   ·grind
   ·rw[zzL128];refine⟨h3,List.pairwise_singleton _ _,λx hx y hy=>?_⟩;obtain⟨j,hj,rfl⟩:=h1 x hx
    have hy':y=d[m]!:=by simpa using hy
    subst hy'
    have hk':m=0\/d[m]!≠d[m-1]!:=by simpa [Lib.keeps] using hk
    rcases hk' with h0|h0
    ·omega
    ·have a1:=hs j (m-1) (by omega) (by omega);have a2:=hs (m-1) m (by omega) (by omega);omega
  | false=>
   have hk':m≠0/\d[m]! = d[m-1]!:=by
    have:¬ (m=0\/d[m]!≠d[m-1]!):=by
     intro h
     have:Lib.keeps d m=true:=by simpa [Lib.keeps] using h
     rw[hk]at this;cases this
    exact⟨λh=>this (.inl h),Classical.not_not.1 λh=>this (.inr h)⟩
   simp only[FT,I5,List.append_nil];refine⟨λx hx=>by grind,λj hj=>?_,h3⟩
   by_cases hjm:j=m
   ·subst hjm;rw[hk'.2];exact h2 _ (by omega)
   ·exact h2 j (by omega)
def BS(l:List Int):List Int:=Lib.compact (l.mergeSort λx y=>decide (x<=y))
theorem KE(l:List Int):(BS l).Pairwise (·<·)/\∀ x,x∈BS l↔x∈l:=by
 unfold BS Lib.compact;have hp:(l.mergeSort _).Pairwise (λa b=>decide (a<=b)=true):=List.pairwise_mergeSort (λa b c h1 h2=>by simp at *;omega) (λa b=>by simp;omega) l;have hm:∀ x,x∈(l.mergeSort λx y=>decide (x<=y))↔x∈l:=λx=>List.mem_mergeSort
 generalize l.mergeSort _=z at hp hm ⊢
 have hz:∀ j,j<z.length->z.toArray[j]! = z.getD j 0:=λj hj=>by simp[ hj]
 obtain⟨h1,h2,h3⟩:=cl z.toArray (λi j hij hj=>by
  have hj' :=by simpa using hj
  rw[hz i (by omega),hz j hj']
  by_cases he:i=j
  ·grind
  ·have:=(zzL92.1 hp) i j (by omega) hj' (by omega);rw[Ab _ _ _ _,Ab _ _ _ hj']
   simpa using this) z.length (by simp)
 refine⟨h3,λx=>?_⟩;rw[<- hm x]
 constructor
 ·grind
 ·intro hx;obtain⟨j,hj,rfl⟩:=Fx hx;have:=h2 j hj;rwa[hz j hj,Ab _ _ _ hj]at this
def rk(n:Nat)(l:List Int):Bool:=(List.range l.length).all λi=>decide (0<l.getD i 0)&&decide (l.getD i 0<(n:Int))
def CC(k:Int):Int:=([0,1,2,0]:List Int).getD k.toNat 0
def Y0(e:Ou):Bool:=(decide (0<=e.Kind)&&decide (e.Kind<=3))&&decide ((e.To.length:Int)=CC e.Kind)
def Kf(e:Ou)(n:Nat):Bool:=Y0 e&&rk n e.To
theorem toB_iff{n:Nat}{l:List Int}:rk n l=true↔∀ x∈l,0<x/\x<n:=by
 unfold rk;rw[all_range];simp only[A6,Gq]
 constructor
 ·intro h x hx;obtain⟨i,hi,rfl⟩:=Fx hx;have:=h i hi;rwa[Ab _ _ _ hi]at this
 ·simp_all
theorem pG(e:Ou)(n:Nat)(hl:e.To.length<4611686018427387904):Ac (F0 e (n:Int)) (0:Int)=some (bif rk n e.To then .inl () else .inr false):=by
 have step:∀ j ,j<e.To.length->F0 e n j=bif (decide (0<e.To.getD j 0)&&decide (e.To.getD j 0<n)) then some (.next ((j+1:Int))) else some _:=λj hj=>by
  unfold F0;simp only[Am,Bx hj, Wk,w1 (show j<4611686018427387904 by omega)];rw[Ad (Fv hj)]
  by_cases h0:e.To.getD j 0=0
  ·rw[h0];rfl
  ·grind
 have:=Ia (F0 e n) (λj=>(j:Nat)) (λi=>decide (0<e.To.getD i 0)&&decide (e.To.getD i 0<n)) (.inl ()) (.inr false) e.To.length (λj hj hp=>?_) (λj hj hp=>?_) ?_
 ·exact this
 ·grind
 ·rw[step j hj,hp];rfl
 ·unfold F0;simp only[C8,Aw]
theorem HB(e:Ou)(n:Nat)(w:Int)(hw:0<=w/\w<=2) :
  (bif ((e.To.length:Int)!=w) then(some false) else((Ac (F0 e (n:Int)) (0:Int)).bind (λx10=>(match x10 with|(.inl _)=>(some true)|(.inr r12)=>(some r12)))))=some (decide ((e.To.length:Int)=w)&&rk n e.To):=by
 by_cases h:e.To.length=w
 ·rw[show(e.To.length !=w)=false by simpa using h, pG e n (by omega),Ci h]
  cases rk n _<;>rfl
 ·grind
theorem ls(e:Ou)(n:Nat):Pf e (n:Int)=some (Kf e n):=by
 unfold Pf Kf Y0
 by_cases h0:e.Kind=0
 ·rw[h0];exact HB e n 0 (by omega)
 by_cases h1:e.Kind=1
 ·rw[h1];exact HB e n 1 (by omega)
 by_cases h2:e.Kind=2
 ·rw[h2];exact HB e n 2 (by omega)
 by_cases h3:e.Kind=3
 ·rw[h3];exact HB e n 0 (by omega)
 have e0:(e.Kind==0)=false:=by rw[zzL30];exact h0
 have e1:(e.Kind==1)=false:=by rw[zzL30];exact h1
 have e2:(e.Kind==2)=false:=by rw[zzL30];exact h2
 have e3:(e.Kind==3)=false:=by rw[zzL30];exact h3
 rw[e0,e1,e2,e3]
 have:(decide (0<=e.Kind)&&decide (e.Kind<=3))=false:=by
  by_cases h:0<=e.Kind
  ·rw[Ch (show ¬ e.Kind<=3 by omega)];simp
  ·rw[Ch h];rfl
 rw[this]
 rfl
theorem pJ{e:Ou}{n:Nat}(h:Kf e n=true):e.To.length<=2:=by
 unfold Kf Y0 at h;simp only[A6,Gq]at h;obtain⟨⟨⟨h0,h1⟩,h2⟩,_⟩:=h
 have:CC e.Kind<=2:=by
  have:e.Kind=0\/e.Kind=1\/e.Kind=2\/e.Kind=3:=by omega
  rcases this with h|h|h|h<;>rw[h]<;>decide
 omega
theorem ae{e:Ou}{n:Nat}(h:Kf e n=true):rk n e.To=true:=by unfold Kf at h;exact(A6 _ _▸h).2
def Bm(f:TFunc)(i:Nat):Ou:=(f.Blocks.getD i (default:Ae)).End
def A2(f:TFunc):List (List Int):=(List.range f.Blocks.length).map λi=>BS (Bm f i).To
def Gp(f:TFunc):Bool:=(decide (1<=f.Blocks.length)&&decide (f.Blocks.length<=64))&&(List.range f.Blocks.length).all λi=>Kf (Bm f i) f.Blocks.length
theorem shape_iff{f:TFunc}:Gp f=true↔(1<=f.Blocks.length/\f.Blocks.length<=64)/\∀ i,i<f.Blocks.length->Kf (Bm f i) f.Blocks.length=true:=by
 unfold Gp;rw[A6,A6,all_range];simp only[Gq]
theorem uQ{f:TFunc}{i:Nat}(h:Kf (Bm f i) f.Blocks.length=true):m8 f.Blocks.length (BS (Bm f i).To)=true:=by
 obtain⟨h1,h2⟩:=KE (Bm f i).To;exact xE (λx hx=>by have:=(toB_iff.1 (ae h)) x ((h2 x).1 hx);omega) h1
theorem Jt{f:TFunc}(h:Gp f=true):Ms (A2 f)=true:=by
 obtain⟨⟨h1,h2⟩,h3⟩:=shape_iff.1 h
 have hl:(A2 f).length=f.Blocks.length:=by simp[A2]
 refine mayS_iff.2 ⟨by omega,by omega,λi hi=>?_⟩;rw[hl]at hi ⊢;unfold A2;rw[Pa hi];exact uQ (h3 i hi)
theorem zM(f:TFunc)(hf:f.Blocks.length<=maxLen):Tz f=some (bif Gp f then(Kh (A2 f),0) else(g0,5)):=by
 have hroom:(1000:Nat)<=room:=by decide
 unfold Tz;rw[XL,An];have hsh:Gp f=((decide (1<=f.Blocks.length)&&decide (f.Blocks.length<=64))&&(List.range f.Blocks.length).all λi=>Kf (Bm f i) f.Blocks.length):=rfl
 cases hc:(decide (1<=f.Blocks.length)&&decide (f.Blocks.length<=64)) with
 | false=>rw[hsh,hc];rfl
 | true=>
  have hc':=hc;simp only[A6,Gq]at hc';simp only[Dq,Aw];rw[Ad ⟨by omega,Int.le_refl _,by omega⟩,Am]
  let U:Nat->List (List Int):=λi=>(List.range f.Blocks.length).map λj=>if j<i then BS (Bm f j).To else[]
  have e0:List.replicate f.Blocks.length ([]:List Int)=U 0:=by
   simp only[U]
   apply List.ext_getElem?
   intro j
   by_cases hj:j<f.Blocks.length<;>simp[hj,List.getElem?_replicate]
  have eN:U f.Blocks.length=A2 f:=by
   simp only[U,A2]
   apply Hp
   intro j hj;rw[if_pos hj]
  rw[e0]
  have hstep:∀ i:Nat,i<f.Blocks.length->H0 f ((i:Int),U i)=bif Kf (Bm f i) f.Blocks.length then some (.next (((i+1:Nat):Int),U (i+1))) else some (.done (.inr (g0,5))):=λi hi=>by
   unfold H0;simp only[Bx hi,Ah,Am];rw[Ad (Fv hi)];have he:(⟨(f.Blocks.getD i (default:Ae)).End.Kind,(f.Blocks.getD i (default:Ae)).End.Arg,(f.Blocks.getD i (default:Ae)).End.To⟩:Ou)=Bm f i:=rfl;rw[he,ls,An]
   cases hfit:Kf (Bm f i) f.Blocks.length with
   | false=>rfl
   | true=>
    have hl2:=pJ hfit;simp only[Dq,Aw,Ah]
    have hx:IH (f.Blocks.getD i (default:Ae)).End.To=some (BS (Bm f i).To):=by
     unfold IH;rw[jh,Ad (by show(Bm f i).To.length<=_;omega)]
     rfl
    rw[hx,An,Ad (Fv (by simp[U];omega)),w1 (by omega)]
    congr 3
    simp only[U];rw[BZ]
    apply Hp
    intro j hj
    by_cases h1:j=i
    ·subst h1;rw[if_pos rfl,if_pos (by omega)]
    ·rw[if_neg h1]
     by_cases h2:j<i
     ·rw[if_pos h2,if_pos (by omega)]
     ·rw[if_neg h2,if_neg (by omega)]
  have:=Ia (H0 f) (λi=>(((i:Nat):Int),U i)) (λi=>Kf (Bm f i) f.Blocks.length) (.inl (U f.Blocks.length)) (.inr (g0,5)) f.Blocks.length (λi hi hp=>?_) (λi hi hp=>?_) ?_
  ·rw[show Ac (H0 f) ((0:Int),U 0)=_ from this,hsh,hc,eN,Lj]
   cases hall:(List.range f.Blocks.length).all λi=>Kf (Bm f i) f.Blocks.length with
   | false=>rfl
   | true=>
    simp only[Ah,An];rw[dP _ (Jt (by rw[hsh,hc,hall];rfl))]
    rfl
  ·show H0 f (_,_)=_
   rw[hstep i hi,hp];rfl
  ·show H0 f (_,_)=_
   rw[hstep i hi,hp];rfl
  ·show H0 f (_,_)=_
   unfold H0;simp only[C8,Aw]
def KC(l:List Int)(k:Nat):List Int:=((List.range k).filter λz:Nat=>decide (1<=z)&&l.contains (z:Int)).map Int.ofNat
theorem qO{n:Nat}{l:List Int}(h:rk n l=true):KC l n=BS l:=by
 obtain⟨h1,h2⟩:=KE l;refine FQ (LM _ _) h1 λx=>?_;rw[h2 x];unfold KC;rw[dV]
 constructor
 ·grind
 ·intro hx;have:=(toB_iff.1 h) x hx;refine⟨x.toNat,by omega,by omega,?_⟩;rw[Za (by omega),zzL64.2 hx,Ci (by omega)]
  rfl
theorem mV(f:TFunc)(i:Nat)(hl:(Bm f i).To.length<4611686018427387904):Ac (Fh f (i:Int)) (0:Int)=some (bif rk f.Blocks.length (Bm f i).To then .inl () else .inr (g0,5)):=by
 have hE:(f.Blocks.getD i _).End=Bm f i:=rfl
 have step:∀ j ,j<(Bm f i).To.length->Fh f i j=bif (decide (0<(Bm f i).To.getD j 0)&&decide ((Bm f i).To.getD j 0<f.Blocks.length)) then some (.next ((j+1:Nat))) else some _:=λj hj=>by
  unfold Fh;simp only[Am,hE,Bx hj, w1 (show j<4611686018427387904 by omega)];rw[Ad (Fv hj),M6 (Fv hj)]
  by_cases h0:(Bm f i).To.getD j 0<=0
  ·rw[Ci h0,Ch (show ¬ 0<(Bm f i).To.getD j 0 by omega)];rfl
  ·rw[Ch h0,Ci (show 0<(Bm f i).To.getD j 0 by omega)]
   by_cases h1:f.Blocks.length<=(Bm f i).To.getD j 0
   ·rw[Ci h1,Ch (show ¬ (Bm f i).To.getD j 0<f.Blocks.length by omega)];rfl
   ·grind
 have:=Ia (Fh f i) (λj=>(j:Nat)) (λk=>decide (0<(Bm f i).To.getD k 0)&&decide ((Bm f i).To.getD k 0<f.Blocks.length)) (.inl ()) (.inr (g0,5)) (Bm f i).To.length (λj hj hp=>?_) (λj hj hp=>?_) ?_
 ·exact this
 ·grind
 ·rw[step j hj,hp];rfl
 ·unfold Fh;simp only[Am,hE,C8,Aw]
theorem mW(f:TFunc)(i:Nat)(hn:1<=f.Blocks.length/\f.Blocks.length<=64)(hl:(Bm f i).To.length<4611686018427387904):Ac (Ho f (i:Int)) (([]:List Int),(1:Int))=some (KC (Bm f i).To f.Blocks.length):=by
 have hroom:1000<=room:=by decide
 have hE:(f.Blocks.getD i _).End=Bm f i:=rfl
 have e0:KC (Bm f i).To 1=[]:=by unfold KC;simp
 have key:=Ek (Ho f i) (λk=>(KC (Bm f i).To (k+1),(k+1:Nat))) (KC (Bm f i).To f.Blocks.length) (f.Blocks.length-1) (λk hk=>?_) ?_
 ·grind
 ·unfold Ho
  have hlen:(KC (Bm f i).To (k+1)).length<=k+1:=by
   unfold KC;have:=List.length_filter_le (λz =>decide (1<=z)&&(Bm f i).To.contains (z:Nat)) (List.range (k+1))
   simpa using this
  simp only[Am,hE,Bx (show k+1<f.Blocks.length by omega)];rw[pj _ _ hl,An,w1 (by omega)]
  have hs:KC (Bm f i).To (k+1+1)=KC (Bm f i).To (k+1)++(if(Bm f i).To.contains ((k+1:Nat))=true then[(k+1:Int)] else[]):=by
   unfold KC;rw[Xb,W5]
   cases hg:(Bm f i).To.contains _ with
   | true=>grind
   | false=>grind
  rw[hs]
  cases hg:(Bm f i).To.contains _ with
  | true=>
   rw[ Ad (by grind)]
   rfl
  | false =>  simp
 ·unfold Ho;simp only[show f.Blocks.length-1+1=f.Blocks.length by omega,C8,Aw]
theorem dS(f:TFunc)(hf:f.Blocks.length<=maxLen):Jl f=some (bif Gp f then(Kh (A2 f),0) else(g0,5)):=by
 have hroom:(1000:Nat)<=room:=by decide
 unfold Jl
 have hc:(bif ((f.Blocks.length:Int)==(0:Int)) then true else decide ((64:Int)<(f.Blocks.length:Int))) = !(decide (1<=f.Blocks.length)&&decide (f.Blocks.length<=64)):=by
  grind
 rw[hc];have hsh:Gp f=((decide (1<=f.Blocks.length)&&decide (f.Blocks.length<=64))&&(List.range f.Blocks.length).all λi=>Kf (Bm f i) f.Blocks.length):=rfl
 cases hb:(decide (1<=f.Blocks.length)&&decide (f.Blocks.length<=64)) with
 | false=>rw[hsh,hb];rfl
 | true=>
  have hb':=hb;simp only[A6,Gq]at hb';simp only[Dq,Aw]
  let U:Nat->List (List Int):=λi=>(List.range i).map λj=>KC (Bm f j).To f.Blocks.length
  have hstep:∀ i:Nat,i<f.Blocks.length->Cj f (U i,(i:Int))=bif Kf (Bm f i) f.Blocks.length then some (.next (U (i+1),((i+1:Nat):Int))) else some (.done (.inr (g0,5))):=λi hi=>by
   unfold Cj;have hE:(f.Blocks.getD i (default:Ae)).End=Bm f i:=rfl;simp only[Bx hi,Ah,Am,hE];rw[Ad (Fv hi),w1 (by omega)]
   by_cases hk:0<=(Bm f i).Kind/\(Bm f i).Kind<=3
   ·rw[Ch (show ¬ (Bm f i).Kind<0 by omega),Ch (show ¬ (3:Int)<(Bm f i).Kind by omega)];simp only[Aw];rw[M6 (show A1 (Bm f i).Kind ([(0:Int),1,2,0]:List Int).length from⟨hk.1,by show(Bm f i).Kind<4;omega⟩)];have hw:([(0:Int),1,2,0]:List Int).getD (Bm f i).Kind.toNat 0=CC (Bm f i).Kind:=rfl;rw[hw]
    have hkb:Y0 (Bm f i)=decide (((Bm f i).To.length:Int)=CC (Bm f i).Kind):=by
     unfold Y0;rw[Ci hk.1,Ci hk.2];rfl
    unfold Kf;rw[hkb]
    by_cases hl:((Bm f i).To.length:Int)=CC (Bm f i).Kind
    ·have hw2:CC (Bm f i).Kind<=2:=by
      have:(Bm f i).Kind=0\/(Bm f i).Kind=1\/(Bm f i).Kind=2\/(Bm f i).Kind=3:=by omega
      rcases this with h|h|h|h<;>rw[h]<;>decide
     rw[show(((Bm f i).To.length:Int)!=CC (Bm f i).Kind)=false by simpa using hl,Ci hl,Aw,mV f i (by omega),Lj]
     cases htb:rk f.Blocks.length (Bm f i).To with
     | false=>rfl
     | true=>
      simp only[Ah,An];rw[mW f i hb' (by omega)];simp only[An];rw[Ad (by simp only[U,Dx,Vf,ES];omega)]
      congr 3
      simp only[U];rw[Xb,W8]
      rfl
    ·rw[show(((Bm f i).To.length:Int)!=CC (Bm f i).Kind)=true by simpa using hl,Ch hl];rfl
   ·have hbad:(bif decide ((Bm f i).Kind<0) then true else decide ((3:Int)<(Bm f i).Kind))=true:=by
     by_cases h0:(Bm f i).Kind<0
     ·rw[Ci h0];rfl
     ·rw[Ch h0,Ci (show(3:Int)<(Bm f i).Kind by omega)];rfl
    have hkb:Y0 (Bm f i)=false:=by
     unfold Y0
     by_cases h0:0<=(Bm f i).Kind
     ·rw[Ch (show ¬ (Bm f i).Kind<=3 by omega)];simp
     ·rw[Ch h0];simp
    simp only[hbad];rw[Ad (by intro h;cases h)];unfold Kf;rw[hkb]
    rfl
  have:=Ia (Cj f) (λi=>(U i,((i:Nat):Int))) (λi=>Kf (Bm f i) f.Blocks.length) (.inl (U f.Blocks.length)) (.inr (g0,5)) f.Blocks.length (λi hi hp=>?_) (λi hi hp=>?_) ?_
  ·rw[show Ac (Cj f) (([]:List (List Int)),(0:Int))=_ from this,hsh,hb,Lj]
   cases hall:(List.range f.Blocks.length).all λi=>Kf (Bm f i) f.Blocks.length with
   | false=>rfl
   | true=>
    have hshape:Gp f=true:=by rw[hsh,hb,hall];rfl
    have hm:=Jt hshape
    have hU:U f.Blocks.length=A2 f:=by
     simp only[U,A2]
     apply Hp
     intro j hj;exact qO (ae ((shape_iff.1 hshape).2 j hj))
    simp only[Ah,An];rw[hU,QQ _ (Uc (Tm hm)),hm]
    rfl
  ·show Cj f (_,_)=_
   rw[hstep i hi,hp];rfl
  ·show Cj f (_,_)=_
   rw[hstep i hi,hp];rfl
  ·show Cj f (_,_)=_
   unfold Cj;simp only[C8,Aw]
inductive Rc (S:Nat->List Nat) (r:Nat):Nat->Prop
 | root:Rc S r r
 | step {x y:Nat} (h:Rc S r x) (hy:y∈S x):Rc S r y
inductive Av (S:Nat->List Nat) (r z:Nat):Nat->Prop
 | root (h:r≠z):Av S r z r
 | step {x y:Nat} (h:Av S r z x) (hy:y∈S x) (hz:y≠z):Av S r z y
inductive AvN (S:Nat->List Nat) (r z:Nat):Nat->Nat->Prop
 | root (h:r≠z) (k:Nat):AvN S r z k r
 | step {k x y:Nat} (h:AvN S r z k x) (hy:y∈S x) (hz:y≠z):AvN S r z (k+1) y
section
variable {S:Nat->List Nat} {r:Nat}
theorem rc_iff{x:Nat}:Rc S r x↔Rch S r x:=by
 constructor
 ·intro h
  induction h with
  | root=>exact .refl _
  | step _ hy ih=>exact ih.tail hy
 ·intro h
  have key:∀ a b,Rch S a b->Rc S r a->Rc S r b:=by
   intro a b hab
   induction hab with
   | refl x=>exact id
   | head hy _ ih=>exact λha=>ih (.step ha hy)
  exact key _ _ h .root
def wo(S:Nat->List Nat)(z:Nat):Nat->List Nat:=λx=>(S x).filter λy=>decide (y≠z)
theorem av_iff{z x:Nat}:Av S r z x↔r≠z/\Rch (wo S z) r x:=by
 constructor
 ·intro h
  induction h with
  | root h=>exact⟨h,.refl _⟩
  | step _ hy hz ih=>exact⟨ih.1,ih.2.tail (zzL113.2 ⟨hy,by simpa using hz⟩)⟩
 ·rintro⟨hr,h⟩
  have key:∀ a b,Rch (wo S z) a b->Av S r z a->Av S r z b:=by
   intro a b hab
   induction hab with
   | refl x=>exact id
   | head hy _ ih=>
    obtain⟨h1,h2⟩:=zzL113.1 hy;exact λha=>ih (.step ha h1 (by simpa using h2))
  exact key _ _ h (.root hr)
theorem Av.rc{z x:Nat}(h:Av S r z x):Rc S r x:=by
 induction h with
 | root _=>exact .root
 | step _ hy _ ih=>exact .step ih hy
theorem Av.ne{z x:Nat}(h:Av S r z x):x≠z:=by
 cases h with
 | root h=>exact h
 | step _ _ hz=>exact hz
theorem AvN.av{z k x:Nat}(h:AvN S r z k x):Av S r z x:=by
 induction h with
 | root h=>exact .root h
 | step _ hy hz ih=>exact .step ih hy hz
theorem AvN.up{z k x:Nat}(h:AvN S r z k x):AvN S r z (k+1) x:=by
 induction h with
 | root h k=>exact .root h _
 | step _ hy hz ih=>exact .step ih hy hz
theorem AvN.mono{z k m x:Nat}(h:AvN S r z k x)(hm:k<=m):AvN S r z m x:=by
 obtain⟨d,rfl⟩:=Nat.exists_eq_add_of_le hm;clear hm
 induction d with
 | zero=>exact h
 | succ d ih=>exact ih.up
theorem Av.avn{z x:Nat}(h:Av S r z x):∃ k,AvN S r z k x:=by
 induction h with
 | root h=>exact⟨0,.root h 0⟩
 | step _ hy hz ih=>obtain⟨k,hk⟩:=ih;exact⟨k+1,.step hk hy hz⟩
theorem AvN.via {z k x : Nat} (h : AvN S r z k x) (y : Nat) : AvN S r y k x ∨ AvN S r z k y := by
  induction h with
  | root h k => by_cases hy : r = y
                · subst hy; exact .inr (.root h _)
                · exact .inl (.root hy _)
  | @step k x w h hy hz ih =>
    rcases ih with h1 | h1
    · by_cases hw : w = y
      · subst hw; exact .inr (.step h hy hz)
      · exact .inl (.step h1 hy hw)
    · exact .inr h1.up
theorem lO(n:Nat):∃ K,∀ z,z<n->∀ x,x<n->Av S r z x->AvN S r z K x:=by
 have one:∀ z m,∃ K,∀ x,x<m->Av S r z x->AvN S r z K x:=by
  intro z m
  induction m with
  | zero=>simp_all
  | succ m ih=>
   obtain⟨K,hK⟩:=ih
   by_cases h:Av S r z m
   ·obtain⟨k,hk⟩:=h.avn;refine⟨max K k,λx hx ha=>?_⟩;rcases Nat.lt_succ_iff_lt_or_eq.1 hx with h1|rfl
    ·exact(hK x h1 ha).mono (Nat.le_max_left ..)
    ·exact hk.mono (Nat.le_max_right ..)
   ·refine⟨K,λx hx ha=>?_⟩;rcases Nat.lt_succ_iff_lt_or_eq.1 hx with h1|rfl
    ·exact hK x h1 ha
    ·exact absurd ha h
 have two:∀ m,∃ K,∀ z,z<m->∀ x,x<n->Av S r z x->AvN S r z K x:=by
  intro m
  induction m with
  | zero=>simp_all
  | succ m ih=>
   obtain⟨K,hK⟩:=ih;obtain⟨k,hk⟩:=one m n;refine⟨max K k,λz hz x hx ha=>?_⟩;rcases Nat.lt_succ_iff_lt_or_eq.1 hz with h1|rfl
   ·exact(hK z h1 x hx ha).mono (Nat.le_max_left ..)
   ·exact(hk x hx ha).mono (Nat.le_max_right ..)
 exact two n
end
inductive UpTo (par:Nat->Int):Nat->Nat->Prop
 | refl (x:Nat):UpTo par x x
 | up {x y z:Nat} (h:par x=(y:Int)) (t:UpTo par y z):UpTo par x z
inductive Fw (S:Nat->List Nat) (at_:Nat->Nat) (u:Nat):Nat->Prop
 | refl:Fw S at_ u u
 | step {v w:Nat} (h:Fw S at_ u v) (hw:w∈S v) (hl:at_ v<at_ w):Fw S at_ u w
section
variable {S:Nat->List Nat} {at_:Nat->Nat} {par:Nat->Int}
theorem Fw.le{u w:Nat}(h:Fw S at_ u w):at_ u<=at_ w:=by
 induction h with
 | refl=>exact zzL6 _
 | step _ _ hl ih=>omega
theorem Fw.trans{u v w:Nat}(h:Fw S at_ u v)(k:Fw S at_ v w):Fw S at_ u w:=by
 induction k with
 | refl=>exact h
 | step _ hw hl ih=>exact .step ih hw hl
theorem Fw.av{r d u w:Nat}(h:Fw S at_ u w)(ha:Av S r d u)(hd:at_ d<at_ u):Av S r d w:=by
 induction h with
 | refl=>exact ha
 | @step v w h hw hl ih=>exact .step ih hw (by rintro rfl;have:=h.le;omega)
theorem UpTo.trans{x y z:Nat}(h:UpTo par x y)(k:UpTo par y z):UpTo par x z:=by
 induction h with
 | refl x=>exact k
 | up h _ ih=>exact .up h (ih k)
theorem anc_up{x p z:Nat}(h:par x=(p:Int)):UpTo par x z↔z=x\/UpTo par p z:=by
 constructor
 ·intro k
  cases k with
  | refl=>exact .inl rfl
  | up h' t=>grind
 ·rintro(rfl|k)
  ·exact .refl _
  ·exact .up h k
theorem NW{x z:Nat}(h:∀ p:Nat,par x≠(p:Int)):UpTo par x z↔z=x:=by
 constructor
 ·intro k
  cases k with
  | refl=>rfl
  | up h' t=>exact absurd h' (h _)
 ·rintro rfl;exact .refl _
structure Inv(S:Nat->List Nat)(r n:Nat)(at_:Nat->Nat)(par:Nat->Int):Prop where
 top:par r = -1
 kind:∀ x,x<n->par x = -2\/x=r\/∃ z:Nat,par x=(z:Int)
 up:∀ x,x<n->∀ z:Nat,par x=(z:Int)->z<n/\par z≠-2/\at_ z<at_ x/\Fw S at_ z x
 rc:∀ x,x<n->par x≠-2->Rc S r x
 all:∀ x,x<n->par x≠-2->∀ d,¬ UpTo par x d->Av S r d x
end
section
variable {S:Nat->List Nat} {at_:Nat->Nat} {par:Nat->Int} {r n:Nat}
theorem Inv.anc(h:Inv S r n at_ par){x z:Nat}(k:UpTo par x z)(hx:x<n)(hp:par x≠-2):z<n/\par z≠-2/\at_ z<=at_ x/\Fw S at_ z x:=by
 induction k with
 | refl x=>exact⟨hx,hp,zzL6 _,.refl⟩
 | @up x y z hxy t ih=>
  obtain⟨h1,h2,h3,h4⟩:=h.up x hx y hxy;obtain⟨i1,i2,i3,i4⟩:=ih h1 h2;exact⟨i1,i2,by omega,i4.trans h4⟩
theorem Inv.root_anc(h:Inv S r n at_ par){z:Nat}:UpTo par r z↔z=r:=NW λp hp=>by rw[h.top]at hp;omega
theorem Inv.strict(h:Inv S r n at_ par){x z:Nat}(k:UpTo par x z)(hx:x<n)(hp:par x≠-2):z=x\/at_ z<at_ x:=by
 cases k with
 | refl=>exact .inl rfl
 | up hxy t=>
  obtain⟨h1,h2,h3,h4⟩:=h.up x hx _ hxy;obtain⟨i1,i2,i3,i4⟩:=h.anc t h1 h2;exact .inr (by omega)
theorem Inv.antisymm(h:Inv S r n at_ par){x z:Nat}(k:UpTo par x z)(m:UpTo par z x)(hx:x<n)(hp:par x≠-2):z=x:=by
 rcases h.strict k hx hp with rfl|h1
 ·rfl
 ·obtain⟨i1,i2,i3,i4⟩:=h.anc k hx hp;have:=(h.anc m i1 i2).2.2.1;omega
def MeetAt(par:Nat->Int)(a b m:Nat):Prop:=∀ w,UpTo par m w↔UpTo par a w/\UpTo par b w
theorem XM{a:Nat}:MeetAt par a a a:=λw=>by simp
theorem mE{a b m:Nat}(h:MeetAt par a b m):MeetAt par b a m:=λw=>by rw[h w];exact And.comm
theorem Inv.meet_left(h:Inv S r n at_ par)(hinj:∀ x y,x<n->y<n->par x≠-2->par y≠-2->at_ x=at_ y->x=y){a b p m:Nat}(ha:a<n)(hpa:par a≠-2)(hb:b<n)(hpb:par b≠-2)(hab:a≠b)(hl:at_ b<=at_ a)(hp:par a=(p:Int))(k:MeetAt par p b m):MeetAt par a b m:=λw=>by
 rw[k w]
 constructor
 ·rintro⟨h1,h2⟩;exact⟨.up hp h1,h2⟩
 ·rintro⟨h1,h2⟩;rcases(anc_up hp).1 h1 with rfl|h1
  ·exfalso
   rcases h.strict h2 hb hpb with h3|h3
   ·exact hab h3
   ·omega
  ·exact⟨h1,h2⟩
end
section
variable {S:Nat->List Nat} {at_:Nat->Nat} {par:Nat->Int} {r n:Nat}
def R4(par:Nat->Int)(y:Nat)(v:Int):Nat->Int:=λx=>if x=y then v else par x
def fD(S:Nat->List Nat)(n:Nat)(par:Nat->Int)(y z:Nat):Prop:=∀ w,UpTo par z w↔∀ p,p<n->y∈S p->par p≠-2->UpTo par p w
theorem LG{y:Nat}{v:Int}{x z:Nat}(k:UpTo par x z)(hy:¬ UpTo par x y):UpTo (R4 par y v) x z:=by
 induction k with
 | refl x=>exact .refl _
 | @up x q z h t ih=>
  have hxy:x≠y:=by rintro rfl;exact hy (.refl _)
  refine .up  ?_ (ih λk=>hy (.up h k));unfold R4;rw[if_neg hxy];exact h
theorem cS{y:Nat}{v:Int}{x:Nat}(k:UpTo par x y):UpTo (R4 par y v) x y:=by
 induction k with
 | refl x=>exact .refl _
 | @up x q z h t ih=>
  by_cases hxy:x=z
  ·subst hxy;exact .refl _
  ·refine .up  ?_ ih;unfold R4;rw[if_neg hxy];exact h
theorem anc_upd_inv{y:Nat}{v:Int}{x w:Nat}(k:UpTo (R4 par y v) x w):UpTo par x w\/(UpTo par x y/\UpTo (R4 par y v) y w):=by
 induction k with
 | refl x=>exact .inl (.refl _)
 | @up x q w h t ih=>
  by_cases hxy:x=y
  ·subst hxy;exact .inr ⟨.refl _,.up h t⟩
  ·unfold R4 at h;rw[if_neg hxy]at h;rcases ih with h1|⟨h1,h2⟩
   ·exact .inl (.up h h1)
   ·exact .inr ⟨.up h h1,h2⟩
theorem low_or{y:Nat}{v:Int}{x d:Nat}(k:UpTo par x y)(hd:UpTo par x d):UpTo par y d\/UpTo (R4 par y v) x d:=by
 induction k with
 | refl x=>exact .inl hd
 | @up x q y hq t ih=>
  by_cases e:x=y
  ·subst e;exact .inl hd
  ·rcases(anc_up hq).1 hd with rfl|k
   ·exact .inr (.refl _)
   ·rcases ih k with h1|h1
    ·exact .inl h1
    ·exact .inr (.up  (by unfold R4;rw[if_neg e];exact hq) h1)
structure Better(S:Nat->List Nat)(r n:Nat)(at_:Nat->Nat)(par:Nat->Int)(y z:Nat):Prop where
 inv:Inv S r n at_ par
 hy:y<n
 hr:y≠r
 hz:z<n
 best:fD S n par y z
 fwd:∃ p,p<n/\y∈S p/\par p≠-2/\at_ p<at_ y
variable {y z:Nat}
theorem Better.zlt(h:Better S r n at_ par y z):UpTo par z z/\par z≠-2/\at_ z<at_ y/\Fw S at_ z y:=by
 obtain⟨p,hp,hyp,hpp,hl⟩:=h.fwd;obtain⟨h1,h2,h3,h4⟩:=h.inv.anc ((h.best z).1 (.refl _) p hp hyp hpp) hp hpp;exact⟨.refl _,h2,by omega,.step h4 hyp hl⟩
theorem Better.above(h:Better S r n at_ par y z){w:Nat}:UpTo (R4 par y z) z w↔UpTo par z w:=by
 obtain⟨_,h2,h3,_⟩:=h.zlt
 have hn:¬ UpTo par z y:=λk=>by have:=(h.inv.anc k h.hz h2).2.2.1;omega
 constructor
 ·intro k;rcases anc_upd_inv k with h1|⟨h1,_⟩
  ·exact h1
  ·exact absurd h1 hn
 ·intro k;exact LG k hn
theorem Better.here(h:Better S r n at_ par y z){w:Nat}:UpTo (R4 par y z) y w↔w=y\/UpTo par z w:=by
 rw[anc_up (p:=z) (by simp[R4]),h.above]
theorem Better.av_here(h:Better S r n at_ par y z){d:Nat}(hd:¬ UpTo (R4 par y z) y d):Av S r d y:=by
 rw[h.here]at hd;have h1:¬ ∀ p,p<n->y∈S p->par p≠-2->UpTo par p d:=λhh=>hd (.inr ((h.best d).2 hh));simp only[Classical.not_forall]at h1;obtain⟨p,hp,hyp,hpp,hnp⟩:=h1;exact .step (h.inv.all p hp hpp d hnp) hyp λe=>hd (.inl e.symm)
theorem Better.inv'(h:Better S r n at_ par y z):Inv S r n at_ (R4 par y z):=by
 obtain⟨hzz,hz2,hzl,hzf⟩:=h.zlt;obtain⟨p,hp,hyp,hpp,hl⟩:=h.fwd
 have hne:∀ x,R4 par y z x≠-2->x=y\/par x≠-2:=λx hx=>by
  by_cases e:x=y
  ·exact .inl e
  ·unfold R4 at hx;rw[if_neg e]at hx;exact .inr hx
 have hyv:R4 par y z y=z:=by simp[R4]
 have hyo:∀ x,x≠y->R4 par y z x=par x:=λx e=>by unfold R4;rw[if_neg e]
 refine⟨by rw[hyo _ (Ra h.hr)];exact h.inv.top,λx hx=>?_,λx hx w hw=>?_,λx hx hxp=>?_,λx hx hxp d hd=>?_⟩
 ·by_cases e:x=y
  ·grind
  ·rw[hyo x e];exact h.inv.kind x hx
 ·have hzn:∀ w,par w≠-2->R4 par y z w≠-2:=λw hw=>by
   grind
  by_cases e:x=y
  ·subst e;rw[hyv]at hw
   cases KS hw
   exact⟨h.hz,hzn _ hz2,hzl,hzf⟩
  ·rw[hyo x e]at hw;obtain⟨h1,h2,h3,h4⟩:=h.inv.up x hx w hw;exact⟨h1,hzn _ h2,h3,h4⟩
 ·rcases hne x hxp with rfl|h1
  ·exact .step (h.inv.rc p hp hpp) hyp
  ·exact h.inv.rc x hx h1
 ·by_cases e:x=y
  ·subst e;exact h.av_here hd
  ·rw[hyo x e]at hxp
   by_cases hxd:UpTo par x d
   ·
    by_cases hxy:UpTo par x y
    ·have hyd :=λk=>hd ((cS hxy).trans k);have hav:=h.av_here hyd;have hf:=(h.inv.anc hxy hx hxp).2.2.2
     have hdy:UpTo par y d:=by
      rcases low_or  hxy hxd with h1|h1
      ·exact h1
      ·exact absurd h1 hd
     by_cases hpy:par y = -2
     ·
      have :=by
       refine(NW  λp hp=>?_).1 hdy;rw[hpy]at hp;omega
      subst this;exact absurd (.refl _) hyd
     ·rcases h.inv.strict hdy h.hy hpy with rfl|hlt
      ·exact absurd (.refl _) hyd
      ·exact hf.av hav hlt
    ·exact absurd (LG hxd hxy) hd
   ·exact h.inv.all x hx hxp d hxd
end
section
variable {S:Nat->List Nat} {at_:Nat->Nat} {par:Nat->Int} {r n:Nat}
def QB(S:Nat->List Nat)(r n:Nat)(par:Nat->Int)(b:Nat->Nat):Prop:=∀ x,x<n->par x≠-2->∀ z,AvN S r z (b x) x->¬ UpTo par x z
def fE(S:Nat->List Nat)(r n:Nat)(par:Nat->Int):Prop:=∀ x,x<n->Rc S r x->par x≠-2
def jB(S:Nat->List Nat)(r n:Nat)(par:Nat->Int):Prop:=∀ x,x<n->par x≠-2->∀ d,UpTo par x d↔¬ Av S r d x
theorem uJ(h:Inv S r n at_ par):QB S r n par λ_=>0:=λx hx hp z hz k=>by
 cases hz with
 | root hr _=>exact hr (h.root_anc.1 k).symm
theorem kE(hS:∀ x,x<n->∀ w∈S x,w<n)(hr:r<n){x:Nat}(h:Rc S r x):x<n:=by
 induction h with
 | root=>exact hr
 | step _ hy ih=>exact hS _ ih _ hy
theorem Better.qb{y z k:Nat}{b:Nat->Nat}(h:Better S r n at_ par y z)(hS:∀ x,x<n->∀ w∈S x,w<n)(hrn:r<n)(full:fE S r n par)(hb:∀ x,x<n->k<=b x/\b x<=k+1)(q:QB S r n par b) :
  QB S r n (R4 par y z) λx=>if x=y then k+1 else b x:=by
 have here:∀ w,AvN S r w (k+1) y->¬ UpTo _ y w:=λw hw hu=>by
  rcases h.here.1 hu with rfl|hu
  ·exact hw.av.ne rfl
  ·cases hw with
   | root hr _=>exact h.hr rfl
   | @step _ p _ hp hyp hne=>
    have hpn:=kE hS hrn hp.av.rc;have hpp:=full p hpn hp.av.rc;exact q p hpn hpp w (hp.mono (hb p hpn).1) ((h.best w).1 hu p hpn hyp hpp)
 intro x hx hxp w hw hu
 dsimp only at hw
 by_cases e:x=y
 ·grind
 ·rw[if_neg e]at hw;unfold R4 at hxp;rw[if_neg e]at hxp;rcases anc_upd_inv hu with h1|⟨h1,h2⟩
  ·exact q x hx hxp w hw h1
  ·rcases hw.via y with h3|h3
   ·exact q x hx hxp y h3 h1
   ·exact here w (h3.mono (hb x hx).2) h2
theorem pH(h:Inv S r n at_ par){K:Nat}(hK:∀ z,z<n->∀ x,x<n->Av S r z x->AvN S r z K x)(q:QB S r n par λ_=>K):jB S r n par:=λx hx hp d=>by
 constructor
 ·intro hu ha;exact q x hx hp d (hK d (h.anc hu hx hp).1 x hx ha) hu
 ·intro ha;exact bf λhn=>ha (h.all x hx hp d hn)
theorem Better.same{y z:Nat}(h:Better S r n at_ par y z)(hS:∀ x,x<n->∀ w∈S x,w<n)(hrn:r<n)(full:fE S r n par)(hy2:par y≠-2)(ex:jB S r n par):par y=(z:Int):=by
 obtain⟨hzz,hz2,hzl,hzf⟩:=h.zlt;rcases h.inv.kind y h.hy with h1|h1|⟨q,hq⟩
 ·exact absurd h1 hy2
 ·exact absurd h1 h.hr
 ·obtain⟨q1,q2,q3,q4⟩:=h.inv.up y h.hy q hq
  have key:∀ w,UpTo par z w↔UpTo par q w:=λw=>by
   rw[h.best w]
   constructor
   ·intro hall
    have hwy:¬ Av S r w y:=λha=>by
     cases ha with
     | root _=>exact h.hr rfl
     | @step p _ hp hyp hne=>
      have hpn:=kE hS hrn hp.rc;have hpp:=full p hpn hp.rc;exact(ex p hpn hpp w).1 (hall p hpn hyp hpp) hp
    rcases(anc_up hq).1 ((ex y h.hy hy2 w).2 hwy) with rfl|hu
    ·have:=(h.inv.anc ((h.best _).2 hall) h.hz hz2).2.2.1;omega
    ·exact hu
   ·intro hu p hp hyp hpp;have hwy:UpTo par y w:=.up hq hu;refine(ex p hp hpp w).2 λha=>?_
    have hne:y≠w:=by rintro rfl;have:=(h.inv.anc hu q1 q2).2.2.1;omega
    exact(ex y h.hy hy2 w).1 hwy (.step ha hyp hne)
  have:=h.inv.antisymm ((key q).2 (.refl _)) ((key z).1 (.refl _)) h.hz hz2;rw[hq,this]
theorem li(h:Inv S r n at_ par)(hS:∀ x,x<n->∀ w∈S x,w<n)(hrn:r<n)(full:fE S r n par)(fix:∀ y,y<n->y≠r->Rc S r y->∃ z:Nat,par y=(z:Int)/\fD S n par y z):jB S r n par:=λx hx hp d=>by
 constructor
 ·intro hu ha
  induction ha with
  | root hne=>exact hne (h.root_anc.1 hu).symm
  | @step p y hp' hyp hne ih=>
   have hpn:=kE hS hrn hp'.rc;have hpp:=full p hpn hp'.rc
   by_cases e:y=r
   ·subst e;exact hne (h.root_anc.1 hu).symm
   ·obtain⟨z,hz,hb⟩:=fix y hx e (.step hp'.rc hyp);rcases(anc_up hz).1 hu with rfl|hu
    ·exact hne rfl
    ·exact ih hpn hpp ((hb d).1 hu p hpn hyp hpp)
 ·intro ha;exact bf λhn=>ha (h.all x hx hp d hn)
end
def Br(t:List Int):Nat->Int:=λx=>t.getD x 0
theorem d6{t:List Int}{y:Nat}{v:Int}(hy:y<t.length):Br (t.set y v)=R4 (Br t) y v:=by
 funext x
 unfold Br R4
 by_cases e:x=y
 ·grind
 ·grind
open Classical in
def Pl(S:Nat->List Nat)(n:Nat)(t:List Int)(y:Nat):Nat:=if h:∃ z,z<n/\fD S n (Br t) y z then Classical.choose h else 0
def AB(S:Nat->List Nat)(n:Nat)(P:List Nat)(t:List Int):Nat->List Int
 | 0=>t
 | i+1=>(AB S n P t i).set (P.getD i 0) (Pl S n (AB S n P t i) (P.getD i 0):Int)
def UO(S:Nat->List Nat)(n:Nat)(P:List Nat)(t:List Int):Nat->List Int
 | 0=>t
 | j+1=>AB S n P (UO S n P t j) P.length
def Jg(n r:Nat):List Int:=(List.replicate n (-2:Int)).set r (-1)
structure Ordered(S:Nat->List Nat)(r n:Nat)(P:List Nat):Prop where
 hr:r<n
 hS:∀ x,x<n->∀ w∈S x,w<n
 nodup:(r::P).Nodup
 mem:∀ x,x∈r::P↔Rc S r x
 fwd:∀ i,i<P.length->∃ p,p∈r::P.take i/\P.getD i 0∈S p
section
variable {S:Nat->List Nat} {r n:Nat} {P:List Nat}
theorem Ordered.lt(o:Ordered S r n P){x:Nat}(h:x∈r::P):x<n:=kE o.hS o.hr ((o.mem x).1 h)
theorem Wg{i:Nat}(hi:i<P.length):P.getD i 0∈P:=by grind
theorem Ordered.at_lt(o:Ordered S r n P){i:Nat}(hi:i<P.length){p:Nat}(hp:p∈r::P.take i):pos (r::P) p<pos (r::P) (P.getD i 0):=by
 have hd:=o.nodup
 have h1:pos (r::P) (P.getD i 0)=i+1:=by
  have:=(ON hd (i:=i+1) (by simpa using hi)).2;rw[Ab _ _ _ hi]
  simpa using this
 rw[h1];obtain⟨j,hj,rfl⟩:=Fx hp
 have hj':j<i+1:=by simp at hj;omega
 have hjl:j<(r::P).length:=by simp;omega
 have e:(r::P.take i)[j]=(r::P)[j]:=by
  grind
 rw[e,(ON hd hjl).2];exact hj'
theorem Aas(o:Ordered S r n P):Inv S r n (pos (r::P)) (Br (Jg n r))/\(Jg n r).length=n/\Br (Jg n r) r≠-2:=by
 have hlen:(Jg n r).length=n:=by simp[Jg]
 have hr:=o.hr
 have at_:∀ x,x<n->Br (Jg n r) x=if x=r then -1 else -2:=λx hx=>by
  unfold Br Jg
  by_cases e:x=r
  ·grind
  ·grind
 have hno:∀ x,x<n->∀ p:Nat,Br (Jg n r) x≠p:=λx hx p hp=>by grind
 refine⟨⟨by grind,λx hx=>?_,λx hx z hz=>absurd hz (hno x hx z),λx hx hp=>?_,λx hx hp d hd=>?_⟩,hlen,by grind⟩
 ·grind
 ·by_cases e:x=r
  ·subst e;exact .root
  ·grind
 ·by_cases e:x=r
  ·subst e;exact .root (λe=>hd (by rw[e];exact .refl _))
  ·grind
structure Ready(S:Nat->List Nat)(r n:Nat)(P:List Nat)(t:List Int)(i:Nat):Prop where
 inv:Inv S r n (pos (r::P)) (Br t)
 len:t.length=n
 done:∀ x∈r::P.take i,Br t x≠-2
theorem Inv.meets{at_:Nat->Nat}{par:Nat->Int}(h:Inv S r n at_ par)(hinj:∀ x y,x<n->y<n->par x≠-2->par y≠-2->at_ x=at_ y->x=y)(hr:at_ r=0):∀ m a b,at_ a+at_ b<=m->a<n->b<n->par a≠-2->par b≠-2->∃ c,MeetAt par a b c/\c<n/\par c≠-2:=by
 intro m
 induction m with
 | zero=>
  intro a b hm ha hb hpa hpb;have:a=b:=hinj a b ha hb hpa hpb (by omega);subst this;exact⟨a,XM,ha,hpa⟩
 | succ m ih=>
  have go:∀ a b,at_ a+at_ b<=m+1->a<n->b<n->par a≠-2->par b≠-2->at_ b<=at_ a->∃ c,MeetAt par a b c/\c<n/\par c≠-2:=λa b hm ha hb hpa hpb hl=>by
   by_cases e:a=b
   ·subst e;exact⟨a,XM,ha,hpa⟩
   ·rcases h.kind a ha with h1|h1|⟨p,hp⟩
    ·exact absurd h1 hpa
    ·subst h1;exact absurd (hinj a b ha hb hpa hpb (by omega)) e
    ·obtain⟨p1,p2,p3,p4⟩:=h.up a ha p hp;obtain⟨c,hc,hc2⟩:=ih p b (by omega) p1 hb p2 hpb;exact⟨c,h.meet_left hinj ha hpa hb hpb e hl hp hc,hc2⟩
  intro a b hm ha hb hpa hpb;rcases Nat.le_total (at_ b) (at_ a) with hl|hl
  ·exact go a b hm ha hb hpa hpb hl
  ·obtain⟨c,hc,hc2⟩:=go b a (by omega) hb ha hpb hpa hl;exact⟨c,mE hc,hc2⟩
theorem Ready.inj(o:Ordered S r n P){t:List Int}{i:Nat}(h:Ready S r n P t i):∀ x y,x<n->y<n->Br t x≠-2->Br t y≠-2->pos (r::P) x=pos (r::P) y->x=y:=λx y hx hy hpx hpy he=>by
 have hm :=λx hx hp=>(o.mem x).2 (h.inv.rc x hx hp)
 have back:∀ x∈r::P,(r::P).getD (pos _ x) 0=x:=λx hx=>by
  obtain⟨j,hj,rfl⟩:=Fx hx;rw[(ON o.nodup hj).2,Ab _ _ _ hj]
 rw[<- back x (hm x hx hpx),<- back y (hm y hy hpy),he]
theorem d9:pos (r::P) r=0:=by rw[RT,if_pos rfl]
theorem Ready.meetAll(o:Ordered S r n P){t:List Int}{i:Nat}(h:Ready S r n P t i):∀ l:List Nat,(∀ p∈l,p<n/\Br t p≠-2)->l≠[]->∃ z,z<n/\Br t z≠-2/\∀ w,UpTo (Br t) z w↔∀ p∈l,UpTo (Br t) p w:=by
 intro l
 induction l with
 | nil=>grind
 | cons p l ih=>
  intro hl _;obtain⟨hp1,hp2⟩:=hl p (zzL53 ..)
  by_cases hl0:l=[]
  ·grind
  ·obtain⟨z,hz1,hz2,hz3⟩:=ih (λq hq=>hl q (Ob _ hq)) hl0;obtain⟨c,hc1,hc2,hc3⟩:=h.inv.meets (h.inj o) d9 _ p z (zzL6 _) hp1 hz1 hp2 hz2;exact⟨c,hc2,hc3,λw=>by rw[hc1 w,hz3 w];simp⟩
theorem Ready.best(o:Ordered S r n P){t:List Int}{i:Nat}(h:Ready S r n P t i)(hi:i<P.length):Better S r n (pos (r::P)) (Br t) (P.getD i 0) (Pl S n t (P.getD i 0)):=by
 have hy:=Wg hi;have hyr:P.getD i 0≠r:=λe=>(zzL112.1 o.nodup).1 (e▸hy);have hyn:=o.lt (Ob _ hy);obtain⟨p,hp,hyp⟩:=o.fwd i hi;have hp2:=h.done p hp
 have hpP:p∈r::P:=by
  grind
 have hpn:=o.lt hpP
 have hex:∃ z,z<n/\fD S n (Br t) (P.getD i 0) z:=by
  classical
  obtain⟨z,hz1,hz2,hz3⟩:=h.meetAll o ((List.range n).filter λp=>decide (P.getD i 0∈S p/\Br t p≠-2)) (λp hp=>by
   grind) (λe=>by
   simp_all)
  refine⟨z,hz1,λw=>?_⟩
  constructor
  ·grind
  ·grind
 have hb:Pl S n t (P.getD i 0)<n/\fD S n (Br t) (P.getD i 0) (Pl S n t (P.getD i 0)):=by
  unfold Pl;rw[dif_pos hex];exact Classical.choose_spec hex
 exact⟨h.inv,hyn,hyr,hb.1,hb.2,p,hpn,hyp,hp2,o.at_lt hi hp⟩
theorem Ready.best_eq(o:Ordered S r n P){t:List Int}{i:Nat}(h:Ready S r n P t i)(hi:i<P.length){z:Nat}(hz:z<n)(hz2:Br t z≠-2)(hb:fD S n (Br t) (P.getD i 0) z):z=Pl S n t (P.getD i 0):=by
 have b:=h.best o hi;exact(h.inv.antisymm ((hb _).2 ((b.best _).1 (.refl _))) ((b.best _).2 ((hb _).1 (.refl _))) hz hz2).symm
theorem Ready.next(o:Ordered S r n P){t:List Int}{i:Nat}(h:Ready S r n P t i)(hi:i<P.length):Ready S r n P (t.set (P.getD i 0) (Pl S n t (P.getD i 0):Int)) (i+1):=by
 have b:=h.best o hi;have e:=d6   (v:=Pl S n t (P.getD i 0)) (by rw[h.len];exact b.hy);refine⟨by rw[e];exact b.inv',by rw[Db];exact h.len,λx hx=>?_⟩;rw[e];unfold R4
 split
 ·omega
 ·refine h.done x ?_;rcases zzL34.1 hx with rfl|hx
  ·grind
  ·rw[be hi]at hx;rcases zzL11.1 hx with hx|hx
   ·grind
   ·grind
theorem Ready.more(o:Ordered S r n P){t:List Int}(h:Ready S r n P t P.length)(i:Nat):Ready S r n P t i:=
 ⟨h.inv,h.len,λx hx=>h.done x (by
  grind)⟩
theorem Ready.full(o:Ordered S r n P){t:List Int}(h:Ready S r n P t P.length):fE S r n (Br t):=λx hx hr=>h.done x (by rw[W7];exact(o.mem x).2 hr)
theorem Ready.round(o:Ordered S r n P){t:List Int}(h:Ready S r n P t 0):∀ i,i<=P.length->Ready S r n P (AB S n P t i) i:=by
 intro i
 induction i with
 | zero=>intro _;exact h
 | succ i ih=>intro hi;exact(ih (by omega)).next o (by omega)
theorem xL(o:Ordered S r n P):Ready S r n P (Jg n r) 0:=by
 obtain⟨h1,h2,h3⟩:=Aas o;exact⟨h1,h2,λx hx=>by grind⟩
theorem Ready.rounds(o:Ordered S r n P):∀ j,Ready S r n P (UO S n P (Jg n r) j) 0:=by
 intro j
 induction j with
 | zero=>exact xL o
 | succ j ih=>exact((ih.round o) _ (zzL6 _)).more o 0
theorem Ready.rounds'(o:Ordered S r n P)(j:Nat):Ready S r n P (UO S n P (Jg n r) (j+1)) P.length:=(Ready.rounds o j).round o _ (zzL6 _)
theorem qK(o:Ordered S r n P){t:List Int}{k:Nat}(h:Ready S r n P t P.length)(q:QB S r n (Br t) λ_=>k):QB S r n (Br (AB S n P t P.length)) λ_=>k+1:=by
 have key:∀ i,i<=P.length->QB S r n (Br (AB S n P t i)) (λx=>if x∈P.take i then k+1 else k)/\fE S r n (Br (AB S n P t i)):=by
  intro i
  induction i with
  | zero=>intro _;exact⟨by simpa [AB] using q,h.full o⟩
  | succ i ih=>
   intro hi;obtain⟨q1,f1⟩:=ih (by omega);have rd:=(h.more o 0).round o i (by omega);have b:=rd.best o (by omega);have e:=d6   (v:=Pl S n (AB S n P t i) (P.getD i 0)) (by rw[rd.len];exact b.hy)
   constructor
   ·show QB S r n (Br ((AB S n P t i).set _ _)) _
    rw[e];have:=b.qb (k:=k) o.hS o.hr f1 (λx _=>by split<;>omega) q1;intro x hx hp z hz;refine this x hx hp z ?_;rw[be (by omega)]at hz
    by_cases e1:x=P.getD i 0
    ·grind
    ·grind
   ·show fE S r n (Br ((AB S n P t i).set _ _))
    rw[e];intro x hx hr;unfold R4
    split
    ·omega
    ·exact f1 x hx hr
 have q1:=(key _ (zzL6 _)).1;rw[W7]at q1;have rd:=(h.more o 0).round o _ (zzL6 _);intro x hx hp z hz;refine q1 x hx hp z ?_
 dsimp only at hz ⊢
 by_cases e:x∈P
 ·rw[if_pos e];exact hz
 ·rw[if_neg e]
  have hxr:x=r:=by
   rcases zzL34.1 ((o.mem x).2 (rd.inv.rc x hx hp)) with h1|h1
   ·exact h1
   ·exact absurd h1 e
  subst hxr;exact .root hz.av.ne k
def AL(S:Nat->List Nat)(n:Nat)(P:List Nat)(t:List Int):Prop:=∀ i,i<P.length->Br t (P.getD i 0)=(Pl S n t (P.getD i 0):Int)
theorem CA{t:List Int}(o:Ordered S r n P)(hl:t.length=n)(h:AL S n P t):∀ i,i<=P.length->AB S n P t i=t:=by
 intro i
 induction i with
 | zero=>intro _;rfl
 | succ i ih=>
  intro hi;unfold AB;rw[ih (by omega),<- h i (by omega)]
  have hlt:P.getD i 0<t.length:=by rw[hl];exact o.lt (Ob _ (Wg (by omega)))
  unfold Br;rw[Ab _ _ _ hlt];exact List.set_getElem_self hlt
theorem vO(o:Ordered S r n P):∃ J,(∀ j,j<J->¬ AL S n P (UO S n P (Jg n r) j))/\AL S n P (UO S n P (Jg n r) J):=by
 obtain⟨K,hK⟩:=lO   n
 have hq:∀ k,QB S r n (Br (UO S n P (Jg n r) (k+1))) λ_=>k:=by
  intro k
  induction k with
  | zero=>exact uJ (Ready.rounds' o 0).inv
  | succ k ih=>exact qK o (Ready.rounds' o k) ih
 have hst :=λi hi=>by
  have rd:=Ready.rounds' o K;exact((rd.more o i).best o hi).same o.hS o.hr (rd.full o) (rd.done _ (Ob _ (by grind))) (pH rd.inv hK (hq K))
 have key:∀ m,(∃ J,J<=m/\AL S n P (UO S n P (Jg n r) J))->∃ J,(∀ j,j<J->¬ AL S n P (UO S n P (Jg n r) j))/\AL S n P (UO S n P (Jg n r) J):=by
  intro m
  induction m with
  | zero=>grind
  | succ m ih=>
   rintro⟨J,hJ,h⟩
   by_cases hm:∃ J,J<=m/\AL S n P (UO S n P (Jg n r) J)
   ·exact ih hm
   ·grind
 exact key _ ⟨K+1,zzL6 _,hst⟩
structure DomTree(S:Nat->List Nat)(r n:Nat)(P:List Nat)(t:List Int):Prop where
 inv:Inv S r n (pos (r::P)) (Br t)
 len:t.length=n
 full:fE S r n (Br t)
 exact_:jB S r n (Br t)
theorem MM(o:Ordered S r n P){j:Nat}(h:AL S n P (UO S n P (Jg n r) j)):DomTree S r n P (UO S n P (Jg n r) j):=by
 have rd:=Ready.rounds o j
 have hall :=by
  have:=rd.round o _ (zzL6 _);rwa[CA o rd.len h _ (zzL6 _)]at this
 refine⟨rd.inv,rd.len,hall.full o,li rd.inv o.hS o.hr (hall.full o) λy hy hne hr=>?_⟩
 have hm:y∈P:=by
  rcases zzL34.1 ((o.mem y).2 hr) with h1|h1
  ·exact absurd h1 hne
  ·exact h1
 obtain⟨i,hi,rfl⟩:=Fx hm;have b:=(hall.more o i).best o hi;rw[Ab _ _ _ hi]at b;have hs:=h i hi;rw[Ab _ _ _ hi]at hs;exact⟨_,hs,b.best⟩
end
section
variable {S:Nat->List Nat} {s s':Nat->Bool} {l o:List Nat}
theorem VL.before(h:VL S s l s' o):∀ A z B,o=A++z::B->z∈l\/∃ p∈B,z∈S p:=by
 induction h with
 | nil s=>intro A z B e;simp at e
 | skip h _ ih=>
  grind
 | @step s s1 s2 y l o1 o2 h a b iha ihb=>
  intro A z B e;rcases List.append_eq_append_iff.1 e with⟨C,hC1,hC2⟩|⟨C,hC1,hC2⟩
  ·
   cases C with
   | nil=>
    grind
   | cons c C=>
    grind
  ·cases C with
   | nil=>
    grind
   | cons c C=>
    grind
theorem Ord.ordered{n r:Nat}{L:List Nat}(hr:r<n)(hS:∀ x,x<n->∀ w∈S x,w<n)(h:Ord S r L):∃ P,L=r::P/\Ordered S r n P:=by
 have h1:=h.nodup;have h2:=h.mem;obtain⟨s',o,hv,rfl⟩:=h;refine⟨o.reverse,rfl,hr,hS,h1,λx=>by rw[h2 x,rc_iff],λi hi=>?_⟩
 have e:o.reverse=o.reverse.take i++o.reverse[i]::o.reverse.drop (i+1):=by rw[<- SU hi,List.take_append_drop]
 have e2:o=(o.reverse.drop (i+1)).reverse++o.reverse[i]::(o.reverse.take i).reverse:=by
  have:=Bi List.reverse e
  simpa using this
 rw[Ab _ _ _ hi];rcases hv.before _ _ _ e2 with h3|⟨p,hp,hz⟩
 ·exact⟨r,zzL53 ..,h3⟩
 ·grind
end
def kR(S:Nat->List Nat)(w:Int):Nat->List Nat:=λx=>(S x).filter λy=>decide ((y:Int)≠w)
theorem qq(S:Nat->List Nat):kR S (-1)=S:=by
 funext x
 exact List.filter_eq_self.2 λy _=>Ci (by omega)
theorem ug(S:Nat->List Nat)(z:Nat):kR S (z:Int)=wo S z:=by
 funext x
 unfold kR wo
 congr 1
 funext y
 exact zzL78.2 ⟨λh e=>h (by rw[e]),λh e=>h (KS e)⟩
def M4(L:List (List Int))(r:Nat)(w:Int):List Bool:=if(r:Int)=w then List.replicate L.length false else HX (kR (sN L) w) L.length ((List.replicate L.length false).set r true) L.length
theorem RV(L:List (List Int))(r:Nat)(w:Int):(M4 L r w).length=L.length:=by
 unfold M4
 split
 ·simp
 ·rw[Yj];simp
theorem dR{L:List (List Int)}(hm:Ms L=true){r:Nat}(hr:r<L.length)(w:Int) :
  Da (Kh L) (r:Int) w=some (M4 L r w):=by
 obtain⟨h1,h2,h3⟩:=mayS_iff.1 hm
 have hroom:(1000:Nat)<=room:=by decide
 have hS:=Ww hm;have hSw:∀ z,z<L.length->∀ y∈kR (sN L) w z,y<L.length:=λz hz y hy=>hS z hz y (zzL113.1 hy).1;have hgs:(Kh L).Succ=L:=rfl
 have hlenS:∀ a,(sN L a).length=(L.getD a []).length:=λa=>by simp[sN]
 let fl:List Nat->List Nat:=λl=>l.filter λy=>decide ((y:Int)≠w)
 have hin:∀(o:List Bool) (i:Nat),o.length=L.length->i<L.length->Ac (A3 (Kh L) w (i:Int)) ((0:Int),o)=some (if o.getD i false=true then mk o (kR (sN L) w i) else o):=λo i ho hi=>by
  have hb:=DM (h3 i hi)
  by_cases hoi:o.getD i false=true
  ·rw[if_pos hoi];have hmi:∀ k,(mk o (fl ((sN L i).take k))).getD i false=true:=λk=>(mk_at (n:=L.length) _ _ ho (λy hy=>hS i hi y (List.mem_of_mem_take (zzL113.1 hy).1)) i).2 (.inl hoi)
   have hml:∀ k,(mk o (fl ((sN L i).take k))).length=L.length:=λk=>by rw[gi,ho]
   refine Ek (A3 (Kh L) w (i:Int)) (λk=>(((k:Nat):Int),mk o (fl ((sN L i).take k)))) _ (L.getD i []).length (λk hk=>?_) ?_
   ·show A3 (Kh L) w (i:Int) (_,_)=_
    unfold A3;obtain⟨a0,a1⟩:=BD (h3 i hi) hk;simp only[hgs,Am,hmi];rw[Ad (Fv (by rw[hml];exact hi)),M6 (Fv hi),Ah,Bx hk,Ah,Ad (Fv hi),Ad (Fv hk)]
    have hk':k<(sN L i).length:=by rw[hlenS];exact hk
    have hsk:(sN L i)[k]=((L.getD i []).getD k 0).toNat:=by rw[Ab _ _ _ hk];simp[sN]
    have hski:(((sN L i)[k]:Nat):Int)=(L.getD i []).getD k 0:=by rw[hsk];exact Za a0
    have e:mk o (fl ((sN L i).take (k+1)))=if(L.getD i []).getD k 0=w then mk o (fl ((sN L i).take k)) else(mk o (fl ((sN L i).take k))).set ((L.getD i []).getD k 0).toNat true:=by
     rw[be hk']
     show mk o (List.filter _ (_++[_]))=_
     rw[W5]
     by_cases hw:(L.getD i []).getD k 0=w
     ·rw[if_pos hw]
      have:List.filter (λy:Nat=>decide ((y:Int)≠w)) [(sN L i)[k]]=[]:=by rw[List.filter_cons,hski,hw];simp
      rw[this,List.append_nil]
     ·rw[if_neg hw]
      have:List.filter (λy:Nat=>decide ((y:Int)≠w)) [(sN L i)[k]]=[(sN L i)[k]]:=by rw[List.filter_cons,hski,if_pos (Ci hw)];rfl
      rw[this];unfold mk;rw[List.foldl_append,hsk]
      rfl
    by_cases hw:(L.getD i []).getD k 0=w
    ·have hne:((L.getD i []).getD k 0 !=w)=false:=by rw[hw];simp
     rw[hne,Aw,An,w1 (by omega),e,if_pos hw]
    ·have hne:((L.getD i []).getD k 0 !=w)=true:=by rw[zzL100];exact hw
     rw[hne,Ah,Ad (Fv hi),Ad (Fv hk),Ad ⟨a0,by rw[hml];exact a1⟩,w1 (by omega),e,if_neg hw]
     rfl
   ·show A3 (Kh L) w (i:Int) (_,_)=_
    unfold A3;simp only[hgs,Am,hmi];rw[Ad (Fv (by rw[hml];exact hi)),M6 (Fv hi),Ah,C8,Aw]
    have:(sN L i).take (L.getD i []).length=sN L i:=by rw[<- hlenS];exact W7 ..
    rw[this]
    rfl
  ·have hof:o.getD i false=false:=by simpa using hoi
   rw[if_neg hoi]
   apply Ak
   unfold A3;simp only[hgs,Am,hof];rw[Ad (Fv (by rw[ho];exact hi)),M6 (Fv hi),Aw,Aw]
 have hsw:∀ o:List Bool,o.length=L.length->Ac (A4 (Kh L) w) ((0:Int),o)=some (sw (kR (sN L) w) o L.length):=λo ho=>by
  refine Ek (A4 (Kh L) w) (λi=>(((i:Nat):Int),sw (kR (sN L) w) o i)) _ L.length (λi hi=>?_) ?_
  ·show A4 (Kh L) w (_,_)=_
   unfold A4
   have hl:(sw (kR (sN L) w) o i).length=L.length:=by rw[sw_len,ho]
   simp only[hl,Bx hi,Ah];rw[hin _ i hl hi,w1 (by omega)]
   rfl
  ·show A4 (Kh L) w (_,_)=_
   unfold A4
   have hl:(sw (kR (sN L) w) o L.length).length=L.length:=by rw[sw_len,ho]
   simp only[hl,C8,Aw]
 unfold Da;simp only[hgs,Am];rw[Ad ⟨by omega,Int.le_refl _,by omega⟩];unfold M4
 by_cases hrw:(r:Int)=w
 ·rw[if_pos hrw]
  have:((r:Int)==w)=true:=by simpa using hrw
  rw[this,Ah]
 ·rw[if_neg hrw]
  have hne:((r:Int)==w)=false:=by rw[zzL30];exact hrw
  rw[hne,Aw,Ad (Fv (by simpa using hr))]
  have hl0:((List.replicate L.length false).set r true).length=L.length:=by simp
  have:Ac (A5 (Kh L) w) ((0:Int),(List.replicate L.length false).set r true)=some (HX (kR (sN L) w) L.length ((List.replicate L.length false).set r true) L.length):=by
   refine Ek (A5 (Kh L) w) (λj=>(((j:Nat):Int),HX (kR (sN L) w) L.length ((List.replicate L.length false).set r true) j)) _ L.length (λj hj=>?_) ?_
   ·show A5 (Kh L) w (_,_)=_
    unfold A5
    have hl:(HX (kR (sN L) w) L.length ((List.replicate L.length false).set r true) j).length=L.length:=by rw[Yj,hl0]
    simp only[hl,Bx hj,Ah];rw[hsw _ hl,w1 (by omega)]
    rfl
   ·show A5 (Kh L) w (_,_)=_
    unfold A5
    have hl:(HX (kR (sN L) w) L.length ((List.replicate L.length false).set r true) L.length).length=L.length:=by rw[Yj,hl0]
    simp only[hl,C8,Aw]
  rw[this]
  rfl
theorem qL{L:List (List Int)}(hm:Ms L=true){r:Nat}(hr:r<L.length){b:Nat}:(M4 L r (-1)).getD b false=true↔Rc (sN L) r b:=by
 unfold M4;rw[if_neg (by omega),qq,BQ (Ww hm) hr b,rc_iff]
theorem g9{L:List (List Int)}(hm:Ms L=true){r:Nat}(hr:r<L.length){a b:Nat}(hb:b<L.length):(M4 L r (a:Int)).getD b false=true↔Av (sN L) r a b:=by
 unfold M4;rw[av_iff]
 by_cases h:r=a
 ·grind
 ·rw[if_neg (by omega),ug,BQ (S:=wo _ a) (λz hz y hy=>Ww hm z hz y (zzL113.1 hy).1) hr b];simp[h]
def Pz(L:List (List Int))(r a b:Nat):Bool:=(M4 L r (-1)).getD b false&&!(M4 L r (a:Int)).getD b false
theorem dz{L:List (List Int)}(hm:Ms L=true){r a b:Nat}(hr:r<L.length)(hb:b<L.length):Pz L r a b=true↔Rc (sN L) r b/\¬ Av (sN L) r a b:=by
 unfold Pz;rw[A6,Zb,<- Bool.not_eq_true,qL hm hr,g9 hm hr hb]
def RB(L:List (List Int))(r a b:Nat):Bool:=(List.range L.length).all λc=>decide (c=b) || !Pz L r c b || Pz L r c a
def T8(L:List (List Int))(r b:Nat):Nat->Int
 | 0=>-2
 | a+1=>if a≠b/\Pz L r a b=true/\RB L r a b=true then(a:Int) else T8 L r b a
def Yp(L:List (List Int))(r b:Nat):Int:=if b=r then -1 else T8 L r b L.length
def Y8(L:List (List Int))(r:Nat):List Int:=(List.range L.length).map (Yp L r)
theorem YM(L:List (List Int))(r:Nat):(Y8 L r).length=L.length:=by simp[Y8]
theorem qi{L:List (List Int)}{r b:Nat}(hb:b<L.length):(Y8 L r).getD b 0=Yp L r b:=by unfold Y8;rw[Pa hb]
theorem pick_cases(L:List (List Int))(r b:Nat):∀ m,(T8 L r b m = -2/\∀ a,a<m->¬ (a≠b/\Pz L r a b=true/\RB L r a b=true))\/∃ a,a<m/\T8 L r b m=(a:Int)/\a≠b/\Pz L r a b=true/\RB L r a b=true:=by
 intro m
 induction m with
 | zero=>exact .inl ⟨rfl,λa ha=>absurd ha (Xa a)⟩
 | succ m ih=>
  unfold T8
  by_cases h:m≠b/\Pz L r m b=true/\RB L r m b=true
  ·grind
  ·grind
theorem DomTree.eq{L:List (List Int)}(hm:Ms L=true){r:Nat}(hr:r<L.length){P t:List _}(o:Ordered (sN L) r L.length P)(h:DomTree (sN L) r L.length P t):t=Y8 L r:=by
 refine CI (by rw[h.len,YM]) λb h1 h2=>?_
 have hb:b<L.length:=by rw[<- h.len];exact h1
 rw[<- Ab _ _ 0 h1,<- Ab _ _ 0 h2,qi hb]
 show Br t b=_
 have hov:∀ a b,b<L.length->Br t b≠-2->(Pz L r a b=true↔UpTo _ b a):=λa b hb hp=>by
  rw[dz hm hr hb,h.exact_ b hb hp];exact⟨λk=>k.2,λk=>⟨h.inv.rc b hb hp,k⟩⟩
 unfold Yp
 by_cases hbr:b=r
 ·subst hbr;rw[if_pos rfl];exact h.inv.top
 ·rw[if_neg hbr];rcases h.inv.kind b hb with hk|hk|⟨z,hz⟩
  ·
   have hn :=λk=>h.full b hb k hk;rcases pick_cases L r b _ with⟨h3,_⟩|⟨a,_,_,_,h6,_⟩
   ·rw[hk,h3]
   ·exact absurd ((dz hm hr hb).1 h6).1 hn
  ·exact absurd hk hbr
  ·obtain⟨z1,z2,z3,z4⟩:=h.inv.up b hb z hz
   have hp:Br t b≠-2:=by omega
   have hzo :=(hov z b hb hp).2 (.up hz (.refl _))
   have hzb:z≠b:=by rintro rfl;omega
   have hnear:RB L r z b=true:=all_range.2 λc hc=>by
    by_cases e:c=b
    ·simp[e]
    ·cases ho:Pz L r c b with
     | false=>simp
     | true=>
      have:=(hov c b hb hp).1 ho;rcases(anc_up hz).1 this with h3|h3
      ·exact absurd h3 e
      ·grind
   rcases pick_cases L r b L.length with⟨_,h3⟩|⟨a,h3,h4,h5,h6,h7⟩
   ·grind
   ·rw[h4,hz];have haU:=(hov a b hb hp).1 h6
    have ha1:UpTo (Br t) z a:=by
     rcases(anc_up hz).1 haU with h8|h8
     ·exact absurd h8 h5
     ·exact h8
    have hap:=(h.inv.anc ha1 z1 z2).2.1
    have hza :=by
     have:=all_range.1 h7 z z1;simp only[hzo,hzb, Dq]at this;exact(hov z a h3 hap).1 this
    rw[h.inv.antisymm ha1 hza z1 z2]
theorem jr{g:TGraph}(h:DY g=true):Ms g.Succ=true/\g=Kh g.Succ:=by
 unfold DY at h;rw[A6]at h;refine⟨h.1,?_⟩;obtain⟨s,p⟩:=g;have:=KP h.2;simp only at this;unfold Kh;rw[this]
theorem GU{a b:Nat}:(((a:Nat):Int)==(b:Int))=decide (a=b):=by
 grind
theorem jO{a b:Nat}:(((a:Nat):Int)!=(b:Int)) = !decide (a=b):=by
 unfold bne;rw[GU]
section
variable {L:List (List Int)} (hm:Ms L=true) {r:Nat} (hr:r<L.length)
def SG(L:List (List Int))(r a k:Nat):List Bool:=(List.range L.length).map λb=>if b<k then Pz L r a b else false
def SF(L:List (List Int))(r a:Nat):List Bool:=(List.range L.length).map λb=>Pz L r a b
def mP(L:List (List Int))(r:Nat):List (List Bool):=(List.range L.length).map λa=>SF L r a
theorem j7:(mP L r).length=L.length:=by simp[mP]
theorem qG{a:Nat}(ha:a<L.length):(mP L r).getD a []=SF L r a:=by unfold mP;rw[Pa ha]
theorem eM{a:Nat}:(SF L r a).length=L.length:=by simp[SF]
theorem bX{a b:Nat}(hb:b<L.length):(SF L r a).getD b false=Pz L r a b:=by unfold SF;rw[Pa hb]
include hm hr
omit hr in
theorem ua(a:Nat)(l5:List (List Bool))(hl5:l5.length=L.length)(ha:a<L.length):Ac (Dg (Kh L) (M4 L r (-1)) (a:Int) l5 (M4 L r (a:Int))) ((0:Int),List.replicate L.length false)=some (SF L r a):=by
 obtain⟨h1,h2,h3⟩:=mayS_iff.1 hm;have hgs:(Kh L).Succ=L:=rfl
 have e0:List.replicate L.length false=SG L r a 0:=by
  refine CI (by simp[SG]) λi h1 h2=>by simp[SG]
 have e1:SF L r a=SG L r a L.length:=by
  unfold SF SG
  exact Hp λi hi=>by rw[if_pos hi]
 have hlen:∀ k,(SG L r a k).length=L.length:=λk=>by simp[SG]
 rw[e0];refine Ek (Dg (Kh L) (M4 L r (-1)) (a:Int) l5 (M4 L r (a:Int))) (λk=>(((k:Nat):Int),SG L r a k)) _ L.length (λk hk=>?_) ?_
 ·show Dg (Kh L) _ _ _ _ (_,_)=_
  unfold Dg;simp only[hgs,Am,Bx hk,Ah];rw[Ad (Fv (by rw[hl5];exact ha)),Ad (Fv (by rw[RV];exact hk)),Ad (λ_=>Fv (by rw[RV];exact hk)),Ad (Fv (by rw[hlen];exact hk)),w1 (by omega)]
  have:(SG L r a k).set k (bif (M4 L r (-1)).getD k false then !(M4 L r (a:Int)).getD k false else false)=SG L r a (k+1):=by
   unfold SG;rw[BZ];refine Hp λi hi=>?_
   by_cases e:i=k
   ·subst e;rw[if_pos rfl,if_pos (by omega)];unfold Pz
    cases(M4 L r (-1)).getD i false<;>rfl
   ·rw[if_neg e]
    by_cases e2:i<k
    ·rw[if_pos e2,if_pos (by omega)]
    ·rw[if_neg e2,if_neg (by omega)]
  rw[this]
 ·show Dg (Kh L) _ _ _ _ (_,_)=_
  unfold Dg;simp only[hgs,C8,Aw];rw[e1]
theorem ub:Ac (In (Kh L) (r:Int) (M4 L r (-1))) ((0:Int),List.replicate L.length ([]:List Bool))=some (mP L r):=by
 obtain⟨h1,h2,h3⟩:=mayS_iff.1 hm;have hgs:(Kh L).Succ=L:=rfl
 have hroom:1000<=room:=by decide
 let M:Nat->List _:=λk=>(List.range L.length).map λa=>if a<k then SF L r a else[]
 have hM:∀ k,(M k).length=L.length:=λk=>by simp[M]
 have e0:List.replicate L.length []=M 0:=by
  refine CI (by simp[M]) λi h1 h2=>by simp[M]
 have e1:mP L r=M _:=Hp λi hi=>by rw[if_pos hi]
 rw[e0];refine Ek _ (λk=>(((k:Nat):Int),M k)) _ L.length (λk hk=>?_) ?_
 ·unfold In;simp only[hgs,Am,Bx hk,Ah];rw[Ad ⟨by omega,Int.le_refl _,by omega⟩,Ad (Fv (by rw[hM];exact hk)),dR hm hr,An,ua hm k (M k) (hM k) hk,An,w1 (by omega)]
  have:(M k).set k (SF L r k)=M (k+1):=by
   rw[BZ];refine Hp λi hi=>?_
   by_cases e:i=k
   ·grind
   ·grind
  rw[this]
 ·unfold In;simp only[hgs,C8,Aw];rw[e1]
omit hr in
theorem uc(a b:Nat)(ha:a<L.length)(hb:b<L.length):Ac (Dh (Kh L) (mP L r) (b:Int) (a:Int)) (true,(0:Int))=some (RB L r a b):=by
 obtain⟨h1,h2,h3⟩:=mayS_iff.1 hm;have hgs:(Kh L).Succ=L:=rfl
 let N:Nat->Bool:=λk=>(List.range k).all λc=>decide (c=b) || !Pz L r c b || Pz L r c a
 refine Ek (Dh (Kh L) (mP L r) (b:Int) (a:Int)) (λk=>(N k,((k:Nat):Int))) _ L.length (λk hk=>?_) ?_
 ·show Dh (Kh L) _ _ _ (_,_)=_
  unfold Dh;simp only[hgs,Am,Bx hk,Ah,qG hk,j7,eM,bX hb,bX ha];rw[Ad (λ_=>Fv hk),Ad (λ_=>Fv hb),Ad (λ_=>Fv hk),Ad (λ_=>Fv ha),w1 (by omega),GU]
  have:(bif N k then(bif (bif decide (k=b) then true else !Pz L r k b) then true else Pz L r k a) else false)=N (k+1):=by
   show _=(List.range (k+1)).all _
   rw[oF]
   show _=(N k&&_)
   cases N k<;>cases decide (k=b)<;>cases Pz L r k b<;>rfl
  rw[this]
 ·show Dh (Kh L) _ _ _ (_,_)=_
  unfold Dh;simp only[hgs,C8,Aw]
  rfl
def Rk(L:List (List Int))(r b:Nat)(x:Int):List Int:=(List.range L.length).map λj=>if j<b then Yp L r j else if j=b then x else 0
omit hm hr in
theorem KH{b:Nat}{x:Int}:(Rk L r b x).length=L.length:=by simp[Rk]
omit hm hr in
theorem KI{b:Nat}{x y:Int}:(Rk L r b x).set b y=Rk L r b y:=by
 unfold Rk;rw[BZ];refine Hp λi hi=>?_
 by_cases e:i=b
 ·subst e;rw[if_pos rfl,if_neg (by omega),if_pos rfl]
 ·rw[if_neg e,if_neg e,if_neg e]
omit hm hr in
theorem SN{b:Nat}:Rk L r b (Yp L r b)=Rk L r (b+1) 0:=by
 unfold Rk;refine Hp λi hi=>?_
 by_cases e:i<b
 ·rw[if_pos e,if_pos (by omega)]
 ·rw[if_neg e]
  by_cases e2:i=b
  ·subst e2;rw[if_pos rfl,if_pos (by omega)]
  ·rw[if_neg e2,if_neg (by omega)];split<;>rfl
omit hr in
theorem ud(b:Nat)(hb:b<L.length)(hbr:b≠r):Ac (B2 (Kh L) (r:Int) (mP L r) (b:Int)) ((0:Int),Rk L r b (-2))=some (Rk L r b (T8 L r b L.length)):=by
 obtain⟨h1,h2,h3⟩:=mayS_iff.1 hm;have hgs:(Kh L).Succ=L:=rfl;refine Ek (B2 (Kh L) (r:Int) (mP L r) (b:Int)) (λk=>(((k:Nat):Int),Rk L r b (T8 L r b k))) _ L.length (λk hk=>?_) ?_
 ·show B2 (Kh L) _ _ _ (_,_)=_
  unfold B2
  have hne:decide (b=r)=false:=by simp[hbr]
  simp only[hgs,Am,Bx hk,Ah,qG hk,j7,eM,bX hb,GU,jO,hne,J9];rw[Ad (λ_=>Fv hk),Ad (λ_=>Fv hb),uc hm k b hk hb]
  by_cases hkb:k=b
  ·have e:T8 L r b (k+1)=T8 L r b k:=by show(if _ then _ else _)=_;rw[if_neg (λh=>h.1 hkb)]
   rw[Ci hkb,Ah,Ah,An,w1 (by omega),e]
  ·rw[Ch hkb,Aw]
   cases ho:Pz L r k b with
   | false=>
    have e:T8 L r b (k+1)=T8 L r b k:=by show(if _ then _ else _)=_;rw[if_neg (λh=>by rw[ho]at h;exact absurd h.2.1 (by decide))]
    rw[J9,Ah,An,w1 (by omega),e]
   | true=>
    rw[Dq,Aw,An]
    cases hn:RB L r k b with
    | false=>
     have e:T8 L r b (k+1)=T8 L r b k:=by show(if _ then _ else _)=_;rw[if_neg (λh=>by rw[hn]at h;exact absurd h.2.2 (by decide))]
     rw[Aw,An,w1 (by omega),e]
    | true=>
     have e:T8 L r b (k+1)=(k:Int):=by show(if _ then _ else _)=_;rw[if_pos ⟨hkb,ho,hn⟩]
     rw[Ah,Ad (Fv (by rw[KH];exact hb)),An,w1 (by omega),e,KI]
 ·show B2 (Kh L) _ _ _ (_,_)=_
  unfold B2;simp only[hgs,C8,Aw]
omit hr in
theorem ue:Ac (Di (Kh L) (r:Int) (mP L r)) ((0:Int),List.replicate L.length (0:Int))=some (Y8 L r):=by
 obtain⟨h1,h2,h3⟩:=mayS_iff.1 hm;have hgs:(Kh L).Succ=L:=rfl
 have e0:List.replicate L.length (0:Int)=Rk L r 0 0:=by
  refine CI (by simp[Rk]) λi h1 h2=>by simp[Rk]
 have e1:Y8 L r=Rk L r L.length 0:=Hp λi hi=>by rw[if_pos hi]
 rw[e0];refine Ek (Di (Kh L) (r:Int) (mP L r)) (λk=>(((k:Nat):Int),Rk L r k 0)) _ L.length (λk hk=>?_) ?_
 ·show Di (Kh L) _ _ (_,_)=_
  unfold Di;simp only[hgs,Am,Bx hk,Ah];rw[Ad (Fv (by rw[KH];exact hk)),GU,KI,KI]
  by_cases hkr:k=r
  ·rw[Ci hkr,Ah,Ad (Fv (by rw[KH];exact hk)),An]
   have hd:Ac (B2 (Kh L) (r:Int) (mP L r) (k:Int)) ((0:Int),Rk L r k (-1))=some (Rk L r k (-1)):=by
    apply Ak
    unfold B2;simp only[jO,Ci hkr,Dq,oZ,Aw]
   rw[hd,An,w1 (by omega)]
   have:Yp L r k = -1:=by unfold Yp;rw[if_pos hkr]
   rw[<- this,SN]
  ·rw[Ch hkr,Aw,An,ud hm k hk hkr,An,w1 (by omega)]
   have:Yp L r k=T8 L r k L.length:=by unfold Yp;rw[if_neg hkr]
   rw[<- this,SN]
 ·show Di (Kh L) _ _ (_,_)=_
  unfold Di;simp only[hgs,C8,Aw];rw[e1]
end
def MN(g:TGraph)(r:Int):List Int:=if DY g=true/\0<=r/\r<(g.Succ.length:Int) then Y8 g.Succ r.toNat else[]
theorem gf(g:TGraph)(h:Fits g.Succ)(r:Int):Kt g r=some (MN g r):=by
 have hroom:1000<=room:=by decide
 unfold Kt MN;rw[lw g h,An]
 cases hmg:DY g with
 | false=>
  rfl
 | true=>
  rw[Dq,Aw]
  by_cases h0:r<0
  ·grind
  ·rw[Ch h0,Aw]
   by_cases h1:g.Succ.length<=r
   ·grind
   ·rw[Ch h1,Aw,if_pos ⟨rfl,by omega,by omega⟩];obtain⟨hms,hg⟩:=jr hmg;obtain⟨hl1,hl2,hl3⟩:=mayS_iff.1 hms;obtain⟨q,rfl⟩:∃ q:Nat,r=q:=⟨r.toNat,by omega⟩
    have hq:q<g.Succ.length:=by omega
    rw[hg];have hgs:(Kh _).Succ=g.Succ:=rfl;simp only[hgs,Am];rw[dR hms hq,An,Ad ⟨by omega,Int.le_refl _,by omega⟩,ub hms hq,An,Ad ⟨by omega,Int.le_refl _,by omega⟩,ue hms,An]
def upD(t:List Int):Nat->Int->Option (List Int)
 | 0,_=>none
 | k+1,a=>if 0<=a/\a<(t.length:Int) then(if t.getD a.toNat 0 = -1 then some [a] else(upD t k (t.getD a.toNat 0)).map λl=>a::l) else none
def E5(t:List Int)(a:Int):List Int:=(upD t t.length a).getD []
def Aav(l:List Int):Option (List Int)->Unit ⊕ List Int
 | none=>.inl ()
 | some q=>.inr (l++q)
theorem mQ(t:List Int)(ht:t.length<=1000):∀(k:Nat) (a:Int) (l:List Int),l.length+k=t.length->Ac (Cl t) (a,l)=some (Aav l (upD t k a)):=by
 have hroom:2000<=room:=by decide
 intro k
 induction k with
 | zero=>
  intro a l hl
  apply Ak
  unfold Cl;have:decide ((l.length:Int)<t.length)=false:=Ch (by omega);simp only[this]
  rfl
 | succ k ih=>
  intro a l hl;have hlt:decide (l.length<(t.length:Int))=true:=Ci (by omega);unfold upD
  by_cases h0:0<=a
  ·by_cases h1:a<t.length
   ·have hin:A1 a _:=⟨h0,h1⟩;rw[if_pos ⟨h0,h1⟩]
    by_cases ht1:t.getD a.toNat 0 = -1
    ·apply Ak
     unfold Cl;simp only[hlt,Ci h0,Ci h1];rw[Ad (by simp;omega),Ad hin,ht1]
     rfl
    ·rw[if_neg ht1]
     have hs:Cl t (a,l)=some (.next (t.getD a.toNat 0,l++[a])):=by
      unfold Cl;have hb :=zzL30.2 ht1;simp only[hlt,Ci h0,Ci h1,Ah];rw[Ad (by simp;omega),Ad hin,hb,Aw,Ad hin]
     rw[Ap hs,ih _ _ (by simp;omega)]
     cases upD t k _ with
     | none=>rfl
     | some q=>show some (Sum.inr _)=some (Sum.inr _);simp
   ·rw[if_neg (by omega)]
    apply Ak
    unfold Cl;simp only[hlt,Ci h0,Ch h1,Ah]
    rfl
  ·rw[if_neg (by omega)]
   apply Ak
   unfold Cl;simp only[hlt,Ch h0,Ah]
   rfl
theorem ge(t:List Int)(ht:t.length<=1000)(a:Int):Gd t a=some (E5 t a):=by
 unfold Gd E5;rw[mQ t ht t.length a [] (by simp)]
 cases upD t _ a with
 | none=>rfl
 | some q=>rfl
theorem kP(t:List Int):∀ k a q,upD t k a=some q->q.length<=k/\1<=q.length:=by
 intro k
 induction k with
 | zero=>intro a q h;cases h
 | succ k ih=>
  intro a q h;unfold upD at h
  split at h
  ·split at h
   ·cases h;simp
   ·cases hu:upD t k _ with
    | none=>rw[hu]at h;cases h
    | some q'=>grind
  ·cases h
theorem XX(t:List Int)(a:Int):(E5 t a).length<=t.length:=by
 unfold E5
 cases h:upD t _ a with
 | none=>simp
 | some q=>exact(kP t _ _ _ h).1
theorem pathD_nil{t:List Int}{a:Int}:E5 t a=[]↔upD t t.length a=none:=by
 unfold E5
 cases h:upD t _ a with
 | none=>simp
 | some q=>have:=(kP t _ _ _ h).2;simp;intro e;subst e;simp at this
def topsK(t:List Int)(k:Nat):Nat:=((List.range k).filter λa=>decide (t.getD a 0 = -1)).length
def px(t:List Int)(a:Nat):Bool:=decide (t.getD a 0 = -2) || !decide (E5 t (a:Int)=[])
def M5(t:List Int):Bool:=(List.range t.length).all (px t)&&decide (topsK t t.length=1)
theorem FS(t:List Int)(k:Nat):topsK t (k+1)=topsK t k+if t.getD k 0 = -1 then 1 else 0:=by
 unfold topsK;rw[Xb,W5]
 by_cases h:t.getD k 0 = -1
 ·grind
 ·grind
theorem qg(t:List Int)(k:Nat):topsK t k<=k:=by
 exact P3 (List.length_filter_le ..) (by simp)
theorem pe{l:List Int}:(((l.length:Nat):Int)==(0:Int))=decide (l=[]):=by
 cases l with
 | nil=>rfl
 | cons x l=>simp;omega
theorem iD(t:List Int)(ht:t.length<=1000):Ac (Bw t) ((0:Int),(0:Int))=some (bif (List.range t.length).all (px t) then .inl ((topsK t t.length:Nat):Int) else .inr false):=by
 have body:∀ k,k<t.length->Bw t (((topsK t k:Nat):Int),(k:Int))=some (bif px t k then .next (((topsK t (k+1):Nat):Int),((k+1:Nat):Int)) else .done (.inr false)):=λk hk=>by
  have hle:=qg t k;unfold Bw;simp only[Am,Bx hk,Ah];rw[Ad (Fv hk)]
  have e1:(bif (t.getD k 0==(-1:Int)) then some (w64 (((topsK t k:Nat):Int)+1)) else some ((topsK t k:Nat):Int))=some ((topsK t (k+1):Nat):Int):=by
   rw[FS]
   by_cases h:t.getD k 0 = -1
   ·rw[if_pos h,zzL63.2 h,Ah,w1 (by omega)]
   ·rw[if_neg h,zzL30.2 h,Aw];rfl
  rw[e1,An]
  by_cases h2:t.getD k 0 = -2
  ·have hb:(t.getD k 0 !=(-2:Int))=false:=by rw[h2];rfl
   have ho:px t k=true:=by unfold px;rw[Ci h2];rfl
   rw[hb,show(false==true)=false from rfl,Aw,An,Aw,Aw,Ad (Fv hk),w1 (by omega),ho,Ah]
  ·have hb:(t.getD k 0 !=(-2:Int))=true:=zzL100.2 h2
   have ho:px t k = !decide (E5 t (k:Int)=[]):=by unfold px;rw[Ch h2];rfl
   rw[hb,show(true==true)=true from rfl,Ah,ge t ht,An,Ah,pe,Ad (Fv hk),w1 (by omega),ho]
   cases decide (E5 t (k:Int)=[])<;>rfl
 have:=Ia (Bw t) (λk=>(((topsK t k:Nat):Int),((k:Nat):Int))) (px t) (.inl ((topsK t t.length:Nat):Int)) (.inr false) t.length (λi hi hp=>by
   show Bw t _=_;rw[body i hi,hp,Ah]) (λi hi hp=>by
   show Bw t _=_;rw[body i hi,hp,Aw]) (by
   show Bw t _=_
   unfold Bw
   simp only[C8,Aw])
 exact this
theorem tk(t:List Int)(ht:t.length<=1000):J3 t=some (M5 t):=by
 unfold J3 M5;rw[iD t ht]
 cases(List.range _).all _ with
 | false=>rfl
 | true=>
  rw[ Lj]
  show some _=_
  have:(1:Int)=(1:Nat):=rfl;rw[this,GU]
theorem find_first(p:Int->Bool):∀ l:List Int,(∃ n,n<l.length/\(∀ i,i<n->p (l.getD i 0)=false)/\p (l.getD n 0)=true/\l.find? p=some (l.getD n 0))\/((∀ i,i<l.length->p (l.getD i 0)=false)/\l.find? p=none):=by
 intro l
 induction l with
 | nil=>grind
 | cons x l ih=>
  cases hx:p x with
  | true=>exact .inl ⟨0,by simp,λi hi=>absurd hi (Xa i),by simpa using hx,by simp[ hx]⟩
  | false=>
   rcases ih with⟨n,h1,h2,h3,h4⟩|⟨h1,h2⟩
   ·refine .inl ⟨n+1,by simpa using h1,λi hi=>?_,by simpa using h3,by grind⟩
    cases i with
    | zero=>simpa using hx
    | succ i=>grind
   ·grind
def Rg(t:List Int)(a b:Int):Int:=if M5 t=true then((E5 t a).find? λx=>(E5 t b).contains x).getD (-2) else -2
def Ly(t:List Int)(a b:Int):Bool:=Rg t a b==a&&Rg t a b !=-2
theorem w7(t:List Int)(ht:t.length<=1000)(a b:Int):Ks t a b=some (Rg t a b):=by
 unfold Ks Rg;rw[tk t ht,An]
 cases M5 t with
 | false=>rfl
 | true=>
  rw[Dq, ge t ht,An,ge t ht,An];have hp:=XX t a;have hq:=XX t b
  have body:∀ k,k<(E5 t a).length->Ef (E5 t a) (E5 t b) (k:Int)=some (bif (E5 t b).contains _ then .done _ else .next _):=λk hk=>by
   unfold Ef;simp only[Am,Bx hk];rw[Ad (Fv hk),pj _ _ (by omega), w1 (by omega),Ad (Fv hk)]
   cases(E5 t b).contains _<;>rfl
  rcases find_first (λx=>(E5 t b).contains x) (E5 t a) with⟨n,h1,h2,h3,h4⟩|⟨h1,h2⟩
  ·have:=Ek (Ef (E5 t a) (E5 t b)) (λk=>(k:Nat)) (.inr ((E5 t a).getD n 0)) n (λk hk=>by
    grind) (by
    grind)
   have e:Ac _ (0:Int)=_:=this;rw[e, h4]
   rfl
  ·have:=Ek (Ef (E5 t a) (E5 t b)) (λk=>((k:Nat):Int)) (.inl ()) (E5 t a).length (λk hk=>by
    grind) (by
    unfold Ef
    simp only[C8,Aw])
   have e:Ac _ (0:Int)=_:=this;rw[e, h2]
   rfl
section
variable {S:Nat->List Nat} {r n:Nat} {P:List Nat} {t:List Int}
theorem DomTree.up(h:DomTree S r n P t):∀ k x,x<n->Br t x≠-2->pos (r::P) x<k->∃ q,upD t k (x:Int)=some q/\(∀ w:Int,w∈q↔∃ z:Nat,w=(z:Int)/\UpTo (Br t) x z) /\
  ∀ p:Int->Bool,(q.find? p=none/\∀ z:Nat,UpTo (Br t) x z->p (z:Int)=false)\/∃ f:Nat,q.find? p=some (f:Int)/\UpTo (Br t) x f/\p (f:Int)=true/\∀ z:Nat,UpTo (Br t) x z->p (z:Int)=true->UpTo (Br t) f z:=by
 intro k
 induction k with
 | zero=>omega
 | succ k ih=>
  intro x hx hp hk
  have hxt:(0:Int)<=(x:Int)/\(x:Int)<(t.length:Int):=by rw[h.len];omega
  unfold upD;rw[if_pos hxt,Am];have hpx:t.getD x 0=Br t x:=rfl;rw[hpx];rcases h.inv.kind x hx with h1|rfl|⟨z,hz⟩
  ·exact absurd h1 hp
  ·rw[if_pos h.inv.top];refine⟨_,rfl,λw=>?_,λp=>?_⟩
   ·rw[zzL15]
    constructor
    ·rintro rfl;exact⟨x,rfl,.refl _⟩
    ·rintro⟨z,rfl,hz⟩;rw[h.inv.root_anc.1 hz]
   ·cases hpp:p (x:Int) with
    | false=>exact .inl ⟨by simp[List.find?,hpp],λz hz=>by rw[h.inv.root_anc.1 hz];exact hpp⟩
    | true=>exact .inr ⟨x,by simp[List.find?,hpp],.refl _,hpp,λz hz _=>hz⟩
  ·obtain⟨z1,z2,z3,z4⟩:=h.inv.up x hx z hz;rw[hz,if_neg (by omega)];obtain⟨q,hq1,hq2,hq3⟩:=ih z z1 z2 (by omega);rw[hq1];refine⟨(x:Int)::q,rfl,λw=>?_,λp=>?_⟩
   ·rw[zzL34,hq2 w]
    constructor
    ·rintro(rfl|⟨y,rfl,hy⟩)
     ·exact⟨x,rfl,.refl _⟩
     ·exact⟨y,rfl,.up hz hy⟩
    ·rintro⟨y,rfl,hy⟩;rcases(anc_up hz).1 hy with rfl|hy
     ·exact .inl rfl
     ·exact .inr ⟨y,rfl,hy⟩
   ·cases hpp:p (x:Int) with
    | true=>exact .inr ⟨x,by simp[List.find?,hpp],.refl _,hpp,λy hy _=>hy⟩
    | false=>
     have hf:((x:Int)::q).find? p=q.find? p:=by simp[List.find?,hpp]
     rw[hf];rcases hq3 p with⟨e1,e2⟩|⟨f,e1,e2,e3,e4⟩
     ·refine .inl ⟨e1,λy hy=>?_⟩;rcases(anc_up hz).1 hy with rfl|hy
      ·exact hpp
      ·exact e2 y hy
     ·refine .inr ⟨f,e1,.up hz e2,e3,λy hy hpy=>?_⟩;rcases(anc_up hz).1 hy with rfl|hy
      ·rw[hpp]at hpy;cases hpy
      ·exact e4 y hy hpy
theorem Ordered.pos_lt(o:Ordered S r n P){x:Nat}(hx:x∈r::P):pos (r::P) x<n:=by
 obtain⟨j,hj,rfl⟩:=Fx hx;rw[(ON o.nodup hj).2];have:=Tn n _ o.nodup λy hy=>o.lt hy;omega
theorem DomTree.path(h:DomTree S r n P t)(o:Ordered S r n P){x:Nat}(hx:x<n)(hp:Br t x≠-2):E5 t (x:Int)≠[]/\(∀ w:Int,w∈E5 t (x:Int)↔∃ z:Nat,w=(z:Int)/\UpTo (Br t) x z) /\
  ∀ p:Int->Bool,((E5 t (x:Int)).find? p=none/\∀ z:Nat,UpTo (Br t) x z->p (z:Int)=false)\/∃ f:Nat,(E5 t (x:Int)).find? p=some (f:Int)/\UpTo (Br t) x f/\p (f:Int)=true/\∀ z:Nat,UpTo (Br t) x z->p (z:Int)=true->UpTo (Br t) f z:=by
 have hm:=(o.mem x).2 (h.inv.rc x hx hp);obtain⟨q,h1,h2,h3⟩:=h.up n x hx hp (o.pos_lt hm)
 have e:E5 t x=q:=by unfold E5;rw[h.len,h1];rfl
 rw[e];refine⟨λe=>?_,h2,h3⟩;have:=(h2 _).2 ⟨x,rfl,.refl _⟩;rw[e]at this
 cases this
theorem DomTree.nopath(h:DomTree S r n P t){x:Nat}(hx:x<n)(hp:Br t x = -2):E5 t (x:Int)=[]:=by
 rw[pathD_nil]
 cases hl:t.length with
 | zero=>rfl
 | succ k=>
  unfold upD;rw[if_pos ⟨by omega,by rw[h.len];omega⟩,Am,show t.getD x 0=Br t x from rfl,hp]
  cases k with
  | zero=>rfl
  | succ k =>   rfl
theorem DomTree.right(h:DomTree S r n P t)(o:Ordered S r n P):M5 t=true:=by
 unfold M5;rw[A6]
 constructor
 ·refine all_range.2 λx hx=>?_;rw[h.len]at hx;unfold px
  by_cases hp:Br t x = -2
  ·rw[show t.getD x 0=Br t x from rfl,hp];rfl
  ·rw[Ch (h.path o hx hp).1];simp
 ·apply Ci
  have key:∀ k,k<=n->topsK t k=if r<k then 1 else 0:=by
   intro k
   induction k with
   | zero=>intro _;rfl
   | succ k ih=>
    intro hk;rw[FS]
    have hr:t.getD k 0 = -1↔k=r:=by
     constructor
     ·intro he;rcases h.inv.kind k (by omega) with h1|h1|⟨z,hz⟩
      ·rw[show t.getD k 0=Br t k from rfl]at he;omega
      ·exact h1
      ·rw[show t.getD k 0=Br t k from rfl]at he;omega
     ·rintro rfl;exact h.inv.top
    by_cases hkr:k=r
    ·grind
    ·grind
  rw[h.len,key n (zzL6 _),if_pos o.hr]
theorem DomTree.meet(h:DomTree S r n P t)(o:Ordered S r n P){a b:Nat}(ha:a<n)(hb:b<n)(hpa:Br t a≠-2)(hpb:Br t b≠-2):∃ m:Nat,Rg t (a:Int) (b:Int)=(m:Int)/\MeetAt (Br t) a b m/\m<n/\Br t m≠-2:=by
 have rd:Ready S r n P t _:=⟨h.inv,h.len,λx hx=>by rw[W7]at hx;exact h.full x (o.lt hx) ((o.mem x).1 hx)⟩;obtain⟨c,hc1,hc2,hc3⟩:=h.inv.meets (rd.inj o) d9 _ a b (zzL6 _) ha hb hpa hpb;refine⟨c,?_,hc1,hc2,hc3⟩;unfold Rg;rw[if_pos (h.right o)];obtain⟨hca,hcb⟩:=(hc1 c).1 (.refl _)
 have hin:∀ z:Nat,(E5 t _).contains z=true↔UpTo (Br t) b z:=λz=>by
  rw[zzL64,(h.path o hb hpb).2.1]
  constructor
  ·grind
  ·grind
 rcases(h.path o ha hpa).2.2 λx=>(E5 t b).contains x with⟨_,h2⟩|⟨f,h1,h2,h3,h4⟩
 ·grind
 ·rw[h1];have hfc:=h4 c hca ((hin c).2 hcb);have hcf:=(hc1 f).2 ⟨h2,(hin f).1 h3⟩;rw[h.inv.antisymm hcf hfc hc2 hc3]
  rfl
theorem DomTree.meet_none(h:DomTree S r n P t)(o:Ordered S r n P){a b:Nat}(ha:a<n)(hb:b<n)(hp:Br t a = -2\/Br t b = -2):Rg t (a:Int) (b:Int) = -2:=by
 unfold Rg;rw[if_pos (h.right o)];rcases hp with hp|hp
 ·rw[h.nopath ha hp];rfl
 ·rw[h.nopath hb hp]
  have:(E5 t a).find? (λx=>[].contains x)=none:=List.find?_eq_none.2 λx _=>by simp
  rw[this];rfl
theorem DomTree.over(h:DomTree S r n P t)(o:Ordered S r n P){a b:Nat}(ha:a<n)(hb:b<n):Ly t (a:Int) (b:Int)=true↔Br t b≠-2/\UpTo (Br t) b a:=by
 unfold Ly;rw[A6,zzL63,zzL100]
 by_cases hpa:Br t a = -2
 ·rw[h.meet_none o ha hb (.inl hpa)]
  constructor
  ·omega
  ·rintro⟨h1,h2⟩;exact absurd hpa (h.inv.anc h2 hb h1).2.1
 ·by_cases hpb:Br t b = -2
  ·rw[h.meet_none o ha hb (.inr hpb)]
   constructor
   ·omega
   ·grind
  ·obtain⟨m,hm1,hm2,hm3,hm4⟩:=h.meet o ha hb hpa hpb;rw[hm1]
   constructor
   ·rintro⟨h1,_⟩;have h1:=KS h1;subst h1;exact⟨hpb,((hm2 _).1 (.refl _)).2⟩
   ·rintro⟨_,h2⟩;have:=(hm2 a).2 ⟨.refl _,h2⟩;have h3:=((hm2 m).1 (.refl _)).1;rw[h.inv.antisymm h3 this ha hpa];exact⟨rfl,by omega⟩
theorem DomTree.over_dom(h:DomTree S r n P t)(o:Ordered S r n P){a b:Nat}(ha:a<n)(hb:b<n):Ly t (a:Int) (b:Int)=true↔Rc S r b/\¬ Av S r a b:=by
 rw[h.over o ha hb]
 constructor
 ·rintro⟨h1,h2⟩;exact⟨h.inv.rc b hb h1,(h.exact_ b hb h1 a).1 h2⟩
 ·rintro⟨h1,h2⟩;have:=h.full b hb h1;exact⟨this,(h.exact_ b hb this a).2 h2⟩
end
section
variable {L:List (List Int)} (hm:Ms L=true) {r:Nat} (hr:r<L.length)
include hm hr
theorem YL:∃ P,Ord (sN L) r (r::P)/\Ordered (sN L) r L.length P/\DomTree (sN L) r L.length P (Y8 L r):=by
 obtain⟨O,hO⟩:=Ord.exist (Ww hm) hr;obtain⟨P,rfl,o⟩:=hO.ordered hr (Ww hm);obtain⟨J,_,hJ⟩:=vO o;have hd:=MM o hJ;refine⟨P,hO,o,?_⟩;rw[<- hd.eq hm hr o];exact hd
end
theorem JN{X:Type}(n:Nat)(p:Nat->Bool)(f:Int->Option (LR Int X))(yes no:X)(hn:∀ i:Nat,i<n->p i=true->f (i:Int)=some (.next ((i:Int)+1)))
  (hf:∀ i:Nat,i<n->p i=false->f (i:Int)=some (.done no)) (he:f (n:Int)=some (.done yes)):Ac f (0:Int)=some (bif (List.range n).all p then yes else no):=by
 have hg:∀ i,i<(List.range n).length->(List.range n).getD i 0=i:=λi hi=>by grind
 have:=Hk (List.range n) 0 p f yes no (λi hi hp=>by grind) (λi hi hp=>by grind) (by simpa using he) n 0 (by simp);rw[show(0:Int)=(0:Nat) from rfl,this,Oc]
theorem fb{n:Nat}{p:Nat->Bool}(h:(List.range n).all p=true):∀ i,i<n->p i=true:=λi hi=>zzL27.1 h i (by simpa using hi)
def Q6(L:List (List Int)):List Bool:=HX (sN L) L.length ((List.replicate L.length false).set 0 true) L.length
def Js(l:List Int)(p:TPhi):Bool:=decide (p.From=l)&&((p.Args.length:Int)==(l.length:Int))
def Lb(L:List (List Int))(b:Ae)(i:Nat):Bool:=(Q6 L).getD i false&&!((b.End.Kind==1 || b.End.Kind==3)&&(b.End.Arg !=0))&&b.Phis.all (Js ((Do L).getD i []))
def Fb(f:TFunc):Bool:=Gp f&&(List.range f.Blocks.length).all λi=>Lb (A2 f) (f.Blocks.getD i default) i
theorem L3(f:TFunc):(A2 f).length=f.Blocks.length:=by simp[A2]
theorem eD(L:List (List Int)):(Q6 L).length=L.length:=by rw[Q6,Yj];simp
theorem sr{a b c d:Bool}{x:Option (LR Int (Unit ⊕ Bool))}:(bif (bif (!a) then true else(bif (bif b then true else c) then d else false)) then some (LR.done (Sum.inr false)) else x)=bif (a&&!((b || c)&&d)) then x else some (LR.done (Sum.inr false)):=by
 grind
theorem tm {f : TFunc} (hf : OkF f) : J4 f = some (Fb f) := by
  have hmax : f.Blocks.length ≤ maxLen := by have := hf.blocks; have : (64 : Nat) ≤ maxLen := by decide
                                             omega
  unfold J4 Fb; rw [dS f hmax, An]
  cases hs : Gp f with
  | false => rfl
  | true =>
    have hm := Jt hs; have hlen := L3 f; obtain ⟨h1, h2⟩ := Tm hm
    have hpos : 0 < (A2 f).length := by have := (shape_iff.1 hs).1.1; omega
    simp only [Ah, Lj]; have hr := tj hm hpos; rw [show (((0 : Nat) : Int)) = 0 from rfl] at hr; rw [hr, An]
    show ((Ac (Fm f (Kh (A2 f), 0) (Q6 (A2 f))) 0).bind _) = _
    have hphi : ∀ i, i < f.Blocks.length → Ac _ (0 : Int) = some _ := fun i hi => by
      have hmem := Ag (d := (default : Ae)) hi; have hB := hf.block _ hmem
      have hpl : (Kh (A2 f)).Pred.length = f.Blocks.length := by rw [← hlen]; exact Ps _
      have hpi : A1 (i : Int) (Kh (A2 f)).Pred.length := Ai (by omega)
      have key : ∀ j, j < (f.Blocks.getD i default).Phis.length → Fl f (Kh (A2 f), 0) (i : Int) (j : Int) = some (bif Js ((Do (A2 f)).getD i []) _ then .next ((j : Int) + 1) else .done (.inr false)) := fun j hj => by
        have hp := RK hf hmem (Ag (d := (default : TPhi)) hj); unfold Fl
        have hd : decide ((j : Int) < ((f.Blocks.getD i default).Phis.length : Int)) = true := by simpa using hj
        have hi1 := ga ((f.Blocks.getD i default).Phis.getD j default).From ((Kh (A2 f)).Pred.getD i []) (by omega); simp only [C5, hd, Ah, Aa (Ai hj), Aa hpi, hi1, An]; rw [Aa (fun _ => Ai hj), Aa (fun _ => hpi), A0 hj (by have := hB.phis; omega)]; unfold Js
        show (bif (bif (!decide (((f.Blocks.getD i default).Phis.getD j default).From = (Do (A2 f)).getD i [])) then true else ((((f.Blocks.getD i default).Phis.getD j default).Args.length : Int) != (((Do (A2 f)).getD i []).length : Int))) then _ else _) = _
        cases decide (((f.Blocks.getD i default).Phis.getD j default).From = (Do (A2 f)).getD i []) with
        | false => rfl
        | true =>
          grind
      have := Hk (f.Blocks.getD i default).Phis (default : TPhi) (Js ((Do (A2 f)).getD i [])) (Fl f (Kh (A2 f), 0) (i : Int)) (.inl ()) (.inr false) (fun j hj hp => by rw [key j hj, hp]; rfl) (fun j hj hp => by rw [key j hj, hp]; rfl) (by unfold Fl; simp) (f.Blocks.getD i default).Phis.length 0 (by omega); rw [Oc] at this; exact this
    have hrl := eD (A2 f)
    have key : ∀ i, i < f.Blocks.length → Fm f (Kh (A2 f), 0) (Q6 (A2 f)) (i : Int) = some (bif Lb (A2 f) (f.Blocks.getD i default) i then .next ((i : Int) + 1) else .done (.inr false)) := fun i hi => by
      unfold Fm
      have hd : decide ((i : Int) < (f.Blocks.length : Int)) = true := by simpa using hi
      simp only [hd, Ah, Aa (Ai hi), Aa (Ai (show i < (Q6 (A2 f)).length by omega)), C5, sr, hphi i hi, An, A0 hi (by have := hf.blocks; omega)]; unfold Lb
      cases ((Q6 (A2 f)).getD i false && !(((f.Blocks.getD i default).End.Kind == 1 || (f.Blocks.getD i default).End.Kind == 3) && ((f.Blocks.getD i default).End.Arg != 0))) with
      | false => rfl
      | true => grind
    rw [JN f.Blocks.length (fun i => Lb (A2 f) (f.Blocks.getD i default) i) _ (.inl ()) (.inr false) (fun i hi hp => by rw [key i hi, hp]; rfl) (fun i hi hp => by rw [key i hi, hp]; rfl) (by unfold Fm; simp)]
    cases (List.range f.Blocks.length).all _ <;> rfl
theorem YJ{f:TFunc}(h:Fb f=true):kB f:=λb hb p hp=>by
 simp only[Fb,A6]at h;obtain⟨i,hi,rfl⟩:=Fx hb;have h1:=fb h.2 i hi;rw[Ab _ _ _ hi]at h1;simp only[Lb,A6]at h1;have h2:=zzL27.1 h1.2 p hp;simp only[Js,A6,Gq,zzL63]at h2;rw[h2.1];omega
def Rh(l:List Cc)(i:Nat):Bool:=valS (l.getD i default).V&&(Lt l (l.getD i default).V==(i:Int))
def K4(l:List Cc)(u:D1):Bool:=!decide (Lt l u.V<0)
def defOf(l:List Cc)(v:Int):Cc:=l.getD (Lt l v).toNat default
def U2(l:List Cc)(u:D1):Bool:=((defOf l u.V).Shape.1==u.Shape.1)&&(((defOf l u.V).Shape.2==u.Shape.2)&&true)
def U1(l:List Cc)(t:List Int)(u:D1):Bool:=
 (decide ((defOf l u.V).Block<0) || ((defOf l u.V).Block==u.Block&&decide ((defOf l u.V).At<u.At))) || (!((defOf l u.V).Block==u.Block)&&!(Rg t (defOf l u.V).Block u.Block !=(defOf l u.V).Block))
def B5(f:TFunc):List Int:=MN (Kh (A2 f)) 0
def SR(f:TFunc)(l:Int):Int:=
 bif !Fb f then 5 else bif !N8 f l then 6 else bif !(List.range (As f).length).all (Rh (As f)) then 7 else bif !(Bf f).all (K4 (As f)) then 7 else
 bif !(Bf f).all (U2 (As f)) then 6 else bif !(Bf f).all (U1 (As f) (B5 f)) then 7 else 0
def Gn(f:TFunc)(l:Int):Int:=bif decide (l<0) || decide (2<l) then 1 else bif !Q1 f then 4 else SR f l
theorem PU{l:List Cc}{v:Int}(h:¬ Lt l v<0):A1 (Lt l v) l.length:=by
 unfold Lt at h ⊢
 cases hx:l.findIdx? _ with
 | none=>grind
 | some i=>
  obtain⟨hi,_⟩:=List.findIdx?_eq_some_iff_getElem.1 hx;exact Ai hi
theorem eW{f:TFunc}(h:Gp f=true):(B5 f).length<=1000:=by
 have h1:=(Tm (Jt h)).1;unfold B5 MN
 split
 ·rw[YM];show(A2 f).length<=1000;omega
 ·simp
theorem tJ(a b c:Bool)(m q x:Int):(Option.bind (α:=Unit ⊕ Int) (bif (bif a then true else(bif b then c else false)) then some (.inl ()) else((bif (b==false) then some m else some 0).bind λx31=>(bif (bif b then true else(x31 !=q)) then some (.inr 7) else some (.inl ())))) (λx32=>match x32 with | .inl _=>some (LR.next x) | .inr r34=>some (.done (.inr r34)))) =
  (some (bif (a || (b&&c)) || (!b&&!(m !=q)) then .next x else .done (.inr 7)):Option (LR Int (Unit ⊕ Int))):=by
 grind
theorem tq {f : TFunc} (hf : OkF f) (l : Int) (hm : I4 f = some (Q1 f)) : D6 f l = some (Gn f l) := by
  unfold D6 Gn; rw [show (bif decide (l < (0 : Int)) then true else decide ((2 : Int) < l)) = (decide (l < 0) || decide (2 < l)) by cases decide (l < (0 : Int)) <;> rfl]
  cases (decide (l < 0) || decide (2 < l)) with
  | true => rfl
  | false =>
  simp only [Aw, hm, An]
  cases Q1 f with
  | false => rfl
  | true =>
  simp only [Dq, Aw, tm hf, An, SR]
  cases hs : Fb f with
  | false => rfl
  | true =>
  simp only [Dq, Aw, tn hf, An]
  cases ht : N8 f l with
  | false => rfl
  | true =>
  simp only [Dq, Aw, w6 hf, An]; have hdl := lf hf; have hul := KJ hf
  have hL1 : Ac (S := Int) (X := (Unit ⊕ Int)) (Fk (As f)) (0 : Int) = some (bif (List.range (As f).length).all (Rh (As f)) then .inl () else .inr 7) := by
    have key : ∀ i, i < (As f).length → Fk (As f) (i : Int) = some (bif Rh (As f) i then .next ((i : Int) + 1) else .done (.inr 7)) := fun i hi => by
      unfold Fk Rh
      have hd : decide ((i : Int) < ((As f).length : Int)) = true := by simpa using hi
      simp only [hd, Ah, Aa (Ai hi), C5, DP, An, Aa (fun _ => Ai hi), au (As f) _ (by omega), A0 hi (by omega)]
      cases valS ((As f).getD i default).V with
      | false => rfl
      | true =>
        grind
    exact JN _ _ _ _ _ (fun i hi hp => by rw [key i hi, hp]; rfl) (fun i hi hp => by rw [key i hi, hp]; rfl) (by unfold Fk; simp)
  rw [hL1, An]
  cases (List.range (As f).length).all (Rh (As f)) with
  | false => rfl
  | true =>
  simp only [Ah, Dq, Aw, w9 hf (YJ hs), An]
  have hL2 : Ac (S := Int) (X := (Unit ⊕ Int)) (D2 (As f) (Bf f)) (0 : Int) = some (bif (Bf f).all (K4 (As f)) then .inl () else .inr 7) := by
    have key : ∀ i, i < (Bf f).length → D2 (As f) (Bf f) (i : Int) = some (bif K4 (As f) ((Bf f).getD i default) then .next ((i : Int) + 1) else .done (.inr 7)) := fun i hi => by
      unfold D2 K4
      have hd : decide ((i : Int) < ((Bf f).length : Int)) = true := by simpa using hi
      simp only [hd, Ah, Aa (Ai hi), C5, au (As f) _ (by omega), An, A0 hi (by omega)]
      cases decide (Lt (As f) ((Bf f).getD i default).V < 0) <;> rfl
    have := Hk (Bf f) default (K4 (As f)) (D2 (As f) (Bf f)) (.inl ()) (.inr 7) (fun i hi hp => by rw [key i hi, hp]; rfl) (fun i hi hp => by rw [key i hi, hp]; rfl) (by unfold D2; simp) (Bf f).length 0 (by omega); rw [Oc] at this; exact this
  rw [hL2, An]
  cases hF : (Bf f).all (K4 (As f)) with
  | false => rfl
  | true =>
  have hfound : ∀ i, i < (Bf f).length → A1 (Lt (As f) ((Bf f).getD i default).V) (As f).length := fun i hi => by
    have := zzL27.1 hF _ (Ag (d := (default : D1)) hi); simp only [K4, Zb, SV] at this; exact PU this
  simp only [Ah, Dq, Aw]
  have hL3 : Ac (S := Int) (X := (Unit ⊕ Int)) (D3 (As f) (Bf f)) (0 : Int) = some (bif (Bf f).all (U2 (As f)) then .inl () else .inr 6) := by
    have key : ∀ i, i < (Bf f).length → D3 (As f) (Bf f) (i : Int) = some (bif U2 (As f) ((Bf f).getD i default) then .next ((i : Int) + 1) else .done (.inr 6)) := fun i hi => by
      unfold D3 U2 defOf
      have hd : decide ((i : Int) < ((Bf f).length : Int)) = true := by simpa using hi
      simp only [hd, Ah, Aa (Ai hi), C5, au (As f) _ (by omega), An, Aa (hfound i hi), A0 hi (by omega)]
      cases ((((As f).getD (Lt (As f) ((Bf f).getD i default).V).toNat default).Shape.1 == ((Bf f).getD i default).Shape.1) && ((((As f).getD (Lt (As f) ((Bf f).getD i default).V).toNat default).Shape.2 == ((Bf f).getD i default).Shape.2) && true)) <;> rfl
    have := Hk (Bf f) default (U2 (As f)) (D3 (As f) (Bf f)) (.inl ()) (.inr 6) (fun i hi hp => by rw [key i hi, hp]; rfl) (fun i hi hp => by rw [key i hi, hp]; rfl) (by unfold D3; simp) (Bf f).length 0 (by omega); rw [Oc] at this; exact this
  rw [hL3, An]
  cases (Bf f).all (U2 (As f)) with
  | false => rfl
  | true =>
  have hsB : Gp f = true := by simp only [Fb, A6] at hs; exact hs.1
  have hmax : f.Blocks.length ≤ maxLen := by have := hf.blocks; have : (64 : Nat) ≤ maxLen := by decide
                                             omega
  simp only [Ah, Dq, Aw, dS f hmax, hsB, An]; rw [gf _ (HF (Jt hsB)).1 0, An]; have htl := eW hsB
  have hL4 : Ac (S := Int) (X := (Unit ⊕ Int)) (C3 (As f) (Bf f) (B5 f)) (0 : Int) = some (bif (Bf f).all (U1 (As f) (B5 f)) then .inl () else .inr 7) := by
    have key : ∀ i, i < (Bf f).length → C3 (As f) (Bf f) (B5 f) (i : Int) = some (bif U1 (As f) (B5 f) ((Bf f).getD i default) then .next ((i : Int) + 1) else .done (.inr 7)) := fun i hi => by
      unfold C3 U1 defOf
      have hd : decide ((i : Int) < ((Bf f).length : Int)) = true := by simpa using hi
      simp only [hd, Ah, Aa (Ai hi), C5, au (As f) _ (by omega), An, Aa (hfound i hi), A0 hi (by omega), w7 (B5 f) htl]; exact tJ _ _ _ _ _ _
    have := Hk (Bf f) default (U1 (As f) (B5 f)) (C3 (As f) (Bf f) (B5 f)) (.inl ()) (.inr 7) (fun i hi hp => by rw [key i hi, hp]; rfl) (fun i hi hp => by rw [key i hi, hp]; rfl) (by unfold C3; simp) (Bf f).length 0 (by omega); rw [Oc] at this; exact this
  show ((Ac (C3 (As f) (Bf f) (B5 f)) 0).bind _) = _
  rw [hL4, An]
  cases (Bf f).all (U1 (As f) (B5 f)) <;> rfl
theorem XK{α S:Type}(l:List α)(d:α)(g:S->α->S)(f:S×Int->Option (LR (S×Int) S))(hn:∀(s:S) (i:Nat),i<l.length->f (s,(i:Int))=some (.next (g s (l.getD i d),(i:Int)+1)))
  (hd:∀ s:S,f (s,(l.length:Int))=some (.done s)):∀(k i:Nat) (s:S),i+k=l.length->Ac f (s,(i:Int))=some ((l.drop i).foldl g s)
 | 0,i,s,h=>by
  obtain rfl:i=l.length:=by omega
  rw[Ak (hd s)]
  simp
 | k+1,i,s,h=>by
  have hi:i<l.length:=by omega
  have hdr:l.drop i=l.getD i d::l.drop (i+1):=by simp_all
  rw[Ap (hn s i hi),show(i+1)=((i+1:Nat):Int) by omega,XK l d g f hn hd k _ _ (by omega),hdr,Vh]
theorem FJ{α S:Type}(l:List α)(d:α)(g:S->α->S)(f:S×Int->Option (LR (S×Int) S))(hn:∀(s:S) (i:Nat),i<l.length->f (s,(i:Int))=some (.next (g s (l.getD i d),(i:Int)+1)))
  (hd:∀ s:S,f (s,(l.length:Int))=some (.done s)) (s:S):Ac f (s,(0:Int))=some (l.foldl g s):=by
 have:=XK l d g f hn hd l.length 0 s (by omega);exact this
def grow(n d:Int):Int:=bif decide (n<d) then d else n
def Tv(f:TFunc):Int:=f.Blocks.foldl (λn b=>b.Ops.foldl (λn o=>grow n o.Dst) (b.Phis.foldl (λn p=>grow n p.Dst) n)) (f.Params.length:Int)
theorem iL{i n:Nat}(h:i<n)(hn:n<=maxLen):w64 ((i:Int)+1)=(i:Int)+1:=A0 h (by rw[M1]at hn;omega)
def Sm(f:TFunc):Prop:=UR f/\C9 f=some true
theorem kH{f:TFunc}(h:Sm f)(hm:Q1 f=true):OkF f:=by
 obtain⟨sm,h1,h2⟩:=ML f h.1;rw[h.2]at h1;exact(h2 (OI h1).symm hm).1
theorem lz{f:TFunc}(hf:UR f):∃ b,D7 f=some b/\(b=true->Sm f):=by
 obtain⟨x,hx⟩:∃ x,Ac _ ((0:Int),(0:Int))=some x:=by
  refine Tw f.Blocks.length (Ce f) (λn i hi=>.inl ?_) (λn=>?_) f.Blocks.length 0 0 (by omega)
  ·unfold Ce
   have hd:decide (i<(f.Blocks.length:Int))=true:=by simpa using hi
   simp only[hd, Aa (Ai hi),K7 hi hf.blocks];exact⟨_,rfl⟩
  ·unfold Ce;exact⟨n,by simp⟩
 obtain⟨sm,h1⟩:=SK f hf;unfold D7;rw[hx, h1];refine⟨_,rfl,λhb=>⟨hf,?_⟩⟩
 cases sm with
 | true=>exact h1
 | false=>cases hb
theorem dO{f:TFunc}(h:Sm f)(l:Int):D6 f l=some (Gn f l):=by
 have hm:=uS f h.1
 cases hb:Q1 f with
 | true=>exact tq (kH h hb) l hm
 | false=>
  unfold D6 Gn;rw[show(bif decide _ then true else decide _)=(decide (l<0) || decide (2<l)) by grind]
  cases(decide (l<0) || decide (2<l)) with
  | true=>rfl
  | false=>grind
structure yg(f:TFunc)(s:List (Int×(Int×Int))):Prop where
 none:Gn f 2≠0->s.length=0
 len:Gn f 2=0->s.length=(As f).length
 get:Gn f 2=0->∀ d∈As f,Fu ((0:Int),(0:Int)) s d.V=d.Shape
 has:Gn f 2=0->∀ v,D9 s v=true->∃ d∈As f,d.V=v
theorem gb{f:TFunc}(hf:UR f):Eu f=some (Tv f):=by
 have h1:∀(i:Nat),i<f.Blocks.length->∀ n:Int,Ac (Iq f (i:Int)) (n,(0:Int))=some ((f.Blocks.getD i default).Phis.foldl (λn p=>grow n p.Dst) n):=λi hi n=>by
  have hB:=hf.block _ (Ag (d:=(default:Ae)) hi);refine FJ (f.Blocks.getD i default).Phis (default:TPhi) _ _ (λs j hj=>?_) (λs=>?_) n
  ·unfold Iq grow
   have hd:decide ((j:Int)<((f.Blocks.getD i default).Phis.length:Int))=true:=by simpa using hj
   simp only[Aa (Ai hi),C5,hd,Ah,Aa (Ai hj),iL hj hB.1]
   cases decide (s<((f.Blocks.getD i default).Phis.getD j default).Dst)<;>rfl
  ·unfold Iq;simp[Aa (Ai hi)]
 have h2:∀(i:Nat),i<f.Blocks.length->∀ n:Int,Ac (Ir f (i:Int)) (n,(0:Int))=some ((f.Blocks.getD i default).Ops.foldl (λn p=>grow n p.Dst) n):=λi hi n=>by
  have hB:=hf.block _ (Ag (d:=(default:Ae)) hi);refine FJ (f.Blocks.getD i default).Ops (default:TOp) _ _ (λs j hj=>?_) (λs=>?_) n
  ·unfold Ir grow
   have hd:decide ((j:Int)<((f.Blocks.getD i default).Ops.length:Int))=true:=by simpa using hj
   simp only[Aa (Ai hi),C5,hd,Ah,Aa (Ai hj),iL hj hB.2.1]
   cases decide (s<((f.Blocks.getD i default).Ops.getD j default).Dst)<;>rfl
  ·unfold Ir;simp[Aa (Ai hi)]
 unfold Eu Tv
 rw[FJ f.Blocks (default:Ae) (λn b=>b.Ops.foldl (λn o=>grow n o.Dst) (b.Phis.foldl (λn p=>grow n p.Dst) n)) (It f) (λs i hi=>by
  unfold It
  have hd:decide ((i:Int)<(f.Blocks.length:Int))=true:=by simpa using hi
  simp only[hd,Ah,h1 i hi,h2 i hi,An,iL hi hf.blocks]) (λs=>by unfold It;simp)]
 rfl
theorem zo{f:TFunc}(hf:UR f)(h0:f.Params.length<=64)(hb:∀ b∈f.Blocks,b.End.To.length<=64/\(∀ p∈b.Phis,p.From.length<=64/\p.Args.length<=64)/\∀ o∈b.Ops,o.Args.length<=64)(he:fu f<=20000):Sm f:=
 ⟨hf,by rw[eR f hf h0 hb,Ci he]⟩
def YC(f:TFunc):Int:=
 bif !(List.range (As f).length).all (Rh (As f)) then 7 else bif !(Bf f).all (K4 (As f)) then 7 else
 bif !(Bf f).all (U2 (As f)) then 6 else bif !(Bf f).all (U1 (As f) (B5 f)) then 7 else 0
theorem PI{f:TFunc}{l:Int}(h0:0<=l)(h2:l<=2):Gn f l=0↔Q1 f=true/\Fb f=true/\N8 f l=true/\YC f=0:=by
 unfold Gn SR;rw[Ch (show ¬ l<0 by omega),Ch (show ¬ 2<l by omega)]
 have e:(bif !(List.range _).all _ then 7 else bif !(Bf f).all _ then 7 else
  bif !(Bf f).all _ then 6 else bif !(Bf f).all _ then 7 else 0)=YC f:=rfl
 rw[e]
 cases Q1 f<;>cases Fb f<;>cases N8 f l<;>simp
theorem pc{o:TOp}(h:Gs o=true):1<=o.Lanes:=by
 simp only[Gs,A6]at h;have:=shape_lanes h.1.1;omega
theorem uY{α:Type}(l:List α)(g:α->Nat):(l.map λa=>g a+1).sum=l.length+(l.map g).sum:=by
 induction l with
 | nil=>rfl
 | cons a l ih=>grind
theorem qo(a b:Int):w64 (a+w64 b)=w64 (a+b):=by rw[Int.add_comm,Vc,Int.add_comm]
theorem vQ(f:TFunc)(hf:UR f):Hb f=some (sizeW f):=by
 have hl:=DI f.Blocks default (λb=>b.Phis.length+b.Ops.length) id (Qp f) (λn i hi=>?_) (λn=>?_) _ 0 f.Blocks.length (E6 _)
 ·unfold Hb;rw[Vd (by have:=hf.blocks;rw[M1]at this;omega),show((0:Nat):Int)=0 from rfl]at hl;rw[hl,  sizeW,sizeN,show Ex=(λb=>(b.Phis.length+b.Ops.length)+1) from rfl,uY]
  rfl
 ·have e1:decide (i<(f.Blocks.length:Int))=true:=Ci (by omega);unfold Qp;simp only[e1,Ah,Aa (Ai hi),C5,K7 hi hf.blocks,qo,Vc];rw[show n+((f.Blocks.getD i default).Phis.length+(f.Blocks.getD i default).Ops.length)=((n+((f.Blocks.getD i default).Phis.length+(f.Blocks.getD i default).Ops.length):Nat):Int) by omega]
 ·have e1:decide (f.Blocks.length<(f.Blocks.length:Int))=false:=by simp
  unfold Qp;simp only[e1,Aw,id]
theorem GQ{α:Type}(l:List α)(d:α)(p:α->Bool)(f:Int->Option (LR Int (Unit ⊕ Bool)))(hn:∀ i:Nat,i<l.length->f i=bif p (l.getD i d) then some (.next ((i:Int)+1)) else some (.done (.inr false)))
  (he:f l.length=some (.done (.inl ()))):Ac f 0=some (bif l.all p then .inl () else .inr false):=by
 have:=Hk l d p f _ _ (λi hi hp=>by rw[hn i hi,hp];rfl) (λi hi hp=>by rw[hn i hi,hp];rfl) he _ 0 (E6 _)
 simpa using this
theorem mI(x:Int):(bif decide (x<0) then true else decide (2147483647<x)) = !numB x:=by
 unfold numB
 by_cases h1:x<0
 ·grind
 ·grind
theorem YR(l:List Int)(h:l.length<=maxLen):D8 l=some (l.all numB):=by
 have hl:=GQ l 0 numB (Km l) (λi hi=>?_) ?_
 ·unfold D8;rw[hl]
  cases l.all _<;>rfl
 ·have e1:decide ((i:Int)<l.length)=true:=Ci (by omega);unfold Km;simp only[e1, Aa (Ai hi),C5,mI,K7 hi h]
  cases numB _<;>simp
 ·unfold Km
  simp
theorem DU(l:List Int)(h:l.length<=maxLen):Iw l=some (listB l):=by
 unfold Iw;rw[YR l h]
 by_cases h1:l.length<=64
 ·have e1:decide ((l.length:Int)<=64)=true:=Ci (by omega);rw[e1];simp[listB,h1]
 ·have e1:decide ((l.length:Int)<=64)=false:=Ch (by omega);rw[e1];simp[listB,h1]
theorem DS{l:List Int}(h:l.length<=10):l.length<=maxLen:=by rw[M1];omega
theorem qw(p:TPhi)(h1:p.From.length<=maxLen)(h2:p.Args.length<=maxLen):Qr p=some (FL p):=by
 unfold Qr FL;rw[YR _ (DS (by simp)),DU _ h1,DU _ h2];simp only[V5,List.all_nil,FY]
 cases numB p.Bits<;>cases numB p.Dst<;>cases listB p.From<;>cases listB p.Args<;>rfl
theorem uh(o:TOp)(h1:o.Args.length<=maxLen):R6 o=some (fC o):=by
 unfold R6 fC;rw[YR _ (DS (by simp)),DU _ h1];simp only[V5,List.all_nil,FY]
 cases numB o.Kind<;>cases numB o.Bits<;>cases numB o.Lanes<;>cases numB o.Dst<;>cases listB o.Args<;>rfl
theorem qt(e:Ou)(h1:e.To.length<=maxLen):Qq e=some (cq e):=by
 unfold Qq cq;rw[YR _ (DS (by simp)),DU _ h1];simp only[V5,List.all_nil,FY]
 cases numB e.Kind<;>cases numB e.Arg<;>cases listB e.To<;>rfl
theorem RC{X:Type}(b:Bool)(x y:X):(bif !b then x else y)=bif b then y else x:=by cases b<;>rfl
theorem ml(l:List TPhi)(hl:l.length<=maxLen)(h:∀ p∈l,p.From.length<=maxLen/\p.Args.length<=maxLen):J1 l=some (l.all FL):=by
 have hl':=GQ l (default:TPhi) FL (Hy l) (λi hi=>?_) ?_
 ·unfold J1;rw[hl']
  cases l.all FL<;>rfl
 ·have e1:decide ((i:Int)<(l.length:Int))=true:=Ci (by omega);have:=h _ (Ag (d:=(default:TPhi)) hi);unfold Hy;simp only[e1,Ah,Aa (Ai hi),C5,qw _ this.1 this.2,An,RC,K7 hi hl,Int.natCast_add,Int.natCast_one]
 ·unfold Hy
  simp
theorem qv(l:List TOp)(hl:l.length<=maxLen)(h:∀ o∈l,o.Args.length<=maxLen):Kl l=some (l.all fC):=by
 have hl':=GQ l (default:TOp) fC (Ii l) (λi hi=>?_) ?_
 ·unfold Kl;rw[hl']
  cases l.all fC<;>rfl
 ·have e1:decide ((i:Int)<(l.length:Int))=true:=Ci (by omega);have:=h _ (Ag (d:=(default:TOp)) hi);unfold Ii;simp only[e1,Ah,Aa (Ai hi),C5,uh _ this,An,RC,K7 hi hl,Int.natCast_add,Int.natCast_one]
 ·unfold Ii
  simp
theorem iO(b:Ae)(h1:b.Phis.length<=maxLen)(h2:b.Ops.length<=maxLen)(h3:b.End.To.length<=maxLen)(h4:∀ p∈b.Phis,p.From.length<=maxLen/\p.Args.length<=maxLen)(h5:∀ o∈b.Ops,o.Args.length<=maxLen):Og b=some (blockB b):=by
 unfold Og blockB;rw[ml _ h1 h4,qv _ h2 h5,qt _ h3]
 cases b.Phis.all FL<;>cases b.Ops.all fC<;>cases cq b.End<;>rfl
theorem ee(f:TFunc)(hf:UR f):Ih f.Blocks=some (f.Blocks.all blockB):=by
 have hl':=GQ f.Blocks (default:Ae) blockB (Gx f.Blocks) (λi hi=>?_) ?_
 ·unfold Ih;rw[hl']
  cases f.Blocks.all blockB<;>rfl
 ·have e1:decide ((i:Int)<(f.Blocks.length:Int))=true:=Ci (by omega);have hm:=Ag (d:=(default:Ae)) hi;have q:=hf.block _ hm;unfold Gx;simp only[e1,Ah,Aa (Ai hi),C5,iO _ q.1 q.2.1 q.2.2 (hf.phi _ hm) (λo ho=>(hf.op _ hm o ho).1),An,RC,K7 hi hf.blocks,Int.natCast_add,Int.natCast_one]
 ·unfold Gx
  simp
theorem Aax(f:TFunc)(hf:UR f):Xz f=some (Q1 f):=by
 unfold Xz Q1;rw[vQ f hf,YR _ hf.params,YR _ (DS (by simp)),ee f hf];simp only[V5,List.all_nil,FY,listB]
 have d1:∀ n:Nat,decide ((n:Int)<1) = !decide (1<=n):=λn=>by by_cases h:1<=n<;>simp[h]<;>omega
 have d2:∀ n:Nat,decide ((64:Int)<(n:Int)) = !decide (n<=64):=λn=>by by_cases h:n<=64<;>simp[h]<;>omega
 have d3:∀ n:Nat,decide ((16:Int)<(n:Int)) = !decide (n<=16):=λn=>by by_cases h:n<=16<;>simp[h]<;>omega
 have d4:∀ n:Int,decide ((512:Int)<n) = !decide (n<=512):=λn=>by by_cases h:n<=512<;>simp[h]<;>omega
 simp only[d1,d2,d3,d4]
 have himp:decide (f.Params.length<=16)=true->decide (f.Params.length<=64)=true:=λh=>by simp at h ⊢;omega
 revert himp
 generalize decide (1<=f.Blocks.length)=c1
 generalize decide (f.Blocks.length<=64)=c2
 generalize decide (f.Params.length<=16)=c3
 generalize decide (f.Params.length<=64)=c4
 generalize f.Params.all numB=c6
 generalize numB f.Ret=c7
 generalize f.Blocks.all blockB=c8
 cases c3 with
 | true=>
  intro h;obtain rfl:=h rfl;simp only[Dq,Vg,Ah,An,Aw]
  generalize decide (sizeW f<=512)=c5
  cases c1<;>cases c2<;>cases c6<;>cases c7<;>cases c8<;>cases c5<;>rfl
 | false=>
  intro _
  cases c1<;>cases c2<;>rfl
inductive Tp (t:List Int):Nat->Nat->Nat->Prop
 | top {x:Nat} (hx:x<t.length) (h:t.getD x 0 = -1):Tp t x x 0
 | up {x y r k:Nat} (hx:x<t.length) (h:t.getD x 0=(y:Int)) (hk:Tp t y r k):Tp t x r (k+1)
section
variable {t:List Int}
theorem Tp.lt{x r k:Nat}(h:Tp t x r k):x<t.length:=by cases h<;>assumption
theorem Tp.tops{x r k:Nat}(h:Tp t x r k):r<t.length/\t.getD r 0 = -1:=by
 induction h with
 | top hx h=>exact⟨hx,h⟩
 | up _ _ _ ih=>exact ih
theorem Tp.det{x r k r' k':Nat}(h:Tp t x r k)(h':Tp t x r' k'):r=r'/\k=k':=by
 induction h generalizing k' with
 | top hx h=>cases h' with
  | top=>exact⟨rfl,rfl⟩
  | up _ h2 _=>omega
 | up hx h1 _ ih=>cases h' with
  | top _ h2=>omega
  | up _ h2 k2=>
   grind
theorem Tp.upTo{x r k:Nat}(h:Tp t x r k):UpTo (Br t) x r:=by
 induction h with
 | top=>exact .refl _
 | up _ h _ ih=>exact .up h ih
theorem Tp.on{x r k z:Nat}(h:Tp t x r k)(hz:UpTo (Br t) x z):∃ j,j<=k/\Tp t z r j/\(j=k->z=x):=by
 induction hz generalizing k with
 | refl x=>grind
 | up hp _ ih=>
  cases h with
  | top _ h2=>have :=hp.symm.trans h2;omega
  | up _ h2 k2=>
   have :=hp.symm.trans h2
   cases KS this
   obtain⟨j,h1,h3,_⟩:=ih k2;exact⟨j,by omega,h3,λe=>by omega⟩
theorem Tp.anti{x r k z:Nat}(h:Tp t x r k)(h1:UpTo (Br t) x z)(h2:UpTo (Br t) z x):z=x:=by
 obtain⟨j,j1,j2,j3⟩:=h.on h1;obtain⟨i,i1,i2,i3⟩:=j2.on h2;have:=h.det i2;exact j3 (by omega)
theorem Tp.list{x r k:Nat}(h:Tp t x r k):∃ l:List Nat,l.length=k+1/\l.Nodup/\∀ y∈l,y<t.length/\∃ j,j<=k/\Tp t y r j:=by
 induction h with
 | top hx h=>exact⟨[_],rfl,by simp,λy hy=>by rw[zzL15.1 hy];exact⟨hx,0,zzL6 _,.top hx h⟩⟩
 | @up x y r k hx h hk ih=>
  obtain⟨l,h1,h2,h3⟩:=ih;refine⟨x::l,by simp[h1],zzL112.2 ⟨λhm=>?_,h2⟩,λz hz=>?_⟩
  ·obtain⟨_,j,hj,hj2⟩:=h3 _ hm;have:=(Tp.up hx h hk).det hj2;omega
  ·rcases zzL34.1 hz with rfl|hz
   ·exact⟨hx,k+1,zzL6 _,.up hx h hk⟩
   ·grind
theorem Tp.short{x r k:Nat}(h:Tp t x r k):k<t.length:=by
 obtain⟨l,h1,h2,h3⟩:=h.list;have:=Tn _ l h2 λy hy=>(h3 y hy).1;omega
theorem Tp.upD{x r k:Nat}(h:Tp t x r k):∀ m,k<m->∃ q,upD t m (x:Int)=some q/\(∀ w:Int,w∈q↔∃ z:Nat,w=(z:Int)/\UpTo (Br t) x z) /\
  ∀ p:Int->Bool,(q.find? p=none/\∀ z:Nat,UpTo (Br t) x z->p (z:Int)=false)\/∃ f:Nat,q.find? p=some (f:Int)/\UpTo (Br t) x f/\p (f:Int)=true/\∀ z:Nat,UpTo (Br t) x z->p (z:Int)=true->UpTo (Br t) f z:=by
 induction h with
 | @top x hx h=>
  intro m hm;obtain⟨m,rfl⟩:∃ i,m=i+1:=⟨m-1,by omega⟩
  have htop:∀ z,UpTo (Br t) x z↔z=x:=λz=>NW λp hp=>by have:_=_:=hp.symm.trans h;omega
  unfold Go.Proofs.YtfhggcbcamamdaaGreat.upD;rw[if_pos ⟨by omega,by omega⟩,Am,if_pos h];refine⟨_,rfl,λw=>?_,λp=>?_⟩
  ·grind
  ·grind
 | @up x y r k hx h hk ih=>
  intro m hm;obtain⟨m,rfl⟩:∃ i,m=i+1:=⟨m-1,by omega⟩;unfold Go.Proofs.YtfhggcbcamamdaaGreat.upD;rw[if_pos ⟨by omega,by omega⟩,Am,if_neg (by omega),h];obtain⟨q,hq1,hq2,hq3⟩:=ih m (by omega);rw[hq1];refine⟨(x:Int)::q,rfl,λw=>?_,λp=>?_⟩
  ·rw[zzL34,hq2 w]
   constructor
   ·rintro(rfl|⟨y,rfl,hy⟩)
    ·exact⟨x,rfl,.refl _⟩
    ·exact⟨y,rfl,.up h hy⟩
   ·rintro⟨y,rfl,hy⟩;rcases(anc_up h).1 hy with rfl|hy
    ·exact .inl rfl
    ·exact .inr ⟨y,rfl,hy⟩
  ·cases hpp:p (x:Int) with
   | true=>exact .inr ⟨x,by simp[List.find?,hpp],.refl _,hpp,λy hy _=>hy⟩
   | false=>
    have hf:((x:Int)::q).find? p=q.find? p:=by simp[List.find?,hpp]
    rw[hf];rcases hq3 p with⟨e1,e2⟩|⟨f,e1,e2,e3,e4⟩
    ·refine .inl ⟨e1,λy hy=>?_⟩;rcases(anc_up h).1 hy with rfl|hy
     ·exact hpp
     ·exact e2 y hy
    ·refine .inr ⟨f,e1,.up h e2,e3,λy hy hpy=>?_⟩;rcases(anc_up h).1 hy with rfl|hy
     ·rw[hpp]at hpy;cases hpy
     ·exact e4 y hy hpy
theorem xM:∀ m (a:Int) q,upD t m a=some q->∃ x r k:Nat,a=(x:Int)/\k<m/\Tp t x r k:=by
 intro m
 induction m with
 | zero=>intro a q h;cases h
 | succ m ih=>
  intro a q h;unfold Go.Proofs.YtfhggcbcamamdaaGreat.upD at h
  by_cases ha:0<=a/\a<t.length
  ·rw[if_pos ha]at h;have e :=Za ha.1
   by_cases h1:t.getD a.toNat 0 = -1
   ·exact⟨a.toNat,a.toNat,0,e.symm,by omega,.top (by omega) h1⟩
   ·rw[if_neg h1]at h
    cases hu:Go.Proofs.YtfhggcbcamamdaaGreat.upD t m _ with
    | none=>rw[hu]at h;cases h
    | some q'=>
     obtain⟨y,r,k,e1,e2,e3⟩:=ih _ _ hu;exact⟨a.toNat,r,k+1,e.symm,by omega,.up (by omega) e1 e3⟩
  ·grind
theorem pathD_tp{a:Int}:E5 t a≠[]↔∃ x r k:Nat,a=(x:Int)/\Tp t x r k:=by
 constructor
 ·intro h
  cases hu:upD t _ a with
  | none=>exact absurd (pathD_nil.2 hu) h
  | some q=>obtain⟨x,r,k,e1,_,e2⟩:=xM _ _ _ hu;exact⟨x,r,k,e1,e2⟩
 ·rintro⟨x,r,k,rfl,h⟩ e;obtain⟨q,hq,_⟩:=h.upD _ h.short;rw[pathD_nil.1 e]at hq;cases hq
theorem Tp.path{x r k:Nat}(h:Tp t x r k):(∀ w:Int,w∈E5 t (x:Int)↔∃ z:Nat,w=(z:Int)/\UpTo (Br t) x z) /\
  ∀ p:Int->Bool,((E5 t (x:Int)).find? p=none/\∀ z:Nat,UpTo (Br t) x z->p (z:Int)=false)\/∃ f:Nat,(E5 t (x:Int)).find? p=some (f:Int)/\UpTo (Br t) x f/\p (f:Int)=true/\∀ z:Nat,UpTo (Br t) x z->p (z:Int)=true->UpTo (Br t) f z:=by
 obtain⟨q,h1,h2,h3⟩:=h.upD _ h.short
 have e:E5 t x=q:=by unfold E5;rw[h1];rfl
 rw[e];exact⟨h2,h3⟩
theorem PW{α:Type}{l:List α}{i j:Nat}{x d:α}(hi:i<l.length):(l.set i x).getD j d=if j=i then x else l.getD j d:=by
 grind
theorem tu{x r k:Nat}(h:Tp t x r k):∀ l:List Bool,l.length=t.length->∃ l',Ac (Lc t) ((x:Int),l)=some l'/\l'.length=t.length/\∀ z,z<t.length->(l'.getD z false=true↔l.getD z false=true\/UpTo (Br t) x z):=by
 induction h with
 | @top x hx h=>
  intro l hl
  have hs:Lc t (x,l)=some (.next (-1,l.set x true)):=by
   unfold Lc
   have hb:((x:Int)!=-1)=true:=by rw[zzL100];omega
   simp only[hb,Ah,Am,h];rw[Ad (Fv (by omega)),Ad (Fv hx)]
  have hd:Lc t (-1,l.set x true)=some (.done (l.set x true)):=by
   rfl
  refine⟨l.set x _,by rw[Ap hs,Ak hd],by simp[hl],λz hz=>?_⟩;rw[PW (by omega)]
  have htop:UpTo (Br t) x z↔z=x:=NW λp hp=>by have :=hp.symm.trans h;omega
  rw[htop]
  by_cases e:z=x
  ·simp[e]
  ·simp[e]
 | @up x y r k hx h hk ih=>
  intro l hl
  have hs:Lc t (x,l)=some (.next (y,l.set x true)):=by
   unfold Lc
   have hb:(x !=(-1:Int))=true:=by rw[zzL100];omega
   simp only[hb,Ah,Am,h];rw[Ad (Fv (by omega)),Ad (Fv hx)]
  obtain⟨l',e1,e2,e3⟩:=ih (l.set x _) (by simp[hl]);refine⟨l',by rw[Ap hs,e1],e2,λz hz=>?_⟩;rw[e3 z hz,PW (by omega),anc_up (par:=Br t) h]
  by_cases e:z=x
  ·simp[e]
  ·simp[e]
theorem tv{b r k:Nat}(h:Tp t b r k)(l:List Bool)(hl:l.length=t.length):l.getD r false=true->∃ c:Nat,Ac (Jd t l) (b:Int)=some (c:Int)/\UpTo (Br t) b c/\l.getD c false=true/\∀ z,UpTo (Br t) b z->l.getD z false=true->UpTo (Br t) c z:=by
 induction h with
 | @top x hx h=>
  intro hr
  have hd:Jd t l x=some (.done x):=by
   unfold Jd;rw[Ad (Fv (by omega)),Am,hr]
   rfl
  exact⟨x,Ak hd,.refl _,hr,λz hz _=>hz⟩
 | @up x y r k hx h hk ih=>
  intro hr
  cases hx2:l.getD x _ with
  | true=>
   have hd:Jd t l x=some (.done x):=by
    unfold Jd;rw[Ad (Fv (by omega)),Am,hx2]
    rfl
   exact⟨x,Ak hd,.refl _,hx2,λz hz _=>hz⟩
  | false=>
   have hs:Jd t l x=some (.next y):=by
    unfold Jd;rw[Ad (Fv (by omega)),Am,hx2,J9,Ah,Ad (Fv hx),h]
   obtain⟨c,e1,e2,e3,e4⟩:=ih hr;refine⟨c,by rw[Ap hs,e1],.up h e2,e3,λz hz hlz=>?_⟩;rcases(anc_up  h).1 hz with rfl|hz
   ·grind
   ·exact e4 z hz hlz
theorem LV(ht:t.length<=1000){a b r k m:Nat}(ha:Tp t a r k)(hb:Tp t b r m):∃ c:Nat,Rs t (a:Int) (b:Int)=some (c:Int)/\MeetAt (Br t) a b c:=by
 unfold Rs
 have hroom:1000<=room:=by decide
 rw[Ad ⟨by omega,by omega,by omega⟩,Am];obtain⟨l',h1,h2,h3⟩:=tu ha (List.replicate t.length _) (by simp);rw[h1,An]
 have h3':∀ z,z<t.length->(l'.getD z false=true↔UpTo (Br t) a z):=λz hz=>by grind
 obtain⟨c,e1,e2,e3,e4⟩:=tv hb l' h2 ((h3' r ha.tops.1).2 ha.upTo)
 have hc:c<t.length:=by grind
 refine⟨c,by rw[e1];rfl,λw=>⟨λhw=>⟨((h3' c hc).1 e3).trans hw,e2.trans hw⟩,λ⟨hw1,hw2⟩=>?_⟩⟩;obtain⟨j,_,hj,_⟩:=ha.on hw1;exact e4 w hw2 ((h3' w hj.lt).2 hw1)
theorem pn(hR:M5 t=true){a b r k m:Nat}(ha:Tp t a r k)(hb:Tp t b r m):∃ c:Nat,Rg t (a:Int) (b:Int)=(c:Int)/\MeetAt (Br t) a b c:=by
 unfold Rg;rw[if_pos hR]
 have hcon:∀ z:Nat,(E5 t b).contains z=true↔UpTo (Br t) b z:=λz=>by
  rw[zzL64,hb.path.1]
  constructor
  ·grind
  ·grind
 rcases ha.path.2 (λx=>(E5 t _).contains x) with⟨e1,e2⟩|⟨f,e1,e2,e3,e4⟩
 ·have:=e2 r ha.upTo;rw[(hcon r).2 hb.upTo]at this
  cases this
 ·exact⟨f,by rw[e1];rfl,λw=>⟨λhw=>⟨e2.trans hw,((hcon f).1 e3).trans hw⟩,λ⟨hw1,hw2⟩=>e4 w hw1 ((hcon w).2 hw2)⟩⟩
theorem MeetAt.same{a b r k c d:Nat}(ha:Tp t a r k)(hc:MeetAt (Br t) a b c)(hd:MeetAt (Br t) a b d):c=d:=by
 obtain⟨j,_,hj,_⟩:=ha.on ((hc c).1 (.refl _)).1;exact(hj.anti ((hc d).2 ((hd d).1 (.refl _))) ((hd c).2 ((hc c).1 (.refl _)))).symm
end
theorem m_index(t:List Int)(v:Int)(ht:t.length<=1000):(∃ r:Nat,r<t.length/\t.getD r 0=v/\(∀ i,i<r->t.getD i 0≠v)/\G3 t v=some (r:Int))\/((∀ i,i<t.length->t.getD i 0≠v)/\G3 t v=some (-1)):=by
 have key:∀ k i:Nat,i+k=t.length->(∀ j,j<i->t.getD j 0≠v)->
   (∃ r:Nat,r<t.length/\t.getD r 0=v/\(∀ i,i<r->t.getD i 0≠v)/\Ac (Co t v) (i:Int)=some (.inr (r:Int)))\/((∀ i,i<t.length->t.getD i 0≠v)/\Ac (Co t v) (i:Int)=some (.inl ())):=by
  intro k
  induction k with
  | zero=>
   intro i hi hj
   obtain rfl:i=t.length:=by omega
   refine .inr ⟨hj,Ak ?_⟩;unfold Co;rw[C8];rfl
  | succ k ih=>
   intro i hi hj
   by_cases e:v=t.getD i 0
   ·refine .inl ⟨i,by omega,e.symm,hj,Ak ?_⟩;unfold Co;have hb:((v:Int)==t.getD i 0)=true:=zzL63.2 e;simp only[Bx (show i<t.length by omega),Ah,Am,hb];rw[Ad (Fv (by omega))]
   ·have hs:Co t v (i:Int)=some (.next ((i+1:Nat):Int)):=by
     unfold Co;have hb:((v:Int)==t.getD i 0)=false:=zzL30.2 e;simp only[Bx (show i<t.length by omega),Ah,Am,hb,Aw];rw[Ad (Fv (by omega)),w1 (by omega)]
    rw[Ap hs]
    exact ih (i+1) (by omega) λj hj2=>by
     by_cases ej:j=i
     ·subst ej;exact λh=>e h.symm
     ·exact hj j (by omega)
 have h0:=key t.length 0 (by omega) (λj hj=>absurd hj (Xa _));unfold G3;rcases h0 with⟨r,h1,h2,h3,h4⟩|⟨h1,h2⟩
 ·exact .inl ⟨r,h1,h2,h3,by rw[show((0:Int))=((0:Nat):Int) from rfl,h4];rfl⟩
 ·exact .inr ⟨h1,by rw[show((0:Int))=((0:Nat):Int) from rfl,h2];rfl⟩
section
variable {t:List Int}
structure EC(t:List Int)(r f:Nat)(w:List Int):Prop where
 len:w.length=t.length
 old:∀ y,y<t.length->w.getD y 0≠0->(w.getD y 0<=(f:Int))/\∃ k,Tp t y r k
structure ny(t:List Int)(r f x:Nat)(w:List Int):Prop where
 len:w.length=t.length
 hx:x<t.length
 old:∀ y,y<t.length->w.getD y 0≠0->w.getD y 0<=(f:Int)/\(∃ k,Tp t y r k)\/w.getD y 0=((f+1:Nat):Int)/\∀ r' k,Tp t x r' k->∃ j,k<j/\Tp t y r' j
 fwd:∀ r' k,Tp t x r' k->∃ j,k<=j/\Tp t f r' j
 back:∀ r' k,Tp t f r' k->∃ j,Tp t x r' j
def YU(w:List Int):Nat:=w.countP λz=>z==0
theorem mq{w:List Int}{x:Nat}{v:Int}(hx:x<w.length)(h0:w.getD x 0=0)(hv:v≠0):YU (w.set x v)<YU w:=by
 unfold YU;rw[List.countP_set hx];rw[Ab _ _ _ hx]at h0;have hp:0<w.countP λz=>z==0:=List.countP_pos_iff.2 ⟨w[x],KQ hx,by simp[h0]⟩;have hb :=zzL30.2 hv;simp only[h0,Vg,Mw,hb,FT,I5];omega
theorem leads_loop(ht:t.length<=1000){r:Nat}(hr:r<t.length)(htop:t.getD r 0 = -1){f:Nat}(hf:f<t.length):∀(m x:Nat) (w:List Int),YU w<=m->ny t r f x w->
  (∃ w',Ac (Dz t (f:Int) (r:Int)) ((x:Int),w)=some (.inl w')/\EC t r (f+1) w'/\∃ k,Tp t f r k) \/
  ∃ b w',Ac (Dz t (f:Int) (r:Int)) ((x:Int),w)=some (.inr (b,w'))/\w'.length=t.length/\(b=true->EC t r (f+1) w'/\∃ k,Tp t f r k)/\(b=false->∀ k,¬ Tp t f r k):=by
 intro m
 induction m with
 | zero=>
  intro x w hz hw;exact go 0 (λx w hz=>absurd hz (Xa _)) x w hz hw
 | succ m ih=>
  intro x w hz hw;exact go (m+1) (λx w hz=>ih x w (Nat.le_of_lt_succ hz)) x w hz hw
where
 go (m:Nat) (ih:∀(x:Nat) (w:List Int),YU w<m->ny t r f x w->
  (∃ w',Ac (Dz t (f:Int) (r:Int)) ((x:Int),w)=some (.inl w')/\EC t r (f+1) w'/\∃ k,Tp t f r k) \/
  ∃ b w',Ac (Dz t (f:Int) (r:Int)) ((x:Int),w)=some (.inr (b,w'))/\w'.length=t.length/\(b=true->EC t r (f+1) w'/\∃ k,Tp t f r k)/\(b=false->∀ k,¬ Tp t f r k)) (x:Nat) (w:List Int) (hz:YU w<=m) (hw:ny t r f x w) :
  (∃ w',Ac (Dz t (f:Int) (r:Int)) ((x:Int),w)=some (.inl w')/\EC t r (f+1) w'/\∃ k,Tp t f r k) \/
  ∃ b w',Ac (Dz t (f:Int) (r:Int)) ((x:Int),w)=some (.inr (b,w'))/\w'.length=t.length/\(b=true->EC t r (f+1) w'/\∃ k,Tp t f r k)/\(b=false->∀ k,¬ Tp t f r k):=by
  have hxl:=hw.hx
  have told:∀ k,Tp t x r k->EC t r (f+1) w/\∃ k,Tp t f r k:=λk hk=>by
   obtain⟨j,_,hj⟩:=hw.fwd _ _ hk;refine⟨⟨hw.len,λy hy hy0=>?_⟩,j,hj⟩;rcases hw.old y hy hy0 with⟨h1,h2⟩|⟨h1,h2⟩
   ·exact⟨by omega,h2⟩
   ·obtain⟨i,_,hi⟩:=h2 _ _ hk;exact⟨by omega,i,hi⟩
  by_cases hxr:x=r
  ·subst hxr;refine .inl ⟨w,Ak ?_,told 0 (.top hr htop)⟩;unfold Dz
   have hb:((x:Int)!=(x:Int))=false:=by simp
   simp only[hb,Aw]
  ·have hb:((x:Int)!=(r:Int))=true:=by rw[zzL100];omega
   have hin:A1 (x:Int) w.length:=Fv (by rw[hw.len];exact hxl)
   by_cases hw0:w.getD x 0=0
   ·have hb0:((w.getD x 0:Int)!=0)=false:=by rw[hw0];rfl
    by_cases hpl:0<=t.getD x 0/\t.getD x 0<(t.length:Int)
    ·have hwf:w64 ((f:Int)+1)=((f+1:Nat):Int):=w1 (by omega)
     have hs:Dz t (f:Int) (r:Int) ((x:Int),w)=some (.next (t.getD x 0,w.set x ((f+1:Nat):Int))):=by
      unfold Dz Mz;simp only[hb,Ah,Am,hb0,Aw];rw[Ad hin,Ad (Fv hxl),Ci hpl.1,Ci hpl.2,Ah,An,Dq,Aw,Ad hin,Ad (Fv hxl),hwf]
     rw[Ap hs];obtain⟨y,hy⟩:∃ y:Nat,t.getD x 0=(y:Int):=⟨(t.getD x 0).toNat,(Za hpl.1).symm⟩;rw[hy]at hpl ⊢
     have hyl:y<t.length:=by omega
     have hst:∀ r' k,Tp t y r' k->Tp t x r' (k+1):=λr' k hk=>.up hxl hy hk
     have hset:∀ z,z<t.length->(w.set x ((f+1:Nat):Int)).getD z 0=if z=x then((f+1:Nat):Int) else w.getD z 0:=λz _=>PW (by rw[hw.len];exact hxl)
     have hW:ny t r f y (w.set x ((f+1:Nat):Int)):=by
      refine⟨by simp[hw.len],hyl,λz hzl hz0=>?_,λr' k hk=>?_,λr' k hk=>?_⟩
      ·rw[hset z hzl]at hz0 ⊢
       by_cases e:z=x
       ·subst e;rw[if_pos rfl];exact .inr ⟨rfl,λr' k hk=>⟨k+1,by omega,hst r' k hk⟩⟩
       ·rw[if_neg e]at hz0 ⊢;rcases hw.old z hzl hz0 with h1|⟨h1,h2⟩
        ·exact .inl h1
        ·refine .inr ⟨h1,λr' k hk=>?_⟩;obtain⟨j,hj1,hj2⟩:=h2 _ _ (hst r' k hk);exact⟨j,by omega,hj2⟩
      ·obtain⟨j,hj1,hj2⟩:=hw.fwd _ _ (hst r' k hk);exact⟨j,by omega,hj2⟩
      ·obtain⟨j,hj⟩:=hw.back _ _ hk
       cases hj with
       | top _ h2=>omega
       | up _ h2 h3=>
        have:=hy.symm.trans h2
        cases KS this
        exact⟨_,h3⟩
     have hzz:=mq (x:=x) (v:=((f+1:Nat):Int)) (by rw[hw.len];exact hxl) hw0 (by omega);exact ih y _ (by omega) hW
    ·refine .inr ⟨false,w,Ak ?_,hw.len,⟨λh=>(by cases h),λ_ k hk=>?_⟩⟩
     ·unfold Dz Mz;simp only[hb,Ah,Am,hb0,Aw];rw[Ad hin,Ad (Fv hxl)]
      have:(bif decide ((0:Int)<=t.getD x 0) then decide (t.getD x 0<(t.length:Int)) else false)=false:=by
       cases h1:decide ((0:Int)<=t.getD x 0) with
       | false=>rfl
       | true=>rw[Ah];exact Ch λh2=>hpl ⟨KP h1,h2⟩
      rw[this,An]
      rfl
     ·obtain⟨j,hj⟩:=hw.back _ _ hk
      cases hj with
      | top=>exact hxr rfl
      | up _ h2 h3=>have:=h3.lt;exact hpl ⟨by omega,by omega⟩
   ·have hb0:((w.getD x 0:Int)!=0)=true:=by rw[zzL100];exact hw0
    have hwf:w64 ((f:Int)+1)=((f+1:Nat):Int):=w1 (by omega);refine .inr ⟨w.getD x 0 !=((f+1:Nat):Int),w,Ak ?_,hw.len,⟨λh=>?_,λh k hk=>?_⟩⟩
    ·unfold Dz;simp only[hb,Ah,Am,hb0];rw[Ad hin,Ad hin,hwf]
    ·rcases hw.old x hxl hw0 with⟨_,k,hk⟩|⟨h1,_⟩
     ·exact told k hk
     ·rw[h1]at h;simp at h
    ·have he:w.getD x 0=((f+1:Nat):Int):=by simpa using h
     obtain⟨j,hj⟩:=hw.back _ _ hk;rcases hw.old x hxl hw0 with⟨h1,_⟩|⟨_,h2⟩
     ·omega
     ·obtain⟨i,hi1,hi2⟩:=h2 _ _ hj;have:=hj.det hi2;omega
end
section
variable {t:List Int}
theorem th(ht:t.length<=1000){r:Nat}(hr:r<t.length)(htop:t.getD r 0 = -1){f:Nat}(hf:f<t.length){w:List Int}(hw:EC t r f w) :
  ∃ b w',Uu t w (f:Int) (r:Int)=some (b,w')/\w'.length=t.length/\(b=true->EC t r (f+1) w'/\∃ k,Tp t f r k)/\(b=false->∀ k,¬ Tp t f r k):=by
 unfold Uu;have hW:ny t r f f w:=⟨hw.len,hf,λy hy h0=>.inl (hw.old y hy h0),λr' k hk=>⟨k,zzL6 _,hk⟩,λr' k hk=>⟨k,hk⟩⟩;rcases leads_loop ht hr htop hf _ f w (zzL6 _) hW with⟨w',e1,e2⟩|⟨b,w',e1,e2,e3,e4⟩
 ·exact⟨true,w',by rw[e1];rfl,e2.1.len,λ_=>e2,λh=>by cases h⟩
 ·grind
def WB(t:List Int)(r:Nat):Prop:=∀ f,f<t.length->t.getD f 0≠-2->∃ k,Tp t f r k
open Classical in
theorem dE(ht:t.length<=1000){r:Nat}(hr:r<t.length)(htop:t.getD r 0 = -1):∀(k f:Nat) (w:List Int),f+k=t.length->EC t r f w->(∀ y,y<f->t.getD y 0≠-2->∃ k,Tp t y r k)->
  Ac (Hc t (r:Int)) ((f:Int),w)=some (if WB t r then .inl () else .inr false):=by
 intro k
 induction k with
 | zero=>
  intro f w hk hw hd
  obtain rfl:f=t.length:=by omega
  apply Ak
  unfold Hc;simp only[C8,Aw];rw[if_pos (show WB t r from hd)]
 | succ k ih=>
  intro f w hk hw hd
  have hf:f<t.length:=by omega
  by_cases h2:t.getD f 0 = -2
  ·have hb:((t.getD f 0:Int)!=(-2))=false:=by rw[h2];rfl
   have hs:Hc t (r:Int) ((f:Int),w)=some (.next (((f+1:Nat):Int),w)):=by
    unfold Hc;simp only[Bx hf,Ah,Am,hb,show(false==true)=false from rfl,Aw,An];rw[Ad (Fv hf),Ad (λh=>by cases h),w1 (by omega)]
   rw[Ap hs];refine ih (f+1) w (by omega) ⟨hw.len,λy hy h0=>?_⟩ λy hy hy2=>?_
   ·obtain⟨e1,e2⟩:=hw.old y hy h0;exact⟨by omega,e2⟩
   ·by_cases e:y=f
    ·subst e;exact absurd h2 hy2
    ·exact hd y (by omega) hy2
  ·have hb:((t.getD f 0:Int)!=(-2))=true:=by rw[zzL100];exact h2
   obtain⟨b,w',e1,e2,e3,e4⟩:=th ht hr htop hf hw
   cases b with
   | false=>
    rw[if_neg (λhA:WB t r=>by obtain⟨k,hk⟩:=hA f hf h2;exact e4 rfl k hk)]
    apply Ak
    unfold Hc;simp only[Bx hf,Ah,Am,hb,show(true==true)=true from rfl,e1,An];rw[Ad (Fv hf),Ad (λ_=>by rw[hw.len,e2])]
    rfl
   | true=>
    have hs:Hc t (r:Int) ((f:Int),w)=some (.next (((f+1:Nat):Int),w')):=by
     unfold Hc;simp only[Bx hf,Ah,Am,hb,show(true==true)=true from rfl,e1,An];rw[Ad (Fv hf),Ad (λ_=>by rw[hw.len,e2]),w1 (by omega)]
     rfl
    rw[Ap hs];obtain⟨e5,e6⟩:=e3 rfl;refine ih (f+1) w' (by omega) e5 λy hy hy2=>?_
    by_cases e:y=f
    ·subst e;exact e6
    ·exact hd y (by omega) hy2
theorem qh:topsK t t.length=1↔∃ r,r<t.length/\t.getD r 0 = -1/\∀ x,x<t.length->t.getD x 0 = -1->x=r:=by
 have key:∀ n,(topsK t n=0↔∀ x,x<n->t.getD x 0≠-1)/\(topsK t n=1↔∃ r,r<n/\t.getD r 0 = -1/\∀ x,x<n->t.getD x 0 = -1->x=r):=by
  intro n
  induction n with
  | zero=>exact⟨⟨λ_ x hx=>absurd hx (Xa _),λ_=>rfl⟩,⟨λh=>by simp[topsK]at h,λ⟨r,h,_⟩=>absurd h (Xa _)⟩⟩
  | succ n ih=>
   rw[FS]
   by_cases e:t.getD n 0 = -1
   ·rw[if_pos e];refine⟨⟨λh=>by omega,λh=>absurd e (h n (by omega))⟩,⟨λh=>⟨n,by omega,e,λx hx hx1=>?_⟩,λ⟨r,h1,h2,h3⟩=>?_⟩⟩
    ·by_cases ex:x=n
     ·exact ex
     ·grind
    ·have:=ih.1.2 λx hx hx1=>by
      grind
     omega
   ·grind
 exact(key _).2
theorem rightD_iff:M5 t=true↔∃ r,r<t.length/\t.getD r 0 = -1/\WB t r:=by
 unfold M5;rw[A6,all_range,Gq,qh]
 constructor
 ·rintro⟨h1,r,h2,h3,h4⟩;refine⟨r,h2,h3,λf hf hf2=>?_⟩;have:=h1 f hf;unfold px at this;rw[FV,Gq,Zb,SV]at this;rcases this with h|h
  ·exact absurd h hf2
  ·obtain⟨x,r',k,e,hk⟩:=pathD_tp.1 h
   cases KS e
   have:=h4 _ hk.tops.1 hk.tops.2;subst this;exact⟨k,hk⟩
 ·rintro⟨r,h2,h3,h4⟩;refine⟨λf hf=>?_,r,h2,h3,λx hx hx1=>?_⟩
  ·unfold px;rw[FV,Gq,Zb,SV]
   by_cases e:t.getD f 0 = -2
   ·exact .inl e
   ·obtain⟨k,hk⟩:=h4 f hf e;exact .inr (pathD_tp.2 ⟨f,r,k,rfl,hk⟩)
  ·obtain⟨k,hk⟩:=h4 x hx (by omega);exact((hk.det (.top hx hx1)).1).symm
theorem YE(hR:M5 t=true):∃ r,WB t r:=by obtain⟨r,_,_,h⟩:=rightD_iff.1 hR;exact⟨r,h⟩
theorem pk(ht:t.length<=1000):Tb t=some (M5 t):=by
 unfold Tb
 have hroom:1000<=room:=by decide
 rcases m_index t _ ht with⟨r,h1,h2,h3,h4⟩|⟨h1,h2⟩
 ·rw[h4,An,Ch (by omega),Aw,Ad ⟨by omega,by omega,by omega⟩,Am];have hl:=dE ht h1 h2 t.length 0 (List.replicate t.length 0) (by omega) ⟨by simp,λy hy h0=>absurd IB h0⟩ (λy hy=>absurd hy (Xa _));rw[show(((0:Nat):Int))=0 from rfl]at hl;rw[hl,An]
  by_cases hA:WB t r
  ·rw[if_pos hA,rightD_iff.2 ⟨r,h1,h2,hA⟩]
  ·rw[if_neg hA]
   have :=Bool.eq_false_iff.2 λhR=>by
    obtain⟨r',g1,g2,g3⟩:=rightD_iff.1 hR;obtain⟨k,hk⟩:=g3 r h1 (by omega);have:=(hk.det (.top h1 h2)).1;subst this;exact hA g3
   rw[this]
 ·rw[h2]
  have :=Bool.eq_false_iff.2 λhR=>by
   obtain⟨r',g1,g2,g3⟩:=rightD_iff.1 hR;exact h1 r' g1 g2
  rw[this]
  rfl
def FH(t:List Int)(a:Int):Bool:=decide (0<=a)&&decide (a<(t.length:Int))&&decide (t.getD a.toNat 0≠-2)
theorem PX(hR:M5 t=true){a:Int}:FH t a=true↔∃ x k r:Nat,a=(x:Int)/\Tp t x r k:=by
 unfold FH;rw[A6,A6,Gq,Gq,Gq]
 constructor
 ·rintro⟨⟨h1,h2⟩,h3⟩;obtain⟨r,hA⟩:=YE hR;obtain⟨k,hk⟩:=hA _ (by omega) h3;exact⟨a.toNat,k,r,(Za h1).symm,hk⟩
 ·rintro⟨x,k,r,rfl,h⟩;rw[Am]
  cases h with
  | top _ h2=>omega
  | up _ h2 _=>omega
theorem gZ(a:Int):Nr t a=some (FH t a):=by
 unfold Nr Mz FH;rw[An]
 cases h1:decide (0<=a) with
 | false=>rfl
 | true=>
  rw[Ah,Lj]
  cases h2:decide (a<t.length) with
  | false=>rfl
  | true=>
   rw[Ad (λ_=>⟨KP h1,KP h2⟩),Ah,Lj]
   congr 1
   rw[W9,zzL100,Gq]
theorem tf(ht:t.length<=1000)(a b:Int):Ut t a b=some (M5 t&&FH t a&&FH t b):=by
 unfold Ut;rw[pk ht]
 cases M5 t with
 | false=>rfl
 | true=>
  simp only[  gZ, Lj]
  cases FH t a with
  | false=>rfl
  | true=>grind
theorem mD{a b:Int}(h:(M5 t&&FH t a&&FH t b)=false):Rg t a b = -2:=by
 unfold Rg
 by_cases hR:M5 t=true
 ·rw[if_pos hR];rw[hR]at h
  have hno:∀ c,FH t c=false->E5 t c=[]:=λc hc=>by
   by_cases e:E5 t c=[]
   ·exact e
   ·obtain⟨x,r,k,e1,e2⟩:=pathD_tp.1 e;rw[(PX hR).2 ⟨x,k,r,e1,e2⟩]at hc;cases hc
  cases ha:FH t a with
  | false=>rw[hno a ha];rfl
  | true=>
   rw[ha]at h;rw[hno b h]
   have:((E5 t a).find? λx=>[].contains x)=none:=List.find?_eq_none.2 λx _=>by simp
   rw[this]
   rfl
 ·rw[if_neg hR]
theorem VH(ht:t.length<=1000){a b:Int}(h:(M5 t&&FH t a&&FH t b)=true):Rs t a b=some (Rg t a b)/\0<=Rg t a b:=by
 rw[A6,A6]at h;obtain⟨⟨hR,ha⟩,hb⟩:=h;obtain⟨x,k,r,rfl,hx⟩:=(PX hR).1 ha;obtain⟨y,m,r',rfl,hy⟩:=(PX hR).1 hb;obtain⟨rr,hA⟩:=YE hR
 have top:∀{x r k},Tp t x r k->r=rr:=λ{x r k} h=>by
  obtain⟨i,hi⟩:=hA r h.tops.1 (by rw[h.tops.2];omega);exact((Tp.top h.tops.1 h.tops.2).det hi).1
 obtain rfl:=top hx;obtain rfl:=top hy;obtain⟨c,h1,h2⟩:=LV ht hx hy;obtain⟨d,h3,h4⟩:=pn hR hx hy;have:=h2.same hx h4;subst this;exact⟨by rw[h1,h3],by omega⟩
theorem w4(ht:t.length<=1000)(a b:Int):X0 t a b=some (Ly t a b):=by
 unfold X0 Ly;rw[tf ht]
 cases h:(M5 t&&FH t a&&FH t b) with
 | false=>
  rw[mD h]
  have:(-2==a&&(-2 !=-2))=false:=by simp
  rw[this]
  rfl
 | true=>
  obtain⟨h1,h2⟩:=VH ht h;simp only[show(true==true)=true from rfl,Ah,h1,An]
  have:(Rg t a b !=-2)=true:=by rw[zzL100];omega
  rw[this,FY]
end
theorem tx:∀ n:Fin 65,Rq (Iy 1) (Iy ((n.val:Nat):Int))=some (0,((n.val:Nat):Int)):=by decide +kernel
theorem mG{n:Nat}(h:n<=64):Rq (Iy 1) (Iy (n:Int))=some (0,(n:Int)):=tx ⟨n,by omega⟩
theorem eJ{v:Int}{n:Nat}(hn:n<=64):∀(m i:Nat) (l:List Int),n-i<=m->1<=i->i<=n->l.length=n->(∀ j,j<i->l.getD j 0=v)->Ac Dk ((i:Int),l)=some (List.replicate n v):=by
 intro m
 induction m with
 | zero=>
  intro i l hm h1 h2 hl hv
  obtain rfl:i=n:=by omega
  exact fin l hl hv
 | succ m ih=>
  intro i l hm h1 h2 hl hv
  by_cases e:i=n
  ·grind
  ·have hs:Dk ((i:Int),l)=some (.next (((i+Nat.min i (n-i):Nat):Int),OB l i (Nat.min i (n-i)) (λj=>l.getD (0+j) 0))):=by
    unfold Dk;simp only[hl,Bx (show i<n by omega),Ah,Am,E6,CG];have hc:(0:Int)<=(i:Int)/\i<=n:=⟨by omega,h2⟩;have hmn:Nat.min i (n-i)<=i:=Nat.min_le_left _ _;rw[Ad hc,Ad hc,Hh (by omega) (by omega),Int.natCast_add]
   rw[Ap hs];have hmn:Nat.min i (n-i)<=i/\Nat.min i (n-i)<=n-i:=⟨Nat.min_le_left _ _,Nat.min_le_right _ _⟩;have hge:1<=Nat.min i (n-i):=Nat.le_min.2 ⟨h1,by omega⟩;refine ih _ _ (by omega) (by omega) (by omega) (by rw[<- Ei];exact hl) λj hj=>?_;rw[GX _ _ _ _ _ _ (by omega)]
   by_cases hji:i<=j/\j<i+Nat.min i (n-i)
   ·grind
   ·grind
where
 fin {v:Int} {i:Nat} (l:List Int) (hl:l.length=i) (hv:∀ j,j<i->l.getD j 0=v):Ac Dk ((i:Int),l)=some (List.replicate i v):=by
  apply Ak
  unfold Dk;simp only[hl,C8,Aw]
  congr 2
  refine CI (by simp[hl]) λj h1 h2=>?_;rw[<- Ab _ _ 0 h1,hv j (by omega)]
  simp
theorem pl{v:Int}{n:Nat}(h1:1<=n)(hn:n<=64):Iv [v] (n:Int)=some (List.replicate n v):=by
 have hroom:64<=room:=by decide
 unfold Iv;rw[Ch (by omega),Aw,An]
 show Option.bind (Rq (Iy 1) _) _=_
 rw[mG hn,An];have e1:decide (0<0)=false:=rfl;have e2:decide (9223372036854775807<(n:Int))=false:=Ch (by omega);simp only[ e2,Aw];have ew:w64 n=n:=Hh (by omega) (by omega);rw[ew,Ad ⟨by omega,by omega,by omega⟩,Am,Oa,CG];have em:Nat.min [v].length n=1:=Nat.min_eq_left h1;rw[em,eJ hn n 1 _ (by omega) (zzL6 _) h1 (by rw[<- Ei];simp) (λj hj=>?_)]
 ·rfl
 ·rw[GX _ _ _ _ _ _ (by simp;omega),if_pos ⟨by omega,by omega⟩]
  have:j-0=0:=by omega
  rw[this];rfl
section
variable {S:Nat->List Nat} {r n:Nat} {P:List Nat}
theorem Inv.tp{at_:Nat->Nat}{t:List Int}(h:Inv S r n at_ (Br t))(hl:t.length=n):∀ m x,at_ x<=m->x<n->Br t x≠-2->∃ k,Tp t x r k:=by
 intro m
 induction m with
 | zero=>
  intro x hm hx hp;rcases h.kind x hx with h1|h1|⟨z,hz⟩
  ·exact absurd h1 hp
  ·subst h1;exact⟨0,.top (by omega) h.top⟩
  ·obtain⟨_,_,h3,_⟩:=h.up x hx z hz;omega
 | succ m ih=>
  intro x hm hx hp;rcases h.kind x hx with h1|h1|⟨z,hz⟩
  ·exact absurd h1 hp
  ·subst h1;exact⟨0,.top (by omega) h.top⟩
  ·obtain⟨z1,z2,z3,_⟩:=h.up x hx z hz;obtain⟨k,hk⟩:=ih z (by omega) z1 z2;exact⟨k+1,.up (by omega) hz hk⟩
def GF(t l:List Int)(i:Nat)(v:Int):Prop:=
 (v = -2/\∀ j,j<i->Br t (l.getD j 0).toNat = -2) \/
 ∃ z:Nat,v=(z:Int)/\z<t.length/\Br t z≠-2/\(∀ w,UpTo (Br t) z w↔∀ j,j<i->Br t (l.getD j 0).toNat≠-2->UpTo (Br t) (l.getD j 0).toNat w)
theorem ay{at_:Nat->Nat}{t l:List Int}(ht:t.length<=64)(hll:l.length<=64)(h:Inv S r n at_ (Br t))(hl:t.length=n)(hin:∀ x∈l,0<=x/\x<(n:Int)):∀(k i:Nat) (v:Int),i+k=l.length->GF t l i v->
  ∃ v',Ac (F6 t l) (v,(i:Int))=some v'/\GF t l l.length v':=by
 intro k
 induction k with
 | zero=>
  intro i v hi hv
  obtain rfl:i=l.length:=by omega
  refine⟨v,Ak ?_,hv⟩;unfold F6;simp only[C8,Aw]
 | succ k ih=>
  intro i v hi hv
  have hil:i<l.length:=by omega
  obtain⟨x0,x1⟩:=hin _ (Ag (d:=0) hil);have hxe:(((l.getD i 0).toNat:Nat):Int)=l.getD i 0:=Za x0;have hxin:A1 (l.getD i 0) t.length:=zF x0 (by omega)
  have next:∀ v',F6 t l (v,(i:Int))=some (.next (v',((i+1:Nat):Int)))->GF t l (i+1) v'->∃ v',Ac (F6 t l) (v,(i:Int))=some v'/\GF t l l.length v':=λv' hs hv'=>by
   rw[Ap hs];exact ih (i+1) v' (by omega) hv'
  by_cases hp:Br t (l.getD i 0).toNat = -2
  ·have hb:((t.getD (l.getD i 0).toNat 0:Int)==-2)=true:=zzL63.2 hp;refine next v ?_ ?_
   ·unfold F6;simp only[Bx hil,Ah,Am,hb];rw[Ad (Fv hil),Ad hxin,An,w1 (by omega)]
   ·have hstep:∀ w,(∀ j,j<i->Br t (l.getD j 0).toNat≠-2->UpTo (Br t) (l.getD j 0).toNat w)↔∀ j,j<i+1->Br t (l.getD j 0).toNat≠-2->UpTo (Br t) (l.getD j 0).toNat w:=λw=>by
     refine⟨λhj j hj1 hj2=>?_,λhj j hj1=>hj j (by omega)⟩
     by_cases e:j=i
     ·subst e;exact absurd hp hj2
     ·exact hj j (by omega) hj2
    rcases hv with⟨h1,h2⟩|⟨z,h1,h2,h3,h4⟩
    ·refine .inl ⟨h1,λj hj=>?_⟩
     by_cases e:j=i
     ·subst e;exact hp
     ·exact h2 j (by omega)
    ·exact .inr ⟨z,h1,h2,h3,λw=>by rw[h4 w,hstep w]⟩
  ·have hb:((t.getD (l.getD i 0).toNat 0:Int)==-2)=false:=zzL30.2 hp;rcases hv with⟨h1,h2⟩|⟨z,h1,h2,h3,h4⟩
   ·subst h1;refine next (l.getD i 0) ?_ (.inr ⟨(l.getD i 0).toNat,hxe.symm,by omega,hp,λw=>⟨λhw j hj hj2=>?_,λhw=>hw i (by omega) hp⟩⟩)
    ·unfold F6;simp only[Bx hil,Ah,Am,hb,Aw,show((-2:Int)==-2)=true from rfl];rw[Ad (Fv hil),Ad hxin,An,w1 (by omega)]
    ·by_cases e:j=i
     ·subst e;exact hw
     ·exact absurd (h2 j (by omega)) hj2
   ·subst h1;have hb2:((z:Int)==-2)=false:=zzL30.2 (by omega);obtain⟨k1,hk1⟩:=h.tp hl _ z (zzL6 _) (by omega) h3;obtain⟨k2,hk2⟩:=h.tp hl _ (l.getD i 0).toNat (zzL6 _) (by omega) hp;obtain⟨c,c1,c2⟩:=LV (by omega) hk1 hk2;have hcz:=(c2 c).1 (.refl _);obtain⟨jc,_,hjc,_⟩:=hk1.on hcz.1
    have hcp:Br t c≠-2:=by
     show t.getD c 0≠-2
     cases hjc with
     | top _ h=>omega
     | up _ h _=>omega
    refine next (c:Int) ?_ (.inr ⟨c,rfl,hjc.lt,hcp,λw=>?_⟩)
    ·rw[hxe]at c1;unfold F6;simp only[Bx hil,Ah,Am,hb,Aw,hb2,c1,An];rw[Ad (Fv hil),Ad hxin,An,w1 (by omega)]
    ·rw[c2 w,h4 w];refine⟨λ⟨a1,a2⟩ j hj hj2=>?_,λha=>⟨λj hj=>ha j (by omega),ha i (by omega) hp⟩⟩
     by_cases e:j=i
     ·subst e;exact a2
     ·exact a1 j (by omega) hj2
theorem lu{at_:Nat->Nat}{t l:List Int}(ht:t.length<=64)(hll:l.length<=64)(h:Inv S r n at_ (Br t))(hl:t.length=n)(hin:∀ x∈l,0<=x/\x<(n:Int)) :
  ∃ v,M0 t l=some v/\GF t l l.length v:=by
 obtain⟨v,h1,h2⟩:=ay ht hll h hl hin l.length 0 _ (by omega) (.inl ⟨rfl,λj hj=>absurd hj (Xa _)⟩);refine⟨v,?_,h2⟩;unfold M0;rw[show((0:Int))=(0:Nat) from rfl,h1]
 rfl
end
section
variable {L:List (List Int)} (hm:Ms L=true) {r:Nat} {P:List Nat}
include hm
theorem qZ{p y:Nat}(hp:p<L.length):y∈sN L p↔Yz L p y=true:=by
 rw[pP];obtain⟨_,_,h3⟩:=mayS_iff.1 hm
 constructor
 ·intro h;obtain⟨x,hx,rfl⟩:=zzL21.1 h;have:=bE (h3 p hp) hx;rw[Za this.1];exact hx
 ·intro h;exact zzL21.2 ⟨_,h,Am y⟩
theorem BP{y:Nat}(hy:y<L.length){x:Int}:x∈(Do L).getD y []↔∃ p:Nat,x=(p:Int)/\p<L.length/\y∈sN L p:=by
 rw[DO hy];unfold Kb;rw[dV]
 constructor
 ·rintro⟨k,h1,h2,h3⟩;exact⟨k,h1,h2,(qZ hm h2).2 h3⟩
 ·rintro⟨k,h1,h2,h3⟩;exact⟨k,h1,h2,(qZ hm h2).1 h3⟩
theorem ax(o:Ordered (sN L) r L.length P){t:List Int}{i:Nat}(h:Ready (sN L) r L.length P t i)(hi:i<P.length) :
  M0 t ((Do L).getD (P.getD i 0) [])=some (Pl (sN L) L.length t (P.getD i 0):Int):=by
 obtain⟨hL1,hL64,_⟩:=mayS_iff.1 hm;have hyn:P.getD i 0<L.length:=o.lt (Ob _ (Wg hi))
 have hlen:((Do L).getD (P.getD i 0) []).length<=64:=by
  rw[DO hyn];have:=Yh L L.length (P.getD i 0);omega
 obtain⟨v,h1,h2⟩:=lu (by rw[h.len];exact hL64) hlen h.inv h.len λx hx=>by
  obtain⟨p,rfl,hp,_⟩:=(BP hm hyn).1 hx;omega
 rw[h1];have hb:=h.best o hi
 have mem:∀ p,p<L.length->P.getD i 0∈sN L p->∃ j,j<((Do L).getD (P.getD i 0) []).length/\(((Do L).getD (P.getD i 0) []).getD j 0).toNat=p:=λp hp hy=>by
  obtain⟨j,hj,e⟩:=Fx ((BP hm hyn).2 ⟨p,rfl,hp,hy⟩);exact⟨j,hj,by rw[Ab _ _ _ hj,e,Am]⟩
 have mem':∀ j,j<((Do L).getD (P.getD i 0) []).length->(((Do L).getD (P.getD i 0) []).getD j 0).toNat<L.length/\P.getD i 0∈sN L (((Do L).getD (P.getD i 0) []).getD j 0).toNat:=λj hj=>by
  obtain⟨p,e,hp,hy⟩:=(BP hm hyn).1 (Ag (d:=(0:Int)) hj);rw[e,Am];exact⟨hp,hy⟩
 rcases h2 with⟨rfl,h3⟩|⟨z,rfl,hz,hz2,h4⟩
 ·obtain⟨p,hp,hyp,hp2,_⟩:=hb.fwd;obtain⟨j,hj,e⟩:=mem p hp hyp;exact absurd (by rw[<- e];exact h3 j hj) hp2
 ·have hbest:fD (sN L) L.length (Br t) (P.getD i 0) z:=λw=>by
   rw[h4 w];refine⟨λha p hp hyp hp2=>?_,λha j hj hj2=>?_⟩
   ·obtain⟨j,hj,e⟩:=mem p hp hyp;have:=ha j hj (by rw[e];exact hp2);rwa[e]at this
   ·grind
  rw[h.best_eq o hi (by rw[<- h.len];exact hz) hz2 hbest]
end
theorem de{P:List Nat}{i:Nat}(h:i<P.length):(Wb P).getD i 0=((P.getD i 0:Nat):Int):=by
 unfold Wb;rw[Ab _ _ _ (by simpa using h),Ab _ _ _ h,List.getElem_map]
 rfl
theorem eQ{t:List Int}{x:Nat}{v:Int}(hx:x<t.length)(h:t.getD x 0=v):t.set x v=t:=by
 subst h;rw[Ab _ _ _ hx];exact List.set_getElem_self hx
section
variable {L:List (List Int)} (hm:Ms L=true) {r:Nat} {P:List Nat} (o:Ordered (sN L) r L.length P)
include hm o
theorem iE{t0:List Int}(h:Ready (sN L) r L.length P t0 0):∀(k i:Nat) (b:Bool),i+k=P.length->
  ∃ b',Ac (Fj (Kh L) (Wb (r::P))) (b,(i:Int),AB (sN L) L.length P t0 i)=some (b',AB (sN L) L.length P t0 P.length) /\
   (b'=false↔b=false/\∀ j,i<=j->j<P.length->Br (AB (sN L) L.length P t0 j) (P.getD j 0)=(Pl (sN L) L.length (AB (sN L) L.length P t0 j) (P.getD j 0):Int)):=by
 have hP64:P.length<=64:=by
  have h1:=Tn L.length (r::P) o.nodup λx hx=>o.lt hx;have h2:=(mayS_iff.1 hm).2.1;simp at h1;omega
 have hdl:(Wb (r::P)).drop (1:Int).toNat=Wb P:=rfl
 have hlen:(Wb P).length=P.length:=by simp[Wb]
 intro k
 induction k with
 | zero=>
  intro i b hi
  obtain rfl:i=P.length:=by omega
  refine⟨b,Ak ?_,λh=>⟨h,λj h1 h2=>by omega⟩,λh=>h.1⟩;unfold Fj;simp only[hdl,hlen,C8,Aw]
 | succ k ih=>
  intro i b hi
  have hil:i<P.length:=by omega
  have rd:=h.round o i (by omega);have hma:=ax hm o rd hil;have hyn:P.getD i 0<L.length:=o.lt (Ob _ (Wg hil))
  have hyt:P.getD i 0<(AB (sN L) L.length P t0 i).length:=by rw[rd.len];exact hyn
  have hpred:(Kh L).Pred=Do L:=rfl
  by_cases he:Br (AB (sN L) L.length P t0 i) (P.getD i 0)=(Pl (sN L) L.length (AB (sN L) L.length P t0 i) (P.getD i 0):Int)
  ·have hb:((Pl (sN L) L.length (AB (sN L) L.length P t0 i) (P.getD i 0):Int)!=(AB (sN L) L.length P t0 i).getD (P.getD i 0) 0)=false:=by
    have:(AB (sN L) L.length P t0 i).getD (P.getD i 0) 0=_:=he;rw[this];simp
   have hnx:AB (sN L) L.length P t0 (i+1)=AB (sN L) L.length P t0 i:=eQ hyt he
   have hs:Fj (Kh L) (Wb (r::P)) (b,(i:Int),AB (sN L) L.length P t0 i)=some (.next (b,((i+1:Nat):Int),AB (sN L) L.length P t0 (i+1))):=by
    unfold Fj;simp only[hdl,hlen,Bx hil,Ah,Am,de hil,hpred,hma,An,hb,Aw];rw[Ad (Fv hil),Ad (Fv (by rw[Ps];exact hyn)),Ad (Fv hyt),An,w1 (by omega),hnx]
   obtain⟨b',e1,e2⟩:=ih (i+1) b (by omega);refine⟨b',by rw[Ap hs,e1],λh=>?_,λ⟨h1,h2⟩=>e2.2 ⟨h1,λj hj=>h2 j (by omega)⟩⟩;obtain⟨h1,h2⟩:=e2.1 h;refine⟨h1,λj hj1 hj2=>?_⟩
   by_cases e:j=i
   ·subst e;exact he
   ·exact h2 j (by omega) hj2
  ·have hb:((Pl (sN L) L.length (AB (sN L) L.length P t0 i) (P.getD i 0):Int)!=(AB (sN L) L.length P t0 i).getD (P.getD i 0) 0)=true:=by
    rw[zzL100];exact λe=>he e.symm
   have hs:Fj (Kh L) (Wb (r::P)) (b,(i:Int),AB (sN L) L.length P t0 i)=some (.next (true,((i+1:Nat):Int),AB (sN L) L.length P t0 (i+1))):=by
    unfold Fj;simp only[hdl,hlen,Bx hil,Ah,Am,de hil,hpred,hma,An,hb];rw[Ad (Fv hil),Ad (Fv (by rw[Ps];exact hyn)),Ad (Fv hyt),Ad (Fv hyt),An,w1 (by omega)]
    rfl
   obtain⟨b',e1,e2⟩:=ih (i+1) true (by omega);refine⟨b',by rw[Ap hs,e1],λh=>?_,λ⟨h1,h2⟩=>absurd (h2 i (zzL6 _) hil) he⟩;obtain⟨h1,_⟩:=e2.1 h;cases h1
theorem mc{t0:List Int}(h:Ready (sN L) r L.length P t0 0):∃ b,Ac (Fj (Kh L) (Wb (r::P))) (false,(0:Int),t0)=some (b,AB (sN L) L.length P t0 P.length)/\(b=false↔AL (sN L) L.length P t0):=by
 obtain⟨b,e1,e2⟩:=iE hm o h P.length 0 _ (by omega);refine⟨b,e1,e2.trans ⟨λ⟨_,h2⟩=>?_,λhs=>⟨rfl,λj _ hj=>?_⟩⟩⟩
 ·have key:∀ j,j<=P.length->AB (sN L) L.length P t0 j=t0:=by
   intro j
   induction j with
   | zero=>intro _;rfl
   | succ j ih=>
    intro hj;have ih':=ih (by omega);have rd:=h.round o j (by omega)
    have hyn:P.getD j 0<(AB (sN L) L.length P t0 j).length:=by rw[rd.len];exact o.lt (Ob _ (Wg (by omega)))
    have:AB _ _ P t0 (j+1)=AB _ _ P t0 j:=eQ hyn (h2 j (P4 _) (by omega));rw[this,ih']
  intro i hi;have:=h2 i (P4 _) hi;rwa[key i (by omega)]at this
 ·rw[CA o h.len hs j (by omega)];exact hs j hj
open Classical in
theorem kO(j:Nat):Hz (Kh L) (Wb (r::P),UO (sN L) L.length P (Jg L.length r) j)=some (if AL (sN L) L.length P (UO (sN L) L.length P (Jg L.length r) j) then .done (UO (sN L) L.length P (Jg L.length r) (j+1)) else .next (Wb (r::P),UO (sN L) L.length P (Jg L.length r) (j+1))):=by
 obtain⟨b,e1,e2⟩:=mc hm o (Ready.rounds o j);have hL2:Vu (Kh L) (Wb (r::P))=Fj (Kh L) (Wb (r::P)):=rfl
 have hlen:(0:Int)<=1/\(1:Int)<=((Wb (r::P)).length:Int):=by simp[Wb];omega
 unfold Hz;simp only[hL2,e1,An];rw[Ad hlen]
 cases b with
 | false=>rw[if_pos (e2.1 rfl)];rfl
 | true=>rw[if_neg (λh=>by have:=e2.2 h;cases this)];rfl
theorem eX:∃ J,AL (sN L) L.length P (UO (sN L) L.length P (Jg L.length r) J)/\Ac (Hz (Kh L)) (Wb (r::P),Jg L.length r)=some (UO (sN L) L.length P (Jg L.length r) J):=by
 obtain⟨J,h1,h2⟩:=vO o;refine⟨J,h2,?_⟩
 have key:∀ d j,j+d=J->Ac (Hz (Kh L)) (Wb (r::P),UO (sN L) L.length P (Jg L.length r) j)=some (UO (sN L) L.length P (Jg L.length r) J):=by
  intro d
  induction d with
  | zero=>
   intro j hj
   obtain rfl:j=J:=by omega
   have hF:=kO hm o j;rw[if_pos h2]at hF;rw[Ak hF];have:UO _ _ P _ (j+1)=UO _ _ P _ j:=CA o (Ready.rounds o j).len h2 _ (zzL6 _);rw[this]
  | succ d ih=>
   intro j hj;have hF:=kO hm o j;rw[if_neg (h1 j (by omega))]at hF;rw[Ap hF];exact ih _ (by omega)
 exact key J 0 (by omega)
end
theorem w5(g:TGraph)(r:Int)(h1:Fits g.Succ)(h2:Fits g.Pred):Ty g r=some (MN g r):=by
 unfold MN
 by_cases hc:DY g=true/\0<=r/\r<g.Succ.length
 ·rw[if_pos hc];obtain⟨hG,h0,hlt⟩:=hc;obtain⟨hm,hg⟩:=jr hG;obtain⟨hL1,hL64,_⟩:=mayS_iff.1 hm
  have hr:r.toNat<g.Succ.length:=by omega
  obtain⟨O,hO⟩:=Ord.exist (Ww hm) hr;have hord:=(aw g h1 trivial r).1 hG h0 hlt O hO;obtain⟨P,rfl,o⟩:=hO.ordered hr (Ww hm);obtain⟨J,hJ,hl⟩:=eX hm o;have ht:=(MM o hJ).eq hm hr o;rw[ht]at hl;have hlen:(((Wb (r.toNat::P)).length:Int)==0)=false:=zzL30.2 (by simp[Wb];omega)
  have hlen2:(0:Int)<=1/\(1:Int)<=(Wb (r.toNat::P)).length:=by simp[Wb];omega
  have hL2:Vu g _=Fj g (Wb (r.toNat::P)):=rfl
  have hst:(Rz (Hz g (Wb (r.toNat::P),Jg g.Succ.length r.toNat)) (Hz g))=some (Y8 g.Succ r.toNat):=by
   rw[MI,hg];exact hl
  unfold Ty;rw[hord,An,  pl hL1 hL64,An,Ad (zF h0 (by simpa using hlt)),Ad hlen2]
  have:(Hz g (Wb (r.toNat::P),Jg g.Succ.length r.toNat))=(Ac (Fj g (Wb (r.toNat::P))) (false,0,(List.replicate g.Succ.length (-2)).set r.toNat (-1))).bind (λx22=>(match x22 with|(b10,l11)=>(bif b10 then(some (.next (Wb (r.toNat::P),l11))) else(some (.done l11))))):=by
   unfold Hz Jg;simp only[hL2];rw[Ad hlen2]
  rw[this]at hst;refine Eq.trans ?_ (Bi (λx =>x.bind λx42=>some x42) hst)
  rfl
 ·rw[if_neg hc];unfold Ty
  have:(DY g&&(decide (0<=r)&&decide (r<g.Succ.length)))=false:=by
   grind
  rw[(aw g h1 trivial r).2 this]
  rfl
theorem wW{α:Type}(l:List α)(d:α)(p:α->Bool){X:Type}(f:Int->Option (LR Int X))(yes no:X)(hl:l.length<9223372036854775808)(hk:∀ i:Nat,i<l.length->f i=some (bif p (l.getD i d) then .next (w64 ((i:Int)+1)) else .done no))
  (he:f l.length=some (.done yes)):Ac f (0:Int)=some (bif l.all p then yes else no):=by
 have:=Hk l d p f yes no (λi hi hp=>by rw[hk i hi,hp,Ah,A0 hi hl]) (λi hi hp=>by grind) he l.length 0 (by omega);rwa[Oc]at this
theorem wj(f:TFunc)(hf:UR f)(l:Int)(t:List Int)(u:List Bj):Kj f l t u=some (bif Q1 f then 0 else 4,f,l,t,u):=by
 unfold Kj Nq;rw[Aax f hf]
 cases Q1 f<;>rfl
theorem la(phis:List TPhi)(l:List Int)(h1:phis.length<9223372036854775808)(h2:l.length<4611686018427387904):Pd phis l=some (phis.all (Js l)):=by
 unfold Pd
 rw[wW _ _ (Js l) _ (.inl ()) _ h1 (λi hi=>by
  unfold Po
  have hd:decide ((i:Int)<phis.length)=true:=by simpa using hi
  simp only[hd, Aa (Ai hi),C5,aq _ _ h2, Js]
  cases decide ((phis.getD i _).From=l) with
  | false=>rfl
  | true=>
   grind) (by unfold Po;simp)]
 cases phis.all _<;>rfl
def fe(e:Ou):Bool:=!((e.Kind==1 || e.Kind==3)&&(e.Arg !=0))
theorem lU{n:Nat}(e:Ou)(hk:Kf e n=true):Pc e=some (fe e):=by
 have h4 :=by
  have:=(A6 _ _▸hk).1;unfold Y0 at this;simp only[A6,Gq]at this;omega
 unfold Pc fe
 have:e.Kind=0\/e.Kind=1\/e.Kind=2\/e.Kind=3:=by omega
 rcases this with h|h|h|h<;>rw[h]<;>cases hb:(e.Arg==0)<;>simp[hb,bne]
theorem gw{L:List (List Int)}(hm:Ms L=true){P:List Nat}(h0:0<L.length)(o:Ord (sN L) 0 P):decide (P.length<L.length) = !(List.range L.length).all λi=>(Q6 L).getD i false:=by
 have hin:∀ x∈P,x<L.length:=λx hx=>(by obtain⟨Q,rfl,oo⟩:=o.ordered h0 (Ww hm);exact oo.lt hx)
 have hr:∀ z,(Q6 L).getD z _=true↔z∈P:=λz=>by
  rw[o.mem z];exact BQ (Ww hm) h0 z
 cases ha:(List.range _).all _ with
 | true=>
  have:=((List.perm_ext_iff_of_nodup o.nodup List.nodup_range).2 λi=>⟨λh=>zzL40.2 (hin i h),λh=>(hr i).1 (zzL27.1 ha i h)⟩).length_eq;rw[Vf]at this
  simp;omega
 | false=>
  obtain⟨i,hi,hni⟩:∃ i,i<L.length/\i∉P:=bf λhc=>by
   grind
  have :=Tn L.length _ (zzL112.2 ⟨hni,o.nodup⟩) (λx hx=>by grind);simp at this ⊢;omega
theorem ov {f : TFunc} (hf : OkF f) (l : Int) (t : List Int) (u : List Bj) : ∃ t', I9 f l t u = some (bif Fb f then 0 else 5, f, l, t', u) ∧ (Fb f = true → t' = B5 f) := by
  have hmax : f.Blocks.length ≤ maxLen := by have := hf.blocks; have : (64 : Nat) ≤ maxLen := by decide
                                             omega
  unfold I9; rw [zM f hmax, An]
  cases hs : Gp f with
  | false => exact ⟨t, by unfold Fb; rw [hs]; rfl, fun h => by unfold Fb at h; rw [hs] at h; cases h⟩
  | true =>
    have hm := Jt hs; have hlen := L3 f
    have hpos : 0 < (A2 f).length := by have := (shape_iff.1 hs).1.1; omega
    obtain ⟨h1, h2⟩ := HF hm; obtain ⟨P, hP⟩ := Ord.exist (Ww hm) hpos; have ho := (aw (Kh (A2 f)) h1 trivial 0).1 (QV hm) (by omega) (by show (0 : Int) < ((A2 f).length : Int); omega) P hP; have hfull := gw hm hpos hP; simp only [Ah,  show ((0 : Int) != 0) = false from rfl, Aw, ho, An, show (false == false) = true from rfl]
    have e1 : decide (((Wb P).length : Int) < (f.Blocks.length : Int)) = decide (P.length < (A2 f).length) := by
      rw [hlen]; apply zzL78.2; simp [Wb]
    rw [e1, hfull]
    have hsd : Fb f = (((List.range f.Blocks.length).all fun i => (Q6 (A2 f)).getD i false) && (List.range f.Blocks.length).all fun i => fe (f.Blocks.getD i default).End && (f.Blocks.getD i default).Phis.all (Js ((Do (A2 f)).getD i []))) := by
      unfold Fb; rw [hs, Lj]
      have : ∀ (n : Nat) (p q : Nat → Bool), ((List.range n).all fun i => p i && q i) = ((List.range n).all p && (List.range n).all q) := fun n p q => by
        grind
      rw [← this]
      congr 1
      funext i
      show (_ && _ && _) = _
      rw [Bool.and_assoc]
      rfl
    rw [hlen]; rw [hsd]
    cases hr : (List.range f.Blocks.length).all _ with
    | false => exact ⟨t, rfl, fun h => by cases h⟩
    | true =>
      refine ⟨B5 f, ?_, fun _ => rfl⟩; rw [Dq, Aw, w5 _ 0 h1 h2, An, Lj]; have hp := Yi hm
      have hpl : (Kh (A2 f)).Pred.length = f.Blocks.length := by rw [← hlen]; exact Ps _
      have key : Ac (Dt f l u (Kh (A2 f), 0) (B5 f)) (0 : Int) = some (bif (List.range f.Blocks.length).all (fun i => fe (f.Blocks.getD i default).End && (f.Blocks.getD i default).Phis.all (Js ((Do (A2 f)).getD i []))) then .inl () else .inr ((5 : Int), f, l, B5 f, u)) := by
        have hk : ∀ i : Nat, i < f.Blocks.length → Dt f l u (Kh (A2 f), 0) (B5 f) (i : Int) = some (bif (fe (f.Blocks.getD i default).End && (f.Blocks.getD i default).Phis.all (Js ((Do (A2 f)).getD i []))) then .next ((i : Int) + 1) else .done (.inr ((5 : Int), f, l, B5 f, u))) := fun i hi => by
          have hB := hf.block _ (Ag (d := (default : Ae)) hi); have hpi : A1 (i : Int) (Kh (A2 f)).Pred.length := Ai (by omega); have hpg : ((Kh (A2 f)).Pred.getD i []).length ≤ 64 := hp.2 _ (Ag (by rw [Ps]; omega)); unfold Dt
          have hd : decide ((i : Int) < (f.Blocks.length : Int)) = true := by simpa using hi
          simp only [hd, Ah, Aa (Ai hi), Aa hpi, C5, la (f.Blocks.getD i default).Phis ((Kh (A2 f)).Pred.getD i []) (by have := hB.phis; omega) (by omega), An]; have ha  := lU (n := f.Blocks.length) (f.Blocks.getD i default).End ((shape_iff.1 hs).2 i hi); rw [ha, A0 hi (by have := hf.blocks; omega)]
          show _ = some (bif (fe (f.Blocks.getD i default).End && (f.Blocks.getD i default).Phis.all (Js ((Kh (A2 f)).Pred.getD i []))) then _ else _)
          cases (f.Blocks.getD i default).Phis.all _ <;> cases fe (f.Blocks.getD i default).End <;> rfl
        exact JN _ _ _ _ _ (fun i hi hp => by rw [hk i hi, hp]; rfl) (fun i hi hp => by rw [hk i hi, hp]; rfl) (by unfold Dt; simp)
      show ((Ac (Dt f l u (Kh (A2 f), 0) (B5 f)) (0 : Int)).bind _) = _
      rw [key, An]
      cases (List.range f.Blocks.length).all _ <;> rfl
theorem wd(o:TOp)(l:Int)(h0:0<=l)(h2:l<=2)(hk:Gs o=true):Ta o l=some (!decide (OK l<o.Kind)&&!(decide (l<2)&&decide (1<o.Lanes))):=by
 have hl:=pc hk
 have hK :=by
  simp only[Gs,A6]at hk;have:=hk.1.2.1.1.1;unfold gE at this;simp only[A6,Gq]at this;omega
 unfold Ta OK
 have:l=0\/l=1\/l=2:=by omega
 rcases this with rfl|rfl|rfl
 ·have ha:decide (o.Kind<=17) = !decide (17<o.Kind):=by grind
  have hb:(o.Lanes==1) = !decide (1<o.Lanes):=by grind
  show some _=some (!decide (17<o.Kind)&&!(true&&decide _))
  rw[ha,hb]
  cases decide (17<o.Kind)<;>cases decide (1<o.Lanes)<;>rfl
 ·have ha:decide (o.Kind<=20) = !decide (20<o.Kind):=by grind
  have hb:(o.Lanes==1) = !decide (1<o.Lanes):=by grind
  show some _=some (!decide (20<o.Kind)&&!(true&&decide _))
  rw[ha,hb]
  cases decide (20<o.Kind)<;>cases decide (1<o.Lanes)<;>rfl
 ·grind
theorem lZ(o:TOp)(ho:cC o)(f:TFunc)(l:Int)(h0:0<=l)(h2:l<=2)(t:List Int)(u:List Bj):Ig o f l t u=some (Ls l o,f,l,t,u):=by
 unfold Ig Ls;rw[QF o ho,An]
 cases hk:Gs o with
 | false=>rfl
 | true=>
  rw[show(true==true)=true from rfl,Ah,wd o l h0 h2 hk,An,Ah,Lj]
theorem ss(b:Ae){f:TFunc}(hf:OkF f)(hb:b∈f.Blocks)(l:Int)(h0:0<=l)(h2:l<=2)(t:List Int)(u:List Bj):Me b.Ops f l t u=some (b.Ops.all (Ls l),f,l,t,u):=by
 have hB:=hf.block b hb
 have key:∀ k i ,i+k=b.Ops.length->Ac (Hl b.Ops) (i,f.Params,f.Ret,f.Blocks,l,t,u)=some (bif (b.Ops.drop i).all (Ls l) then .inl (f.Params,f.Ret,f.Blocks,l,t,u) else .inr (false,f,l,t,u)):=by
  intro k
  induction k with
  | zero=>
   intro i h
   obtain rfl:i=b.Ops.length:=by omega
   rw[Ak (x:=.inl (f.Params,f.Ret,f.Blocks,l,t,u)) (by unfold Hl;simp)]
   simp
  | succ k ih=>
   intro i h
   have hi:i<b.Ops.length:=by omega
   have hd:decide (i<(b.Ops.length:Int))=true:=by simpa using hi
   have hdr:b.Ops.drop i=b.Ops.getD i default::b.Ops.drop (i+1):=by simp_all
   have hx:=lZ (b.Ops.getD i default) (mO hf hb (Ag hi)) f l h0 h2 t u;rw[hdr,V5]
   cases ho:Ls l _ with
   | true=>
    rw[ho]at hx
    rw[Ap (s':=(((i+1:Nat):Int),f.Params,f.Ret,f.Blocks,l,t,u)) (by
     unfold Hl;simp only[hd, Aa (Ai hi),C5,hx,   A0 hi (by have:=hB.ops;omega)]
     rfl),ih _ (by omega),Lj]
   | false=>
    rw[ho]at hx
    rw[Ak (x:=.inr (false,f,l,t,u)) (by
     unfold Hl
     simp only[hd,Ah,Aa (Ai hi),C5,hx,An,J9])]
    rfl
 unfold Me;rw[show(0:Int)=(0:Nat) from rfl,key b.Ops.length 0 (by omega),Oc]
 cases b.Ops.all _<;>rfl
theorem oh(b:Ae)(h:b.Phis.length<9223372036854775808):Lp b.Phis=some (b.Phis.all λp=>widthB p.Bits):=by
 unfold Lp
 rw[wW _ _ (λp=>widthB _) _ (.inl ()) _ h (λi hi=>by
  unfold Mf Rr
  have hd:decide (i<(b.Phis.length:Int))=true:=by simpa using hi
  simp only[hd, Aa (Ai hi),C5,W0]
  cases widthB _<;>rfl) (by unfold Mf;simp)]
 cases b.Phis.all _<;>rfl
theorem oe(p:List Int)(h:p.length<9223372036854775808):Pb p=some (p.all widthB):=by
 unfold Pb
 rw[wW p 0 widthB _ (.inl ()) _ h (λi hi=>by
  unfold Pn
  have hd:decide (i<(p.length:Int))=true:=by simpa using hi
  simp only[hd, Aa (Ai hi),C5,W0]
  cases widthB _<;>rfl) (by unfold Pn;simp)]
 cases p.all _<;>rfl
theorem ZT(b:Ae){f:TFunc}(hf:OkF f)(hb:b∈f.Blocks)(l:Int)(h0:0<=l)(h2:l<=2)(t:List Int)(u:List Bj):Gu b f l t u=some (Fz l b,f,l,t,u):=by
 unfold Gu Fz;rw[oh b (by have:=(hf.block b hb).phis;omega), ss b hf hb l h0 h2 t u]
 cases(b.Phis.all _)<;>rfl
theorem s8{f:TFunc}(hf:OkF f)(l:Int)(h0:0<=l)(h2:l<=2)(t:List Int)(u:List Bj):Jz f l t u=some (bif N8 f l then 0 else 6,f,l,t,u):=by
 have key:∀ k i ,i+k=f.Blocks.length->Ac (Fi f.Blocks) (i,f.Params,f.Ret,f.Blocks,l,t,u)=some (bif (f.Blocks.drop i).all (Fz l) then .inl (f.Params,f.Ret,f.Blocks,l,t,u) else .inr (false,f,l,t,u)):=by
  intro k
  induction k with
  | zero=>
   intro i h
   obtain rfl:i=f.Blocks.length:=by omega
   rw[Ak (x:=.inl (f.Params,f.Ret,f.Blocks,l,t,u)) (by unfold Fi;simp)]
   simp
  | succ k ih=>
   intro i h
   have hi:i<f.Blocks.length:=by omega
   have hd:decide ((i:Int)<f.Blocks.length)=true:=by simpa using hi
   have hdr:f.Blocks.drop i=f.Blocks.getD i default::f.Blocks.drop (i+1):=by simp_all
   have hx:=ZT (f.Blocks.getD i default) hf (Ag hi) l h0 h2 t u;rw[hdr,V5]
   cases ho:Fz l _ with
   | true=>
    rw[ho]at hx
    rw[Ap (s':=(((i+1:Nat):Int),f.Params,f.Ret,f.Blocks,l,t,u)) (by
     unfold Fi;simp only[hd, Aa (Ai hi),C5,hx,   A0 hi (by have:=hf.blocks;omega)]
     rfl),ih _ (by omega),Lj]
   | false=>
    rw[ho]at hx
    rw[Ak (x:=.inr (false,f,l,t,u)) (by
     unfold Fi
     simp only[hd,Ah,Aa (Ai hi),C5,hx,An,J9])]
    rfl
 have hall:Jy f.Blocks f l t u=some (f.Blocks.all (Fz l),f,l,t,u):=by
  unfold Jy;rw[show(0:Int)=(0:Nat) from rfl,key f.Blocks.length 0 (by omega),Oc]
  cases f.Blocks.all _<;>rfl
 unfold Jz N8 Nq;rw[oe _ (by have:=hf.few;omega), hall,W0]
 cases f.Params.all _<;>cases widthB f.Ret<;>cases f.Blocks.all _<;>rfl
def u4(d:Cc):Qd:=bif decide (d.Block<0) then⟨0,-1⟩ else⟨d.Block,d.At⟩
def SP(d:Cc):Ay:=⟨d.Shape,u4 d⟩
def dv(l:List Cc):List (Int×Ay):=l.map λd=>(d.V,SP d)
def UZ(acc:List (Int×Ay))(v:Int):Bool:=(D9 acc v || decide (v<1)) || decide (1023<v)
def Lh:List (Int×Ay)->List Cc->Bool×List (Int×Ay)
 | acc,[]=>(true,acc)
 | acc,d::ds=>bif UZ acc d.V then(false,acc) else Lh (Jq acc d.V (SP d)) ds
theorem JE:∀(a b:List Cc) (acc:List (Int×Ay)),Lh acc (a++b)=bif (Lh acc a).1 then Lh (Lh acc a).2 b else Lh acc a
 | [],b,acc=>rfl
 | d::a,b,acc=>by
  rw[CF];simp only[Lh]
  cases UZ acc d.V with
  | true=>rfl
  | false =>  exact JE a b _
theorem QW{V:Type}(k:Int):∀ l:List (Int×V),D9 l k=l.any λq=>k==q.1
 | []=>rfl
 | (a,b)::l=>by rw[List.any_cons,<- QW k l];rfl
theorem JS{V:Type}(k:Int)(v:V):∀{l:List (Int×V)},D9 l k=false->Jq l k v=l++[(k,v)]
 | [],_=>rfl
 | (a,b)::l,h=>by
  simp only[D9,KN]at h;simp only[Jq,h.1,Aw,JS k v h.2,CF]
theorem cd(v:Int)(s:Int×Int)(p:Qd)(f:TFunc)(l:Int)(t:List Int)(vs:List (Int×Ay))(u:List Bj) :
  Gv v s p f l t vs u=some (bif UZ vs v then(false,f,l,t,u,vs) else(true,f,l,t,u,Jq vs v ⟨s,p⟩)):=by
 unfold Gv UZ
 cases D9 vs v<;>cases decide (v<1)<;>cases decide (1023<v)<;>rfl
def uO(f:TFunc)(l:Int)(t:List Int)(u:List Bj)(r:Bool×List (Int×Ay)):(List Int×Int×List Ae×Int×List Int×List Bj×List (Int×Ay)) ⊕ (Bool×TFunc×Int×List Int×List Bj×List (Int×Ay)):=
 bif r.1 then .inl (f.Params,f.Ret,f.Blocks,l,t,u,r.2) else .inr (false,f,l,t,u,r.2)
theorem wh(b:Ae)(h:b.Phis.length<9223372036854775808)(i:Nat)(f:TFunc)(l:Int)(t:List Int)(u:List Bj):∀(k j:Nat) (vs:List (Int×Ay)),j+k=b.Phis.length->
  Ac (Dy (i:Int) b) ((j:Int),f.Params,f.Ret,f.Blocks,l,t,u,vs)=some (uO f l t u (Lh vs ((List.range' j k).flatMap λ(k:Nat)=>[(⟨(b.Phis.getD k default).Dst,i,-1,((b.Phis.getD k default).Bits,1)⟩:Cc)]))):=by
 intro k
 induction k with
 | zero=>
  intro j vs hj
  obtain rfl:j=b.Phis.length:=by omega
  rw[Ak (x:=.inl (f.Params,f.Ret,f.Blocks,l,t,u,vs)) (by unfold Dy;simp)]
  rfl
 | succ k ih=>
  intro j vs hj
  have hi:j<b.Phis.length:=by omega
  have hd:decide (j<(b.Phis.length:Int))=true:=by simpa using hi
  have hx:=cd (b.Phis.getD j default).Dst ((b.Phis.getD j default).Bits,1) ⟨(i:Int),-1⟩ f l t vs u
  have hat:u4 ⟨(b.Phis.getD j default).Dst,i,-1,((b.Phis.getD j default).Bits,1)⟩=⟨i,-1⟩:=by   rfl
  rw[EV,MS,List.singleton_append];simp only[Lh]
  cases hb:UZ vs _ with
  | true=>
   rw[hb]at hx
   rw[Ak  (by
    unfold Dy Es;simp only[hd, Aa (Ai hi),C5,An];rw[ hx]
    rfl)]
   rfl
  | false=>
   rw[hb]at hx
   rw[Ap (s':=(((j+1:Nat):Int),f.Params,f.Ret,f.Blocks,l,t,u,Jq vs _ _)) (by
    unfold Dy Es;simp only[hd, Aa (Ai hi),C5,An];rw[ hx,A0 hi h]
    rfl),ih _ _ (by omega)]
   unfold SP
   rfl
theorem yz{f0:TFunc}(hf:OkF f0){b:Ae}(hb:b∈f0.Blocks)(i:Nat)(f:TFunc)(l:Int)(t:List Int)(u:List Bj):∀(k j:Nat) (vs:List (Int×Ay)),j+k=b.Ops.length->
  Ac (Cp (i:Int) b) ((j:Int),f.Params,f.Ret,f.Blocks,l,t,u,vs)=some (uO f l t u (Lh vs ((List.range' j k).flatMap λ(k:Nat)=>bif decide (0<(Gr (b.Ops.getD k default)).1) then[(⟨(b.Ops.getD k default).Dst,i,k,Gr (b.Ops.getD k default)⟩:Cc)] else[]))):=by
 have hB:=hf.block b hb;intro k
 induction k with
 | zero=>
  intro j vs hj
  obtain rfl:j=b.Ops.length:=by omega
  rw[Ak (x:=.inl (f.Params,f.Ret,f.Blocks,l,t,u,vs)) (by unfold Cp;simp)]
  rfl
 | succ k ih=>
  intro j vs hj
  have hi:j<b.Ops.length:=by omega
  have hd:decide ((j:Int)<(b.Ops.length:Int))=true:=by simpa using hi
  have hg:Qs _=some (Gr (b.Ops.getD j default)):=gM _ (mO hf hb (Ag hi));have hx:=cd (b.Ops.getD j default).Dst (Gr (b.Ops.getD j default)) (⟨(i:Int),(j:Int)⟩:Qd) f l t vs u
  have hat:u4 (⟨(b.Ops.getD j default).Dst,i,j,Gr (b.Ops.getD j default)⟩:Cc)=⟨(i:Int),(j:Int)⟩:=by unfold u4; rfl
  rw[EV,MS]
  cases hp:decide (0<(Gr _).1) with
  | false=>
   rw[Aw,Zc,<- ih (j+1) vs (by omega),Ap (s':=(((j+1:Nat):Int),f.Params,f.Ret,f.Blocks,l,t,u,vs)) (by
    unfold Cp;simp only[hd,Ah,Aa (Ai hi),C5,hg,An,hp];rw[A0 hi (by have:=hB.ops;omega)]
    rfl)]
  | true=>
   rw[Ah,List.singleton_append];simp only[Lh]
   cases hb:UZ vs _ with
   | true=>
    rw[hb]at hx
    rw[Ak  (by
     unfold Cp;simp only[hd,Ah,Aa (Ai hi),C5,hg,An,hp];rw[show(true==true)=true from rfl,Ah, hx]
     rfl)]
    rfl
   | false=>
    rw[hb]at hx
    rw[Ap (s':=(((j+1:Nat):Int),f.Params,f.Ret,f.Blocks,l,t,u,Jq vs _ _)) (by
     unfold Cp;simp only[hd,Ah,Aa (Ai hi),C5,hg,An,hp];rw[show(true==true)=true from rfl,Ah, hx,A0 hi (by have:=hB.ops;omega)]
     rfl),ih (j+1) _ (by omega)]
    unfold SP
    rfl
theorem ce{f:TFunc}(hf:OkF f){b:Ae}(hb:b∈f.Blocks)(i:Nat)(l:Int)(t:List Int)(u:List Bj)(vs:List (Int×Ay)) :
  Hi (i:Int) b f l t vs u=some ((Lh vs (Qk b i)).1,f,l,t,u,(Lh vs (Qk b i)).2):=by
 unfold Hi Qk;rw[show 0=((0:Nat):Int) from rfl,wh b (by have:=(hf.block b hb).phis;omega) i f l t u b.Phis.length 0 vs (by omega),An,JE];rw[show(List.range' 0 _).flatMap _=Qm b i by rw[Qm,Sl]];unfold uO
 cases h1:(Lh vs _).1 with
 | false=>grind
 | true=>
  simp only[Ah];rw[yz hf hb i f l t u b.Ops.length 0 _ (by omega)];rw[show(List.range' 0 _).flatMap _=Vp b i by rw[Vp,Sl]];unfold uO;cases h2:(Lh _ _).1<;>rfl
theorem Wl{l:List Cc}{i:Nat}(hi:i<l.length):Rh l i=true↔valS (l.getD i default).V=true/\∀ j,j<i->(l.getD j default).V≠(l.getD i default).V:=by
 unfold Rh;rw[A6];refine and_congr Iff.rfl ?_;unfold Lt
 cases hx:l.findIdx? _ with
 | none=>
  rw[List.findIdx?_eq_none_iff]at hx;have:=hx _ (Ag (d:=default) hi);simp at this
 | some j=>
  obtain⟨hj,h1,h2⟩:=List.findIdx?_eq_some_iff_getElem.1 hx;simp only[zzL63]
  constructor
  ·grind
  ·intro h
   have hv:(l.getD j default).V=(l.getD i default).V:=by grind
   rcases Nat.lt_trichotomy j i with hlt|rfl|hgt
   ·grind
   ·rfl
   ·grind
theorem tw(l:List Cc)(v:Int):D9 (dv l) v=l.any λd=>v==d.V:=by
 rw[QW,dv,List.any_map];rfl
theorem PM:∀(ds pre:List Cc),(Lh (dv pre) ds).1=(List.range' pre.length ds.length).all (Rh (pre++ds))/\((Lh (dv pre) ds).1=true->(Lh (dv pre) ds).2=dv (pre++ds))
 | [],pre=>by simp[Lh]
 | d::ds,pre=>by
  have hi:pre.length<(pre++d::ds).length:=by simp
  have hg:(pre++d::ds).getD pre.length default=d:=by simp[List.getD]
  have hj:∀ j,j<pre.length->(pre++d::ds).getD j default=pre.getD j default:=λj h=>by grind
  have hok:Rh (pre++d::ds) pre.length = !UZ (dv pre) d.V:=by
   rw[W9,Wl hi,hg];unfold UZ valS;rw[tw];simp only[Zb,KN,SV,List.any_eq_false,zzL63,A6,Gq]
   constructor
   ·rintro⟨⟨h1,h2⟩,h3⟩;refine⟨⟨λx hx he=>?_,by omega⟩,by omega⟩;obtain⟨j,hjl,rfl⟩:=Fx hx;have:=h3 j hjl;rw[hj j hjl,Ab _ _ _ hjl]at this;exact this he.symm
   ·grind
  rw[EW,EV,V5,hok];simp only[Lh]
  cases hb:UZ _ d.V with
  | true=>grind
  | false=>
   have hn :=by
    unfold UZ at hb;simp only[KN]at hb;exact hb.1.1
   have hs:Jq (dv pre) d.V (SP d)=dv (pre++[d]):=by rw[JS _ _ hn,dv,dv,W8];rfl
   have:=PM ds (pre++[d]);rw[Fe,EU]at this;rw[ hs,J9];exact this
def pv(f:TFunc)(n:Nat):List (Int×Ay):=(List.range n).map λ(j:Nat)=>((j:Int)+1,⟨(f.Params.getD j 0,1),⟨0,-1⟩⟩)
theorem ze(f:TFunc):pv f f.Params.length=dv (Ql f):=by
 unfold pv dv Ql
 induction List.range _ with
 | nil=>rfl
 | cons a l ih=>rw[Cq, ih];rfl
theorem ou{f:TFunc}(hf:OkF f):∀(k i:Nat),i+k=f.Params.length->Ac (Gw f) ((i:Int),pv f i)=some (pv f f.Params.length):=by
 intro k
 induction k with
 | zero=>
  intro i h
  obtain rfl:i=f.Params.length:=by omega
  exact Ak (by unfold Gw;simp)
 | succ k ih=>
  intro i h
  have hi:i<f.Params.length:=by omega
  have hd:decide ((i:Int)<(f.Params.length:Int))=true:=by simpa using hi
  have hn:D9 (pv f i) ((i:Int)+1)=false:=by
   rw[QW,pv,List.any_map,List.any_eq_false];intro j hj;have:=zzL40.1 hj
   simp;omega
  have hs:Jq (pv f i) ((i:Int)+1) ⟨(f.Params.getD i 0,1),⟨0,-1⟩⟩=pv f (i+1):=by
   rw[JS _ _ hn,pv,pv,Xb,W8];rfl
  rw[Ap  (by
   unfold Gw Es;simp only[hd,Ah,Aa (Ai hi),C5,An,A0 hi (by have:=hf.few;omega),hs]
   rfl)]
  exact ih (i+1) (by omega)
theorem ol{f:TFunc}(hf:OkF f)(l:Int)(t:List Int)(u:List Bj):∀(k i:Nat) (vs:List (Int×Ay)),i+k=f.Blocks.length->
  Ac (Er f) ((i:Int),vs,f.Params,f.Ret,f.Blocks,l,t,u)=some (bif (Lh vs ((List.range' i k).flatMap λi=>Qk (f.Blocks.getD i default) i)).1 then .inl ((Lh vs ((List.range' i k).flatMap λi=>Qk (f.Blocks.getD i default) i)).2,f.Params,f.Ret,f.Blocks,l,t,u) else
   .inr (7,f,l,t,u,(Lh vs ((List.range' i k).flatMap λi=>Qk (f.Blocks.getD i default) i)).2)):=by
 intro k
 induction k with
 | zero=>
  intro i vs h
  obtain rfl:i=f.Blocks.length:=by omega
  rw[Ak (x:=.inl (vs,f.Params,f.Ret,f.Blocks,l,t,u)) (by unfold Er;simp)]
  rfl
 | succ k ih=>
  intro i vs h
  have hi:i<f.Blocks.length:=by omega
  have hd:decide (i<(f.Blocks.length:Int))=true:=by simpa using hi
  have hx:=ce hf (Ag (d:=default) hi) i l t u vs;rw[EV,MS,JE]
  cases hb:(Lh vs _).1 with
  | false=>
   rw[hb]at hx
   rw[Ak  (by
    unfold Er;simp only[hd, Aa (Ai hi),C5];rw[ hx]
    rfl),Aw,hb]
   rfl
  | true=>
   rw[hb]at hx
   rw[Ap (s':=(((i+1:Nat):Int),(Lh vs _).2,f.Params,f.Ret,f.Blocks,l,t,u)) (by
    unfold Er;simp only[hd, Aa (Ai hi),C5];rw[ hx,A0 hi (by have:=hf.blocks;omega)]
    rfl),ih _ _ (by omega),Ah]
theorem okP{f:TFunc}(hf:OkF f):∀ i,i<f.Params.length->Rh (As f) i=true:=λi hi=>by
 have hl:=DA f
 have hg:∀ j,j<f.Params.length->(As f).getD j default=⟨j+1,-1,0,(f.Params.getD j 0,1)⟩:=λj hj=>by
  have e:Ql f=(List.range f.Params.length).map λi=>⟨(i:Int)+1,-1,0,(f.Params.getD i 0,1)⟩:=by
   unfold Ql
   induction List.range _ with
   | nil=>rfl
   | cons a l ih=>grind
  rw[As,List.getD,Ug (by omega),e];simp[hj]
 have hle:i<(As f).length:=by rw[As,Fe];omega
 rw[Wl hle,hg i hi];refine⟨?_,λj hj=>?_⟩
 ·have:=hf.few;simp only[valS,A6,Gq];omega
 ·grind
theorem lX{f:TFunc}(hf:OkF f)(l:Int)(t:List Int)(u:List Bj):∃ vs,Ic f l t u=some (bif (List.range (As f).length).all (Rh (As f)) then 0 else 7,f,l,t,u,vs)/\((List.range (As f).length).all (Rh (As f))=true->vs=dv (As f)):=by
 have hsp:=PM ((List.range f.Blocks.length).flatMap λi=>Qk (f.Blocks.getD i default) i) (Ql f)
 have hall:(List.range (As f).length).all (Rh (As f))=(Lh (dv (Ql f)) ((List.range f.Blocks.length).flatMap λi=>Qk (f.Blocks.getD i default) i)).1:=by
  rw[hsp.1]
  show(List.range _).all _=(List.range' _ _).all (Rh (As f))
  have hs:List.range (As f).length=List.range (Ql f).length++List.range' (Ql f).length ((List.range f.Blocks.length).flatMap λi=>Qk (f.Blocks.getD i default) i).length:=by
   rw[Sl,Sl,As,Fe];have:=List.range'_append_1 (s:=0) (m:=(Ql f).length) (n:=((List.range f.Blocks.length).flatMap λi=>Qk (f.Blocks.getD i default) i).length);rw[E6]at this;exact this.symm
  rw[hs,List.all_append];have :=zzL27.2 λi hi=>okP hf i (by rw[<- DA f];exact zzL40.1 hi);rw[this,Lj]
 unfold Ic;have hp:=ou hf f.Params.length 0 (by omega);have e0:pv f 0=[]:=rfl;rw[e0,show(((0:Nat):Int))=0 from rfl]at hp;rw[hp,An,ze];have hb:=ol hf l t u f.Blocks.length 0 (dv (Ql f)) (by omega);rw[show(((0:Nat):Int))=0 from rfl,<- Sl]at hb;rw[hb, hall];refine⟨(Lh _ _).2,?_,hsp.2⟩
 cases(Lh _ _).1<;>rfl
theorem DJ{β S X:Type}(B:Nat)(mk:Int->List β->S)(out:List β->X)(n:Nat)(E:Nat->List β)(f:S->Option (LR S X))(hn:∀(acc:List β) (i:Nat),i<n->(acc++E i).length<=B->f (mk i acc)=some (.next (mk ((i:Int)+1) (acc++E i))))
  (hd:∀ acc:List β,f (mk n acc)=some (.done (out acc))):∀(k i:Nat) (acc:List β),i+k=n->(acc++(List.range' i k).flatMap E).length<=B->Ac f (mk i acc)=some (out (acc++(List.range' i k).flatMap E))
 | 0,i,acc,h,_=>by
  obtain rfl:i=n:=by omega
  rw[Ak (hd acc)]
  simp
 | k+1,i,acc,h,hB=>by
  have hi:i<n:=by omega
  rw[EV,MS,<- EU]at hB ⊢;rw[Ap (hn acc i hi (by grind)),show(i+1)=((i+1:Nat):Int) by omega,DJ B mk out n E f hn hd k _ _ (by omega) hB]
theorem dU{β γ:Type}(h:β->γ)(n:Nat)(g:Nat->β):(List.range' 0 n).flatMap (λj=>[h (g j)])=((List.range n).flatMap λj=>[g j]).map h:=by
 rw[List.map_flatMap,Sl];rfl
theorem QU{β γ:Type}(h:β->γ)(n:Nat)(g:Nat->List β):(List.range' 0 n).flatMap (λj=>(g j).map h)=((List.range n).flatMap g).map h:=by
 rw[List.map_flatMap,Sl]
def Sv(f:TFunc)(b:Int):Int:=((f.Blocks.getD b.toNat default).Ops.length:Int)
def Ju(f:TFunc)(u:D1):Bj:=⟨u.V,u.Shape,⟨u.Block,bif u.At==1000 then Sv f u.Block else u.At⟩⟩
theorem jU(f:TFunc)(l:Int)(t:List Int)(vs:List (Int×Ay))(v:Int)(s:Int×Int)(p:Qd)(u:List Bj)(h:(u++[(⟨v,s,p⟩:Bj)]).length<=10000000):E8 v s p f l t vs u=some (f,l,t,u++[⟨v,s,p⟩]):=by
 unfold E8;rw[Ad (by rw[Fe]at h;rw[IC];omega)]
theorem ot(f:TFunc)(l:Int)(t:List Int)(vs:List (Int×Ay))(b:Int)(hb:A1 b f.Blocks.length)(u:List Bj):G8 b f l t vs u=some (⟨b,Sv f b⟩,f,l,t,u):=by
 unfold G8;rw[Ad hb];rfl
section
variable {f:TFunc} (hf:OkF f) (l:Int) (t:List Int) (vs:List (Int×Ay))
include hf
theorem wg(i k:Nat)(hi:i<f.Blocks.length)(hk:k<(f.Blocks.getD i default).Phis.length)(hfit:((f.Blocks.getD i default).Phis.getD k default).Args.length<=((f.Blocks.getD i default).Phis.getD k default).From.length)
  (hin:∀ x∈((f.Blocks.getD i default).Phis.getD k default).From,A1 x f.Blocks.length) (u:List Bj) (hB:(u++(N9 ((f.Blocks.getD i default).Phis.getD k default)).map (Ju f)).length<=10000000) :
  Ac (El f vs (i:Int) (k:Int)) ((0:Int),f.Params,f.Ret,f.Blocks,l,t,u)=some (f.Params,f.Ret,f.Blocks,l,t,u++(N9 ((f.Blocks.getD i default).Phis.getD k default)).map (Ju f)):=by
 have hlen:=RK hf (Ag  hi) (Ag (d:=default) hk)
 generalize hp:(f.Blocks.getD i _).Phis.getD k _=p at *
 have e:=dU (Ju f) p.Args.length λj=>⟨p.Args.getD j 0,p.From.getD j 0,1000,(p.Bits,1)⟩
 have:=DJ _ (λj u=>(j,f.Params,f.Ret,f.Blocks,l,t,u)) (λu=>(f.Params,f.Ret,f.Blocks,l,t,u)) _ (λj=>[Ju f _]) (El f vs i k) (λacc j hj hacc=>by
  unfold El Es
  have hd:decide (j<(p.Args.length:Int))=true:=by simpa using hj
  have hjf:j<p.From.length:=by omega
  simp only[C5,hp,hd,Ah,Aa (Ai hj),An,Aa (Ai hjf)];rw[ ot f l t vs _ (hin _ (Ag hjf)),An];have eu:Ju f ⟨p.Args.getD j 0,p.From.getD j 0,1000,(p.Bits,1)⟩=⟨p.Args.getD j 0,(p.Bits,1),⟨p.From.getD j 0,Sv f _⟩⟩:=rfl;rw[eu]at hacc ⊢
  rw[jU f l t vs _ _ _ acc hacc,An,A0 hj (by omega)]) (λacc=>by unfold El;simp only[C5,hp,show decide (p.Args.length<(p.Args.length:Int))=false by simp,Aw]) p.Args.length 0 u (by omega) (by rw[e];exact hB)
 rw[e]at this;exact this
theorem s7(i:Nat)(hi:i<f.Blocks.length)(hfit:∀ p∈(f.Blocks.getD i default).Phis,p.Args.length<=p.From.length/\∀ x∈p.From,A1 x f.Blocks.length)(u:List Bj)(hB:(u++(Nc (f.Blocks.getD i default)).map (Ju f)).length<=10000000) :
  Ac (Em f vs (i:Int)) ((0:Int),f.Params,f.Ret,f.Blocks,l,t,u)=some (f.Params,f.Ret,f.Blocks,l,t,u++(Nc (f.Blocks.getD i default)).map (Ju f)):=by
 have hBk:=hf.block _ (Ag (d:=default) hi);have e:=QU (Ju f) (f.Blocks.getD i default).Phis.length λk=>N9 ((f.Blocks.getD i default).Phis.getD k default)
 have:=DJ _ (λj u=>(j,f.Params,f.Ret,f.Blocks,l,t,u)) (λu=>(f.Params,f.Ret,f.Blocks,l,t,u)) _ _ (Em f vs i) (λacc k hk hacc=>by
  have hq:=hfit _ (Ag (d:=default) hk);have h1:=wg hf l t vs i k hi hk hq.1 hq.2 acc hacc;unfold Em
  have hd:decide ((k:Int)<(f.Blocks.getD i default).Phis.length)=true:=by simpa using hk
  simp only[C5,hd,Ah,Aa (Ai hk),h1,An,A0 hk (by have:=hBk.phis;omega)]) (λacc=>by unfold Em;simp) (f.Blocks.getD i default).Phis.length 0 u (by omega) (by rw[e];exact hB)
 rw[e]at this;exact this
theorem yy(i k:Nat)(hi:i<f.Blocks.length)(hk:k<(f.Blocks.getD i default).Ops.length)(u:List Bj)(hB:(u++(Q9 ((f.Blocks.getD i default).Ops.getD k default) i k).map (Ju f)).length<=10000000) :
  Ac (En f vs (i:Int) (k:Int) (Hg ((f.Blocks.getD i default).Ops.getD k default))) ((0:Int),f.Params,f.Ret,f.Blocks,l,t,u)=some (f.Params,f.Ret,f.Blocks,l,t,u++(Q9 ((f.Blocks.getD i default).Ops.getD k default) i k).map (Ju f)):=by
 have hBk:=hf.block _ (Ag (d:=default) hi);have hlen:=Yo (j0 hf (Ag  hi) (Ag (d:=default) hk));have hk512:=hBk.ops
 generalize hp:(f.Blocks.getD i _).Ops.getD k _=o at *
 have e:=dU (Ju f) (Hg o).length λj=>⟨o.Args.getD j 0,i,k,(Hg o).getD j (0,0)⟩
 have:=DJ _ (λj u=>(j,f.Params,f.Ret,f.Blocks,l,t,u)) (λu=>(f.Params,f.Ret,f.Blocks,l,t,u)) _ (λj=>[Ju f _]) (En f vs i k (Hg o)) (λacc j hj hacc=>by
  have hkk:((k:Int)==1000)=false:=by simp;omega
  have eu:Ju f ⟨o.Args.getD j 0,i,k,(Hg o).getD j (0,0)⟩=⟨o.Args.getD j 0,(Hg o).getD j (0,0),⟨i,k⟩⟩:=by unfold Ju;simp only[hkk,Aw]
  rw[eu]at hacc ⊢;unfold En
  have hd:decide (j<((Hg o).length:Int))=true:=by simpa using hj
  have hja:j<o.Args.length:=by omega
  simp only[C5,hp,hd,Ah,Aa (Ai hj),Aa (Ai hja)]
  rw[ jU f l t vs _ _ _ acc hacc,An,A0 hj (by omega)]) (λacc=>by unfold En;simp) (Hg o).length 0 u (by omega) (by rw[e];exact hB)
 rw[e]at this;exact this
theorem we(i:Nat)(hi:i<f.Blocks.length)(u:List Bj)(hB:(u++(Sx (f.Blocks.getD i default) i).map (Ju f)).length<=10000000) :
  Ac (Eo f vs (i:Int)) ((0:Int),f.Params,f.Ret,f.Blocks,l,t,u)=some (f.Params,f.Ret,f.Blocks,l,t,u++(Sx (f.Blocks.getD i default) i).map (Ju f)):=by
 have hmem:=Ag (d:=default) hi;have hBk:=hf.block _ hmem;have e:=QU (Ju f) (f.Blocks.getD i default).Ops.length λk=>Q9 ((f.Blocks.getD i default).Ops.getD k default) i k
 have:=DJ _ (λj u=>(j,f.Params,f.Ret,f.Blocks,l,t,u)) (λu=>(f.Params,f.Ret,f.Blocks,l,t,u)) _ _ (Eo f vs i) (λacc k hk hacc=>by
  have h1:=yy hf l t vs i k hi hk acc hacc;have ht:Qt _=some (Hg ((f.Blocks.getD i _).Ops.getD k default)):=gQ _ (mO hf hmem (Ag hk));unfold Eo
  have hd:decide (k<((f.Blocks.getD i default).Ops.length:Int))=true:=by simpa using hk
  simp only[C5,hd,Ah,Aa (Ai hk),ht,h1,An,A0 hk (by have:=hBk.ops;omega)]) (λacc=>by unfold Eo;simp) (f.Blocks.getD i default).Ops.length 0 u (by omega) (by rw[e];exact hB)
 rw[e]at this;exact this
theorem lV (hfit : ∀ b ∈ f.Blocks, ∀ p ∈ b.Phis, p.Args.length ≤ p.From.length ∧ ∀ x ∈ p.From, A1 x f.Blocks.length) : Ib f l t vs [] = some (f, l, t, (Bf f).map (Ju f)) := by
  have e := QU (Ju f) f.Blocks.length fun (i : Nat) => ID f (f.Blocks.getD i default) i; have hul := KJ hf
  have := DJ 10000000 (fun j u => (j, f.Params, f.Ret, f.Blocks, l, t, u)) (fun u => (f.Params, f.Ret, f.Blocks, l, t, u)) f.Blocks.length (fun (i : Nat) => (ID f (f.Blocks.getD i default) i).map (Ju f)) (Ep f vs) (fun acc i hi hacc => by
    have hmem := Ag (d := (default : Ae)) hi; unfold ID at hacc ⊢; rw [W8, W8, ← EU, ← EU] at hacc ⊢; have l1 := hacc; simp only [Fe, Dx] at l1; have h1 := s7 hf l t vs i hi (hfit _ hmem) acc (by simp only [Fe, Dx]; omega); have h2 := we hf l t vs i hi (acc ++ (Nc (f.Blocks.getD i default)).map (Ju f)) (by simp only [Fe, Dx]; omega); have hinb : A1 (i : Int) f.Blocks.length := Ai hi; unfold Ep Es
    have hd : decide ((i : Int) < (f.Blocks.length : Int)) = true := by simpa using hi
    simp only [hd, Ah, Aa (Ai hi), h1, An, h2, C5]; have hF : (⟨f.Params, f.Ret, f.Blocks⟩ : TFunc) = f := rfl; have hw : w64 ((i : Int) + 1) = (i : Int) + 1 := A0 hi (by have := hf.blocks; omega); unfold Yq at hacc ⊢
    cases hz : ((f.Blocks.getD i default).End.Kind == 0) with
    | true =>
      have hz2 : ((f.Blocks.getD i default).End.Kind == 2) = false := by have : (f.Blocks.getD i default).End.Kind = 0 := by simpa using hz
                                                                         rw [this]; rfl
      rw [hz, hz2] at hacc; simp only [Ah, Aw, hz2, List.append_nil, Cq, Dn] at hacc ⊢; rw [hF, ot f l t vs _ hinb, An]; simp only; rw [jU f l t vs _ _ _ _ (show (_ ++ [(⟨_, _, ⟨(i : Int), Sv f (i : Int)⟩⟩ : Bj)]).length ≤ 10000000 from hacc), An, An, hw]
      rfl
    | false =>
      rw [hz] at hacc
      cases hz2 : ((f.Blocks.getD i default).End.Kind == 2) with
      | true =>
        rw [hz2] at hacc; simp only [Ah, Aw, Zc, Cq, Dn] at hacc ⊢; rw [hF, ot f l t vs _ hinb, An]; simp only; rw [jU f l t vs _ _ _ _ (show (_ ++ [(⟨_, _, ⟨(i : Int), Sv f (i : Int)⟩⟩ : Bj)]).length ≤ 10000000 from hacc), An, An, hw]
        rfl
      | false =>
        simp only [Aw, Zc, Dn, List.append_nil, An, hw]) (fun acc => by unfold Ep; simp) f.Blocks.length 0 [] (by omega) (by rw [e]; simpa [Bf] using (by omega : (Bf f).length ≤ 10000000))
  rw [e, Zc] at this; unfold Ib; rw [show (0 : Int) = ((0 : Nat) : Int) from rfl]
  show ((Ac (Ep f vs) (((0 : Nat) : Int), f.Params, f.Ret, f.Blocks, l, t, [])).bind _) = _
  rw [this, An]
  rfl
end
theorem si{σ X:Type}(mk:Int->σ)(U:List Bj)(p:Bj->Bool)(f:σ->Option (LR σ X))(yes no:X)(hk:∀ i:Nat,i<U.length->f (mk i)=some (bif p (U.getD i default) then .next (mk ((i:Int)+1)) else .done no))(he:f (mk U.length)=some (.done yes)) :
  ∀ k i:Nat,i+k=U.length->Ac f (mk i)=some (bif (U.drop i).all p then yes else no)
 | 0,i,h=>by
  obtain rfl:i=U.length:=by omega
  rw[Ak he]
  simp
 | k+1,i,h=>by
  have hi:i<U.length:=by omega
  have hdr:U.drop i=U.getD i default::U.drop (i+1):=by simp_all
  have hx:=hk i hi;rw[hdr,V5]
  cases hp:p _ with
  | true=>
   rw[hp]at hx;rw[Ap hx,show((i:Int)+1)=(i+1:Nat) by omega,si mk U p f yes no hk he k _ (by omega),Lj]
  | false=>
   rw[hp]at hx;rw[Ak hx]
   rfl
theorem PT(d:Cc)(l:List Cc)(v:Int):Lt (d::l) v=bif d.V==v then 0 else bif decide (Lt l v<0) then -1 else Lt l v+1:=by
 unfold Lt;rw[List.findIdx?_cons]
 cases d.V==v with
 | true=>rfl
 | false=>
  grind
theorem QX(v:Int):∀ l:List Cc,D9 (dv l) v = !decide (Lt l v<0)
 | []=>rfl
 | d::l=>by
  rw[PT]
  show((v==d.V) || D9 (dv l) v)=_
  rw[QX v l,show(v==d.V)=(d.V==v) by grind]
  cases d.V==v with
  | true=>rfl
  | false=>
   grind
theorem FK(v:Int):∀ l:List Cc,¬ Lt l v<0->Fu (default:Ay) (dv l) v=SP (defOf l v)
 | [],h=>absurd (show -1<0 by decide) h
 | d::l,h=>by
  unfold defOf;rw[PT]at h ⊢
  show(bif v==d.V then SP d else Fu _ (dv l) v)=_
  rw[show(v==d.V)=(d.V==v) by grind]
  cases hb:d.V==v with
  | true=>rfl
  | false=>
   rw[hb]at h
   by_cases hn:Lt l v<0
   ·simp[hn]at h
   ·have hz :=Ch hn;simp only[Aw,hz];rw[FK v l hn,show(Lt l v+1).toNat=(Lt l v).toNat+1 by omega]
    rfl
def nI(f:TFunc)(d:Cc):Prop:=d.Block = -1\/(A1 d.Block f.Blocks.length/\d.At<Sv f d.Block/\d.At<1000)
def ux(f:TFunc)(u:D1):Prop:=A1 u.Block f.Blocks.length/\0<=u.At
theorem defs_in{f:TFunc}(hf:OkF f):∀ d∈As f,nI f d:=λd hd=>by
 rcases zzL11.1 hd with h|h
 ·obtain⟨i,_,hi⟩:=zzL42.1 h;rw[zzL15.1 hi];exact .inl rfl
 ·obtain⟨i,hi,h⟩:=zzL42.1 h
  have hi :=by simpa using hi
  have hB:=hf.block _ (Ag (d:=default) hi);have ho:Sv f i=(f.Blocks.getD i default).Ops.length:=rfl;rcases zzL11.1 h with h|h
  ·obtain⟨k,hk,h⟩:=zzL42.1 h;rw[zzL15.1 h];refine .inr ⟨Ai hi,?_,?_⟩
   ·grind
   ·grind
  ·obtain⟨k,hk,h⟩:=zzL42.1 h
   have hk:k<(f.Blocks.getD i default).Ops.length:=by simpa using hk
   cases hg:decide (0<(Gr _).1) with
   | false=>rw[hg]at h;cases h
   | true=>
    rw[hg]at h;rw[zzL15.1 h];refine .inr ⟨Ai hi,?_,?_⟩
    ·grind
    ·show(k:Int)<1000;have:=hB.ops;omega
theorem uf{f:TFunc}(hfit:∀ b∈f.Blocks,∀ p∈b.Phis,p.Args.length<=p.From.length/\∀ x∈p.From,A1 x f.Blocks.length):∀ u∈Bf f,ux f u:=λu hu=>by
 obtain⟨i,hi,h⟩:=zzL42.1 hu
 have hi :=by simpa using hi
 have hmem:=Ag (d:=default) hi;rcases zzL11.1 h with h|h
 ·rcases zzL11.1 h with h|h
  ·obtain⟨k,hk,h⟩:=zzL42.1 h
   have hk :=by simpa using hk
   obtain⟨j,hj,h⟩:=zzL42.1 h;have hj:=zzL40.1 hj;have hq:=hfit _ hmem _ (Ag (d:=default) hk);rw[zzL15.1 h];exact⟨hq.2 _ (Ag (by omega)),by grind⟩
  ·obtain⟨k,hk,h⟩:=zzL42.1 h;obtain⟨j,hj,h⟩:=zzL42.1 h;rw[zzL15.1 h];exact⟨Ai hi,by grind⟩
 ·unfold Yq at h
  have:u=⟨(f.Blocks.getD i default).End.Arg,i,1000,(f.Ret,1)⟩\/u=⟨(f.Blocks.getD i default).End.Arg,i,1000,(1,1)⟩:=by
   grind
  rcases this with rfl|rfl<;>exact⟨Ai hi,by grind⟩
theorem wu{f:TFunc}(h:Fb f=true):∀ b∈f.Blocks,∀ p∈b.Phis,p.Args.length<=p.From.length/\∀ x∈p.From,A1 x f.Blocks.length:=λb hb p hp=>by
 have hs :=by simp only[Fb,A6]at h;exact h.1
 refine⟨YJ h b hb p hp,λx hx=>?_⟩;obtain⟨i,hi,rfl⟩:=Fx hb;simp only[Fb,A6]at h;have h1:=fb h.2 i hi;simp only[Lb,A6,zzL27]at h1;rw[Ab _ _ _ hi]at h1;have h2:=h1.2 p hp;simp only[Js,A6,Gq]at h2;rw[h2.1]at hx;obtain⟨q,rfl,hq,_⟩:=(BP  (Jt hs)  (by rw[L3];exact hi)).1 hx;exact Ai (by rw[L3]at hq;exact hq)
theorem gy{f:TFunc}(h:Fb f=true){b:Int}(hb:A1 b f.Blocks.length):Ly (B5 f) 0 b=true:=by
 have hs :=by simp only[Fb,A6]at h;exact h.1
 have hm:=Jt hs;have hlen:=L3 f
 have hpos:0<(A2 f).length:=by have:=(shape_iff.1 hs).1.1;omega
 obtain⟨P,hP,o,ht⟩:=YL hm hpos
 have e:B5 f=Y8 (A2 f) 0:=by
  unfold B5 MN;rw[if_pos ⟨QV hm,Int.le_refl _,by show(0:Int)<(A2 f).length;omega⟩]
  rfl
 obtain⟨k,rfl⟩:∃ k:Nat,b=k:=⟨b.toNat,(Za hb.1).symm⟩
 have hk:k<f.Blocks.length:=by have:=hb.2;omega
 simp only[Fb,A6]at h;have h1:=fb h.2 k hk;simp only[Lb,A6]at h1;have hr :=(BQ (Ww hm) hpos k).1 h1.1.1;rw[e];refine(ht.over_dom o hpos (by omega)).2 ⟨rc_iff.2 hr,λha=>?_⟩;exact(av_iff.1 ha).1 rfl
theorem AN{l:List D1}{g:D1->Bj}{p:Bj->Bool}{q:D1->Bool}(h:∀ u∈l,p (g u)=q u):(l.map g).all p=l.all q:=by
 grind
def tK(vs:List (Int×Ay))(u:Bj):Bool:=((Fu (default:Ay) vs u.v).shape.1==u.shape.1)&&(((Fu (default:Ay) vs u.v).shape.2==u.shape.2)&&true)
def FE(vs:List (Int×Ay))(t:List Int)(u:Bj):Bool:=bif (Fu (default:Ay) vs u.v).place.block==u.place.block then decide ((Fu (default:Ay) vs u.v).place.at_<u.place.at_) else Ly t (Fu (default:Ay) vs u.v).place.block u.place.block
theorem oE{f:TFunc}(hs:Fb f=true){D:List Cc}(hD:∀ d∈D,nI f d){u:D1}(hu:ux f u)(hfd:K4 D u=true):FE (dv D) (B5 f) (Ju f u)=U1 D (B5 f) u:=by
 have hF:¬ Lt D u.V<0:=by simpa [K4] using hfd
 have hin:=PU hF;have hd:nI f (defOf D u.V):=hD _ (by unfold defOf;exact Ag (by have:=hin.1;have:=hin.2;omega));have hg:Fu (default:Ay) (dv D) (Ju f u).v=SP (defOf D u.V):=FK u.V D hF;unfold FE U1;rw[hg]
 generalize defOf D u.V=d at *
 have hub:=hu.1.1
 have hul:0<=Sv f u.Block:=by unfold Sv;omega
 have hat:∀ a:Int,a<0\/(a<Sv f u.Block/\a<1000)->decide (a<(Ju f u).place.at_)=decide (a<u.At)\/a<0:=λa ha=>by
  rcases ha with ha|ha
  ·exact .inr ha
  ·refine .inl ?_
   show decide (a<bif u.At==1000 then Sv f u.Block else u.At)=_
   by_cases h:u.At=1000
   ·rw[h];simp only[show((1000:Int)==1000)=true from rfl,Ah];rw[Ci ha.1,Ci ha.2]
   ·have:(u.At==1000)=false:=by simpa using h
    rw[this];rfl
 have hpos:0<=(Ju f u).place.at_:=by
  show 0<=bif u.At==1000 then Sv f u.Block else u.At
  cases u.At==1000
  ·exact hu.2
  ·exact hul
 have hblk:(Ju f u).place.block=u.Block:=rfl;rw[hblk];rcases hd with hd|⟨hd1,hd2,hd3⟩
 ·have e:(SP d).place=⟨0,-1⟩:=by show u4 d=_;unfold u4;rw[hd];rfl
  rw[e,hd,Ci (show(-1:Int)<0 by decide)];rw[Bool.true_or,Bool.true_or,gy hs hu.1,Ci (show(-1:Int)<(Ju f u).place.at_ by omega)]
  cases(0:Int)==u.Block<;>rfl
 ·have hn:¬ d.Block<0:=by have:=hd1.1;omega
  have e:(SP d).place=⟨d.Block,d.At⟩:=by show u4 d=_;unfold u4;rw[Ch hn];rfl
  rw[e,Ch hn,Bool.false_or]
  cases hb:d.Block==u.Block with
  | true=>
   have hbe:d.Block=u.Block:=by simpa using hb
   simp only[Ah,Lj,Dq,FX,Bool.or_false];rcases hat d.At (.inr ⟨by rw[<- hbe];exact hd2,hd3⟩) with h|h
   ·exact h
   ·rw[Ci (by omega),Ci (by have:=hu.2;omega)]
  | false=>
   simp only[Aw,FX,Bool.false_or,J9,Lj];unfold Ly
   by_cases hm:Rg (B5 f) d.Block u.Block=d.Block
   ·rw[hm]
    have:(d.Block !=-2)=true:=by simp;omega
    simp[this]
   ·have:(Rg (B5 f) d.Block u.Block==d.Block)=false:=by simpa using hm
    simp[this,bne]
section
variable {f:TFunc} (l:Int) (vs:List (Int×Ay))
def nA(f:TFunc)(l:Int)(U:List Bj)(i:Int):Int×List Int×Int×List Ae×Int×List Int×List Bj:=(i,f.Params,f.Ret,f.Blocks,l,B5 f,U)
def nB(f:TFunc)(l:Int)(U:List Bj):List Int×Int×List Ae×Int×List Int×List Bj:=(f.Params,f.Ret,f.Blocks,l,B5 f,U)
theorem s9(U:List Bj)(hU:U.length<9223372036854775808):Ac (F3 vs (f,l,B5 f,U)) (nA f l U 0)=some (bif U.all (λu=>D9 vs u.v) then .inl (nB f l U) else .inr (nB f l U)):=by
 have:=si (nA f l U) U (λu=>D9 vs u.v) (F3 vs (f,l,B5 f,U)) _ _ (λi hi=>by
  unfold F3 nA Lu
  have hd:decide (i<(U.length:Int))=true:=by simpa using hi
  simp only[hd, Aa (Ai hi),C5, A0 hi hU]
  cases D9 vs _<;>rfl) (by unfold F3 nA;simp;rfl) U.length 0 (by omega)
 exact this
theorem tA(U:List Bj)(hU:U.length<9223372036854775808):Ac (F4 vs U) (nA f l U 0)=some (bif U.all (tK vs) then .inl (nB f l U) else .inr (nB f l U)):=by
 have:=si (nA f l U) U (tK vs) (F4 vs U) _ _ (λi hi=>by
  unfold F4 nA Np
  have hd:decide (i<(U.length:Int))=true:=by simpa using hi
  simp only[hd, Aa (Ai hi),C5, A0 hi hU];unfold tK
  cases(((Fu _ vs _).shape.1==(U.getD i _).shape.1)&&(((Fu _ vs _).shape.2==(U.getD i _).shape.2)&&true))<;>rfl) (by unfold F4 nA;simp;rfl) U.length 0 (by omega)
 exact this
theorem tD(htl:(B5 f).length<=1000)(U:List Bj)(hU:U.length<9223372036854775808):Ac (F5 vs U) (nA f l U 0)=some (bif U.all (FE vs (B5 f)) then .inl (nB f l U) else .inr (nB f l U)):=by
 have:=si (nA f l U) U (FE vs _) (F5 vs U) _ _ (λi hi=>by
  have hx:Ie (U.getD i default) f l (B5 f) vs U=some (FE vs (B5 f) (U.getD i default),f,l,B5 f,U):=by
   unfold Ie FE;rw[w4 htl]
   cases(Fu _ vs _).place.block==(U.getD i _).place.block<;>rfl
  unfold F5 nA
  have hd:decide ((i:Int)<U.length)=true:=by simpa using hi
  simp only[hd, Aa (Ai hi),C5];rw[ hx, A0 hi hU]
  cases FE vs _ _<;>rfl) (by unfold F5 nA;simp;rfl) U.length 0 (by omega)
 exact this
end
def eZ(f:TFunc):Int:=bif !(Bf f).all (K4 (As f)) then 7 else bif !(Bf f).all (U2 (As f)) then 6 else bif !(Bf f).all (U1 (As f) (B5 f)) then 7 else 0
theorem wk{f:TFunc}(hf:OkF f)(hs:Fb f=true)(l:Int):∃ U,Kk f l (B5 f) (dv (As f)) []=some (eZ f,f,l,B5 f,U):=by
 have hfit:=wu hs;have hul:=KJ hf
 have hsB :=by simp only[Fb,A6]at hs;exact hs.1
 refine⟨(Bf f).map (Ju f),?_⟩
 have hU:((Bf f).map (Ju f)).length<9223372036854775808:=by grind
 have h1:=s9 (f:=f) l (dv (As f)) _ hU;have h2:=tA (f:=f) l (dv (As f)) _ hU;have h3:=tD  l (dv (As f)) (eW hsB) _ hU;rw[AN (q:=K4 _) (λu _=>QX u.V _)]at h1;unfold Kk eZ Rz;rw[lV hf l _ _ hfit,An];rw[show(Ac _ ((0:Int),f.Params,f.Ret,f.Blocks,l,B5 f,(Bf f).map _))=_ from h1,An];have fin:∀ e ,Ac Pv (e,f.Params,f.Ret,f.Blocks,l,B5 f,(Bf f).map (Ju f))=some _:=λe=>Ak rfl
 cases hfd:(Bf f).all _ with
 | false=>simp only[Aw,J9,Ah,nB,An,fin]
 | true=>
  have hmf:=zzL27.1 hfd
  rw[AN (q:=U2 _) (λu hu=>by
   have:=hmf u hu;simp only[K4,Zb,SV]at this;have hg:Fu _ _ (Ju f u).v=SP _:=FK u.V _ this;unfold tK U2
   rw[hg];rfl)]at h2
  rw[AN  (λu hu=>oE hs (defs_in hf) (uf hfit u hu) (hmf u hu))]at h3;simp only[Ah,Dq, nB];rw[show(Ac _ ((0:Int),f.Params,f.Ret,f.Blocks,l,B5 f,(Bf f).map _))=_ from h2,An]
  cases(Bf f).all _ with
  | false=>simp only[Aw,J9,Ah,nB,An,fin]
  | true=>
   simp only[Ah,Dq, nB];rw[show(Ac _ ((0:Int),f.Params,f.Ret,f.Blocks,l,B5 f,(Bf f).map _))=_ from h3]
   cases(Bf f).all _ with
   | false=>simp only[Aw,J9,Ah,nB,An,fin]
   | true=>simp only[Ah,Dq,Aw,nB,An]
theorem tE{f:TFunc}(h:Sm f)(l:Int)(h0:0<=l)(h2:l<=2):∃ t u vs,J0 f l [] []=some (Gn f l,f,l,t,u,vs)/\(Gn f l=0->vs=dv (As f)):=by
 have hc:Gn f l=bif !Q1 f then 4 else SR f l:=by
  unfold Gn;rw[Ch (by omega),Ch (by omega)];rfl
 rw[hc];unfold J0;rw[wj f h.1,An]
 cases hm:Q1 f with
 | false=>simp_all
 | true=>
  have hf:=kH h hm;simp only[    SR];obtain⟨t',hsh,hst⟩:=ov hf l [] [];rw[hsh,An]
  cases hs:Fb f with
  | false=>simp_all
  | true=>
   obtain rfl:=hst hs;rw[s8 hf l h0 h2,An]
   cases N8 f l with
   | false=>simp_all
   | true=>
    obtain⟨vs,hd,hv⟩:=lX hf l _ [];rw[hd,An]
    cases hdd:(List.range _).all _ with
    | false=>grind
    | true=>
     obtain rfl:=hv hdd;obtain⟨U,hu⟩:=wk hf hs l;rw[hu];refine⟨B5 f,U,dv _,?_,λ_=>rfl⟩
     show(bif eZ f !=0 then some _ else some _)=some (eZ f,f,l,B5 f,U,dv _)
     cases hz:eZ f !=0 with
     | true=>rfl
     | false=>
      grind
theorem sv(f:TFunc)(l:Int)(h:Sm f):R5 f l=some (Gn f l):=by
 unfold R5
 by_cases h0:l<0
 · unfold Gn;rw[Ci h0];rfl
 ·by_cases h2:2<l
  · unfold Gn;rw[Ch h0,Ci h2];rfl
  ·obtain⟨t,u,vs,hw,_⟩:=tE h l (by omega) (by omega);rw[Ch h0,Ch h2,hw];rfl
def lone(e:Ou)(b r:Int):TFunc:=⟨[b],r,[⟨[],[],e⟩]⟩
theorem Aa5{α:Type}(l:List α):(l.map λ_=>1).sum=l.length:=by induction l with|nil=>rfl|cons a l ih=>simp[ih];omega
theorem tP(n d:Int):n<=grow n d/\d<=grow n d:=by
 unfold grow
 by_cases h:n<d
 ·grind
 ·grind
theorem JH{α:Type}(v:α->Int):∀(l:List α) (n:Int),n<=l.foldl (λn a=>grow n (v a)) n/\∀ a∈l,v a<=l.foldl (λn a=>grow n (v a)) n
 | [],n=>by simp
 | a::l,n=>by
  obtain⟨h1,h2⟩:=JH v l (grow n (v a));have h3:=tP n (v a);rw[Vh];refine⟨by omega,λx hx=>?_⟩;rcases zzL34.1 hx with rfl|hx
  ·omega
  ·exact h2 x hx
theorem AZ:∀(l:List Ae) (n:Int),n<=l.foldl (λn b=>b.Ops.foldl (λn o=>grow n o.Dst) (b.Phis.foldl (λn p=>grow n p.Dst) n)) n /\
  ∀ b∈l,(∀ p∈b.Phis,p.Dst<=l.foldl (λn b=>b.Ops.foldl (λn o=>grow n o.Dst) (b.Phis.foldl (λn p=>grow n p.Dst) n)) n)/\∀ o∈b.Ops,o.Dst<=l.foldl (λn b=>b.Ops.foldl (λn o=>grow n o.Dst) (b.Phis.foldl (λn p=>grow n p.Dst) n)) n
 | [],n=>by simp
 | b::l,n=>by
  obtain⟨p1,p2⟩:=JH (λp =>p.Dst) b.Phis n;obtain⟨q1,q2⟩:=JH (λo =>o.Dst) b.Ops (b.Phis.foldl (λn p=>grow n p.Dst) n);obtain⟨h1,h2⟩:=AZ l (b.Ops.foldl (λn o=>grow n o.Dst) (b.Phis.foldl (λn p=>grow n p.Dst) n));rw[Vh];refine⟨by omega,λx hx=>?_⟩;rcases zzL34.1 hx with rfl|hx
  ·grind
  ·exact h2 x hx
theorem WR{f:TFunc}{d:Cc}(hd:d∈As f):d.V<=Tv f:=by
 obtain⟨h1,h2⟩:=AZ f.Blocks f.Params.length;unfold Tv;rw[As,zzL11]at hd;rcases hd with hd|hd
 ·simp only[Ql,zzL42,zzL40,zzL15]at hd;obtain⟨i,hi,rfl⟩:=hd
  show(i:Int)+1<=_
  omega
 ·simp only[zzL42,zzL40]at hd;obtain⟨i,hi,hd⟩:=hd;have hmem:=Ag (d:=default) hi;rw[Qk,zzL11]at hd;rcases hd with hd|hd
  ·simp only[Qm,zzL42,zzL40,zzL15]at hd;obtain⟨k,hk,rfl⟩:=hd;exact(h2 _ hmem).1 _ (Ag hk)
  ·simp only[Vp,zzL42,zzL40]at hd;obtain⟨k,hk,hd⟩:=hd
   cases hg:decide (0<(Gr _).1) with
   | false=>rw[hg]at hd;cases hd
   | true=>
    rw[hg]at hd;obtain rfl:=zzL15.1 hd;exact(h2 _ hmem).2 _ (Ag hk)
theorem Xn{f:TFunc}(h:(List.range (As f).length).all (Rh (As f))=true):((As f).map (·.V)).Nodup:=by
 rw[List.nodup_iff_pairwise_ne,List.pairwise_map,zzL92];intro i j hi hj hij he;have:=((Wl hj).1 (fb h j hj)).2 i hij;rw[Ab _ _ _ hi,Ab _ _ _ hj]at this;exact this he
abbrev bA(f:TFunc)(i:Nat):Ae:=f.Blocks.getD i default
def nC(f:TFunc)(i:Nat)(k:Nat):Int:=(bA f i).End.To.getD k 0
def prF(f:TFunc)(i:Nat):List Int:=(Do (A2 f)).getD i []
structure Rt(f:TFunc):Prop where
 lo:1<=f.Blocks.length
 hi:f.Blocks.length<=64
 to:∀ i,i<f.Blocks.length->∀ k,k<(bA f i).End.To.length->0<nC f i k/\nC f i k<f.Blocks.length
 one:∀ i,i<f.Blocks.length->(bA f i).End.Kind=1->(bA f i).End.To.length=1
 two:∀ i,i<f.Blocks.length->(bA f i).End.Kind=2->(bA f i).End.To.length=2
 may:Ms (A2 f)=true
 ok:OkF f
theorem uT{f:TFunc}{i:Nat}(hi:i<f.Blocks.length):(A2 f).getD i []=BS (bA f i).End.To:=by
 unfold A2;rw[Pa hi];rfl
theorem xK(f:TFunc):(Do (A2 f)).length=f.Blocks.length:=by rw[Ps,L3]
set_option maxRecDepth 100000
def lK(f:TFunc)(d:Cc)(b a:Int):Prop:=d.Block<0\/(d.Block=b/\d.At<a)\/(d.Block≠b/\Ly (B5 f) d.Block b=true)
theorem PN{l:List Cc}(hn:(l.map (·.V)).Nodup){d:Cc}(hd:d∈l):0<=Lt l d.V/\defOf l d.V=d:=by
 obtain⟨i,hi,rfl⟩:=Fx hd
 have hx:∃ k,l.findIdx? (λe=>e.V==l[i].V)=some k:=by
  cases h:l.findIdx? _ with
  | some k=>exact⟨k,rfl⟩
  | none=>
   grind
 obtain⟨k,hk⟩:=hx;obtain⟨hk1,hk2,_⟩:=List.findIdx?_eq_some_iff_getElem.1 hk
 have e :=by
  have h1:(l.map (·.V))[k]'(by simpa using hk1)=(l.map (·.V))[i]'(by simpa using hi):=by simpa using hk2
  exact(List.getElem_inj hn).1 h1
 subst e;unfold defOf Lt;rw[hk];refine⟨by simp,?_⟩;rw[Am,Ab _ _ _ hi]
theorem SC{f:TFunc}(hn:((As f).map (·.V)).Nodup)(hv:∀ d∈As f,valS d.V=true)(hu:∀ u∈Bf f,∃ d∈As f,d.V=u.V/\d.Shape=u.Shape/\lK f d u.Block u.At):YC f=0:=by
 have h1:(List.range (As f).length).all (Rh (As f))=true:=by
  rw[zzL27];intro i hi;rw[zzL40]at hi;refine(Wl hi).2 ⟨hv _ (Ag hi),λj hj he=>?_⟩;rw[Ab _ _ _ hi,Ab _ _ _ (by omega)]at he;have:=(List.getElem_inj (h₀:=show j<((As f).map _).length by simp;omega) (h₁:=by simpa using hi) hn).1 (by simpa using he);omega
 have h2:(Bf f).all (K4 (As f))=true:=by
  rw[zzL27];intro u h;obtain⟨d,hd,e,_⟩:=hu u h;unfold K4;have:=(PN hn hd).1;rw[e]at this
  simp;omega
 have h3:(Bf f).all (U2 (As f))=true:=by
  rw[zzL27];intro u h;obtain⟨d,hd,e,es,_⟩:=hu u h;unfold U2;rw[<- e,(PN hn hd).2,es];simp
 have h4:(Bf f).all (U1 (As f) (B5 f))=true:=by
  rw[zzL27];intro u h;obtain⟨d,hd,e,_,ht⟩:=hu u h;unfold U1;rw[<- e,(PN hn hd).2];rcases ht with h|⟨h,h'⟩|⟨h,h'⟩
  ·grind
  ·grind
  ·unfold Ly at h';rw[A6,zzL63]at h';rw[h'.1,zzL30.2 h];simp
 unfold YC;rw[h1,h2,h3,h4];rfl
structure CT(f:TFunc)(l:Int):Prop where
 may:Q1 f=true
 shape:Fb f=true
 typed:N8 f l=true
 rest:YC f=0
theorem bW{f:TFunc}{l:Int}(hl:0<=l/\l<=2):Gn f l=0↔CT f l:=
 ⟨λh=>by obtain⟨a,b,c,d⟩:=(PI hl.1 hl.2).1 h;exact⟨a,b,c,d⟩,λh=>(PI hl.1 hl.2).2 ⟨h.1,h.2,h.3,h.4⟩⟩
section
variable {f:TFunc} {l:Int} (R:CT f l)
include R
theorem eL{b:Ae}(hb:b∈f.Blocks){o:TOp}(ho:o∈b.Ops):Ls l o=true:=by
 have h:=R.typed;simp only[N8,Fz,A6,zzL27]at h;exact(h.1.2 b hb).2 o ho
theorem vN{b:Ae}(hb:b∈f.Blocks){o:TOp}(ho:o∈b.Ops):Gs o=true:=by
 have:=eL R hb ho;unfold Ls at this;simp only[A6]at this;exact this.1.1
theorem DQ:(List.range (As f).length).all (Rh (As f))=true/\(∀ u∈Bf f,K4 (As f) u=true)/\(∀ u∈Bf f,U2 (As f) u=true)/\∀ u∈Bf f,U1 (As f) (B5 f) u=true:=by
 have h:=R.rest;unfold YC at h
 cases h1:(List.range _).all _ with
 | false=>rw[h1]at h;cases h
 | true=>grind
theorem qT{d e:Cc}(hd:d∈As f)(he:e∈As f)(hv:d.V=e.V):d=e:=by
 have hn:=Xn (DQ R).1;have h1:=(PN hn hd).2;rw[hv,(PN hn he).2]at h1;exact h1.symm
theorem Yl{d:Cc}(hd:d∈As f):valS d.V=true:=by
 obtain⟨i,hi,rfl⟩:=Fx hd;have:=((Wl hi).1 (fb (DQ R).1 i hi)).1;rw[Ab _ _ _ hi]at this;exact this
theorem KD{u:D1}(hu:u∈Bf f):∃ d∈As f,d.V=u.V/\d.Shape=u.Shape/\lK f d u.Block u.At:=by
 obtain⟨_,h2,h3,h4⟩:=DQ R;have hf:=h2 u hu;have hfit:=h3 u hu;have hdom:=h4 u hu;unfold K4 at hf
 have hneg:¬ Lt (As f) u.V<0:=by simpa using hf
 have hin:=PU hneg;have hmem:defOf _ u.V∈As f:=Ag (by  have:=hin.2;omega)
 have hV:(defOf (As f) u.V).V=u.V:=by
  unfold defOf;unfold Lt at hneg ⊢
  cases hx:(As f).findIdx? _ with
  | none=>grind
  | some i=>
   obtain⟨hi,hp,_⟩:=List.findIdx?_eq_some_iff_getElem.1 hx;rw[Am,Ab _ _ _ hi]
   simpa using hp
 refine⟨_,hmem,hV,?_,?_⟩
 ·unfold U2 at hfit;simp only[A6,zzL63]at hfit;exact Prod.ext hfit.1 hfit.2.1
 ·unfold U1 at hdom;simp only[FV,A6,Gq,zzL63,Zb,zzL30]at hdom;rcases hdom with(h|h)|⟨h,h'⟩
  ·exact .inl h
  ·exact .inr (.inl h)
  ·by_cases hb:(defOf (As f) u.V).Block<0
   ·exact .inl hb
   ·refine .inr (.inr ⟨h,?_⟩);rw[bne_eq_false_iff_eq]at h';unfold Ly;rw[h',A6];exact⟨by simp,by rw[zzL100];omega⟩
end
theorem ri_def{f:TFunc}{d:Cc}:d∈As f↔(∃ i,i<f.Params.length/\d=⟨(i:Int)+1,-1,0,(f.Params.getD i 0,1)⟩) \/
  ∃ i,i<f.Blocks.length/\((∃ k,k<(bA f i).Phis.length/\d=⟨((bA f i).Phis.getD k default).Dst,i,-1,(((bA f i).Phis.getD k default).Bits,1)⟩) \/
   ∃ k,k<(bA f i).Ops.length/\0<(Gr ((bA f i).Ops.getD k default)).1/\d=⟨((bA f i).Ops.getD k default).Dst,i,k,Gr ((bA f i).Ops.getD k default)⟩):=by
 unfold As Ql Qk Qm Vp;simp only[zzL11,zzL42,zzL40,zzL15]
 constructor
 ·grind
 ·rintro(h|⟨i,hi,⟨k,hk,h⟩|⟨k,hk,hg,h⟩⟩)
  ·exact .inl h
  ·exact .inr ⟨i,hi,.inl ⟨k,hk,h⟩⟩
  ·exact .inr ⟨i,hi,.inr ⟨k,hk,by simp_all⟩⟩
theorem YK{o:TOp}(hm:Gs o=true):(Hg o).length=o.Args.length/\∀ j,j<o.Args.length->(Hg o).getD j (0,0)=PQ o j:=by
 obtain⟨_,_,_,_,hn,_,_⟩:=Uy hm
 have ht:Hg o=R3 o:=by unfold Hg;rw[hm];rfl
 have htl:(R3 o).length=o.Args.length:=by unfold R3;rw[Dx,Vf];omega
 refine⟨by rw[ht,htl],λj hj=>?_⟩;rw[ht];unfold R3;rw[Pa (by omega)]
theorem H2 {f : TFunc} (hk : ∀ b ∈ f.Blocks, ∀ o ∈ b.Ops, Gs o = true) {u : D1} : u ∈ Bf f ↔ ∃ i, i < f.Blocks.length ∧
    ((∃ k j, k < (bA f i).Phis.length ∧ j < ((bA f i).Phis.getD k default).Args.length ∧ u = ⟨((bA f i).Phis.getD k default).Args.getD j 0, ((bA f i).Phis.getD k default).From.getD j 0, 1000, (((bA f i).Phis.getD k default).Bits, 1)⟩) ∨
     (∃ k j, k < (bA f i).Ops.length ∧ j < ((bA f i).Ops.getD k default).Args.length ∧ u = ⟨((bA f i).Ops.getD k default).Args.getD j 0, i, k, PQ ((bA f i).Ops.getD k default) j⟩) ∨
     ((bA f i).End.Kind = 0 ∧ u = ⟨(bA f i).End.Arg, i, 1000, (f.Ret, 1)⟩) ∨ ((bA f i).End.Kind = 2 ∧ u = ⟨(bA f i).End.Arg, i, 1000, (1, 1)⟩)) := by
  unfold Bf ID Nc N9 Sx Q9 Yq; simp only [zzL11, zzL42, zzL40, zzL15]
  have hE : ∀ (k c : Int) (x : D1), u ∈ (bif k == c then [x] else []) ↔ (k = c ∧ u = x) := fun k c x => by
    grind
  simp only [hE]
  constructor
  · rintro ⟨i, hi, (⟨k, hk', j, hj, h⟩ | ⟨k, hk', j, hj, h⟩) | h⟩
    · exact ⟨i, hi, .inl ⟨k, j, hk', hj, h⟩⟩
    · obtain ⟨e1, e2⟩ := YK (hk _ (Ag  hi) _ (Ag  hk')); rw [e1] at hj; rw [e2 j hj] at h; exact ⟨i, hi, .inr (.inl ⟨k, j, hk', hj, h⟩)⟩
    · exact ⟨i, hi, .inr (.inr h)⟩
  · rintro ⟨i, hi, ⟨k, j, hk', hj, h⟩ | ⟨k, j, hk', hj, h⟩ | h⟩
    · grind
    · obtain ⟨e1, e2⟩ := YK (hk _ (Ag  hi) _ (Ag  hk')); exact ⟨i, hi, .inl (.inr ⟨k, hk', j, by rw [e1]; exact hj, by rw [e2 j hj]; exact h⟩)⟩
    · grind
theorem qU{f:TFunc}(hm:Ms (A2 f)=true){x y:Nat}(hx:x<f.Blocks.length):y∈sN (A2 f) x↔(y:Int)∈(bA f x).End.To:=by
 rw[xC hm (by rw[L3];exact hx),uT hx,(KE _).2]
theorem uP{f:TFunc}(hm:Ms (A2 f)=true)(h0:0<f.Blocks.length){a b:Nat}(ha:a<f.Blocks.length)(hb:b<f.Blocks.length):Ly (B5 f) (a:Int) (b:Int)=true↔Rc (sN (A2 f)) 0 b/\¬ Av (sN (A2 f)) 0 a b:=by
 have hl:=L3 f;obtain⟨P,_,o,t⟩:=YL hm (r:=0) (by omega)
 have e:B5 f=Y8 (A2 f) 0:=by
  unfold B5 MN;rw[if_pos ⟨QV hm,Int.le_refl _,by show 0<((A2 f).length:Int);omega⟩];rfl
 rw[e];exact t.over_dom o (by omega) (by omega)
theorem eK{f:TFunc}(hm:Ms (A2 f)=true)(h0:0<f.Blocks.length)(z:Nat):(Q6 (A2 f)).getD z false=true↔Rc (sN (A2 f)) 0 z:=by
 rw[rc_iff];exact BQ (Ww hm) (by rw[L3];exact h0) z
theorem XY(f:TFunc){i:Nat}(hi:i<f.Blocks.length):(prF f i).Pairwise (·<·):=by
 unfold prF;rw[DO (by rw[L3];exact hi)];exact LM _ _
set_option linter.unusedSectionVars false
theorem DT{l:Int}{o:TOp}(h:Ls l o=true):Gs o=true:=by
 unfold Ls at h;simp only[A6]at h;exact h.1.1
theorem HG{o:TOp}(h:Gs o=true):Gr o=Vr o.Kind o.Bits o.Lanes:=by unfold Gr;rw[h];rfl
theorem WZ{o:TOp}(h:Gs o=true)(hg:0<(Gr o).1):valS o.Dst=true:=by
 have hd:=(Uy h).2.2.2.2.2.2;rw[HG h]at hg;unfold dstS at hd
 cases hk:(o.Kind==17 || o.Kind==19) with
 | true=>unfold Vr at hg;rw[hk,Ah]at hg;exact absurd hg (by decide)
 | false=>rw[hk]at hd;exact hd
def ZZ(s:List TOp):List Int:=(s.filter λo=>decide (0<(Gr o).1)).map (·.Dst)
def UP(b:Ae):List Int:=b.Phis.map (·.Dst)++ZZ b.Ops
theorem YB{α β:Type}(l:List α)(d:α)(F:α->β):(List.range l.length).map (λk=>F (l.getD k d))=l.map F:=by
 apply CI
 ·simp
 ·intro i h1 h2;simp at h1 h2 ⊢;simp[h1]
theorem lg(l:List TOp):l.flatMap (λo=>bif decide (0<(Gr o).1) then[o.Dst] else[])=ZZ l:=by
 induction l with
 | nil=>rfl
 | cons o l ih=>
  rw[MS,ih];unfold ZZ
  by_cases h:0<(Gr o).1<;>simp[h]
theorem tI(b:Ae)(i:Nat):(Qk b i).map (·.V)=UP b:=by
 unfold Qk UP Qm Vp;rw[W8,List.map_flatMap,List.map_flatMap]
 congr 1
 ·show(List.range b.Phis.length).flatMap (λk=>[(b.Phis.getD k default).Dst])=_
  rw[<- List.map_eq_flatMap];exact YB b.Phis default (·.Dst)
 ·rw[<- lg,List.flatMap_def,List.flatMap_def]
  congr 1
  rw[<- YB b.Ops default];refine MR λk hk=>?_
  cases decide (0<(Gr (b.Ops.getD k default)).1)<;>rfl
theorem pC(g:TFunc):(As g).map (·.V)=(List.range g.Params.length).map (λi:Nat=>(i:Int)+1)++(List.range g.Blocks.length).flatMap (λy=>UP (bA g y)):=by
 unfold As Ql;rw[W8,List.map_flatMap,List.map_flatMap]
 congr 1
 ·rw[List.map_eq_flatMap];rfl
 ·rw[List.flatMap_def,List.flatMap_def]
  congr 1
  exact MR λy _=>tI _ y
theorem nodup_split(g:TFunc):((As g).map (·.V)).Nodup↔(∀ y,y<g.Blocks.length->(UP (bA g y)).Nodup)/\(∀ y z,y<g.Blocks.length->z<g.Blocks.length->y≠z->∀ v∈UP (bA g y),v∉UP (bA g z))/\(∀ i:Nat,i<g.Params.length->∀ y,y<g.Blocks.length->((i:Int)+1)∉UP (bA g y)):=by
 rw[pC,List.nodup_append,List.nodup_iff_pairwise_ne (l:=List.flatMap _ _),List.pairwise_flatMap]
 have hP:((List.range g.Params.length).map (λi:Nat=>(i:Int)+1)).Nodup:=by
  rw[List.nodup_iff_pairwise_ne,List.pairwise_map];exact List.Pairwise.imp (λ{a b} (h:a<b)=>by omega) List.pairwise_lt_range
 constructor
 ·rintro⟨_,⟨h1,h2⟩,h3⟩;refine⟨λy hy=>List.nodup_iff_pairwise_ne.2 (h1 y (zzL40.2 hy)),?_,λi hi y hy hv=>h3 _ (zzL21.2 ⟨i,zzL40.2 hi,rfl⟩) _ (zzL42.2 ⟨y,zzL40.2 hy,hv⟩) rfl⟩
  have key:∀ y z,y<z->z<g.Blocks.length->∀ v∈UP (bA g y),v∉UP (bA g z):=λy z hyz hz v h4 h5=>by
   have:=(zzL92.1 h2) y z (by simp;omega) (by simpa using hz) hyz;simp only[List.getElem_range]at this;exact this v h4 v h5 rfl
  intro y z hy hz hne v h4 h5;rcases Nat.lt_or_gt_of_ne hne with e|e
  ·exact key y z e hz v h4 h5
  ·exact key z y e hy v h5 h4
 ·rintro⟨h1,h2,h3⟩;refine⟨hP,⟨λy hy=>List.nodup_iff_pairwise_ne.1 (h1 y (zzL40.1 hy)),?_⟩,λa ha b hb hab=>?_⟩
  ·refine List.Pairwise.imp_of_mem (λ{a b} ha hb hab v hv w hw e=>?_) (List.pairwise_lt_range (n:=g.Blocks.length));exact h2 a b (zzL40.1 ha) (zzL40.1 hb) (by omega) v hv (e▸hw)
  ·obtain⟨i,hi,rfl⟩:=zzL21.1 ha;obtain⟨y,hy,hv⟩:=zzL42.1 hb;exact h3 i (zzL40.1 hi) y (zzL40.1 hy) (hab▸hv)
def IU(y k:Nat):Nat:=if k<y then k else k+1
def psJ(x y b:Nat):Nat:=if y<(if b=y then x else b) then(if b=y then x else b)-1 else(if b=y then x else b)
def mR(x y:Nat)(a:Int):Int:=((psJ x y a.toNat:Nat):Int)
def WA(ps:List TPhi)(v:Int):Int:=match ps.find? (λp=>p.Dst==v) with|some p=>p.Args.getD 0 0|none=>v
def NI(l:List (Int×Int))(e:Int×Int):List (Int×Int):=l.takeWhile (λp=>decide (p.1<e.1))++e::l.dropWhile (λp=>decide (p.1<e.1))
def Zz(l:List (Int×Int)):List (Int×Int):=l.foldl NI []
def Oz(v:Int->Int)(x y:Nat)(p:TPhi):List (Int×Int):=List.zip (p.From.map (mR x y)) (p.Args.map v)
def NQ(v:Int->Int)(x y:Nat)(p:TPhi):TPhi:=⟨p.Bits,p.Dst,(Zz (Oz v x y p)).map (·.1),(Zz (Oz v x y p)).map (·.2)⟩
def m9(v:Int->Int)(o:TOp):TOp:=⟨o.Kind,o.Bits,o.Lanes,o.Dst,o.Args.map v,o.Imm⟩
def pF(v:Int->Int)(x y:Nat)(e:Ou):Ou:=⟨e.Kind,v e.Arg,e.To.map (mR x y)⟩
def GV(v:Int->Int)(x y:Nat)(b:Ae):Ae:=⟨b.Phis.map (NQ v x y),b.Ops.map (m9 v),pF v x y b.End⟩
def Ki(f:TFunc)(x y i:Nat):Ae:=if i=x then⟨(bA f x).Phis,(bA f x).Ops++(bA f y).Ops,(bA f y).End⟩ else bA f i
def vJ(f:TFunc)(y:Nat):Int->Int:=WA (bA f y).Phis
def B7(f:TFunc)(x y:Nat):TFunc:=⟨f.Params,f.Ret,(List.range (f.Blocks.length-1)).map λk=>GV (vJ f y) x y (Ki f x y (IU y k))⟩
structure Jn(f:TFunc)(x y:Nat):Prop where
 hx:x<f.Blocks.length
 kind:(bA f x).End.Kind=1
 to:(bA f x).End.To=[(y:Int)]
 ne:y≠x
 pred:prF f y=[(x:Int)]
def UM(f:TFunc)(x y:Nat):Prop:=(y:Int)∈(bA f x).End.To
def Tj(x y a:Nat):Nat:=if a=x then y else a
theorem Q5{g:TFunc}(hg:Gp g=true){y:Nat}(hy:y<g.Blocks.length){x:Int}:x∈prF g y↔∃ p:Nat,x=(p:Int)/\p<g.Blocks.length/\UM g p y:=by
 unfold prF;have hl:=L3 g;rw[BP (Jt hg) (by omega)]
 constructor
 ·rintro⟨p,h1,h2,h3⟩;exact⟨p,h1,by omega,(qU (Jt hg) (by omega)).1 h3⟩
 ·rintro⟨p,h1,h2,h3⟩;exact⟨p,h1,by omega,(qU (Jt hg) h2).2 h3⟩
theorem FR{f:TFunc}(hs:Gp f=true){a:Nat}(ha:a<f.Blocks.length){z:Int}(hz:z∈(bA f a).End.To):∃ c:Nat,z=(c:Int)/\c<f.Blocks.length/\0<c/\UM f a c:=by
 have h:=toB_iff.1 (ae ((shape_iff.1 hs).2 a ha)) z hz;refine⟨z.toNat,by omega,by omega,by omega,?_⟩;unfold UM;rw[show((z.toNat:Nat):Int)=z by omega];exact hz
theorem gp{f:TFunc}(hs:Gp f=true){a b:Nat}(ha:a<f.Blocks.length)(h:UM f a b):b<f.Blocks.length/\0<b:=by
 obtain⟨c,h1,h2,h3,_⟩:=FR hs ha h;omega
theorem Sw{f:TFunc}(hs:Gp f=true){a b:Nat}(ha:a<f.Blocks.length):b∈sN (A2 f) a↔UM f a b:=qU (Jt hs) ha
theorem g8{f:TFunc}(hs:Gp f=true){b:Nat}(h:Rc (sN (A2 f)) 0 b):b<f.Blocks.length:=by
 have h0:=(shape_iff.1 hs).1.1
 induction h with
 | root=>omega
 | step hx hy ih=>exact(gp hs ih ((Sw hs ih).1 hy)).1
theorem yw{S:Nat->List Nat}{r z b:Nat}(h:Av S r z b):Rc S r b:=by
 induction h with
 | root=>exact .root
 | step _ hy _ ih=>exact .step ih hy
theorem u5{S:Nat->List Nat}{r z b:Nat}(h:Av S r z b):b≠z:=by
 cases h with
 | root h=>exact h
 | step _ _ h=>exact h
theorem av_split{S:Nat->List Nat}{r a b c:Nat}(h:Av S r a c):Av S r b c\/Av S r a b:=by
 induction h with
 | root h=>
  by_cases e:r=b
  ·subst e;exact .inr (.root h)
  ·exact .inl (.root e)
 | @step x y h hy hz ih=>
  rcases ih with h1|h1
  ·by_cases e:y=b
   ·subst e;exact .inr (.step h hy hz)
   ·exact .inl (.step h1 hy e)
  ·exact .inr h1
section
variable {f:TFunc} (hs:Gp f=true)
include hs
theorem V4{a b:Nat}(ha:a<f.Blocks.length)(hb:b<f.Blocks.length):Ly (B5 f) (a:Int) (b:Int)=true↔Rc (sN (A2 f)) 0 b/\¬ Av (sN (A2 f)) 0 a b:=
 uP (Jt hs) (by have:=(shape_iff.1 hs).1.1;omega) ha hb
theorem RN{a b c:Nat}(ha:a<f.Blocks.length)(hb:b<f.Blocks.length)(hc:c<f.Blocks.length)(h1:Ly (B5 f) (a:Int) (b:Int)=true)(h2:Ly (B5 f) (b:Int) (c:Int)=true):Ly (B5 f) (a:Int) (c:Int)=true:=by
 rw[V4 hs ha hb]at h1;rw[V4 hs hb hc]at h2;refine(V4 hs ha hc).2 ⟨h2.1,λh=>?_⟩;rcases av_split (b:=b) h with e|e
 ·exact h2.2 e
 ·exact h1.2 e
end
theorem up_eq(y k:Nat):(k<y/\IU y k=k)\/(y<=k/\IU y k=k+1):=by unfold IU;split<;>omega
theorem ps_eq{x y:Nat}(hne:y≠x)(b:Nat):(b=y/\psJ x y b=psJ x y x)\/(b<y/\psJ x y b=b)\/(y<b/\psJ x y b=b-1):=by
 unfold psJ
 by_cases e:b=y
 ·left;subst e;simp
 ·rw[if_neg e]
  by_cases h:y<b
  ·rw[if_pos h];omega
  ·rw[if_neg h];omega
theorem eA{x y:Nat}(hne:y≠x)(k:Nat):psJ x y (IU y k)=k:=by
 rcases up_eq y k with⟨h,e⟩|⟨h,e⟩<;>rw[e]
 ·rcases ps_eq hne k with h1|h1|h1<;>omega
 ·rcases ps_eq hne (k+1) with h1|h1|h1<;>omega
theorem qj{x y:Nat}(hne:y≠x){b:Nat}(hb:b≠y):IU y (psJ x y b)=b:=by
 rcases ps_eq hne b with h|⟨h,e⟩|⟨h,e⟩
 ·omega
 ·rw[e];rcases up_eq y b with h1|h1<;>omega
 ·rw[e];rcases up_eq y (b-1) with h1|h1<;>omega
theorem YN(y k:Nat):IU y k≠y:=by rcases up_eq y k with h|h<;>omega
theorem g5{x y:Nat}(hne:y≠x){b c:Nat}(hb:b≠y)(hc:c≠y)(h:psJ x y b=psJ x y c):b=c:=by
 rw[<- qj hne hb,<- qj hne hc,h]
theorem zY{x y n:Nat}(hne:y≠x)(hx:x<n)(hy:y<n){b:Nat}(hb:b<n):psJ x y b<n-1:=by
 rcases ps_eq hne b with⟨_,e⟩|h|h
 ·rw[e];rcases ps_eq hne x with h|h|h<;>omega
 ·omega
 ·omega
theorem eY{y n k:Nat}(hy:y<n)(hk:k<n-1):IU y k<n:=by rcases up_eq y k with h|h<;>omega
theorem Pi(x y b:Nat):mR x y (b:Int)=((psJ x y b:Nat):Int):=by unfold mR;rw[Am]
section
variable {f:TFunc} {x y:Nat} (J:Jn f x y) (hs:Gp f=true)
include J
theorem On:(B7 f x y).Blocks.length=f.Blocks.length-1:=by
 show(List.map _ _).length=_;rw[Dx,Vf]
theorem zH{k:Nat}(hk:k<f.Blocks.length-1):bA (B7 f x y) k=GV (vJ f y) x y (Ki f x y (IU y k)):=Pa hk
include hs
theorem LQ:y<f.Blocks.length/\0<y:=gp hs J.hx (by unfold UM;rw[J.to];exact zzL15.2 rfl)
theorem Wh{b:Nat}(hb:b<f.Blocks.length):psJ x y b<f.Blocks.length-1:=zY J.ne J.hx (LQ J hs).1 hb
theorem ta{b:Nat}(hb:b<f.Blocks.length)(hne:b≠y):bA (B7 f x y) (psJ x y b)=GV (vJ f y) x y (Ki f x y b):=by
 rw[zH J (Wh J hs hb),qj J.ne hne]
theorem ST{a:Nat}(ha:a<f.Blocks.length)(h:UM f a y):a=x:=by
 have:(a:Int)∈prF f y:=(Q5 hs (LQ J hs).1).2 ⟨a,rfl,ha,h⟩;rw[J.pred,zzL15]at this;omega
theorem Ym{a:Nat}(ha:a<f.Blocks.length):Tj x y a<f.Blocks.length:=by
 unfold Tj;split
 ·exact(LQ J hs).1
 ·exact ha
theorem iH{a b:Nat}(ha:a<f.Blocks.length)(hay:a≠y)(h:UM f (Tj x y a) b):b≠y:=by
 intro e;subst e;have:=ST J hs (Ym J hs ha) h;unfold Tj at this
 split at this
 ·exact J.ne this
 ·omega
theorem PZ{a:Nat}(ha:a<f.Blocks.length)(hay:a≠y):(bA (B7 f x y) (psJ x y a)).End=pF (vJ f y) x y (bA f (Tj x y a)).End:=by
 rw[ta J hs ha hay];unfold GV Ki Tj
 split
 ·rfl
 ·rfl
theorem tY{a b:Nat}(ha:a<f.Blocks.length)(hay:a≠y)(hb:b≠y):UM (B7 f x y) (psJ x y a) (psJ x y b)↔UM f (Tj x y a) b:=by
 unfold UM;rw[PZ J hs ha hay]
 constructor
 ·intro h;obtain⟨z,hz,e⟩:=zzL21.1 h;obtain⟨c,rfl,hc,_,hn⟩:=FR hs (Ym J hs ha) hz;rw[Pi]at e;have:c=b:=g5 J.ne (iH J hs ha hay hn) hb (by omega);rw[<- this];exact hz
 ·intro h;exact zzL21.2 ⟨_,h,Pi x y b⟩
theorem zI{a:Nat}(ha:a<f.Blocks.length)(hay:a≠y){w:Nat}(h:UM (B7 f x y) (psJ x y a) w):∃ b,b<f.Blocks.length/\b≠y/\0<b/\w=psJ x y b/\UM f (Tj x y a) b:=by
 have h0:=h;unfold UM at h;rw[PZ J hs ha hay]at h;obtain⟨z,hz,e⟩:=zzL21.1 h;obtain⟨c,rfl,hc,hc0,hn⟩:=FR hs (Ym J hs ha) hz;rw[Pi]at e;exact⟨c,hc,iH J hs ha hay hn,hc0,by omega,hn⟩
theorem wy:(0:Nat)≠y/\psJ x y 0=0:=by
 have:=(LQ J hs).2;refine⟨by omega,?_⟩;rcases ps_eq J.ne 0 with h|h|h<;>omega
theorem j_shapeB:Gp (B7 f x y)=true:=by
 obtain⟨⟨s1,s2⟩,s3⟩:=shape_iff.1 hs;have hy:=LQ J hs;have hx:=J.hx;have hne:=J.ne;refine shape_iff.2 ⟨by rw[On J];omega,λk hk=>?_⟩;rw[On J]at hk ⊢;have hu:=eY hy.1 hk
 have e:Bm (B7 f x y) k=pF (vJ f y) x y (bA f (Tj x y (IU y k))).End:=by
  have:=PZ J hs hu (YN y k);rw[eA hne]at this;exact this
 have h3:=s3 _ (Ym J hs hu);have h4:Kf (bA f (Tj x y (IU y k))).End f.Blocks.length=true:=h3;rw[e];unfold Kf at h4 ⊢;rw[A6]at h4 ⊢;refine⟨?_,toB_iff.2 λw hw=>?_⟩
 ·have:=h4.1;unfold Y0 pF at *
  simpa using this
 ·obtain⟨z,hz,rfl⟩:=zzL21.1 hw;obtain⟨c,rfl,hc,hc0,hn⟩:=FR hs (Ym J hs hu) hz;rw[Pi];have h1:=Wh J hs hc;have h2:=iH J hs hu (YN y k) hn
  have:0<psJ x y c:=by rcases ps_eq hne c with h|h|h<;>omega
  omega
theorem jk{b:Nat}(h:Rc (sN (A2 f)) 0 b):b<f.Blocks.length/\Rc (sN (A2 (B7 f x y))) 0 (psJ x y b):=by
 have hy:=LQ J hs;have hgs:=j_shapeB J hs
 induction h with
 | root=>exact⟨by omega,by rw[(wy J hs).2];exact .root⟩
 | @step a b ha hb ih=>
  have hn:=(Sw hs ih.1).1 hb;have hbl:=(gp hs ih.1 hn).1;refine⟨hbl,?_⟩
  have key:∀ c,c<f.Blocks.length->c≠y->psJ x y c=psJ x y a->UM f (Tj x y c) b->b≠y->Rc (sN (A2 (B7 f x y))) 0 (psJ x y b):=λc hc hcy e hcn hby=>by
   rw[<- e]at ih;exact .step ih.2 ((Sw hgs (by rw[On J];exact Wh J hs hc)).2 ((tY J hs hc hcy hby).2 hcn))
  by_cases e:b=y
  ·subst e;have:=ST J hs ih.1 hn;subst this;rcases ps_eq J.ne b with h|h|h
   ·rw[h.2];exact ih.2
   ·omega
   ·omega
  ·by_cases ea:a=y
   ·refine key x J.hx (λh=>J.ne h.symm) ?_ ?_ e
    ·rw[ea];rcases ps_eq J.ne y with h|h|h
     ·rw[h.2]
     ·omega
     ·omega
    ·unfold Tj;rw[if_pos rfl,<- ea];exact hn
   ·by_cases ex:a=x
    ·exfalso
     unfold UM at hn;rw[ex,J.to,zzL15]at hn;omega
    ·refine key a ih.1 ea rfl ?_ e;unfold Tj;rw[if_neg ex];exact hn
theorem Aat{a:Nat}(hay:a≠y){w:Nat}(h:Av (sN (A2 (B7 f x y))) 0 (psJ x y a) w):∃ b,b<f.Blocks.length/\b≠y/\psJ x y b=w/\Av (sN (A2 f)) 0 a b:=by
 have hy:=LQ J hs;have hgs:=j_shapeB J hs
 induction h with
 | root hne=>exact⟨0,by omega,(wy J hs).1,(wy J hs).2,.root (λe=>hne (by rw[<- e,(wy J hs).2]))⟩
 | @step w w' hw hy' hz ih=>
  obtain⟨b,hb,hby,rfl,hav⟩:=ih;have hn:=(Sw hgs (by rw[On J];exact Wh J hs hb)).1 hy';obtain⟨c,hc,hcy,_,rfl,hnc⟩:=zI J hs hb hby hn;have hca:c≠a:=λe=>hz (by rw[e]);refine⟨c,hc,hcy,rfl,?_⟩;unfold Tj at hnc
  by_cases e:b=x
  ·rw[if_pos e]at hnc;have h1:Av (sN (A2 f)) 0 a y:=.step hav ((Sw hs hb).2 (by unfold UM;rw[e,J.to];exact zzL15.2 rfl)) (λe=>hay e.symm);exact .step h1 ((Sw hs hy.1).2 hnc) hca
  ·rw[if_neg e]at hnc;exact .step hav ((Sw hs hb).2 hnc) hca
theorem wz{a b:Nat}(ha:a<f.Blocks.length)(hay:a≠y)(hb:b<f.Blocks.length)(hby:b≠y)(h:Ly (B5 f) (a:Int) (b:Int)=true):Ly (B5 (B7 f x y)) (psJ x y a:Int) (psJ x y b:Int)=true:=by
 obtain⟨h1,h2⟩:=(V4 hs ha hb).1 h;refine(V4 (j_shapeB J hs) (by rw[On J];exact Wh J hs ha) (by rw[On J];exact Wh J hs hb)).2 ⟨(jk J hs h1).2,λhav=>h2 ?_⟩;obtain⟨c,hc,hcy,e,hv⟩:=Aat J hs hay hav;rw[<- g5 J.ne hcy hby e];exact hv
theorem Aaw{d:Nat}(hd:d≠y)(h:Av (sN (A2 f)) 0 d x):Av (sN (A2 f)) 0 d y:=
 .step h ((Sw hs J.hx).2 (by unfold UM;rw[J.to];exact zzL15.2 rfl)) (λe=>hd e.symm)
theorem Aay{d:Nat}(h:Av (sN (A2 f)) 0 d y):Av (sN (A2 f)) 0 d x:=by
 cases h with
 | root=>exact absurd rfl (wy J hs).1
 | @step a _ h hy _=>
  have ha:=g8 hs (yw h);have:=ST J hs ha ((Sw hs ha).1 hy);rw[<- this];exact h
theorem Aaz(h:Rc (sN (A2 f)) 0 y):Rc (sN (A2 f)) 0 x:=by
 cases h with
 | root=>exact absurd rfl (wy J hs).1
 | @step a _ h hy=>
  have ha:=g8 hs h;have:=ST J hs ha ((Sw hs ha).1 hy);rw[<- this];exact h
theorem xJ{d:Nat}(hd:d<f.Blocks.length)(hdy:d≠y):Ly (B5 f) (d:Int) (y:Int)=true↔Ly (B5 f) (d:Int) (x:Int)=true:=by
 rw[V4 hs hd (LQ J hs).1,V4 hs hd J.hx]
 constructor
 ·rintro⟨h1,h2⟩;exact⟨Aaz J hs h1,λh=>h2 (Aaw J hs hdy h)⟩
 ·rintro⟨h1,h2⟩;exact⟨.step h1 ((Sw hs J.hx).2 (by unfold UM;rw[J.to];exact zzL15.2 rfl)),λh=>h2 (Aay J hs h)⟩
theorem gn:¬ Ly (B5 f) (y:Int) (x:Int)=true:=by
 intro h;obtain⟨h1,h2⟩:=(V4 hs (LQ J hs).1 J.hx).1 h
 have key:∀ b,Rc (sN (A2 f)) 0 b->Av (sN (A2 f)) 0 y b\/Av (sN (A2 f)) 0 y x:=by
  intro b hb
  induction hb with
  | root=>exact .inl (.root (wy J hs).1)
  | @step a b ha hb ih=>
   rcases ih with ih|ih
   ·by_cases eb:b=y
    ·right
     have hal:=g8 hs ha;have:=ST J hs hal ((Sw hs hal).1 (by rw[<- eb];exact hb));rw[<- this];exact ih
    ·exact .inl (.step ih hb eb)
   ·exact .inr ih
 rcases key x h1 with h|h
 ·exact h2 h
 ·exact h2 h
end
end
end Go.Proofs.YtfhggcbcamamdaaGreat
