/-
  The machine, the program's functions and the laws' arithmetic: part 5 of 6.
-/
import Derived.Test.YtaeaenoaomdimaaGreatPk4
import Derived.Lib.RowBridge
set_option linter.unusedSectionVars false
set_option linter.unusedVariables false
set_option linter.unusedSimpArgs false
namespace Go.Proofs.YtaeaenoaomdimaaGreat
noncomputable section
open Go Go.RowKit
def JD(l:Int):Int:=bif l==0 then 17 else bif l==1 then 20 else 22
def Rh(l:Int)(o:C5):Bool:=Jq o&&!decide (JD l<o.Kind)&&!(decide (l<2)&&decide (1<o.Lanes))
def Jp(l:Int)(b:Aj):Bool:=(b.Phis.all λp=>widthB p.Bits)&&b.Ops.all (Rh l)
def Sh(f:TFunc)(l:Int):Bool:=f.Params.all widthB&&f.Blocks.all (Jp l)&&widthB f.Ret
theorem uu{m a b c:Bool}{x:Int}:(bif (bif (bif (!m) then true else a) then true else(bif b then c else false)) then(some (LR.done (Sum.inr false))) else some (LR.next x):Option (LR Int (Unit ⊕ Bool)))=some (bif (m&&!a&&!(b&&c)) then .next x else .done (.inr false)):=by
 grind
theorem md{f:TFunc}(hf:OkF f){b:Aj}(hb:b∈f.Blocks){o:C5}(ho:o∈b.Ops):dA o:=by
 have h1:=hf.block b hb;have h2:=(blockB_iff.1 h1.may).2.1 o ho;simp only[ig,Bg]at h2;exact⟨⟨(h1.imm o ho).1,(h1.imm o ho).2⟩,by have:=(listB_iff.1 h2.2).2;omega⟩
theorem ud{f:TFunc}(hf:OkF f)(l:Int):J6 f l=some (Sh f l):=by
 have hp:=Hi f.Params (0:Int) widthB (Fn f) (.inl ()) (.inr false) (λi hi hp=>by
   unfold Fn
   have:decide ((i:Int)<(f.Params.length:Int))=true:=by simpa using hi
   simp only[this,Af,Aa (Ak hi),Dq,S6,Ar,hp,D3,A2,A8 hi (by have:=hf.few;omega)]) (λi hi hp=>by
   unfold Fn
   have:decide ((i:Int)<(f.Params.length:Int))=true:=by simpa using hi
   simp only[this,Af,Aa (Ak hi),Dq,S6,Ar,hp,K2]) (by
   unfold Fn;simp) f.Params.length 0 (by omega)
 have hb:=Hi f.Blocks (default:Aj) (Jp l) (Fo f l) (.inl ()) (.inr false)
 have hphi:∀ i:Nat,i<f.Blocks.length->Ac (Dy f (i:Int)) (0:Int)=some _:=λi hi=>by
  have hB:=hf.block _ (Ai (d:=(default:Aj)) hi)
  have:=Hi (f.Blocks.getD i default).Phis (default:Fe) (λp=>widthB p.Bits) (Dy f (i:Int)) (.inl ()) (.inr false) (λj hj hp=>by
   unfold Dy
   have:decide ((j:Int)<((f.Blocks.getD i default).Phis.length:Int))=true:=by simpa using hj
   simp only[Aa (Ak hi),Dq,this,Af,Aa (Ak hj),S6,Ar,hp,D3,A2,A8 hj (by have:=hB.phis;omega)]) (λj hj hp=>by
   unfold Dy
   have:decide ((j:Int)<((f.Blocks.getD i default).Phis.length:Int))=true:=by simpa using hj
   simp only[Aa (Ak hi),Dq,this,Af,Aa (Ak hj),S6,Ar,hp,K2]) (by
   unfold Dy;simp[Aa (Ak hi)]) (f.Blocks.getD i default).Phis.length 0 (by omega)
  rw[show(0:Int)=((0:Nat):Int) from rfl,this,Mw]
 have hops:∀ i:Nat,i<f.Blocks.length->Ac (Dz f l (i:Int)) (0:Int)=some _:=λi hi=>by
  have hmem:=Ai (d:=(default:Aj)) hi;have hB:=hf.block _ hmem
  have key:∀(j:Nat),j<(f.Blocks.getD i default).Ops.length->Dz f l (i:Int) (j:Int)=some (bif Rh l ((f.Blocks.getD i default).Ops.getD j default) then .next ((j:Int)+1) else .done (.inr false)):=λj hj=>by
   unfold Dz
   have hd:decide ((j:Int)<((f.Blocks.getD i default).Ops.length:Int))=true:=by simpa using hj
   have hok:=md hf hmem (Ai (d:=(default:C5)) hj);simp only[Aa (Ak hi),Dq,hd,Af,Aa (Ak hj),A8 hj (by have:=hB.ops;omega)];unfold Rh JD;cases h1:(l==1)<;>cases h0:(l==0)<;>simp only[Af,A2,Ar,cN _ hok,uu]
  have:=Hi (f.Blocks.getD i default).Ops (default:C5) (Rh l) (Dz f l (i:Int)) (.inl ()) (.inr false) (λj hj hp=>by rw[key j hj,hp];rfl) (λj hj hp=>by rw[key j hj,hp];rfl) (by
   unfold Dz;simp[Aa (Ak hi)]) (f.Blocks.getD i default).Ops.length 0 (by omega)
  rw[show(0:Int)=((0:Nat):Int) from rfl,this,Mw]
 have hb':=hb (λi hi hp=>by
   unfold Fo
   have:decide ((i:Int)<(f.Blocks.length:Int))=true:=by simpa using hi
   simp only[Jp,Bg]at hp
   simp only[this,Af,hphi i hi,hops i hi,hp.1,hp.2,Ar,A8 hi (by have:=hf.blocks;omega)]) (λi hi hp=>by
   unfold Fo
   have:decide ((i:Int)<(f.Blocks.length:Int))=true:=by simpa using hi
   simp only[Jp]at hp;simp only[this,Af,hphi i hi,hops i hi,Ar]
   cases h1:((f.Blocks.getD i default).Phis.all λp=>widthB p.Bits) with
   | false=>rfl
   | true=>grind) (by
   unfold Fo;simp) f.Blocks.length 0 (by omega)
 unfold J6 Sh;rw[show(0:Int)=((0:Nat):Int) from rfl,hp,hb',Mw,Mw]
 cases f.Params.all widthB<;>cases f.Blocks.all (Jp l)<;>simp[S6]
theorem FG:room=1099511627776:=rfl
theorem M1{β:Type}(n A C:Nat)(E:Nat->List β)(hE:∀ i,i<n->(E i).length<=C)(f:List β×Int->Option (LR (List β×Int) (List β)))
  (hn:∀(acc:List β) (i:Nat),i<n->acc.length<=A+i*C->f (acc,(i:Int))=some (.next (acc++E i,(i:Int)+1)))
  (hd:∀ acc:List β,f (acc,(n:Int))=some (.done acc)):∀(k i:Nat) (acc:List β),i+k=n->acc.length<=A+i*C->Ac f (acc,(i:Int))=some (acc++(List.range' i k).flatMap E)
 | 0,i,acc,h,_=>by
  obtain rfl:i=n:=by omega
  rw[An (hd acc)]
  simp
 | k+1,i,acc,h,hA=>by
  have hi:i<n:=by omega
  have h2:acc.length+C<=A+(i+1)*C:=by rw[Hs];omega
  rw[Au (hn acc i hi hA),show(i+1)=((i+1:Nat):Int) by omega,M1 n A C E hE f hn hd k _ _ (by omega) (by grind),GP,MQ,EG]
theorem Kk{β:Type}(C:Nat)(E:Nat->List β):∀ l:List Nat,(∀ i∈l,(E i).length<=C)->(l.flatMap E).length<=l.length*C
 | [],_=>by simp
 | a::l,h=>by
  have h1:=h a (by simp);have h2:=Kk C E l (λi hi=>h i (by simp[hi]));rw[MQ,Gn,GQ,Hs];omega
def Mp(l:List Cb)(v:Int):Int:=match l.findIdx? (λd=>d.V==v) with|some i=>(i:Int)|none=>-1
theorem bu(l:List Cb)(v:Int)(hl:l.length<=1000000):Eo l v=some (Mp l v):=by
 have key:∀(k i:Nat),i+k=l.length->Ac (Gg l v) i=some (match(l.drop i).findIdx? (λd=>d.V==v) with|some j=>.inr (i+j:Nat)|none=>.inl ()):=by
  intro k
  induction k with
  | zero=>
   intro i h
   obtain rfl:i=l.length:=by omega
   rw[An (x:=.inl ()) (by unfold Gg;simp)]
   simp
  | succ k ih=>
   intro i h
   have hi:i<l.length:=by omega
   have hdr:l.drop i=l.getD i default::l.drop (i+1):=by simp_all
   have hd:decide (i<(l.length:Int))=true:=by simpa using hi
   rw[hdr,List.findIdx?_cons]
   cases hb:(l.getD i _).V==v with
   | true=>
    rw[An (x:=.inr i) (by unfold Gg;simp only[hd,Af,Aa (Ak hi),Dq,hb])]
    simp
   | false=>
    rw[Au (s':=((i+1:Nat):Int)) (by unfold Gg;simp only[hd, Aa (Ak hi),Dq,hb, A8 hi (by omega)];rfl),ih _ (by omega)]
    cases(l.drop _).findIdx? _ with
    | none=>simp
    | some j=>simp;omega
 unfold Eo Mp;rw[show 0=((0:Nat):Int) from rfl,key l.length 0 (by omega),Mw]
 cases l.findIdx? _ with
 | none=>rfl
 | some j=>simp
def Ia(o:C5):Int×Int:=bif Jq o then R3 o.Kind o.Bits o.Lanes else(0,0)
def Ii(o:C5):List (Int×Int):=bif Jq o then Rm o else[]
def Sz(f:TFunc):List Cb:=(List.range f.Params.length).flatMap λ(i:Nat)=>[⟨(i:Int)+1,-1,0,(f.Params.getD i 0,1)⟩]
def So(b:Aj)(i:Nat):List Cb:=(List.range b.Phis.length).flatMap λ(k:Nat)=>[⟨(b.Phis.getD k default).Dst,i,-1,((b.Phis.getD k default).Bits,1)⟩]
def CF(b:Aj)(i:Nat):List Cb:=(List.range b.Ops.length).flatMap λ(k:Nat)=>bif decide (0<(Ia (b.Ops.getD k default)).1) then[⟨(b.Ops.getD k default).Dst,i,k,Ia (b.Ops.getD k default)⟩] else[]
def Rs(b:Aj)(i:Nat):List Cb:=So b i++CF b i
def A4(f:TFunc):List Cb:=Sz f++(List.range f.Blocks.length).flatMap λi=>Rs (f.Blocks.getD i default) i
theorem NM(b:Aj)(i:Nat):(So b i).length<=b.Phis.length:=by
 have:=Kk 1 (λk=>[(⟨(b.Phis.getD k default).Dst,i,-1,((b.Phis.getD k default).Bits,1)⟩:Cb)]) (List.range b.Phis.length) (λ_ _=>zzL8 _)
 simpa [So] using this
theorem iA(b:Aj)(i:Nat):(CF b i).length<=b.Ops.length:=by
 have:=Kk 1 (λk=>bif decide (0<(Ia (b.Ops.getD k default)).1) then[(⟨(b.Ops.getD k default).Dst,i,k,Ia (b.Ops.getD k default)⟩:Cb)] else[]) (List.range b.Ops.length) (λk _=>by grind)
 simpa [CF] using this
theorem YX{f:TFunc}(hf:OkF f){i:Nat}(hi:i<f.Blocks.length):(Rs (f.Blocks.getD i default) i).length<=1024:=by
 have hB:=hf.block _ (Ai (d:=default) hi);have h1:=NM (f.Blocks.getD i default) i;have h2:=iA (f.Blocks.getD i default) i;have h3:=hB.phis;have h4:=hB.ops;rw[Rs,Gn];omega
theorem EU(f:TFunc):(Sz f).length=f.Params.length:=by
 have h:∀ l:List Nat,(l.map λ_=>1).sum=l.length:=λl=>by induction l with|nil=>rfl|cons a l ih=>simp[ih];omega
 simp[Sz, h]
theorem lw{f:TFunc}(hf:OkF f):(A4 f).length<=100000:=by
 have h1:=Kk _ _ (List.range _) (λi hi=>YX hf (by simpa using hi));have h2:=EU f;have h3:=hf.few;have h4:=hf.blocks;rw[EH]at h1;rw[A4,Gn];omega
theorem xw{f:TFunc}(hf:OkF f):Kw f=some (A4 f):=by
 have hp:=M1 f.Params.length 0 1 (λ(i:Nat)=>[(⟨(i:Int)+1,-1,0,(f.Params.getD i 0,1)⟩:Cb)]) (λ_ _=>zzL8 _) (Iy f) (λacc i hi hA=>by
   unfold Iy
   have hd:decide ((i:Int)<(f.Params.length:Int))=true:=by simpa using hi
   have hr:acc.length+([(⟨(i:Int)+1,(-1:Int),(0:Int),((f.Params.getD i 0),(1:Int))⟩:Cb)]:List (Cb)).length<=room:=by have:=hf.few;rw[FG];simp;omega
   simp only[hd,Af,Aa (Ak hi),Dq,A8 hi (by have:=hf.few;omega),Aa hr]) (λacc=>by unfold Iy;simp) f.Params.length 0 [] (by omega) (by simp)
 have hphi:∀(i:Nat),i<f.Blocks.length->∀ acc:List Cb,acc.length<=100000->Ac (Ge f (i:Int)) (acc,(0:Int))=some (acc++So (f.Blocks.getD i default) i):=λi hi acc hacc=>by
  have hB:=hf.block _ (Ai (d:=(default:Aj)) hi)
  have:=M1 (f.Blocks.getD i default).Phis.length 100000 1 (λ(k:Nat)=>[(⟨((f.Blocks.getD i default).Phis.getD k default).Dst,i,-1,(((f.Blocks.getD i default).Phis.getD k default).Bits,1)⟩:Cb)]) (λ_ _=>zzL8 _) (Ge f (i:Int)) (λacc k hk hA=>by
   unfold Ge
   have hd:decide ((k:Int)<((f.Blocks.getD i default).Phis.length:Int))=true:=by simpa using hk
   have hr:∀ x:Cb,acc.length+([x]:List Cb).length<=room:=λx=>by have:=hB.phis;rw[FG];simp;omega
   simp only[Dq,hd,Af,Aa (Ak hk),A8 hk (by have:=hB.phis;omega),Aa (hr _)]) (λacc=>by unfold Ge;simp) (f.Blocks.getD i default).Phis.length 0 acc (by omega) (by omega)
  rw[show(0:Int)=((0:Nat):Int) from rfl,this,So,Tb]
 have hop:∀(i:Nat),i<f.Blocks.length->∀ acc:List Cb,acc.length<=100000->Ac (Gf f (i:Int)) (acc,(0:Int))=some (acc++CF (f.Blocks.getD i default) i):=λi hi acc hacc=>by
  have hmem:=Ai (d:=(default:Aj)) hi;have hB:=hf.block _ hmem
  have:=M1 (f.Blocks.getD i default).Ops.length 100000 1 (λ(k:Nat)=>bif decide (0<(Ia ((f.Blocks.getD i default).Ops.getD k default)).1) then[(⟨((f.Blocks.getD i default).Ops.getD k default).Dst,i,k,Ia ((f.Blocks.getD i default).Ops.getD k default)⟩:Cb)] else[]) (λk _=>by grind) (Gf f (i:Int)) (λacc k hk hA=>by
   unfold Gf;have hok:=md hf hmem (Ai (d:=(default:C5)) hk)
   have hd:decide ((k:Int)<((f.Blocks.getD i default).Ops.length:Int))=true:=by simpa using hk
   have hr:∀ x:Cb,acc.length+([x]:List Cb).length<=room:=λx=>by have:=hB.ops;rw[FG];simp;omega
   have hg:Hk ((f.Blocks.getD i default).Ops.getD k default)=some (Ia ((f.Blocks.getD i default).Ops.getD k default)):=mh _ hok;simp only[Dq,hd,Af,Aa (Ak hk),hg,Ar,A8 hk (by have:=hB.ops;omega),Aa (hr _)]
   cases decide (0<(Ia ((f.Blocks.getD i default).Ops.getD k default)).1)<;>simp) (λacc=>by unfold Gf;simp) (f.Blocks.getD i default).Ops.length 0 acc (by omega) (by omega)
  rw[show(0:Int)=((0:Nat):Int) from rfl,this,CF,Tb]
 have hb:=M1 f.Blocks.length 16 1024 (λi=>Rs (f.Blocks.getD i default) i) (λi hi=>YX hf hi) (Iz f) (λacc i hi hA=>by
   unfold Iz
   have hd:decide ((i:Int)<(f.Blocks.length:Int))=true:=by simpa using hi
   have hB:=hf.block _ (Ai (d:=(default:Aj)) hi);have h64:=hf.blocks;have h2:=NM (f.Blocks.getD i default) i;have h3:=hB.phis
   simp only[hd,Af,Aa (Ak hi),hphi i hi acc (by omega),Ar,hop i hi (acc++So (f.Blocks.getD i default) i) (by rw[Gn];omega),A8 hi (by omega),Rs,EG]) (λacc=>by unfold Iz;simp) f.Blocks.length 0 (Sz f) (by omega) (by have:=EU f;have:=hf.few;omega)
 unfold Kw;rw[show(0:Int)=((0:Nat):Int) from rfl,hp,Ar,Tv]
 have e:(List.range' 0 f.Params.length).flatMap (λ(i:Nat)=>[(⟨(i:Int)+1,-1,0,(f.Params.getD i 0,1)⟩:Cb)])=Sz f:=by rw[Sz,Tb]
 rw[e,hb,Ar,A4,Tb]
def Pa(p:Fe):List Cz:=(List.range p.Args.length).flatMap λ(j:Nat)=>[⟨p.Args.getD j 0,p.From.getD j 0,1000,(p.Bits,1)⟩]
def Oe(b:Aj):List Cz:=(List.range b.Phis.length).flatMap λ(k:Nat)=>Pa (b.Phis.getD k default)
def Sw(o:C5)(i k:Nat):List Cz:=(List.range (Ii o).length).flatMap λ(j:Nat)=>[⟨o.Args.getD j 0,i,k,(Ii o).getD j (0,0)⟩]
def U6(b:Aj)(i:Nat):List Cz:=(List.range b.Ops.length).flatMap λ(k:Nat)=>Sw (b.Ops.getD k default) i k
def V0(f:TFunc)(b:Aj)(i:Nat):List Cz:=(bif b.End.Kind==0 then[⟨b.End.Arg,i,1000,(f.Ret,1)⟩] else[])++(bif b.End.Kind==2 then[⟨b.End.Arg,i,1000,(1,1)⟩] else[])
def DX(f:TFunc)(b:Aj)(i:Nat):List Cz:=Oe b++U6 b i++V0 f b i
def Bw(f:TFunc):List Cz:=(List.range f.Blocks.length).flatMap λ(i:Nat)=>DX f (f.Blocks.getD i default) i
theorem Yy{o:C5}(h:o.Args.length<=64):(Ii o).length<=64/\(Ii o).length<=o.Args.length:=by
 unfold Ii
 cases hm:Jq o with
 | false=>simp
 | true=>
  simp only[Af]
  have :=by
   simp only[Jq,Bg]at hm;exact hm.1.2.2
  have h2 :=by simpa using this
  have h3:(Rm o).length=o.Args.length:=by rw[Rm,Xh,EH,<- h2,Dq]
  omega
theorem TN{f:TFunc}(hf:OkF f){b:Aj}(hb:b∈f.Blocks){p:Fe}(hp:p∈b.Phis):p.From.length<=64/\p.Args.length<=64:=by
 have:=(blockB_iff.1 (hf.block b hb).may).1 p hp;simp only[JP,Bg]at this;exact⟨(listB_iff.1 this.1.2).2,(listB_iff.1 this.2).2⟩
theorem kZ{f:TFunc}(hf:OkF f){b:Aj}(hb:b∈f.Blocks){o:C5}(ho:o∈b.Ops):o.Args.length<=64:=by
 have:=(blockB_iff.1 (hf.block b hb).may).2.1 o ho;simp only[ig,Bg]at this;exact(listB_iff.1 this.2).2
theorem KA(p:Fe):(Pa p).length<=p.Args.length:=by
 have:=Kk 1 (λj=>[(⟨p.Args.getD j 0,p.From.getD j 0,1000,(p.Bits,1)⟩:Cz)]) (List.range p.Args.length) (λ_ _=>zzL8 _)
 simpa [Pa] using this
theorem ON(o:C5)(i k:Nat):(Sw o i k).length<=(Ii o).length:=by
 have:=Kk 1 (λj=>[(⟨o.Args.getD j 0,i,k,(Ii o).getD j (0,0)⟩:Cz)]) (List.range (Ii o).length) (λ_ _=>zzL8 _)
 simpa [Sw] using this
theorem OO{f:TFunc}(hf:OkF f){b:Aj}(hb:b∈f.Blocks):(Oe b).length<=32768:=by
 have:=Kk 64 (λk=>Pa (b.Phis.getD k default)) (List.range _) (λk hk=>by
  have h1:=KA (b.Phis.getD k default);have h2:=(TN hf hb (Ai (d:=default) (by simpa using hk))).2
  omega)
 have h3:=(hf.block b hb).phis;rw[EH]at this;rw[Oe];omega
theorem UW{f:TFunc}(hf:OkF f){b:Aj}(hb:b∈f.Blocks)(i:Nat):(U6 b i).length<=32768:=by
 have:=Kk 64 (λk=>Sw (b.Ops.getD k default) i k) (List.range _) (λk hk=>by
  have h1:=ON (b.Ops.getD k default) i k;have h2:=(Yy (kZ hf hb (Ai (d:=default) (by simpa using hk)))).1
  omega)
 have h3:=(hf.block b hb).ops;rw[EH]at this;rw[U6];omega
theorem fg(f:TFunc)(b:Aj)(i:Nat):(V0 f b i).length<=2:=by
 unfold V0
 cases b.End.Kind==0<;>cases b.End.Kind==2<;>simp
theorem aw{f:TFunc}(hf:OkF f){i:Nat}(hi:i<f.Blocks.length):(DX f (f.Blocks.getD i default) i).length<=70000:=by
 have hmem:=Ai (d:=default) hi;have h1:=OO hf hmem;have h2:=UW hf hmem i;have h3:=fg f (f.Blocks.getD i default) i;rw[DX,Gn,Gn];omega
theorem MH{f:TFunc}(hf:OkF f):(Bw f).length<=4480000:=by
 have h1:=Kk _ _ (List.range _) (λi hi=>aw hf (by simpa using hi));have h4:=hf.blocks;rw[EH]at h1;rw[Bw];omega
def kh(f:TFunc):Prop:=∀ b∈f.Blocks,∀ p∈b.Phis,p.Args.length<=p.From.length
theorem xz{f:TFunc}(hf:OkF f)(hp:kh f):Kx f=some (Bw f):=by
 have hbig:∀{n:Nat},n<=100000000->∀ x:Cz,n+([x]:List Cz).length<=room:=λ{n} h x=>by rw[FG];simp;omega
 have h1:∀(i:Nat),i<f.Blocks.length->∀(k:Nat),k<(f.Blocks.getD i default).Phis.length->∀ acc:List Cz,acc.length<=50000000->Ac (Gh f (i:Int) (k:Int)) (acc,(0:Int))=some (acc++Pa ((f.Blocks.getD i default).Phis.getD k default)):=λi hi k hk acc hacc=>by
  have hmem:=Ai (d:=(default:Aj)) hi;have hpm:=Ai (d:=(default:Fe)) hk;have hlen:=TN hf hmem hpm;have hfit:=hp _ hmem _ hpm
  have:=M1 ((f.Blocks.getD i default).Phis.getD k default).Args.length 50000000 1 (λ(j:Nat)=>[(⟨((f.Blocks.getD i default).Phis.getD k default).Args.getD j 0,((f.Blocks.getD i default).Phis.getD k default).From.getD j 0,1000,(((f.Blocks.getD i default).Phis.getD k default).Bits,1)⟩:Cz)]) (λ_ _=>zzL8 _) (Gh f (i:Int) (k:Int)) (λacc j hj hA=>by
   unfold Gh
   have hd:decide ((j:Int)<(((f.Blocks.getD i default).Phis.getD k default).Args.length:Int))=true:=by simpa using hj
   simp only[Dq,hd,Af,Aa (Ak hj),Aa (Ak (Nat.lt_of_lt_of_le hj hfit)),A8 hj (by omega),Aa (hbig (n:=acc.length) (by omega) _)]) (λacc=>by unfold Gh;simp) ((f.Blocks.getD i default).Phis.getD k default).Args.length 0 acc (by omega) (by omega)
  rw[show(0:Int)=((0:Nat):Int) from rfl,this,Pa,Tb]
 have h2:∀(i:Nat),i<f.Blocks.length->∀ acc:List Cz,acc.length<=40000000->Ac (Gi f (i:Int)) (acc,(0:Int))=some (acc++Oe (f.Blocks.getD i default)):=λi hi acc hacc=>by
  have hmem:=Ai (d:=(default:Aj)) hi;have hB:=hf.block _ hmem
  have:=M1 (f.Blocks.getD i default).Phis.length 40000000 64 (λ(k:Nat)=>Pa ((f.Blocks.getD i default).Phis.getD k default)) (λk hk=>by have:=KA ((f.Blocks.getD i default).Phis.getD k default);have:=(TN hf hmem (Ai (d:=(default:Fe)) hk)).2;omega) (Gi f (i:Int)) (λacc k hk hA=>by
   unfold Gi
   have hd:decide ((k:Int)<((f.Blocks.getD i default).Phis.length:Int))=true:=by simpa using hk
   have h5:=hB.phis;have h6:k*64<=512*64:=Fv _ (by omega)
   simp only[Dq,hd,Af,Aa (Ak hk),h1 i hi k hk acc (by omega),Ar,A8 hk (by omega)]) (λacc=>by unfold Gi;simp) (f.Blocks.getD i default).Phis.length 0 acc (by omega) (by omega)
  rw[show(0:Int)=((0:Nat):Int) from rfl,this,Oe,Tb]
 have h3:∀(i:Nat),i<f.Blocks.length->∀(k:Nat),k<(f.Blocks.getD i default).Ops.length->∀ acc:List Cz,acc.length<=50000000->Ac (Gj f (i:Int) (k:Int) (Ii ((f.Blocks.getD i default).Ops.getD k default))) (acc,(0:Int))=some (acc++Sw ((f.Blocks.getD i default).Ops.getD k default) i k):=λi hi k hk acc hacc=>by
  have hmem:=Ai (d:=(default:Aj)) hi;have hom:=Ai (d:=(default:C5)) hk;have hlen:=Yy (kZ hf hmem hom)
  have:=M1 (Ii ((f.Blocks.getD i default).Ops.getD k default)).length 50000000 1 (λ(j:Nat)=>[(⟨((f.Blocks.getD i default).Ops.getD k default).Args.getD j 0,i,k,(Ii ((f.Blocks.getD i default).Ops.getD k default)).getD j (0,0)⟩:Cz)]) (λ_ _=>zzL8 _) (Gj f (i:Int) (k:Int) (Ii ((f.Blocks.getD i default).Ops.getD k default))) (λacc j hj hA=>by
   unfold Gj
   have hd:decide ((j:Int)<((Ii ((f.Blocks.getD i default).Ops.getD k default)).length:Int))=true:=by simpa using hj
   simp only[Dq,hd,Af,Aa (Ak hk),Aa (Ak hj),Aa (Ak (Nat.lt_of_lt_of_le hj hlen.2)),A8 hj (by omega),Aa (hbig (n:=acc.length) (by omega) _)]) (λacc=>by unfold Gj;simp) (Ii ((f.Blocks.getD i default).Ops.getD k default)).length 0 acc (by omega) (by omega)
  rw[show(0:Int)=((0:Nat):Int) from rfl,this,Sw,Tb]
 have h4:∀(i:Nat),i<f.Blocks.length->∀ acc:List Cz,acc.length<=40000000->Ac (Gk f (i:Int)) (acc,(0:Int))=some (acc++U6 (f.Blocks.getD i default) i):=λi hi acc hacc=>by
  have hmem:=Ai (d:=(default:Aj)) hi;have hB:=hf.block _ hmem
  have:=M1 (f.Blocks.getD i default).Ops.length 40000000 64 (λ(k:Nat)=>Sw ((f.Blocks.getD i default).Ops.getD k default) i k) (λk hk=>by have:=ON ((f.Blocks.getD i default).Ops.getD k default) i k;have:=(Yy (kZ hf hmem (Ai (d:=(default:C5)) hk))).1;omega) (Gk f (i:Int)) (λacc k hk hA=>by
   unfold Gk
   have hd:decide ((k:Int)<((f.Blocks.getD i default).Ops.length:Int))=true:=by simpa using hk
   have h5:=hB.ops;have h6:k*64<=512*64:=Fv _ (by omega);have ht:Hl ((f.Blocks.getD i default).Ops.getD k default)=some (Ii ((f.Blocks.getD i default).Ops.getD k default)):=mj _ (md hf hmem (Ai (d:=(default:C5)) hk))
   simp only[Dq,hd,Af,Aa (Ak hk),ht,Ar,h3 i hi k hk acc (by omega),A8 hk (by omega)]) (λacc=>by unfold Gk;simp) (f.Blocks.getD i default).Ops.length 0 acc (by omega) (by omega)
  rw[show(0:Int)=((0:Nat):Int) from rfl,this,U6,Tb]
 have hb:=M1 f.Blocks.length 0 70000 (λ(i:Nat)=>DX f (f.Blocks.getD i default) i) (λi hi=>aw hf hi) (I4 f) (λacc i hi hA=>by
   unfold I4
   have hd:decide ((i:Int)<(f.Blocks.length:Int))=true:=by simpa using hi
   have hmem:=Ai (d:=(default:Aj)) hi;have h64:=hf.blocks;have q1:i*70000<=64*70000:=Fv _ (by omega);have q2:=OO hf hmem;have q3:=UW hf hmem i;have e1:=h4 i hi (acc++Oe (f.Blocks.getD i default)) (by rw[Gn];omega)
   have l1:(acc++Oe (f.Blocks.getD i default)++U6 (f.Blocks.getD i default) i).length<=50000000:=by rw[Gn,Gn];omega
   simp only[hd,Af,Aa (Ak hi),h2 i hi acc (by omega),Ar,e1,Dq,Aa (hbig (n:=(acc++Oe (f.Blocks.getD i default)++U6 (f.Blocks.getD i default) i).length) (by omega) _),DX,V0]
   cases(f.Blocks.getD i default).End.Kind==0 with
   | true=>
    simp only[Af,Ar]
    cases(f.Blocks.getD i default).End.Kind==2 with
    | true=>rw[Aa (by rw[Gn];have:=hbig (n:=(acc++Oe (f.Blocks.getD i default)++U6 (f.Blocks.getD i default) i).length+1) (by omega) (default:Cz);simpa using this)];simp[A8 hi (by omega:f.Blocks.length<9223372036854775808)]
    | false=>simp[A8 hi (by omega:f.Blocks.length<9223372036854775808)]
   | false=>
    simp only[A2,Ar]
    cases(f.Blocks.getD i default).End.Kind==2 with
    | true=>rw[Af,Aa (hbig (n:=(acc++Oe (f.Blocks.getD i default)++U6 (f.Blocks.getD i default) i).length) (by omega) _)];simp[A8 hi (by omega:f.Blocks.length<9223372036854775808)]
    | false=>simp[A8 hi (by omega:f.Blocks.length<9223372036854775808)]) (λacc=>by unfold I4;simp) f.Blocks.length 0 [] (by omega) (by simp)
 unfold Kx;rw[show(0:Int)=((0:Nat):Int) from rfl,hb,Ar,Bw,Tb,Tv]
def iZ(n:Nat)(l:List Int)(i:Nat):Bool:=decide ((if i=0 then(-1:Int) else l.getD (i-1) 0)<l.getD i 0)&&(decide (0<=l.getD i 0)&&decide (l.getD i 0<n))
def nK(n:Nat)(l:List Int):Bool:=(List.range l.length).all (iZ n l)
def Nu(L:List (List Int)):Bool:=decide (1<=L.length)&&decide (L.length<=64)&&(List.range L.length).all λi=>nK L.length (L.getD i [])
def CK(L:List (List Int))(k i:Nat):Bool:=(L.getD k []).contains (i:Int)
def La(L:List (List Int))(m i:Nat):List Int:=((List.range m).filter λk=>CK L k i).map Int.ofNat
def Es(L:List (List Int)):List (List Int):=(List.range L.length).map (La L L.length)
theorem W0(a n:Int):Ke a n=some (decide (0<=a)&&decide (a<n)):=by
 unfold Ke
 cases decide (0<=a)<;>rfl
theorem ZO(n:Nat):Mq (n:Int)=some (decide (1<=n)&&decide (n<=64)):=by
 unfold Mq
 have h1:decide ((1:Int)<=n)=decide (1<=n):=by grind
 have h2:decide (n<=(64:Int))=decide (n<=64):=by grind
 rw[h1,h2]
 cases decide (1<=n)<;>rfl
theorem US(L:List (List Int))(i:Nat)(hl:(L.getD i []).length<4611686018427387904) :
  Ac (Hw L (i:Int)) ((-1:Int),(0:Int))=some (bif nK L.length (L.getD i []) then .inl () else .inr false):=by
 refine Hv (Hw L i) (λj=>((if j=0 then -1 else(L.getD i []).getD (j-1) 0),(j:Nat))) _ _ _ _ (λj hj hp=>?_) (λj hj hp=>?_) ?_
 ·unfold iZ at hp;simp only[Bg,Jm]at hp;obtain⟨h1,h2,h3⟩:=hp;unfold Hw;simp only[Aq,B8 hj, W0];rw[Ab (inb hj)]
  have e1:decide ((L.getD i []).getD j 0<=(if j=0 then -1 else(L.getD i []).getD (j-1) 0))=false:=by simpa using h1
  simp only[e1,Cr h2,Cr h3,     D3];rw[w1 (show j<4611686018427387904 by omega)]
  simp
 ·unfold Hw;simp only[Aq,B8 hj, W0];rw[Ab (inb hj)]
  cases h1:decide ((L.getD i []).getD j 0<=(if j=0 then -1 else(L.getD i []).getD _ 0)) with
  | true=>grind
  | false=>
   have h1':decide ((if j=0 then -1 else(L.getD i []).getD (j-1) 0)<(L.getD i []).getD j 0)=true:=by simpa using h1
   unfold iZ at hp;rw[h1',Mx]at hp;simp only[Tc,Af,A2,Ar,hp,K2]
 ·unfold Hw;simp only[Aq,Ee,A2]
def Fits(L:List (List Int)):Prop:=L.length<4611686018427387904/\∀ l∈L,l.length<4611686018427387904
theorem Fits.at{L:List (List Int)}(h:Fits L)(i:Nat):(L.getD i []).length<4611686018427387904:=by
 by_cases hi:i<L.length
 ·exact h.2 _ (Ai hi)
 ·grind
theorem mR(L:List (List Int))(h:Fits L):Po L=some (Nu L):=by
 unfold Po;rw[ZO,Ar];unfold Nu
 cases hc:(decide (1<=L.length)&&decide (L.length<=64)) with
 | false=>rfl
 | true=>
  simp only[D3,A2,Mx];have:=Hv (Dm L) (λj=>((j:Nat):Int)) (λi=>nK L.length (L.getD i [])) (.inl ()) (.inr false) L.length (λj hj hp=>?_) (λj hj hp=>?_) ?_
  ·rw[show Ac (Dm L) (0:Int)=_ from this]
   cases(List.range L.length).all λi=>nK L.length (L.getD i [])<;>rfl
  ·show Dm L (j:Int)=_
   unfold Dm;simp only[B8 hj,Af];rw[Ab (inb hj),US L j (h.at j),hp];simp only[Af,Ar,w1 (show j<4611686018427387904 by have:=h.1;omega)]
  ·show Dm L (j:Int)=_
   unfold Dm;simp only[B8 hj,Af];rw[Ab (inb hj),US L j (h.at j),hp]
   rfl
  ·show Dm L _=_
   unfold Dm;simp only[Ee,A2]
theorem Pg{α:Type}{n i:Nat}{g:Nat->α}{d:α}(h:i<n):((List.range n).map g).getD i d=g i:=by simp[List.getD,h]
theorem DU{α:Type}{n i:Nat}{g:Nat->α}{x:α}:((List.range n).map g).set i x=(List.range n).map λj=>if j=i then x else g j:=by
 apply List.ext_getElem?
 intro j;rw[List.getElem?_set]
 by_cases hj:j<n
 ·by_cases hij:i=j
  ·subst hij;simp[hj]
  ·simp[hij,hj,Pc hij]
 ·simp[hj];intro h;omega
theorem Ho{α:Type}{n:Nat}{g h:Nat->α}(H:∀ i,i<n->g i=h i):(List.range n).map g=(List.range n).map h:=cS λi hi=>H i (zzL37.1 hi)
theorem mayS_iff{L:List (List Int)}:Nu L=true↔1<=L.length/\L.length<=64/\∀ i,i<L.length->nK L.length (L.getD i [])=true:=by
 unfold Nu;rw[Bg,Bg,all_range];simp only[Jm];exact⟨λ⟨⟨a,b⟩,c⟩=>⟨a,b,c⟩,λ⟨a,b,c⟩=>⟨⟨a,b⟩,c⟩⟩
theorem okL_iff{n:Nat}{l:List Int}:nK n l=true↔∀ i,i<l.length->(0<=l.getD i 0/\l.getD i 0<n)/\(0<i->l.getD (i-1) 0<l.getD i 0):=by
 unfold nK;rw[all_range];unfold iZ;simp only[Bg,Jm]
 constructor
 ·intro h i hi;obtain⟨h1,h2,h3⟩:=h i hi;refine⟨⟨h2,h3⟩,λhp=>?_⟩;rwa[if_neg (by omega)]at h1
 ·intro h i hi;obtain⟨⟨h2,h3⟩,h1⟩:=h i hi;refine⟨?_,h2,h3⟩
  by_cases hz:i=0
  ·rw[if_pos hz];omega
  ·rw[if_neg hz];exact h1 (by omega)
section
variable {n:Nat} {l:List Int} (h:nK n l=true)
include h
theorem CW{i:Nat}(hi:i<l.length):0<=l.getD i 0/\l.getD i 0<n:=(okL_iff.1 h i hi).1
theorem pm{i j:Nat}(hij:i<j)(hj:j<l.length):l.getD i 0<l.getD j 0:=by
 induction j with
 | zero=>omega
 | succ j ih=>
  have h1:=(okL_iff.1 h (j+1) hj).2 (by omega);rw[show j+1-1=j by omega]at h1
  by_cases he:i=j
  ·rw[he];exact h1
  ·exact Int.lt_trans (ih (by omega) (by omega)) h1
theorem yC{i:Nat}(hi:i<l.length):(i:Int)<=l.getD i 0:=by
 induction i with
 | zero=>exact(CW h hi).1
 | succ i ih=>
  have:=pm h (show i<i+1 by omega) hi;have:=ih (by omega);omega
theorem FC:l.length<=n:=by
 by_cases hz:l.length=0
 ·omega
 ·have h1:=yC h (show l.length-1<l.length by omega);have h2:=(CW h (show l.length-1<l.length by omega)).2;omega
theorem b8{x:Int}(hx:x∈l):0<=x/\x<n:=by
 obtain⟨i,hi,rfl⟩:=L5 hx;have:=CW h hi;rwa[Ag _ _ _ hi]at this
end
theorem yD{n:Nat}{l:List Int}(h1:∀ x∈l,0<=x/\x<n)(h2:l.Pairwise (·<·)):nK n l=true:=by
 rw[okL_iff];intro i hi;rw[Ag _ _ _ hi];refine⟨h1 _ (MR hi),λhp=>?_⟩;rw[Ag _ _ _ (show i-1<l.length by omega)];exact(zzL95.1 h2) _ _ _ _ (by omega)
theorem Ui{L:List (List Int)}(h:Nu L=true):L.length<=64/\∀ l∈L,l.length<=64:=by
 obtain⟨h1,h2,h3⟩:=mayS_iff.1 h;refine⟨h2,λl hl=>?_⟩;obtain⟨i,hi,rfl⟩:=L5 hl;have:=FC (h3 i hi);rw[Ag _ _ _ hi]at this;omega
theorem uM{L:List (List Int)}(h:L.length<=1000/\∀ l∈L,l.length<=1000):Fits L:=⟨by omega,λl hl=>by have:=h.2 l hl;omega⟩
theorem DL(L:List (List Int))(k i:Nat):La L (k+1) i=La L k i++(if CK L k i=true then[(k:Int)] else[]):=by
 unfold La;rw[Zr,MO,GR]
 congr 1
 cases hg:CK L k i<;>simp[hg]
theorem Yv(L:List (List Int))(k i:Nat):(La L k i).length<=k:=by
 unfold La;rw[Xh];have:=List.length_filter_le (λk=>CK L k i) (List.range k)
 simpa using this
theorem ZD{l:List Int}{j:Nat}(hj:j<l.length):l.take (j+1)=l.take j++[l.getD j 0]:=by
 rw[Ag _ _ _ hj,fm hj]
def V8(L:List (List Int))(k j i:Nat):Bool:=((L.getD k []).take j).contains (i:Int)
def N4(L:List (List Int))(k j:Nat):List (List Int):=(List.range L.length).map λi=>La L k i++(if V8 L k j i=true then[(k:Int)] else[])
theorem dm(L:List (List Int))(h:Nu L=true)(k j:Nat)(hk:k<L.length)(hj:j<(L.getD k []).length) :
  (N4 L k j).set ((L.getD k []).getD j 0).toNat ((N4 L k j).getD ((L.getD k []).getD j 0).toNat []++[(k:Int)])=N4 L k (j+1):=by
 obtain⟨h1,h2,h3⟩:=mayS_iff.1 h;have hok:=h3 k hk;obtain⟨a0,a1⟩:=CW hok hj;unfold N4;rw[Pg (by omega),DU]
 apply Ho
 intro i hi
 have hnot:V8 L k j ((L.getD k []).getD j 0).toNat=false:=by
  unfold V8;rw[Tu a0]
  cases hc:((L.getD k []).take j).contains ((L.getD k []).getD j 0) with
  | false=>rfl
  | true=>
   rw[zzL68]at hc;obtain⟨m,hm,he⟩:=L5 hc
   have hm':m<j:=by simp at hm;omega
   rw[List.getElem_take]at he;have:=pm hok hm' hj;rw[Ag _ _ _ (show m<(L.getD k []).length by omega),he]at this;omega
 by_cases hi2:i=((L.getD k []).getD j 0).toNat
 ·rw[if_pos hi2,hnot]
  have:V8 L k (j+1) i=true:=by
   unfold V8;rw[ZD hj,zzL68,hi2,Tu a0]
   simp
  rw[this,hi2]
  simp
 ·rw[if_neg hi2]
  have:V8 L k (j+1) i=V8 L k j i:=by
   unfold V8;rw[ZD hj,HU,zzL68,zzL68,zzL14]
   constructor
   ·rintro(hm|hm)
    ·exact hm
    ·simp only[zzL18]at hm;exact(hi2 (by omega)).elim
   ·exact .inl
  rw[this]
theorem eS(L:List (List Int))(h:Nu L=true):Nr L=some (Es L):=by
 obtain⟨h1,h2,h3⟩:=mayS_iff.1 h
 have hroom:(1000:Nat)<=room:=by decide
 unfold Nr;rw[Ab ⟨by omega,Int.le_refl _,by omega⟩,Aq]
 have inner:∀ k,k<L.length->Ac (Gy L (k:Int)) ((0:Int),N4 L k 0)=some (N4 L k (L.getD k []).length):=λk hk=>by
  have hok:=h3 k hk;refine Dt (Gy L (k:Int)) (λj=>(((j:Nat):Int),N4 L k j)) (N4 L k (L.getD k []).length) (L.getD k []).length (λj hj=>?_) ?_
  ·obtain⟨a0,a1⟩:=CW hok hj
   have hlen:(N4 L k j).length=L.length:=by simp[N4]
   have hl64:=FC hok
   show Gy L (k:Int) (_,_)=_
   unfold Gy;simp only[Aq,B8 hj,Af];have hb:A0 ((L.getD k []).getD j 0) (N4 L k j).length:=⟨a0,by rw[hlen];exact a1⟩
   have hrow:((N4 L k j).getD ((L.getD k []).getD j 0).toNat []).length<=k+1:=by
    unfold N4;rw[Pg (by omega),Gn];have:=Yv L k ((L.getD k []).getD j 0).toNat
    split
    ·rw[GO];omega
    ·rw[List.length_nil];omega
   rw[Ab (inb hj),Ab hb,Ab hb,Ab (by simp only[GO];omega),Ab hb,dm L h k j hk hj,w1 (by omega)]
  ·show Gy L (k:Int) (_,_)=_
   unfold Gy;simp only[Aq,Ee,A2]
 have r0:∀ k,N4 L k 0=(List.range L.length).map (La L k):=λk=>by
  unfold N4
  apply Ho
  intro i _;simp[V8]
 have r1:∀ k,N4 L k (L.getD k []).length=(List.range L.length).map (La L (k+1)):=λk=>by
  unfold N4
  apply Ho
  intro i _;rw[DL];unfold V8 CK;rw[OU]
 have:Ac (Gz L) ((0:Int),(List.range L.length).map (La L 0))=some (Es L):=Dt (Gz L) (λk=>(((k:Nat):Int),(List.range L.length).map (La L k))) (Es L) L.length (λk hk=>?_) ?_
 ·have e0:(List.replicate L.length ([]:List Int))=(List.range L.length).map (La L 0):=by
   apply List.ext_getElem?
   intro i
   by_cases hi:i<L.length<;>simp[hi,List.getElem?_replicate,La]
  rw[e0,this];rfl
 ·show Gz L (_,_)=_
  unfold Gz;simp only[B8 hk,Af];rw[Ab (inb hk),<- r0,inner k hk,r1,w1 (by omega)]
  rfl
 ·show Gz L (_,_)=_
  unfold Gz;simp only[Ee,A2]
  rfl
theorem Vm{α:Type}[DecidableEq α]{a b:List α}{d:α}(h:a.length=b.length):((List.range a.length).all λi=>decide (a.getD i d=b.getD i d))=decide (a=b):=by
 rw[HU,all_range,Jm]
 constructor
 ·intro hall
  apply OV h
  intro i h1 h2;have:=MP (hall i h1);rwa[Ag _ _ _ h1,Ag _ _ _ h2]at this
 ·rintro rfl i _
  simp
theorem JC{a b:Nat}:(((a:Nat):Int)!=(b:Int))=decide (a≠b):=by
 grind
theorem bh{a b:Int}:(a !=b) = !decide (a=b):=by
 grind
theorem bt(a b:List Int)(hb:b.length<4611686018427387904):G4 a b=some (decide (a=b)):=by
 unfold G4;rw[JC]
 by_cases hl:a.length=b.length
 ·rw[C0 (by simpa using hl)];have:Ac (E4 a b) 0=_:=Hv _ (λj=>(j:Int)) (λi=>decide (a.getD i 0=b.getD i 0)) (.inl ()) (.inr false) a.length (λj hj hp=>?_) (λj hj hp=>?_) ?_
  ·rw[this,Vm hl]
   cases decide (a=b)<;>rfl
  ·unfold E4;simp only[Aq,B8 hj];rw[Ab (inb hj),Ab (inb (by omega)),bh,hp,w1 (by omega)]
   rfl
  ·unfold E4;simp only[Aq,B8 hj];rw[Ab (inb hj),Ab (inb (by omega)),bh,hp]
   rfl
  ·unfold E4;simp only[Ee,A2]
 ·rw[Cr (by simpa using hl),Af,C0 (λh=>hl (by rw[h]))]
theorem iQ(a b:List Int)(ha:a.length<4611686018427387904):En a b=some (decide (a=b)):=by
 unfold En;rw[JC]
 by_cases hl:a.length=b.length
 ·rw[C0 (by simpa using hl)];have:Ac _ (0:Int)=_:=Hv (F9 a b) (λj=>(j:Nat)) (λi=>decide (a.getD i 0=b.getD i 0)) (.inl ()) (.inr false) a.length (λj hj hp=>?_) (λj hj hp=>?_) ?_
  ·rw[this,Vm hl]
   cases decide (a=b)<;>rfl
  ·unfold F9;simp only[Aq,B8 hj];rw[Ab (inb hj),Ab (inb (by omega)),bh,hp,w1 (by omega)]
   rfl
  ·unfold F9;simp only[Aq,B8 hj];rw[Ab (inb hj),Ab (inb (by omega)),bh,hp]
   rfl
  ·unfold F9;simp only[Ee,A2]
 ·rw[Cr (by simpa using hl),Af,C0 (λh=>hl (by rw[h]))]
theorem eT(a b:List (List Int))(hb:Fits b):Do a b=some (decide (a=b)):=by
 unfold Do;rw[JC]
 by_cases hl:a.length=b.length
 ·rw[C0 (by simpa using hl)];have hb1:=hb.1;have:Ac _ (0:Int)=_:=Hv (B5 a b) (λj=>(j:Nat)) (λi=>decide (a.getD i []=b.getD i [])) (.inl ()) (.inr false) a.length (λj hj hp=>?_) (λj hj hp=>?_) ?_
  ·rw[this,Vm hl]
   cases decide (a=b)<;>rfl
  ·unfold B5;simp only[Aq,B8 hj];rw[Ab (inb hj),Ab (inb (by omega)),bt _ _ (hb.at j),hp,w1 (by omega)]
   rfl
  ·unfold B5;simp only[Aq,B8 hj];rw[Ab (inb hj),Ab (inb (by omega)),bt _ _ (hb.at j),hp]
   rfl
  ·unfold B5;simp only[Ee,A2]
 ·rw[Cr (by simpa using hl),Af,C0 (λh=>hl (by rw[h]))]
theorem Se(L:List (List Int)):(Es L).length=L.length:=by simp[Es]
theorem ab{L:List (List Int)}{i:Nat}(hi:i<L.length):(Es L).getD i []=La L L.length i:=by unfold Es;rw[Pg hi]
theorem T6{L:List (List Int)}(h:Nu L=true):(Es L).length<=64/\∀ l∈Es L,l.length<=64:=by
 obtain⟨h1,_⟩:=Ui h;refine⟨by rw[Se];exact h1,λl hl=>?_⟩;obtain⟨i,hi,rfl⟩:=zzL27.1 hl;have:=Yv L L.length i;omega
theorem U4{L:List (List Int)}(h:L.length<=64/\∀ l∈L,l.length<=64):Fits L:=uM ⟨by omega,λl hl=>by have:=h.2 l hl;omega⟩
def FO(g:TGraph):Bool:=Nu g.Succ&&decide (g.Pred=Es g.Succ)
theorem wI(g:TGraph)(h:Fits g.Succ):Vr g=some (FO g):=by
 unfold Vr FO;rw[mR _ h]
 cases hm:Nu _ with
 | false=>rfl
 | true=>
  simp only[Tc,Af,eS _ hm,Ar,eT _ _ (U4 (T6 hm)),Mx]
def K5(L:List (List Int)):TGraph:=⟨L,Es L⟩
def g0:TGraph:=⟨[],[]⟩
theorem TA{L:List (List Int)}(h:Nu L=true):FO (K5 L)=true:=by simp[FO,K5,h]
theorem pZ(l:List Int)(x:Int)(h:l.length<4611686018427387904):G9 l x=some (l.contains x):=by
 unfold G9;have:Ac _ (0:Int)=_:=Hv (G3 l x) (λj=>(j:Nat)) (λi=>!decide (l.getD i 0=x)) (.inl ()) (.inr true) l.length (λj hj hp=>?_) (λj hj hp=>?_) ?_
 ·rw[this]
  have e:l.contains x = !((List.range l.length).all λi=>!decide (l.getD i 0=x)):=by
   rw[HU,zzL68,Zq,<- Bool.not_eq_true,all_range]
   constructor
   ·intro hx hall;obtain⟨i,hi,rfl⟩:=L5 hx;have:=hall i hi;rw[Ag _ _ _ hi]at this;simp at this
   ·grind
  rw[e]
  cases(List.range _).all _<;>rfl
 ·unfold G3;simp only[Aq,B8 hj]
  have:(l.getD j 0==x)=false:=by simpa using hp
  rw[Ab (inb hj),this,w1 (by omega)]
  rfl
 ·unfold G3;simp only[Aq,B8 hj]
  have:(l.getD j 0==x)=true:=by simpa using hp
  rw[Ab (inb hj),this]
  rfl
 ·unfold G3;simp only[Ee,A2]
theorem an{X:Type}(a b:List (List Int))(f:Int->Option (LR Int (Unit ⊕ Bool)))(ha:Fits a)(hl:a.length=b.length)
  (hn:∀ i:Nat,i<a.length->f (i:Int)=(En (a.getD i []) (b.getD i [])).bind λx=>bif (!x) then some (.done (.inr false)) else some (.next (w64 ((i:Int)+1)))) (he:f (a.length:Int)=some (.done (.inl ()))) :
  Ac f (0:Int)=some (bif decide (a=b) then .inl () else .inr false):=by
 have ha1:=ha.1;have:Ac f 0=_:=Hv f (λj=>(j:Int)) (λi=>decide (a.getD i []=b.getD i [])) _ (.inr false) _ (λj hj hp=>?_) (λj hj hp=>?_) he
 ·rw[this,Vm hl]
 ·rw[hn j hj,iQ _ _ (ha.at j),hp,w1 (by omega)];rfl
 ·rw[hn j hj,iQ _ _ (ha.at j),hp];rfl
theorem xy(a b:TGraph)(h1:Fits a.Succ)(h2:Fits a.Pred):Kt a b=some (decide (a=b)):=by
 have e:decide (a=b)=(decide (a.Succ=b.Succ)&&decide (a.Pred=b.Pred)):=by
  cases a;cases b
  simp
 rw[e];unfold Kt;rw[JC,JC]
 by_cases hs:a.Succ.length=b.Succ.length
 ·by_cases hp:a.Pred.length=b.Pred.length
  ·rw[C0 (by simpa using hs), C0 (by simpa using hp)]
   have s1:=an (X:=Unit) _ _ (Iv a b) h1 hs (λi hi=>by
    unfold Iv;simp only[Aq,B8 hi,Af]
    rw[Ab (inb hi),Ab (inb (by omega))]) (by
    unfold Iv
    simp only[Ee,A2])
   have s2:=an (X:=Unit) _ _ (Iw a b) h2 hp (λi hi=>by
    unfold Iw;simp only[Aq,B8 hi,Af]
    rw[Ab (inb hi),Ab (inb (by omega))]) (by
    unfold Iw
    simp only[Ee,A2])
   rw[s1]
   cases decide (a.Succ=b.Succ) with
   | false=>rfl
   | true=>
    grind
  ·grind
 ·grind
theorem M9{R:Type}{c:Bool}{q:Prop}[Decidable q]{k:Option R}(h:q):Aw (c=true->q) k=k:=Ab λ_=>h
def oZ(n:Nat)(l:List Int)(j:Nat):Bool:=
 bif (bif decide (l.getD j 0<0) then true else decide ((n:Int)<=l.getD j 0)) then true else(bif decide ((0:Int)<(j:Int)) then decide (l.getD j 0<=l.getD (j-1) 0) else false)
theorem oa(n:Nat)(l:List Int)(j:Nat):oZ n l j = !iZ n l j:=by
 unfold oZ iZ
 by_cases h0:l.getD j 0<0
 ·grind
 ·grind
theorem OB(L:List (List Int))(i:Nat)(hi:i<L.length)(hl:(L.getD i []).length<4611686018427387904) :
  Ac (D9 L (i:Int)) (0:Int)=some (bif nK L.length (L.getD i []) then .inl () else .inr (g0,5)):=by
 have hw:∀ j:Nat,j<(L.getD i []).length->0<j->w64 (j-1)=(j-1:Nat):=λj hj hp=>by rw[Ij (by omega) (by omega)];omega
 have step:∀ j,j<(L.getD i []).length->D9 L i j=bif oZ _ _ j then some _ else some (.next ((j+1:Nat))):=λj hj=>by
  unfold D9;simp only[Aq,B8 hj];rw[Ab (inb hi),Ab (inb hi),Ab (inb hj),M9 (inb hi),M9 (inb hj),M9 (inb hi),M9 (inb hj),M9 (inb hi),w1 (by omega)]
  by_cases hz:j=0
  ·subst hz
   have:decide (0<((0:Nat):Int))=false:=by decide
   rw[this];rw[show((false==true)=false) from rfl,Bool.and_false]
   rfl
  ·rw[hw j hj (by omega),M9 (inb (by omega))]
   rfl
 have:=Hv (D9 L i) (λj=>(j:Nat)) (iZ L.length (L.getD i [])) (.inl ()) (.inr (g0,5)) (L.getD i []).length (λj hj hp=>?_) (λj hj hp=>?_) ?_
 ·exact this
 ·rw[step j hj,oa,hp];rfl
 ·rw[step j hj,oa,hp];rfl
 ·unfold D9;simp only[Aq,Ee,A2];rw[Ab (inb hi)]
theorem XZ(L:List (List Int))(h:Nu L=true):Ac (Ea L) ((0:Int),List.replicate L.length ([]:List Int))=some (Es L):=by
 obtain⟨h1,h2,h3⟩:=mayS_iff.1 h
 have hroom:(1000:Nat)<=room:=by decide
 have hfit:=U4 (Ui h)
 let R:Nat->Nat->List (List Int):=λi k=>(List.range L.length).map λj=>if j<i then La L L.length j else if j=i then La L k i else[]
 have inner:∀ i,i<L.length->Ac _ ((0:Int),R i 0)=some (R i L.length):=λi hi=>by
  refine Dt (Iu L (i:Int)) (λk=>(((k:Nat):Int),R i k)) (R i L.length) L.length (λk hk=>?_) ?_
  ·have hlen:(R i k).length=L.length:=by simp[R]
   have hat:(R i k).getD i []=La L k i:=by simp only[R];rw[Pg hi];simp
   unfold Iu;simp only[Aq,B8 hk,Af];rw[Ab (inb hk),pZ _ _ (hfit.at k),Ar,w1 (by omega)];have hg:CK L k i=(L.getD k []).contains (i:Int):=rfl;rw[<- hg,hat]
   have hs:(if CK L k i=true then(R i k).set i (La L k i++[(k:Int)]) else R i k)=R i (k+1):=by
    split
    ·rename_i hgo
     simp only[R];rw[DU]
     apply Ho
     intro j hj
     by_cases hji:j=i
     ·subst hji;simp[DL,hgo]
     ·simp[hji]
    ·rename_i hgo
     simp only[R]
     apply Ho
     intro j hj
     by_cases hji:j=i
     ·subst hji;simp[DL,hgo]
     ·simp[hji]
   rw[<- hs]
   cases hgo:CK L k i with
   | false=>rfl
   | true=>
    have:=Yv L k i;simp only[Af];rw[Ab (by rw[hlen];exact inb hi),Ab (by rw[hlen];exact inb hi),Ab (by rw[GO];omega),Ab (by rw[hlen];exact inb hi)]
    rfl
  ·unfold Iu;simp only[Ee,A2]
 have:Ac (Ea L) ((0:Int),R 0 0)=some (Es L):=Dt (Ea L) (λi=>(((i:Nat):Int),R i 0)) (Es L) L.length (λi hi=>?_) ?_
 ·have e0:List.replicate L.length ([]:List Int)=R 0 0:=by
   simp only[R]
   apply List.ext_getElem?
   intro j
   by_cases hj:j<L.length<;>simp[hj,List.getElem?_replicate,La]
  rw[e0,this]
 ·unfold Ea;simp only[B8 hi,Af];rw[inner i hi,w1 (by omega)];simp only[Ar]
  congr 3
  simp only[R]
  apply Ho
  intro j hj
  by_cases h4:j<i
  ·simp[h4,show j<i+1 by omega]
  ·by_cases h5:j=i
   ·subst h5;simp
   ·simp[h4,h5,show ¬ j<i+1 by omega];intro h6;simp[La]
 ·unfold Ea;simp only[Ee,A2]
  congr 2
  simp only[R,Es]
  apply Ho
  intro j hj;simp[hj]
theorem SX(L:List (List Int))(h:Fits L):Ie L=some (bif Nu L then(K5 L,0) else(g0,5)):=by
 have hroom:1000<=room:=by decide
 unfold Ie
 have hc:(bif (L.length==(0:Int)) then true else decide (64<(L.length:Int))) = !(decide (1<=L.length)&&decide (L.length<=64)):=by
  grind
 rw[hc];have hm:Nu L=((decide _&&decide _)&&(List.range _).all _):=rfl
 cases hb:(decide (1<=L.length)&&decide (L.length<=64)) with
 | false=>rw[hm,hb];rfl
 | true=>
  have hb':=hb;simp only[Bg,Jm]at hb';have:Ac (Gc L) 0=_:=Hv _ (λj=>(j:Int)) (λi=>nK L.length (L.getD i [])) (.inl ()) (.inr (g0,5)) L.length (λj hj hp=>?_) (λj hj hp=>?_) ?_
  ·rw[this]
   cases hall:(List.range L.length).all _ with
   | false=>rw[hm,hb,hall];rfl
   | true=>
    have hmay:Nu L=true:=by rw[hm,hb,hall];rfl
    rw[hmay];rw[Ab ⟨by omega,Int.le_refl _,by omega⟩,Aq,XZ L hmay]
    rfl
  ·unfold Gc;simp only[B8 hj];rw[OB L j hj (h.at j),hp,w1 (by omega)]
   rfl
  ·unfold Gc;simp only[B8 hj];rw[OB L j hj (h.at j),hp]
   rfl
  ·unfold Gc;simp only[Ee,A2]
theorem IZ{L:List (List Int)}(h:Nu L=true):Fits (K5 L).Succ/\Fits (K5 L).Pred:=⟨U4 (Ui h),U4 (T6 h)⟩
theorem mO(g:TGraph)(h:Fits g.Succ):Lo g=some (FO g):=by
 unfold Lo FO;rw[SX _ h,Ar]
 cases hm:Nu _ with
 | false=>rfl
 | true=>
  simp only[Af,Tc];rw[xy _ _ (IZ hm).1 (IZ hm).2];simp only[Ar]
  congr 1
  apply zzL61.2
  cases g with
  | mk s p=>
   simp only[K5,TGraph.mk.injEq,true_and];exact Wk
noncomputable section
def upd(s:Nat->Bool)(y:Nat):Nat->Bool:=λz=>decide (z=y) || s z
theorem upd_true{s:Nat->Bool}{y z:Nat}:upd s y z=true↔z=y\/s z=true:=by simp[upd]
theorem upd_false{s:Nat->Bool}{y z:Nat}:upd s y z=false↔z≠y/\s z=false:=by simp[upd]
inductive VL (S:Nat->List Nat):(Nat->Bool)->List Nat->(Nat->Bool)->List Nat->Prop
 | nil (s:Nat->Bool):VL S s [] s []
 | skip {s s':Nat->Bool} {y:Nat} {l o:List Nat} (h:s y=true) (t:VL S s l s' o):VL S s (y::l) s' o
 | step {s s1 s2:Nat->Bool} {y:Nat} {l o1 o2:List Nat} (h:s y=false) (a:VL S (upd s y) (S y) s1 o1) (b:VL S s1 l s2 o2):VL S s (y::l) s2 (o1++y::o2)
inductive Rch (S:Nat->List Nat):Nat->Nat->Prop
 | refl (x:Nat):Rch S x x
 | head {x y z:Nat} (h:y∈S x) (t:Rch S y z):Rch S x z
theorem Rch.tail{S:Nat->List Nat}{x y z:Nat}(h:Rch S x y)(hz:z∈S y):Rch S x z:=by
 induction h with
 | refl x=>exact .head hz (.refl _)
 | head h _ ih=>exact .head h (ih hz)
theorem Rch.trans{S:Nat->List Nat}{x y z:Nat}(h:Rch S x y)(k:Rch S y z):Rch S x z:=by
 induction h with
 | refl x=>exact k
 | head h _ ih=>exact .head h (ih k)
variable {S:Nat->List Nat} {s s':Nat->Bool} {l o:List Nat}
theorem VL.seen(h:VL S s l s' o)(z:Nat):s' z=true↔s z=true\/z∈o:=by
 induction h with
 | nil s=>simp
 | skip h _ ih=>exact ih
 | @step s s1 s2 y l o1 o2 h a b iha ihb=>
  rw[ihb,iha,upd_true]
  constructor
  ·grind
  ·grind
theorem VL.fresh(h:VL S s l s' o){z:Nat}(hz:z∈o):s z=false:=by
 induction h with
 | nil s=>cases hz
 | skip h _ ih=>exact ih hz
 | @step s s1 s2 y l o1 o2 h a b iha ihb=>
  rcases zzL14.1 hz with h1|h1
  ·exact(upd_false.1 (iha h1)).2
  ·rcases zzL28.1 h1 with rfl|h1
   ·exact h
   ·have:=ihb h1
    cases hs:s z with
    | false=>rfl
    | true=>rw[(a.seen z).2 (.inl (upd_true.2 (.inr hs)))]at this;cases this
theorem VL.nodup(h:VL S s l s' o):o.Nodup:=by
 induction h with
 | nil s=>exact List.nodup_nil
 | skip h _ ih=>exact ih
 | @step s s1 s2 y l o1 o2 h a b iha ihb=>
  rw[List.nodup_append];refine⟨iha,zzL109.2 ⟨λhy=>?_,ihb⟩,λu hu v hv=>?_⟩
  ·have:=b.fresh hy;rw[(a.seen y).2 (.inl (upd_true.2 (.inl rfl)))]at this
   cases this
  ·rintro rfl;rcases zzL28.1 hv with rfl|hv
   ·have:=a.fresh hu;rw[upd_true.2 (.inl rfl)]at this
    cases this
   ·have:=b.fresh hv;rw[(a.seen u).2 (.inr hu)]at this
    cases this
theorem VL.rch(h:VL S s l s' o){z:Nat}(hz:z∈o):∃ y∈l,Rch S y z:=by
 induction h with
 | nil s=>cases hz
 | skip h _ ih=>grind
 | @step s s1 s2 y l o1 o2 h a b iha ihb=>
  rcases zzL14.1 hz with h1|h1
  ·obtain⟨u,hu,hr⟩:=iha h1;exact⟨y,zzL48 ..,.head hu hr⟩
  ·rcases zzL28.1 h1 with rfl|h1
   ·exact⟨z,zzL48 ..,.refl z⟩
   ·grind
theorem VL.closed(h:VL S s l s' o):(∀ y∈l,s' y=true)/\∀ z∈o,∀ y∈S z,s' y=true:=by
 induction h with
 | nil s=>grind
 | @skip s s' y l o h t ih=>
  refine⟨λu hu=>?_,ih.2⟩;rcases zzL28.1 hu with rfl|hu
  ·exact(t.seen u).2 (.inl h)
  ·exact ih.1 u hu
 | @step s s1 s2 y l o1 o2 h a b iha ihb=>
  refine⟨λu hu=>?_,λz hz u hu=>?_⟩
  ·rcases zzL28.1 hu with rfl|hu
   ·exact(b.seen u).2 (.inl ((a.seen u).2 (.inl (upd_true.2 (.inl rfl)))))
   ·exact ihb.1 u hu
  ·rcases zzL14.1 hz with h1|h1
   ·exact(b.seen u).2 (.inl (iha.2 z h1 u hu))
   ·rcases zzL28.1 h1 with rfl|h1
    ·exact(b.seen u).2 (.inl (iha.1 u hu))
    ·exact ihb.2 z h1 u hu
theorem VL.above(h:VL S s l s' o)(hf:∀ z,∀ y∈S z,z<y){b:Nat}(hb:∀ y∈l,b<y):∀ z∈o,b<z:=by
 induction h generalizing b with
 | nil s=>intro z hz;cases hz
 | skip h _ ih=>exact ih (λy hy=>hb y (Nb _ hy))
 | @step s s1 s2 y l o1 o2 h a c iha ihb=>
  intro z hz;have hy:=hb y (zzL48 ..);rcases zzL14.1 hz with h1|h1
  ·exact iha (λu hu=>Nat.lt_trans hy (hf y u hu)) z h1
  ·rcases zzL28.1 h1 with rfl|h1
   ·exact hy
   ·exact ihb (λu hu=>hb u (Nb _ hu)) z h1
theorem VL.ahead(h:VL S s l s' o)(hf:∀ z,∀ y∈S z,z<y):∀ z∈o,∀ y∈S z,s y=true\/∃ A B,o=A++z::B/\y∈A:=by
 induction h with
 | nil s=>intro z hz;cases hz
 | skip h _ ih=>exact ih
 | @step s s1 s2 y l o1 o2 h a c iha ihb=>
  intro z hz u hu;rcases zzL14.1 hz with h1|h1
  ·have hzy :=a.above hf (λv hv=>hf y v hv) z h1;have hzu:=hf z u hu;rcases iha z h1 u hu with h2|⟨A,B,rfl,hA⟩
   ·rcases upd_true.1 h2 with rfl|h2
    ·omega
    ·exact .inl h2
   ·grind
  ·rcases zzL28.1 h1 with rfl|h1z
   ·have hzu:=hf z u hu;rcases(a.seen u).1 (a.closed.1 u hu) with h2|h2
    ·rcases upd_true.1 h2 with rfl|h2
     ·omega
     ·exact .inl h2
    ·grind
   ·rcases ihb z h1z u hu with h2|⟨A,B,rfl,hA⟩
    ·rcases(a.seen u).1 h2 with h3|h3
     ·rcases upd_true.1 h3 with rfl|h3
      ·obtain⟨P,Q,rfl⟩:=List.append_of_mem h1z;exact .inr ⟨o1++u::P,Q,by simp,by simp⟩
      ·exact .inl h3
     ·obtain⟨P,Q,rfl⟩:=List.append_of_mem h1z;exact .inr ⟨o1++y::P,Q,by simp,by simp[h3]⟩
    ·grind
def dj(n:Nat)(s:Nat->Bool):Nat:=((List.range n).filter λz=>!s z).length
theorem ER{n:Nat}{s:Nat->Bool}{y:Nat}(hy:y<n)(h:s y=false):dj n (upd s y)+1=dj n s:=by
 unfold dj
 induction n with
 | zero=>omega
 | succ n ih=>
  rw[Zr,MO,MO,Gn,Gn]
  by_cases hyn:y=n
  ·subst hyn
   have e:(List.range y).filter (λz=>!upd s y z)=(List.range y).filter (λz=>!s z):=by
    apply List.filter_congr
    intro z hz;have:=zzL37.1 hz;simp[upd,show z≠y by omega]
   rw[e];simp[upd,h]
  ·have e:([n].filter λz=>!upd s y z).length=([n].filter λz=>!s z).length:=by
    simp only[List.filter_cons, upd];simp[Pc hyn]
   omega
theorem dl{n:Nat}{s s':Nat->Bool}(h:∀ z,s z=true->s' z=true):dj n s'<=dj n s:=by
 apply List.Sublist.length_le
 have:(List.range n).filter (λz=>!s' z)=((List.range n).filter λz=>!s z).filter λz=>!s' z:=by
  rw[List.filter_filter]
  apply List.filter_congr
  intro z _
  cases hs:s z with
  | false=>simp
  | true=>simp[h z hs]
 rw[this];exact List.filter_sublist
theorem VL.exist{n:Nat}(hS:∀ z,z<n->∀ y∈S z,y<n):∀(m:Nat) (s:Nat->Bool),dj n s<=m->∀ l:List Nat,(∀ y∈l,y<n)->∃ s' o,VL S s l s' o:=by
 intro m
 induction m with
 | zero=>
  intro s hm l
  induction l with
  | nil=>intro _;exact⟨s,[],.nil s⟩
  | cons y l ih=>
   intro hl;obtain⟨s',o,h⟩:=ih (λz hz=>hl z (Nb _ hz))
   cases hy:s y with
   | true=>exact⟨s',o,.skip hy h⟩
   | false=>have:=ER (hl y (zzL48 ..)) hy;omega
 | succ m ih=>
  intro s hm l
  induction l generalizing s with
  | nil=>intro _;exact⟨s,[],.nil s⟩
  | cons y l ihl=>
   intro hl
   cases hy:s y with
   | true=>
    obtain⟨s',o,h⟩:=ihl s hm (λz hz=>hl z (Nb _ hz));exact⟨s',o,.skip hy h⟩
   | false=>
    have hyn:=hl y (zzL48 ..);have:=ER hyn hy;obtain⟨s1,o1,h1⟩:=ih (upd s y) (by omega) _ (hS y hyn);have h2:dj n s1<=dj n s:=dl λz hz=>(h1.seen z).2 (.inl (upd_true.2 (.inr hz)));obtain⟨s2,o2,h3⟩:=ihl s1 (by omega) (λz hz=>hl z (Nb _ hz));exact⟨s2,_,.step hy h1 h3⟩
def one(r:Nat):Nat->Bool:=λz=>decide (z=r)
def Ord(S:Nat->List Nat)(r:Nat)(L:List Nat):Prop:=∃ s' o,VL S (one r) (S r) s' o/\L=r::o.reverse
theorem Ord.exist{n:Nat}(hS:∀ z,z<n->∀ y∈S z,y<n){r:Nat}(hr:r<n):∃ L,Ord S r L:=by
 obtain⟨s',o,h⟩:=VL.exist hS _ _ (zzL8 _) _ (hS r hr);exact⟨_,s',o,h,rfl⟩
theorem Ord.mem{r:Nat}{L:List Nat}(h:Ord S r L)(z:Nat):z∈L↔Rch S r z:=by
 obtain⟨s',o,h,rfl⟩:=h
 have hs:∀ z,s' z=true↔z=r\/z∈o:=λz=>by rw[h.seen];simp[one]
 have hc:∀ x,s' x=true->∀ y∈S x,s' y=true:=λx hx y hy=>by
  rcases(hs x).1 hx with rfl|hx
  ·exact h.closed.1 y hy
  ·exact h.closed.2 x hx y hy
 simp only[zzL28,List.mem_reverse];rw[<- hs z]
 constructor
 ·intro hz;rcases(hs z).1 hz with rfl|hz
  ·exact .refl _
  ·obtain⟨y,hy,hr⟩:=h.rch hz;exact .head hy hr
 ·intro hr
  have key:∀ x z,Rch S x z->s' x=true->s' z=true:=by
   intro x z hxz
   induction hxz with
   | refl x=>exact id
   | head hy _ ih=>grind
  exact key r z hr ((hs r).2 (.inl rfl))
theorem Ord.nodup{r:Nat}{L:List Nat}(h:Ord S r L):L.Nodup:=by
 obtain⟨s',o,h,rfl⟩:=h;refine zzL109.2 ⟨λhr=>?_,(List.reverse_perm o).nodup_iff.2 h.nodup⟩;have:=h.fresh (List.mem_reverse.1 hr);simp[one]at this
theorem Ord.fwd{r:Nat}{L:List Nat}(h:Ord S r L)(hf:∀ z,∀ y∈S z,z<y):∀ z∈L,∀ y∈S z,∃ A B,L=A++z::B/\y∈B:=by
 obtain⟨s',o,h,rfl⟩:=h;intro z hz y hy;have hzy:=hf z y hy;rcases zzL28.1 hz with rfl|hz
 ·refine⟨[],o.reverse,rfl,?_⟩;rcases(h.seen y).1 (h.closed.1 y hy) with h1|h1
  ·simp[one]at h1;omega
  ·grind
 ·have hz:=List.mem_reverse.1 hz;have hrz :=h.above hf (λv hv=>hf r v hv) z hz;rcases h.ahead hf z hz y hy with h1|⟨A,B,rfl,hA⟩
  ·simp[one]at h1;omega
  ·grind
end
theorem mP(l:List Int)(hl:l.length<4611686018427387904):Fp l=some l.reverse:=by
 unfold Fp
 by_cases h0:l.length=0
 ·obtain rfl:l=[]:=zzL116.1 h0
  have:Ac Bl ((0:Int),(w64 ((([]:List Int).length:Int)-1)),([]:List Int))=some []:=by
   apply An
   unfold Bl;rw[Ij (by simp) (by simp)]
   rfl
  rw[this];rfl
 ·have hw:w64 ((l.length:Int)-1)=((l.length-1:Nat):Int):=by rw[Ij (by omega) (by omega)];omega
  rw[hw]
  let C:Nat->List Int:=λk=>(List.range l.length).map λi=>if i<k\/l.length-1-k<i then l.getD (l.length-1-i) 0 else l.getD i 0
  have hC:∀ k i,i<l.length->(C k).getD i 0=if i<k\/l.length-1-k<i then l.getD (l.length-1-i) 0 else l.getD i 0:=λk i hi=>by simp only[C];rw[Pg hi]
  have hlen:∀ k,(C k).length=l.length:=λk=>by simp[C]
  have:=Dt Bl (λk=>(((k:Nat):Int),((l.length-1-k:Nat):Int),C k)) l.reverse (l.length / 2) (λk hk=>?_) ?_
  ·have e0:C 0=l:=by
    apply OV (by simp[C])
    intro i h1 h2;have:=hC 0 i h2;rw[Ag _ _ _ h1,Ag _ _ _ h2]at this;rw[this,if_neg (by omega)]
   have this':Ac Bl ((0:Int),((l.length-1:Nat):Int),l)=some l.reverse:=by
    have h2:=this;simp only[e0]at h2;exact h2
   rw[this'];rfl
  ·show Bl (_,_,_)=_
   unfold Bl
   have hlt:k<l.length-1-k:=by omega
   simp only[B8 hlt,Af,Aq];rw[Ab (inb (by rw[hlen];omega)),Ab (inb (by rw[hlen];omega)),Ab (inb (by rw[hlen];omega)),Ab (inb (by rw[hlen];omega))];rw[w1 (by omega),show w64 (((l.length-1-k:Nat):Int)-1)=((l.length-1-(k+1):Nat):Int) by rw[Ij (by omega) (by omega)];omega]
   congr 4
   rw[hC k _ (by omega),hC k _ (by omega),if_neg (by omega),if_neg (by omega)];simp only[C];rw[DU,DU]
   apply Ho
   intro i hi
   by_cases h1:i=k
   ·subst h1;rw[if_neg (by omega),if_pos rfl,if_pos (by omega)]
   ·by_cases h2:i=l.length-1-k
    ·subst h2;rw[if_pos rfl,if_pos (by omega)]
     congr 1;omega
    ·rw[if_neg h2,if_neg h1]
     by_cases h3:i<k\/l.length-1-k<i
     ·rw[if_pos h3,if_pos (by omega)]
     ·rw[if_neg h3,if_neg (by omega)]
  ·show Bl (_,_,_)=_
   unfold Bl;have hd:decide (((l.length / 2:Nat):Int)<((l.length-1-l.length / 2:Nat):Int))=false:=C0 (by omega);simp only[hd,A2]
   congr 2
   apply OV (by simp[C])
   intro i h1 h2
   have h3:i<l.length:=by simpa [C] using h1
   have:=hC (l.length / 2) i h3;rw[Ag _ _ _ h1]at this;rw[this,List.getElem_reverse]
   split
   ·rw[Ag _ _ _ (by omega)]
   ·rw[Ag _ _ _ h3]
    congr 1;omega
theorem top{st:List Int}{a:Int}(h:st.length<4611686018427387904):(st++[a]).getD (w64 (((st++[a]).length:Int)-1)).toNat 0=a:=by
 have:w64 ((st++[a]).length-1)=(st.length:Int):=by rw[Gn,GO,Ij (by omega) (by omega)];omega
 rw[this];simp[List.getD]
theorem Abb{st:List Int}{a:Int}(h:st.length<4611686018427387904):w64 (((st++[a]).length:Int)-1)=((st.length:Nat):Int):=by
 rw[Gn,GO,Ij (by omega) (by omega)];omega
theorem sM{g:TGraph}{R:List Bool}{st T:List Int}{a:Nat}(hst:st.length<64)(ha:a<g.Succ.length)(h64:g.Succ.length<=64)(ht:T.getD a 0=((g.Succ.getD a []).length:Int)) :
  Jo g R (st++[(a:Int)]) T=some (.done (.inl T)):=by
 unfold Jo;simp only[top (st:=st)  (by omega),Aq];rw[Ab (inb (by omega)),Ab (inb ha),ht,Ee,A2]
theorem ju{g:TGraph}{R:List Bool}{st T:List Int}{a t y:Nat}(hst:st.length<64)(ha:a<g.Succ.length)(h64:g.Succ.length<=64)(ht:T.getD a 0=(t:Int))(htl:t<(g.Succ.getD a []).length)(htm:t<64)
  (hy:(g.Succ.getD a []).getD t 0=(y:Int)) (hyn:y<g.Succ.length) :
  Jo g R (st++[(a:Int)]) T=bif R.getD y false then some (.next (Qj 64 (0:Int) T a ((t+1:Nat):Int))) else some (.done (.inr (Qj 64 false R y true,Qj 64 (0:Int) T a ((t+1:Nat):Int),(st++[(a:Int)])++[(y:Int)]))):=by
 have hroom:1000<=room:=by decide
 unfold Jo;simp only[top (st:=st)  (by omega),Aq,ht,hy];rw[Ab (inb (by omega)),Ab (inb ha),B8 htl, Ab (inb ha),Ab (inb (by omega)),Ab (inb htl),Ab (inb (by omega)),Ab (inb (by omega)),Ab (inb (by omega)),w1 (by omega)]
 cases R.getD y _ with
 | true=>rfl
 | false=>
  simp only[K2,Af,A2];rw[Ab (inb (by omega)),Ab (by grind)]
theorem jt{g:TGraph}{R:List Bool}{st T Lf:List Int}{a:Nat}(hst:st.length<64)(hLf:Lf.length<64) :
  E1 g (R,T,st++[(a:Int)],Lf)=(Ac (Jo g R (st++[(a:Int)])) T).bind λx=>match x with
   | .inl T'=>if st=[] then some (.done (Lf++[(a:Int)]).reverse) else some (.next (R,T',st,Lf++[(a:Int)]))
   | .inr (R',T',st')=>some (.next (R',T',st',Lf)):=by
 have hroom:1000<=room:=by decide
 unfold E1;simp only
 have hb:A0 (w64 ((st++[(a:Int)]).length-1)) (st++[(a:Int)]).length:=by rw[Abb (by omega)];exact inb (by simp)
 rw[Ab hb]
 congr 1
 funext x
 cases x with
 | inr y =>  rfl
 | inl T'=>
  simp only[top (st:=st)  (by omega)];rw[Abb (by omega),Aq,Ab (by grind),Ab ⟨by omega,by simp⟩];have e:(st++[(a:Int)]).take _=st:=List.take_left' rfl;rw[e]
  cases st with
  | nil=>
   rw[if_pos rfl]
   have:decide (0<(([]:List Int).length:Int))=false:=by decide
   rw[this,A2,mP _ (by simp;omega)];simp only[Ar];rw[Ab (by simp)]
  | cons b st'=>
   simp_all
theorem iO{S X:Type}{f:S->Option (LR S X)}{a b:S}(h:f a=f b):Ac f a=Ac f b:=by
 cases hb:f b with
 | none=>rw[R5 (h.trans hb),R5 hb]
 | some r=>cases r with
  | done x=>rw[An (h.trans hb),An hb]
  | next s=>rw[Au (h.trans hb),Au hb]
theorem OG{S X:Type}{f:S->Option (LR S X)}{s:S}:N6 (f s) f=Ac f s:=by
 cases hb:f s with
 | none=>rw[R5 hb];rfl
 | some r=>cases r with
  | done x=>rw[An hb];rfl
  | next s'=>rw[Au hb];rfl
def sN(L:List (List Int))(k:Nat):List Nat:=(L.getD k []).map Int.toNat
def RelS(R:List Bool)(s:Nat->Bool):Prop:=∀ z,z<64->R.getD z false=s z
theorem T9{α:Type}{d:α}{l:List α}{i:Nat}{x:α}{k:Nat}(hk:k<64):(Qj 64 d l i x).getD k d=if k=i then x else l.getD k d:=by
 rw[ao hk]
 by_cases h:k=i
 · simp
 ·have:Nat.beq k i=false:=by cases hb:Nat.beq k i with|false=>rfl|true=>simp_all
  rw[this,if_neg h];rfl
theorem RelS.set{R:List Bool}{s:Nat->Bool}(h:RelS R s){y:Nat}:RelS (Qj 64 false R y true) (upd s y):=λz hz=>by
 rw[T9 hz,h z hz]
 by_cases hzy:z=y
 ·simp[upd]
 ·simp[upd]
def Wq(o:List Nat):List Int:=o.map Int.ofNat
theorem ij{g:TGraph}(hm:Nu g.Succ=true){s s':Nat->Bool}{l o:List Nat}(hv:VL (sN g.Succ) s l s' o) :
  ∀(R:List Bool) (T st Lf:List Int) (a t:Nat),RelS R s->a<g.Succ.length->l=(sN g.Succ a).drop t->T.getD a 0=(t:Int)->t<=(sN g.Succ a).length->s a=true->(∀ z,z<64->s z=false->T.getD z 0=0)->
   Lf.length+dj 64 s+st.length+1<=64->
   ∃(R':List Bool) (T':List Int),RelS R' s'/\(∀ z,z<64->s' z=false->T'.getD z 0=0)/\(∀ z,z<64->s z=true->z≠a->T'.getD z 0=T.getD z 0)/\Lf.length+o.length+dj 64 s'+st.length+1<=64 /\
    Ac (E1 g) (R,T,st++[(a:Int)],Lf)=if st=[] then some (Lf++Wq o++[(a:Int)]).reverse else Ac (E1 g) (R',T',st,Lf++Wq o++[(a:Int)]):=by
 obtain⟨hL1,hL64,hLok⟩:=mayS_iff.1 hm
 have hlenS:∀ a,(sN g.Succ a).length=(g.Succ.getD a []).length:=λa=>by simp[sN]
 have hdrop:∀(a t y:Nat) (l':List Nat),a<g.Succ.length->y::l'=(sN g.Succ a).drop t->t<(g.Succ.getD a []).length/\(g.Succ.getD a []).getD t 0=(y:Int)/\y<g.Succ.length/\l'=(sN g.Succ a).drop (t+1):=λa t y l' ha he=>by
  have ht:t<(sN g.Succ a).length:=by
   rcases zzL134 t (sN g.Succ a).length with h|h
   ·exact h
   ·rw[List.drop_eq_nil_of_le h]at he;cases he
  rw[OQ ht]at he;simp only[Dh]at he;obtain⟨h1,h2⟩:=he
  have ht':t<(g.Succ.getD a []).length:=by rw[<- hlenS];exact ht
  obtain⟨b0,b1⟩:=CW (hLok a ha) ht'
  have h3:(sN g.Succ a)[t]=((g.Succ.getD a []).getD t 0).toNat:=by rw[Ag _ _ _ ht'];simp[sN]
  exact⟨ht',by omega,by omega,h2⟩
 induction hv with
 | nil s=>
  intro R T st Lf a t hR ha hl hT htl hsa hz hc
  have ht:t=(g.Succ.getD a []).length:=by
   have:=Bx List.length hl;simp at this;rw[hlenS]at htl this;omega
  refine⟨R,T,hR,hz,λ_ _ _ _=>rfl,by simpa using hc,?_⟩
  have hF:E1 g (R,T,st++[(a:Int)],Lf)=if st=[] then some (.done (Lf++[(a:Int)]).reverse) else some (.next (R,T,st,Lf++[(a:Int)])):=by
   rw[jt (by omega) (by omega),An (sM (by omega) ha hL64 (by rw[hT,ht]))]
   rfl
  by_cases hst:st=[]
  ·rw[if_pos hst]at hF ⊢;rw[An hF];simp[Wq]
  ·rw[if_neg hst]at hF ⊢;rw[Au hF];simp[Wq]
 | @skip s s' y l o h tl ih=>
  intro R T st Lf a t hR ha hl hT htl hsa hz hc;obtain⟨h1,h2,h3,h4⟩:=hdrop a t y l ha hl;have hb:=FC (hLok a ha);have hs:=ju (g:=g) (R:=R) (st:=st) (T:=T) (a:=a) (t:=t) (y:=y) (by omega) ha hL64 hT h1 (by omega) h2 h3;rw[hR y (by omega),h,Af]at hs;obtain⟨R',T',a1,a2,a3,a4,a5⟩:=ih R (Qj 64 (0:Int) T a ((t+1:Nat):Int)) st Lf a (t+1) hR ha h4 (by rw[T9 (by omega),if_pos rfl]) (by rw[hlenS];omega) hsa
   (λz hz1 hz2=>by rw[T9 hz1,if_neg (by rintro rfl;rw[hsa]at hz2;cases hz2)];exact hz z hz1 hz2) hc
  refine⟨R',T',a1,a2,λz hz1 hz2 hz3=>by rw[a3 z hz1 hz2 hz3,T9 hz1,if_neg hz3],a4,?_⟩;rw[<- a5]
  apply iO
  rw[jt (by omega) (by omega),jt (by omega) (by omega),Au hs]
 | @step s s1 s2 y l o1 o2 h tl tr ih1 ih2=>
  intro R T st Lf a t hR ha hl hT htl hsa hz hc;obtain⟨h1,h2,h3,h4⟩:=hdrop a t y l ha hl;have hb:=FC (hLok a ha)
  have hay:y≠a:=by rintro rfl;rw[hsa]at h;cases h
  have hs:=ju (g:=g) (R:=R) (st:=st) (T:=T) (a:=a) (t:=t) (y:=y) (by omega) ha hL64 hT h1 (by omega) h2 h3;rw[hR y (by omega),h,A2]at hs;have hcu:=ER (n:=64) (show y<64 by omega) h
  have hF:E1 g (R,T,st++[(a:Int)],Lf)=some (.next (Qj 64 false R y true,Qj 64 (0:Int) T a ((t+1:Nat):Int),(st++[(a:Int)])++[(y:Int)],Lf)):=by
   rw[jt (by omega) (by omega),An hs]
   rfl
  obtain⟨R1,T1,b1,b2,b3,b4,b5⟩:=ih1 (Qj 64 false R y true) (Qj 64 (0:Int) T a ((t+1:Nat):Int)) (st++[(a:Int)]) Lf y 0 hR.set h3 (by simp)
   (by rw[T9 (by omega),if_neg hay];exact hz y (by omega) h) (L6 _) (upd_true.2 (.inl rfl))
   (λz hz1 hz2=>by
    obtain⟨c1,c2⟩:=upd_false.1 hz2;rw[T9 hz1,if_neg (by rintro rfl;rw[hsa]at c2;cases c2)]
    exact hz z hz1 c2) (by rw[Gn,GO];omega)
  rw[if_neg (by simp)]at b5
  have hTa:T1.getD a 0=((t+1:Nat):Int):=by rw[b3 a (by omega) (upd_true.2 (.inr hsa)) (Pc hay),T9 (by omega),if_pos rfl]
  rw[Gn,GO]at b4;obtain⟨R2,T2,c1,c2,c3,c4,c5⟩:=ih2 R1 T1 st (Lf++Wq o1++[(y:Int)]) a (t+1) b1 ha h4 hTa (by rw[hlenS];omega) ((tl.seen a).2 (.inl (upd_true.2 (.inr hsa)))) b2
   (by simp only[Gn,GO,Wq,Xh];omega)
  refine⟨R2,T2,c1,c2,λz hz1 hz2 hz3=>?_,?_,?_⟩
  ·rw[c3 z hz1 ((tl.seen z).2 (.inl (upd_true.2 (.inr hz2)))) hz3,b3 z hz1 (upd_true.2 (.inr hz2)) (by rintro rfl;rw[h]at hz2;cases hz2),T9 hz1,if_neg hz3]
  ·simp only[Gn,GO,Wq,Xh,GQ]at c4 ⊢;omega
  ·rw[Au hF,b5,c5]
   have e:Lf++Wq o1++[(y:Int)]++Wq o2++[(a:Int)]=Lf++Wq (o1++y::o2)++[(a:Int)]:=by simp[Wq]
   rw[e]
theorem Zm{L:List (List Int)}(h:Nu L=true):∀ z,z<L.length->∀ y∈sN L z,y<L.length:=λz hz y hy=>by
 obtain⟨_,_,h3⟩:=mayS_iff.1 h;obtain⟨x,hx,rfl⟩:=zzL27.1 hy;have:=b8 (h3 z hz) hx;omega
theorem uG{r:Nat}(hr:r<64):dj 64 (one r)=63:=by
 have h:=ER  (s:=λ_=>false) hr rfl
 have e:upd (λ_=>false) r=one r:=by funext z;simp[upd,one]
 rw[e]at h
 have:dj 64 (λ_=>false)=64:=by decide
 omega
theorem JW{α:Type}{n z:Nat}{d:α}:(List.replicate n d).getD z d=d:=by grind
theorem bv(g:TGraph)(h:Fits g.Succ)(hP:True)(r:Int) :
  (FO g=true->0<=r->r<(g.Succ.length:Int)->∀ L,Ord (sN g.Succ) r.toNat L->K8 g r=some (Wq L)) /\
  ((FO g&&(decide (0<=r)&&decide (r<(g.Succ.length:Int))))=false->K8 g r=some []):=by
 refine⟨λhm h0 h1 L hL=>?_,λhf=>?_⟩
 ·have hms:Nu g.Succ=true:=by unfold FO at hm;exact(Bg _ _▸hm).1
  obtain⟨hL1,hL64,hLok⟩:=mayS_iff.1 hms;obtain⟨s',o,hv,rfl⟩:=hL;have hrn :=Tu h0
  have hr:r.toNat<g.Succ.length:=by omega
  obtain⟨R',T',_,_,_,_,hmain⟩:=ij hms hv (Qj 64 false (List.replicate 64 false) r.toNat true) _ [] [] r.toNat 0
   (λz hz=>by rw[T9 hz,JW];by_cases hzr:z=r.toNat<;>simp[one,hzr]) hr (by simp) JW (L6 _) (by simp[one])
   (λz hz _=>JW) (by rw[uG (by omega)];simp)
  rw[if_pos rfl,hrn]at hmain;unfold K8;rw[wI _ h,hm,Ar];simp only[D3,Tc,Af,A2,W0,Cr h0,Cr h1,VH,Ar];rw[Ab ⟨h0,by omega⟩];have hF:∀ X,Ac (E1 g) (Qj 64 false (List.replicate 64 false) r.toNat true,List.replicate 64 (0:Int),[]++[r],[])=some X->
    (N6 _ (E1 g)).bind (λx=>some x)=some X:=λX hX=>by
   rw[OG];rw[hX];rfl
  refine(hF _ hmain).trans ?_;simp only[Tv,List.reverse_append,Wq,C1,List.map_reverse,List.reverse_cons,List.reverse_nil]
  simp
  omega
 ·unfold K8;rw[wI _ h,Ar]
  cases hm:FO g with
  | false=>rfl
  | true=>
   rw[hm,Mx]at hf;simp only[D3,Tc,Af,A2,W0,hf,Ar,K2]
   rfl
def RelN(n:Nat)(R:List Bool)(s:Nat->Bool):Prop:=R.length=n/\∀ z,z<n->R.getD z false=s z
theorem RelN.set{n:Nat}{R:List Bool}{s:Nat->Bool}(h:RelN n R s){y:Nat}(hy:y<n):RelN n (R.set y true) (upd s y):=by
 refine⟨by rw[Cm];exact h.1,λz hz=>?_⟩;rw[KD,List.getElem?_set]
 by_cases hzy:y=z
 ·subst hzy;simp[upd,h.1,hy]
 ·rw[if_neg hzy,<- KD,h.2 z hz];simp[upd,Pc hzy]
theorem Uj:∀(n:Nat) (l:List Nat),l.Nodup->(∀ x∈l,x<n)->l.length<=n
 | 0,l,_,h=>by
  cases l with
  | nil=>simp
  | cons x l=>have:=h x (zzL48 ..);omega
 | n+1,l,hd,h=>by
  by_cases hn:n∈l
  ·have h1:=Uj n _ (hd.erase n) λx hx=>by
    grind
   rw[List.length_erase_of_mem hn]at h1;omega
  ·have h1:=Uj n l hd λx hx=>by
    grind
   omega
theorem UQ:∀{a b:List Int},a.Pairwise (·<·)->b.Pairwise (·<·)->(∀ x,x∈a↔x∈b)->a=b
 | [],[],_,_,_=>rfl
 | [],y::b,_,_,h=>by have:=(h y).2 (zzL48 ..);cases this
 | x::a,[],_,_,h=>by have:=(h x).1 (zzL48 ..);cases this
 | x::a,y::b,ha,hb,h=>by
  have ha':=zzL94.1 ha;have hb':=zzL94.1 hb
  have hxy:x=y:=by
   rcases zzL28.1 ((h x).1 (zzL48 ..)) with h1|h1
   ·exact h1
   ·rcases zzL28.1 ((h y).2 (zzL48 ..)) with h2|h2
    ·exact h2.symm
    ·grind
  congr 1
  refine UQ ha'.2 hb'.2 λz=>⟨λhz=>?_,λhz=>?_⟩
  ·grind
  ·grind
theorem d8(p:Nat->Bool)(n:Nat):(((List.range n).filter p).map Int.ofNat).Pairwise (·<·):=by
 rw[List.pairwise_map];have:=(List.pairwise_lt_range (n:=n)).filter p
 exact this.imp λh=>by simpa using h
theorem eY{p:Nat->Bool}{n:Nat}{x:Int}:x∈((List.range n).filter p).map Int.ofNat↔∃ k:Nat,x=(k:Int)/\k<n/\p k=true:=by
 grind
theorem pK{L:List (List Int)}{k i:Nat}:CK L k i=true↔(i:Int)∈L.getD k []:=by unfold CK;rw[zzL68]
theorem od{b:Bool}{α:Type}{x:α}:(bif b then x else x)=x:=by cases b<;>rfl
theorem iV{L:List (List Int)}(h:Nu L=true){x y:Nat}(hx:x<L.length):y∈sN L x↔(y:Int)∈L.getD x []:=by
 obtain⟨_,_,h3⟩:=mayS_iff.1 h;unfold sN;rw[zzL27]
 constructor
 ·rintro⟨z,hz,rfl⟩;have:=b8 (h3 x hx) hz;rw[Tu this.1];exact hz
 ·grind
def mk(o:List Bool)(l:List Nat):List Bool:=l.foldl (λo y=>o.set y true) o
theorem iW(l:List Nat):∀ o:List Bool,(mk o l).length=o.length:=by
 induction l with
 | nil=>intro o;rfl
 | cons y l ih=>intro o;show(mk _ l).length=_;rw[ih,Cm]
theorem mk_at{n:Nat}(l:List Nat):∀(o:List Bool),o.length=n->(∀ y∈l,y<n)->∀ z,(mk o l).getD z false=true↔o.getD z false=true\/z∈l:=by
 induction l with
 | nil =>  simp[mk]
 | cons y l ih=>
  intro o ho hl z
  show(mk _ l).getD z _=true↔_
  rw[ih _ (by grind) (λu hu=>hl u (Nb _ hu)) z]
  have e:(o.set y true).getD z false=true↔o.getD z false=true\/z=y:=by
   grind
  rw[e,zzL28]
  constructor
  ·grind
  ·rintro(h|h|h)
   ·exact .inl (.inl h)
   ·exact .inl (.inr h)
   ·exact .inr h
def sw(S:Nat->List Nat)(o:List Bool):Nat->List Bool
 | 0=>o
 | i+1=>if(sw S o i).getD i false=true then mk (sw S o i) (S i) else sw S o i
def JR(S:Nat->List Nat)(n:Nat)(o:List Bool):Nat->List Bool
 | 0=>o
 | j+1=>sw S (JR S n o j) n
section
variable {S:Nat->List Nat} {n:Nat} (hS:∀ z,z<n->∀ y∈S z,y<n)
theorem sw_len(o:List Bool):∀ i,(sw S o i).length=o.length:=by
 intro i
 induction i with
 | zero=>rfl
 | succ i ih=>unfold sw;split;rw[iW,ih];exact ih
theorem Yw(o:List Bool):∀ j,(JR S n o j).length=o.length:=by
 intro j
 induction j with
 | zero=>rfl
 | succ j ih=>unfold JR;rw[sw_len,ih]
include hS
theorem QU{o:List Bool}(ho:o.length=n):∀ i,i<=n->∀ z,o.getD z false=true->(sw S o i).getD z false=true:=by
 intro i
 induction i with
 | zero=>intro _ z h;exact h
 | succ i ih=>
  intro hi z h;unfold sw
  split
  ·exact(mk_at  _ _ (by rw[sw_len];exact ho) (hS i (by omega)) z).2 (.inl (ih (by omega) z h))
  ·exact ih (by omega) z h
theorem qe{o:List Bool}{r:Nat}(ho:o.length=n)(h:∀ z,o.getD z false=true->Rch S r z):∀ i,i<=n->∀ z,(sw S o i).getD z false=true->Rch S r z:=by
 intro i
 induction i with
 | zero=>intro _ z hz;exact h z hz
 | succ i ih=>
  intro hi z hz;unfold sw at hz
  split at hz
  ·rename_i hsi
   rcases(mk_at  _ _ (by rw[sw_len];exact ho) (hS i (by omega)) z).1 hz with h1|h1
   ·exact ih (by omega) z h1
   ·exact(ih (by omega) i hsi).tail h1
  ·exact ih (by omega) z hz
theorem vU{o:List Bool}(ho:o.length=n):∀ i,i<=n->∀ j,j<i->o.getD j false=true->∀ y∈S j,(sw S o i).getD y false=true:=by
 intro i
 induction i with
 | zero =>  omega
 | succ i ih=>
  intro hi j hj hoj y hy;unfold sw
  by_cases hji:j=i
  ·subst hji;have h1:=QU hS ho j (by omega) j hoj;rw[if_pos h1];exact(mk_at  _ _ (by rw[sw_len];exact ho) (hS j (by omega)) y).2 (.inr hy)
  ·have h1:=ih (by omega) j (by omega) hoj y hy
   split
   ·exact(mk_at  _ _ (by rw[sw_len];exact ho) (hS i (by omega)) y).2 (.inl h1)
   ·exact h1
theorem m6{o:List Bool}(ho:o.length=n)(hc:∀ j,j<n->o.getD j false=true->∀ y∈S j,o.getD y false=true):∀ i,i<=n->∀ z,(sw S o i).getD z false=true->o.getD z false=true:=by
 intro i
 induction i with
 | zero=>intro _ z h;exact h
 | succ i ih=>
  intro hi z hz;unfold sw at hz
  split at hz
  ·rcases(mk_at  _ _ (by rw[sw_len];exact ho) (hS i (by omega)) z).1 hz with h1|h1
   ·exact ih (by omega) z h1
   ·grind
  ·exact ih (by omega) z hz
theorem JS{r:Nat}(hr:r<n)(z:Nat):(JR S n ((List.replicate n false).set r true) n).getD z false=true↔Rch S r z:=by
 let o0:=(List.replicate n false).set r true
 have ho0:o0.length=n:=by simp[o0]
 have hat0:∀ z,o0.getD z false=true↔z=r:=λz=>by
  grind
 have hlen:∀ j,(JR S n o0 j).length=n:=λj=>by rw[Yw,ho0]
 have hsound:∀ j z,(JR S n o0 j).getD z false=true->Rch S r z:=by
  intro j
  induction j with
  | zero=>intro z hz;rw[(hat0 z).1 hz];exact .refl _
  | succ j ih=>intro z hz;exact qe hS (hlen j) ih n (zzL8 _) z hz
 have hmono:∀ j,∀ z,o0.getD z false=true->(JR S n o0 j).getD z false=true:=by
  intro j
  induction j with
  | zero=>intro z h;exact h
  | succ j ih=>intro z h;exact QU hS (hlen j) n (zzL8 _) z (ih z h)
 let C:Nat->Prop:=λj=>∀ i,i<n->(JR S n o0 j).getD i false=true->∀ y∈S i,(JR S n o0 j).getD y false=true
 have key:∀ j,C j\/dj n (λz=>(JR S n o0 j).getD z false)+j+1<=n:=by
  intro j
  induction j with
  | zero=>
   refine .inr ?_;have h1:=ER (n:=n) (s:=λ_=>false) hr rfl
   have e:upd (λ_=>false) r=λz=>(JR S n o0 0).getD z false:=by
    funext z
    rw[HU,upd_true]
    show _↔o0.getD z false=true
    rw[hat0]
    simp
   rw[e]at h1
   have hcl:dj n (λ_=>false)=n:=by
    unfold dj;rw[List.filter_eq_self.2 (by simp)]
    simp
   omega
  | succ j ih=>
   by_cases hc:C j
   ·refine .inl λi hi h y hy=>?_;have h1:=m6 hS (hlen j) hc n (zzL8 _) i h;exact QU hS (hlen j) n (zzL8 _) y (hc i hi h1 y hy)
   ·rcases ih with ih|ih
    ·exact(hc ih).elim
    ·refine .inr ?_
     have hex:∃ i,i<n/\(JR S n o0 j).getD i false=true/\∃ y,y∈S i/\(JR S n o0 j).getD y false=false:=by
      grind
     obtain⟨i,hi,h1,y,hy,h2⟩:=hex;have h3:=vU hS (hlen j) n (zzL8 _) i hi h1 y hy;have hyn:=hS i hi y hy;have h4:=ER (n:=n) (s:=λz=>(JR S n o0 j).getD z false) hyn h2
     have h5:dj n (λz=>(JR S n o0 (j+1)).getD z false)<=dj n (upd (λz=>(JR S n o0 j).getD z false) y):=dl λz hz=>by
      rcases upd_true.1 hz with rfl|hz
      ·exact h3
      ·exact QU hS (hlen j) n (zzL8 _) z hz
     omega
 constructor
 ·exact hsound n z
 ·intro hrch
  have hlt:∀ x z,Rch S x z->x<n->z<n/\((JR S n o0 n).getD x false=true->(JR S n o0 n).getD z false=true):=by
   intro x z hxz
   induction hxz with
   | refl x=>exact λhx=>⟨hx,id⟩
   | @head x y z hy _ ih=>
    grind
  exact(hlt r z hrch hr).2 (hmono n r ((hat0 r).2 rfl))
end
theorem uY{L:List (List Int)}(hm:Nu L=true){r:Nat}(hr:r<L.length) :
  C3 (K5 L) (r:Int) (-1:Int)=some (JR (sN L) L.length ((List.replicate L.length false).set r true) L.length):=by
 obtain⟨h1,h2,h3⟩:=mayS_iff.1 hm
 have hroom:(1000:Nat)<=room:=by decide
 have hS:=Zm hm;have hgs:(K5 L).Succ=L:=rfl
 have hlenS:∀ a,(sN L a).length=(L.getD a []).length:=λa=>by simp[sN]
 have hin:∀(o:List Bool) (i:Nat),o.length=L.length->i<L.length->Ac (A5 (K5 L) (-1) (i:Int)) ((0:Int),o)=some (if o.getD i false=true then mk o (sN L i) else o):=λo i ho hi=>by
  have hb:=FC (h3 i hi)
  by_cases hoi:o.getD i false=true
  ·rw[if_pos hoi];have hmi:∀ k,(mk o ((sN L i).take k)).getD i false=true:=λk=>(mk_at (n:=L.length) _ _ ho (λy hy=>hS i hi y (List.mem_of_mem_take hy)) i).2 (.inl hoi)
   have hml:∀ k,(mk o ((sN L i).take k)).length=L.length:=λk=>by rw[iW,ho]
   refine Dt (A5 (K5 L) (-1) (i:Int)) (λk=>(((k:Nat):Int),mk o ((sN L i).take k))) _ (L.getD i []).length (λk hk=>?_) ?_
   ·unfold A5;obtain⟨a0,a1⟩:=CW (h3 i hi) hk;simp only[hgs,Aq,hmi];rw[Ab (inb (by rw[hml];exact hi)),M9 (inb hi),Af,B8 hk,Af,Ab (inb hi),Ab (inb hk)]
    have hne:((L.getD i []).getD k 0 !=(-1:Int))=true:=by rw[zzL88];omega
    rw[hne,Af,Ab (inb hi),Ab (inb hk),Ab ⟨a0,by rw[hml];exact a1⟩,w1 (by omega)]
    have e:mk o ((sN L i).take (k+1))=(mk o ((sN L i).take k)).set ((L.getD i []).getD k 0).toNat true:=by
     have hk':k<(sN L i).length:=by rw[hlenS];exact hk
     rw[fm hk'];unfold mk;rw[List.foldl_append]
     have:(sN L i)[k]=((L.getD i []).getD k 0).toNat:=by rw[Ag _ _ _ hk];simp[sN]
     rw[this]
     rfl
    rw[e]
    rfl
   ·unfold A5;simp only[hgs,Aq,hmi];rw[Ab (inb (by rw[hml];exact hi)),M9 (inb hi),Af,Ee,A2]
    have:(sN L i).take (L.getD i []).length=sN L i:=by rw[<- hlenS];exact OU ..
    rw[this]
  ·have hof:o.getD i false=false:=by simpa using hoi
   rw[if_neg hoi]
   apply An
   unfold A5;simp only[hgs,Aq,hof];rw[Ab (inb (by rw[ho];exact hi)),M9 (inb hi),A2,A2]
 have hsw:∀ o:List Bool,o.length=L.length->Ac (A6 (K5 L) (-1)) ((0:Int),o)=some (sw (sN L) o L.length):=λo ho=>by
  refine Dt (A6 (K5 L) (-1)) (λi=>(((i:Nat):Int),sw (sN L) o i)) _ L.length (λi hi=>?_) ?_
  ·show A6 (K5 L) (-1) (_,_)=_
   unfold A6
   have hl:(sw (sN L) o i).length=L.length:=by rw[sw_len,ho]
   simp only[hl,B8 hi,Af];rw[hin _ i hl hi,w1 (by omega)]
   rfl
  ·show A6 (K5 L) (-1) (_,_)=_
   unfold A6
   have hl:(sw (sN L) o L.length).length=L.length:=by rw[sw_len,ho]
   simp only[hl,Ee,A2]
 unfold C3;simp only[hgs,Aq];rw[Ab ⟨by omega,Int.le_refl _,by omega⟩]
 have hne:((r:Int)==(-1:Int))=false:=by rw[zzL40];omega
 rw[hne,A2,Ab (inb (by simpa using hr))]
 have hl0:((List.replicate L.length false).set r true).length=L.length:=by simp
 have:Ac (A7 (K5 L) (-1)) ((0:Int),(List.replicate L.length false).set r true)=some (JR (sN L) L.length ((List.replicate L.length false).set r true) L.length):=by
  refine Dt (A7 (K5 L) (-1)) (λj=>(((j:Nat):Int),JR (sN L) L.length ((List.replicate L.length false).set r true) j)) _ L.length (λj hj=>?_) ?_
  ·show A7 (K5 L) (-1) (_,_)=_
   unfold A7
   have hl:(JR (sN L) L.length ((List.replicate L.length false).set r true) j).length=L.length:=by rw[Yw,hl0]
   simp only[hl,B8 hj,Af];rw[hsw _ hl,w1 (by omega)]
   rfl
  ·show A7 (K5 L) (-1) (_,_)=_
   unfold A7
   have hl:(JR (sN L) L.length ((List.replicate L.length false).set r true) L.length).length=L.length:=by rw[Yw,hl0]
   simp only[hl,Ee,A2]
 rw[this]
 rfl
def pos:List Nat->Nat->Nat
 | [],_=>0
 | x::l,z=>if x=z then 0 else pos l z+1
theorem TX(x:Nat)(l:List Nat)(z:Nat):pos (x::l) z=if x=z then 0 else pos l z+1:=rfl
theorem u6{A l:List Nat}{z:Nat}(h:z∉A):pos (A++l) z=A.length+pos l z:=by
 induction A with
 | nil=>simp
 | cons x A ih=>
  have h1:x≠z:=λe=>h (by grind);have h2 :=λe=>h (Nb _ e);rw[OW,TX,if_neg h1,ih h2,GQ];omega
theorem QT{P:List Nat}(hd:P.Nodup){i:Nat}(hi:i<P.length):P[i]∉P.take i/\pos P P[i]=i:=by
 have e:P=P.take i++P[i]::P.drop (i+1):=by simp_all
 have hn:P[i]∉P.take i:=by
  grind
 refine⟨hn,?_⟩
 have h2:pos (P.take i++P[i]::P.drop (i+1)) P[i]=i:=by
  rw[u6 hn]
  have:pos (P[i]::P.drop (i+1)) P[i]=0:=by rw[TX,if_pos rfl]
  rw[ HS];omega
 rw[<- e]at h2;exact h2
theorem oJ{n:Nat}{p:Nat->Bool}:(List.range (n+1)).all p=((List.range n).all p&&p n):=by
 grind
theorem dn(d:Array Int)(hs:∀ i j,i<=j->j<d.size->d[i]!<=d[j]!):∀ m,m<=d.size->(∀ x∈Lib.compactUpTo d m,∃ j,j<m/\x=d[j]!)/\(∀ j,j<m->d[j]!∈Lib.compactUpTo d m)/\(Lib.compactUpTo d m).Pairwise (·<·):=by
 intro m
 induction m with
 | zero=>intro _;exact⟨(λx hx=>by simp[Lib.compactUpTo]at hx),(λj hj=>by omega),by simp[Lib.compactUpTo]⟩
 | succ m ih=>
  intro hm;obtain⟨h1,h2,h3⟩:=ih (by omega);rw[Lib.compactUpTo_succ]
  cases hk:Lib.keeps d m with
  | true=>
   rw[if_pos rfl];refine⟨λx hx=>?_,λj hj=>?_,?_⟩
   ·grind
   ·grind
   ·rw[zzL122];refine⟨h3,List.pairwise_singleton _ _,λx hx y hy=>?_⟩;obtain⟨j,hj,rfl⟩:=h1 x hx
    have hy':y=d[m]!:=by simpa using hy
    subst hy'
    have hk':m=0\/d[m]!≠d[m-1]!:=by simpa [Lib.keeps] using hk
    rcases hk' with h0|h0
    ·omega
    ·have a1:=hs j (m-1) (by omega) (by omega);have a2:=hs (m-1) m (by omega) (by omega);omega
  | false=>
   have hk':m≠0/\d[m]! = d[m-1]!:=by
    have:¬ (m=0\/d[m]!≠d[m-1]!):=by
     intro h
     have:Lib.keeps d m=true:=by simpa [Lib.keeps] using h
     rw[hk]at this;cases this
    exact⟨λh=>this (.inl h),Classical.not_not.1 λh=>this (.inr h)⟩
   simp only[OT,I7,List.append_nil];refine⟨λx hx=>by grind,λj hj=>?_,h3⟩
   by_cases hjm:j=m
   ·subst hjm;rw[hk'.2];exact h2 _ (by omega)
   ·exact h2 j (by omega)
def JX(l:List Int):List Int:=Lib.compact (l.mergeSort λx y=>decide (x<=y))
theorem Xc(l:List Int):(JX l).Pairwise (·<·)/\∀ x,x∈JX l↔x∈l:=by
 unfold JX Lib.compact;have hp:(l.mergeSort _).Pairwise (λa b=>decide (a<=b)=true):=List.pairwise_mergeSort (λa b c h1 h2=>by simp at *;omega) (λa b=>by simp;omega) l;have hm:∀ x,x∈(l.mergeSort λx y=>decide (x<=y))↔x∈l:=λx=>List.mem_mergeSort
 generalize l.mergeSort _=z at hp hm ⊢
 have hz:∀ j,j<z.length->z.toArray[j]! = z.getD j 0:=λj hj=>by simp[ hj]
 obtain⟨h1,h2,h3⟩:=dn z.toArray (λi j hij hj=>by
  have hj' :=by simpa using hj
  rw[hz i (by omega),hz j hj']
  by_cases he:i=j
  ·grind
  ·have:=(zzL95.1 hp) i j (by omega) hj' (by omega);rw[Ag _ _ _ _,Ag _ _ _ hj']
   simpa using this) z.length (by simp)
 refine⟨h3,λx=>?_⟩;rw[<- hm x]
 constructor
 ·grind
 ·intro hx;obtain⟨j,hj,rfl⟩:=L5 hx;have:=h2 j hj;rwa[hz j hj,Ag _ _ _ hj]at this
def sI(n:Nat)(l:List Int):Bool:=(List.range l.length).all λi=>decide (0<l.getD i 0)&&decide (l.getD i 0<(n:Int))
def EA(k:Int):Int:=([0,1,2,0]:List Int).getD k.toNat 0
def GC(e:L8):Bool:=(decide (0<=e.Kind)&&decide (e.Kind<=3))&&decide ((e.To.length:Int)=EA e.Kind)
def Nk(e:L8)(n:Nat):Bool:=GC e&&sI n e.To
theorem toB_iff{n:Nat}{l:List Int}:sI n l=true↔∀ x∈l,0<x/\x<n:=by
 unfold sI;rw[all_range];simp only[Bg,Jm]
 constructor
 ·intro h x hx;obtain⟨i,hi,rfl⟩:=L5 hx;have:=h i hi;rwa[Ag _ _ _ hi]at this
 ·simp_all
theorem pC(e:L8)(n:Nat)(hl:e.To.length<4611686018427387904):Ac (Fz e (n:Int)) (0:Int)=some (bif sI n e.To then .inl () else .inr false):=by
 have step:∀ j ,j<e.To.length->Fz e n j=bif (decide (0<e.To.getD j 0)&&decide (e.To.getD j 0<n)) then some (.next ((j+1:Int))) else some _:=λj hj=>by
  unfold Fz;simp only[Aq,B8 hj, W0,w1 (show j<4611686018427387904 by omega)];rw[Ab (inb hj)]
  by_cases h0:e.To.getD j 0=0
  ·rw[h0];rfl
  ·grind
 have:=Hv (Fz e n) (λj=>(j:Nat)) (λi=>decide (0<e.To.getD i 0)&&decide (e.To.getD i 0<n)) (.inl ()) (.inr false) e.To.length (λj hj hp=>?_) (λj hj hp=>?_) ?_
 ·exact this
 ·grind
 ·rw[step j hj,hp];rfl
 ·unfold Fz;simp only[Ee,A2]
theorem IV(e:L8)(n:Nat)(w:Int)(hw:0<=w/\w<=2) :
  (bif ((e.To.length:Int)!=w) then(some false) else((Ac (Fz e (n:Int)) (0:Int)).bind (λx10=>(match x10 with|(.inl _)=>(some true)|(.inr r12)=>(some r12)))))=some (decide ((e.To.length:Int)=w)&&sI n e.To):=by
 by_cases h:e.To.length=w
 ·rw[show(e.To.length !=w)=false by simpa using h, pC e n (by omega),Cr h]
  cases sI n _<;>rfl
 ·grind
theorem mL(e:L8)(n:Nat):Pn e (n:Int)=some (Nk e n):=by
 unfold Pn Nk GC
 by_cases h0:e.Kind=0
 ·rw[h0];exact IV e n 0 (by omega)
 by_cases h1:e.Kind=1
 ·rw[h1];exact IV e n 1 (by omega)
 by_cases h2:e.Kind=2
 ·rw[h2];exact IV e n 2 (by omega)
 by_cases h3:e.Kind=3
 ·rw[h3];exact IV e n 0 (by omega)
 have e0:(e.Kind==0)=false:=by rw[zzL40];exact h0
 have e1:(e.Kind==1)=false:=by rw[zzL40];exact h1
 have e2:(e.Kind==2)=false:=by rw[zzL40];exact h2
 have e3:(e.Kind==3)=false:=by rw[zzL40];exact h3
 rw[e0,e1,e2,e3]
 have:(decide (0<=e.Kind)&&decide (e.Kind<=3))=false:=by
  by_cases h:0<=e.Kind
  ·rw[C0 (show ¬ e.Kind<=3 by omega)];simp
  ·rw[C0 h];rfl
 rw[this]
 rfl
theorem pF{e:L8}{n:Nat}(h:Nk e n=true):e.To.length<=2:=by
 unfold Nk GC at h;simp only[Bg,Jm]at h;obtain⟨⟨⟨h0,h1⟩,h2⟩,_⟩:=h
 have:EA e.Kind<=2:=by
  have:e.Kind=0\/e.Kind=1\/e.Kind=2\/e.Kind=3:=by omega
  rcases this with h|h|h|h<;>rw[h]<;>decide
 omega
theorem bf{e:L8}{n:Nat}(h:Nk e n=true):sI n e.To=true:=by unfold Nk at h;exact(Bg _ _▸h).2
def Br(f:TFunc)(i:Nat):L8:=(f.Blocks.getD i (default:Aj)).End
def Ci(f:TFunc):List (List Int):=(List.range f.Blocks.length).map λi=>JX (Br f i).To
def Rl(f:TFunc):Bool:=(decide (1<=f.Blocks.length)&&decide (f.Blocks.length<=64))&&(List.range f.Blocks.length).all λi=>Nk (Br f i) f.Blocks.length
theorem shape_iff{f:TFunc}:Rl f=true↔(1<=f.Blocks.length/\f.Blocks.length<=64)/\∀ i,i<f.Blocks.length->Nk (Br f i) f.Blocks.length=true:=by
 unfold Rl;rw[Bg,Bg,all_range];simp only[Jm]
theorem vI{f:TFunc}{i:Nat}(h:Nk (Br f i) f.Blocks.length=true):nK f.Blocks.length (JX (Br f i).To)=true:=by
 obtain⟨h1,h2⟩:=Xc (Br f i).To;exact yD (λx hx=>by have:=(toB_iff.1 (bf h)) x ((h2 x).1 hx);omega) h1
theorem Ri{f:TFunc}(h:Rl f=true):Nu (Ci f)=true:=by
 obtain⟨⟨h1,h2⟩,h3⟩:=shape_iff.1 h
 have hl:(Ci f).length=f.Blocks.length:=by simp[Ci]
 refine mayS_iff.2 ⟨by omega,by omega,λi hi=>?_⟩;rw[hl]at hi ⊢;unfold Ci;rw[Pg hi];exact vI (h3 i hi)
theorem Ab3(f:TFunc)(hf:f.Blocks.length<=maxLen):Yc f=some (bif Rl f then(K5 (Ci f),0) else(g0,5)):=by
 have hroom:(1000:Nat)<=room:=by decide
 unfold Yc;rw[ZO,Ar];have hsh:Rl f=((decide (1<=f.Blocks.length)&&decide (f.Blocks.length<=64))&&(List.range f.Blocks.length).all λi=>Nk (Br f i) f.Blocks.length):=rfl
 cases hc:(decide (1<=f.Blocks.length)&&decide (f.Blocks.length<=64)) with
 | false=>rw[hsh,hc];rfl
 | true=>
  have hc':=hc;simp only[Bg,Jm]at hc';simp only[D3,A2];rw[Ab ⟨by omega,Int.le_refl _,by omega⟩,Aq]
  let U:Nat->List (List Int):=λi=>(List.range f.Blocks.length).map λj=>if j<i then JX (Br f j).To else[]
  have e0:List.replicate f.Blocks.length ([]:List Int)=U 0:=by
   simp only[U]
   apply List.ext_getElem?
   intro j
   by_cases hj:j<f.Blocks.length<;>simp[hj,List.getElem?_replicate]
  have eN:U f.Blocks.length=Ci f:=by
   simp only[U,Ci]
   apply Ho
   intro j hj;rw[if_pos hj]
  rw[e0]
  have hstep:∀ i:Nat,i<f.Blocks.length->H5 f ((i:Int),U i)=bif Nk (Br f i) f.Blocks.length then some (.next (((i+1:Nat):Int),U (i+1))) else some (.done (.inr (g0,5))):=λi hi=>by
   unfold H5;simp only[B8 hi,Af,Aq];rw[Ab (inb hi)];have he:(⟨(f.Blocks.getD i (default:Aj)).End.Kind,(f.Blocks.getD i (default:Aj)).End.Arg,(f.Blocks.getD i (default:Aj)).End.To⟩:L8)=Br f i:=rfl;rw[he,mL,Ar]
   cases hfit:Nk (Br f i) f.Blocks.length with
   | false=>rfl
   | true=>
    have hl2:=pF hfit;simp only[D3,A2,Af]
    have hx:KC (f.Blocks.getD i (default:Aj)).End.To=some (JX (Br f i).To):=by
     unfold KC;rw[kM,Ab (by show(Br f i).To.length<=_;omega)]
     rfl
    rw[hx,Ar,Ab (inb (by simp[U];omega)),w1 (by omega)]
    congr 3
    simp only[U];rw[DU]
    apply Ho
    intro j hj
    by_cases h1:j=i
    ·subst h1;rw[if_pos rfl,if_pos (by omega)]
    ·rw[if_neg h1]
     by_cases h2:j<i
     ·rw[if_pos h2,if_pos (by omega)]
     ·rw[if_neg h2,if_neg (by omega)]
  have:=Hv (H5 f) (λi=>(((i:Nat):Int),U i)) (λi=>Nk (Br f i) f.Blocks.length) (.inl (U f.Blocks.length)) (.inr (g0,5)) f.Blocks.length (λi hi hp=>?_) (λi hi hp=>?_) ?_
  ·rw[show Ac (H5 f) ((0:Int),U 0)=_ from this,hsh,hc,eN,Mx]
   cases hall:(List.range f.Blocks.length).all λi=>Nk (Br f i) f.Blocks.length with
   | false=>rfl
   | true=>
    simp only[Af,Ar];rw[eS _ (Ri (by rw[hsh,hc,hall];rfl))]
    rfl
  ·show H5 f (_,_)=_
   rw[hstep i hi,hp];rfl
  ·show H5 f (_,_)=_
   rw[hstep i hi,hp];rfl
  ·show H5 f (_,_)=_
   unfold H5;simp only[Ee,A2]
def LZ(l:List Int)(k:Nat):List Int:=((List.range k).filter λz:Nat=>decide (1<=z)&&l.contains (z:Int)).map Int.ofNat
theorem qM{n:Nat}{l:List Int}(h:sI n l=true):LZ l n=JX l:=by
 obtain⟨h1,h2⟩:=Xc l;refine UQ (d8 _ _) h1 λx=>?_;rw[h2 x];unfold LZ;rw[eY]
 constructor
 ·grind
 ·intro hx;have:=(toB_iff.1 h) x hx;refine⟨x.toNat,by omega,by omega,?_⟩;rw[Tu (by omega),zzL68.2 hx,Cr (by omega)]
  rfl
theorem ml(f:TFunc)(i:Nat)(hl:(Br f i).To.length<4611686018427387904):Ac (Fg f (i:Int)) (0:Int)=some (bif sI f.Blocks.length (Br f i).To then .inl () else .inr (g0,5)):=by
 have hE:(f.Blocks.getD i _).End=Br f i:=rfl
 have step:∀ j ,j<(Br f i).To.length->Fg f i j=bif (decide (0<(Br f i).To.getD j 0)&&decide ((Br f i).To.getD j 0<f.Blocks.length)) then some (.next ((j+1:Nat))) else some _:=λj hj=>by
  unfold Fg;simp only[Aq,hE,B8 hj, w1 (show j<4611686018427387904 by omega)];rw[Ab (inb hj),M9 (inb hj)]
  by_cases h0:(Br f i).To.getD j 0<=0
  ·rw[Cr h0,C0 (show ¬ 0<(Br f i).To.getD j 0 by omega)];rfl
  ·rw[C0 h0,Cr (show 0<(Br f i).To.getD j 0 by omega)]
   by_cases h1:f.Blocks.length<=(Br f i).To.getD j 0
   ·rw[Cr h1,C0 (show ¬ (Br f i).To.getD j 0<f.Blocks.length by omega)];rfl
   ·grind
 have:=Hv (Fg f i) (λj=>(j:Nat)) (λk=>decide (0<(Br f i).To.getD k 0)&&decide ((Br f i).To.getD k 0<f.Blocks.length)) (.inl ()) (.inr (g0,5)) (Br f i).To.length (λj hj hp=>?_) (λj hj hp=>?_) ?_
 ·exact this
 ·grind
 ·rw[step j hj,hp];rfl
 ·unfold Fg;simp only[Aq,hE,Ee,A2]
theorem mn(f:TFunc)(i:Nat)(hn:1<=f.Blocks.length/\f.Blocks.length<=64)(hl:(Br f i).To.length<4611686018427387904):Ac (Hm f (i:Int)) (([]:List Int),(1:Int))=some (LZ (Br f i).To f.Blocks.length):=by
 have hroom:1000<=room:=by decide
 have hE:(f.Blocks.getD i _).End=Br f i:=rfl
 have e0:LZ (Br f i).To 1=[]:=by unfold LZ;simp
 have key:=Dt (Hm f i) (λk=>(LZ (Br f i).To (k+1),(k+1:Nat))) (LZ (Br f i).To f.Blocks.length) (f.Blocks.length-1) (λk hk=>?_) ?_
 ·grind
 ·unfold Hm
  have hlen:(LZ (Br f i).To (k+1)).length<=k+1:=by
   unfold LZ;have:=List.length_filter_le (λz =>decide (1<=z)&&(Br f i).To.contains (z:Nat)) (List.range (k+1))
   simpa using this
  simp only[Aq,hE,B8 (show k+1<f.Blocks.length by omega)];rw[pZ _ _ hl,Ar,w1 (by omega)]
  have hs:LZ (Br f i).To (k+1+1)=LZ (Br f i).To (k+1)++(if(Br f i).To.contains ((k+1:Nat))=true then[(k+1:Int)] else[]):=by
   unfold LZ;rw[Zr,MO]
   cases hg:(Br f i).To.contains _ with
   | true=>grind
   | false=>grind
  rw[hs]
  cases hg:(Br f i).To.contains _ with
  | true=>
   rw[ Ab (by grind)]
   rfl
  | false =>  simp
 ·unfold Hm;simp only[show f.Blocks.length-1+1=f.Blocks.length by omega,Ee,A2]
theorem eV(f:TFunc)(hf:f.Blocks.length<=maxLen):Js f=some (bif Rl f then(K5 (Ci f),0) else(g0,5)):=by
 have hroom:(1000:Nat)<=room:=by decide
 unfold Js
 have hc:(bif ((f.Blocks.length:Int)==(0:Int)) then true else decide ((64:Int)<(f.Blocks.length:Int))) = !(decide (1<=f.Blocks.length)&&decide (f.Blocks.length<=64)):=by
  grind
 rw[hc];have hsh:Rl f=((decide (1<=f.Blocks.length)&&decide (f.Blocks.length<=64))&&(List.range f.Blocks.length).all λi=>Nk (Br f i) f.Blocks.length):=rfl
 cases hb:(decide (1<=f.Blocks.length)&&decide (f.Blocks.length<=64)) with
 | false=>rw[hsh,hb];rfl
 | true=>
  have hb':=hb;simp only[Bg,Jm]at hb';simp only[D3,A2]
  let U:Nat->List (List Int):=λi=>(List.range i).map λj=>LZ (Br f j).To f.Blocks.length
  have hstep:∀ i:Nat,i<f.Blocks.length->Ck f (U i,(i:Int))=bif Nk (Br f i) f.Blocks.length then some (.next (U (i+1),((i+1:Nat):Int))) else some (.done (.inr (g0,5))):=λi hi=>by
   unfold Ck;have hE:(f.Blocks.getD i (default:Aj)).End=Br f i:=rfl;simp only[B8 hi,Af,Aq,hE];rw[Ab (inb hi),w1 (by omega)]
   by_cases hk:0<=(Br f i).Kind/\(Br f i).Kind<=3
   ·rw[C0 (show ¬ (Br f i).Kind<0 by omega),C0 (show ¬ (3:Int)<(Br f i).Kind by omega)];simp only[A2];rw[M9 (show A0 (Br f i).Kind ([(0:Int),1,2,0]:List Int).length from⟨hk.1,by show(Br f i).Kind<4;omega⟩)];have hw:([(0:Int),1,2,0]:List Int).getD (Br f i).Kind.toNat 0=EA (Br f i).Kind:=rfl;rw[hw]
    have hkb:GC (Br f i)=decide (((Br f i).To.length:Int)=EA (Br f i).Kind):=by
     unfold GC;rw[Cr hk.1,Cr hk.2];rfl
    unfold Nk;rw[hkb]
    by_cases hl:((Br f i).To.length:Int)=EA (Br f i).Kind
    ·have hw2:EA (Br f i).Kind<=2:=by
      have:(Br f i).Kind=0\/(Br f i).Kind=1\/(Br f i).Kind=2\/(Br f i).Kind=3:=by omega
      rcases this with h|h|h|h<;>rw[h]<;>decide
     rw[show(((Br f i).To.length:Int)!=EA (Br f i).Kind)=false by simpa using hl,Cr hl,A2,ml f i (by omega),Mx]
     cases htb:sI f.Blocks.length (Br f i).To with
     | false=>rfl
     | true=>
      simp only[Af,Ar];rw[mn f i hb' (by omega)];simp only[Ar];rw[Ab (by simp only[U,Xh,EH,GO];omega)]
      congr 3
      simp only[U];rw[Zr,GR]
      rfl
    ·rw[show(((Br f i).To.length:Int)!=EA (Br f i).Kind)=true by simpa using hl,C0 hl];rfl
   ·have hbad:(bif decide ((Br f i).Kind<0) then true else decide ((3:Int)<(Br f i).Kind))=true:=by
     by_cases h0:(Br f i).Kind<0
     ·rw[Cr h0];rfl
     ·rw[C0 h0,Cr (show(3:Int)<(Br f i).Kind by omega)];rfl
    have hkb:GC (Br f i)=false:=by
     unfold GC
     by_cases h0:0<=(Br f i).Kind
     ·rw[C0 (show ¬ (Br f i).Kind<=3 by omega)];simp
     ·rw[C0 h0];simp
    simp only[hbad];rw[Ab (by intro h;cases h)];unfold Nk;rw[hkb]
    rfl
  have:=Hv (Ck f) (λi=>(U i,((i:Nat):Int))) (λi=>Nk (Br f i) f.Blocks.length) (.inl (U f.Blocks.length)) (.inr (g0,5)) f.Blocks.length (λi hi hp=>?_) (λi hi hp=>?_) ?_
  ·rw[show Ac (Ck f) (([]:List (List Int)),(0:Int))=_ from this,hsh,hb,Mx]
   cases hall:(List.range f.Blocks.length).all λi=>Nk (Br f i) f.Blocks.length with
   | false=>rfl
   | true=>
    have hshape:Rl f=true:=by rw[hsh,hb,hall];rfl
    have hm:=Ri hshape
    have hU:U f.Blocks.length=Ci f:=by
     simp only[U,Ci]
     apply Ho
     intro j hj;exact qM (bf ((shape_iff.1 hshape).2 j hj))
    simp only[Af,Ar];rw[hU,SX _ (U4 (Ui hm)),hm]
    rfl
  ·show Ck f (_,_)=_
   rw[hstep i hi,hp];rfl
  ·show Ck f (_,_)=_
   rw[hstep i hi,hp];rfl
  ·show Ck f (_,_)=_
   unfold Ck;simp only[Ee,A2]
inductive Rc (S:Nat->List Nat) (r:Nat):Nat->Prop
 | root:Rc S r r
 | step {x y:Nat} (h:Rc S r x) (hy:y∈S x):Rc S r y
inductive Av (S:Nat->List Nat) (r z:Nat):Nat->Prop
 | root (h:r≠z):Av S r z r
 | step {x y:Nat} (h:Av S r z x) (hy:y∈S x) (hz:y≠z):Av S r z y
inductive AvN (S:Nat->List Nat) (r z:Nat):Nat->Nat->Prop
 | root (h:r≠z) (k:Nat):AvN S r z k r
 | step {k x y:Nat} (h:AvN S r z k x) (hy:y∈S x) (hz:y≠z):AvN S r z (k+1) y
section
variable {S:Nat->List Nat} {r:Nat}
theorem rc_iff{x:Nat}:Rc S r x↔Rch S r x:=by
 constructor
 ·intro h
  induction h with
  | root=>exact .refl _
  | step _ hy ih=>exact ih.tail hy
 ·intro h
  have key:∀ a b,Rch S a b->Rc S r a->Rc S r b:=by
   intro a b hab
   induction hab with
   | refl x=>exact id
   | head hy _ ih=>exact λha=>ih (.step ha hy)
  exact key _ _ h .root
def wo(S:Nat->List Nat)(z:Nat):Nat->List Nat:=λx=>(S x).filter λy=>decide (y≠z)
theorem av_iff{z x:Nat}:Av S r z x↔r≠z/\Rch (wo S z) r x:=by
 constructor
 ·intro h
  induction h with
  | root h=>exact⟨h,.refl _⟩
  | step _ hy hz ih=>exact⟨ih.1,ih.2.tail (zzL118.2 ⟨hy,by simpa using hz⟩)⟩
 ·rintro⟨hr,h⟩
  have key:∀ a b,Rch (wo S z) a b->Av S r z a->Av S r z b:=by
   intro a b hab
   induction hab with
   | refl x=>exact id
   | head hy _ ih=>
    obtain⟨h1,h2⟩:=zzL118.1 hy;exact λha=>ih (.step ha h1 (by simpa using h2))
  exact key _ _ h (.root hr)
theorem Av.rc{z x:Nat}(h:Av S r z x):Rc S r x:=by
 induction h with
 | root _=>exact .root
 | step _ hy _ ih=>exact .step ih hy
theorem Av.ne{z x:Nat}(h:Av S r z x):x≠z:=by
 cases h with
 | root h=>exact h
 | step _ _ hz=>exact hz
theorem AvN.av{z k x:Nat}(h:AvN S r z k x):Av S r z x:=by
 induction h with
 | root h=>exact .root h
 | step _ hy hz ih=>exact .step ih hy hz
theorem AvN.up{z k x:Nat}(h:AvN S r z k x):AvN S r z (k+1) x:=by
 induction h with
 | root h k=>exact .root h _
 | step _ hy hz ih=>exact .step ih hy hz
theorem AvN.mono{z k m x:Nat}(h:AvN S r z k x)(hm:k<=m):AvN S r z m x:=by
 obtain⟨d,rfl⟩:=Nat.exists_eq_add_of_le hm;clear hm
 induction d with
 | zero=>exact h
 | succ d ih=>exact ih.up
theorem Av.avn{z x:Nat}(h:Av S r z x):∃ k,AvN S r z k x:=by
 induction h with
 | root h=>exact⟨0,.root h 0⟩
 | step _ hy hz ih=>obtain⟨k,hk⟩:=ih;exact⟨k+1,.step hk hy hz⟩
theorem AvN.via {z k x : Nat} (h : AvN S r z k x) (y : Nat) : AvN S r y k x ∨ AvN S r z k y := by
  induction h with
  | root h k => by_cases hy : r = y
                · subst hy; exact .inr (.root h _)
                · exact .inl (.root hy _)
  | @step k x w h hy hz ih =>
    rcases ih with h1 | h1
    · by_cases hw : w = y
      · subst hw; exact .inr (.step h hy hz)
      · exact .inl (.step h1 hy hw)
    · exact .inr h1.up
theorem lj(n:Nat):∃ K,∀ z,z<n->∀ x,x<n->Av S r z x->AvN S r z K x:=by
 have one:∀ z m,∃ K,∀ x,x<m->Av S r z x->AvN S r z K x:=by
  intro z m
  induction m with
  | zero=>simp_all
  | succ m ih=>
   obtain⟨K,hK⟩:=ih
   by_cases h:Av S r z m
   ·obtain⟨k,hk⟩:=h.avn;refine⟨max K k,λx hx ha=>?_⟩;rcases Nat.lt_succ_iff_lt_or_eq.1 hx with h1|rfl
    ·exact(hK x h1 ha).mono (Nat.le_max_left ..)
    ·exact hk.mono (Nat.le_max_right ..)
   ·refine⟨K,λx hx ha=>?_⟩;rcases Nat.lt_succ_iff_lt_or_eq.1 hx with h1|rfl
    ·exact hK x h1 ha
    ·exact absurd ha h
 have two:∀ m,∃ K,∀ z,z<m->∀ x,x<n->Av S r z x->AvN S r z K x:=by
  intro m
  induction m with
  | zero=>simp_all
  | succ m ih=>
   obtain⟨K,hK⟩:=ih;obtain⟨k,hk⟩:=one m n;refine⟨max K k,λz hz x hx ha=>?_⟩;rcases Nat.lt_succ_iff_lt_or_eq.1 hz with h1|rfl
   ·exact(hK z h1 x hx ha).mono (Nat.le_max_left ..)
   ·exact(hk x hx ha).mono (Nat.le_max_right ..)
 exact two n
end
inductive UpTo (par:Nat->Int):Nat->Nat->Prop
 | refl (x:Nat):UpTo par x x
 | up {x y z:Nat} (h:par x=(y:Int)) (t:UpTo par y z):UpTo par x z
inductive Fw (S:Nat->List Nat) (at_:Nat->Nat) (u:Nat):Nat->Prop
 | refl:Fw S at_ u u
 | step {v w:Nat} (h:Fw S at_ u v) (hw:w∈S v) (hl:at_ v<at_ w):Fw S at_ u w
section
variable {S:Nat->List Nat} {at_:Nat->Nat} {par:Nat->Int}
theorem Fw.le{u w:Nat}(h:Fw S at_ u w):at_ u<=at_ w:=by
 induction h with
 | refl=>exact zzL8 _
 | step _ _ hl ih=>omega
theorem Fw.trans{u v w:Nat}(h:Fw S at_ u v)(k:Fw S at_ v w):Fw S at_ u w:=by
 induction k with
 | refl=>exact h
 | step _ hw hl ih=>exact .step ih hw hl
theorem Fw.av{r d u w:Nat}(h:Fw S at_ u w)(ha:Av S r d u)(hd:at_ d<at_ u):Av S r d w:=by
 induction h with
 | refl=>exact ha
 | @step v w h hw hl ih=>exact .step ih hw (by rintro rfl;have:=h.le;omega)
theorem UpTo.trans{x y z:Nat}(h:UpTo par x y)(k:UpTo par y z):UpTo par x z:=by
 induction h with
 | refl x=>exact k
 | up h _ ih=>exact .up h (ih k)
theorem anc_up{x p z:Nat}(h:par x=(p:Int)):UpTo par x z↔z=x\/UpTo par p z:=by
 constructor
 ·intro k
  cases k with
  | refl=>exact .inl rfl
  | up h' t=>grind
 ·rintro(rfl|k)
  ·exact .refl _
  ·exact .up h k
theorem QJ{x z:Nat}(h:∀ p:Nat,par x≠(p:Int)):UpTo par x z↔z=x:=by
 constructor
 ·intro k
  cases k with
  | refl=>rfl
  | up h' t=>exact absurd h' (h _)
 ·rintro rfl;exact .refl _
structure Inv(S:Nat->List Nat)(r n:Nat)(at_:Nat->Nat)(par:Nat->Int):Prop where
 top:par r = -1
 kind:∀ x,x<n->par x = -2\/x=r\/∃ z:Nat,par x=(z:Int)
 up:∀ x,x<n->∀ z:Nat,par x=(z:Int)->z<n/\par z≠-2/\at_ z<at_ x/\Fw S at_ z x
 rc:∀ x,x<n->par x≠-2->Rc S r x
 all:∀ x,x<n->par x≠-2->∀ d,¬ UpTo par x d->Av S r d x
end
section
variable {S:Nat->List Nat} {at_:Nat->Nat} {par:Nat->Int} {r n:Nat}
theorem Inv.anc(h:Inv S r n at_ par){x z:Nat}(k:UpTo par x z)(hx:x<n)(hp:par x≠-2):z<n/\par z≠-2/\at_ z<=at_ x/\Fw S at_ z x:=by
 induction k with
 | refl x=>exact⟨hx,hp,zzL8 _,.refl⟩
 | @up x y z hxy t ih=>
  obtain⟨h1,h2,h3,h4⟩:=h.up x hx y hxy;obtain⟨i1,i2,i3,i4⟩:=ih h1 h2;exact⟨i1,i2,by omega,i4.trans h4⟩
theorem Inv.root_anc(h:Inv S r n at_ par){z:Nat}:UpTo par r z↔z=r:=QJ λp hp=>by rw[h.top]at hp;omega
theorem Inv.strict(h:Inv S r n at_ par){x z:Nat}(k:UpTo par x z)(hx:x<n)(hp:par x≠-2):z=x\/at_ z<at_ x:=by
 cases k with
 | refl=>exact .inl rfl
 | up hxy t=>
  obtain⟨h1,h2,h3,h4⟩:=h.up x hx _ hxy;obtain⟨i1,i2,i3,i4⟩:=h.anc t h1 h2;exact .inr (by omega)
theorem Inv.antisymm(h:Inv S r n at_ par){x z:Nat}(k:UpTo par x z)(m:UpTo par z x)(hx:x<n)(hp:par x≠-2):z=x:=by
 rcases h.strict k hx hp with rfl|h1
 ·rfl
 ·obtain⟨i1,i2,i3,i4⟩:=h.anc k hx hp;have:=(h.anc m i1 i2).2.2.1;omega
def MeetAt(par:Nat->Int)(a b m:Nat):Prop:=∀ w,UpTo par m w↔UpTo par a w/\UpTo par b w
theorem ZP{a:Nat}:MeetAt par a a a:=λw=>by simp
theorem mU{a b m:Nat}(h:MeetAt par a b m):MeetAt par b a m:=λw=>by rw[h w];exact And.comm
theorem Inv.meet_left(h:Inv S r n at_ par)(hinj:∀ x y,x<n->y<n->par x≠-2->par y≠-2->at_ x=at_ y->x=y){a b p m:Nat}(ha:a<n)(hpa:par a≠-2)(hb:b<n)(hpb:par b≠-2)(hab:a≠b)(hl:at_ b<=at_ a)(hp:par a=(p:Int))(k:MeetAt par p b m):MeetAt par a b m:=λw=>by
 rw[k w]
 constructor
 ·rintro⟨h1,h2⟩;exact⟨.up hp h1,h2⟩
 ·rintro⟨h1,h2⟩;rcases(anc_up hp).1 h1 with rfl|h1
  ·exfalso
   rcases h.strict h2 hb hpb with h3|h3
   ·exact hab h3
   ·omega
  ·exact⟨h1,h2⟩
end
section
variable {S:Nat->List Nat} {at_:Nat->Nat} {par:Nat->Int} {r n:Nat}
def Si(par:Nat->Int)(y:Nat)(v:Int):Nat->Int:=λx=>if x=y then v else par x
def gD(S:Nat->List Nat)(n:Nat)(par:Nat->Int)(y z:Nat):Prop:=∀ w,UpTo par z w↔∀ p,p<n->y∈S p->par p≠-2->UpTo par p w
theorem NJ{y:Nat}{v:Int}{x z:Nat}(k:UpTo par x z)(hy:¬ UpTo par x y):UpTo (Si par y v) x z:=by
 induction k with
 | refl x=>exact .refl _
 | @up x q z h t ih=>
  have hxy:x≠y:=by rintro rfl;exact hy (.refl _)
  refine .up  ?_ (ih λk=>hy (.up h k));unfold Si;rw[if_neg hxy];exact h
theorem dR{y:Nat}{v:Int}{x:Nat}(k:UpTo par x y):UpTo (Si par y v) x y:=by
 induction k with
 | refl x=>exact .refl _
 | @up x q z h t ih=>
  by_cases hxy:x=z
  ·subst hxy;exact .refl _
  ·refine .up  ?_ ih;unfold Si;rw[if_neg hxy];exact h
theorem anc_upd_inv{y:Nat}{v:Int}{x w:Nat}(k:UpTo (Si par y v) x w):UpTo par x w\/(UpTo par x y/\UpTo (Si par y v) y w):=by
 induction k with
 | refl x=>exact .inl (.refl _)
 | @up x q w h t ih=>
  by_cases hxy:x=y
  ·subst hxy;exact .inr ⟨.refl _,.up h t⟩
  ·unfold Si at h;rw[if_neg hxy]at h;rcases ih with h1|⟨h1,h2⟩
   ·exact .inl (.up h h1)
   ·exact .inr ⟨.up h h1,h2⟩
theorem low_or{y:Nat}{v:Int}{x d:Nat}(k:UpTo par x y)(hd:UpTo par x d):UpTo par y d\/UpTo (Si par y v) x d:=by
 induction k with
 | refl x=>exact .inl hd
 | @up x q y hq t ih=>
  by_cases e:x=y
  ·subst e;exact .inl hd
  ·rcases(anc_up hq).1 hd with rfl|k
   ·exact .inr (.refl _)
   ·rcases ih k with h1|h1
    ·exact .inl h1
    ·exact .inr (.up  (by unfold Si;rw[if_neg e];exact hq) h1)
structure Better(S:Nat->List Nat)(r n:Nat)(at_:Nat->Nat)(par:Nat->Int)(y z:Nat):Prop where
 inv:Inv S r n at_ par
 hy:y<n
 hr:y≠r
 hz:z<n
 best:gD S n par y z
 fwd:∃ p,p<n/\y∈S p/\par p≠-2/\at_ p<at_ y
variable {y z:Nat}
theorem Better.zlt(h:Better S r n at_ par y z):UpTo par z z/\par z≠-2/\at_ z<at_ y/\Fw S at_ z y:=by
 obtain⟨p,hp,hyp,hpp,hl⟩:=h.fwd;obtain⟨h1,h2,h3,h4⟩:=h.inv.anc ((h.best z).1 (.refl _) p hp hyp hpp) hp hpp;exact⟨.refl _,h2,by omega,.step h4 hyp hl⟩
theorem Better.above(h:Better S r n at_ par y z){w:Nat}:UpTo (Si par y z) z w↔UpTo par z w:=by
 obtain⟨_,h2,h3,_⟩:=h.zlt
 have hn:¬ UpTo par z y:=λk=>by have:=(h.inv.anc k h.hz h2).2.2.1;omega
 constructor
 ·intro k;rcases anc_upd_inv k with h1|⟨h1,_⟩
  ·exact h1
  ·exact absurd h1 hn
 ·intro k;exact NJ k hn
theorem Better.here(h:Better S r n at_ par y z){w:Nat}:UpTo (Si par y z) y w↔w=y\/UpTo par z w:=by
 rw[anc_up (p:=z) (by simp[Si]),h.above]
theorem Better.av_here(h:Better S r n at_ par y z){d:Nat}(hd:¬ UpTo (Si par y z) y d):Av S r d y:=by
 rw[h.here]at hd;have h1:¬ ∀ p,p<n->y∈S p->par p≠-2->UpTo par p d:=λhh=>hd (.inr ((h.best d).2 hh));simp only[Classical.not_forall]at h1;obtain⟨p,hp,hyp,hpp,hnp⟩:=h1;exact .step (h.inv.all p hp hpp d hnp) hyp λe=>hd (.inl e.symm)
theorem Better.inv'(h:Better S r n at_ par y z):Inv S r n at_ (Si par y z):=by
 obtain⟨hzz,hz2,hzl,hzf⟩:=h.zlt;obtain⟨p,hp,hyp,hpp,hl⟩:=h.fwd
 have hne:∀ x,Si par y z x≠-2->x=y\/par x≠-2:=λx hx=>by
  by_cases e:x=y
  ·exact .inl e
  ·unfold Si at hx;rw[if_neg e]at hx;exact .inr hx
 have hyv:Si par y z y=z:=by simp[Si]
 have hyo:∀ x,x≠y->Si par y z x=par x:=λx e=>by unfold Si;rw[if_neg e]
 refine⟨by rw[hyo _ (Pc h.hr)];exact h.inv.top,λx hx=>?_,λx hx w hw=>?_,λx hx hxp=>?_,λx hx hxp d hd=>?_⟩
 ·by_cases e:x=y
  ·grind
  ·rw[hyo x e];exact h.inv.kind x hx
 ·have hzn:∀ w,par w≠-2->Si par y z w≠-2:=λw hw=>by
   grind
  by_cases e:x=y
  ·subst e;rw[hyv]at hw
   cases MT hw
   exact⟨h.hz,hzn _ hz2,hzl,hzf⟩
  ·rw[hyo x e]at hw;obtain⟨h1,h2,h3,h4⟩:=h.inv.up x hx w hw;exact⟨h1,hzn _ h2,h3,h4⟩
 ·rcases hne x hxp with rfl|h1
  ·exact .step (h.inv.rc p hp hpp) hyp
  ·exact h.inv.rc x hx h1
 ·by_cases e:x=y
  ·subst e;exact h.av_here hd
  ·rw[hyo x e]at hxp
   by_cases hxd:UpTo par x d
   ·
    by_cases hxy:UpTo par x y
    ·have hyd :=λk=>hd ((dR hxy).trans k);have hav:=h.av_here hyd;have hf:=(h.inv.anc hxy hx hxp).2.2.2
     have hdy:UpTo par y d:=by
      rcases low_or  hxy hxd with h1|h1
      ·exact h1
      ·exact absurd h1 hd
     by_cases hpy:par y = -2
     ·
      have :=by
       refine(QJ  λp hp=>?_).1 hdy;rw[hpy]at hp;omega
      subst this;exact absurd (.refl _) hyd
     ·rcases h.inv.strict hdy h.hy hpy with rfl|hlt
      ·exact absurd (.refl _) hyd
      ·exact hf.av hav hlt
    ·exact absurd (NJ hxd hxy) hd
   ·exact h.inv.all x hx hxp d hxd
end
section
variable {S:Nat->List Nat} {at_:Nat->Nat} {par:Nat->Int} {r n:Nat}
def QB(S:Nat->List Nat)(r n:Nat)(par:Nat->Int)(b:Nat->Nat):Prop:=∀ x,x<n->par x≠-2->∀ z,AvN S r z (b x) x->¬ UpTo par x z
def gE(S:Nat->List Nat)(r n:Nat)(par:Nat->Int):Prop:=∀ x,x<n->Rc S r x->par x≠-2
def js(S:Nat->List Nat)(r n:Nat)(par:Nat->Int):Prop:=∀ x,x<n->par x≠-2->∀ d,UpTo par x d↔¬ Av S r d x
theorem vB(h:Inv S r n at_ par):QB S r n par λ_=>0:=λx hx hp z hz k=>by
 cases hz with
 | root hr _=>exact hr (h.root_anc.1 k).symm
theorem kj(hS:∀ x,x<n->∀ w∈S x,w<n)(hr:r<n){x:Nat}(h:Rc S r x):x<n:=by
 induction h with
 | root=>exact hr
 | step _ hy ih=>exact hS _ ih _ hy
theorem Better.qb{y z k:Nat}{b:Nat->Nat}(h:Better S r n at_ par y z)(hS:∀ x,x<n->∀ w∈S x,w<n)(hrn:r<n)(full:gE S r n par)(hb:∀ x,x<n->k<=b x/\b x<=k+1)(q:QB S r n par b) :
  QB S r n (Si par y z) λx=>if x=y then k+1 else b x:=by
 have here:∀ w,AvN S r w (k+1) y->¬ UpTo _ y w:=λw hw hu=>by
  rcases h.here.1 hu with rfl|hu
  ·exact hw.av.ne rfl
  ·cases hw with
   | root hr _=>exact h.hr rfl
   | @step _ p _ hp hyp hne=>
    have hpn:=kj hS hrn hp.av.rc;have hpp:=full p hpn hp.av.rc;exact q p hpn hpp w (hp.mono (hb p hpn).1) ((h.best w).1 hu p hpn hyp hpp)
 intro x hx hxp w hw hu
 dsimp only at hw
 by_cases e:x=y
 ·grind
 ·rw[if_neg e]at hw;unfold Si at hxp;rw[if_neg e]at hxp;rcases anc_upd_inv hu with h1|⟨h1,h2⟩
  ·exact q x hx hxp w hw h1
  ·rcases hw.via y with h3|h3
   ·exact q x hx hxp y h3 h1
   ·exact here w (h3.mono (hb x hx).2) h2
theorem pE(h:Inv S r n at_ par){K:Nat}(hK:∀ z,z<n->∀ x,x<n->Av S r z x->AvN S r z K x)(q:QB S r n par λ_=>K):js S r n par:=λx hx hp d=>by
 constructor
 ·intro hu ha;exact q x hx hp d (hK d (h.anc hu hx hp).1 x hx ha) hu
 ·intro ha;exact fo λhn=>ha (h.all x hx hp d hn)
theorem Better.same{y z:Nat}(h:Better S r n at_ par y z)(hS:∀ x,x<n->∀ w∈S x,w<n)(hrn:r<n)(full:gE S r n par)(hy2:par y≠-2)(ex:js S r n par):par y=(z:Int):=by
 obtain⟨hzz,hz2,hzl,hzf⟩:=h.zlt;rcases h.inv.kind y h.hy with h1|h1|⟨q,hq⟩
 ·exact absurd h1 hy2
 ·exact absurd h1 h.hr
 ·obtain⟨q1,q2,q3,q4⟩:=h.inv.up y h.hy q hq
  have key:∀ w,UpTo par z w↔UpTo par q w:=λw=>by
   rw[h.best w]
   constructor
   ·intro hall
    have hwy:¬ Av S r w y:=λha=>by
     cases ha with
     | root _=>exact h.hr rfl
     | @step p _ hp hyp hne=>
      have hpn:=kj hS hrn hp.rc;have hpp:=full p hpn hp.rc;exact(ex p hpn hpp w).1 (hall p hpn hyp hpp) hp
    rcases(anc_up hq).1 ((ex y h.hy hy2 w).2 hwy) with rfl|hu
    ·have:=(h.inv.anc ((h.best _).2 hall) h.hz hz2).2.2.1;omega
    ·exact hu
   ·intro hu p hp hyp hpp;have hwy:UpTo par y w:=.up hq hu;refine(ex p hp hpp w).2 λha=>?_
    have hne:y≠w:=by rintro rfl;have:=(h.inv.anc hu q1 q2).2.2.1;omega
    exact(ex y h.hy hy2 w).1 hwy (.step ha hyp hne)
  have:=h.inv.antisymm ((key q).2 (.refl _)) ((key z).1 (.refl _)) h.hz hz2;rw[hq,this]
theorem mD(h:Inv S r n at_ par)(hS:∀ x,x<n->∀ w∈S x,w<n)(hrn:r<n)(full:gE S r n par)(fix:∀ y,y<n->y≠r->Rc S r y->∃ z:Nat,par y=(z:Int)/\gD S n par y z):js S r n par:=λx hx hp d=>by
 constructor
 ·intro hu ha
  induction ha with
  | root hne=>exact hne (h.root_anc.1 hu).symm
  | @step p y hp' hyp hne ih=>
   have hpn:=kj hS hrn hp'.rc;have hpp:=full p hpn hp'.rc
   by_cases e:y=r
   ·subst e;exact hne (h.root_anc.1 hu).symm
   ·obtain⟨z,hz,hb⟩:=fix y hx e (.step hp'.rc hyp);rcases(anc_up hz).1 hu with rfl|hu
    ·exact hne rfl
    ·exact ih hpn hpp ((hb d).1 hu p hpn hyp hpp)
 ·intro ha;exact fo λhn=>ha (h.all x hx hp d hn)
end
def Bu(t:List Int):Nat->Int:=λx=>t.getD x 0
theorem fH{t:List Int}{y:Nat}{v:Int}(hy:y<t.length):Bu (t.set y v)=Si (Bu t) y v:=by
 funext x
 unfold Bu Si
 by_cases e:x=y
 ·grind
 ·grind
open Classical in
def Ps(S:Nat->List Nat)(n:Nat)(t:List Int)(y:Nat):Nat:=if h:∃ z,z<n/\gD S n (Bu t) y z then Classical.choose h else 0
def BL(S:Nat->List Nat)(n:Nat)(P:List Nat)(t:List Int):Nat->List Int
 | 0=>t
 | i+1=>(BL S n P t i).set (P.getD i 0) (Ps S n (BL S n P t i) (P.getD i 0):Int)
def WT(S:Nat->List Nat)(n:Nat)(P:List Nat)(t:List Int):Nat->List Int
 | 0=>t
 | j+1=>BL S n P (WT S n P t j) P.length
def Jl(n r:Nat):List Int:=(List.replicate n (-2:Int)).set r (-1)
structure Ordered(S:Nat->List Nat)(r n:Nat)(P:List Nat):Prop where
 hr:r<n
 hS:∀ x,x<n->∀ w∈S x,w<n
 nodup:(r::P).Nodup
 mem:∀ x,x∈r::P↔Rc S r x
 fwd:∀ i,i<P.length->∃ p,p∈r::P.take i/\P.getD i 0∈S p
section
variable {S:Nat->List Nat} {r n:Nat} {P:List Nat}
theorem Ordered.lt(o:Ordered S r n P){x:Nat}(h:x∈r::P):x<n:=kj o.hS o.hr ((o.mem x).1 h)
theorem Wy{i:Nat}(hi:i<P.length):P.getD i 0∈P:=by grind
theorem Ordered.at_lt(o:Ordered S r n P){i:Nat}(hi:i<P.length){p:Nat}(hp:p∈r::P.take i):pos (r::P) p<pos (r::P) (P.getD i 0):=by
 have hd:=o.nodup
 have h1:pos (r::P) (P.getD i 0)=i+1:=by
  have:=(QT hd (i:=i+1) (by simpa using hi)).2;rw[Ag _ _ _ hi]
  simpa using this
 rw[h1];obtain⟨j,hj,rfl⟩:=L5 hp
 have hj':j<i+1:=by simp at hj;omega
 have hjl:j<(r::P).length:=by simp;omega
 have e:(r::P.take i)[j]=(r::P)[j]:=by
  grind
 rw[e,(QT hd hjl).2];exact hj'
theorem Ab2(o:Ordered S r n P):Inv S r n (pos (r::P)) (Bu (Jl n r))/\(Jl n r).length=n/\Bu (Jl n r) r≠-2:=by
 have hlen:(Jl n r).length=n:=by simp[Jl]
 have hr:=o.hr
 have at_:∀ x,x<n->Bu (Jl n r) x=if x=r then -1 else -2:=λx hx=>by
  unfold Bu Jl
  by_cases e:x=r
  ·grind
  ·grind
 have hno:∀ x,x<n->∀ p:Nat,Bu (Jl n r) x≠p:=λx hx p hp=>by grind
 refine⟨⟨by grind,λx hx=>?_,λx hx z hz=>absurd hz (hno x hx z),λx hx hp=>?_,λx hx hp d hd=>?_⟩,hlen,by grind⟩
 ·grind
 ·by_cases e:x=r
  ·subst e;exact .root
  ·grind
 ·by_cases e:x=r
  ·subst e;exact .root (λe=>hd (by rw[e];exact .refl _))
  ·grind
structure Ready(S:Nat->List Nat)(r n:Nat)(P:List Nat)(t:List Int)(i:Nat):Prop where
 inv:Inv S r n (pos (r::P)) (Bu t)
 len:t.length=n
 done:∀ x∈r::P.take i,Bu t x≠-2
theorem Inv.meets{at_:Nat->Nat}{par:Nat->Int}(h:Inv S r n at_ par)(hinj:∀ x y,x<n->y<n->par x≠-2->par y≠-2->at_ x=at_ y->x=y)(hr:at_ r=0):∀ m a b,at_ a+at_ b<=m->a<n->b<n->par a≠-2->par b≠-2->∃ c,MeetAt par a b c/\c<n/\par c≠-2:=by
 intro m
 induction m with
 | zero=>
  intro a b hm ha hb hpa hpb;have:a=b:=hinj a b ha hb hpa hpb (by omega);subst this;exact⟨a,ZP,ha,hpa⟩
 | succ m ih=>
  have go:∀ a b,at_ a+at_ b<=m+1->a<n->b<n->par a≠-2->par b≠-2->at_ b<=at_ a->∃ c,MeetAt par a b c/\c<n/\par c≠-2:=λa b hm ha hb hpa hpb hl=>by
   by_cases e:a=b
   ·subst e;exact⟨a,ZP,ha,hpa⟩
   ·rcases h.kind a ha with h1|h1|⟨p,hp⟩
    ·exact absurd h1 hpa
    ·subst h1;exact absurd (hinj a b ha hb hpa hpb (by omega)) e
    ·obtain⟨p1,p2,p3,p4⟩:=h.up a ha p hp;obtain⟨c,hc,hc2⟩:=ih p b (by omega) p1 hb p2 hpb;exact⟨c,h.meet_left hinj ha hpa hb hpb e hl hp hc,hc2⟩
  intro a b hm ha hb hpa hpb;rcases Nat.le_total (at_ b) (at_ a) with hl|hl
  ·exact go a b hm ha hb hpa hpb hl
  ·obtain⟨c,hc,hc2⟩:=go b a (by omega) hb ha hpb hpa hl;exact⟨c,mU hc,hc2⟩
theorem Ready.inj(o:Ordered S r n P){t:List Int}{i:Nat}(h:Ready S r n P t i):∀ x y,x<n->y<n->Bu t x≠-2->Bu t y≠-2->pos (r::P) x=pos (r::P) y->x=y:=λx y hx hy hpx hpy he=>by
 have hm :=λx hx hp=>(o.mem x).2 (h.inv.rc x hx hp)
 have back:∀ x∈r::P,(r::P).getD (pos _ x) 0=x:=λx hx=>by
  obtain⟨j,hj,rfl⟩:=L5 hx;rw[(QT o.nodup hj).2,Ag _ _ _ hj]
 rw[<- back x (hm x hx hpx),<- back y (hm y hy hpy),he]
theorem fJ:pos (r::P) r=0:=by rw[TX,if_pos rfl]
theorem Ready.meetAll(o:Ordered S r n P){t:List Int}{i:Nat}(h:Ready S r n P t i):∀ l:List Nat,(∀ p∈l,p<n/\Bu t p≠-2)->l≠[]->∃ z,z<n/\Bu t z≠-2/\∀ w,UpTo (Bu t) z w↔∀ p∈l,UpTo (Bu t) p w:=by
 intro l
 induction l with
 | nil=>grind
 | cons p l ih=>
  intro hl _;obtain⟨hp1,hp2⟩:=hl p (zzL48 ..)
  by_cases hl0:l=[]
  ·grind
  ·obtain⟨z,hz1,hz2,hz3⟩:=ih (λq hq=>hl q (Nb _ hq)) hl0;obtain⟨c,hc1,hc2,hc3⟩:=h.inv.meets (h.inj o) fJ _ p z (zzL8 _) hp1 hz1 hp2 hz2;exact⟨c,hc2,hc3,λw=>by rw[hc1 w,hz3 w];simp⟩
theorem Ready.best(o:Ordered S r n P){t:List Int}{i:Nat}(h:Ready S r n P t i)(hi:i<P.length):Better S r n (pos (r::P)) (Bu t) (P.getD i 0) (Ps S n t (P.getD i 0)):=by
 have hy:=Wy hi;have hyr:P.getD i 0≠r:=λe=>(zzL109.1 o.nodup).1 (e▸hy);have hyn:=o.lt (Nb _ hy);obtain⟨p,hp,hyp⟩:=o.fwd i hi;have hp2:=h.done p hp
 have hpP:p∈r::P:=by
  grind
 have hpn:=o.lt hpP
 have hex:∃ z,z<n/\gD S n (Bu t) (P.getD i 0) z:=by
  classical
  obtain⟨z,hz1,hz2,hz3⟩:=h.meetAll o ((List.range n).filter λp=>decide (P.getD i 0∈S p/\Bu t p≠-2)) (λp hp=>by
   grind) (λe=>by
   simp_all)
  refine⟨z,hz1,λw=>?_⟩
  constructor
  ·grind
  ·grind
 have hb:Ps S n t (P.getD i 0)<n/\gD S n (Bu t) (P.getD i 0) (Ps S n t (P.getD i 0)):=by
  unfold Ps;rw[dif_pos hex];exact Classical.choose_spec hex
 exact⟨h.inv,hyn,hyr,hb.1,hb.2,p,hpn,hyp,hp2,o.at_lt hi hp⟩
theorem Ready.best_eq(o:Ordered S r n P){t:List Int}{i:Nat}(h:Ready S r n P t i)(hi:i<P.length){z:Nat}(hz:z<n)(hz2:Bu t z≠-2)(hb:gD S n (Bu t) (P.getD i 0) z):z=Ps S n t (P.getD i 0):=by
 have b:=h.best o hi;exact(h.inv.antisymm ((hb _).2 ((b.best _).1 (.refl _))) ((b.best _).2 ((hb _).1 (.refl _))) hz hz2).symm
theorem Ready.next(o:Ordered S r n P){t:List Int}{i:Nat}(h:Ready S r n P t i)(hi:i<P.length):Ready S r n P (t.set (P.getD i 0) (Ps S n t (P.getD i 0):Int)) (i+1):=by
 have b:=h.best o hi;have e:=fH   (v:=Ps S n t (P.getD i 0)) (by rw[h.len];exact b.hy);refine⟨by rw[e];exact b.inv',by rw[Cm];exact h.len,λx hx=>?_⟩;rw[e];unfold Si
 split
 ·omega
 ·refine h.done x ?_;rcases zzL28.1 hx with rfl|hx
  ·grind
  ·rw[fm hi]at hx;rcases zzL14.1 hx with hx|hx
   ·grind
   ·grind
theorem Ready.more(o:Ordered S r n P){t:List Int}(h:Ready S r n P t P.length)(i:Nat):Ready S r n P t i:=
 ⟨h.inv,h.len,λx hx=>h.done x (by
  grind)⟩
theorem Ready.full(o:Ordered S r n P){t:List Int}(h:Ready S r n P t P.length):gE S r n (Bu t):=λx hx hr=>h.done x (by rw[OU];exact(o.mem x).2 hr)
theorem Ready.round(o:Ordered S r n P){t:List Int}(h:Ready S r n P t 0):∀ i,i<=P.length->Ready S r n P (BL S n P t i) i:=by
 intro i
 induction i with
 | zero=>intro _;exact h
 | succ i ih=>intro hi;exact(ih (by omega)).next o (by omega)
theorem yR(o:Ordered S r n P):Ready S r n P (Jl n r) 0:=by
 obtain⟨h1,h2,h3⟩:=Ab2 o;exact⟨h1,h2,λx hx=>by grind⟩
theorem Ready.rounds(o:Ordered S r n P):∀ j,Ready S r n P (WT S n P (Jl n r) j) 0:=by
 intro j
 induction j with
 | zero=>exact yR o
 | succ j ih=>exact((ih.round o) _ (zzL8 _)).more o 0
theorem Ready.rounds'(o:Ordered S r n P)(j:Nat):Ready S r n P (WT S n P (Jl n r) (j+1)) P.length:=(Ready.rounds o j).round o _ (zzL8 _)
theorem qH(o:Ordered S r n P){t:List Int}{k:Nat}(h:Ready S r n P t P.length)(q:QB S r n (Bu t) λ_=>k):QB S r n (Bu (BL S n P t P.length)) λ_=>k+1:=by
 have key:∀ i,i<=P.length->QB S r n (Bu (BL S n P t i)) (λx=>if x∈P.take i then k+1 else k)/\gE S r n (Bu (BL S n P t i)):=by
  intro i
  induction i with
  | zero=>intro _;exact⟨by simpa [BL] using q,h.full o⟩
  | succ i ih=>
   intro hi;obtain⟨q1,f1⟩:=ih (by omega);have rd:=(h.more o 0).round o i (by omega);have b:=rd.best o (by omega);have e:=fH   (v:=Ps S n (BL S n P t i) (P.getD i 0)) (by rw[rd.len];exact b.hy)
   constructor
   ·show QB S r n (Bu ((BL S n P t i).set _ _)) _
    rw[e];have:=b.qb (k:=k) o.hS o.hr f1 (λx _=>by split<;>omega) q1;intro x hx hp z hz;refine this x hx hp z ?_;rw[fm (by omega)]at hz
    by_cases e1:x=P.getD i 0
    ·grind
    ·grind
   ·show gE S r n (Bu ((BL S n P t i).set _ _))
    rw[e];intro x hx hr;unfold Si
    split
    ·omega
    ·exact f1 x hx hr
 have q1:=(key _ (zzL8 _)).1;rw[OU]at q1;have rd:=(h.more o 0).round o _ (zzL8 _);intro x hx hp z hz;refine q1 x hx hp z ?_
 dsimp only at hz ⊢
 by_cases e:x∈P
 ·rw[if_pos e];exact hz
 ·rw[if_neg e]
  have hxr:x=r:=by
   rcases zzL28.1 ((o.mem x).2 (rd.inv.rc x hx hp)) with h1|h1
   ·exact h1
   ·exact absurd h1 e
  subst hxr;exact .root hz.av.ne k
def BZ(S:Nat->List Nat)(n:Nat)(P:List Nat)(t:List Int):Prop:=∀ i,i<P.length->Bu t (P.getD i 0)=(Ps S n t (P.getD i 0):Int)
theorem DV{t:List Int}(o:Ordered S r n P)(hl:t.length=n)(h:BZ S n P t):∀ i,i<=P.length->BL S n P t i=t:=by
 intro i
 induction i with
 | zero=>intro _;rfl
 | succ i ih=>
  intro hi;unfold BL;rw[ih (by omega),<- h i (by omega)]
  have hlt:P.getD i 0<t.length:=by rw[hl];exact o.lt (Nb _ (Wy (by omega)))
  unfold Bu;rw[Ag _ _ _ hlt];exact List.set_getElem_self hlt
theorem wP(o:Ordered S r n P):∃ J,(∀ j,j<J->¬ BZ S n P (WT S n P (Jl n r) j))/\BZ S n P (WT S n P (Jl n r) J):=by
 obtain⟨K,hK⟩:=lj   n
 have hq:∀ k,QB S r n (Bu (WT S n P (Jl n r) (k+1))) λ_=>k:=by
  intro k
  induction k with
  | zero=>exact vB (Ready.rounds' o 0).inv
  | succ k ih=>exact qH o (Ready.rounds' o k) ih
 have hst :=λi hi=>by
  have rd:=Ready.rounds' o K;exact((rd.more o i).best o hi).same o.hS o.hr (rd.full o) (rd.done _ (Nb _ (by grind))) (pE rd.inv hK (hq K))
 have key:∀ m,(∃ J,J<=m/\BZ S n P (WT S n P (Jl n r) J))->∃ J,(∀ j,j<J->¬ BZ S n P (WT S n P (Jl n r) j))/\BZ S n P (WT S n P (Jl n r) J):=by
  intro m
  induction m with
  | zero=>grind
  | succ m ih=>
   rintro⟨J,hJ,h⟩
   by_cases hm:∃ J,J<=m/\BZ S n P (WT S n P (Jl n r) J)
   ·exact ih hm
   ·grind
 exact key _ ⟨K+1,zzL8 _,hst⟩
structure DomTree(S:Nat->List Nat)(r n:Nat)(P:List Nat)(t:List Int):Prop where
 inv:Inv S r n (pos (r::P)) (Bu t)
 len:t.length=n
 full:gE S r n (Bu t)
 exact_:js S r n (Bu t)
theorem OK(o:Ordered S r n P){j:Nat}(h:BZ S n P (WT S n P (Jl n r) j)):DomTree S r n P (WT S n P (Jl n r) j):=by
 have rd:=Ready.rounds o j
 have hall :=by
  have:=rd.round o _ (zzL8 _);rwa[DV o rd.len h _ (zzL8 _)]at this
 refine⟨rd.inv,rd.len,hall.full o,mD rd.inv o.hS o.hr (hall.full o) λy hy hne hr=>?_⟩
 have hm:y∈P:=by
  rcases zzL28.1 ((o.mem y).2 hr) with h1|h1
  ·exact absurd h1 hne
  ·exact h1
 obtain⟨i,hi,rfl⟩:=L5 hm;have b:=(hall.more o i).best o hi;rw[Ag _ _ _ hi]at b;have hs:=h i hi;rw[Ag _ _ _ hi]at hs;exact⟨_,hs,b.best⟩
end
section
variable {S:Nat->List Nat} {s s':Nat->Bool} {l o:List Nat}
theorem VL.before(h:VL S s l s' o):∀ A z B,o=A++z::B->z∈l\/∃ p∈B,z∈S p:=by
 induction h with
 | nil s=>intro A z B e;simp at e
 | skip h _ ih=>
  grind
 | @step s s1 s2 y l o1 o2 h a b iha ihb=>
  intro A z B e;rcases List.append_eq_append_iff.1 e with⟨C,hC1,hC2⟩|⟨C,hC1,hC2⟩
  ·
   cases C with
   | nil=>
    grind
   | cons c C=>
    grind
  ·cases C with
   | nil=>
    grind
   | cons c C=>
    grind
theorem Ord.ordered{n r:Nat}{L:List Nat}(hr:r<n)(hS:∀ x,x<n->∀ w∈S x,w<n)(h:Ord S r L):∃ P,L=r::P/\Ordered S r n P:=by
 have h1:=h.nodup;have h2:=h.mem;obtain⟨s',o,hv,rfl⟩:=h;refine⟨o.reverse,rfl,hr,hS,h1,λx=>by rw[h2 x,rc_iff],λi hi=>?_⟩
 have e:o.reverse=o.reverse.take i++o.reverse[i]::o.reverse.drop (i+1):=by rw[<- OQ hi,List.take_append_drop]
 have e2:o=(o.reverse.drop (i+1)).reverse++o.reverse[i]::(o.reverse.take i).reverse:=by
  have:=Bx List.reverse e
  simpa using this
 rw[Ag _ _ _ hi];rcases hv.before _ _ _ e2 with h3|⟨p,hp,hz⟩
 ·exact⟨r,zzL48 ..,h3⟩
 ·grind
end
def ky(S:Nat->List Nat)(w:Int):Nat->List Nat:=λx=>(S x).filter λy=>decide ((y:Int)≠w)
theorem qq(S:Nat->List Nat):ky S (-1)=S:=by
 funext x
 exact List.filter_eq_self.2 λy _=>Cr (by omega)
theorem vb(S:Nat->List Nat)(z:Nat):ky S (z:Int)=wo S z:=by
 funext x
 unfold ky wo
 congr 1
 funext y
 exact zzL61.2 ⟨λh e=>h (by rw[e]),λh e=>h (MT e)⟩
def M7(L:List (List Int))(r:Nat)(w:Int):List Bool:=if(r:Int)=w then List.replicate L.length false else JR (ky (sN L) w) L.length ((List.replicate L.length false).set r true) L.length
theorem UA(L:List (List Int))(r:Nat)(w:Int):(M7 L r w).length=L.length:=by
 unfold M7
 split
 ·simp
 ·rw[Yw];simp
theorem eU{L:List (List Int)}(hm:Nu L=true){r:Nat}(hr:r<L.length)(w:Int) :
  C3 (K5 L) (r:Int) w=some (M7 L r w):=by
 obtain⟨h1,h2,h3⟩:=mayS_iff.1 hm
 have hroom:(1000:Nat)<=room:=by decide
 have hS:=Zm hm;have hSw:∀ z,z<L.length->∀ y∈ky (sN L) w z,y<L.length:=λz hz y hy=>hS z hz y (zzL118.1 hy).1;have hgs:(K5 L).Succ=L:=rfl
 have hlenS:∀ a,(sN L a).length=(L.getD a []).length:=λa=>by simp[sN]
 let fl:List Nat->List Nat:=λl=>l.filter λy=>decide ((y:Int)≠w)
 have hin:∀(o:List Bool) (i:Nat),o.length=L.length->i<L.length->Ac (A5 (K5 L) w (i:Int)) ((0:Int),o)=some (if o.getD i false=true then mk o (ky (sN L) w i) else o):=λo i ho hi=>by
  have hb:=FC (h3 i hi)
  by_cases hoi:o.getD i false=true
  ·rw[if_pos hoi];have hmi:∀ k,(mk o (fl ((sN L i).take k))).getD i false=true:=λk=>(mk_at (n:=L.length) _ _ ho (λy hy=>hS i hi y (List.mem_of_mem_take (zzL118.1 hy).1)) i).2 (.inl hoi)
   have hml:∀ k,(mk o (fl ((sN L i).take k))).length=L.length:=λk=>by rw[iW,ho]
   refine Dt (A5 (K5 L) w (i:Int)) (λk=>(((k:Nat):Int),mk o (fl ((sN L i).take k)))) _ (L.getD i []).length (λk hk=>?_) ?_
   ·show A5 (K5 L) w (i:Int) (_,_)=_
    unfold A5;obtain⟨a0,a1⟩:=CW (h3 i hi) hk;simp only[hgs,Aq,hmi];rw[Ab (inb (by rw[hml];exact hi)),M9 (inb hi),Af,B8 hk,Af,Ab (inb hi),Ab (inb hk)]
    have hk':k<(sN L i).length:=by rw[hlenS];exact hk
    have hsk:(sN L i)[k]=((L.getD i []).getD k 0).toNat:=by rw[Ag _ _ _ hk];simp[sN]
    have hski:(((sN L i)[k]:Nat):Int)=(L.getD i []).getD k 0:=by rw[hsk];exact Tu a0
    have e:mk o (fl ((sN L i).take (k+1)))=if(L.getD i []).getD k 0=w then mk o (fl ((sN L i).take k)) else(mk o (fl ((sN L i).take k))).set ((L.getD i []).getD k 0).toNat true:=by
     rw[fm hk']
     show mk o (List.filter _ (_++[_]))=_
     rw[MO]
     by_cases hw:(L.getD i []).getD k 0=w
     ·rw[if_pos hw]
      have:List.filter (λy:Nat=>decide ((y:Int)≠w)) [(sN L i)[k]]=[]:=by rw[List.filter_cons,hski,hw];simp
      rw[this,List.append_nil]
     ·rw[if_neg hw]
      have:List.filter (λy:Nat=>decide ((y:Int)≠w)) [(sN L i)[k]]=[(sN L i)[k]]:=by rw[List.filter_cons,hski,if_pos (Cr hw)];rfl
      rw[this];unfold mk;rw[List.foldl_append,hsk]
      rfl
    by_cases hw:(L.getD i []).getD k 0=w
    ·have hne:((L.getD i []).getD k 0 !=w)=false:=by rw[hw];simp
     rw[hne,A2,Ar,w1 (by omega),e,if_pos hw]
    ·have hne:((L.getD i []).getD k 0 !=w)=true:=by rw[zzL88];exact hw
     rw[hne,Af,Ab (inb hi),Ab (inb hk),Ab ⟨a0,by rw[hml];exact a1⟩,w1 (by omega),e,if_neg hw]
     rfl
   ·show A5 (K5 L) w (i:Int) (_,_)=_
    unfold A5;simp only[hgs,Aq,hmi];rw[Ab (inb (by rw[hml];exact hi)),M9 (inb hi),Af,Ee,A2]
    have:(sN L i).take (L.getD i []).length=sN L i:=by rw[<- hlenS];exact OU ..
    rw[this]
    rfl
  ·have hof:o.getD i false=false:=by simpa using hoi
   rw[if_neg hoi]
   apply An
   unfold A5;simp only[hgs,Aq,hof];rw[Ab (inb (by rw[ho];exact hi)),M9 (inb hi),A2,A2]
 have hsw:∀ o:List Bool,o.length=L.length->Ac (A6 (K5 L) w) ((0:Int),o)=some (sw (ky (sN L) w) o L.length):=λo ho=>by
  refine Dt (A6 (K5 L) w) (λi=>(((i:Nat):Int),sw (ky (sN L) w) o i)) _ L.length (λi hi=>?_) ?_
  ·show A6 (K5 L) w (_,_)=_
   unfold A6
   have hl:(sw (ky (sN L) w) o i).length=L.length:=by rw[sw_len,ho]
   simp only[hl,B8 hi,Af];rw[hin _ i hl hi,w1 (by omega)]
   rfl
  ·show A6 (K5 L) w (_,_)=_
   unfold A6
   have hl:(sw (ky (sN L) w) o L.length).length=L.length:=by rw[sw_len,ho]
   simp only[hl,Ee,A2]
 unfold C3;simp only[hgs,Aq];rw[Ab ⟨by omega,Int.le_refl _,by omega⟩];unfold M7
 by_cases hrw:(r:Int)=w
 ·rw[if_pos hrw]
  have:((r:Int)==w)=true:=by simpa using hrw
  rw[this,Af]
 ·rw[if_neg hrw]
  have hne:((r:Int)==w)=false:=by rw[zzL40];exact hrw
  rw[hne,A2,Ab (inb (by simpa using hr))]
  have hl0:((List.replicate L.length false).set r true).length=L.length:=by simp
  have:Ac (A7 (K5 L) w) ((0:Int),(List.replicate L.length false).set r true)=some (JR (ky (sN L) w) L.length ((List.replicate L.length false).set r true) L.length):=by
   refine Dt (A7 (K5 L) w) (λj=>(((j:Nat):Int),JR (ky (sN L) w) L.length ((List.replicate L.length false).set r true) j)) _ L.length (λj hj=>?_) ?_
   ·show A7 (K5 L) w (_,_)=_
    unfold A7
    have hl:(JR (ky (sN L) w) L.length ((List.replicate L.length false).set r true) j).length=L.length:=by rw[Yw,hl0]
    simp only[hl,B8 hj,Af];rw[hsw _ hl,w1 (by omega)]
    rfl
   ·show A7 (K5 L) w (_,_)=_
    unfold A7
    have hl:(JR (ky (sN L) w) L.length ((List.replicate L.length false).set r true) L.length).length=L.length:=by rw[Yw,hl0]
    simp only[hl,Ee,A2]
  rw[this]
  rfl
theorem qJ{L:List (List Int)}(hm:Nu L=true){r:Nat}(hr:r<L.length){b:Nat}:(M7 L r (-1)).getD b false=true↔Rc (sN L) r b:=by
 unfold M7;rw[if_neg (by omega),qq,JS (Zm hm) hr b,rc_iff]
theorem iq{L:List (List Int)}(hm:Nu L=true){r:Nat}(hr:r<L.length){a b:Nat}(hb:b<L.length):(M7 L r (a:Int)).getD b false=true↔Av (sN L) r a b:=by
 unfold M7;rw[av_iff]
 by_cases h:r=a
 ·grind
 ·rw[if_neg (by omega),vb,JS (S:=wo _ a) (λz hz y hy=>Zm hm z hz y (zzL118.1 hy).1) hr b];simp[h]
def P8(L:List (List Int))(r a b:Nat):Bool:=(M7 L r (-1)).getD b false&&!(M7 L r (a:Int)).getD b false
theorem fG{L:List (List Int)}(hm:Nu L=true){r a b:Nat}(hr:r<L.length)(hb:b<L.length):P8 L r a b=true↔Rc (sN L) r b/\¬ Av (sN L) r a b:=by
 unfold P8;rw[Bg,Zq,<- Bool.not_eq_true,qJ hm hr,iq hm hr hb]
def TE(L:List (List Int))(r a b:Nat):Bool:=(List.range L.length).all λc=>decide (c=b) || !P8 L r c b || P8 L r c a
def U0(L:List (List Int))(r b:Nat):Nat->Int
 | 0=>-2
 | a+1=>if a≠b/\P8 L r a b=true/\TE L r a b=true then(a:Int) else U0 L r b a
def Yz(L:List (List Int))(r b:Nat):Int:=if b=r then -1 else U0 L r b L.length
def Zn(L:List (List Int))(r:Nat):List Int:=(List.range L.length).map (Yz L r)
theorem au(L:List (List Int))(r:Nat):(Zn L r).length=L.length:=by simp[Zn]
theorem qj{L:List (List Int)}{r b:Nat}(hb:b<L.length):(Zn L r).getD b 0=Yz L r b:=by unfold Zn;rw[Pg hb]
theorem pick_cases(L:List (List Int))(r b:Nat):∀ m,(U0 L r b m = -2/\∀ a,a<m->¬ (a≠b/\P8 L r a b=true/\TE L r a b=true))\/∃ a,a<m/\U0 L r b m=(a:Int)/\a≠b/\P8 L r a b=true/\TE L r a b=true:=by
 intro m
 induction m with
 | zero=>exact .inl ⟨rfl,λa ha=>absurd ha (Xi a)⟩
 | succ m ih=>
  unfold U0
  by_cases h:m≠b/\P8 L r m b=true/\TE L r m b=true
  ·grind
  ·grind
theorem DomTree.eq{L:List (List Int)}(hm:Nu L=true){r:Nat}(hr:r<L.length){P t:List _}(o:Ordered (sN L) r L.length P)(h:DomTree (sN L) r L.length P t):t=Zn L r:=by
 refine OV (by rw[h.len,au]) λb h1 h2=>?_
 have hb:b<L.length:=by rw[<- h.len];exact h1
 rw[<- Ag _ _ 0 h1,<- Ag _ _ 0 h2,qj hb]
 show Bu t b=_
 have hov:∀ a b,b<L.length->Bu t b≠-2->(P8 L r a b=true↔UpTo _ b a):=λa b hb hp=>by
  rw[fG hm hr hb,h.exact_ b hb hp];exact⟨λk=>k.2,λk=>⟨h.inv.rc b hb hp,k⟩⟩
 unfold Yz
 by_cases hbr:b=r
 ·subst hbr;rw[if_pos rfl];exact h.inv.top
 ·rw[if_neg hbr];rcases h.inv.kind b hb with hk|hk|⟨z,hz⟩
  ·
   have hn :=λk=>h.full b hb k hk;rcases pick_cases L r b _ with⟨h3,_⟩|⟨a,_,_,_,h6,_⟩
   ·rw[hk,h3]
   ·exact absurd ((fG hm hr hb).1 h6).1 hn
  ·exact absurd hk hbr
  ·obtain⟨z1,z2,z3,z4⟩:=h.inv.up b hb z hz
   have hp:Bu t b≠-2:=by omega
   have hzo :=(hov z b hb hp).2 (.up hz (.refl _))
   have hzb:z≠b:=by rintro rfl;omega
   have hnear:TE L r z b=true:=all_range.2 λc hc=>by
    by_cases e:c=b
    ·simp[e]
    ·cases ho:P8 L r c b with
     | false=>simp
     | true=>
      have:=(hov c b hb hp).1 ho;rcases(anc_up hz).1 this with h3|h3
      ·exact absurd h3 e
      ·grind
   rcases pick_cases L r b L.length with⟨_,h3⟩|⟨a,h3,h4,h5,h6,h7⟩
   ·grind
   ·rw[h4,hz];have haU:=(hov a b hb hp).1 h6
    have ha1:UpTo (Bu t) z a:=by
     rcases(anc_up hz).1 haU with h8|h8
     ·exact absurd h8 h5
     ·exact h8
    have hap:=(h.inv.anc ha1 z1 z2).2.1
    have hza :=by
     have:=all_range.1 h7 z z1;simp only[hzo,hzb, D3]at this;exact(hov z a h3 hap).1 this
    rw[h.inv.antisymm ha1 hza z1 z2]
theorem kR{g:TGraph}(h:FO g=true):Nu g.Succ=true/\g=K5 g.Succ:=by
 unfold FO at h;rw[Bg]at h;refine⟨h.1,?_⟩;obtain⟨s,p⟩:=g;have:=MP h.2;simp only at this;unfold K5;rw[this]
theorem IP{a b:Nat}:(((a:Nat):Int)==(b:Int))=decide (a=b):=by
 grind
theorem kA{a b:Nat}:(((a:Nat):Int)!=(b:Int)) = !decide (a=b):=by
 unfold bne;rw[IP]
section
variable {L:List (List Int)} (hm:Nu L=true) {r:Nat} (hr:r<L.length)
def UL(L:List (List Int))(r a k:Nat):List Bool:=(List.range L.length).map λb=>if b<k then P8 L r a b else false
def UK(L:List (List Int))(r a:Nat):List Bool:=(List.range L.length).map λb=>P8 L r a b
def mf(L:List (List Int))(r:Nat):List (List Bool):=(List.range L.length).map λa=>UK L r a
theorem kd:(mf L r).length=L.length:=by simp[mf]
theorem qC{a:Nat}(ha:a<L.length):(mf L r).getD a []=UK L r a:=by unfold mf;rw[Pg ha]
theorem fU{a:Nat}:(UK L r a).length=L.length:=by simp[UK]
theorem cO{a b:Nat}(hb:b<L.length):(UK L r a).getD b false=P8 L r a b:=by unfold UK;rw[Pg hb]
include hm hr
omit hr in
theorem vV(a:Nat)(l5:List (List Bool))(hl5:l5.length=L.length)(ha:a<L.length):Ac (C8 (K5 L) (M7 L r (-1)) (a:Int) l5 (M7 L r (a:Int))) ((0:Int),List.replicate L.length false)=some (UK L r a):=by
 obtain⟨h1,h2,h3⟩:=mayS_iff.1 hm;have hgs:(K5 L).Succ=L:=rfl
 have e0:List.replicate L.length false=UL L r a 0:=by
  refine OV (by simp[UL]) λi h1 h2=>by simp[UL]
 have e1:UK L r a=UL L r a L.length:=by
  unfold UK UL
  exact Ho λi hi=>by rw[if_pos hi]
 have hlen:∀ k,(UL L r a k).length=L.length:=λk=>by simp[UL]
 rw[e0];refine Dt (C8 (K5 L) (M7 L r (-1)) (a:Int) l5 (M7 L r (a:Int))) (λk=>(((k:Nat):Int),UL L r a k)) _ L.length (λk hk=>?_) ?_
 ·show C8 (K5 L) _ _ _ _ (_,_)=_
  unfold C8;simp only[hgs,Aq,B8 hk,Af];rw[Ab (inb (by rw[hl5];exact ha)),Ab (inb (by rw[UA];exact hk)),Ab (λ_=>inb (by rw[UA];exact hk)),Ab (inb (by rw[hlen];exact hk)),w1 (by omega)]
  have:(UL L r a k).set k (bif (M7 L r (-1)).getD k false then !(M7 L r (a:Int)).getD k false else false)=UL L r a (k+1):=by
   unfold UL;rw[DU];refine Ho λi hi=>?_
   by_cases e:i=k
   ·subst e;rw[if_pos rfl,if_pos (by omega)];unfold P8
    cases(M7 L r (-1)).getD i false<;>rfl
   ·rw[if_neg e]
    by_cases e2:i<k
    ·rw[if_pos e2,if_pos (by omega)]
    ·rw[if_neg e2,if_neg (by omega)]
  rw[this]
 ·show C8 (K5 L) _ _ _ _ (_,_)=_
  unfold C8;simp only[hgs,Ee,A2];rw[e1]
theorem vW:Ac (Ix (K5 L) (r:Int) (M7 L r (-1))) ((0:Int),List.replicate L.length ([]:List Bool))=some (mf L r):=by
 obtain⟨h1,h2,h3⟩:=mayS_iff.1 hm;have hgs:(K5 L).Succ=L:=rfl
 have hroom:1000<=room:=by decide
 let M:Nat->List _:=λk=>(List.range L.length).map λa=>if a<k then UK L r a else[]
 have hM:∀ k,(M k).length=L.length:=λk=>by simp[M]
 have e0:List.replicate L.length []=M 0:=by
  refine OV (by simp[M]) λi h1 h2=>by simp[M]
 have e1:mf L r=M _:=Ho λi hi=>by rw[if_pos hi]
 rw[e0];refine Dt _ (λk=>(((k:Nat):Int),M k)) _ L.length (λk hk=>?_) ?_
 ·unfold Ix;simp only[hgs,Aq,B8 hk,Af];rw[Ab ⟨by omega,Int.le_refl _,by omega⟩,Ab (inb (by rw[hM];exact hk)),eU hm hr,Ar,vV hm k (M k) (hM k) hk,Ar,w1 (by omega)]
  have:(M k).set k (UK L r k)=M (k+1):=by
   rw[DU];refine Ho λi hi=>?_
   by_cases e:i=k
   ·grind
   ·grind
  rw[this]
 ·unfold Ix;simp only[hgs,Ee,A2];rw[e1]
omit hr in
theorem vX(a b:Nat)(ha:a<L.length)(hb:b<L.length):Ac (C9 (K5 L) (mf L r) (b:Int) (a:Int)) (true,(0:Int))=some (TE L r a b):=by
 obtain⟨h1,h2,h3⟩:=mayS_iff.1 hm;have hgs:(K5 L).Succ=L:=rfl
 let N:Nat->Bool:=λk=>(List.range k).all λc=>decide (c=b) || !P8 L r c b || P8 L r c a
 refine Dt (C9 (K5 L) (mf L r) (b:Int) (a:Int)) (λk=>(N k,((k:Nat):Int))) _ L.length (λk hk=>?_) ?_
 ·show C9 (K5 L) _ _ _ (_,_)=_
  unfold C9;simp only[hgs,Aq,B8 hk,Af,qC hk,kd,fU,cO hb,cO ha];rw[Ab (λ_=>inb hk),Ab (λ_=>inb hb),Ab (λ_=>inb hk),Ab (λ_=>inb ha),w1 (by omega),IP]
  have:(bif N k then(bif (bif decide (k=b) then true else !P8 L r k b) then true else P8 L r k a) else false)=N (k+1):=by
   show _=(List.range (k+1)).all _
   rw[oJ]
   show _=(N k&&_)
   cases N k<;>cases decide (k=b)<;>cases P8 L r k b<;>rfl
  rw[this]
 ·show C9 (K5 L) _ _ _ (_,_)=_
  unfold C9;simp only[hgs,Ee,A2]
  rfl
def Ry(L:List (List Int))(r b:Nat)(x:Int):List Int:=(List.range L.length).map λj=>if j<b then Yz L r j else if j=b then x else 0
omit hm hr in
theorem MC{b:Nat}{x:Int}:(Ry L r b x).length=L.length:=by simp[Ry]
omit hm hr in
theorem MD{b:Nat}{x y:Int}:(Ry L r b x).set b y=Ry L r b y:=by
 unfold Ry;rw[DU];refine Ho λi hi=>?_
 by_cases e:i=b
 ·subst e;rw[if_pos rfl,if_neg (by omega),if_pos rfl]
 ·rw[if_neg e,if_neg e,if_neg e]
omit hm hr in
theorem UV{b:Nat}:Ry L r b (Yz L r b)=Ry L r (b+1) 0:=by
 unfold Ry;refine Ho λi hi=>?_
 by_cases e:i<b
 ·rw[if_pos e,if_pos (by omega)]
 ·rw[if_neg e]
  by_cases e2:i=b
  ·subst e2;rw[if_pos rfl,if_pos (by omega)]
  ·rw[if_neg e2,if_neg (by omega)];split<;>rfl
omit hr in
theorem vY(b:Nat)(hb:b<L.length)(hbr:b≠r):Ac (B4 (K5 L) (r:Int) (mf L r) (b:Int)) ((0:Int),Ry L r b (-2))=some (Ry L r b (U0 L r b L.length)):=by
 obtain⟨h1,h2,h3⟩:=mayS_iff.1 hm;have hgs:(K5 L).Succ=L:=rfl;refine Dt (B4 (K5 L) (r:Int) (mf L r) (b:Int)) (λk=>(((k:Nat):Int),Ry L r b (U0 L r b k))) _ L.length (λk hk=>?_) ?_
 ·show B4 (K5 L) _ _ _ (_,_)=_
  unfold B4
  have hne:decide (b=r)=false:=by simp[hbr]
  simp only[hgs,Aq,B8 hk,Af,qC hk,kd,fU,cO hb,IP,kA,hne,K2];rw[Ab (λ_=>inb hk),Ab (λ_=>inb hb),vX hm k b hk hb]
  by_cases hkb:k=b
  ·have e:U0 L r b (k+1)=U0 L r b k:=by show(if _ then _ else _)=_;rw[if_neg (λh=>h.1 hkb)]
   rw[Cr hkb,Af,Af,Ar,w1 (by omega),e]
  ·rw[C0 hkb,A2]
   cases ho:P8 L r k b with
   | false=>
    have e:U0 L r b (k+1)=U0 L r b k:=by show(if _ then _ else _)=_;rw[if_neg (λh=>by rw[ho]at h;exact absurd h.2.1 (by decide))]
    rw[K2,Af,Ar,w1 (by omega),e]
   | true=>
    rw[D3,A2,Ar]
    cases hn:TE L r k b with
    | false=>
     have e:U0 L r b (k+1)=U0 L r b k:=by show(if _ then _ else _)=_;rw[if_neg (λh=>by rw[hn]at h;exact absurd h.2.2 (by decide))]
     rw[A2,Ar,w1 (by omega),e]
    | true=>
     have e:U0 L r b (k+1)=(k:Int):=by show(if _ then _ else _)=_;rw[if_pos ⟨hkb,ho,hn⟩]
     rw[Af,Ab (inb (by rw[MC];exact hb)),Ar,w1 (by omega),e,MD]
 ·show B4 (K5 L) _ _ _ (_,_)=_
  unfold B4;simp only[hgs,Ee,A2]
omit hr in
theorem vZ:Ac (Da (K5 L) (r:Int) (mf L r)) ((0:Int),List.replicate L.length (0:Int))=some (Zn L r):=by
 obtain⟨h1,h2,h3⟩:=mayS_iff.1 hm;have hgs:(K5 L).Succ=L:=rfl
 have e0:List.replicate L.length (0:Int)=Ry L r 0 0:=by
  refine OV (by simp[Ry]) λi h1 h2=>by simp[Ry]
 have e1:Zn L r=Ry L r L.length 0:=Ho λi hi=>by rw[if_pos hi]
 rw[e0];refine Dt (Da (K5 L) (r:Int) (mf L r)) (λk=>(((k:Nat):Int),Ry L r k 0)) _ L.length (λk hk=>?_) ?_
 ·show Da (K5 L) _ _ (_,_)=_
  unfold Da;simp only[hgs,Aq,B8 hk,Af];rw[Ab (inb (by rw[MC];exact hk)),IP,MD,MD]
  by_cases hkr:k=r
  ·rw[Cr hkr,Af,Ab (inb (by rw[MC];exact hk)),Ar]
   have hd:Ac (B4 (K5 L) (r:Int) (mf L r) (k:Int)) ((0:Int),Ry L r k (-1))=some (Ry L r k (-1)):=by
    apply An
    unfold B4;simp only[kA,Cr hkr,D3,od,A2]
   rw[hd,Ar,w1 (by omega)]
   have:Yz L r k = -1:=by unfold Yz;rw[if_pos hkr]
   rw[<- this,UV]
  ·rw[C0 hkr,A2,Ar,vY hm k hk hkr,Ar,w1 (by omega)]
   have:Yz L r k=U0 L r k L.length:=by unfold Yz;rw[if_neg hkr]
   rw[<- this,UV]
 ·show Da (K5 L) _ _ (_,_)=_
  unfold Da;simp only[hgs,Ee,A2];rw[e1]
end
def OM(g:TGraph)(r:Int):List Int:=if FO g=true/\0<=r/\r<(g.Succ.length:Int) then Zn g.Succ r.toNat else[]
theorem iS(g:TGraph)(h:Fits g.Succ)(r:Int):Kv g r=some (OM g r):=by
 have hroom:1000<=room:=by decide
 unfold Kv OM;rw[mO g h,Ar]
 cases hmg:FO g with
 | false=>
  rfl
 | true=>
  rw[D3,A2]
  by_cases h0:r<0
  ·grind
  ·rw[C0 h0,A2]
   by_cases h1:g.Succ.length<=r
   ·grind
   ·rw[C0 h1,A2,if_pos ⟨rfl,by omega,by omega⟩];obtain⟨hms,hg⟩:=kR hmg;obtain⟨hl1,hl2,hl3⟩:=mayS_iff.1 hms;obtain⟨q,rfl⟩:∃ q:Nat,r=q:=⟨r.toNat,by omega⟩
    have hq:q<g.Succ.length:=by omega
    rw[hg];have hgs:(K5 _).Succ=g.Succ:=rfl;simp only[hgs,Aq];rw[eU hms hq,Ar,Ab ⟨by omega,Int.le_refl _,by omega⟩,vW hms hq,Ar,Ab ⟨by omega,Int.le_refl _,by omega⟩,vZ hms,Ar]
def upD(t:List Int):Nat->Int->Option (List Int)
 | 0,_=>none
 | k+1,a=>if 0<=a/\a<(t.length:Int) then(if t.getD a.toNat 0 = -1 then some [a] else(upD t k (t.getD a.toNat 0)).map λl=>a::l) else none
def E5(t:List Int)(a:Int):List Int:=(upD t t.length a).getD []
def Ab6(l:List Int):Option (List Int)->Unit ⊕ List Int
 | none=>.inl ()
 | some q=>.inr (l++q)
theorem mg(t:List Int)(ht:t.length<=1000):∀(k:Nat) (a:Int) (l:List Int),l.length+k=t.length->Ac (Cl t) (a,l)=some (Ab6 l (upD t k a)):=by
 have hroom:2000<=room:=by decide
 intro k
 induction k with
 | zero=>
  intro a l hl
  apply An
  unfold Cl;have:decide ((l.length:Int)<t.length)=false:=C0 (by omega);simp only[this]
  rfl
 | succ k ih=>
  intro a l hl;have hlt:decide (l.length<(t.length:Int))=true:=Cr (by omega);unfold upD
  by_cases h0:0<=a
  ·by_cases h1:a<t.length
   ·have hin:A0 a _:=⟨h0,h1⟩;rw[if_pos ⟨h0,h1⟩]
    by_cases ht1:t.getD a.toNat 0 = -1
    ·apply An
     unfold Cl;simp only[hlt,Cr h0,Cr h1];rw[Ab (by simp;omega),Ab hin,ht1]
     rfl
    ·rw[if_neg ht1]
     have hs:Cl t (a,l)=some (.next (t.getD a.toNat 0,l++[a])):=by
      unfold Cl;have hb :=zzL40.2 ht1;simp only[hlt,Cr h0,Cr h1,Af];rw[Ab (by simp;omega),Ab hin,hb,A2,Ab hin]
     rw[Au hs,ih _ _ (by simp;omega)]
     cases upD t k _ with
     | none=>rfl
     | some q=>show some (Sum.inr _)=some (Sum.inr _);simp
   ·rw[if_neg (by omega)]
    apply An
    unfold Cl;simp only[hlt,Cr h0,C0 h1,Af]
    rfl
  ·rw[if_neg (by omega)]
   apply An
   unfold Cl;simp only[hlt,C0 h0,Af]
   rfl
theorem iR(t:List Int)(ht:t.length<=1000)(a:Int):Gd t a=some (E5 t a):=by
 unfold Gd E5;rw[mg t ht t.length a [] (by simp)]
 cases upD t _ a with
 | none=>rfl
 | some q=>rfl
theorem kv(t:List Int):∀ k a q,upD t k a=some q->q.length<=k/\1<=q.length:=by
 intro k
 induction k with
 | zero=>intro a q h;cases h
 | succ k ih=>
  intro a q h;unfold upD at h
  split at h
  ·split at h
   ·cases h;simp
   ·cases hu:upD t k _ with
    | none=>rw[hu]at h;cases h
    | some q'=>grind
  ·cases h
theorem aa(t:List Int)(a:Int):(E5 t a).length<=t.length:=by
 unfold E5
 cases h:upD t _ a with
 | none=>simp
 | some q=>exact(kv t _ _ _ h).1
theorem pathD_nil{t:List Int}{a:Int}:E5 t a=[]↔upD t t.length a=none:=by
 unfold E5
 cases h:upD t _ a with
 | none=>simp
 | some q=>have:=(kv t _ _ _ h).2;simp;intro e;subst e;simp at this
def topsK(t:List Int)(k:Nat):Nat:=((List.range k).filter λa=>decide (t.getD a 0 = -1)).length
def pn(t:List Int)(a:Nat):Bool:=decide (t.getD a 0 = -2) || !decide (E5 t (a:Int)=[])
def M8(t:List Int):Bool:=(List.range t.length).all (pn t)&&decide (topsK t t.length=1)
theorem HQ(t:List Int)(k:Nat):topsK t (k+1)=topsK t k+if t.getD k 0 = -1 then 1 else 0:=by
 unfold topsK;rw[Zr,MO]
 by_cases h:t.getD k 0 = -1
 ·grind
 ·grind
theorem qh(t:List Int)(k:Nat):topsK t k<=k:=by
 exact Tw (List.length_filter_le ..) (by simp)
theorem pW{l:List Int}:(((l.length:Nat):Int)==(0:Int))=decide (l=[]):=by
 cases l with
 | nil=>rfl
 | cons x l=>simp;omega
theorem iz(t:List Int)(ht:t.length<=1000):Ac (B2 t) ((0:Int),(0:Int))=some (bif (List.range t.length).all (pn t) then .inl ((topsK t t.length:Nat):Int) else .inr false):=by
 have body:∀ k,k<t.length->B2 t (((topsK t k:Nat):Int),(k:Int))=some (bif pn t k then .next (((topsK t (k+1):Nat):Int),((k+1:Nat):Int)) else .done (.inr false)):=λk hk=>by
  have hle:=qh t k;unfold B2;simp only[Aq,B8 hk,Af];rw[Ab (inb hk)]
  have e1:(bif (t.getD k 0==(-1:Int)) then some (w64 (((topsK t k:Nat):Int)+1)) else some ((topsK t k:Nat):Int))=some ((topsK t (k+1):Nat):Int):=by
   rw[HQ]
   by_cases h:t.getD k 0 = -1
   ·rw[if_pos h,zzL85.2 h,Af,w1 (by omega)]
   ·rw[if_neg h,zzL40.2 h,A2];rfl
  rw[e1,Ar]
  by_cases h2:t.getD k 0 = -2
  ·have hb:(t.getD k 0 !=(-2:Int))=false:=by rw[h2];rfl
   have ho:pn t k=true:=by unfold pn;rw[Cr h2];rfl
   rw[hb,show(false==true)=false from rfl,A2,Ar,A2,A2,Ab (inb hk),w1 (by omega),ho,Af]
  ·have hb:(t.getD k 0 !=(-2:Int))=true:=zzL88.2 h2
   have ho:pn t k = !decide (E5 t (k:Int)=[]):=by unfold pn;rw[C0 h2];rfl
   rw[hb,show(true==true)=true from rfl,Af,iR t ht,Ar,Af,pW,Ab (inb hk),w1 (by omega),ho]
   cases decide (E5 t (k:Int)=[])<;>rfl
 have:=Hv (B2 t) (λk=>(((topsK t k:Nat):Int),((k:Nat):Int))) (pn t) (.inl ((topsK t t.length:Nat):Int)) (.inr false) t.length (λi hi hp=>by
   show B2 t _=_;rw[body i hi,hp,Af]) (λi hi hp=>by
   show B2 t _=_;rw[body i hi,hp,A2]) (by
   show B2 t _=_
   unfold B2
   simp only[Ee,A2])
 exact this
theorem uZ(t:List Int)(ht:t.length<=1000):J3 t=some (M8 t):=by
 unfold J3 M8;rw[iz t ht]
 cases(List.range _).all _ with
 | false=>rfl
 | true=>
  rw[ Mx]
  show some _=_
  have:(1:Int)=(1:Nat):=rfl;rw[this,IP]
theorem find_first(p:Int->Bool):∀ l:List Int,(∃ n,n<l.length/\(∀ i,i<n->p (l.getD i 0)=false)/\p (l.getD n 0)=true/\l.find? p=some (l.getD n 0))\/((∀ i,i<l.length->p (l.getD i 0)=false)/\l.find? p=none):=by
 intro l
 induction l with
 | nil=>grind
 | cons x l ih=>
  cases hx:p x with
  | true=>exact .inl ⟨0,by simp,λi hi=>absurd hi (Xi i),by simpa using hx,by simp[ hx]⟩
  | false=>
   rcases ih with⟨n,h1,h2,h3,h4⟩|⟨h1,h2⟩
   ·refine .inl ⟨n+1,by simpa using h1,λi hi=>?_,by simpa using h3,by grind⟩
    cases i with
    | zero=>simpa using hx
    | succ i=>grind
   ·grind
def Ru(t:List Int)(a b:Int):Int:=if M8 t=true then((E5 t a).find? λx=>(E5 t b).contains x).getD (-2) else -2
def DK(t:List Int)(a b:Int):Bool:=Ru t a b==a&&Ru t a b !=-2
theorem xx(t:List Int)(ht:t.length<=1000)(a b:Int):Ku t a b=some (Ru t a b):=by
 unfold Ku Ru;rw[uZ t ht,Ar]
 cases M8 t with
 | false=>rfl
 | true=>
  rw[D3, iR t ht,Ar,iR t ht,Ar];have hp:=aa t a;have hq:=aa t b
  have body:∀ k,k<(E5 t a).length->Eb (E5 t a) (E5 t b) (k:Int)=some (bif (E5 t b).contains _ then .done _ else .next _):=λk hk=>by
   unfold Eb;simp only[Aq,B8 hk];rw[Ab (inb hk),pZ _ _ (by omega), w1 (by omega),Ab (inb hk)]
   cases(E5 t b).contains _<;>rfl
  rcases find_first (λx=>(E5 t b).contains x) (E5 t a) with⟨n,h1,h2,h3,h4⟩|⟨h1,h2⟩
  ·have:=Dt (Eb (E5 t a) (E5 t b)) (λk=>(k:Nat)) (.inr ((E5 t a).getD n 0)) n (λk hk=>by
    grind) (by
    grind)
   have e:Ac _ (0:Int)=_:=this;rw[e, h4]
   rfl
  ·have:=Dt (Eb (E5 t a) (E5 t b)) (λk=>((k:Nat):Int)) (.inl ()) (E5 t a).length (λk hk=>by
    grind) (by
    unfold Eb
    simp only[Ee,A2])
   have e:Ac _ (0:Int)=_:=this;rw[e, h2]
   rfl
section
variable {S:Nat->List Nat} {r n:Nat} {P:List Nat} {t:List Int}
theorem DomTree.up(h:DomTree S r n P t):∀ k x,x<n->Bu t x≠-2->pos (r::P) x<k->∃ q,upD t k (x:Int)=some q/\(∀ w:Int,w∈q↔∃ z:Nat,w=(z:Int)/\UpTo (Bu t) x z) /\
  ∀ p:Int->Bool,(q.find? p=none/\∀ z:Nat,UpTo (Bu t) x z->p (z:Int)=false)\/∃ f:Nat,q.find? p=some (f:Int)/\UpTo (Bu t) x f/\p (f:Int)=true/\∀ z:Nat,UpTo (Bu t) x z->p (z:Int)=true->UpTo (Bu t) f z:=by
 intro k
 induction k with
 | zero=>omega
 | succ k ih=>
  intro x hx hp hk
  have hxt:(0:Int)<=(x:Int)/\(x:Int)<(t.length:Int):=by rw[h.len];omega
  unfold upD;rw[if_pos hxt,Aq];have hpx:t.getD x 0=Bu t x:=rfl;rw[hpx];rcases h.inv.kind x hx with h1|rfl|⟨z,hz⟩
  ·exact absurd h1 hp
  ·rw[if_pos h.inv.top];refine⟨_,rfl,λw=>?_,λp=>?_⟩
   ·rw[zzL18]
    constructor
    ·rintro rfl;exact⟨x,rfl,.refl _⟩
    ·rintro⟨z,rfl,hz⟩;rw[h.inv.root_anc.1 hz]
   ·cases hpp:p (x:Int) with
    | false=>exact .inl ⟨by simp[List.find?,hpp],λz hz=>by rw[h.inv.root_anc.1 hz];exact hpp⟩
    | true=>exact .inr ⟨x,by simp[List.find?,hpp],.refl _,hpp,λz hz _=>hz⟩
  ·obtain⟨z1,z2,z3,z4⟩:=h.inv.up x hx z hz;rw[hz,if_neg (by omega)];obtain⟨q,hq1,hq2,hq3⟩:=ih z z1 z2 (by omega);rw[hq1];refine⟨(x:Int)::q,rfl,λw=>?_,λp=>?_⟩
   ·rw[zzL28,hq2 w]
    constructor
    ·rintro(rfl|⟨y,rfl,hy⟩)
     ·exact⟨x,rfl,.refl _⟩
     ·exact⟨y,rfl,.up hz hy⟩
    ·rintro⟨y,rfl,hy⟩;rcases(anc_up hz).1 hy with rfl|hy
     ·exact .inl rfl
     ·exact .inr ⟨y,rfl,hy⟩
   ·cases hpp:p (x:Int) with
    | true=>exact .inr ⟨x,by simp[List.find?,hpp],.refl _,hpp,λy hy _=>hy⟩
    | false=>
     have hf:((x:Int)::q).find? p=q.find? p:=by simp[List.find?,hpp]
     rw[hf];rcases hq3 p with⟨e1,e2⟩|⟨f,e1,e2,e3,e4⟩
     ·refine .inl ⟨e1,λy hy=>?_⟩;rcases(anc_up hz).1 hy with rfl|hy
      ·exact hpp
      ·exact e2 y hy
     ·refine .inr ⟨f,e1,.up hz e2,e3,λy hy hpy=>?_⟩;rcases(anc_up hz).1 hy with rfl|hy
      ·rw[hpp]at hpy;cases hpy
      ·exact e4 y hy hpy
theorem Ordered.pos_lt(o:Ordered S r n P){x:Nat}(hx:x∈r::P):pos (r::P) x<n:=by
 obtain⟨j,hj,rfl⟩:=L5 hx;rw[(QT o.nodup hj).2];have:=Uj n _ o.nodup λy hy=>o.lt hy;omega
theorem DomTree.path(h:DomTree S r n P t)(o:Ordered S r n P){x:Nat}(hx:x<n)(hp:Bu t x≠-2):E5 t (x:Int)≠[]/\(∀ w:Int,w∈E5 t (x:Int)↔∃ z:Nat,w=(z:Int)/\UpTo (Bu t) x z) /\
  ∀ p:Int->Bool,((E5 t (x:Int)).find? p=none/\∀ z:Nat,UpTo (Bu t) x z->p (z:Int)=false)\/∃ f:Nat,(E5 t (x:Int)).find? p=some (f:Int)/\UpTo (Bu t) x f/\p (f:Int)=true/\∀ z:Nat,UpTo (Bu t) x z->p (z:Int)=true->UpTo (Bu t) f z:=by
 have hm:=(o.mem x).2 (h.inv.rc x hx hp);obtain⟨q,h1,h2,h3⟩:=h.up n x hx hp (o.pos_lt hm)
 have e:E5 t x=q:=by unfold E5;rw[h.len,h1];rfl
 rw[e];refine⟨λe=>?_,h2,h3⟩;have:=(h2 _).2 ⟨x,rfl,.refl _⟩;rw[e]at this
 cases this
theorem DomTree.nopath(h:DomTree S r n P t){x:Nat}(hx:x<n)(hp:Bu t x = -2):E5 t (x:Int)=[]:=by
 rw[pathD_nil]
 cases hl:t.length with
 | zero=>rfl
 | succ k=>
  unfold upD;rw[if_pos ⟨by omega,by rw[h.len];omega⟩,Aq,show t.getD x 0=Bu t x from rfl,hp]
  cases k with
  | zero=>rfl
  | succ k =>   rfl
theorem DomTree.right(h:DomTree S r n P t)(o:Ordered S r n P):M8 t=true:=by
 unfold M8;rw[Bg]
 constructor
 ·refine all_range.2 λx hx=>?_;rw[h.len]at hx;unfold pn
  by_cases hp:Bu t x = -2
  ·rw[show t.getD x 0=Bu t x from rfl,hp];rfl
  ·rw[C0 (h.path o hx hp).1];simp
 ·apply Cr
  have key:∀ k,k<=n->topsK t k=if r<k then 1 else 0:=by
   intro k
   induction k with
   | zero=>intro _;rfl
   | succ k ih=>
    intro hk;rw[HQ]
    have hr:t.getD k 0 = -1↔k=r:=by
     constructor
     ·intro he;rcases h.inv.kind k (by omega) with h1|h1|⟨z,hz⟩
      ·rw[show t.getD k 0=Bu t k from rfl]at he;omega
      ·exact h1
      ·rw[show t.getD k 0=Bu t k from rfl]at he;omega
     ·rintro rfl;exact h.inv.top
    by_cases hkr:k=r
    ·grind
    ·grind
  rw[h.len,key n (zzL8 _),if_pos o.hr]
theorem DomTree.meet(h:DomTree S r n P t)(o:Ordered S r n P){a b:Nat}(ha:a<n)(hb:b<n)(hpa:Bu t a≠-2)(hpb:Bu t b≠-2):∃ m:Nat,Ru t (a:Int) (b:Int)=(m:Int)/\MeetAt (Bu t) a b m/\m<n/\Bu t m≠-2:=by
 have rd:Ready S r n P t _:=⟨h.inv,h.len,λx hx=>by rw[OU]at hx;exact h.full x (o.lt hx) ((o.mem x).1 hx)⟩;obtain⟨c,hc1,hc2,hc3⟩:=h.inv.meets (rd.inj o) fJ _ a b (zzL8 _) ha hb hpa hpb;refine⟨c,?_,hc1,hc2,hc3⟩;unfold Ru;rw[if_pos (h.right o)];obtain⟨hca,hcb⟩:=(hc1 c).1 (.refl _)
 have hin:∀ z:Nat,(E5 t _).contains z=true↔UpTo (Bu t) b z:=λz=>by
  rw[zzL68,(h.path o hb hpb).2.1]
  constructor
  ·grind
  ·grind
 rcases(h.path o ha hpa).2.2 λx=>(E5 t b).contains x with⟨_,h2⟩|⟨f,h1,h2,h3,h4⟩
 ·grind
 ·rw[h1];have hfc:=h4 c hca ((hin c).2 hcb);have hcf:=(hc1 f).2 ⟨h2,(hin f).1 h3⟩;rw[h.inv.antisymm hcf hfc hc2 hc3]
  rfl
theorem DomTree.meet_none(h:DomTree S r n P t)(o:Ordered S r n P){a b:Nat}(ha:a<n)(hb:b<n)(hp:Bu t a = -2\/Bu t b = -2):Ru t (a:Int) (b:Int) = -2:=by
 unfold Ru;rw[if_pos (h.right o)];rcases hp with hp|hp
 ·rw[h.nopath ha hp];rfl
 ·rw[h.nopath hb hp]
  have:(E5 t a).find? (λx=>[].contains x)=none:=List.find?_eq_none.2 λx _=>by simp
  rw[this];rfl
theorem DomTree.over(h:DomTree S r n P t)(o:Ordered S r n P){a b:Nat}(ha:a<n)(hb:b<n):DK t (a:Int) (b:Int)=true↔Bu t b≠-2/\UpTo (Bu t) b a:=by
 unfold DK;rw[Bg,zzL85,zzL88]
 by_cases hpa:Bu t a = -2
 ·rw[h.meet_none o ha hb (.inl hpa)]
  constructor
  ·omega
  ·rintro⟨h1,h2⟩;exact absurd hpa (h.inv.anc h2 hb h1).2.1
 ·by_cases hpb:Bu t b = -2
  ·rw[h.meet_none o ha hb (.inr hpb)]
   constructor
   ·omega
   ·grind
  ·obtain⟨m,hm1,hm2,hm3,hm4⟩:=h.meet o ha hb hpa hpb;rw[hm1]
   constructor
   ·rintro⟨h1,_⟩;have h1:=MT h1;subst h1;exact⟨hpb,((hm2 _).1 (.refl _)).2⟩
   ·rintro⟨_,h2⟩;have:=(hm2 a).2 ⟨.refl _,h2⟩;have h3:=((hm2 m).1 (.refl _)).1;rw[h.inv.antisymm h3 this ha hpa];exact⟨rfl,by omega⟩
theorem DomTree.over_dom(h:DomTree S r n P t)(o:Ordered S r n P){a b:Nat}(ha:a<n)(hb:b<n):DK t (a:Int) (b:Int)=true↔Rc S r b/\¬ Av S r a b:=by
 rw[h.over o ha hb]
 constructor
 ·rintro⟨h1,h2⟩;exact⟨h.inv.rc b hb h1,(h.exact_ b hb h1 a).1 h2⟩
 ·rintro⟨h1,h2⟩;have:=h.full b hb h1;exact⟨this,(h.exact_ b hb this a).2 h2⟩
end
section
variable {L:List (List Int)} (hm:Nu L=true) {r:Nat} (hr:r<L.length)
include hm hr
theorem ar:∃ P,Ord (sN L) r (r::P)/\Ordered (sN L) r L.length P/\DomTree (sN L) r L.length P (Zn L r):=by
 obtain⟨O,hO⟩:=Ord.exist (Zm hm) hr;obtain⟨P,rfl,o⟩:=hO.ordered hr (Zm hm);obtain⟨J,_,hJ⟩:=wP o;have hd:=OK o hJ;refine⟨P,hO,o,?_⟩;rw[<- hd.eq hm hr o];exact hd
end
theorem LA{X:Type}(n:Nat)(p:Nat->Bool)(f:Int->Option (LR Int X))(yes no:X)(hn:∀ i:Nat,i<n->p i=true->f (i:Int)=some (.next ((i:Int)+1)))
  (hf:∀ i:Nat,i<n->p i=false->f (i:Int)=some (.done no)) (he:f (n:Int)=some (.done yes)):Ac f (0:Int)=some (bif (List.range n).all p then yes else no):=by
 have hg:∀ i,i<(List.range n).length->(List.range n).getD i 0=i:=λi hi=>by grind
 have:=Hi (List.range n) 0 p f yes no (λi hi hp=>by grind) (λi hi hp=>by grind) (by simpa using he) n 0 (by simp);rw[show(0:Int)=(0:Nat) from rfl,this,Mw]
theorem gq{n:Nat}{p:Nat->Bool}(h:(List.range n).all p=true):∀ i,i<n->p i=true:=λi hi=>zzL34.1 h i (by simpa using hi)
def Sv(L:List (List Int)):List Bool:=JR (sN L) L.length ((List.replicate L.length false).set 0 true) L.length
def Kz(l:List Int)(p:Fe):Bool:=decide (p.From=l)&&((p.Args.length:Int)==(l.length:Int))
def Nh(L:List (List Int))(b:Aj)(i:Nat):Bool:=(Sv L).getD i false&&!((b.End.Kind==1 || b.End.Kind==3)&&(b.End.Arg !=0))&&b.Phis.all (Kz ((Es L).getD i []))
def G5(f:TFunc):Bool:=Rl f&&(List.range f.Blocks.length).all λi=>Nh (Ci f) (f.Blocks.getD i default) i
theorem S8(f:TFunc):(Ci f).length=f.Blocks.length:=by simp[Ci]
theorem fN(L:List (List Int)):(Sv L).length=L.length:=by rw[Sv,Yw];simp
theorem tq{a b c d:Bool}{x:Option (LR Int (Unit ⊕ Bool))}:(bif (bif (!a) then true else(bif (bif b then true else c) then d else false)) then some (LR.done (Sum.inr false)) else x)=bif (a&&!((b || c)&&d)) then x else some (LR.done (Sum.inr false)):=by
 grind
theorem ub {f : TFunc} (hf : OkF f) : J5 f = some (G5 f) := by
  have hmax : f.Blocks.length ≤ maxLen := by have := hf.blocks; have : (64 : Nat) ≤ maxLen := by decide
                                             omega
  unfold J5 G5; rw [eV f hmax, Ar]
  cases hs : Rl f with
  | false => rfl
  | true =>
    have hm := Ri hs; have hlen := S8 f; obtain ⟨h1, h2⟩ := Ui hm
    have hpos : 0 < (Ci f).length := by have := (shape_iff.1 hs).1.1; omega
    simp only [Af, Mx]; have hr := uY hm hpos; rw [show (((0 : Nat) : Int)) = 0 from rfl] at hr; rw [hr, Ar]
    show ((Ac (Fm f (K5 (Ci f), 0) (Sv (Ci f))) 0).bind _) = _
    have hphi : ∀ i, i < f.Blocks.length → Ac _ (0 : Int) = some _ := fun i hi => by
      have hmem := Ai (d := (default : Aj)) hi; have hB := hf.block _ hmem
      have hpl : (K5 (Ci f)).Pred.length = f.Blocks.length := by rw [← hlen]; exact Se _
      have hpi : A0 (i : Int) (K5 (Ci f)).Pred.length := Ak (by omega)
      have key : ∀ j, j < (f.Blocks.getD i default).Phis.length → Fl f (K5 (Ci f), 0) (i : Int) (j : Int) = some (bif Kz ((Es (Ci f)).getD i []) _ then .next ((j : Int) + 1) else .done (.inr false)) := fun j hj => by
        have hp := TN hf hmem (Ai (d := (default : Fe)) hj); unfold Fl
        have hd : decide ((j : Int) < ((f.Blocks.getD i default).Phis.length : Int)) = true := by simpa using hj
        have hi1 := iQ ((f.Blocks.getD i default).Phis.getD j default).From ((K5 (Ci f)).Pred.getD i []) (by omega); simp only [Dq, hd, Af, Aa (Ak hj), Aa hpi, hi1, Ar]; rw [Aa (fun _ => Ak hj), Aa (fun _ => hpi), A8 hj (by have := hB.phis; omega)]; unfold Kz
        show (bif (bif (!decide (((f.Blocks.getD i default).Phis.getD j default).From = (Es (Ci f)).getD i [])) then true else ((((f.Blocks.getD i default).Phis.getD j default).Args.length : Int) != (((Es (Ci f)).getD i []).length : Int))) then _ else _) = _
        cases decide (((f.Blocks.getD i default).Phis.getD j default).From = (Es (Ci f)).getD i []) with
        | false => rfl
        | true =>
          grind
      have := Hi (f.Blocks.getD i default).Phis (default : Fe) (Kz ((Es (Ci f)).getD i [])) (Fl f (K5 (Ci f), 0) (i : Int)) (.inl ()) (.inr false) (fun j hj hp => by rw [key j hj, hp]; rfl) (fun j hj hp => by rw [key j hj, hp]; rfl) (by unfold Fl; simp) (f.Blocks.getD i default).Phis.length 0 (by omega); rw [Mw] at this; exact this
    have hrl := fN (Ci f)
    have key : ∀ i, i < f.Blocks.length → Fm f (K5 (Ci f), 0) (Sv (Ci f)) (i : Int) = some (bif Nh (Ci f) (f.Blocks.getD i default) i then .next ((i : Int) + 1) else .done (.inr false)) := fun i hi => by
      unfold Fm
      have hd : decide ((i : Int) < (f.Blocks.length : Int)) = true := by simpa using hi
      simp only [hd, Af, Aa (Ak hi), Aa (Ak (show i < (Sv (Ci f)).length by omega)), Dq, tq, hphi i hi, Ar, A8 hi (by have := hf.blocks; omega)]; unfold Nh
      cases ((Sv (Ci f)).getD i false && !(((f.Blocks.getD i default).End.Kind == 1 || (f.Blocks.getD i default).End.Kind == 3) && ((f.Blocks.getD i default).End.Arg != 0))) with
      | false => rfl
      | true => grind
    rw [LA f.Blocks.length (fun i => Nh (Ci f) (f.Blocks.getD i default) i) _ (.inl ()) (.inr false) (fun i hi hp => by rw [key i hi, hp]; rfl) (fun i hi hp => by rw [key i hi, hp]; rfl) (by unfold Fm; simp)]
    cases (List.range f.Blocks.length).all _ <;> rfl
theorem ap{f:TFunc}(h:G5 f=true):kh f:=λb hb p hp=>by
 simp only[G5,Bg]at h;obtain⟨i,hi,rfl⟩:=L5 hb;have h1:=gq h.2 i hi;rw[Ag _ _ _ hi]at h1;simp only[Nh,Bg]at h1;have h2:=zzL34.1 h1.2 p hp;simp only[Kz,Bg,Jm,zzL85]at h2;rw[h2.1];omega
def P2(l:List Cb)(i:Nat):Bool:=valS (l.getD i default).V&&(Mp l (l.getD i default).V==(i:Int))
def Mk(l:List Cb)(u:Cz):Bool:=!decide (Mp l u.V<0)
def defOf(l:List Cb)(v:Int):Cb:=l.getD (Mp l v).toNat default
def Ze(l:List Cb)(u:Cz):Bool:=((defOf l u.V).Shape.1==u.Shape.1)&&(((defOf l u.V).Shape.2==u.Shape.2)&&true)
def Zd(l:List Cb)(t:List Int)(u:Cz):Bool:=
 (decide ((defOf l u.V).Block<0) || ((defOf l u.V).Block==u.Block&&decide ((defOf l u.V).At<u.At))) || (!((defOf l u.V).Block==u.Block)&&!(Ru t (defOf l u.V).Block u.Block !=(defOf l u.V).Block))
def D2(f:TFunc):List Int:=OM (K5 (Ci f)) 0
def VA(f:TFunc)(l:Int):Int:=
 bif !G5 f then 5 else bif !Sh f l then 6 else bif !(List.range (A4 f).length).all (P2 (A4 f)) then 7 else bif !(Bw f).all (Mk (A4 f)) then 7 else
 bif !(Bw f).all (Ze (A4 f)) then 6 else bif !(Bw f).all (Zd (A4 f) (D2 f)) then 7 else 0
def K4(f:TFunc)(l:Int):Int:=bif decide (l<0) || decide (2<l) then 1 else bif !W1 f then 4 else VA f l
theorem SJ{l:List Cb}{v:Int}(h:¬ Mp l v<0):A0 (Mp l v) l.length:=by
 unfold Mp at h ⊢
 cases hx:l.findIdx? _ with
 | none=>grind
 | some i=>
  obtain⟨hi,_⟩:=List.findIdx?_eq_some_iff_getElem.1 hx;exact Ak hi
theorem fc{f:TFunc}(h:Rl f=true):(D2 f).length<=1000:=by
 have h1:=(Ui (Ri h)).1;unfold D2 OM
 split
 ·rw[au];show(Ci f).length<=1000;omega
 ·simp
theorem uJ(a b c:Bool)(m q x:Int):(Option.bind (α:=Unit ⊕ Int) (bif (bif a then true else(bif b then c else false)) then some (.inl ()) else((bif (b==false) then some m else some 0).bind λx31=>(bif (bif b then true else(x31 !=q)) then some (.inr 7) else some (.inl ())))) (λx32=>match x32 with | .inl _=>some (LR.next x) | .inr r34=>some (.done (.inr r34)))) =
  (some (bif (a || (b&&c)) || (!b&&!(m !=q)) then .next x else .done (.inr 7)):Option (LR Int (Unit ⊕ Int))):=by
 grind
theorem ue {f : TFunc} (hf : OkF f) (l : Int) (hm : Jb f = some (W1 f)) : Fh f l = some (K4 f l) := by
  unfold Fh K4; rw [show (bif decide (l < (0 : Int)) then true else decide ((2 : Int) < l)) = (decide (l < 0) || decide (2 < l)) by cases decide (l < (0 : Int)) <;> rfl]
  cases (decide (l < 0) || decide (2 < l)) with
  | true => rfl
  | false =>
  simp only [A2, hm, Ar]
  cases W1 f with
  | false => rfl
  | true =>
  simp only [D3, A2, ub hf, Ar, VA]
  cases hs : G5 f with
  | false => rfl
  | true =>
  simp only [D3, A2, ud hf, Ar]
  cases ht : Sh f l with
  | false => rfl
  | true =>
  simp only [D3, A2, xw hf, Ar]; have hdl := lw hf; have hul := MH hf
  have hL1 : Ac (S := Int) (X := (Unit ⊕ Int)) (Fk (A4 f)) (0 : Int) = some (bif (List.range (A4 f).length).all (P2 (A4 f)) then .inl () else .inr 7) := by
    have key : ∀ i, i < (A4 f).length → Fk (A4 f) (i : Int) = some (bif P2 (A4 f) i then .next ((i : Int) + 1) else .done (.inr 7)) := fun i hi => by
      unfold Fk P2
      have hd : decide ((i : Int) < ((A4 f).length : Int)) = true := by simpa using hi
      simp only [hd, Af, Aa (Ak hi), Dq, FF, Ar, Aa (fun _ => Ak hi), bu (A4 f) _ (by omega), A8 hi (by omega)]
      cases valS ((A4 f).getD i default).V with
      | false => rfl
      | true =>
        grind
    exact LA _ _ _ _ _ (fun i hi hp => by rw [key i hi, hp]; rfl) (fun i hi hp => by rw [key i hi, hp]; rfl) (by unfold Fk; simp)
  rw [hL1, Ar]
  cases (List.range (A4 f).length).all (P2 (A4 f)) with
  | false => rfl
  | true =>
  simp only [Af, D3, A2, xz hf (ap hs), Ar]
  have hL2 : Ac (S := Int) (X := (Unit ⊕ Int)) (Dw (A4 f) (Bw f)) (0 : Int) = some (bif (Bw f).all (Mk (A4 f)) then .inl () else .inr 7) := by
    have key : ∀ i, i < (Bw f).length → Dw (A4 f) (Bw f) (i : Int) = some (bif Mk (A4 f) ((Bw f).getD i default) then .next ((i : Int) + 1) else .done (.inr 7)) := fun i hi => by
      unfold Dw Mk
      have hd : decide ((i : Int) < ((Bw f).length : Int)) = true := by simpa using hi
      simp only [hd, Af, Aa (Ak hi), Dq, bu (A4 f) _ (by omega), Ar, A8 hi (by omega)]
      cases decide (Mp (A4 f) ((Bw f).getD i default).V < 0) <;> rfl
    have := Hi (Bw f) default (Mk (A4 f)) (Dw (A4 f) (Bw f)) (.inl ()) (.inr 7) (fun i hi hp => by rw [key i hi, hp]; rfl) (fun i hi hp => by rw [key i hi, hp]; rfl) (by unfold Dw; simp) (Bw f).length 0 (by omega); rw [Mw] at this; exact this
  rw [hL2, Ar]
  cases hF : (Bw f).all (Mk (A4 f)) with
  | false => rfl
  | true =>
  have hfound : ∀ i, i < (Bw f).length → A0 (Mp (A4 f) ((Bw f).getD i default).V) (A4 f).length := fun i hi => by
    have := zzL34.1 hF _ (Ai (d := (default : Cz)) hi); simp only [Mk, Zq, VC] at this; exact SJ this
  simp only [Af, D3, A2]
  have hL3 : Ac (S := Int) (X := (Unit ⊕ Int)) (Dx (A4 f) (Bw f)) (0 : Int) = some (bif (Bw f).all (Ze (A4 f)) then .inl () else .inr 6) := by
    have key : ∀ i, i < (Bw f).length → Dx (A4 f) (Bw f) (i : Int) = some (bif Ze (A4 f) ((Bw f).getD i default) then .next ((i : Int) + 1) else .done (.inr 6)) := fun i hi => by
      unfold Dx Ze defOf
      have hd : decide ((i : Int) < ((Bw f).length : Int)) = true := by simpa using hi
      simp only [hd, Af, Aa (Ak hi), Dq, bu (A4 f) _ (by omega), Ar, Aa (hfound i hi), A8 hi (by omega)]
      cases ((((A4 f).getD (Mp (A4 f) ((Bw f).getD i default).V).toNat default).Shape.1 == ((Bw f).getD i default).Shape.1) && ((((A4 f).getD (Mp (A4 f) ((Bw f).getD i default).V).toNat default).Shape.2 == ((Bw f).getD i default).Shape.2) && true)) <;> rfl
    have := Hi (Bw f) default (Ze (A4 f)) (Dx (A4 f) (Bw f)) (.inl ()) (.inr 6) (fun i hi hp => by rw [key i hi, hp]; rfl) (fun i hi hp => by rw [key i hi, hp]; rfl) (by unfold Dx; simp) (Bw f).length 0 (by omega); rw [Mw] at this; exact this
  rw [hL3, Ar]
  cases (Bw f).all (Ze (A4 f)) with
  | false => rfl
  | true =>
  have hsB : Rl f = true := by simp only [G5, Bg] at hs; exact hs.1
  have hmax : f.Blocks.length ≤ maxLen := by have := hf.blocks; have : (64 : Nat) ≤ maxLen := by decide
                                             omega
  simp only [Af, D3, A2, eV f hmax, hsB, Ar]; rw [iS _ (IZ (Ri hsB)).1 0, Ar]; have htl := fc hsB
  have hL4 : Ac (S := Int) (X := (Unit ⊕ Int)) (Cx (A4 f) (Bw f) (D2 f)) (0 : Int) = some (bif (Bw f).all (Zd (A4 f) (D2 f)) then .inl () else .inr 7) := by
    have key : ∀ i, i < (Bw f).length → Cx (A4 f) (Bw f) (D2 f) (i : Int) = some (bif Zd (A4 f) (D2 f) ((Bw f).getD i default) then .next ((i : Int) + 1) else .done (.inr 7)) := fun i hi => by
      unfold Cx Zd defOf
      have hd : decide ((i : Int) < ((Bw f).length : Int)) = true := by simpa using hi
      simp only [hd, Af, Aa (Ak hi), Dq, bu (A4 f) _ (by omega), Ar, Aa (hfound i hi), A8 hi (by omega), xx (D2 f) htl]; exact uJ _ _ _ _ _ _
    have := Hi (Bw f) default (Zd (A4 f) (D2 f)) (Cx (A4 f) (Bw f) (D2 f)) (.inl ()) (.inr 7) (fun i hi hp => by rw [key i hi, hp]; rfl) (fun i hi hp => by rw [key i hi, hp]; rfl) (by unfold Cx; simp) (Bw f).length 0 (by omega); rw [Mw] at this; exact this
  show ((Ac (Cx (A4 f) (Bw f) (D2 f)) 0).bind _) = _
  rw [hL4, Ar]
  cases (Bw f).all (Zd (A4 f) (D2 f)) <;> rfl
theorem ZM{α S:Type}(l:List α)(d:α)(g:S->α->S)(f:S×Int->Option (LR (S×Int) S))(hn:∀(s:S) (i:Nat),i<l.length->f (s,(i:Int))=some (.next (g s (l.getD i d),(i:Int)+1)))
  (hd:∀ s:S,f (s,(l.length:Int))=some (.done s)):∀(k i:Nat) (s:S),i+k=l.length->Ac f (s,(i:Int))=some ((l.drop i).foldl g s)
 | 0,i,s,h=>by
  obtain rfl:i=l.length:=by omega
  rw[An (hd s)]
  simp
 | k+1,i,s,h=>by
  have hi:i<l.length:=by omega
  have hdr:l.drop i=l.getD i d::l.drop (i+1):=by simp_all
  rw[Au (hn s i hi),show(i+1)=((i+1:Nat):Int) by omega,ZM l d g f hn hd k _ _ (by omega),hdr,EI]
theorem HI{α S:Type}(l:List α)(d:α)(g:S->α->S)(f:S×Int->Option (LR (S×Int) S))(hn:∀(s:S) (i:Nat),i<l.length->f (s,(i:Int))=some (.next (g s (l.getD i d),(i:Int)+1)))
  (hd:∀ s:S,f (s,(l.length:Int))=some (.done s)) (s:S):Ac f (s,(0:Int))=some (l.foldl g s):=by
 have:=ZM l d g f hn hd l.length 0 s (by omega);exact this
def grow(n d:Int):Int:=bif decide (n<d) then d else n
def Ur(f:TFunc):Int:=f.Blocks.foldl (λn b=>b.Ops.foldl (λn o=>grow n o.Dst) (b.Phis.foldl (λn p=>grow n p.Dst) n)) (f.Params.length:Int)
theorem jG{i n:Nat}(h:i<n)(hn:n<=maxLen):w64 ((i:Int)+1)=(i:Int)+1:=A8 h (by rw[Uh]at hn;omega)
def Sm(f:TFunc):Prop:=fw f/\C2 f=some true
theorem qY{f:TFunc}(h:Sm f)(hm:W1 f=true):OkF f:=by
 obtain⟨sm,h1,h2⟩:=fX f h.1;rw[h.2]at h1;exact(h2 (OI h1).symm hm).1
theorem mQ{f:TFunc}(hf:fw f):∃ b,J4 f=some b/\(b=true->Sm f):=by
 obtain⟨x,hx⟩:∃ x,Ac _ ((0:Int),(0:Int))=some x:=by
  refine Us f.Blocks.length (H7 f) (λn i hi=>.inl ?_) (λn=>?_) f.Blocks.length 0 0 (by omega)
  ·unfold H7
   have hd:decide (i<(f.Blocks.length:Int))=true:=by simpa using hi
   simp only[hd, Aa (Ak hi),Ly hi hf.blocks];exact⟨_,rfl⟩
  ·unfold H7;exact⟨n,by simp⟩
 obtain⟨sm,h1⟩:=UP f hf;unfold J4;rw[hx, h1];refine⟨_,rfl,λhb=>⟨hf,?_⟩⟩
 cases sm with
 | true=>exact h1
 | false=>cases hb
theorem eR{f:TFunc}(h:Sm f)(l:Int):Fh f l=some (K4 f l):=by
 have hm:=vJ f h.1
 cases hb:W1 f with
 | true=>exact ue (qY h hb) l hm
 | false=>
  unfold Fh K4;rw[show(bif decide _ then true else decide _)=(decide (l<0) || decide (2<l)) by grind]
  cases(decide (l<0) || decide (2<l)) with
  | true=>rfl
  | false=>grind
structure zk(f:TFunc)(s:List (Int×(Int×Int))):Prop where
 none:K4 f 2≠0->s.length=0
 len:K4 f 2=0->s.length=(A4 f).length
 get:K4 f 2=0->∀ d∈A4 f,H8 ((0:Int),(0:Int)) s d.V=d.Shape
 has:K4 f 2=0->∀ v,F0 s v=true->∃ d∈A4 f,d.V=v
def af(f:TFunc):Int:=
 bif !(List.range (A4 f).length).all (P2 (A4 f)) then 7 else bif !(Bw f).all (Mk (A4 f)) then 7 else
 bif !(Bw f).all (Ze (A4 f)) then 6 else bif !(Bw f).all (Zd (A4 f) (D2 f)) then 7 else 0
theorem RY{f:TFunc}{l:Int}(h0:0<=l)(h2:l<=2):K4 f l=0↔W1 f=true/\G5 f=true/\Sh f l=true/\af f=0:=by
 unfold K4 VA;rw[C0 (show ¬ l<0 by omega),C0 (show ¬ 2<l by omega)]
 have e:(bif !(List.range _).all _ then 7 else bif !(Bw f).all _ then 7 else
  bif !(Bw f).all _ then 6 else bif !(Bw f).all _ then 7 else 0)=af f:=rfl
 rw[e]
 cases W1 f<;>cases G5 f<;>cases Sh f l<;>simp
theorem pR{o:C5}(h:Jq o=true):1<=o.Lanes:=by
 simp only[Jq,Bg]at h;have:=P9 h.1.1;omega
theorem fD{l m:Int}(hm:JD l=m)(o:C5):Rh l o=true↔Jq o=true/\o.Kind<=m/\(l<2->o.Lanes<=1):=by
 unfold Rh
 by_cases a:m<o.Kind<;>by_cases b:l<2<;>by_cases c:1<o.Lanes<;>cases Jq o<;>simp[ b]<;>omega
theorem vT{α:Type}(l:List α)(g:α->Nat):(l.map λa=>g a+1).sum=l.length+(l.map g).sum:=by
 induction l with
 | nil=>rfl
 | cons a l ih=>grind
theorem qm(a b:Int):w64 (a+w64 b)=w64 (a+b):=by rw[Int.add_comm,KB,Int.add_comm]
theorem Abd(f:TFunc)(hf:fw f):Vo f=some (sizeW f):=by
 have hl:=KZ f.Blocks default (λb=>b.Phis.length+b.Ops.length) id (Qr f) (λn i hi=>?_) (λn=>?_) _ 0 f.Blocks.length (Hz _)
 ·unfold Vo;rw[QX (by have:=hf.blocks;rw[Uh]at this;omega),show((0:Nat):Int)=0 from rfl]at hl;rw[hl,  sizeW,Vz,show OJ=(λb=>(b.Phis.length+b.Ops.length)+1) from rfl,vT]
  rfl
 ·have e1:decide (i<(f.Blocks.length:Int))=true:=Cr (by omega);unfold Qr;simp only[e1,Af,Aa (Ak hi),Dq,Ly hi hf.blocks,qm,KB];rw[show n+((f.Blocks.getD i default).Phis.length+(f.Blocks.getD i default).Ops.length)=((n+((f.Blocks.getD i default).Phis.length+(f.Blocks.getD i default).Ops.length):Nat):Int) by omega]
 ·have e1:decide (f.Blocks.length<(f.Blocks.length:Int))=false:=by simp
  unfold Qr;simp only[e1,A2,id]
theorem II{α:Type}(l:List α)(d:α)(p:α->Bool)(f:Int->Option (LR Int (Unit ⊕ Bool)))(hn:∀ i:Nat,i<l.length->f i=bif p (l.getD i d) then some (.next ((i:Int)+1)) else some (.done (.inr false)))
  (he:f l.length=some (.done (.inl ()))):Ac f 0=some (bif l.all p then .inl () else .inr false):=by
 have:=Hi l d p f _ _ (λi hi hp=>by rw[hn i hi,hp];rfl) (λi hi hp=>by rw[hn i hi,hp];rfl) he _ 0 (Hz _)
 simpa using this
theorem mZ(x:Int):(bif decide (x<0) then true else decide (2147483647<x)) = !numB x:=by
 unfold numB
 by_cases h1:x<0
 ·grind
 ·grind
theorem bB(l:List Int)(h:l.length<=maxLen):D5 l=some (l.all numB):=by
 have hl:=II l 0 numB (Ko l) (λi hi=>?_) ?_
 ·unfold D5;rw[hl]
  cases l.all _<;>rfl
 ·have e1:decide ((i:Int)<l.length)=true:=Cr (by omega);unfold Ko;simp only[e1, Aa (Ak hi),Dq,mZ,Ly hi h]
  cases numB _<;>simp
 ·unfold Ko
  simp
theorem FK(l:List Int)(h:l.length<=maxLen):I8 l=some (listB l):=by
 unfold I8;rw[bB l h]
 by_cases h1:l.length<=64
 ·have e1:decide ((l.length:Int)<=64)=true:=Cr (by omega);rw[e1];simp[listB,h1]
 ·have e1:decide ((l.length:Int)<=64)=false:=C0 (by omega);rw[e1];simp[listB,h1]
theorem FI{l:List Int}(h:l.length<=10):l.length<=maxLen:=by rw[Uh];omega
theorem qw(p:Fe)(h1:p.From.length<=maxLen)(h2:p.Args.length<=maxLen):Qt p=some (JP p):=by
 unfold Qt JP;rw[bB _ (FI (by simp)),FK _ h1,FK _ h2];simp only[GT,List.all_nil,MU]
 cases numB p.Bits<;>cases numB p.Dst<;>cases listB p.From<;>cases listB p.Args<;>rfl
theorem vd(o:C5)(h1:o.Args.length<=maxLen):Sr o=some (ig o):=by
 unfold Sr ig;rw[bB _ (FI (by simp)),FK _ h1];simp only[GT,List.all_nil,MU]
 cases numB o.Kind<;>cases numB o.Bits<;>cases numB o.Lanes<;>cases numB o.Dst<;>cases listB o.Args<;>rfl
theorem qu(e:L8)(h1:e.To.length<=maxLen):Qs e=some (iC e):=by
 unfold Qs iC;rw[bB _ (FI (by simp)),FK _ h1];simp only[GT,List.all_nil,MU]
 cases numB e.Kind<;>cases numB e.Arg<;>cases listB e.To<;>rfl
theorem TF{X:Type}(b:Bool)(x y:X):(bif !b then x else y)=bif b then y else x:=by cases b<;>rfl
theorem m8(l:List Fe)(hl:l.length<=maxLen)(h:∀ p∈l,p.From.length<=maxLen/\p.Args.length<=maxLen):Jz l=some (l.all JP):=by
 have hl':=II l (default:Fe) JP (H1 l) (λi hi=>?_) ?_
 ·unfold Jz;rw[hl']
  cases l.all JP<;>rfl
 ·have e1:decide ((i:Int)<(l.length:Int))=true:=Cr (by omega);have:=h _ (Ai (d:=(default:Fe)) hi);unfold H1;simp only[e1,Af,Aa (Ak hi),Dq,qw _ this.1 this.2,Ar,TF,Ly hi hl,Int.natCast_add,Int.natCast_one]
 ·unfold H1
  simp
theorem qv(l:List C5)(hl:l.length<=maxLen)(h:∀ o∈l,o.Args.length<=maxLen):Kn l=some (l.all ig):=by
 have hl':=II l (default:C5) ig (Ir l) (λi hi=>?_) ?_
 ·unfold Kn;rw[hl']
  cases l.all ig<;>rfl
 ·have e1:decide ((i:Int)<(l.length:Int))=true:=Cr (by omega);have:=h _ (Ai (d:=(default:C5)) hi);unfold Ir;simp only[e1,Af,Aa (Ak hi),Dq,vd _ this,Ar,TF,Ly hi hl,Int.natCast_add,Int.natCast_one]
 ·unfold Ir
  simp
theorem jI(b:Aj)(h1:b.Phis.length<=maxLen)(h2:b.Ops.length<=maxLen)(h3:b.End.To.length<=maxLen)(h4:∀ p∈b.Phis,p.From.length<=maxLen/\p.Args.length<=maxLen)(h5:∀ o∈b.Ops,o.Args.length<=maxLen):N9 b=some (blockB b):=by
 unfold N9 blockB;rw[m8 _ h1 h4,qv _ h2 h5,qu _ h3]
 cases b.Phis.all JP<;>cases b.Ops.all ig<;>cases iC b.End<;>rfl
theorem fi(f:TFunc)(hf:fw f):Iq f.Blocks=some (f.Blocks.all blockB):=by
 have hl':=II f.Blocks (default:Aj) blockB (Gw f.Blocks) (λi hi=>?_) ?_
 ·unfold Iq;rw[hl']
  cases f.Blocks.all blockB<;>rfl
 ·have e1:decide ((i:Int)<(f.Blocks.length:Int))=true:=Cr (by omega);have hm:=Ai (d:=(default:Aj)) hi;have q:=hf.block _ hm;unfold Gw;simp only[e1,Af,Aa (Ak hi),Dq,jI _ q.1 q.2.1 q.2.2 (hf.phi _ hm) (λo ho=>(hf.op _ hm o ho).1),Ar,TF,Ly hi hf.blocks,Int.natCast_add,Int.natCast_one]
 ·unfold Gw
  simp
theorem Ab7(f:TFunc)(hf:fw f):Ya f=some (W1 f):=by
 unfold Ya W1;rw[Abd f hf,bB _ hf.params,bB _ (FI (by simp)),fi f hf];simp only[GT,List.all_nil,MU,listB]
 have d1:∀ n:Nat,decide ((n:Int)<1) = !decide (1<=n):=λn=>by by_cases h:1<=n<;>simp[h]<;>omega
 have d2:∀ n:Nat,decide ((64:Int)<(n:Int)) = !decide (n<=64):=λn=>by by_cases h:n<=64<;>simp[h]<;>omega
 have d3:∀ n:Nat,decide ((16:Int)<(n:Int)) = !decide (n<=16):=λn=>by by_cases h:n<=16<;>simp[h]<;>omega
 have d4:∀ n:Int,decide ((512:Int)<n) = !decide (n<=512):=λn=>by by_cases h:n<=512<;>simp[h]<;>omega
 simp only[d1,d2,d3,d4]
 have himp:decide (f.Params.length<=16)=true->decide (f.Params.length<=64)=true:=λh=>by simp at h ⊢;omega
 revert himp
 generalize decide (1<=f.Blocks.length)=c1
 generalize decide (f.Blocks.length<=64)=c2
 generalize decide (f.Params.length<=16)=c3
 generalize decide (f.Params.length<=64)=c4
 generalize f.Params.all numB=c6
 generalize numB f.Ret=c7
 generalize f.Blocks.all blockB=c8
 cases c3 with
 | true=>
  intro h;obtain rfl:=h rfl;simp only[D3,Tc,Af,Ar,A2]
  generalize decide (sizeW f<=512)=c5
  cases c1<;>cases c2<;>cases c6<;>cases c7<;>cases c8<;>cases c5<;>rfl
 | false=>
  intro _
  cases c1<;>cases c2<;>rfl
inductive Tp (t:List Int):Nat->Nat->Nat->Prop
 | top {x:Nat} (hx:x<t.length) (h:t.getD x 0 = -1):Tp t x x 0
 | up {x y r k:Nat} (hx:x<t.length) (h:t.getD x 0=(y:Int)) (hk:Tp t y r k):Tp t x r (k+1)
section
variable {t:List Int}
theorem Tp.lt{x r k:Nat}(h:Tp t x r k):x<t.length:=by cases h<;>assumption
theorem Tp.tops{x r k:Nat}(h:Tp t x r k):r<t.length/\t.getD r 0 = -1:=by
 induction h with
 | top hx h=>exact⟨hx,h⟩
 | up _ _ _ ih=>exact ih
theorem Tp.det{x r k r' k':Nat}(h:Tp t x r k)(h':Tp t x r' k'):r=r'/\k=k':=by
 induction h generalizing k' with
 | top hx h=>cases h' with
  | top=>exact⟨rfl,rfl⟩
  | up _ h2 _=>omega
 | up hx h1 _ ih=>cases h' with
  | top _ h2=>omega
  | up _ h2 k2=>
   grind
theorem Tp.upTo{x r k:Nat}(h:Tp t x r k):UpTo (Bu t) x r:=by
 induction h with
 | top=>exact .refl _
 | up _ h _ ih=>exact .up h ih
theorem Tp.on{x r k z:Nat}(h:Tp t x r k)(hz:UpTo (Bu t) x z):∃ j,j<=k/\Tp t z r j/\(j=k->z=x):=by
 induction hz generalizing k with
 | refl x=>grind
 | up hp _ ih=>
  cases h with
  | top _ h2=>have :=hp.symm.trans h2;omega
  | up _ h2 k2=>
   have :=hp.symm.trans h2
   cases MT this
   obtain⟨j,h1,h3,_⟩:=ih k2;exact⟨j,by omega,h3,λe=>by omega⟩
theorem Tp.anti{x r k z:Nat}(h:Tp t x r k)(h1:UpTo (Bu t) x z)(h2:UpTo (Bu t) z x):z=x:=by
 obtain⟨j,j1,j2,j3⟩:=h.on h1;obtain⟨i,i1,i2,i3⟩:=j2.on h2;have:=h.det i2;exact j3 (by omega)
theorem Tp.list{x r k:Nat}(h:Tp t x r k):∃ l:List Nat,l.length=k+1/\l.Nodup/\∀ y∈l,y<t.length/\∃ j,j<=k/\Tp t y r j:=by
 induction h with
 | top hx h=>exact⟨[_],rfl,by simp,λy hy=>by rw[zzL18.1 hy];exact⟨hx,0,zzL8 _,.top hx h⟩⟩
 | @up x y r k hx h hk ih=>
  obtain⟨l,h1,h2,h3⟩:=ih;refine⟨x::l,by simp[h1],zzL109.2 ⟨λhm=>?_,h2⟩,λz hz=>?_⟩
  ·obtain⟨_,j,hj,hj2⟩:=h3 _ hm;have:=(Tp.up hx h hk).det hj2;omega
  ·rcases zzL28.1 hz with rfl|hz
   ·exact⟨hx,k+1,zzL8 _,.up hx h hk⟩
   ·grind
theorem Tp.short{x r k:Nat}(h:Tp t x r k):k<t.length:=by
 obtain⟨l,h1,h2,h3⟩:=h.list;have:=Uj _ l h2 λy hy=>(h3 y hy).1;omega
theorem Tp.upD{x r k:Nat}(h:Tp t x r k):∀ m,k<m->∃ q,upD t m (x:Int)=some q/\(∀ w:Int,w∈q↔∃ z:Nat,w=(z:Int)/\UpTo (Bu t) x z) /\
  ∀ p:Int->Bool,(q.find? p=none/\∀ z:Nat,UpTo (Bu t) x z->p (z:Int)=false)\/∃ f:Nat,q.find? p=some (f:Int)/\UpTo (Bu t) x f/\p (f:Int)=true/\∀ z:Nat,UpTo (Bu t) x z->p (z:Int)=true->UpTo (Bu t) f z:=by
 induction h with
 | @top x hx h=>
  intro m hm;obtain⟨m,rfl⟩:∃ i,m=i+1:=⟨m-1,by omega⟩
  have htop:∀ z,UpTo (Bu t) x z↔z=x:=λz=>QJ λp hp=>by have:_=_:=hp.symm.trans h;omega
  unfold Go.Proofs.YtaeaenoaomdimaaGreat.upD;rw[if_pos ⟨by omega,by omega⟩,Aq,if_pos h];refine⟨_,rfl,λw=>?_,λp=>?_⟩
  ·grind
  ·grind
 | @up x y r k hx h hk ih=>
  intro m hm;obtain⟨m,rfl⟩:∃ i,m=i+1:=⟨m-1,by omega⟩;unfold Go.Proofs.YtaeaenoaomdimaaGreat.upD;rw[if_pos ⟨by omega,by omega⟩,Aq,if_neg (by omega),h];obtain⟨q,hq1,hq2,hq3⟩:=ih m (by omega);rw[hq1];refine⟨(x:Int)::q,rfl,λw=>?_,λp=>?_⟩
  ·rw[zzL28,hq2 w]
   constructor
   ·rintro(rfl|⟨y,rfl,hy⟩)
    ·exact⟨x,rfl,.refl _⟩
    ·exact⟨y,rfl,.up h hy⟩
   ·rintro⟨y,rfl,hy⟩;rcases(anc_up h).1 hy with rfl|hy
    ·exact .inl rfl
    ·exact .inr ⟨y,rfl,hy⟩
  ·cases hpp:p (x:Int) with
   | true=>exact .inr ⟨x,by simp[List.find?,hpp],.refl _,hpp,λy hy _=>hy⟩
   | false=>
    have hf:((x:Int)::q).find? p=q.find? p:=by simp[List.find?,hpp]
    rw[hf];rcases hq3 p with⟨e1,e2⟩|⟨f,e1,e2,e3,e4⟩
    ·refine .inl ⟨e1,λy hy=>?_⟩;rcases(anc_up h).1 hy with rfl|hy
     ·exact hpp
     ·exact e2 y hy
    ·refine .inr ⟨f,e1,.up h e2,e3,λy hy hpy=>?_⟩;rcases(anc_up h).1 hy with rfl|hy
     ·rw[hpp]at hpy;cases hpy
     ·exact e4 y hy hpy
theorem yU:∀ m (a:Int) q,upD t m a=some q->∃ x r k:Nat,a=(x:Int)/\k<m/\Tp t x r k:=by
 intro m
 induction m with
 | zero=>intro a q h;cases h
 | succ m ih=>
  intro a q h;unfold Go.Proofs.YtaeaenoaomdimaaGreat.upD at h
  by_cases ha:0<=a/\a<t.length
  ·rw[if_pos ha]at h;have e :=Tu ha.1
   by_cases h1:t.getD a.toNat 0 = -1
   ·exact⟨a.toNat,a.toNat,0,e.symm,by omega,.top (by omega) h1⟩
   ·rw[if_neg h1]at h
    cases hu:Go.Proofs.YtaeaenoaomdimaaGreat.upD t m _ with
    | none=>rw[hu]at h;cases h
    | some q'=>
     obtain⟨y,r,k,e1,e2,e3⟩:=ih _ _ hu;exact⟨a.toNat,r,k+1,e.symm,by omega,.up (by omega) e1 e3⟩
  ·grind
theorem pathD_tp{a:Int}:E5 t a≠[]↔∃ x r k:Nat,a=(x:Int)/\Tp t x r k:=by
 constructor
 ·intro h
  cases hu:upD t _ a with
  | none=>exact absurd (pathD_nil.2 hu) h
  | some q=>obtain⟨x,r,k,e1,_,e2⟩:=yU _ _ _ hu;exact⟨x,r,k,e1,e2⟩
 ·rintro⟨x,r,k,rfl,h⟩ e;obtain⟨q,hq,_⟩:=h.upD _ h.short;rw[pathD_nil.1 e]at hq;cases hq
theorem Tp.path{x r k:Nat}(h:Tp t x r k):(∀ w:Int,w∈E5 t (x:Int)↔∃ z:Nat,w=(z:Int)/\UpTo (Bu t) x z) /\
  ∀ p:Int->Bool,((E5 t (x:Int)).find? p=none/\∀ z:Nat,UpTo (Bu t) x z->p (z:Int)=false)\/∃ f:Nat,(E5 t (x:Int)).find? p=some (f:Int)/\UpTo (Bu t) x f/\p (f:Int)=true/\∀ z:Nat,UpTo (Bu t) x z->p (z:Int)=true->UpTo (Bu t) f z:=by
 obtain⟨q,h1,h2,h3⟩:=h.upD _ h.short
 have e:E5 t x=q:=by unfold E5;rw[h1];rfl
 rw[e];exact⟨h2,h3⟩
theorem SL{α:Type}{l:List α}{i j:Nat}{x d:α}(hi:i<l.length):(l.set i x).getD j d=if j=i then x else l.getD j d:=by
 grind
theorem ug{x r k:Nat}(h:Tp t x r k):∀ l:List Bool,l.length=t.length->∃ l',Ac (K6 t) ((x:Int),l)=some l'/\l'.length=t.length/\∀ z,z<t.length->(l'.getD z false=true↔l.getD z false=true\/UpTo (Bu t) x z):=by
 induction h with
 | @top x hx h=>
  intro l hl
  have hs:K6 t (x,l)=some (.next (-1,l.set x true)):=by
   unfold K6
   have hb:((x:Int)!=-1)=true:=by rw[zzL88];omega
   simp only[hb,Af,Aq,h];rw[Ab (inb (by omega)),Ab (inb hx)]
  have hd:K6 t (-1,l.set x true)=some (.done (l.set x true)):=by
   rfl
  refine⟨l.set x _,by rw[Au hs,An hd],by simp[hl],λz hz=>?_⟩;rw[SL (by omega)]
  have htop:UpTo (Bu t) x z↔z=x:=QJ λp hp=>by have :=hp.symm.trans h;omega
  rw[htop]
  by_cases e:z=x
  ·simp[e]
  ·simp[e]
 | @up x y r k hx h hk ih=>
  intro l hl
  have hs:K6 t (x,l)=some (.next (y,l.set x true)):=by
   unfold K6
   have hb:(x !=(-1:Int))=true:=by rw[zzL88];omega
   simp only[hb,Af,Aq,h];rw[Ab (inb (by omega)),Ab (inb hx)]
  obtain⟨l',e1,e2,e3⟩:=ih (l.set x _) (by simp[hl]);refine⟨l',by rw[Au hs,e1],e2,λz hz=>?_⟩;rw[e3 z hz,SL (by omega),anc_up (par:=Bu t) h]
  by_cases e:z=x
  ·simp[e]
  ·simp[e]
theorem uh{b r k:Nat}(h:Tp t b r k)(l:List Bool)(hl:l.length=t.length):l.getD r false=true->∃ c:Nat,Ac (Ji t l) (b:Int)=some (c:Int)/\UpTo (Bu t) b c/\l.getD c false=true/\∀ z,UpTo (Bu t) b z->l.getD z false=true->UpTo (Bu t) c z:=by
 induction h with
 | @top x hx h=>
  intro hr
  have hd:Ji t l x=some (.done x):=by
   unfold Ji;rw[Ab (inb (by omega)),Aq,hr]
   rfl
  exact⟨x,An hd,.refl _,hr,λz hz _=>hz⟩
 | @up x y r k hx h hk ih=>
  intro hr
  cases hx2:l.getD x _ with
  | true=>
   have hd:Ji t l x=some (.done x):=by
    unfold Ji;rw[Ab (inb (by omega)),Aq,hx2]
    rfl
   exact⟨x,An hd,.refl _,hx2,λz hz _=>hz⟩
  | false=>
   have hs:Ji t l x=some (.next y):=by
    unfold Ji;rw[Ab (inb (by omega)),Aq,hx2,K2,Af,Ab (inb hx),h]
   obtain⟨c,e1,e2,e3,e4⟩:=ih hr;refine⟨c,by rw[Au hs,e1],.up h e2,e3,λz hz hlz=>?_⟩;rcases(anc_up  h).1 hz with rfl|hz
   ·grind
   ·exact e4 z hz hlz
theorem NV(ht:t.length<=1000){a b r k m:Nat}(ha:Tp t a r k)(hb:Tp t b r m):∃ c:Nat,R7 t (a:Int) (b:Int)=some (c:Int)/\MeetAt (Bu t) a b c:=by
 unfold R7
 have hroom:1000<=room:=by decide
 rw[Ab ⟨by omega,by omega,by omega⟩,Aq];obtain⟨l',h1,h2,h3⟩:=ug ha (List.replicate t.length _) (by simp);rw[h1,Ar]
 have h3':∀ z,z<t.length->(l'.getD z false=true↔UpTo (Bu t) a z):=λz hz=>by grind
 obtain⟨c,e1,e2,e3,e4⟩:=uh hb l' h2 ((h3' r ha.tops.1).2 ha.upTo)
 have hc:c<t.length:=by grind
 refine⟨c,by rw[e1];rfl,λw=>⟨λhw=>⟨((h3' c hc).1 e3).trans hw,e2.trans hw⟩,λ⟨hw1,hw2⟩=>?_⟩⟩;obtain⟨j,_,hj,_⟩:=ha.on hw1;exact e4 w hw2 ((h3' w hj.lt).2 hw1)
theorem pf(hR:M8 t=true){a b r k m:Nat}(ha:Tp t a r k)(hb:Tp t b r m):∃ c:Nat,Ru t (a:Int) (b:Int)=(c:Int)/\MeetAt (Bu t) a b c:=by
 unfold Ru;rw[if_pos hR]
 have hcon:∀ z:Nat,(E5 t b).contains z=true↔UpTo (Bu t) b z:=λz=>by
  rw[zzL68,hb.path.1]
  constructor
  ·grind
  ·grind
 rcases ha.path.2 (λx=>(E5 t _).contains x) with⟨e1,e2⟩|⟨f,e1,e2,e3,e4⟩
 ·have:=e2 r ha.upTo;rw[(hcon r).2 hb.upTo]at this
  cases this
 ·exact⟨f,by rw[e1];rfl,λw=>⟨λhw=>⟨e2.trans hw,((hcon f).1 e3).trans hw⟩,λ⟨hw1,hw2⟩=>e4 w hw1 ((hcon w).2 hw2)⟩⟩
theorem MeetAt.same{a b r k c d:Nat}(ha:Tp t a r k)(hc:MeetAt (Bu t) a b c)(hd:MeetAt (Bu t) a b d):c=d:=by
 obtain⟨j,_,hj,_⟩:=ha.on ((hc c).1 (.refl _)).1;exact(hj.anti ((hc d).2 ((hd d).1 (.refl _))) ((hd c).2 ((hc c).1 (.refl _)))).symm
end
theorem m_index(t:List Int)(v:Int)(ht:t.length<=1000):(∃ r:Nat,r<t.length/\t.getD r 0=v/\(∀ i,i<r->t.getD i 0≠v)/\Dp t v=some (r:Int))\/((∀ i,i<t.length->t.getD i 0≠v)/\Dp t v=some (-1)):=by
 have key:∀ k i:Nat,i+k=t.length->(∀ j,j<i->t.getD j 0≠v)->
   (∃ r:Nat,r<t.length/\t.getD r 0=v/\(∀ i,i<r->t.getD i 0≠v)/\Ac (Cn t v) (i:Int)=some (.inr (r:Int)))\/((∀ i,i<t.length->t.getD i 0≠v)/\Ac (Cn t v) (i:Int)=some (.inl ())):=by
  intro k
  induction k with
  | zero=>
   intro i hi hj
   obtain rfl:i=t.length:=by omega
   refine .inr ⟨hj,An ?_⟩;unfold Cn;rw[Ee];rfl
  | succ k ih=>
   intro i hi hj
   by_cases e:v=t.getD i 0
   ·refine .inl ⟨i,by omega,e.symm,hj,An ?_⟩;unfold Cn;have hb:((v:Int)==t.getD i 0)=true:=zzL85.2 e;simp only[B8 (show i<t.length by omega),Af,Aq,hb];rw[Ab (inb (by omega))]
   ·have hs:Cn t v (i:Int)=some (.next ((i+1:Nat):Int)):=by
     unfold Cn;have hb:((v:Int)==t.getD i 0)=false:=zzL40.2 e;simp only[B8 (show i<t.length by omega),Af,Aq,hb,A2];rw[Ab (inb (by omega)),w1 (by omega)]
    rw[Au hs]
    exact ih (i+1) (by omega) λj hj2=>by
     by_cases ej:j=i
     ·subst ej;exact λh=>e h.symm
     ·exact hj j (by omega)
 have h0:=key t.length 0 (by omega) (λj hj=>absurd hj (Xi _));unfold Dp;rcases h0 with⟨r,h1,h2,h3,h4⟩|⟨h1,h2⟩
 ·exact .inl ⟨r,h1,h2,h3,by rw[show((0:Int))=((0:Nat):Int) from rfl,h4];rfl⟩
 ·exact .inr ⟨h1,by rw[show((0:Int))=((0:Nat):Int) from rfl,h2];rfl⟩
section
variable {t:List Int}
structure FU(t:List Int)(r f:Nat)(w:List Int):Prop where
 len:w.length=t.length
 old:∀ y,y<t.length->w.getD y 0≠0->(w.getD y 0<=(f:Int))/\∃ k,Tp t y r k
structure n5(t:List Int)(r f x:Nat)(w:List Int):Prop where
 len:w.length=t.length
 hx:x<t.length
 old:∀ y,y<t.length->w.getD y 0≠0->w.getD y 0<=(f:Int)/\(∃ k,Tp t y r k)\/w.getD y 0=((f+1:Nat):Int)/\∀ r' k,Tp t x r' k->∃ j,k<j/\Tp t y r' j
 fwd:∀ r' k,Tp t x r' k->∃ j,k<=j/\Tp t f r' j
 back:∀ r' k,Tp t f r' k->∃ j,Tp t x r' j
def bD(w:List Int):Nat:=w.countP λz=>z==0
theorem nA{w:List Int}{x:Nat}{v:Int}(hx:x<w.length)(h0:w.getD x 0=0)(hv:v≠0):bD (w.set x v)<bD w:=by
 unfold bD;rw[List.countP_set hx];rw[Ag _ _ _ hx]at h0;have hp:0<w.countP λz=>z==0:=List.countP_pos_iff.2 ⟨w[x],MR hx,by simp[h0]⟩;have hb :=zzL40.2 hv;simp only[h0,Tc,Nc,hb,OT,I7];omega
theorem leads_loop(ht:t.length<=1000){r:Nat}(hr:r<t.length)(htop:t.getD r 0 = -1){f:Nat}(hf:f<t.length):∀(m x:Nat) (w:List Int),bD w<=m->n5 t r f x w->
  (∃ w',Ac (Dv t (f:Int) (r:Int)) ((x:Int),w)=some (.inl w')/\FU t r (f+1) w'/\∃ k,Tp t f r k) \/
  ∃ b w',Ac (Dv t (f:Int) (r:Int)) ((x:Int),w)=some (.inr (b,w'))/\w'.length=t.length/\(b=true->FU t r (f+1) w'/\∃ k,Tp t f r k)/\(b=false->∀ k,¬ Tp t f r k):=by
 intro m
 induction m with
 | zero=>
  intro x w hz hw;exact go 0 (λx w hz=>absurd hz (Xi _)) x w hz hw
 | succ m ih=>
  intro x w hz hw;exact go (m+1) (λx w hz=>ih x w (Nat.le_of_lt_succ hz)) x w hz hw
where
 go (m:Nat) (ih:∀(x:Nat) (w:List Int),bD w<m->n5 t r f x w->
  (∃ w',Ac (Dv t (f:Int) (r:Int)) ((x:Int),w)=some (.inl w')/\FU t r (f+1) w'/\∃ k,Tp t f r k) \/
  ∃ b w',Ac (Dv t (f:Int) (r:Int)) ((x:Int),w)=some (.inr (b,w'))/\w'.length=t.length/\(b=true->FU t r (f+1) w'/\∃ k,Tp t f r k)/\(b=false->∀ k,¬ Tp t f r k)) (x:Nat) (w:List Int) (hz:bD w<=m) (hw:n5 t r f x w) :
  (∃ w',Ac (Dv t (f:Int) (r:Int)) ((x:Int),w)=some (.inl w')/\FU t r (f+1) w'/\∃ k,Tp t f r k) \/
  ∃ b w',Ac (Dv t (f:Int) (r:Int)) ((x:Int),w)=some (.inr (b,w'))/\w'.length=t.length/\(b=true->FU t r (f+1) w'/\∃ k,Tp t f r k)/\(b=false->∀ k,¬ Tp t f r k):=by
  have hxl:=hw.hx
  have told:∀ k,Tp t x r k->FU t r (f+1) w/\∃ k,Tp t f r k:=λk hk=>by
   obtain⟨j,_,hj⟩:=hw.fwd _ _ hk;refine⟨⟨hw.len,λy hy hy0=>?_⟩,j,hj⟩;rcases hw.old y hy hy0 with⟨h1,h2⟩|⟨h1,h2⟩
   ·exact⟨by omega,h2⟩
   ·obtain⟨i,_,hi⟩:=h2 _ _ hk;exact⟨by omega,i,hi⟩
  by_cases hxr:x=r
  ·subst hxr;refine .inl ⟨w,An ?_,told 0 (.top hr htop)⟩;unfold Dv
   have hb:((x:Int)!=(x:Int))=false:=by simp
   simp only[hb,A2]
  ·have hb:((x:Int)!=(r:Int))=true:=by rw[zzL88];omega
   have hin:A0 (x:Int) w.length:=inb (by rw[hw.len];exact hxl)
   by_cases hw0:w.getD x 0=0
   ·have hb0:((w.getD x 0:Int)!=0)=false:=by rw[hw0];rfl
    by_cases hpl:0<=t.getD x 0/\t.getD x 0<(t.length:Int)
    ·have hwf:w64 ((f:Int)+1)=((f+1:Nat):Int):=w1 (by omega)
     have hs:Dv t (f:Int) (r:Int) ((x:Int),w)=some (.next (t.getD x 0,w.set x ((f+1:Nat):Int))):=by
      unfold Dv M2;simp only[hb,Af,Aq,hb0,A2];rw[Ab hin,Ab (inb hxl),Cr hpl.1,Cr hpl.2,Af,Ar,D3,A2,Ab hin,Ab (inb hxl),hwf]
     rw[Au hs];obtain⟨y,hy⟩:∃ y:Nat,t.getD x 0=(y:Int):=⟨(t.getD x 0).toNat,(Tu hpl.1).symm⟩;rw[hy]at hpl ⊢
     have hyl:y<t.length:=by omega
     have hst:∀ r' k,Tp t y r' k->Tp t x r' (k+1):=λr' k hk=>.up hxl hy hk
     have hset:∀ z,z<t.length->(w.set x ((f+1:Nat):Int)).getD z 0=if z=x then((f+1:Nat):Int) else w.getD z 0:=λz _=>SL (by rw[hw.len];exact hxl)
     have hW:n5 t r f y (w.set x ((f+1:Nat):Int)):=by
      refine⟨by simp[hw.len],hyl,λz hzl hz0=>?_,λr' k hk=>?_,λr' k hk=>?_⟩
      ·rw[hset z hzl]at hz0 ⊢
       by_cases e:z=x
       ·subst e;rw[if_pos rfl];exact .inr ⟨rfl,λr' k hk=>⟨k+1,by omega,hst r' k hk⟩⟩
       ·rw[if_neg e]at hz0 ⊢;rcases hw.old z hzl hz0 with h1|⟨h1,h2⟩
        ·exact .inl h1
        ·refine .inr ⟨h1,λr' k hk=>?_⟩;obtain⟨j,hj1,hj2⟩:=h2 _ _ (hst r' k hk);exact⟨j,by omega,hj2⟩
      ·obtain⟨j,hj1,hj2⟩:=hw.fwd _ _ (hst r' k hk);exact⟨j,by omega,hj2⟩
      ·obtain⟨j,hj⟩:=hw.back _ _ hk
       cases hj with
       | top _ h2=>omega
       | up _ h2 h3=>
        have:=hy.symm.trans h2
        cases MT this
        exact⟨_,h3⟩
     have hzz:=nA (x:=x) (v:=((f+1:Nat):Int)) (by rw[hw.len];exact hxl) hw0 (by omega);exact ih y _ (by omega) hW
    ·refine .inr ⟨false,w,An ?_,hw.len,⟨λh=>(by cases h),λ_ k hk=>?_⟩⟩
     ·unfold Dv M2;simp only[hb,Af,Aq,hb0,A2];rw[Ab hin,Ab (inb hxl)]
      have:(bif decide ((0:Int)<=t.getD x 0) then decide (t.getD x 0<(t.length:Int)) else false)=false:=by
       cases h1:decide ((0:Int)<=t.getD x 0) with
       | false=>rfl
       | true=>rw[Af];exact C0 λh2=>hpl ⟨MP h1,h2⟩
      rw[this,Ar]
      rfl
     ·obtain⟨j,hj⟩:=hw.back _ _ hk
      cases hj with
      | top=>exact hxr rfl
      | up _ h2 h3=>have:=h3.lt;exact hpl ⟨by omega,by omega⟩
   ·have hb0:((w.getD x 0:Int)!=0)=true:=by rw[zzL88];exact hw0
    have hwf:w64 ((f:Int)+1)=((f+1:Nat):Int):=w1 (by omega);refine .inr ⟨w.getD x 0 !=((f+1:Nat):Int),w,An ?_,hw.len,⟨λh=>?_,λh k hk=>?_⟩⟩
    ·unfold Dv;simp only[hb,Af,Aq,hb0];rw[Ab hin,Ab hin,hwf]
    ·rcases hw.old x hxl hw0 with⟨_,k,hk⟩|⟨h1,_⟩
     ·exact told k hk
     ·rw[h1]at h;simp at h
    ·have he:w.getD x 0=((f+1:Nat):Int):=by simpa using h
     obtain⟨j,hj⟩:=hw.back _ _ hk;rcases hw.old x hxl hw0 with⟨h1,_⟩|⟨_,h2⟩
     ·omega
     ·obtain⟨i,hi1,hi2⟩:=h2 _ _ hj;have:=hj.det hi2;omega
end
section
variable {t:List Int}
theorem uX(ht:t.length<=1000){r:Nat}(hr:r<t.length)(htop:t.getD r 0 = -1){f:Nat}(hf:f<t.length){w:List Int}(hw:FU t r f w) :
  ∃ b w',Vq t w (f:Int) (r:Int)=some (b,w')/\w'.length=t.length/\(b=true->FU t r (f+1) w'/\∃ k,Tp t f r k)/\(b=false->∀ k,¬ Tp t f r k):=by
 unfold Vq;have hW:n5 t r f f w:=⟨hw.len,hf,λy hy h0=>.inl (hw.old y hy h0),λr' k hk=>⟨k,zzL8 _,hk⟩,λr' k hk=>⟨k,hk⟩⟩;rcases leads_loop ht hr htop hf _ f w (zzL8 _) hW with⟨w',e1,e2⟩|⟨b,w',e1,e2,e3,e4⟩
 ·exact⟨true,w',by rw[e1];rfl,e2.1.len,λ_=>e2,λh=>by cases h⟩
 ·grind
def YI(t:List Int)(r:Nat):Prop:=∀ f,f<t.length->t.getD f 0≠-2->∃ k,Tp t f r k
open Classical in
theorem eC(ht:t.length<=1000){r:Nat}(hr:r<t.length)(htop:t.getD r 0 = -1):∀(k f:Nat) (w:List Int),f+k=t.length->FU t r f w->(∀ y,y<f->t.getD y 0≠-2->∃ k,Tp t y r k)->
  Ac (Hc t (r:Int)) ((f:Int),w)=some (if YI t r then .inl () else .inr false):=by
 intro k
 induction k with
 | zero=>
  intro f w hk hw hd
  obtain rfl:f=t.length:=by omega
  apply An
  unfold Hc;simp only[Ee,A2];rw[if_pos (show YI t r from hd)]
 | succ k ih=>
  intro f w hk hw hd
  have hf:f<t.length:=by omega
  by_cases h2:t.getD f 0 = -2
  ·have hb:((t.getD f 0:Int)!=(-2))=false:=by rw[h2];rfl
   have hs:Hc t (r:Int) ((f:Int),w)=some (.next (((f+1:Nat):Int),w)):=by
    unfold Hc;simp only[B8 hf,Af,Aq,hb,show(false==true)=false from rfl,A2,Ar];rw[Ab (inb hf),Ab (λh=>by cases h),w1 (by omega)]
   rw[Au hs];refine ih (f+1) w (by omega) ⟨hw.len,λy hy h0=>?_⟩ λy hy hy2=>?_
   ·obtain⟨e1,e2⟩:=hw.old y hy h0;exact⟨by omega,e2⟩
   ·by_cases e:y=f
    ·subst e;exact absurd h2 hy2
    ·exact hd y (by omega) hy2
  ·have hb:((t.getD f 0:Int)!=(-2))=true:=by rw[zzL88];exact h2
   obtain⟨b,w',e1,e2,e3,e4⟩:=uX ht hr htop hf hw
   cases b with
   | false=>
    rw[if_neg (λhA:YI t r=>by obtain⟨k,hk⟩:=hA f hf h2;exact e4 rfl k hk)]
    apply An
    unfold Hc;simp only[B8 hf,Af,Aq,hb,show(true==true)=true from rfl,e1,Ar];rw[Ab (inb hf),Ab (λ_=>by rw[hw.len,e2])]
    rfl
   | true=>
    have hs:Hc t (r:Int) ((f:Int),w)=some (.next (((f+1:Nat):Int),w')):=by
     unfold Hc;simp only[B8 hf,Af,Aq,hb,show(true==true)=true from rfl,e1,Ar];rw[Ab (inb hf),Ab (λ_=>by rw[hw.len,e2]),w1 (by omega)]
     rfl
    rw[Au hs];obtain⟨e5,e6⟩:=e3 rfl;refine ih (f+1) w' (by omega) e5 λy hy hy2=>?_
    by_cases e:y=f
    ·subst e;exact e6
    ·exact hd y (by omega) hy2
theorem qi:topsK t t.length=1↔∃ r,r<t.length/\t.getD r 0 = -1/\∀ x,x<t.length->t.getD x 0 = -1->x=r:=by
 have key:∀ n,(topsK t n=0↔∀ x,x<n->t.getD x 0≠-1)/\(topsK t n=1↔∃ r,r<n/\t.getD r 0 = -1/\∀ x,x<n->t.getD x 0 = -1->x=r):=by
  intro n
  induction n with
  | zero=>exact⟨⟨λ_ x hx=>absurd hx (Xi _),λ_=>rfl⟩,⟨λh=>by simp[topsK]at h,λ⟨r,h,_⟩=>absurd h (Xi _)⟩⟩
  | succ n ih=>
   rw[HQ]
   by_cases e:t.getD n 0 = -1
   ·rw[if_pos e];refine⟨⟨λh=>by omega,λh=>absurd e (h n (by omega))⟩,⟨λh=>⟨n,by omega,e,λx hx hx1=>?_⟩,λ⟨r,h1,h2,h3⟩=>?_⟩⟩
    ·by_cases ex:x=n
     ·exact ex
     ·grind
    ·have:=ih.1.2 λx hx hx1=>by
      grind
     omega
   ·grind
 exact(key _).2
theorem rightD_iff:M8 t=true↔∃ r,r<t.length/\t.getD r 0 = -1/\YI t r:=by
 unfold M8;rw[Bg,all_range,Jm,qi]
 constructor
 ·rintro⟨h1,r,h2,h3,h4⟩;refine⟨r,h2,h3,λf hf hf2=>?_⟩;have:=h1 f hf;unfold pn at this;rw[OX,Jm,Zq,VC]at this;rcases this with h|h
  ·exact absurd h hf2
  ·obtain⟨x,r',k,e,hk⟩:=pathD_tp.1 h
   cases MT e
   have:=h4 _ hk.tops.1 hk.tops.2;subst this;exact⟨k,hk⟩
 ·rintro⟨r,h2,h3,h4⟩;refine⟨λf hf=>?_,r,h2,h3,λx hx hx1=>?_⟩
  ·unfold pn;rw[OX,Jm,Zq,VC]
   by_cases e:t.getD f 0 = -2
   ·exact .inl e
   ·obtain⟨k,hk⟩:=h4 f hf e;exact .inr (pathD_tp.2 ⟨f,r,k,rfl,hk⟩)
  ·obtain⟨k,hk⟩:=h4 x hx (by omega);exact((hk.det (.top hx hx1)).1).symm
theorem ai(hR:M8 t=true):∃ r,YI t r:=by obtain⟨r,_,_,h⟩:=rightD_iff.1 hR;exact⟨r,h⟩
theorem pc(ht:t.length<=1000):T3 t=some (M8 t):=by
 unfold T3
 have hroom:1000<=room:=by decide
 rcases m_index t _ ht with⟨r,h1,h2,h3,h4⟩|⟨h1,h2⟩
 ·rw[h4,Ar,C0 (by omega),A2,Ab ⟨by omega,by omega,by omega⟩,Aq];have hl:=eC ht h1 h2 t.length 0 (List.replicate t.length 0) (by omega) ⟨by simp,λy hy h0=>absurd JW h0⟩ (λy hy=>absurd hy (Xi _));rw[show(((0:Nat):Int))=0 from rfl]at hl;rw[hl,Ar]
  by_cases hA:YI t r
  ·rw[if_pos hA,rightD_iff.2 ⟨r,h1,h2,hA⟩]
  ·rw[if_neg hA]
   have :=Bool.eq_false_iff.2 λhR=>by
    obtain⟨r',g1,g2,g3⟩:=rightD_iff.1 hR;obtain⟨k,hk⟩:=g3 r h1 (by omega);have:=(hk.det (.top h1 h2)).1;subst this;exact hA g3
   rw[this]
 ·rw[h2]
  have :=Bool.eq_false_iff.2 λhR=>by
   obtain⟨r',g1,g2,g3⟩:=rightD_iff.1 hR;exact h1 r' g1 g2
  rw[this]
  rfl
def HG(t:List Int)(a:Int):Bool:=decide (0<=a)&&decide (a<(t.length:Int))&&decide (t.getD a.toNat 0≠-2)
theorem SM(hR:M8 t=true){a:Int}:HG t a=true↔∃ x k r:Nat,a=(x:Int)/\Tp t x r k:=by
 unfold HG;rw[Bg,Bg,Jm,Jm,Jm]
 constructor
 ·rintro⟨⟨h1,h2⟩,h3⟩;obtain⟨r,hA⟩:=ai hR;obtain⟨k,hk⟩:=hA _ (by omega) h3;exact⟨a.toNat,k,r,(Tu h1).symm,hk⟩
 ·rintro⟨x,k,r,rfl,h⟩;rw[Aq]
  cases h with
  | top _ h2=>omega
  | up _ h2 _=>omega
theorem iP(a:Int):Nq t a=some (HG t a):=by
 unfold Nq M2 HG;rw[Ar]
 cases h1:decide (0<=a) with
 | false=>rfl
 | true=>
  rw[Af,Mx]
  cases h2:decide (a<t.length) with
  | false=>rfl
  | true=>
   rw[Ab (λ_=>⟨MP h1,MP h2⟩),Af,Mx]
   congr 1
   rw[HU,zzL88,Jm]
theorem uW(ht:t.length<=1000)(a b:Int):Vp t a b=some (M8 t&&HG t a&&HG t b):=by
 unfold Vp;rw[pc ht]
 cases M8 t with
 | false=>rfl
 | true=>
  simp only[  iP, Mx]
  cases HG t a with
  | false=>rfl
  | true=>grind
theorem mT{a b:Int}(h:(M8 t&&HG t a&&HG t b)=false):Ru t a b = -2:=by
 unfold Ru
 by_cases hR:M8 t=true
 ·rw[if_pos hR];rw[hR]at h
  have hno:∀ c,HG t c=false->E5 t c=[]:=λc hc=>by
   by_cases e:E5 t c=[]
   ·exact e
   ·obtain⟨x,r,k,e1,e2⟩:=pathD_tp.1 e;rw[(SM hR).2 ⟨x,k,r,e1,e2⟩]at hc;cases hc
  cases ha:HG t a with
  | false=>rw[hno a ha];rfl
  | true=>
   rw[ha]at h;rw[hno b h]
   have:((E5 t a).find? λx=>[].contains x)=none:=List.find?_eq_none.2 λx _=>by simp
   rw[this]
   rfl
 ·rw[if_neg hR]
theorem XL(ht:t.length<=1000){a b:Int}(h:(M8 t&&HG t a&&HG t b)=true):R7 t a b=some (Ru t a b)/\0<=Ru t a b:=by
 rw[Bg,Bg]at h;obtain⟨⟨hR,ha⟩,hb⟩:=h;obtain⟨x,k,r,rfl,hx⟩:=(SM hR).1 ha;obtain⟨y,m,r',rfl,hy⟩:=(SM hR).1 hb;obtain⟨rr,hA⟩:=ai hR
 have top:∀{x r k},Tp t x r k->r=rr:=λ{x r k} h=>by
  obtain⟨i,hi⟩:=hA r h.tops.1 (by rw[h.tops.2];omega);exact((Tp.top h.tops.1 h.tops.2).det hi).1
 obtain rfl:=top hx;obtain rfl:=top hy;obtain⟨c,h1,h2⟩:=NV ht hx hy;obtain⟨d,h3,h4⟩:=pf hR hx hy;have:=h2.same hx h4;subst this;exact⟨by rw[h1,h3],by omega⟩
theorem xq(ht:t.length<=1000)(a b:Int):Yb t a b=some (DK t a b):=by
 unfold Yb DK;rw[uW ht]
 cases h:(M8 t&&HG t a&&HG t b) with
 | false=>
  rw[mT h]
  have:(-2==a&&(-2 !=-2))=false:=by simp
  rw[this]
  rfl
 | true=>
  obtain⟨h1,h2⟩:=XL ht h;simp only[show(true==true)=true from rfl,Af,h1,Ar]
  have:(Ru t a b !=-2)=true:=by rw[zzL88];omega
  rw[this,MU]
end
theorem uj:∀ n:Fin 65,Pu (Et 1) (Et ((n.val:Nat):Int))=some (0,((n.val:Nat):Int)):=by decide +kernel
theorem mW{n:Nat}(h:n<=64):Pu (Et 1) (Et (n:Int))=some (0,(n:Int)):=uj ⟨n,by omega⟩
theorem fT{v:Int}{n:Nat}(hn:n<=64):∀(m i:Nat) (l:List Int),n-i<=m->1<=i->i<=n->l.length=n->(∀ j,j<i->l.getD j 0=v)->Ac Dc ((i:Int),l)=some (List.replicate n v):=by
 intro m
 induction m with
 | zero=>
  intro i l hm h1 h2 hl hv
  obtain rfl:i=n:=by omega
  exact fin l hl hv
 | succ m ih=>
  intro i l hm h1 h2 hl hv
  by_cases e:i=n
  ·grind
  ·have hs:Dc ((i:Int),l)=some (.next (((i+Nat.min i (n-i):Nat):Int),bc l i (Nat.min i (n-i)) (λj=>l.getD (0+j) 0))):=by
    unfold Dc;simp only[hl,B8 (show i<n by omega),Af,Aq,Hz,ED];have hc:(0:Int)<=(i:Int)/\i<=n:=⟨by omega,h2⟩;have hmn:Nat.min i (n-i)<=i:=Nat.min_le_left _ _;rw[Ab hc,Ab hc,Ij (by omega) (by omega),Int.natCast_add]
   rw[Au hs];have hmn:Nat.min i (n-i)<=i/\Nat.min i (n-i)<=n-i:=⟨Nat.min_le_left _ _,Nat.min_le_right _ _⟩;have hge:1<=Nat.min i (n-i):=Nat.le_min.2 ⟨h1,by omega⟩;refine ih _ _ (by omega) (by omega) (by omega) (by rw[<- Fy];exact hl) λj hj=>?_;rw[RZ _ _ _ _ _ _ (by omega)]
   by_cases hji:i<=j/\j<i+Nat.min i (n-i)
   ·grind
   ·grind
where
 fin {v:Int} {i:Nat} (l:List Int) (hl:l.length=i) (hv:∀ j,j<i->l.getD j 0=v):Ac Dc ((i:Int),l)=some (List.replicate i v):=by
  apply An
  unfold Dc;simp only[hl,Ee,A2]
  congr 2
  refine OV (by simp[hl]) λj h1 h2=>?_;rw[<- Ag _ _ 0 h1,hv j (by omega)]
  simp
theorem pd{v:Int}{n:Nat}(h1:1<=n)(hn:n<=64):I6 [v] (n:Int)=some (List.replicate n v):=by
 have hroom:64<=room:=by decide
 unfold I6;rw[C0 (by omega),A2,Ar]
 show Option.bind (Pu (Et 1) _) _=_
 rw[mW hn,Ar];have e1:decide (0<0)=false:=rfl;have e2:decide (9223372036854775807<(n:Int))=false:=C0 (by omega);simp only[ e2,A2];have ew:w64 n=n:=Ij (by omega) (by omega);rw[ew,Ab ⟨by omega,by omega,by omega⟩,Aq,K1,ED];have em:Nat.min [v].length n=1:=Nat.min_eq_left h1;rw[em,fT hn n 1 _ (by omega) (zzL8 _) h1 (by rw[<- Fy];simp) (λj hj=>?_)]
 ·rfl
 ·rw[RZ _ _ _ _ _ _ (by simp;omega),if_pos ⟨by omega,by omega⟩]
  have:j-0=0:=by omega
  rw[this];rfl
section
variable {S:Nat->List Nat} {r n:Nat} {P:List Nat}
theorem Inv.tp{at_:Nat->Nat}{t:List Int}(h:Inv S r n at_ (Bu t))(hl:t.length=n):∀ m x,at_ x<=m->x<n->Bu t x≠-2->∃ k,Tp t x r k:=by
 intro m
 induction m with
 | zero=>
  intro x hm hx hp;rcases h.kind x hx with h1|h1|⟨z,hz⟩
  ·exact absurd h1 hp
  ·subst h1;exact⟨0,.top (by omega) h.top⟩
  ·obtain⟨_,_,h3,_⟩:=h.up x hx z hz;omega
 | succ m ih=>
  intro x hm hx hp;rcases h.kind x hx with h1|h1|⟨z,hz⟩
  ·exact absurd h1 hp
  ·subst h1;exact⟨0,.top (by omega) h.top⟩
  ·obtain⟨z1,z2,z3,_⟩:=h.up x hx z hz;obtain⟨k,hk⟩:=ih z (by omega) z1 z2;exact⟨k+1,.up (by omega) hz hk⟩
def IC(t l:List Int)(i:Nat)(v:Int):Prop:=
 (v = -2/\∀ j,j<i->Bu t (l.getD j 0).toNat = -2) \/
 ∃ z:Nat,v=(z:Int)/\z<t.length/\Bu t z≠-2/\(∀ w,UpTo (Bu t) z w↔∀ j,j<i->Bu t (l.getD j 0).toNat≠-2->UpTo (Bu t) (l.getD j 0).toNat w)
theorem bz{at_:Nat->Nat}{t l:List Int}(ht:t.length<=64)(hll:l.length<=64)(h:Inv S r n at_ (Bu t))(hl:t.length=n)(hin:∀ x∈l,0<=x/\x<(n:Int)):∀(k i:Nat) (v:Int),i+k=l.length->IC t l i v->
  ∃ v',Ac (F5 t l) (v,(i:Int))=some v'/\IC t l l.length v':=by
 intro k
 induction k with
 | zero=>
  intro i v hi hv
  obtain rfl:i=l.length:=by omega
  refine⟨v,An ?_,hv⟩;unfold F5;simp only[Ee,A2]
 | succ k ih=>
  intro i v hi hv
  have hil:i<l.length:=by omega
  obtain⟨x0,x1⟩:=hin _ (Ai (d:=0) hil);have hxe:(((l.getD i 0).toNat:Nat):Int)=l.getD i 0:=Tu x0;have hxin:A0 (l.getD i 0) t.length:=Aal x0 (by omega)
  have next:∀ v',F5 t l (v,(i:Int))=some (.next (v',((i+1:Nat):Int)))->IC t l (i+1) v'->∃ v',Ac (F5 t l) (v,(i:Int))=some v'/\IC t l l.length v':=λv' hs hv'=>by
   rw[Au hs];exact ih (i+1) v' (by omega) hv'
  by_cases hp:Bu t (l.getD i 0).toNat = -2
  ·have hb:((t.getD (l.getD i 0).toNat 0:Int)==-2)=true:=zzL85.2 hp;refine next v ?_ ?_
   ·unfold F5;simp only[B8 hil,Af,Aq,hb];rw[Ab (inb hil),Ab hxin,Ar,w1 (by omega)]
   ·have hstep:∀ w,(∀ j,j<i->Bu t (l.getD j 0).toNat≠-2->UpTo (Bu t) (l.getD j 0).toNat w)↔∀ j,j<i+1->Bu t (l.getD j 0).toNat≠-2->UpTo (Bu t) (l.getD j 0).toNat w:=λw=>by
     refine⟨λhj j hj1 hj2=>?_,λhj j hj1=>hj j (by omega)⟩
     by_cases e:j=i
     ·subst e;exact absurd hp hj2
     ·exact hj j (by omega) hj2
    rcases hv with⟨h1,h2⟩|⟨z,h1,h2,h3,h4⟩
    ·refine .inl ⟨h1,λj hj=>?_⟩
     by_cases e:j=i
     ·subst e;exact hp
     ·exact h2 j (by omega)
    ·exact .inr ⟨z,h1,h2,h3,λw=>by rw[h4 w,hstep w]⟩
  ·have hb:((t.getD (l.getD i 0).toNat 0:Int)==-2)=false:=zzL40.2 hp;rcases hv with⟨h1,h2⟩|⟨z,h1,h2,h3,h4⟩
   ·subst h1;refine next (l.getD i 0) ?_ (.inr ⟨(l.getD i 0).toNat,hxe.symm,by omega,hp,λw=>⟨λhw j hj hj2=>?_,λhw=>hw i (by omega) hp⟩⟩)
    ·unfold F5;simp only[B8 hil,Af,Aq,hb,A2,show((-2:Int)==-2)=true from rfl];rw[Ab (inb hil),Ab hxin,Ar,w1 (by omega)]
    ·by_cases e:j=i
     ·subst e;exact hw
     ·exact absurd (h2 j (by omega)) hj2
   ·subst h1;have hb2:((z:Int)==-2)=false:=zzL40.2 (by omega);obtain⟨k1,hk1⟩:=h.tp hl _ z (zzL8 _) (by omega) h3;obtain⟨k2,hk2⟩:=h.tp hl _ (l.getD i 0).toNat (zzL8 _) (by omega) hp;obtain⟨c,c1,c2⟩:=NV (by omega) hk1 hk2;have hcz:=(c2 c).1 (.refl _);obtain⟨jc,_,hjc,_⟩:=hk1.on hcz.1
    have hcp:Bu t c≠-2:=by
     show t.getD c 0≠-2
     cases hjc with
     | top _ h=>omega
     | up _ h _=>omega
    refine next (c:Int) ?_ (.inr ⟨c,rfl,hjc.lt,hcp,λw=>?_⟩)
    ·rw[hxe]at c1;unfold F5;simp only[B8 hil,Af,Aq,hb,A2,hb2,c1,Ar];rw[Ab (inb hil),Ab hxin,Ar,w1 (by omega)]
    ·rw[c2 w,h4 w];refine⟨λ⟨a1,a2⟩ j hj hj2=>?_,λha=>⟨λj hj=>ha j (by omega),ha i (by omega) hp⟩⟩
     by_cases e:j=i
     ·subst e;exact a2
     ·exact a1 j (by omega) hj2
theorem mM{at_:Nat->Nat}{t l:List Int}(ht:t.length<=64)(hll:l.length<=64)(h:Inv S r n at_ (Bu t))(hl:t.length=n)(hin:∀ x∈l,0<=x/\x<(n:Int)) :
  ∃ v,M3 t l=some v/\IC t l l.length v:=by
 obtain⟨v,h1,h2⟩:=bz ht hll h hl hin l.length 0 _ (by omega) (.inl ⟨rfl,λj hj=>absurd hj (Xi _)⟩);refine⟨v,?_,h2⟩;unfold M3;rw[show((0:Int))=(0:Nat) from rfl,h1]
 rfl
end
section
variable {L:List (List Int)} (hm:Nu L=true) {r:Nat} {P:List Nat}
include hm
theorem qW{p y:Nat}(hp:p<L.length):y∈sN L p↔CK L p y=true:=by
 rw[pK];obtain⟨_,_,h3⟩:=mayS_iff.1 hm
 constructor
 ·intro h;obtain⟨x,hx,rfl⟩:=zzL27.1 h;have:=b8 (h3 p hp) hx;rw[Tu this.1];exact hx
 ·intro h;exact zzL27.2 ⟨_,h,Aq y⟩
theorem DM{y:Nat}(hy:y<L.length){x:Int}:x∈(Es L).getD y []↔∃ p:Nat,x=(p:Int)/\p<L.length/\y∈sN L p:=by
 rw[ab hy];unfold La;rw[eY]
 constructor
 ·rintro⟨k,h1,h2,h3⟩;exact⟨k,h1,h2,(qW hm h2).2 h3⟩
 ·rintro⟨k,h1,h2,h3⟩;exact⟨k,h1,h2,(qW hm h2).1 h3⟩
theorem bx(o:Ordered (sN L) r L.length P){t:List Int}{i:Nat}(h:Ready (sN L) r L.length P t i)(hi:i<P.length) :
  M3 t ((Es L).getD (P.getD i 0) [])=some (Ps (sN L) L.length t (P.getD i 0):Int):=by
 obtain⟨hL1,hL64,_⟩:=mayS_iff.1 hm;have hyn:P.getD i 0<L.length:=o.lt (Nb _ (Wy hi))
 have hlen:((Es L).getD (P.getD i 0) []).length<=64:=by
  rw[ab hyn];have:=Yv L L.length (P.getD i 0);omega
 obtain⟨v,h1,h2⟩:=mM (by rw[h.len];exact hL64) hlen h.inv h.len λx hx=>by
  obtain⟨p,rfl,hp,_⟩:=(DM hm hyn).1 hx;omega
 rw[h1];have hb:=h.best o hi
 have mem:∀ p,p<L.length->P.getD i 0∈sN L p->∃ j,j<((Es L).getD (P.getD i 0) []).length/\(((Es L).getD (P.getD i 0) []).getD j 0).toNat=p:=λp hp hy=>by
  obtain⟨j,hj,e⟩:=L5 ((DM hm hyn).2 ⟨p,rfl,hp,hy⟩);exact⟨j,hj,by rw[Ag _ _ _ hj,e,Aq]⟩
 have mem':∀ j,j<((Es L).getD (P.getD i 0) []).length->(((Es L).getD (P.getD i 0) []).getD j 0).toNat<L.length/\P.getD i 0∈sN L (((Es L).getD (P.getD i 0) []).getD j 0).toNat:=λj hj=>by
  obtain⟨p,e,hp,hy⟩:=(DM hm hyn).1 (Ai (d:=(0:Int)) hj);rw[e,Aq];exact⟨hp,hy⟩
 rcases h2 with⟨rfl,h3⟩|⟨z,rfl,hz,hz2,h4⟩
 ·obtain⟨p,hp,hyp,hp2,_⟩:=hb.fwd;obtain⟨j,hj,e⟩:=mem p hp hyp;exact absurd (by rw[<- e];exact h3 j hj) hp2
 ·have hbest:gD (sN L) L.length (Bu t) (P.getD i 0) z:=λw=>by
   rw[h4 w];refine⟨λha p hp hyp hp2=>?_,λha j hj hj2=>?_⟩
   ·obtain⟨j,hj,e⟩:=mem p hp hyp;have:=ha j hj (by rw[e];exact hp2);rwa[e]at this
   ·grind
  rw[h.best_eq o hi (by rw[<- h.len];exact hz) hz2 hbest]
end
theorem ei{P:List Nat}{i:Nat}(h:i<P.length):(Wq P).getD i 0=((P.getD i 0:Nat):Int):=by
 unfold Wq;rw[Ag _ _ _ (by simpa using h),Ag _ _ _ h,List.getElem_map]
 rfl
theorem fW{t:List Int}{x:Nat}{v:Int}(hx:x<t.length)(h:t.getD x 0=v):t.set x v=t:=by
 subst h;rw[Ag _ _ _ hx];exact List.set_getElem_self hx
section
variable {L:List (List Int)} (hm:Nu L=true) {r:Nat} {P:List Nat} (o:Ordered (sN L) r L.length P)
include hm o
theorem jA{t0:List Int}(h:Ready (sN L) r L.length P t0 0):∀(k i:Nat) (b:Bool),i+k=P.length->
  ∃ b',Ac (Fj (K5 L) (Wq (r::P))) (b,(i:Int),BL (sN L) L.length P t0 i)=some (b',BL (sN L) L.length P t0 P.length) /\
   (b'=false↔b=false/\∀ j,i<=j->j<P.length->Bu (BL (sN L) L.length P t0 j) (P.getD j 0)=(Ps (sN L) L.length (BL (sN L) L.length P t0 j) (P.getD j 0):Int)):=by
 have hP64:P.length<=64:=by
  have h1:=Uj L.length (r::P) o.nodup λx hx=>o.lt hx;have h2:=(mayS_iff.1 hm).2.1;simp at h1;omega
 have hdl:(Wq (r::P)).drop (1:Int).toNat=Wq P:=rfl
 have hlen:(Wq P).length=P.length:=by simp[Wq]
 intro k
 induction k with
 | zero=>
  intro i b hi
  obtain rfl:i=P.length:=by omega
  refine⟨b,An ?_,λh=>⟨h,λj h1 h2=>by omega⟩,λh=>h.1⟩;unfold Fj;simp only[hdl,hlen,Ee,A2]
 | succ k ih=>
  intro i b hi
  have hil:i<P.length:=by omega
  have rd:=h.round o i (by omega);have hma:=bx hm o rd hil;have hyn:P.getD i 0<L.length:=o.lt (Nb _ (Wy hil))
  have hyt:P.getD i 0<(BL (sN L) L.length P t0 i).length:=by rw[rd.len];exact hyn
  have hpred:(K5 L).Pred=Es L:=rfl
  by_cases he:Bu (BL (sN L) L.length P t0 i) (P.getD i 0)=(Ps (sN L) L.length (BL (sN L) L.length P t0 i) (P.getD i 0):Int)
  ·have hb:((Ps (sN L) L.length (BL (sN L) L.length P t0 i) (P.getD i 0):Int)!=(BL (sN L) L.length P t0 i).getD (P.getD i 0) 0)=false:=by
    have:(BL (sN L) L.length P t0 i).getD (P.getD i 0) 0=_:=he;rw[this];simp
   have hnx:BL (sN L) L.length P t0 (i+1)=BL (sN L) L.length P t0 i:=fW hyt he
   have hs:Fj (K5 L) (Wq (r::P)) (b,(i:Int),BL (sN L) L.length P t0 i)=some (.next (b,((i+1:Nat):Int),BL (sN L) L.length P t0 (i+1))):=by
    unfold Fj;simp only[hdl,hlen,B8 hil,Af,Aq,ei hil,hpred,hma,Ar,hb,A2];rw[Ab (inb hil),Ab (inb (by rw[Se];exact hyn)),Ab (inb hyt),Ar,w1 (by omega),hnx]
   obtain⟨b',e1,e2⟩:=ih (i+1) b (by omega);refine⟨b',by rw[Au hs,e1],λh=>?_,λ⟨h1,h2⟩=>e2.2 ⟨h1,λj hj=>h2 j (by omega)⟩⟩;obtain⟨h1,h2⟩:=e2.1 h;refine⟨h1,λj hj1 hj2=>?_⟩
   by_cases e:j=i
   ·subst e;exact he
   ·exact h2 j (by omega) hj2
  ·have hb:((Ps (sN L) L.length (BL (sN L) L.length P t0 i) (P.getD i 0):Int)!=(BL (sN L) L.length P t0 i).getD (P.getD i 0) 0)=true:=by
    rw[zzL88];exact λe=>he e.symm
   have hs:Fj (K5 L) (Wq (r::P)) (b,(i:Int),BL (sN L) L.length P t0 i)=some (.next (true,((i+1:Nat):Int),BL (sN L) L.length P t0 (i+1))):=by
    unfold Fj;simp only[hdl,hlen,B8 hil,Af,Aq,ei hil,hpred,hma,Ar,hb];rw[Ab (inb hil),Ab (inb (by rw[Se];exact hyn)),Ab (inb hyt),Ab (inb hyt),Ar,w1 (by omega)]
    rfl
   obtain⟨b',e1,e2⟩:=ih (i+1) true (by omega);refine⟨b',by rw[Au hs,e1],λh=>?_,λ⟨h1,h2⟩=>absurd (h2 i (zzL8 _) hil) he⟩;obtain⟨h1,_⟩:=e2.1 h;cases h1
theorem mu{t0:List Int}(h:Ready (sN L) r L.length P t0 0):∃ b,Ac (Fj (K5 L) (Wq (r::P))) (false,(0:Int),t0)=some (b,BL (sN L) L.length P t0 P.length)/\(b=false↔BZ (sN L) L.length P t0):=by
 obtain⟨b,e1,e2⟩:=jA hm o h P.length 0 _ (by omega);refine⟨b,e1,e2.trans ⟨λ⟨_,h2⟩=>?_,λhs=>⟨rfl,λj _ hj=>?_⟩⟩⟩
 ·have key:∀ j,j<=P.length->BL (sN L) L.length P t0 j=t0:=by
   intro j
   induction j with
   | zero=>intro _;rfl
   | succ j ih=>
    intro hj;have ih':=ih (by omega);have rd:=h.round o j (by omega)
    have hyn:P.getD j 0<(BL (sN L) L.length P t0 j).length:=by rw[rd.len];exact o.lt (Nb _ (Wy (by omega)))
    have:BL _ _ P t0 (j+1)=BL _ _ P t0 j:=fW hyn (h2 j (L6 _) (by omega));rw[this,ih']
  intro i hi;have:=h2 i (L6 _) hi;rwa[key i (by omega)]at this
 ·rw[DV o h.len hs j (by omega)];exact hs j hj
open Classical in
theorem ks(j:Nat):H2 (K5 L) (Wq (r::P),WT (sN L) L.length P (Jl L.length r) j)=some (if BZ (sN L) L.length P (WT (sN L) L.length P (Jl L.length r) j) then .done (WT (sN L) L.length P (Jl L.length r) (j+1)) else .next (Wq (r::P),WT (sN L) L.length P (Jl L.length r) (j+1))):=by
 obtain⟨b,e1,e2⟩:=mu hm o (Ready.rounds o j);have hL2:V9 (K5 L) (Wq (r::P))=Fj (K5 L) (Wq (r::P)):=rfl
 have hlen:(0:Int)<=1/\(1:Int)<=((Wq (r::P)).length:Int):=by simp[Wq];omega
 unfold H2;simp only[hL2,e1,Ar];rw[Ab hlen]
 cases b with
 | false=>rw[if_pos (e2.1 rfl)];rfl
 | true=>rw[if_neg (λh=>by have:=e2.2 h;cases this)];rfl
theorem fe:∃ J,BZ (sN L) L.length P (WT (sN L) L.length P (Jl L.length r) J)/\Ac (H2 (K5 L)) (Wq (r::P),Jl L.length r)=some (WT (sN L) L.length P (Jl L.length r) J):=by
 obtain⟨J,h1,h2⟩:=wP o;refine⟨J,h2,?_⟩
 have key:∀ d j,j+d=J->Ac (H2 (K5 L)) (Wq (r::P),WT (sN L) L.length P (Jl L.length r) j)=some (WT (sN L) L.length P (Jl L.length r) J):=by
  intro d
  induction d with
  | zero=>
   intro j hj
   obtain rfl:j=J:=by omega
   have hF:=ks hm o j;rw[if_pos h2]at hF;rw[An hF];have:WT _ _ P _ (j+1)=WT _ _ P _ j:=DV o (Ready.rounds o j).len h2 _ (zzL8 _);rw[this]
  | succ d ih=>
   intro j hj;have hF:=ks hm o j;rw[if_neg (h1 j (by omega))]at hF;rw[Au hF];exact ih _ (by omega)
 exact key J 0 (by omega)
end
theorem xu(g:TGraph)(r:Int)(h1:Fits g.Succ)(h2:Fits g.Pred):Ut g r=some (OM g r):=by
 unfold OM
 by_cases hc:FO g=true/\0<=r/\r<g.Succ.length
 ·rw[if_pos hc];obtain⟨hG,h0,hlt⟩:=hc;obtain⟨hm,hg⟩:=kR hG;obtain⟨hL1,hL64,_⟩:=mayS_iff.1 hm
  have hr:r.toNat<g.Succ.length:=by omega
  obtain⟨O,hO⟩:=Ord.exist (Zm hm) hr;have hord:=(bv g h1 trivial r).1 hG h0 hlt O hO;obtain⟨P,rfl,o⟩:=hO.ordered hr (Zm hm);obtain⟨J,hJ,hl⟩:=fe hm o;have ht:=(OK o hJ).eq hm hr o;rw[ht]at hl;have hlen:(((Wq (r.toNat::P)).length:Int)==0)=false:=zzL40.2 (by simp[Wq];omega)
  have hlen2:(0:Int)<=1/\(1:Int)<=(Wq (r.toNat::P)).length:=by simp[Wq];omega
  have hL2:V9 g _=Fj g (Wq (r.toNat::P)):=rfl
  have hst:(N6 (H2 g (Wq (r.toNat::P),Jl g.Succ.length r.toNat)) (H2 g))=some (Zn g.Succ r.toNat):=by
   rw[OG,hg];exact hl
  unfold Ut;rw[hord,Ar,  pd hL1 hL64,Ar,Ab (Aal h0 (by simpa using hlt)),Ab hlen2]
  have:(H2 g (Wq (r.toNat::P),Jl g.Succ.length r.toNat))=(Ac (Fj g (Wq (r.toNat::P))) (false,0,(List.replicate g.Succ.length (-2)).set r.toNat (-1))).bind (λx22=>(match x22 with|(b10,l11)=>(bif b10 then(some (.next (Wq (r.toNat::P),l11))) else(some (.done l11))))):=by
   unfold H2 Jl;simp only[hL2];rw[Ab hlen2]
  rw[this]at hst;refine Eq.trans ?_ (Bx (λx =>x.bind λx42=>some x42) hst)
  rfl
 ·rw[if_neg hc];unfold Ut
  have:(FO g&&(decide (0<=r)&&decide (r<g.Succ.length)))=false:=by
   grind
  rw[(bv g h1 trivial r).2 this]
  rfl
theorem xS{α:Type}(l:List α)(d:α)(p:α->Bool){X:Type}(f:Int->Option (LR Int X))(yes no:X)(hl:l.length<9223372036854775808)(hk:∀ i:Nat,i<l.length->f i=some (bif p (l.getD i d) then .next (w64 ((i:Int)+1)) else .done no))
  (he:f l.length=some (.done yes)):Ac f (0:Int)=some (bif l.all p then yes else no):=by
 have:=Hi l d p f yes no (λi hi hp=>by rw[hk i hi,hp,Af,A8 hi hl]) (λi hi hp=>by grind) he l.length 0 (by omega);rwa[Mw]at this
theorem xh(f:TFunc)(hf:fw f)(l:Int)(t:List Int)(u:List Bj):Kl f l t u=some (bif W1 f then 0 else 4,f,l,t,u):=by
 unfold Kl Np;rw[Ab7 f hf]
 cases W1 f<;>rfl
theorem lv(phis:List Fe)(l:List Int)(h1:phis.length<9223372036854775808)(h2:l.length<4611686018427387904):Pl phis l=some (phis.all (Kz l)):=by
 unfold Pl
 rw[xS _ _ (Kz l) _ (.inl ()) _ h1 (λi hi=>by
  unfold Pw
  have hd:decide ((i:Int)<phis.length)=true:=by simpa using hi
  simp only[hd, Aa (Ak hi),Dq,bt _ _ h2, Kz]
  cases decide ((phis.getD i _).From=l) with
  | false=>rfl
  | true=>
   grind) (by unfold Pw;simp)]
 cases phis.all _<;>rfl
def gt(e:L8):Bool:=!((e.Kind==1 || e.Kind==3)&&(e.Arg !=0))
theorem lp{n:Nat}(e:L8)(hk:Nk e n=true):Pk e=some (gt e):=by
 have h4 :=by
  have:=(Bg _ _▸hk).1;unfold GC at this;simp only[Bg,Jm]at this;omega
 unfold Pk gt
 have:e.Kind=0\/e.Kind=1\/e.Kind=2\/e.Kind=3:=by omega
 rcases this with h|h|h|h<;>rw[h]<;>cases hb:(e.Arg==0)<;>simp[hb,bne]
theorem ii{L:List (List Int)}(hm:Nu L=true){P:List Nat}(h0:0<L.length)(o:Ord (sN L) 0 P):decide (P.length<L.length) = !(List.range L.length).all λi=>(Sv L).getD i false:=by
 have hin:∀ x∈P,x<L.length:=λx hx=>(by obtain⟨Q,rfl,oo⟩:=o.ordered h0 (Zm hm);exact oo.lt hx)
 have hr:∀ z,(Sv L).getD z _=true↔z∈P:=λz=>by
  rw[o.mem z];exact JS (Zm hm) h0 z
 cases ha:(List.range _).all _ with
 | true=>
  have:=((List.perm_ext_iff_of_nodup o.nodup List.nodup_range).2 λi=>⟨λh=>zzL37.2 (hin i h),λh=>(hr i).1 (zzL34.1 ha i h)⟩).length_eq;rw[EH]at this
  simp;omega
 | false=>
  obtain⟨i,hi,hni⟩:∃ i,i<L.length/\i∉P:=fo λhc=>by
   grind
  have :=Uj L.length _ (zzL109.2 ⟨hni,o.nodup⟩) (λx hx=>by grind);simp at this ⊢;omega
theorem oz {f : TFunc} (hf : OkF f) (l : Int) (t : List Int) (u : List Bj) : ∃ t', Jc f l t u = some (bif G5 f then 0 else 5, f, l, t', u) ∧ (G5 f = true → t' = D2 f) := by
  have hmax : f.Blocks.length ≤ maxLen := by have := hf.blocks; have : (64 : Nat) ≤ maxLen := by decide
                                             omega
  unfold Jc; rw [Ab3 f hmax, Ar]
  cases hs : Rl f with
  | false => exact ⟨t, by unfold G5; rw [hs]; rfl, fun h => by unfold G5 at h; rw [hs] at h; cases h⟩
  | true =>
    have hm := Ri hs; have hlen := S8 f
    have hpos : 0 < (Ci f).length := by have := (shape_iff.1 hs).1.1; omega
    obtain ⟨h1, h2⟩ := IZ hm; obtain ⟨P, hP⟩ := Ord.exist (Zm hm) hpos; have ho := (bv (K5 (Ci f)) h1 trivial 0).1 (TA hm) (by omega) (by show (0 : Int) < ((Ci f).length : Int); omega) P hP; have hfull := ii hm hpos hP; simp only [Af,  show ((0 : Int) != 0) = false from rfl, A2, ho, Ar, show (false == false) = true from rfl]
    have e1 : decide (((Wq P).length : Int) < (f.Blocks.length : Int)) = decide (P.length < (Ci f).length) := by
      rw [hlen]; apply zzL61.2; simp [Wq]
    rw [e1, hfull]
    have hsd : G5 f = (((List.range f.Blocks.length).all fun i => (Sv (Ci f)).getD i false) && (List.range f.Blocks.length).all fun i => gt (f.Blocks.getD i default).End && (f.Blocks.getD i default).Phis.all (Kz ((Es (Ci f)).getD i []))) := by
      unfold G5; rw [hs, Mx]
      have : ∀ (n : Nat) (p q : Nat → Bool), ((List.range n).all fun i => p i && q i) = ((List.range n).all p && (List.range n).all q) := fun n p q => by
        grind
      rw [← this]
      congr 1
      funext i
      show (_ && _ && _) = _
      rw [Bool.and_assoc]
      rfl
    rw [hlen]; rw [hsd]
    cases hr : (List.range f.Blocks.length).all _ with
    | false => exact ⟨t, rfl, fun h => by cases h⟩
    | true =>
      refine ⟨D2 f, ?_, fun _ => rfl⟩; rw [D3, A2, xu _ 0 h1 h2, Ar, Mx]; have hp := T6 hm
      have hpl : (K5 (Ci f)).Pred.length = f.Blocks.length := by rw [← hlen]; exact Se _
      have key : Ac (Dj f l u (K5 (Ci f), 0) (D2 f)) (0 : Int) = some (bif (List.range f.Blocks.length).all (fun i => gt (f.Blocks.getD i default).End && (f.Blocks.getD i default).Phis.all (Kz ((Es (Ci f)).getD i []))) then .inl () else .inr ((5 : Int), f, l, D2 f, u)) := by
        have hk : ∀ i : Nat, i < f.Blocks.length → Dj f l u (K5 (Ci f), 0) (D2 f) (i : Int) = some (bif (gt (f.Blocks.getD i default).End && (f.Blocks.getD i default).Phis.all (Kz ((Es (Ci f)).getD i []))) then .next ((i : Int) + 1) else .done (.inr ((5 : Int), f, l, D2 f, u))) := fun i hi => by
          have hB := hf.block _ (Ai (d := (default : Aj)) hi); have hpi : A0 (i : Int) (K5 (Ci f)).Pred.length := Ak (by omega); have hpg : ((K5 (Ci f)).Pred.getD i []).length ≤ 64 := hp.2 _ (Ai (by rw [Se]; omega)); unfold Dj
          have hd : decide ((i : Int) < (f.Blocks.length : Int)) = true := by simpa using hi
          simp only [hd, Af, Aa (Ak hi), Aa hpi, Dq, lv (f.Blocks.getD i default).Phis ((K5 (Ci f)).Pred.getD i []) (by have := hB.phis; omega) (by omega), Ar]; have ha  := lp (n := f.Blocks.length) (f.Blocks.getD i default).End ((shape_iff.1 hs).2 i hi); rw [ha, A8 hi (by have := hf.blocks; omega)]
          show _ = some (bif (gt (f.Blocks.getD i default).End && (f.Blocks.getD i default).Phis.all (Kz ((K5 (Ci f)).Pred.getD i []))) then _ else _)
          cases (f.Blocks.getD i default).Phis.all _ <;> cases gt (f.Blocks.getD i default).End <;> rfl
        exact LA _ _ _ _ _ (fun i hi hp => by rw [hk i hi, hp]; rfl) (fun i hi hp => by rw [hk i hi, hp]; rfl) (by unfold Dj; simp)
      show ((Ac (Dj f l u (K5 (Ci f), 0) (D2 f)) (0 : Int)).bind _) = _
      rw [key, Ar]
      cases (List.range f.Blocks.length).all _ <;> rfl
theorem xZ(o:C5)(l:Int)(h0:0<=l)(h2:l<=2)(hk:Jq o=true):T0 o l=some (!decide (JD l<o.Kind)&&!(decide (l<2)&&decide (1<o.Lanes))):=by
 have hl:=pR hk
 have hK :=by
  simp only[Jq,Bg]at hk;have:=hk.1.2.1.1.1;unfold f8 at this;simp only[Bg,Jm]at this;omega
 unfold T0 JD
 have:l=0\/l=1\/l=2:=by omega
 rcases this with rfl|rfl|rfl
 ·have ha:decide (o.Kind<=17) = !decide (17<o.Kind):=by grind
  have hb:(o.Lanes==1) = !decide (1<o.Lanes):=by grind
  show some _=some (!decide (17<o.Kind)&&!(true&&decide _))
  rw[ha,hb]
  cases decide (17<o.Kind)<;>cases decide (1<o.Lanes)<;>rfl
 ·have ha:decide (o.Kind<=20) = !decide (20<o.Kind):=by grind
  have hb:(o.Lanes==1) = !decide (1<o.Lanes):=by grind
  show some _=some (!decide (20<o.Kind)&&!(true&&decide _))
  rw[ha,hb]
  cases decide (20<o.Kind)<;>cases decide (1<o.Lanes)<;>rfl
 ·grind
theorem lu(o:C5)(ho:dA o)(f:TFunc)(l:Int)(h0:0<=l)(h2:l<=2)(t:List Int)(u:List Bj):Ip o f l t u=some (Rh l o,f,l,t,u):=by
 unfold Ip Rh;rw[SP o ho,Ar]
 cases hk:Jq o with
 | false=>rfl
 | true=>
  rw[show(true==true)=true from rfl,Af,xZ o l h0 h2 hk,Ar,Af,Mx]
theorem tt(b:Aj){f:TFunc}(hf:OkF f)(hb:b∈f.Blocks)(l:Int)(h0:0<=l)(h2:l<=2)(t:List Int)(u:List Bj):Mc b.Ops f l t u=some (b.Ops.all (Rh l),f,l,t,u):=by
 have hB:=hf.block b hb
 have key:∀ k i ,i+k=b.Ops.length->Ac (Hj b.Ops) (i,f.Params,f.Ret,f.Blocks,l,t,u)=some (bif (b.Ops.drop i).all (Rh l) then .inl (f.Params,f.Ret,f.Blocks,l,t,u) else .inr (false,f,l,t,u)):=by
  intro k
  induction k with
  | zero=>
   intro i h
   obtain rfl:i=b.Ops.length:=by omega
   rw[An (x:=.inl (f.Params,f.Ret,f.Blocks,l,t,u)) (by unfold Hj;simp)]
   simp
  | succ k ih=>
   intro i h
   have hi:i<b.Ops.length:=by omega
   have hd:decide (i<(b.Ops.length:Int))=true:=by simpa using hi
   have hdr:b.Ops.drop i=b.Ops.getD i default::b.Ops.drop (i+1):=by simp_all
   have hx:=lu (b.Ops.getD i default) (md hf hb (Ai hi)) f l h0 h2 t u;rw[hdr,GT]
   cases ho:Rh l _ with
   | true=>
    rw[ho]at hx
    rw[Au (s':=(((i+1:Nat):Int),f.Params,f.Ret,f.Blocks,l,t,u)) (by
     unfold Hj;simp only[hd, Aa (Ak hi),Dq,hx,   A8 hi (by have:=hB.ops;omega)]
     rfl),ih _ (by omega),Mx]
   | false=>
    rw[ho]at hx
    rw[An (x:=.inr (false,f,l,t,u)) (by
     unfold Hj
     simp only[hd,Af,Aa (Ak hi),Dq,hx,Ar,K2])]
    rfl
 unfold Mc;rw[show(0:Int)=(0:Nat) from rfl,key b.Ops.length 0 (by omega),Mw]
 cases b.Ops.all _<;>rfl
theorem om(b:Aj)(h:b.Phis.length<9223372036854775808):Ll b.Phis=some (b.Phis.all λp=>widthB p.Bits):=by
 unfold Ll
 rw[xS _ _ (λp=>widthB _) _ (.inl ()) _ h (λi hi=>by
  unfold Md R6
  have hd:decide (i<(b.Phis.length:Int))=true:=by simpa using hi
  simp only[hd, Aa (Ak hi),Dq,Xf]
  cases widthB _<;>rfl) (by unfold Md;simp)]
 cases b.Phis.all _<;>rfl
theorem ol(p:List Int)(h:p.length<9223372036854775808):Pj p=some (p.all widthB):=by
 unfold Pj
 rw[xS p 0 widthB _ (.inl ()) _ h (λi hi=>by
  unfold Pv
  have hd:decide (i<(p.length:Int))=true:=by simpa using hi
  simp only[hd, Aa (Ak hi),Dq,Xf]
  cases widthB _<;>rfl) (by unfold Pv;simp)]
 cases p.all _<;>rfl
theorem ba(b:Aj){f:TFunc}(hf:OkF f)(hb:b∈f.Blocks)(l:Int)(h0:0<=l)(h2:l<=2)(t:List Int)(u:List Bj):Gt b f l t u=some (Jp l b,f,l,t,u):=by
 unfold Gt Jp;rw[om b (by have:=(hf.block b hb).phis;omega), tt b hf hb l h0 h2 t u]
 cases(b.Phis.all _)<;>rfl
theorem t7{f:TFunc}(hf:OkF f)(l:Int)(h0:0<=l)(h2:l<=2)(t:List Int)(u:List Bj):Jx f l t u=some (bif Sh f l then 0 else 6,f,l,t,u):=by
 have key:∀ k i ,i+k=f.Blocks.length->Ac (Fi f.Blocks) (i,f.Params,f.Ret,f.Blocks,l,t,u)=some (bif (f.Blocks.drop i).all (Jp l) then .inl (f.Params,f.Ret,f.Blocks,l,t,u) else .inr (false,f,l,t,u)):=by
  intro k
  induction k with
  | zero=>
   intro i h
   obtain rfl:i=f.Blocks.length:=by omega
   rw[An (x:=.inl (f.Params,f.Ret,f.Blocks,l,t,u)) (by unfold Fi;simp)]
   simp
  | succ k ih=>
   intro i h
   have hi:i<f.Blocks.length:=by omega
   have hd:decide ((i:Int)<f.Blocks.length)=true:=by simpa using hi
   have hdr:f.Blocks.drop i=f.Blocks.getD i default::f.Blocks.drop (i+1):=by simp_all
   have hx:=ba (f.Blocks.getD i default) hf (Ai hi) l h0 h2 t u;rw[hdr,GT]
   cases ho:Jp l _ with
   | true=>
    rw[ho]at hx
    rw[Au (s':=(((i+1:Nat):Int),f.Params,f.Ret,f.Blocks,l,t,u)) (by
     unfold Fi;simp only[hd, Aa (Ak hi),Dq,hx,   A8 hi (by have:=hf.blocks;omega)]
     rfl),ih _ (by omega),Mx]
   | false=>
    rw[ho]at hx
    rw[An (x:=.inr (false,f,l,t,u)) (by
     unfold Fi
     simp only[hd,Af,Aa (Ak hi),Dq,hx,Ar,K2])]
    rfl
 have hall:Jw f.Blocks f l t u=some (f.Blocks.all (Jp l),f,l,t,u):=by
  unfold Jw;rw[show(0:Int)=(0:Nat) from rfl,key f.Blocks.length 0 (by omega),Mw]
  cases f.Blocks.all _<;>rfl
 unfold Jx Sh Np;rw[ol _ (by have:=hf.few;omega), hall,Xf]
 cases f.Params.all _<;>cases widthB f.Ret<;>cases f.Blocks.all _<;>rfl
def wA(d:Cb):L9:=bif decide (d.Block<0) then⟨0,-1⟩ else⟨d.Block,d.At⟩
def UX(d:Cb):A1:=⟨d.Shape,wA d⟩
def dv(l:List Cb):List (Int×A1):=l.map λd=>(d.V,UX d)
def XD(acc:List (Int×A1))(v:Int):Bool:=(F0 acc v || decide (v<1)) || decide (1023<v)
def Lb:List (Int×A1)->List Cb->Bool×List (Int×A1)
 | acc,[]=>(true,acc)
 | acc,d::ds=>bif XD acc d.V then(false,acc) else Lb (Nv acc d.V (UX d)) ds
theorem KR:∀(a b:List Cb) (acc:List (Int×A1)),Lb acc (a++b)=bif (Lb acc a).1 then Lb (Lb acc a).2 b else Lb acc a
 | [],b,acc=>rfl
 | d::a,b,acc=>by
  rw[OW];simp only[Lb]
  cases XD acc d.V with
  | true=>rfl
  | false =>  exact KR a b _
theorem TB{V:Type}(k:Int):∀ l:List (Int×V),F0 l k=l.any λq=>k==q.1
 | []=>rfl
 | (a,b)::l=>by rw[List.any_cons,<- TB k l];rfl
theorem LG{V:Type}(k:Int)(v:V):∀{l:List (Int×V)},F0 l k=false->Nv l k v=l++[(k,v)]
 | [],_=>rfl
 | (a,b)::l,h=>by
  simp only[F0,MM]at h;simp only[Nv,h.1,A2,LG k v h.2,OW]
theorem dg(v:Int)(s:Int×Int)(p:L9)(f:TFunc)(l:Int)(t:List Int)(vs:List (Int×A1))(u:List Bj) :
  Gu v s p f l t vs u=some (bif XD vs v then(false,f,l,t,u,vs) else(true,f,l,t,u,Nv vs v ⟨s,p⟩)):=by
 unfold Gu XD
 cases F0 vs v<;>cases decide (v<1)<;>cases decide (1023<v)<;>rfl
def vH(f:TFunc)(l:Int)(t:List Int)(u:List Bj)(r:Bool×List (Int×A1)):(List Int×Int×List Aj×Int×List Int×List Bj×List (Int×A1)) ⊕ (Bool×TFunc×Int×List Int×List Bj×List (Int×A1)):=
 bif r.1 then .inl (f.Params,f.Ret,f.Blocks,l,t,u,r.2) else .inr (false,f,l,t,u,r.2)
theorem xf(b:Aj)(h:b.Phis.length<9223372036854775808)(i:Nat)(f:TFunc)(l:Int)(t:List Int)(u:List Bj):∀(k j:Nat) (vs:List (Int×A1)),j+k=b.Phis.length->
  Ac (Du (i:Int) b) ((j:Int),f.Params,f.Ret,f.Blocks,l,t,u,vs)=some (vH f l t u (Lb vs ((List.range' j k).flatMap λ(k:Nat)=>[(⟨(b.Phis.getD k default).Dst,i,-1,((b.Phis.getD k default).Bits,1)⟩:Cb)]))):=by
 intro k
 induction k with
 | zero=>
  intro j vs hj
  obtain rfl:j=b.Phis.length:=by omega
  rw[An (x:=.inl (f.Params,f.Ret,f.Blocks,l,t,u,vs)) (by unfold Du;simp)]
  rfl
 | succ k ih=>
  intro j vs hj
  have hi:j<b.Phis.length:=by omega
  have hd:decide (j<(b.Phis.length:Int))=true:=by simpa using hi
  have hx:=dg (b.Phis.getD j default).Dst ((b.Phis.getD j default).Bits,1) ⟨(i:Int),-1⟩ f l t vs u
  have hat:wA ⟨(b.Phis.getD j default).Dst,i,-1,((b.Phis.getD j default).Bits,1)⟩=⟨i,-1⟩:=by   rfl
  rw[GP,MQ,List.singleton_append];simp only[Lb]
  cases hb:XD vs _ with
  | true=>
   rw[hb]at hx
   rw[An  (by
    unfold Du El;simp only[hd, Aa (Ak hi),Dq,Ar];rw[ hx]
    rfl)]
   rfl
  | false=>
   rw[hb]at hx
   rw[Au (s':=(((j+1:Nat):Int),f.Params,f.Ret,f.Blocks,l,t,u,Nv vs _ _)) (by
    unfold Du El;simp only[hd, Aa (Ak hi),Dq,Ar];rw[ hx,A8 hi h]
    rfl),ih _ _ (by omega)]
   unfold UX
   rfl
theorem Aaf{f0:TFunc}(hf:OkF f0){b:Aj}(hb:b∈f0.Blocks)(i:Nat)(f:TFunc)(l:Int)(t:List Int)(u:List Bj):∀(k j:Nat) (vs:List (Int×A1)),j+k=b.Ops.length->
  Ac (Co (i:Int) b) ((j:Int),f.Params,f.Ret,f.Blocks,l,t,u,vs)=some (vH f l t u (Lb vs ((List.range' j k).flatMap λ(k:Nat)=>bif decide (0<(Ia (b.Ops.getD k default)).1) then[(⟨(b.Ops.getD k default).Dst,i,k,Ia (b.Ops.getD k default)⟩:Cb)] else[]))):=by
 have hB:=hf.block b hb;intro k
 induction k with
 | zero=>
  intro j vs hj
  obtain rfl:j=b.Ops.length:=by omega
  rw[An (x:=.inl (f.Params,f.Ret,f.Blocks,l,t,u,vs)) (by unfold Co;simp)]
  rfl
 | succ k ih=>
  intro j vs hj
  have hi:j<b.Ops.length:=by omega
  have hd:decide ((j:Int)<(b.Ops.length:Int))=true:=by simpa using hi
  have hg:Qw _=some (Ia (b.Ops.getD j default)):=iI _ (md hf hb (Ai hi));have hx:=dg (b.Ops.getD j default).Dst (Ia (b.Ops.getD j default)) (⟨(i:Int),(j:Int)⟩:L9) f l t vs u
  have hat:wA (⟨(b.Ops.getD j default).Dst,i,j,Ia (b.Ops.getD j default)⟩:Cb)=⟨(i:Int),(j:Int)⟩:=by unfold wA; rfl
  rw[GP,MQ]
  cases hp:decide (0<(Ia _).1) with
  | false=>
   rw[A2,Tv,<- ih (j+1) vs (by omega),Au (s':=(((j+1:Nat):Int),f.Params,f.Ret,f.Blocks,l,t,u,vs)) (by
    unfold Co;simp only[hd,Af,Aa (Ak hi),Dq,hg,Ar,hp];rw[A8 hi (by have:=hB.ops;omega)]
    rfl)]
  | true=>
   rw[Af,List.singleton_append];simp only[Lb]
   cases hb:XD vs _ with
   | true=>
    rw[hb]at hx
    rw[An  (by
     unfold Co;simp only[hd,Af,Aa (Ak hi),Dq,hg,Ar,hp];rw[show(true==true)=true from rfl,Af, hx]
     rfl)]
    rfl
   | false=>
    rw[hb]at hx
    rw[Au (s':=(((j+1:Nat):Int),f.Params,f.Ret,f.Blocks,l,t,u,Nv vs _ _)) (by
     unfold Co;simp only[hd,Af,Aa (Ak hi),Dq,hg,Ar,hp];rw[show(true==true)=true from rfl,Af, hx,A8 hi (by have:=hB.ops;omega)]
     rfl),ih (j+1) _ (by omega)]
    unfold UX
    rfl
theorem dh{f:TFunc}(hf:OkF f){b:Aj}(hb:b∈f.Blocks)(i:Nat)(l:Int)(t:List Int)(u:List Bj)(vs:List (Int×A1)) :
  Hg (i:Int) b f l t vs u=some ((Lb vs (Rs b i)).1,f,l,t,u,(Lb vs (Rs b i)).2):=by
 unfold Hg Rs;rw[show 0=((0:Nat):Int) from rfl,xf b (by have:=(hf.block b hb).phis;omega) i f l t u b.Phis.length 0 vs (by omega),Ar,KR];rw[show(List.range' 0 _).flatMap _=So b i by rw[So,Tb]];unfold vH
 cases h1:(Lb vs _).1 with
 | false=>grind
 | true=>
  simp only[Af];rw[Aaf hf hb i f l t u b.Ops.length 0 _ (by omega)];rw[show(List.range' 0 _).flatMap _=CF b i by rw[CF,Tb]];unfold vH;cases h2:(Lb _ _).1<;>rfl
theorem LH{l:List Cb}{i:Nat}(hi:i<l.length):P2 l i=true↔valS (l.getD i default).V=true/\∀ j,j<i->(l.getD j default).V≠(l.getD i default).V:=by
 unfold P2;rw[Bg];refine and_congr Iff.rfl ?_;unfold Mp
 cases hx:l.findIdx? _ with
 | none=>
  rw[List.findIdx?_eq_none_iff]at hx;have:=hx _ (Ai (d:=default) hi);simp at this
 | some j=>
  obtain⟨hj,h1,h2⟩:=List.findIdx?_eq_some_iff_getElem.1 hx;simp only[zzL85]
  constructor
  ·grind
  ·intro h
   have hv:(l.getD j default).V=(l.getD i default).V:=by grind
   rcases Nat.lt_trichotomy j i with hlt|rfl|hgt
   ·grind
   ·rfl
   ·grind
theorem ui(l:List Cb)(v:Int):F0 (dv l) v=l.any λd=>v==d.V:=by
 rw[TB,dv,List.any_map];rfl
theorem SD:∀(ds pre:List Cb),(Lb (dv pre) ds).1=(List.range' pre.length ds.length).all (P2 (pre++ds))/\((Lb (dv pre) ds).1=true->(Lb (dv pre) ds).2=dv (pre++ds))
 | [],pre=>by simp[Lb]
 | d::ds,pre=>by
  have hi:pre.length<(pre++d::ds).length:=by simp
  have hg:(pre++d::ds).getD pre.length default=d:=by simp[List.getD]
  have hj:∀ j,j<pre.length->(pre++d::ds).getD j default=pre.getD j default:=λj h=>by grind
  have hok:P2 (pre++d::ds) pre.length = !XD (dv pre) d.V:=by
   rw[HU,LH hi,hg];unfold XD valS;rw[ui];simp only[Zq,MM,VC,List.any_eq_false,zzL85,Bg,Jm]
   constructor
   ·rintro⟨⟨h1,h2⟩,h3⟩;refine⟨⟨λx hx he=>?_,by omega⟩,by omega⟩;obtain⟨j,hjl,rfl⟩:=L5 hx;have:=h3 j hjl;rw[hj j hjl,Ag _ _ _ hjl]at this;exact this he.symm
   ·grind
  rw[GQ,GP,GT,hok];simp only[Lb]
  cases hb:XD _ d.V with
  | true=>grind
  | false=>
   have hn :=by
    unfold XD at hb;simp only[MM]at hb;exact hb.1.1
   have hs:Nv (dv pre) d.V (UX d)=dv (pre++[d]):=by rw[LG _ _ hn,dv,dv,GR];rfl
   have:=SD ds (pre++[d]);rw[Gn,EG]at this;rw[ hs,K2];exact this
def pv(f:TFunc)(n:Nat):List (Int×A1):=(List.range n).map λ(j:Nat)=>((j:Int)+1,⟨(f.Params.getD j 0,1),⟨0,-1⟩⟩)
theorem Aa5(f:TFunc):pv f f.Params.length=dv (Sz f):=by
 unfold pv dv Sz
 induction List.range _ with
 | nil=>rfl
 | cons a l ih=>rw[C1, ih];rfl
theorem ow{f:TFunc}(hf:OkF f):∀(k i:Nat),i+k=f.Params.length->Ac (Gv f) ((i:Int),pv f i)=some (pv f f.Params.length):=by
 intro k
 induction k with
 | zero=>
  intro i h
  obtain rfl:i=f.Params.length:=by omega
  exact An (by unfold Gv;simp)
 | succ k ih=>
  intro i h
  have hi:i<f.Params.length:=by omega
  have hd:decide ((i:Int)<(f.Params.length:Int))=true:=by simpa using hi
  have hn:F0 (pv f i) ((i:Int)+1)=false:=by
   rw[TB,pv,List.any_map,List.any_eq_false];intro j hj;have:=zzL37.1 hj
   simp;omega
  have hs:Nv (pv f i) ((i:Int)+1) ⟨(f.Params.getD i 0,1),⟨0,-1⟩⟩=pv f (i+1):=by
   rw[LG _ _ hn,pv,pv,Zr,GR];rfl
  rw[Au  (by
   unfold Gv El;simp only[hd,Af,Aa (Ak hi),Dq,Ar,A8 hi (by have:=hf.few;omega),hs]
   rfl)]
  exact ih (i+1) (by omega)
theorem oq{f:TFunc}(hf:OkF f)(l:Int)(t:List Int)(u:List Bj):∀(k i:Nat) (vs:List (Int×A1)),i+k=f.Blocks.length->
  Ac (Ek f) ((i:Int),vs,f.Params,f.Ret,f.Blocks,l,t,u)=some (bif (Lb vs ((List.range' i k).flatMap λi=>Rs (f.Blocks.getD i default) i)).1 then .inl ((Lb vs ((List.range' i k).flatMap λi=>Rs (f.Blocks.getD i default) i)).2,f.Params,f.Ret,f.Blocks,l,t,u) else
   .inr (7,f,l,t,u,(Lb vs ((List.range' i k).flatMap λi=>Rs (f.Blocks.getD i default) i)).2)):=by
 intro k
 induction k with
 | zero=>
  intro i vs h
  obtain rfl:i=f.Blocks.length:=by omega
  rw[An (x:=.inl (vs,f.Params,f.Ret,f.Blocks,l,t,u)) (by unfold Ek;simp)]
  rfl
 | succ k ih=>
  intro i vs h
  have hi:i<f.Blocks.length:=by omega
  have hd:decide (i<(f.Blocks.length:Int))=true:=by simpa using hi
  have hx:=dh hf (Ai (d:=default) hi) i l t u vs;rw[GP,MQ,KR]
  cases hb:(Lb vs _).1 with
  | false=>
   rw[hb]at hx
   rw[An  (by
    unfold Ek;simp only[hd, Aa (Ak hi),Dq];rw[ hx]
    rfl),A2,hb]
   rfl
  | true=>
   rw[hb]at hx
   rw[Au (s':=(((i+1:Nat):Int),(Lb vs _).2,f.Params,f.Ret,f.Blocks,l,t,u)) (by
    unfold Ek;simp only[hd, Aa (Ak hi),Dq];rw[ hx,A8 hi (by have:=hf.blocks;omega)]
    rfl),ih _ _ (by omega),Af]
theorem okP{f:TFunc}(hf:OkF f):∀ i,i<f.Params.length->P2 (A4 f) i=true:=λi hi=>by
 have hl:=EU f
 have hg:∀ j,j<f.Params.length->(A4 f).getD j default=⟨j+1,-1,0,(f.Params.getD j 0,1)⟩:=λj hj=>by
  have e:Sz f=(List.range f.Params.length).map λi=>⟨(i:Int)+1,-1,0,(f.Params.getD i 0,1)⟩:=by
   unfold Sz
   induction List.range _ with
   | nil=>rfl
   | cons a l ih=>grind
  rw[A4,List.getD,Zo (by omega),e];simp[hj]
 have hle:i<(A4 f).length:=by rw[A4,Gn];omega
 rw[LH hle,hg i hi];refine⟨?_,λj hj=>?_⟩
 ·have:=hf.few;simp only[valS,Bg,Jm];omega
 ·grind
theorem ls{f:TFunc}(hf:OkF f)(l:Int)(t:List Int)(u:List Bj):∃ vs,In f l t u=some (bif (List.range (A4 f).length).all (P2 (A4 f)) then 0 else 7,f,l,t,u,vs)/\((List.range (A4 f).length).all (P2 (A4 f))=true->vs=dv (A4 f)):=by
 have hsp:=SD ((List.range f.Blocks.length).flatMap λi=>Rs (f.Blocks.getD i default) i) (Sz f)
 have hall:(List.range (A4 f).length).all (P2 (A4 f))=(Lb (dv (Sz f)) ((List.range f.Blocks.length).flatMap λi=>Rs (f.Blocks.getD i default) i)).1:=by
  rw[hsp.1]
  show(List.range _).all _=(List.range' _ _).all (P2 (A4 f))
  have hs:List.range (A4 f).length=List.range (Sz f).length++List.range' (Sz f).length ((List.range f.Blocks.length).flatMap λi=>Rs (f.Blocks.getD i default) i).length:=by
   rw[Tb,Tb,A4,Gn];have:=List.range'_append_1 (s:=0) (m:=(Sz f).length) (n:=((List.range f.Blocks.length).flatMap λi=>Rs (f.Blocks.getD i default) i).length);rw[Hz]at this;exact this.symm
  rw[hs,List.all_append];have :=zzL34.2 λi hi=>okP hf i (by rw[<- EU f];exact zzL37.1 hi);rw[this,Mx]
 unfold In;have hp:=ow hf f.Params.length 0 (by omega);have e0:pv f 0=[]:=rfl;rw[e0,show(((0:Nat):Int))=0 from rfl]at hp;rw[hp,Ar,Aa5];have hb:=oq hf l t u f.Blocks.length 0 (dv (Sz f)) (by omega);rw[show(((0:Nat):Int))=0 from rfl,<- Tb]at hb;rw[hb, hall];refine⟨(Lb _ _).2,?_,hsp.2⟩
 cases(Lb _ _).1<;>rfl
theorem EZ{β S X:Type}(B:Nat)(mk:Int->List β->S)(out:List β->X)(n:Nat)(E:Nat->List β)(f:S->Option (LR S X))(hn:∀(acc:List β) (i:Nat),i<n->(acc++E i).length<=B->f (mk i acc)=some (.next (mk ((i:Int)+1) (acc++E i))))
  (hd:∀ acc:List β,f (mk n acc)=some (.done (out acc))):∀(k i:Nat) (acc:List β),i+k=n->(acc++(List.range' i k).flatMap E).length<=B->Ac f (mk i acc)=some (out (acc++(List.range' i k).flatMap E))
 | 0,i,acc,h,_=>by
  obtain rfl:i=n:=by omega
  rw[An (hd acc)]
  simp
 | k+1,i,acc,h,hB=>by
  have hi:i<n:=by omega
  rw[GP,MQ,<- EG]at hB ⊢;rw[Au (hn acc i hi (by grind)),show(i+1)=((i+1:Nat):Int) by omega,EZ B mk out n E f hn hd k _ _ (by omega) hB]
theorem eW{β γ:Type}(h:β->γ)(n:Nat)(g:Nat->β):(List.range' 0 n).flatMap (λj=>[h (g j)])=((List.range n).flatMap λj=>[g j]).map h:=by
 rw[List.map_flatMap,Tb];rfl
theorem SZ{β γ:Type}(h:β->γ)(n:Nat)(g:Nat->List β):(List.range' 0 n).flatMap (λj=>(g j).map h)=((List.range n).flatMap g).map h:=by
 rw[List.map_flatMap,Tb]
def Sd(f:TFunc)(b:Int):Int:=((f.Blocks.getD b.toNat default).Ops.length:Int)
def Jt(f:TFunc)(u:Cz):Bj:=⟨u.V,u.Shape,⟨u.Block,bif u.At==1000 then Sd f u.Block else u.At⟩⟩
theorem kD(f:TFunc)(l:Int)(t:List Int)(vs:List (Int×A1))(v:Int)(s:Int×Int)(p:L9)(u:List Bj)(h:(u++[(⟨v,s,p⟩:Bj)]).length<=10000000):E8 v s p f l t vs u=some (f,l,t,u++[⟨v,s,p⟩]):=by
 unfold E8;rw[Ab (by rw[Gn]at h;rw[FG];omega)]
theorem ou(f:TFunc)(l:Int)(t:List Int)(vs:List (Int×A1))(b:Int)(hb:A0 b f.Blocks.length)(u:List Bj):G6 b f l t vs u=some (⟨b,Sd f b⟩,f,l,t,u):=by
 unfold G6;rw[Ab hb];rfl
section
variable {f:TFunc} (hf:OkF f) (l:Int) (t:List Int) (vs:List (Int×A1))
include hf
theorem xe(i k:Nat)(hi:i<f.Blocks.length)(hk:k<(f.Blocks.getD i default).Phis.length)(hfit:((f.Blocks.getD i default).Phis.getD k default).Args.length<=((f.Blocks.getD i default).Phis.getD k default).From.length)
  (hin:∀ x∈((f.Blocks.getD i default).Phis.getD k default).From,A0 x f.Blocks.length) (u:List Bj) (hB:(u++(Pa ((f.Blocks.getD i default).Phis.getD k default)).map (Jt f)).length<=10000000) :
  Ac (Ef f vs (i:Int) (k:Int)) ((0:Int),f.Params,f.Ret,f.Blocks,l,t,u)=some (f.Params,f.Ret,f.Blocks,l,t,u++(Pa ((f.Blocks.getD i default).Phis.getD k default)).map (Jt f)):=by
 have hlen:=TN hf (Ai  hi) (Ai (d:=default) hk)
 generalize hp:(f.Blocks.getD i _).Phis.getD k _=p at *
 have e:=eW (Jt f) p.Args.length λj=>⟨p.Args.getD j 0,p.From.getD j 0,1000,(p.Bits,1)⟩
 have:=EZ _ (λj u=>(j,f.Params,f.Ret,f.Blocks,l,t,u)) (λu=>(f.Params,f.Ret,f.Blocks,l,t,u)) _ (λj=>[Jt f _]) (Ef f vs i k) (λacc j hj hacc=>by
  unfold Ef El
  have hd:decide (j<(p.Args.length:Int))=true:=by simpa using hj
  have hjf:j<p.From.length:=by omega
  simp only[Dq,hp,hd,Af,Aa (Ak hj),Ar,Aa (Ak hjf)];rw[ ou f l t vs _ (hin _ (Ai hjf)),Ar];have eu:Jt f ⟨p.Args.getD j 0,p.From.getD j 0,1000,(p.Bits,1)⟩=⟨p.Args.getD j 0,(p.Bits,1),⟨p.From.getD j 0,Sd f _⟩⟩:=rfl;rw[eu]at hacc ⊢
  rw[kD f l t vs _ _ _ acc hacc,Ar,A8 hj (by omega)]) (λacc=>by unfold Ef;simp only[Dq,hp,show decide (p.Args.length<(p.Args.length:Int))=false by simp,A2]) p.Args.length 0 u (by omega) (by rw[e];exact hB)
 rw[e]at this;exact this
theorem t6(i:Nat)(hi:i<f.Blocks.length)(hfit:∀ p∈(f.Blocks.getD i default).Phis,p.Args.length<=p.From.length/\∀ x∈p.From,A0 x f.Blocks.length)(u:List Bj)(hB:(u++(Oe (f.Blocks.getD i default)).map (Jt f)).length<=10000000) :
  Ac (Eg f vs (i:Int)) ((0:Int),f.Params,f.Ret,f.Blocks,l,t,u)=some (f.Params,f.Ret,f.Blocks,l,t,u++(Oe (f.Blocks.getD i default)).map (Jt f)):=by
 have hBk:=hf.block _ (Ai (d:=default) hi);have e:=SZ (Jt f) (f.Blocks.getD i default).Phis.length λk=>Pa ((f.Blocks.getD i default).Phis.getD k default)
 have:=EZ _ (λj u=>(j,f.Params,f.Ret,f.Blocks,l,t,u)) (λu=>(f.Params,f.Ret,f.Blocks,l,t,u)) _ _ (Eg f vs i) (λacc k hk hacc=>by
  have hq:=hfit _ (Ai (d:=default) hk);have h1:=xe hf l t vs i k hi hk hq.1 hq.2 acc hacc;unfold Eg
  have hd:decide ((k:Int)<(f.Blocks.getD i default).Phis.length)=true:=by simpa using hk
  simp only[Dq,hd,Af,Aa (Ak hk),h1,Ar,A8 hk (by have:=hBk.phis;omega)]) (λacc=>by unfold Eg;simp) (f.Blocks.getD i default).Phis.length 0 u (by omega) (by rw[e];exact hB)
 rw[e]at this;exact this
theorem Aae(i k:Nat)(hi:i<f.Blocks.length)(hk:k<(f.Blocks.getD i default).Ops.length)(u:List Bj)(hB:(u++(Sw ((f.Blocks.getD i default).Ops.getD k default) i k).map (Jt f)).length<=10000000) :
  Ac (Eh f vs (i:Int) (k:Int) (Ii ((f.Blocks.getD i default).Ops.getD k default))) ((0:Int),f.Params,f.Ret,f.Blocks,l,t,u)=some (f.Params,f.Ret,f.Blocks,l,t,u++(Sw ((f.Blocks.getD i default).Ops.getD k default) i k).map (Jt f)):=by
 have hBk:=hf.block _ (Ai (d:=default) hi);have hlen:=Yy (kZ hf (Ai  hi) (Ai (d:=default) hk));have hk512:=hBk.ops
 generalize hp:(f.Blocks.getD i _).Ops.getD k _=o at *
 have e:=eW (Jt f) (Ii o).length λj=>⟨o.Args.getD j 0,i,k,(Ii o).getD j (0,0)⟩
 have:=EZ _ (λj u=>(j,f.Params,f.Ret,f.Blocks,l,t,u)) (λu=>(f.Params,f.Ret,f.Blocks,l,t,u)) _ (λj=>[Jt f _]) (Eh f vs i k (Ii o)) (λacc j hj hacc=>by
  have hkk:((k:Int)==1000)=false:=by simp;omega
  have eu:Jt f ⟨o.Args.getD j 0,i,k,(Ii o).getD j (0,0)⟩=⟨o.Args.getD j 0,(Ii o).getD j (0,0),⟨i,k⟩⟩:=by unfold Jt;simp only[hkk,A2]
  rw[eu]at hacc ⊢;unfold Eh
  have hd:decide (j<((Ii o).length:Int))=true:=by simpa using hj
  have hja:j<o.Args.length:=by omega
  simp only[Dq,hp,hd,Af,Aa (Ak hj),Aa (Ak hja)]
  rw[ kD f l t vs _ _ _ acc hacc,Ar,A8 hj (by omega)]) (λacc=>by unfold Eh;simp) (Ii o).length 0 u (by omega) (by rw[e];exact hB)
 rw[e]at this;exact this
theorem xd(i:Nat)(hi:i<f.Blocks.length)(u:List Bj)(hB:(u++(U6 (f.Blocks.getD i default) i).map (Jt f)).length<=10000000) :
  Ac (Ei f vs (i:Int)) ((0:Int),f.Params,f.Ret,f.Blocks,l,t,u)=some (f.Params,f.Ret,f.Blocks,l,t,u++(U6 (f.Blocks.getD i default) i).map (Jt f)):=by
 have hmem:=Ai (d:=default) hi;have hBk:=hf.block _ hmem;have e:=SZ (Jt f) (f.Blocks.getD i default).Ops.length λk=>Sw ((f.Blocks.getD i default).Ops.getD k default) i k
 have:=EZ _ (λj u=>(j,f.Params,f.Ret,f.Blocks,l,t,u)) (λu=>(f.Params,f.Ret,f.Blocks,l,t,u)) _ _ (Ei f vs i) (λacc k hk hacc=>by
  have h1:=Aae hf l t vs i k hi hk acc hacc;have ht:Qx _=some (Ii ((f.Blocks.getD i _).Ops.getD k default)):=iK _ (md hf hmem (Ai hk));unfold Ei
  have hd:decide (k<((f.Blocks.getD i default).Ops.length:Int))=true:=by simpa using hk
  simp only[Dq,hd,Af,Aa (Ak hk),ht,h1,Ar,A8 hk (by have:=hBk.ops;omega)]) (λacc=>by unfold Ei;simp) (f.Blocks.getD i default).Ops.length 0 u (by omega) (by rw[e];exact hB)
 rw[e]at this;exact this
theorem lq (hfit : ∀ b ∈ f.Blocks, ∀ p ∈ b.Phis, p.Args.length ≤ p.From.length ∧ ∀ x ∈ p.From, A0 x f.Blocks.length) : Im f l t vs [] = some (f, l, t, (Bw f).map (Jt f)) := by
  have e := SZ (Jt f) f.Blocks.length fun (i : Nat) => DX f (f.Blocks.getD i default) i; have hul := MH hf
  have := EZ 10000000 (fun j u => (j, f.Params, f.Ret, f.Blocks, l, t, u)) (fun u => (f.Params, f.Ret, f.Blocks, l, t, u)) f.Blocks.length (fun (i : Nat) => (DX f (f.Blocks.getD i default) i).map (Jt f)) (Ej f vs) (fun acc i hi hacc => by
    have hmem := Ai (d := (default : Aj)) hi; unfold DX at hacc ⊢; rw [GR, GR, ← EG, ← EG] at hacc ⊢; have l1 := hacc; simp only [Gn, Xh] at l1; have h1 := t6 hf l t vs i hi (hfit _ hmem) acc (by simp only [Gn, Xh]; omega); have h2 := xd hf l t vs i hi (acc ++ (Oe (f.Blocks.getD i default)).map (Jt f)) (by simp only [Gn, Xh]; omega); have hinb : A0 (i : Int) f.Blocks.length := Ak hi; unfold Ej El
    have hd : decide ((i : Int) < (f.Blocks.length : Int)) = true := by simpa using hi
    simp only [hd, Af, Aa (Ak hi), h1, Ar, h2, Dq]; have hF : (⟨f.Params, f.Ret, f.Blocks⟩ : TFunc) = f := rfl; have hw : w64 ((i : Int) + 1) = (i : Int) + 1 := A8 hi (by have := hf.blocks; omega); unfold V0 at hacc ⊢
    cases hz : ((f.Blocks.getD i default).End.Kind == 0) with
    | true =>
      have hz2 : ((f.Blocks.getD i default).End.Kind == 2) = false := by have : (f.Blocks.getD i default).End.Kind = 0 := by simpa using hz
                                                                         rw [this]; rfl
      rw [hz, hz2] at hacc; simp only [Af, A2, hz2, List.append_nil, C1, De] at hacc ⊢; rw [hF, ou f l t vs _ hinb, Ar]; simp only; rw [kD f l t vs _ _ _ _ (show (_ ++ [(⟨_, _, ⟨(i : Int), Sd f (i : Int)⟩⟩ : Bj)]).length ≤ 10000000 from hacc), Ar, Ar, hw]
      rfl
    | false =>
      rw [hz] at hacc
      cases hz2 : ((f.Blocks.getD i default).End.Kind == 2) with
      | true =>
        rw [hz2] at hacc; simp only [Af, A2, Tv, C1, De] at hacc ⊢; rw [hF, ou f l t vs _ hinb, Ar]; simp only; rw [kD f l t vs _ _ _ _ (show (_ ++ [(⟨_, _, ⟨(i : Int), Sd f (i : Int)⟩⟩ : Bj)]).length ≤ 10000000 from hacc), Ar, Ar, hw]
        rfl
      | false =>
        simp only [A2, Tv, De, List.append_nil, Ar, hw]) (fun acc => by unfold Ej; simp) f.Blocks.length 0 [] (by omega) (by rw [e]; simpa [Bw] using (by omega : (Bw f).length ≤ 10000000))
  rw [e, Tv] at this; unfold Im; rw [show (0 : Int) = ((0 : Nat) : Int) from rfl]
  show ((Ac (Ej f vs) (((0 : Nat) : Int), f.Params, f.Ret, f.Blocks, l, t, [])).bind _) = _
  rw [this, Ar]
  rfl
end
theorem te{σ X:Type}(mk:Int->σ)(U:List Bj)(p:Bj->Bool)(f:σ->Option (LR σ X))(yes no:X)(hk:∀ i:Nat,i<U.length->f (mk i)=some (bif p (U.getD i default) then .next (mk ((i:Int)+1)) else .done no))(he:f (mk U.length)=some (.done yes)) :
  ∀ k i:Nat,i+k=U.length->Ac f (mk i)=some (bif (U.drop i).all p then yes else no)
 | 0,i,h=>by
  obtain rfl:i=U.length:=by omega
  rw[An he]
  simp
 | k+1,i,h=>by
  have hi:i<U.length:=by omega
  have hdr:U.drop i=U.getD i default::U.drop (i+1):=by simp_all
  have hx:=hk i hi;rw[hdr,GT]
  cases hp:p _ with
  | true=>
   rw[hp]at hx;rw[Au hx,show((i:Int)+1)=(i+1:Nat) by omega,te mk U p f yes no hk he k _ (by omega),Mx]
  | false=>
   rw[hp]at hx;rw[An hx]
   rfl
theorem SI(d:Cb)(l:List Cb)(v:Int):Mp (d::l) v=bif d.V==v then 0 else bif decide (Mp l v<0) then -1 else Mp l v+1:=by
 unfold Mp;rw[List.findIdx?_cons]
 cases d.V==v with
 | true=>rfl
 | false=>
  grind
theorem TC(v:Int):∀ l:List Cb,F0 (dv l) v = !decide (Mp l v<0)
 | []=>rfl
 | d::l=>by
  rw[SI]
  show((v==d.V) || F0 (dv l) v)=_
  rw[TC v l,show(v==d.V)=(d.V==v) by grind]
  cases d.V==v with
  | true=>rfl
  | false=>
   grind
theorem HK(v:Int):∀ l:List Cb,¬ Mp l v<0->H8 (default:A1) (dv l) v=UX (defOf l v)
 | [],h=>absurd (show -1<0 by decide) h
 | d::l,h=>by
  unfold defOf;rw[SI]at h ⊢
  show(bif v==d.V then UX d else H8 _ (dv l) v)=_
  rw[show(v==d.V)=(d.V==v) by grind]
  cases hb:d.V==v with
  | true=>rfl
  | false=>
   rw[hb]at h
   by_cases hn:Mp l v<0
   ·simp[hn]at h
   ·have hz :=C0 hn;simp only[A2,hz];rw[HK v l hn,show(Mp l v+1).toNat=(Mp l v).toNat+1 by omega]
    rfl
def nR(f:TFunc)(d:Cb):Prop:=d.Block = -1\/(A0 d.Block f.Blocks.length/\d.At<Sd f d.Block/\d.At<1000)
def vr(f:TFunc)(u:Cz):Prop:=A0 u.Block f.Blocks.length/\0<=u.At
theorem defs_in{f:TFunc}(hf:OkF f):∀ d∈A4 f,nR f d:=λd hd=>by
 rcases zzL14.1 hd with h|h
 ·obtain⟨i,_,hi⟩:=zzL33.1 h;rw[zzL18.1 hi];exact .inl rfl
 ·obtain⟨i,hi,h⟩:=zzL33.1 h
  have hi :=by simpa using hi
  have hB:=hf.block _ (Ai (d:=default) hi);have ho:Sd f i=(f.Blocks.getD i default).Ops.length:=rfl;rcases zzL14.1 h with h|h
  ·obtain⟨k,hk,h⟩:=zzL33.1 h;rw[zzL18.1 h];refine .inr ⟨Ak hi,?_,?_⟩
   ·grind
   ·grind
  ·obtain⟨k,hk,h⟩:=zzL33.1 h
   have hk:k<(f.Blocks.getD i default).Ops.length:=by simpa using hk
   cases hg:decide (0<(Ia _).1) with
   | false=>rw[hg]at h;cases h
   | true=>
    rw[hg]at h;rw[zzL18.1 h];refine .inr ⟨Ak hi,?_,?_⟩
    ·grind
    ·show(k:Int)<1000;have:=hB.ops;omega
theorem va{f:TFunc}(hfit:∀ b∈f.Blocks,∀ p∈b.Phis,p.Args.length<=p.From.length/\∀ x∈p.From,A0 x f.Blocks.length):∀ u∈Bw f,vr f u:=λu hu=>by
 obtain⟨i,hi,h⟩:=zzL33.1 hu
 have hi :=by simpa using hi
 have hmem:=Ai (d:=default) hi;rcases zzL14.1 h with h|h
 ·rcases zzL14.1 h with h|h
  ·obtain⟨k,hk,h⟩:=zzL33.1 h
   have hk :=by simpa using hk
   obtain⟨j,hj,h⟩:=zzL33.1 h;have hj:=zzL37.1 hj;have hq:=hfit _ hmem _ (Ai (d:=default) hk);rw[zzL18.1 h];exact⟨hq.2 _ (Ai (by omega)),by grind⟩
  ·obtain⟨k,hk,h⟩:=zzL33.1 h;obtain⟨j,hj,h⟩:=zzL33.1 h;rw[zzL18.1 h];exact⟨Ak hi,by grind⟩
 ·unfold V0 at h
  have:u=⟨(f.Blocks.getD i default).End.Arg,i,1000,(f.Ret,1)⟩\/u=⟨(f.Blocks.getD i default).End.Arg,i,1000,(1,1)⟩:=by
   grind
  rcases this with rfl|rfl<;>exact⟨Ak hi,by grind⟩
theorem xn{f:TFunc}(h:G5 f=true):∀ b∈f.Blocks,∀ p∈b.Phis,p.Args.length<=p.From.length/\∀ x∈p.From,A0 x f.Blocks.length:=λb hb p hp=>by
 have hs :=by simp only[G5,Bg]at h;exact h.1
 refine⟨ap h b hb p hp,λx hx=>?_⟩;obtain⟨i,hi,rfl⟩:=L5 hb;simp only[G5,Bg]at h;have h1:=gq h.2 i hi;simp only[Nh,Bg,zzL34]at h1;rw[Ag _ _ _ hi]at h1;have h2:=h1.2 p hp;simp only[Kz,Bg,Jm]at h2;rw[h2.1]at hx;obtain⟨q,rfl,hq,_⟩:=(DM  (Ri hs)  (by rw[S8];exact hi)).1 hx;exact Ak (by rw[S8]at hq;exact hq)
theorem il{f:TFunc}(h:G5 f=true){b:Int}(hb:A0 b f.Blocks.length):DK (D2 f) 0 b=true:=by
 have hs :=by simp only[G5,Bg]at h;exact h.1
 have hm:=Ri hs;have hlen:=S8 f
 have hpos:0<(Ci f).length:=by have:=(shape_iff.1 hs).1.1;omega
 obtain⟨P,hP,o,ht⟩:=ar hm hpos
 have e:D2 f=Zn (Ci f) 0:=by
  unfold D2 OM;rw[if_pos ⟨TA hm,Int.le_refl _,by show(0:Int)<(Ci f).length;omega⟩]
  rfl
 obtain⟨k,rfl⟩:∃ k:Nat,b=k:=⟨b.toNat,(Tu hb.1).symm⟩
 have hk:k<f.Blocks.length:=by have:=hb.2;omega
 simp only[G5,Bg]at h;have h1:=gq h.2 k hk;simp only[Nh,Bg]at h1;have hr :=(JS (Zm hm) hpos k).1 h1.1.1;rw[e];refine(ht.over_dom o hpos (by omega)).2 ⟨rc_iff.2 hr,λha=>?_⟩;exact(av_iff.1 ha).1 rfl
theorem CC{l:List Cz}{g:Cz->Bj}{p:Bj->Bool}{q:Cz->Bool}(h:∀ u∈l,p (g u)=q u):(l.map g).all p=l.all q:=by
 grind
def uL(vs:List (Int×A1))(u:Bj):Bool:=((H8 (default:A1) vs u.v).shape.1==u.shape.1)&&(((H8 (default:A1) vs u.v).shape.2==u.shape.2)&&true)
def HC(vs:List (Int×A1))(t:List Int)(u:Bj):Bool:=bif (H8 (default:A1) vs u.v).place.block==u.place.block then decide ((H8 (default:A1) vs u.v).place.at_<u.place.at_) else DK t (H8 (default:A1) vs u.v).place.block u.place.block
theorem oI{f:TFunc}(hs:G5 f=true){D:List Cb}(hD:∀ d∈D,nR f d){u:Cz}(hu:vr f u)(hfd:Mk D u=true):HC (dv D) (D2 f) (Jt f u)=Zd D (D2 f) u:=by
 have hF:¬ Mp D u.V<0:=by simpa [Mk] using hfd
 have hin:=SJ hF;have hd:nR f (defOf D u.V):=hD _ (by unfold defOf;exact Ai (by have:=hin.1;have:=hin.2;omega));have hg:H8 (default:A1) (dv D) (Jt f u).v=UX (defOf D u.V):=HK u.V D hF;unfold HC Zd;rw[hg]
 generalize defOf D u.V=d at *
 have hub:=hu.1.1
 have hul:0<=Sd f u.Block:=by unfold Sd;omega
 have hat:∀ a:Int,a<0\/(a<Sd f u.Block/\a<1000)->decide (a<(Jt f u).place.at_)=decide (a<u.At)\/a<0:=λa ha=>by
  rcases ha with ha|ha
  ·exact .inr ha
  ·refine .inl ?_
   show decide (a<bif u.At==1000 then Sd f u.Block else u.At)=_
   by_cases h:u.At=1000
   ·rw[h];simp only[show((1000:Int)==1000)=true from rfl,Af];rw[Cr ha.1,Cr ha.2]
   ·have:(u.At==1000)=false:=by simpa using h
    rw[this];rfl
 have hpos:0<=(Jt f u).place.at_:=by
  show 0<=bif u.At==1000 then Sd f u.Block else u.At
  cases u.At==1000
  ·exact hu.2
  ·exact hul
 have hblk:(Jt f u).place.block=u.Block:=rfl;rw[hblk];rcases hd with hd|⟨hd1,hd2,hd3⟩
 ·have e:(UX d).place=⟨0,-1⟩:=by show wA d=_;unfold wA;rw[hd];rfl
  rw[e,hd,Cr (show(-1:Int)<0 by decide)];rw[Bool.true_or,Bool.true_or,il hs hu.1,Cr (show(-1:Int)<(Jt f u).place.at_ by omega)]
  cases(0:Int)==u.Block<;>rfl
 ·have hn:¬ d.Block<0:=by have:=hd1.1;omega
  have e:(UX d).place=⟨d.Block,d.At⟩:=by show wA d=_;unfold wA;rw[C0 hn];rfl
  rw[e,C0 hn,Bool.false_or]
  cases hb:d.Block==u.Block with
  | true=>
   have hbe:d.Block=u.Block:=by simpa using hb
   simp only[Af,Mx,D3,MS,Bool.or_false];rcases hat d.At (.inr ⟨by rw[<- hbe];exact hd2,hd3⟩) with h|h
   ·exact h
   ·rw[Cr (by omega),Cr (by have:=hu.2;omega)]
  | false=>
   simp only[A2,MS,Bool.false_or,K2,Mx];unfold DK
   by_cases hm:Ru (D2 f) d.Block u.Block=d.Block
   ·rw[hm]
    have:(d.Block !=-2)=true:=by simp;omega
    simp[this]
   ·have:(Ru (D2 f) d.Block u.Block==d.Block)=false:=by simpa using hm
    simp[this,bne]
section
variable {f:TFunc} (l:Int) (vs:List (Int×A1))
def nM(f:TFunc)(l:Int)(U:List Bj)(i:Int):Int×List Int×Int×List Aj×Int×List Int×List Bj:=(i,f.Params,f.Ret,f.Blocks,l,D2 f,U)
def nN(f:TFunc)(l:Int)(U:List Bj):List Int×Int×List Aj×Int×List Int×List Bj:=(f.Params,f.Ret,f.Blocks,l,D2 f,U)
theorem t8(U:List Bj)(hU:U.length<9223372036854775808):Ac (F2 vs (f,l,D2 f,U)) (nM f l U 0)=some (bif U.all (λu=>F0 vs u.v) then .inl (nN f l U) else .inr (nN f l U)):=by
 have:=te (nM f l U) U (λu=>F0 vs u.v) (F2 vs (f,l,D2 f,U)) _ _ (λi hi=>by
  unfold F2 nM Lr
  have hd:decide (i<(U.length:Int))=true:=by simpa using hi
  simp only[hd, Aa (Ak hi),Dq, A8 hi hU]
  cases F0 vs _<;>rfl) (by unfold F2 nM;simp;rfl) U.length 0 (by omega)
 exact this
theorem uB(U:List Bj)(hU:U.length<9223372036854775808):Ac (F3 vs U) (nM f l U 0)=some (bif U.all (uL vs) then .inl (nN f l U) else .inr (nN f l U)):=by
 have:=te (nM f l U) U (uL vs) (F3 vs U) _ _ (λi hi=>by
  unfold F3 nM Nn
  have hd:decide (i<(U.length:Int))=true:=by simpa using hi
  simp only[hd, Aa (Ak hi),Dq, A8 hi hU];unfold uL
  cases(((H8 _ vs _).shape.1==(U.getD i _).shape.1)&&(((H8 _ vs _).shape.2==(U.getD i _).shape.2)&&true))<;>rfl) (by unfold F3 nM;simp;rfl) U.length 0 (by omega)
 exact this
theorem uD(htl:(D2 f).length<=1000)(U:List Bj)(hU:U.length<9223372036854775808):Ac (F4 vs U) (nM f l U 0)=some (bif U.all (HC vs (D2 f)) then .inl (nN f l U) else .inr (nN f l U)):=by
 have:=te (nM f l U) U (HC vs _) (F4 vs U) _ _ (λi hi=>by
  have hx:Io (U.getD i default) f l (D2 f) vs U=some (HC vs (D2 f) (U.getD i default),f,l,D2 f,U):=by
   unfold Io HC;rw[xq htl]
   cases(H8 _ vs _).place.block==(U.getD i _).place.block<;>rfl
  unfold F4 nM
  have hd:decide ((i:Int)<U.length)=true:=by simpa using hi
  simp only[hd, Aa (Ak hi),Dq];rw[ hx, A8 hi hU]
  cases HC vs _ _<;>rfl) (by unfold F4 nM;simp;rfl) U.length 0 (by omega)
 exact this
end
def ff(f:TFunc):Int:=bif !(Bw f).all (Mk (A4 f)) then 7 else bif !(Bw f).all (Ze (A4 f)) then 6 else bif !(Bw f).all (Zd (A4 f) (D2 f)) then 7 else 0
theorem xi{f:TFunc}(hf:OkF f)(hs:G5 f=true)(l:Int):∃ U,Km f l (D2 f) (dv (A4 f)) []=some (ff f,f,l,D2 f,U):=by
 have hfit:=xn hs;have hul:=MH hf
 have hsB :=by simp only[G5,Bg]at hs;exact hs.1
 refine⟨(Bw f).map (Jt f),?_⟩
 have hU:((Bw f).map (Jt f)).length<9223372036854775808:=by grind
 have h1:=t8 (f:=f) l (dv (A4 f)) _ hU;have h2:=uB (f:=f) l (dv (A4 f)) _ hU;have h3:=uD  l (dv (A4 f)) (fc hsB) _ hU;rw[CC (q:=Mk _) (λu _=>TC u.V _)]at h1;unfold Km ff N6;rw[lq hf l _ _ hfit,Ar];rw[show(Ac _ ((0:Int),f.Params,f.Ret,f.Blocks,l,D2 f,(Bw f).map _))=_ from h1,Ar];have fin:∀ e ,Ac P0 (e,f.Params,f.Ret,f.Blocks,l,D2 f,(Bw f).map (Jt f))=some _:=λe=>An rfl
 cases hfd:(Bw f).all _ with
 | false=>simp only[A2,K2,Af,nN,Ar,fin]
 | true=>
  have hmf:=zzL34.1 hfd
  rw[CC (q:=Ze _) (λu hu=>by
   have:=hmf u hu;simp only[Mk,Zq,VC]at this;have hg:H8 _ _ (Jt f u).v=UX _:=HK u.V _ this;unfold uL Ze
   rw[hg];rfl)]at h2
  rw[CC  (λu hu=>oI hs (defs_in hf) (va hfit u hu) (hmf u hu))]at h3;simp only[Af,D3, nN];rw[show(Ac _ ((0:Int),f.Params,f.Ret,f.Blocks,l,D2 f,(Bw f).map _))=_ from h2,Ar]
  cases(Bw f).all _ with
  | false=>simp only[A2,K2,Af,nN,Ar,fin]
  | true=>
   simp only[Af,D3, nN];rw[show(Ac _ ((0:Int),f.Params,f.Ret,f.Blocks,l,D2 f,(Bw f).map _))=_ from h3]
   cases(Bw f).all _ with
   | false=>simp only[A2,K2,Af,nN,Ar,fin]
   | true=>simp only[Af,D3,A2,nN,Ar]
theorem uE{f:TFunc}(h:Sm f)(l:Int)(h0:0<=l)(h2:l<=2):∃ t u vs,Jy f l [] []=some (K4 f l,f,l,t,u,vs)/\(K4 f l=0->vs=dv (A4 f)):=by
 have hc:K4 f l=bif !W1 f then 4 else VA f l:=by
  unfold K4;rw[C0 (by omega),C0 (by omega)];rfl
 rw[hc];unfold Jy;rw[xh f h.1,Ar]
 cases hm:W1 f with
 | false=>simp_all
 | true=>
  have hf:=qY h hm;simp only[    VA];obtain⟨t',hsh,hst⟩:=oz hf l [] [];rw[hsh,Ar]
  cases hs:G5 f with
  | false=>simp_all
  | true=>
   obtain rfl:=hst hs;rw[t7 hf l h0 h2,Ar]
   cases Sh f l with
   | false=>simp_all
   | true=>
    obtain⟨vs,hd,hv⟩:=ls hf l _ [];rw[hd,Ar]
    cases hdd:(List.range _).all _ with
    | false=>grind
    | true=>
     obtain rfl:=hv hdd;obtain⟨U,hu⟩:=xi hf hs l;rw[hu];refine⟨D2 f,U,dv _,?_,λ_=>rfl⟩
     show(bif ff f !=0 then some _ else some _)=some (ff f,f,l,D2 f,U,dv _)
     cases hz:ff f !=0 with
     | true=>rfl
     | false=>
      grind
theorem tw(f:TFunc)(l:Int)(h:Sm f):O6 f l=some (K4 f l):=by
 unfold O6
 by_cases h0:l<0
 · unfold K4;rw[Cr h0];rfl
 ·by_cases h2:2<l
  · unfold K4;rw[C0 h0,Cr h2];rfl
  ·obtain⟨t,u,vs,hw,_⟩:=uE h l (by omega) (by omega);rw[C0 h0,C0 h2,hw];rfl
abbrev bA(f:TFunc)(i:Nat):Aj:=f.Blocks.getD i default
def qg(f:TFunc)(i:Nat)(k:Nat):Int:=(bA f i).End.To.getD k 0
def prF(f:TFunc)(i:Nat):List Int:=(Es (Ci f)).getD i []
structure Rt(f:TFunc):Prop where
 lo:1<=f.Blocks.length
 hi:f.Blocks.length<=64
 to:∀ i,i<f.Blocks.length->∀ k,k<(bA f i).End.To.length->0<qg f i k/\qg f i k<f.Blocks.length
 one:∀ i,i<f.Blocks.length->(bA f i).End.Kind=1->(bA f i).End.To.length=1
 two:∀ i,i<f.Blocks.length->(bA f i).End.Kind=2->(bA f i).End.To.length=2
 may:Nu (Ci f)=true
 ok:OkF f
theorem rt_of{f:TFunc}(h:Sm f)(hc:K4 f 2=0):Rt f:=by
 have hz:=(RY (f:=f) (l:=2) (by omega) (by omega)).1 hc
 have hs:Rl f=true:=by
  have:=hz.2.1;unfold G5 at this;rw[Bg]at this;exact this.1
 obtain⟨⟨h1,h2⟩,h3⟩:=shape_iff.1 hs
 have hw:∀ i,i<f.Blocks.length->(((bA f i).End.To.length:Nat):Int)=EA (bA f i).End.Kind:=λi hi=>by
  have:=h3 i hi;unfold Nk GC at this;simp only[Bg,Jm]at this;exact this.1.2
 refine⟨h1,h2,λi hi k hk=>?_,λi hi hk=>?_,λi hi hk=>?_,Ri hs,qY h hz.1⟩
 ·exact toB_iff.1 (bf (h3 i hi)) _ (Ai (d:=0) hk)
 ·have:=hw i hi;rw[hk,show EA 1=1 from rfl]at this;omega
 ·have:=hw i hi;rw[hk,show EA 2=2 from rfl]at this;omega
theorem cP{f:TFunc}{i:Nat}(hi:i<f.Blocks.length):(Ci f).getD i []=JX (bA f i).End.To:=by
 unfold Ci;rw[Pg hi];rfl
theorem yP{f:TFunc}(R:Rt f){y:Nat}(hy:y<f.Blocks.length){x:Int}:x∈prF f y↔∃ p:Nat,x=(p:Int)/\p<f.Blocks.length/\(y:Int)∈(bA f p).End.To:=by
 unfold prF;have hl:=S8 f;rw[DM R.may (by omega)]
 constructor
 ·rintro⟨p,h1,h2,h3⟩;rw[iV R.may (by omega),cP (by omega),(Xc _).2]at h3;exact⟨p,h1,by omega,h3⟩
 ·rintro⟨p,h1,h2,h3⟩;exact⟨p,h1,by omega,by rw[iV R.may (by omega),cP (by omega),(Xc _).2];exact h3⟩
theorem qF{f:TFunc}(R:Rt f)(i:Nat):(prF f i).length<=64:=by
 unfold prF
 by_cases hi:i<(Es (Ci f)).length
 ·exact(T6 R.may).2 _ (Ai hi)
 ·rw[KD,List.getElem?_eq_none (by omega)];simp
def lone(e:L8)(b r:Int):TFunc:=⟨[b],r,[⟨[],[],e⟩]⟩
theorem Aca{α:Type}(l:List α):(l.map λ_=>1).sum=l.length:=by induction l with|nil=>rfl|cons a l ih=>simp[ih];omega
theorem qk{f:TFunc}(h:Sh f 2=true){b:Aj}(hb:b∈f.Blocks){o:C5}(ho:o∈b.Ops):Jq o=true:=by
 simp only[Sh,Jp,Bg,zzL34]at h;have:=(h.1.2 b hb).2 o ho;rw[fD  rfl]at this;exact this.1
theorem uP(n d:Int):n<=grow n d/\d<=grow n d:=by
 unfold grow
 by_cases h:n<d
 ·grind
 ·grind
theorem KT{α:Type}(v:α->Int):∀(l:List α) (n:Int),n<=l.foldl (λn a=>grow n (v a)) n/\∀ a∈l,v a<=l.foldl (λn a=>grow n (v a)) n
 | [],n=>by simp
 | a::l,n=>by
  obtain⟨h1,h2⟩:=KT v l (grow n (v a));have h3:=uP n (v a);rw[EI];refine⟨by omega,λx hx=>?_⟩;rcases zzL28.1 hx with rfl|hx
  ·omega
  ·exact h2 x hx
theorem S2:∀(l:List Aj) (n:Int),n<=l.foldl (λn b=>b.Ops.foldl (λn o=>grow n o.Dst) (b.Phis.foldl (λn p=>grow n p.Dst) n)) n /\
  ∀ b∈l,(∀ p∈b.Phis,p.Dst<=l.foldl (λn b=>b.Ops.foldl (λn o=>grow n o.Dst) (b.Phis.foldl (λn p=>grow n p.Dst) n)) n)/\∀ o∈b.Ops,o.Dst<=l.foldl (λn b=>b.Ops.foldl (λn o=>grow n o.Dst) (b.Phis.foldl (λn p=>grow n p.Dst) n)) n
 | [],n=>by simp
 | b::l,n=>by
  obtain⟨p1,p2⟩:=KT (λp =>p.Dst) b.Phis n;obtain⟨q1,q2⟩:=KT (λo =>o.Dst) b.Ops (b.Phis.foldl (λn p=>grow n p.Dst) n);obtain⟨h1,h2⟩:=S2 l (b.Ops.foldl (λn o=>grow n o.Dst) (b.Phis.foldl (λn p=>grow n p.Dst) n));rw[EI];refine⟨by omega,λx hx=>?_⟩;rcases zzL28.1 hx with rfl|hx
  ·grind
  ·exact h2 x hx
theorem Ww{f:TFunc}{d:Cb}(hd:d∈A4 f):d.V<=Ur f:=by
 obtain⟨h1,h2⟩:=S2 f.Blocks f.Params.length;unfold Ur;rw[A4,zzL14]at hd;rcases hd with hd|hd
 ·simp only[Sz,zzL33,zzL37,zzL18]at hd;obtain⟨i,hi,rfl⟩:=hd
  show(i:Int)+1<=_
  omega
 ·simp only[zzL33,zzL37]at hd;obtain⟨i,hi,hd⟩:=hd;have hmem:=Ai (d:=default) hi;rw[Rs,zzL14]at hd;rcases hd with hd|hd
  ·simp only[So,zzL33,zzL37,zzL18]at hd;obtain⟨k,hk,rfl⟩:=hd;exact(h2 _ hmem).1 _ (Ai hk)
  ·simp only[CF,zzL33,zzL37]at hd;obtain⟨k,hk,hd⟩:=hd
   cases hg:decide (0<(Ia _).1) with
   | false=>rw[hg]at hd;cases hd
   | true=>
    rw[hg]at hd;obtain rfl:=zzL18.1 hd;exact(h2 _ hmem).2 _ (Ai hk)
theorem FE{f:TFunc}{i k:Nat}(hi:i<f.Blocks.length)(hk:k<(f.Blocks.getD i default).Phis.length):(⟨((f.Blocks.getD i default).Phis.getD k default).Dst,i,-1,(((f.Blocks.getD i default).Phis.getD k default).Bits,1)⟩:Cb)∈A4 f:=by
 rw[A4,zzL14]
 right
 simp only[zzL33,zzL37,Rs,zzL14,So,zzL18];exact⟨i,hi,.inl ⟨k,hk,rfl⟩⟩
theorem Xz{f:TFunc}(h:af f=0){d:Cb}(hd:d∈A4 f):1<=d.V:=by
 have ha:(List.range (A4 f).length).all (P2 (A4 f))=true:=by
  unfold af at h
  cases hx:(List.range _).all _ with
  | true=>rfl
  | false=>grind
 obtain⟨i,hi,rfl⟩:=L5 hd;have:=gq ha i hi;simp only[P2,Bg]at this;rw[Ag _ _ _ hi]at this;have h2:=this.1;simp only[valS,Bg,Jm]at h2;exact h2.1
set_option maxRecDepth 100000
def UZ(w:Int):Prop:=w=1\/w=8\/w=16\/w=32\/w=64
def u64(x:Int):Prop:=0<=x/\x<18446744073709551616
theorem MG(x:Int):u64 (Et x):=by rw[VB];unfold u64;omega
theorem qo{w:Int}(h:UZ w):(0:Int)<2 ^ w.toNat/\(2:Int) ^ w.toNat<=18446744073709551616:=by rcases h with rfl|rfl|rfl|rfl|rfl<;>decide
theorem Ua{w:Int}(h:UZ w)(x:Int):0<=x % 2 ^ w.toNat/\x % 2 ^ w.toNat<2 ^ w.toNat:=by
 omega
theorem MF{w x:Int}(h:UZ w)(h0:0<=x)(h1:x<2 ^ w.toNat):u64 x:=⟨h0,Int.lt_of_lt_of_le h1 (qo h).2⟩
theorem qX{v:Int}{a:Nat}{p q:Int}(hp:(2:Int) ^ min ((a:Int).toNat) 64=p)(hq:∀ v:Int,v*p % 18446744073709551616 / p=v % q)(h0:0<=p):O0 .u64 (Tm .u64 v (a:Int)) (a:Int)=v % q:=by
 have e1:Tm .u64 v a=v*p % 18446744073709551616:=by
  show IntKind.u64.wrap (v*2 ^ min _ 64)=_
  rw[hp];exact VB _
 have e2:∀ x ,O0 .u64 x _=x.fdiv p:=λx=>by
  show x.fdiv (2 ^ min _ 64)=_
  rw[hp]
 rw[e1,e2,Int.fdiv_eq_ediv_of_nonneg _ h0,hq]
theorem de{w:Int}(h:UZ w):Ep w=some true:=by rcases h with rfl|rfl|rfl|rfl|rfl<;>rfl
theorem YS{v w:Int}(hw:UZ w)(h:u64 v):Fb v w=some (v % 2 ^ w.toNat):=by
 rcases hw with rfl|rfl|rfl|rfl|rfl
 ·rw[show Fb v 1=some (O0 .u64 _ ((63:Nat):Int)) by kernel_rfl,qX (p:=9223372036854775808) (q:=2) (by decide) (λv=>by omega) (by decide)];rfl
 ·rw[show Fb v 8=some (O0 .u64 _ ((56:Nat):Int)) by kernel_rfl,qX (p:=72057594037927936) (q:=256) (by decide) (λv=>by omega) (by decide)];rfl
 ·rw[show Fb v 16=some (O0 .u64 _ ((48:Nat):Int)) by kernel_rfl,qX (p:=281474976710656) (q:=65536) (by decide) (λv=>by omega) (by decide)];rfl
 ·rw[show Fb v 32=some (O0 .u64 _ ((32:Nat):Int)) by kernel_rfl,qX (p:=4294967296) (q:=4294967296) (by decide) (λv=>by omega) (by decide)];rfl
 ·rw[show Fb v 64=some (O0 .u64 _ ((0:Nat):Int)) by kernel_rfl,qX (p:=1) (q:=18446744073709551616) (by decide) (λv=>by omega) (by decide)];rfl
theorem RU{op:BinOp}{x y:Int}:u64 (Lq op .u64 x y):=by
 unfold Lq
 split<;>first|exact MG _|omega
theorem vM{x y:Int}:u64 (Tm .u64 x y):=MG _
theorem vN{x y:Int}(h:u64 x):u64 (O0 .u64 x y):=by
 unfold O0;have h2:(0:Int)<2 ^ min y.toNat IntKind.u64.bits:=Int.pow_pos (by decide);rw[Int.fdiv_eq_ediv_of_nonneg _ (Int.le_of_lt h2)];exact⟨Int.ediv_nonneg h.1 (Int.le_of_lt h2),Int.lt_of_le_of_lt (Int.ediv_le_self _ h.1) h.2⟩
theorem ME(b:Bool):∃ z,Mh b=some z/\u64 z:=by cases b<;>exact⟨_,rfl,by unfold u64;decide⟩
theorem df{v w:Int}(hw:UZ w):∃ z,Su v w=some z:=by
 rcases hw with rfl|rfl|rfl|rfl|rfl
 ·exact⟨O0 .i64 (w64 (Tm .u64 v 63)) 63,by kernel_rfl⟩
 ·exact⟨O0 .i64 (w64 (Tm .u64 v 56)) 56,by kernel_rfl⟩
 ·exact⟨O0 .i64 (w64 (Tm .u64 v 48)) 48,by kernel_rfl⟩
 ·exact⟨O0 .i64 (w64 (Tm .u64 v 32)) 32,by kernel_rfl⟩
 ·exact⟨O0 .i64 (w64 (Tm .u64 v 0)) 0,by kernel_rfl⟩
theorem tu{k w x y:Int}(hk:1<=k/\k<=12)(hw:UZ w)(hx:u64 x)(hy:u64 y)(h4:k=4->y≠0):∃ z,Jf k w x y=some z/\u64 z:=by
 have hc:k=1\/k=2\/k=3\/k=4\/k=5\/k=6\/k=7\/k=8\/k=9\/k=10\/k=11\/k=12:=by omega
 rcases hc with rfl|rfl|rfl|rfl|rfl|rfl|rfl|rfl|rfl|rfl|rfl|rfl
 ·exact⟨Et (x+y),by kernel_rfl,MG _⟩
 ·exact⟨Et (x-y),by kernel_rfl,MG _⟩
 ·exact⟨Et (x*y),by kernel_rfl,MG _⟩
 ·refine⟨Et (Int.tdiv x y),?_,MG _⟩;rw[show Jf 4 w x y=(Rd x y).bind _ by kernel_rfl];unfold Rd;rw[Ab (h4 rfl)];rfl
 ·exact⟨Lq .and _ x y,by kernel_rfl,RU⟩
 ·exact⟨Lq .or _ x y,by kernel_rfl,RU⟩
 ·exact⟨Lq .xor .u64 x y,by kernel_rfl,RU⟩
 ·rw[show Jf 8 w x y=(Re x y w).bind λx2=>some x2.1 by kernel_rfl];unfold Re;rw[Ab hy.1]
  cases decide (Et w<=y)
  ·exact⟨_,rfl,vM⟩
  ·exact⟨_,rfl,show u64 0 from⟨Int.le_refl _,by decide⟩⟩
 ·rw[show Jf 9 w x y=(Rf x y w).bind λx2=>some x2.1 by kernel_rfl];unfold Rf;rw[Ab hy.1]
  cases decide (Et w<=y)
  ·exact⟨_,rfl,vN hx⟩
  ·exact⟨_,rfl,show u64 0 from⟨Int.le_refl _,by decide⟩⟩
 ·rw[show Jf 10 w x y=((Mh (x==y)).bind λx1=>some x1).bind _ by kernel_rfl];obtain⟨z,h1,h2⟩:=ME _;rw[h1];exact⟨z,rfl,h2⟩
 ·rw[show Jf 11 w x y=((Mh _).bind λx1=>some x1).bind _ by kernel_rfl];obtain⟨z,h1,h2⟩:=ME (decide (x<y));rw[h1];exact⟨z,rfl,h2⟩
 ·rw[show Jf 12 w x y=(Pq x y w).bind λx2=>some x2.1 by kernel_rfl];unfold Pq;obtain⟨p,hp⟩:=df  hw;obtain⟨q,hq⟩:=df  hw;rw[hp,hq];obtain⟨z,h1,h2⟩:=ME (decide (p<q));simp only[Ar,h1];exact⟨z,rfl,h2⟩
theorem Aad{k w:Int}(hk:1<=k/\k<=12)(hw:UZ w):Ye k w=some true:=by
 unfold Ye;rw[Cr hk.1,Cr hk.2,de hw]
 rfl
theorem Aab{k w a b:Int}(hk:1<=k/\k<=12)(hw:UZ w)(ha:u64 a)(hb:u64 b) :
  ∃ v e,Ug k w a b=some (v,e)/\0<=v/\v<2 ^ w.toNat/\(e=0/\(k=4->b % 2 ^ w.toNat≠0)\/e=8/\v=0/\k=4/\b % 2 ^ w.toNat=0):=by
 unfold Ug;rw[Aad hk hw,YS hw ha,YS hw hb];simp only[Ar, A2];have hp:=(qo hw).1;obtain⟨x0,x1⟩:=Ua hw a;obtain⟨y0,y1⟩:=Ua hw b
 by_cases h4:k=4/\b % 2 ^ w.toNat=0
 ·rw[h4.1,h4.2];exact⟨0,8,rfl,Int.le_refl _,hp,.inr ⟨rfl,rfl,rfl,rfl⟩⟩
 ·have hg:(bif (k==4) then(b % 2 ^ w.toNat==0) else false)=false:=by
   grind
  rw[hg];obtain⟨z,h1,h2⟩:=tu hk hw (MF hw x0 x1) (MF hw y0 y1) (λh h'=>h4 ⟨h,h'⟩);rw[h1,Ar,YS hw h2];obtain⟨z0,z1⟩:=Ua hw z;exact⟨_,0,rfl,z0,z1,.inl ⟨rfl,λh h'=>h4 ⟨h,h'⟩⟩⟩
abbrev Vs:=List (List Int)
abbrev OR:=List Int×Int×Int×Int×List Ad×Vs×List Int
def Oq(x:List Int×Int)(V:Vs)(F S:Int)(B:List Int)(T:List Ad):OR:=(x.1,x.2,F,S,T,V,B)
def eX(V:Vs)(B:List Int)(x:OR):Option OR:=Aw (V.length=x.2.2.2.2.2.1.length) (Aw (B.length=x.2.2.2.2.2.2.length) (some x))
def GJ(o:C5)(V:Vs)(F S:Int)(B:List Int)(T:List Ad):Option OR:=
 bif decide (o.Kind=0) then(Pm o).bind λx=>some (Oq x V F S B T) else
 bif decide (o.Kind=13) then(J0 o V F S B T).bind λx=>some (Oq x V F S B T) else
 bif decide (o.Kind=14) then(H4 o V F S B T).bind λx=>some (Oq x V F S B T) else
 bif decide (o.Kind=15) then(Gr o V F S B T).bind λx=>some (Oq x V F S B T) else
 bif decide (o.Kind=16) then(E9 o V F S B T).bind (eX V B) else
 bif decide (o.Kind=17) then(Em o V F S B T).bind (eX V B) else
 bif decide (o.Kind=18) then(H3 o V F S B T).bind (eX V B) else
 bif decide (o.Kind=19) then(Gp o V F S B T).bind (eX V B) else
 bif decide (o.Kind=20) then(Gq o 4 V F S B T).bind λx=>some (Oq x V F S B T) else
 bif decide (o.Kind=21) then(Lm o V F S B T).bind λx=>some (Oq x V F S B T) else
 bif decide (o.Kind=22) then(Me o V F S B T).bind λx=>some (Oq x V F S B T) else
 bif decide (o.Kind=1) then(Ao o 1 V F S B T).bind λx=>some (Oq x V F S B T) else
 bif decide (o.Kind=2) then(Ao o 2 V F S B T).bind λx=>some (Oq x V F S B T) else
 bif decide (o.Kind=3) then(Ao o 3 V F S B T).bind λx=>some (Oq x V F S B T) else
 bif decide (o.Kind=4) then(Ao o 4 V F S B T).bind λx=>some (Oq x V F S B T) else
 bif decide (o.Kind=5) then(Ao o 5 V F S B T).bind λx=>some (Oq x V F S B T) else
 bif decide (o.Kind=6) then(Ao o 6 V F S B T).bind λx=>some (Oq x V F S B T) else
 bif decide (o.Kind=7) then(Ao o 7 V F S B T).bind λx=>some (Oq x V F S B T) else
 bif decide (o.Kind=8) then(Ao o 8 V F S B T).bind λx=>some (Oq x V F S B T) else
 bif decide (o.Kind=9) then(Ao o 9 V F S B T).bind λx=>some (Oq x V F S B T) else
 bif decide (o.Kind=10) then(Ao o 10 V F S B T).bind λx=>some (Oq x V F S B T) else
 bif decide (o.Kind=11) then(Ao o 11 V F S B T).bind λx=>some (Oq x V F S B T) else
 bif decide (o.Kind=12) then(Ao o 12 V F S B T).bind λx=>some (Oq x V F S B T) else none
abbrev DR:=Int×Int×Int×List Ad×Vs×List Int
def f6:List C5->Vs->Int->Int->List Int->List Ad->Option DR
 | [],V,F,S,B,T=>some (0,F,S,T,V,B)
 | o::l,V,F,S,B,T=>
  bif S==F then some (9,F,S,T,V,B) else
  (GJ o V F (w64 (S+1)) B T).bind λx=>
   bif x.2.1 !=0 then some (x.2.1,x.2.2.1,x.2.2.2.1,x.2.2.2.2.1,x.2.2.2.2.2.1,x.2.2.2.2.2.2)
   else Aw (A0 o.Dst x.2.2.2.2.2.1.length) (f6 l (x.2.2.2.2.2.1.set o.Dst.toNat x.1) x.2.2.1 x.2.2.2.1 x.2.2.2.2.2.2 x.2.2.2.2.1)
theorem Aag{R:Type}[Decidable True]{k:Option R}:Aw True k=k:=if_pos trivial
theorem doL{ops:List C5}{i:Nat}(hi:i<ops.length)(hn:ops.length<4611686018427387904)(F S:Int)(T:List Ad)(V:Vs)(B:List Int) :
  F7 ops ((i:Int),F,S,T,V,B)=bif S==F then some (.done (.inr (9,F,S,T,V,B))) else
   (GJ (ops.getD i default) V F (w64 (S+1)) B T).bind λx=>
    bif x.2.1 !=0 then some (.done (.inr (x.2.1,x.2.2.1,x.2.2.2.1,x.2.2.2.2.1,x.2.2.2.2.2.1,x.2.2.2.2.2.2)))
    else Aw (A0 (ops.getD i default).Dst x.2.2.2.2.2.1.length) (some (.next (((i+1:Nat):Int),x.2.2.1,x.2.2.2.1,x.2.2.2.2.1,x.2.2.2.2.2.1.set (ops.getD i default).Dst.toNat x.1,x.2.2.2.2.2.2))):=by
 unfold F7 G7
 cases hSF:(S==F) with
 | true=>simp only[hSF,B8 hi,Af,Ar,Aag,K2]
 | false=>
  simp only[hSF,B8 hi, A2,Ar, Aa (Ak hi), w1 (Nat.lt_of_lt_of_le hi (Nat.le_of_lt hn))]
  rfl
theorem dt{ops:List C5}(hn:ops.length<4611686018427387904):∀(k i:Nat) (V:Vs) (F S:Int) (B:List Int) (T:List Ad),i+k=ops.length->
  ((Ac (F7 ops) ((i:Int),F,S,T,V,B)).bind λx=>match x with | .inl y=>some ((0:Int),y) | .inr r=>some r)=f6 (ops.drop i) V F S B T
 | 0,i,V,F,S,B,T,h=>by
  obtain rfl:i=ops.length:=by omega
  rw[List.drop_length,An (x:=.inl (F,S,T,V,B)) (by unfold F7;simp only[Ee,A2])]
  rfl
 | k+1,i,V,F,S,B,T,h=>by
  have hi:i<ops.length:=by omega
  have hd:ops.drop i=ops.getD i default::ops.drop (i+1):=by simp_all
  rw[hd,f6];have hs:=doL hi hn F S T V B
  cases hSF:(S==F) with
  | true=>
   rw[hSF]at hs;rw[An hs];rfl
  | false=>
   rw[hSF]at hs;rw[A2]
   cases ho:GJ _ V F _ B T with
   | none=>rw[ho]at hs;rw[R5 hs];rfl
   | some x=>
    rw[ho]at hs;simp only[Ar]at hs ⊢
    cases he:(x.2.1 !=0) with
    | true=>rw[he]at hs;rw[An hs];rfl
    | false=>
     rw[he]at hs;rw[A2]
     by_cases hc:A0 (ops.getD i default).Dst x.2.2.2.2.2.1.length
     ·rw[Aa hc]at hs ⊢;rw[Au hs,dt hn k _ _ _ _ _ _ (by omega)]
     ·rw[Aw,if_neg hc]at hs ⊢;rw[R5 hs];rfl
theorem o9{ops:List C5}(hn:ops.length<4611686018427387904)(V:Vs)(F S:Int)(B:List Int)(T:List Ad):Ic ops V F S B T=f6 ops V F S B T:=by
 have:=dt hn ops.length 0 V F S B T (by omega);rw[Mw]at this;rw[<- this];unfold Ic
 congr 1
 funext x
 rcases x with⟨a,b,c,d,e⟩|r<;>rfl
abbrev RR:=PK×Int×Int×List Ad×Vs×List Int
abbrev ST:=Int×Int×Int×List Ad×Vs×List Int
def blG(bs:List Aj)(at_:Int)(V:Vs)(F S:Int)(B:List Int)(T:List Ad):Option (LR ST RR):=
 Aw (A0 at_ bs.length) ((f6 (bs.getD at_.toNat default).Ops V F S B T).bind λx=>
  Aw (V.length=x.2.2.2.2.1.length) (Aw (B.length=x.2.2.2.2.2.length) (
  bif x.1 !=0 then some (.done (⟨x.1,0,x.2.2.1⟩,x.2.1,x.2.2.1,x.2.2.2.1,x.2.2.2.2.1,x.2.2.2.2.2))
  else bif x.2.2.1==x.2.1 then some (.done (⟨9,0,x.2.2.1⟩,x.2.1,x.2.2.1,x.2.2.2.1,x.2.2.2.2.1,x.2.2.2.2.2))
  else bif (bs.getD at_.toNat default).End.Kind==0 then
   (Be (bs.getD at_.toNat default).End.Arg x.2.2.2.2.1 x.2.1 (w64 (x.2.2.1+1)) x.2.2.2.2.2 x.2.2.2.1).bind λv=>
    some (.done (⟨0,v,w64 (x.2.2.1+1)⟩,x.2.1,w64 (x.2.2.1+1),x.2.2.2.1,x.2.2.2.2.1,x.2.2.2.2.2))
  else bif (bs.getD at_.toNat default).End.Kind==3 then some (.done (⟨8,0,w64 (x.2.2.1+1)⟩,x.2.1,w64 (x.2.2.1+1),x.2.2.2.1,x.2.2.2.2.1,x.2.2.2.2.2))
  else(Dl (bs.getD at_.toNat default).End x.2.2.2.2.1 x.2.1 (w64 (x.2.2.1+1)) x.2.2.2.2.2 x.2.2.2.1).bind λto=>
   Aw (A0 to bs.length) ((D0 (bs.getD to.toNat default).Phis at_ x.2.2.2.2.1 x.2.1 (w64 (x.2.2.1+1)) x.2.2.2.2.2 x.2.2.2.1).bind λy=>
    Aw (x.2.2.2.2.1.length=y.2.2.2.1.length) (Aw (x.2.2.2.2.2.length=y.2.2.2.2.length) (some (.next (to,y.1,y.2.1,y.2.2.1,y.2.2.2.1,y.2.2.2.2))))))))
theorem wO{bs:List Aj}(hb:∀ b∈bs,b.Ops.length<4611686018427387904)(at_ F S:Int)(T:List Ad)(V:Vs)(B:List Int):Bn bs (at_,F,S,T,V,B)=blG bs at_ V F S B T:=by
 unfold Bn blG
 by_cases hi:A0 at_ bs.length
 ·have hm:(bs.getD at_.toNat default)∈bs:=Ai (by have:=hi.1;have:=hi.2;omega);simp only[Aa hi,o9 (hb _ hm)]
  congr 1
  funext x
  cases(x.1 !=0)
  ·unfold G7
   cases(x.2.2.1==x.2.1)
   ·simp only[A2,Ar]
    rfl
   ·simp only[ Af,Ar]
    rfl
  ·rfl
 ·simp only[Aw,if_neg hi]
theorem yS{bs:List Aj}(V:Vs)(F S:Int)(B:List Int)(T:List Ad):Mf bs V F S B T=Ac (Bn bs) (0,F,S,T,V,B):=by
 have e:Mf bs V F S B T=(N6 (Bn bs (0,F,S,T,V,B)) _).bind _:=rfl;rw[e,OH]
 cases Ac (Bn bs) _<;>rfl
def Th(B:List Int):Prop:=∀ x∈B,0<=x/\x<256
def dc:Nat->Int->List Int
 | 0,_=>[]
 | s+1,v=>v % 256::dc s (v / 256)
def mX:List Int->Int
 | []=>0
 | b::l=>b+256*mX l
def f9(w:Bool):Nat->List Int->List Ad
 | _,[]=>[]
 | a,b::l=>⟨w,(a:Int),b⟩::f9 w (a+1) l
def LY:List Int->Nat->List Int->List Int
 | B,_,[]=>B
 | B,a,b::l=>LY (B.set a b) (a+1) l
def BK(B:List Int)(a s:Nat):List Int:=(B.drop a).take s
theorem bZ(s:Nat)(v:Int):(dc s v).length=s:=by induction s generalizing v with|zero=>rfl|succ s ih=>simp[dc,ih]
theorem xX(s:Nat)(v:Int):Th (dc s v):=by
 induction s generalizing v with
 | zero=>intro x hx;cases hx
 | succ s ih=>
  intro x hx;rcases zzL28.1 hx with rfl|hx
  ·omega
  ·exact ih _ x hx
theorem QV(w:Bool)(a:Nat)(l:List Int):(f9 w a l).length=l.length:=by induction l generalizing a with|nil=>rfl|cons b l ih=>simp[f9,ih]
theorem JQ(B:List Int)(a:Nat)(l:List Int):(LY B a l).length=B.length:=by induction l generalizing B a with|nil=>rfl|cons b l ih=>simp[LY,ih]
theorem u7{B:List Int}{a:Nat}{l:List Int}(hB:Th B)(hl:Th l):Th (LY B a l):=by
 induction l generalizing B a with
 | nil=>exact hB
 | cons b l ih=>
  refine ih (λx hx=>?_) λx hx=>hl x (Nb _ hx);rcases List.mem_or_eq_of_mem_set hx with h|h
  ·exact hB x h
  ·rw[h];exact hl b (zzL48 ..)
theorem JY{B:List Int}{a s:Nat}(h:a+s<=B.length):(BK B a s).length=s:=by simp[BK];omega
theorem m5(B:List Int)(a:Nat):BK B a 0=[]:=by simp[BK]
theorem m4{B:List Int}{a s:Nat}(h:a<B.length):BK B a (s+1)=B.getD a 0::BK B (a+1) s:=by
 unfold BK;rw[OQ h,List.take_succ_cons,Ag _ _ _ h]
theorem vS{B:List Int}{a s:Nat}(hB:Th B):Th (BK B a s):=λx hx=>hB x (List.mem_of_mem_drop (List.mem_of_mem_take hx))
theorem uN{B:List Int}(hB:Th B)(i:Nat):0<=B.getD i 0/\B.getD i 0<256:=by
 by_cases h:i<B.length
 ·exact hB _ (Ai h)
 ·simp[ h]
theorem qE(n:Nat):(0:Int)<256 ^ n:=Int.pow_pos (by decide)
theorem mY{l:List Int}(h:Th l):0<=mX l/\mX l<256 ^ l.length:=by
 induction l with
 | nil=>simp[mX]
 | cons b l ih=>
  obtain⟨h1,h2⟩:=ih λx hx=>h x (Nb _ hx);obtain⟨h3,h4⟩:=h b (zzL48 ..);simp only[mX,GQ];omega
def thB(N:Nat)(a n:Int):Bool:=decide (1<=n)&&decide (a+n<=N)
theorem QR{B:List Int}{T:List Ad}{a n:Int}(ha:0<=a)(hB:B.length<4611686018427387904):Mr a n B T=some (thB B.length a n,T,B):=by
 unfold Mr thB
 by_cases h1:n<1
 ·grind
 ·rw[C0 (by omega),A2,show decide (1<=n)=true from Cr (by omega),Mx]
  by_cases h2:B.length<n
  ·rw[Cr (by omega),Af];rw[C0 (by omega)]
  ·rw[C0 (by omega),A2];rw[Ij (by omega) (by omega),Og (by omega) (by omega)];rw[show decide _=decide (a+n<=B.length) from zzL61.2 (by omega)]
theorem yO{v b:Int}{i:Nat}(h0:0<=v)(h1:v<256 ^ i)(hb:0<=b)(hb':b<256)(hi:i<8):Lq .or .u64 v (Tm .u64 (Et b) (w64 (8*(i:Int))))=v+256 ^ i*b:=by
 have e1:(256:Int) ^ i=(2 ^ (8*i):Nat):=by rw[Nat.pow_mul];exact(Int.natCast_pow 256 i).symm
 obtain⟨V,rfl⟩:∃ V:Nat,v=V:=⟨v.toNat,by omega⟩;obtain⟨C,rfl⟩:∃ C:Nat,b=C:=⟨b.toNat,by omega⟩;rw[e1]at h1 ⊢;have h1 :=Int.ofNat_lt.1 h1
 have hp:2 ^ (8*i)*256<=2 ^ 64:=by
  have:2 ^ (8*i)*2 ^ 8=2 ^ (8*i+8):=by rw[Nat.pow_add]
  have h2:2 ^ (8*i+8)<=2 ^ 64:=Nat.pow_le_pow_right (by decide) (by omega);omega
 have hlt:V+C*2 ^ (8*i)<2 ^ 64:=by
  have:C*2 ^ (8*i)<=255*2 ^ (8*i):=Fv _ (by omega);omega
 rw[Ij (by omega) (by omega),Og (by omega) (by omega)]
 have e2:Tm .u64 C (8*i)=(C*2 ^ (8*i):Int):=by
  unfold Tm
  have:(8*(i:Int)).toNat=8*i:=by omega
  rw[ show min _ _=8*i by simp[IntKind.bits];omega]
  have e3:C*2 ^ (8*i)=(C*2 ^ (8*i):Nat):=by  rfl
  exact fh _ rfl (by simp[IntKind.bits];omega)
 rw[yN _ rfl _ h1 (by simpa [IntKind.bits] using hlt) e2];rw[Int.natCast_add,Int.natCast_mul,Int.mul_comm]
theorem kl{B:List Int}(hB:Th B)(hL:B.length<4611686018427387904){s:Nat}(hs:s<=8):∀(k i cur:Nat) (v:Int) (t:List Ad),i+k=s->cur+k<=B.length->0<=v->v<256 ^ i->t.length+k<=room->
  Ac (Ig (s:Int) B) ((cur:Int),v,(i:Int),t)=some (v+256 ^ i*mX (BK B cur k),t++f9 false cur (BK B cur k))
 | 0,i,cur,v,t,hi,hc,h0,h1,hr=>by
  obtain rfl:i=s:=by omega
  refine An ?_;unfold Ig;simp only;rw[Ee, m5];simp[mX,f9]
 | k+1,i,cur,v,t,hi,hc,h0,h1,hr=>by
  obtain⟨b0,b1⟩:=uN hB cur
  have step:Ig (s:Int) B ((cur:Int),v,(i:Int),t)=some (.next (((cur+1:Nat):Int),v+256 ^ i*B.getD cur 0,((i+1:Nat):Int),t++[⟨false,(cur:Int),B.getD cur 0⟩])):=by
   unfold Ig;simp only;rw[B8 (by omega), Ab (inb (by omega)),Ab (by simp;omega),Ab (by rw[Ij (by omega) (by omega)];omega),Aq,yO h0 h1 b0 b1 (by omega),w1 (by omega),Og (by omega) (by omega)]
   rfl
  rw[Au step,kl hB hL hs k (i+1) (cur+1) _ _ (by omega) (by omega) (by have:=Int.mul_nonneg (Int.le_of_lt (qE i)) b0;omega) (by
   have:256 ^ i*B.getD cur 0<=256 ^ i*255:=Int.mul_le_mul_of_nonneg_left (by omega) (Int.le_of_lt (qE i))
   omega) (by simp;omega),m4 (by omega)]
  simp only[mX,f9,Int.pow_succ,EG,List.singleton_append];rw[Int.mul_add,Int.add_assoc,Int.mul_assoc]
theorem mN{B:List Int}{T:List Ad}(hB:Th B)(hL:B.length<4611686018427387904){s cur:Nat}(hs:s<=8)(hc:cur+s<=B.length)(hr:T.length+s<=room) :
  Na (cur:Int) (s:Int) B T=some (mX (BK B cur s),T++f9 false cur (BK B cur s),B):=by
 unfold Na;have:=kl hB hL hs s 0 cur 0 T (by omega) hc (by decide) (by decide) hr;rw[show((0:Nat):Int)=0 from rfl]at this;rw[this]
 simp
theorem Ab5{v:Int}:O0 .u64 v (8:Int)=v / 256:=by
 unfold O0
 have:min (8:Int).toNat IntKind.u64.bits=8:=by decide
 rw[ d7]
 rfl
theorem k4{s:Nat}(hs:s<=8):∀(k i cur:Nat) (v:Int) (t:List Ad) (B:List Int),i+k=s->cur+k<=B.length->B.length<4611686018427387904->t.length+k<=room->
  Ac (Hn (s:Int)) ((cur:Int),v,(i:Int),t,B)=some (t++f9 true cur (dc k v),LY B cur (dc k v))
 | 0,i,cur,v,t,B,hi,hc,hL,hr=>by
  obtain rfl:i=s:=by omega
  refine An ?_;unfold Hn;simp[dc,f9,LY]
 | k+1,i,cur,v,t,B,hi,hc,hL,hr=>by
  have step:Hn s (cur,v,i,t,B)=some (.next ((cur+1:Nat),v / 256,(i+1:Nat),t++[⟨true,cur,v % 256⟩],B.set cur (v % 256))):=by
   unfold Hn;simp only;rw[B8 (by omega), Ab (inb (by omega)),Ab (by simp;omega), Ab5, w1 (by omega),Og (by omega) (by omega)]
   rfl
  rw[Au step,k4 hs k _ _ _ _ _ (by omega) (by simp;omega) (by simpa using hL) (by simp;omega)];simp[dc,f9,LY]
theorem iT{B:List Int}{T:List Ad}{v:Int}(hL:B.length<4611686018427387904){s cur:Nat}(hs:s<=8)(hc:cur+s<=B.length)(hr:T.length+s<=room) :
  Mg (cur:Int) (s:Int) v B T=some (T++f9 true cur (dc s v),LY B cur (dc s v)):=by
 unfold Mg;have:=k4 hs s 0 cur v T B (by omega) hc hL hr;rw[show((0:Nat):Int)=0 from rfl]at this;rw[this]
 rfl
end
end Go.Proofs.YtaeaenoaomdimaaGreat
