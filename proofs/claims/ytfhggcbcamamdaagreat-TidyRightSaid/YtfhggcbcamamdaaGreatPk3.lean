/-
  The machine, the program's functions and the laws' arithmetic: part 3 of 6.
-/
import Derived.Test.YtfhggcbcamamdaaGreatPk2
import Derived.BigCall
import Derived.Lib.RowBridge
import Derived.Shelf.Slices.Clone
import Derived.Shelf.Slices.CompactI
import Derived.Shelf.Slices.In.SortNone
import Derived.Shelf.Sort.Plain
import Derived.Shelf.Spec.SlicesGrow
import Derived.Shelf.Spec.SlicesInsertGrow
import Derived.Sort.OwnSortedInts
import Derived.Test.YtfhggcbcamamdaaGreatProg
set_option linter.unusedSectionVars false
set_option linter.unusedVariables false
set_option linter.unusedSimpArgs false
namespace Go.Proofs.YtfhggcbcamamdaaGreat
noncomputable section
open Go Go.RowKit
inductive rP where
 | nx (y:Code)
 | bl (id:Nat)
 | ag (c:Code) (n:Nat)
inductive P7 where
 | run (c:Code) (fs:List rP)
 | out (e:Exit) (fs:List rP)
def rM(P:Program)(Γ:H3)(K:Exit->St->Prop):List rP->Exit->St->Prop
 | []=>K
 | .nx y::fs=>u5 P Γ y (rM P Γ K fs)
 | .bl id::fs=>IY id (rM P Γ K fs)
 | .ag c n::fs=>λe st=>(e = .normal/\NM P Γ c (rM P Γ K fs) n st)\/(e≠.normal/\rM P Γ K fs e st)
def GG(P:Program)(Γ:H3)(K:Exit->St->Prop):P7->St->Prop
 | .run c fs,st=>Zf P Γ c (rM P Γ K fs) st
 | .out e fs,st=>rM P Γ K fs e st
def AM:Code->Nat->Nat
 | .exit i,k=>bif Nat.beq i k then 1 else 0
 | .seq a b,k=>Nat.min 2 (AM a k+AM b k)
 | .cond _ a b,k=>Nat.min 2 (AM a k+AM b k)
 | .loop c,k=>Nat.min 1 (AM c k)
 | .scope c,k=>Nat.min 1 (AM c k)
 | .block _ c,k=>AM c k
 | _,_=>0
def Tz:Code->Nat
 | .region _ _ _=>1
 | .skip=>1
 | .label _=>1
 | .seq a b=>bif Nat.beq (Tz a) 0 then 0 else Tz b
 | .cond _ a b=>Nat.min 2 (Tz a+Tz b)
 | .block i c=>Nat.min 2 (Tz c+AM c i)
 | .scope c=>Nat.min 2 (Tz c)
 | _=>0
def pE(a:Code):Bool:=match a with | .region _ _ _=>false|a=>Nat.ble 2 (Tz a)
def QQ:Nat->Code ⊕ Exit->List rP->P7
 | 0,.inl c,fs=>.run c fs
 | 0,.inr e,fs=>.out e fs
 | n+1,.inl c,fs=>
  match c with
  | .skip=>QQ n (.inr .normal) fs
  | .label _=>QQ n (.inr .normal) fs
  | .seq a b=>bif pE a then .run (.seq a b) fs else QQ n (.inl a) (.nx b::fs)
  | .block id a=>QQ n (.inl a) (.bl id::fs)
  | .exit id=>QQ n (.inr (.exit id)) fs
  | .goto l=>QQ n (.inr (.goto l)) fs
  | .ret=>QQ n (.inr .ret) fs
  | c=>.run c fs
 | n+1,.inr e,fs=>
  match fs with
  | []=>.out e []
  | .nx y::fs=>(match e with | .normal=>QQ n (.inl y) fs|e=>QQ n (.inr e) fs)
  | .bl id::fs=>(match e with | .exit i=>bif Nat.beq i id then QQ n (.inr .normal) fs else QQ n (.inr (.exit i)) fs|e=>QQ n (.inr e) fs)
  | .ag c m::fs=>(match e with | .normal=>(match m with|0=>.out .normal (.ag c 0::fs)|m+1=>QQ n (.inl c) (.ag c m::fs))|e=>QQ n (.inr e) fs)
section
variable {P:Program} {Γ:H3} {K:Exit->St->Prop}
theorem Cb:∀(n:Nat) (x:Code ⊕ Exit) (fs:List rP) (st:St),GG P Γ K (QQ n x fs) st->(match x with | .inl c=>Zf P Γ c (rM P Γ K fs) st | .inr e=>rM P Γ K fs e st)
 | 0,.inl c,fs,st,h=>h
 | 0,.inr e,fs,st,h=>h
 | n+1,.inl c,fs,st,h=>by
  cases c with
  | skip=>exact oA (Cb n _ fs st h)
  | label l=>exact k5 (Cb n _ fs st h)
  | seq a b=>
   cases hj:pE a with
   | true=>simp only[QQ,hj]at h;exact h
   | false=>simp only[QQ,hj]at h;exact ir (Cb n (.inl a) _ st h)
  | block id a=>exact kz (Cb n (.inl a) _ st h)
  | exit id=>exact nz (Cb n _ fs st h)
  | goto l=>exact n6 (Cb n _ fs st h)
  | ret=>exact sU (Cb n (.inr .ret) fs st h)
  | _=>exact h
 | n+1,.inr e,[],st,h=>h
 | n+1,.inr e,.nx y::fs,st,h=>by
  cases e with
  | normal=>exact Cb n (.inl y) fs st h
  | exit i=>exact Cb n _ fs st h
  | goto l=>exact Cb n _ fs st h
  | ret=>exact Cb n (.inr .ret) fs st h
  | panic c=>exact Cb n _ fs st h
  | outgrown=>exact Cb n _ fs st h
 | n+1,.inr e,.bl id::fs,st,h=>by
  cases e with
  | normal=>exact Cb n _ fs st h
  | exit i=>
   cases hb:Nat.beq i id with
   | true=>
    obtain rfl:=C5 hb;simp only[QQ,hb]at h;exact fW (Cb n _ fs st h)
   | false=>
    simp only[QQ,hb]at h;exact fV hb (Cb n _ fs st h)
  | goto l=>exact Cb n _ fs st h
  | ret=>exact Cb n (.inr .ret) fs st h
  | panic c=>exact Cb n _ fs st h
  | outgrown=>exact Cb n _ fs st h
 | n+1,.inr e,.ag c m::fs,st,h=>by
  cases e with
  | normal=>
   cases m with
   | zero=>exact h
   | succ m=>exact .inl ⟨rfl,Cb n (.inl c) _ st h⟩
  | exit i=>exact .inr ⟨(by intro hh;cases hh),Cb n _ fs st h⟩
  | goto l=>exact .inr ⟨(by intro hh;cases hh),Cb n _ fs st h⟩
  | ret=>exact .inr ⟨(by intro hh;cases hh),Cb n (.inr .ret) fs st h⟩
  | panic ch=>exact .inr ⟨(by intro hh;cases hh),Cb n _ fs st h⟩
  | outgrown=>exact .inr ⟨(by intro hh;cases hh),Cb n _ fs st h⟩
theorem Lr{n:Nat}{c:Code}{fs:List rP}{st:St}(h:GG P Γ K (QQ n (.inl c) fs) st):Zf P Γ c (rM P Γ K fs) st:=Cb n _ fs st h
theorem AW{n:Nat}{e:Exit}{fs:List rP}{st:St}(h:GG P Γ K (QQ n (.inr e) fs) st):rM P Γ K fs e st:=Cb n _ fs st h
def uu(c:Code)(fs:List rP):P7:=QQ 400 (.inl c) fs
def exC(e:Exit)(fs:List rP):P7:=QQ 400 (.inr e) fs
def tZ:P7->P7
 | .run _ fs=>exC .normal fs
 | x=>x
def tj:P7->Option (List Oper×Bool)
 | .run (.region _ ops draw) _=>some (ops.toList,draw)
 | _=>none
def rL(P:Program)(S:GM)(n:Nat)(cs:List (Nat×AV))(live names:List Nat)(x:P7)(st:St)(rs:List Vg):Option (St×List Prop×Bool):=
 match tj x with
 | some (ops,draw)=>NR P S n cs live names ops draw st rs
 | none=>none
def ta(P:Program)(S:GM)(n:Nat)(cs:List (Nat×AV))(live names:List Nat)(x:P7)(st:St)(rs:List Vg):St:=
 match rL P S n cs live names x st rs with
 | some r=>r.1
 | none=>st
def rN(r:Option (St×List Prop×Bool)):Option (Prop×Bool):=
 match r with
 | some r=>some (cR r.2.1,r.2.2)
 | none=>none
theorem gR{x:P7}{st:St}{n:Nat}{H:List (Nat×Own)}(q:RgQ P Γ n H)(live names:List Nat)(cs:List (Nat×AV))(rs:List Vg){O:Prop}(hO:O)
  (k:GG P Γ K (tZ x) (ta P (Spec P) n cs live names x st rs))
  (h:rN (rL P (Spec P) n cs live names x st rs)=some (O,true):=by kernel_rfl) (hh:(H.all λx=>Bw x.1 names)=true:=by kernel_rfl):GG P Γ K x st:=by
 unfold rL at h;unfold ta rL at k
 cases x with
 | out e fs=>simp[tj,rN]at h
 | run c fs=>
  cases c with
  | region id ops draw=>
   simp only[tj]at h k
   cases hr:NR P _ n cs _ _ _ _ st rs with
   | none=>rw[hr]at h;simp[rN]at h
   | some r=>
    obtain⟨st',obs,d⟩:=r;rw[hr]at h k;obtain⟨rfl,rfl⟩:=h;have:=fT (id:=id)  q.hn q.mix (q.hand hh) hr hO (AW k);exact(by simpa using this:Zf P Γ _ _ st)
  | _=>simp[tj,rN]at h
theorem Af{x:P7}{st:St}{n:Nat}{H:List (Nat×Own)}(q:RgQ P Γ n H)(live names:List Nat)
  (k:GG P Γ K (tZ x) (ta P (Spec P) n [] live names x st []))
  (h:rN (rL P (Spec P) n [] live names x st [])=some (True,true):=by kernel_rfl) (hh:(H.all λx=>Bw x.1 names)=true:=by kernel_rfl):GG P Γ K x st:=gR q _ _ [] [] trivial k h hh
def uw:P7->Bool | .run _ _=>true|_=>false
theorem gLe{x:P7}{st st':St}(h:Le Γ st st')
  (k:GG P Γ K x st')
  (hx:uw x=true:=by kernel_rfl):GG P Γ K x st:=by
 cases x with
 | run c fs=>exact fS h k
 | out e fs=>cases hx
theorem P6{x:P7}{st:St}(st':St)
  (k:GG P Γ K x st')
  (h:st=st':=by kernel_rfl):GG P Γ K x st:=h▸k
def oX(x:P7)(st:St):AV:=match x with | .run (.cond c _ _) _=>cZ st.get c|_=>.any
def yf(b:Bool):P7->P7
 | .run (.cond _ c d) fs=>uu (bif b then c else d) fs
 | x=>x
theorem gC{x:P7}{st:St}{R:Type}{b:Bool}{m1 m2:Option R}{r:R}(h:(bif b then m1 else m2)=some r)
  (kt:m1=some r->GG P Γ K (yf true x) st) (kf:m2=some r->GG P Γ K (yf false x) st)
  (hv:oX x st = .bool b:=by kernel_rfl):GG P Γ K x st:=by
 cases x with
 | out e fs=>cases hv
 | run c fs=>
  cases c with
  | cond c y z=>
   refine cI b hv (λhb=>Lr  (kt ?_)) (λhb=>Lr  (kf ?_))
   ·subst hb;exact h
   ·subst hb;exact h
  | _=>cases hv
theorem oz{x:P7}{st:St}(b:Bool)
  (k:GG P Γ K (yf b x) st)
  (hv:oX x st = .bool b:=by kernel_rfl):GG P Γ K x st:=by
 cases x with
 | out e fs=>cases hv
 | run c fs=>
  cases c with
  | cond c y z=>
   refine cI b hv (λhb=>Lr (n:=400) ?_) (λhb=>Lr (n:=400) ?_)
   ·subst hb;exact k
   ·subst hb;exact k
  | _=>cases hv
theorem yn{x:P7}{st:St}(pos:Bool)(n:Nat)
  (kt:(pos=true->n=0)->GG P Γ K (yf true x) st) (kf:(pos=false->n=0)->GG P Γ K (yf false x) st)
  (hv:oX x st = .nilq pos n:=by kernel_rfl):GG P Γ K x st:=by
 cases x with
 | out e fs=>cases hv
 | run c fs=>
  cases c with
  | cond c y z=>exact n9 pos n hv (λhb=>Lr  (kt hb)) (λhb=>Lr  (kf hb))
  | _=>cases hv
theorem gB{R:Type}{c:Bool}{m1 m2:Option R}{r:R}{G:Prop}(h:(bif c then m1 else m2)=some r)(kt:c=true->m1=some r->G)(kf:c=false->m2=some r->G):G:=by
 grind
theorem eqB(F:Bool->Prop){c b:Bool}(hs:c=b)(h:F c):F b:=hs▸h
theorem lt1{P:Nat->Prop}(h0:P 0)(i:Nat)(h:i<1):P i:=by
 grind
theorem gK{x:P7}{st:St}{e:Exit}(h:K e st)(hx:x = .out e []:=by kernel_rfl):GG P Γ K x st:=by subst hx;exact h
def aG(Γ:H3)(e0:Exit)(og:St):Exit->St->Prop:=λe st=>e=e0/\Le Γ st og
def aR(K:Exit->St->Prop):Exit->St->Prop:=λe st=>e = .ret/\K e st
theorem Be{e0:Exit}{og st:St}(h:Le Γ st og):aG Γ e0 og e0 st:=⟨rfl,h⟩
theorem Lj{st:St}(h:K .ret st):aR K .ret st:=⟨rfl,h⟩
def isN:Exit->Bool | .normal=>true|_=>false
theorem gN{S X:Type}{x:P7}{st:St}{H:S->St}{KX:X->Exit->St->Prop}{s':S}(h:Le Γ st (H s'))(hx:x = .out .normal []:=by kernel_rfl):GG P Γ (FJ Γ H KX (.next s')) x st:=by
 subst hx;exact⟨rfl,h⟩
theorem gO{S X:Type}{x:P7}{st:St}{H:S->St}{KX:X->Exit->St->Prop}{y:X}{e:Exit}(h:KX y e st)(hx:x = .out e []:=by kernel_rfl)(hn:isN e=false:=by kernel_rfl):GG P Γ (FJ Γ H KX (.done y)) x st:=by
 subst hx;exact⟨(by rintro rfl;cases hn),h⟩
def fK(P:Program)(Γ:H3)(rs:List ResultVar)(H:List (Nat×Own))(res:AV)(H':List (Nat×Own)):Exit->St->Prop:=clK Γ (zN P rs H res H')
theorem H4{rs:List ResultVar}{H H':List (Nat×Own)}{res:AV}{st st':St}{e:Exit}(ρ:List (Nat×Nat))(hl:Le Γ st st')(hr:ju P rs ρ H st'=some (res,H'):=by kernel_rfl)
  (he:(match e with | .ret=>true | .normal=>true|_=>false)=true:=by kernel_rfl):fK P Γ rs H res H' e st:=by
 refine⟨st',hl,?_,ρ,hr⟩
 cases e with
 | ret=>exact .inl rfl
 | normal=>exact .inr rfl
 | _=>cases he
theorem Cc{rs:List ResultVar}{H H':List (Nat×Own)}{res:AV}{x:P7}{st:St}(ρ:List (Nat×Nat))(hr:ju P rs ρ H st=some (res,H'):=by kernel_rfl)
  (hx:x = .out .ret []:=by kernel_rfl):GG P Γ (fK P Γ rs H res H') x st:=gK  (H4 ρ (Le.refl _ _) hr) hx
def ZF(fn:Func):Code:=match fn.body with|some c=>c|none=>.skip
theorem KA {f : FuncId} {fn : Func} {args : List AV} {H H' : List (Nat × Own)} {res : AV} (hm : P.follows .mixedOrders = true) (hf : P.funcs[f]? = some fn)
    (k : ∀ Γ : H3, RgQ P Γ fn.ntmps H → GG P Γ (fK P Γ fn.results.toList H res H') (uu (ZF fn) []) (JE args H))
    (hb : fn.body.isSome = true := by kernel_rfl) (hname : (fn.name == "runtime.NumGoroutine") = false := by kernel_rfl) (hlen : Nat.ble args.length fn.ntmps = true := by kernel_rfl) (hpl : RH H = true := by kernel_rfl) : Spec P f args H res H' := by
  obtain ⟨c, hc⟩ := zzL84.1 hb
  have e : ZF fn = c := by unfold ZF; rw [hc]
  refine eF hf hc hname hlen (fun Γ hn hΓ => ?_) hpl; have := k Γ ⟨hn, hm, hΓ⟩; rw [e] at this; exact wI (Lr this)
theorem fx{st st':St}(h:st=st'):Le Γ st st':=h▸Le.refl Γ st
def ZP:P7->Bool | .run (.loop _) _=>true|_=>false
def oG:P7->P7
 | .run (.loop c) _=>uu c []
 | x=>x
def tm(e:Exit):P7->P7
 | .run _ fs=>exC e fs
 | x=>x
def zK{α:Type}(k:Nat)(x:α):List (Nat×α)->List (Nat×α)
 | []=>[(k,x)]
 | (k',y)::l=>bif Nat.beq k k' then(k,x)::l else bif Nat.blt k k' then(k,x)::(k',y)::l else(k',y)::zK k x l
def tq{α:Type}:List (Nat×α)->List (Nat×α)->List (Nat×α)
 | [],l=>l
 | (k,x)::r,l=>tq r (zK k x l)
def Cp(st:St)(ts:List (Nat×AV))(os:List (Nat×Own))(fs:List (Nat×mT):=[]):St:=⟨tq ts st.tmps,tq os st.own,tq fs st.fam⟩
def Nf(live names:List Nat)(st:St)(ts:List (Nat×AV))(os:List (Nat×Own))(fs:List (Nat×mT):=[]):St:=Hq live names (Cp st ts os fs)
theorem gL{S X:Type}{x:P7}{st:St}{n:Nat}{Hf:List (Nat×Own)}(q:RgQ P Γ n Hf){f:S->Option (LR S X)}{s0:S}{y:X}(hx:Ac f s0=some y)(live names:List Nat)(H:St->S->St)(KX:St->X->Exit->St->Prop)
  (kb:∀ s y,f s=some y->GG P Γ (FJ Γ (H (Hq live names st)) (KX (Hq live names st)) y) (oG x) (H (Hq live names st) s)) (ko:∀ e st',KX (Hq live names st) y e st'->GG P Γ K (tm e x) st')
  (h0:Hq live names st=H (Hq live names st) s0:=by kernel_rfl) (hl:ZP x=true:=by kernel_rfl) (hh:(Hf.all λx=>Bw x.1 names)=true:=by kernel_rfl):GG P Γ K x st:=by
 cases x with
 | out e fs=>cases hl
 | run c fs=>
  cases c with
  | loop c=>
   refine fS  ?_ (cJ _ f _ (λs y hy=>Lr (kb s y hy)) hx λe st' hk=>AW (ko e st' hk));rw[<- h0];exact Bi _ _ q rfl hh
  | _=>cases hl
theorem gL0{S X:Type}{x:P7}{st:St}{f:S->Option (LR S X)}{s0:S}{y:X}(hx:Ac f s0=some y)(H:St->S->St)(KX:St->X->Exit->St->Prop)
  (kb:∀ s y,f s=some y->GG P Γ (FJ Γ (H st) (KX st) y) (oG x) (H st s)) (ko:∀ e st',KX st y e st'->GG P Γ K (tm e x) st')
  (h0:st=H st s0:=by kernel_rfl) (hl:ZP x=true:=by kernel_rfl):GG P Γ K x st:=by
 cases x with
 | out e fs=>cases hl
 | run c fs=>
  cases c with
  | loop c=>exact fS (fx h0) (cJ _ f _ (λs y hy=>Lr (kb s y hy)) hx λe st' hk=>AW (ko e st' hk))
  | _=>cases hl
theorem gA{x:P7}{f:Exit->P7->P7}{e0:Exit}{og:St}
  (k:GG P Γ K (f e0 x) og)
  (hr:uw (f e0 x)=true:=by kernel_rfl):∀ e st',aG Γ e0 og e st'->GG P Γ K (f e x) st':=by
 rintro e st' ⟨rfl,hl⟩;exact gLe hl k hr
theorem ut{x:P7}{f:Exit->P7->P7}{e0:Exit}{og:St}(k:∀ st',Le Γ st' og->GG P Γ K (f e0 x) st'):∀ e st',aG Γ e0 og e st'->GG P Γ K (f e x) st':=by
 rintro e st' ⟨rfl,hl⟩;exact k st' hl
theorem Oz{x:P7}{f:Exit->P7->P7}{K':Exit->St->Prop}(k:∀ st',K' .ret st'->GG P Γ K (f .ret x) st'):∀ e st',aR K' e st'->GG P Γ K (f e x) st':=by
 rintro e st' ⟨rfl,hl⟩;exact k st' hl
theorem gU{x:P7}{st:St}(n:Nat)
  (k:GG P Γ K (match x with | .run (.loop c) fs=>uu c (.ag c n::fs)|x=>x) st)
  (hl:ZP x=true:=by kernel_rfl):GG P Γ K x st:=by
 cases x with
 | out e fs=>cases hl
 | run c fs=>
  cases c with
  | loop c=>exact fU (n+1) (Lr k)
  | _=>cases hl
def yq:P7->Bool | .run (.seq _ _) _=>true|_=>false
def yo:P7->P7
 | .run (.seq a _) _=>uu a []
 | x=>x
def zM(e:Exit):P7->P7
 | .run (.seq _ b) fs=>exC e (.nx b::fs)
 | x=>x
theorem gJ{X:Type}{x:P7}{st:St}{m:Option X}{y:X}(hx:m=some y)(KX:X->Exit->St->Prop)
  (kb:∀ y,m=some y->GG P Γ (KX y) (yo x) st) (ko:∀ e st',KX y e st'->GG P Γ K (zM e x) st')
  (hs:yq x=true:=by kernel_rfl):GG P Γ K x st:=by
 cases x with
 | out e fs=>cases hs
 | run c fs=>
  cases c with
  | seq a b=>exact ir (n7 KX hx (λy hy=>Lr (kb y hy)) λe st' hk=>AW (ko e st' hk))
  | _=>cases hs
def s5:P7->Bool | .run (.scope _) _=>true|_=>false
def zO:P7->Code | .run (.scope c) _=>c|_=>.skip
def yw(c:Code)(l:Nat):P7:=uu ((findLabel c l).getD .skip) []
theorem gS{S X:Type}{x:P7}{st:St}{f0:Option (LR S X)}{f:S->Option (LR S X)}{y:X}(hx:Rv f0 f=some y)(lab:S->Nat)(H:S->St)(KX:X->Exit->St->Prop)
  (k0:∀ y,f0=some y->GG P Γ (PV Γ (zO x) lab H KX y) (uu (zO x) []) st) (kb:∀ s y,f s=some y->GG P Γ (PV Γ (zO x) lab H KX y) (yw (zO x) (lab s)) (H s)) (ko:∀ e st',KX y e st'->GG P Γ K (tm e x) st')
  (hs:s5 x=true:=by kernel_rfl):GG P Γ K x st:=by
 cases x with
 | out e fs=>cases hs
 | run c fs=>
  cases c with
  | scope c=>
   refine k6 lab H f0 f KX (λy hy=>Lr (k0 y hy)) (λs y rest hf hy=>?_) hx λe st' hk=>AW (ko e st' hk);have:=kb s y hy;unfold yw zO at this;rw[hf]at this;exact Lr this
  | _=>cases hs
theorem fg{S X:Type}{x:P7}{st:St}{c:Code}{lab:S->Nat}{H:S->St}{KX:X->Exit->St->Prop}{s':S}(h:Le Γ st (H s'))(hx:x = .out (.goto (lab s')) []:=by kernel_rfl)(hf:(findLabel c (lab s')).isSome=true:=by kernel_rfl) :
  GG P Γ (PV Γ c lab H KX (.next s')) x st:=by
 subst hx;exact⟨rfl,hf,h⟩
theorem ee{S X:Type}{x:P7}{st:St}{c:Code}{lab:S->Nat}{H:S->St}{KX:X->Exit->St->Prop}{y:X}{e:Exit}(h:KX y e st)(hx:x = .out e []:=by kernel_rfl)
  (hf:(match e with | .goto l=>(findLabel c l).isNone|_=>true)=true:=by kernel_rfl):GG P Γ (PV Γ c lab H KX (.done y)) x st:=by
 subst hx;refine⟨?_,h⟩;rintro l rfl
 simpa using hf
theorem R8{α:Type}{st:St}(U:α->St->St){a b:α}(h:a=b)(h1:st=U a st:=by kernel_rfl):Le Γ st (U b st):=by subst h;exact fx h1
theorem leB{st:St}(F F':Bool->St->St)(g:Bool)(h1:st=F g st:=by kernel_rfl)(ht:F true st=F' true st:=by kernel_rfl)(hf:F false st=F' false st:=by kernel_rfl):Le Γ st (F' g st):=by
 refine fx (h1.trans ?_)
 cases g<;>assumption
def Own.withF(g:Nat->List AV):Own->Own
 | .arr sz e n _=>.arr sz e n g
 | o=>o
def uk(st:St)(nm:Nat):Option (Nat×(Nat->List AV)):=match Aj st.own nm with|some (.arr _ _ n f)=>some (n,f)|_=>none
def zQ(nm:Nat)(g:Nat->List AV)(st:St):St:=⟨st.tmps,(match Aj st.own nm with|some o=>Ee st.own nm (o.withF g)|none=>st.own),st.fam⟩
theorem RE{nm sz n:Nat}{e:TypeId}{f g:Nat->List AV}(hp:∀ k,k<n->AVleL (f k) (g k)):∀{l:List (Nat×Own)},Aj l nm=some (.arr sz e n f)->OwnsLe l (Ee l nm (.arr sz e n g))
 | [],h=>by cases h
 | (k,o)::l,h=>by
  simp only[Aj]at h;simp only[Ee]
  cases hb:Nat.beq k nm with
  | true=>
   obtain rfl:=C5 hb;rw[hb]at h;simp only[Ah,Ao]at h;subst h;exact .arr hp (.refl _)
  | false=>
   rw[hb]at h;exact .same (RE hp h)
theorem Sn{st:St}(nm:Nat){n:Nat}{f g:Nat->List AV}(hp:∀ k,k<n->AVleL (f k) (g k))(h:uk st nm=some (n,f):=by kernel_rfl):Le Γ st (zQ nm g st):=by
 unfold uk at h;unfold zQ
 cases ho:Aj _ nm with
 | none=>rw[ho]at h;cases h
 | some o=>
  rw[ho]at h
  cases o with
  | arr sz e n' f'=>
   obtain⟨rfl,rfl⟩:=h;exact I6 (TmpsLe.refl _) (RE hp ho)
  | _=>cases h
def oT(st:St)(nm j:Nat):Option AV:=match Aj st.own nm with|some (.row _ cells)=>cells[j]? | _=>none
def Own.withC(j:Nat)(x:AV):Own->Own
 | .row e cells=>.row e (cells.set j x)
 | o=>o
def zP(nm j:Nat)(x:AV)(st:St):St:=⟨st.tmps,(match Aj st.own nm with|some o=>Ee st.own nm (o.withC j x)|none=>st.own),st.fam⟩
theorem jX{a b:AV}(h:AVle a b):∀{l:List AV} {j:Nat},l[j]?=some a->AVleL l (l.set j b)
 | [],j,h=>by simp at h
 | x::l,0,h'=>by
  simp only[List.getElem?_cons_zero,Ao]at h';subst h';exact .cons h (.refl _)
 | x::l,j+1,h'=>by
  exact .cons (.refl _) (jX h h')
theorem RF{nm:Nat}{e:TypeId}{x y:List AV}(hp:AVleL x y):∀{l:List (Nat×Own)},Aj l nm=some (.row e x)->OwnsLe l (Ee l nm (.row e y))
 | [],h=>by cases h
 | (k,o)::l,h=>by
  simp only[Aj]at h;simp only[Ee]
  cases hb:Nat.beq k nm with
  | true=>
   obtain rfl:=C5 hb;rw[hb]at h;simp only[Ah,Ao]at h;subst h;exact .row hp (.refl _)
  | false=>
   rw[hb]at h;exact .same (RF hp h)
theorem tD{st:St}(nm j:Nat){a b:AV}(hp:AVle a b)(h:oT st nm j=some a:=by kernel_rfl):Le Γ st (zP nm j b st):=by
 unfold oT at h;unfold zP
 cases ho:Aj _ nm with
 | none=>rw[ho]at h;cases h
 | some o=>
  rw[ho]at h
  cases o with
  | row e cells=>exact I6 (TmpsLe.refl _) (RF (jX hp h) ho)
  | _=>cases h
theorem gI(g:Bool):g=true->g=true:=id
theorem Nd(c:Bool):c=true->(c==true)=true:=gT
theorem Lx(c:Bool):c=false->(c==false)=true:=gF
theorem Br{α:Type}(sz:Nat)(e:α->List AV)(d:α)(l:List α):AVle (.slice sz l.length (λi=>(l.map e).getD i []) .exact) (AV.list sz e d l .exact):=ZE rfl λi h=>tP l i h
theorem B1{α:Type}(sz:Nat)(e:α->List AV)(d:α):AVle (.slice 0 0 (λ_=>[]) .exact) (AV.list sz e d [] .exact):=Ej
theorem Ix{α:Type}(sz nm:Nat)(e:α->List AV)(d:α)(l m:List α):AVle (.slice sz (l.length+m.length) (Ox l.length (λi=>e (l.getD i d)) (λi=>e (m.getD i d))) (.own nm)) (AV.list sz e d (l++m) (.own nm)):=wH
theorem Io{st st':St}(h:st=st':=by kernel_rfl):Le Γ st st':=h▸Le.refl Γ st
theorem ci{p q:Prop}(a:p)(b:q):p/\q:=⟨a,b⟩
theorem c1{p:Prop}(a:p):p/\True:=⟨a,trivial⟩
end
section
variable {P:Program} {Γ:H3} {K:Exit->St->Prop}
theorem tB{α β:Type}{m:Option α}{f:α->Option β}{r:β}{G:Prop}(h:m.bind f=some r)(k:∀ x,m=some x->f x=some r->G):G:=have⟨x,hx,h⟩:=bind_some h;k x hx h
theorem tC{β:Type}{c:Prop}[Decidable c]{m:Option β}{r:β}{G:Prop}(h:Az c m=some r)(k:c->m=some r->G):G:=k (Qd h).1 (Qd h).2
@[elab_as_elim] theorem tS{α:Type}{a:α}{M:α->Prop}{b:α}(h:some a=some b)(k:M a):M b:=OI h▸k
theorem tV{x:P7}{st:St}{n:Nat}{H:List (Nat×Own)}(q:RgQ P Γ n H)(live names:List Nat){β:Type}{c:Prop}[Decidable c]{m:Option β}{r:β}(h:Az c m=some r)
  (k:m=some r->GG P Γ K (tZ x) (ta P (Spec P) n [] live names x st []))
  (h1:rN (rL P (Spec P) n [] live names x st [])=some (c/\True,true):=by kernel_rfl) (hh:(H.all λx=>Bw x.1 names)=true:=by kernel_rfl):GG P Γ K x st:=gR q live names [] [] (c1 (Qd h).1) (k (Qd h).2) h1 hh
theorem tN{S X:Type}{x:P7}{st:St}{H:S->St}{KX:X->Exit->St->Prop}{s':S}{y:LR S X}(h:some (.next s')=some y)(h1:st=H s':=by kernel_rfl)(hx:x = .out .normal []:=by kernel_rfl):GG P Γ (FJ Γ H KX y) x st:=OI h▸gN (Io h1) hx
theorem tL{S X α:Type}{x:P7}{st:St}{n:Nat}{Hf:List (Nat×Own)}(q:RgQ P Γ n Hf){f:S->Option (LR S X)}{s0:S}{g:X->Option α}{r:α}(h:(Ac f s0).bind g=some r)(live names:List Nat)(H:St->S->St)(KX:St->X->Exit->St->Prop)
  (kb:∀ s y,f s=some y->GG P Γ (FJ Γ (H (Hq live names st)) (KX (Hq live names st)) y) (oG x) (H (Hq live names st) s)) (ko:∀ y,g y=some r->∀ e st',KX (Hq live names st) y e st'->GG P Γ K (tm e x) st')
  (h0:Hq live names st=H (Hq live names st) s0:=by kernel_rfl) (hl:ZP x=true:=by kernel_rfl) (hh:(Hf.all λx=>Bw x.1 names)=true:=by kernel_rfl):GG P Γ K x st:=tB h λy hy h=>gL q hy live names H KX kb (ko y h) h0 hl hh
theorem tU{x:P7}{st:St}{n:Nat}{H:List (Nat×Own)}(q:RgQ P Γ n H)(live names:List Nat){O:Prop}(hO:O)
  (k:GG P Γ K (tZ x) (ta P (Spec P) n [] live names x st []))
  (h:rN (rL P (Spec P) n [] live names x st [])=some (O,true):=by kernel_rfl) (hh:(H.all λx=>Bw x.1 names)=true:=by kernel_rfl):GG P Γ K x st:=gR q live names [] [] hO k h hh
theorem tT{x:P7}{st:St}{n:Nat}{H:List (Nat×Own)}(q:RgQ P Γ n H)(live names:List Nat)(rs:List Vg){O:Prop}(hO:O)
  (k:GG P Γ K (tZ x) (ta P (Spec P) n [] live names x st rs))
  (h:rN (rL P (Spec P) n [] live names x st rs)=some (O,true):=by kernel_rfl) (hh:(H.all λx=>Bw x.1 names)=true:=by kernel_rfl):GG P Γ K x st:=gR q live names [] rs hO k h hh
theorem tW{x:P7}{st:St}{n:Nat}{H:List (Nat×Own)}(q:RgQ P Γ n H)(live names live2 names2:List Nat)
  (k:GG P Γ K (tZ (tZ x)) (ta P (Spec P) n [] live2 names2 (tZ x) (ta P (Spec P) n [] live names x st []) []))
  (h:rN (rL P (Spec P) n [] live names x st [])=some (True,true):=by kernel_rfl) (hh:(H.all λx=>Bw x.1 names)=true:=by kernel_rfl)
  (h2:rN (rL P (Spec P) n [] live2 names2 (tZ x) (ta P (Spec P) n [] live names x st []) [])=some (True,true):=by kernel_rfl) (hh2:(H.all λx=>Bw x.1 names2)=true:=by kernel_rfl):GG P Γ K x st:=Af q live names (Af q live2 names2 k h2 hh2) h hh
end
def cjO:List Own->Prop->Prop
 | [],p=>p
 | o::l,p=>some o=some o/\cjO l p
theorem t8:∀(l:List Own) {p:Prop},p->cjO l p
 | [],_,h=>h
 | _::l,_,h=>⟨rfl,t8 l h⟩
theorem rkl(l:List Own):cjO l True:=t8 l trivial
theorem Mr{R:Prop}(g:Bool)(r:R):(g=true->g=true)/\((g=true->g=true)/\(R)):=⟨id,⟨id,r⟩⟩
theorem Yt{R:Prop}(g:Bool)(r:R):(g=true->g=true)/\((g=true->g=true)/\((g=true->g=true)/\(R))):=⟨id,⟨id,⟨id,r⟩⟩⟩
theorem LJ{R:Prop}(g:Bool)(r:R):(g=true->g=true)/\((g=true->g=true)/\((g=true->g=true)/\((g=true->g=true)/\(R)))):=⟨id,⟨id,⟨id,⟨id,r⟩⟩⟩⟩
theorem wZ{R:Prop}(g:Bool)(r:R):(g=true->g=true)/\((g=true->g=true)/\((g=true->g=true)/\((g=true->g=true)/\((g=true->g=true)/\(R))))):=⟨id,⟨id,⟨id,⟨id,⟨id,r⟩⟩⟩⟩⟩
theorem wa{R:Prop}(g:Bool)(r:R):(g=true->g=true)/\((g=true->g=true)/\((g=true->g=true)/\((g=true->g=true)/\((g=true->g=true)/\((g=true->g=true)/\(R)))))):=⟨id,⟨id,⟨id,⟨id,⟨id,⟨id,r⟩⟩⟩⟩⟩⟩
theorem gI7{R:Prop}(g:Bool)(r:R):(g=true->g=true)/\((g=true->g=true)/\((g=true->g=true)/\((g=true->g=true)/\((g=true->g=true)/\((g=true->g=true)/\((g=true->g=true)/\(R))))))):=⟨id,⟨id,⟨id,⟨id,⟨id,⟨id,⟨id,r⟩⟩⟩⟩⟩⟩⟩
theorem gI8{R:Prop}(g:Bool)(r:R):(g=true->g=true)/\((g=true->g=true)/\((g=true->g=true)/\((g=true->g=true)/\((g=true->g=true)/\((g=true->g=true)/\((g=true->g=true)/\((g=true->g=true)/\(R)))))))):=⟨id,⟨id,⟨id,⟨id,⟨id,⟨id,⟨id,⟨id,r⟩⟩⟩⟩⟩⟩⟩⟩
theorem gI9{R:Prop}(g:Bool)(r:R):(g=true->g=true)/\((g=true->g=true)/\((g=true->g=true)/\((g=true->g=true)/\((g=true->g=true)/\((g=true->g=true)/\((g=true->g=true)/\((g=true->g=true)/\((g=true->g=true)/\(R))))))))):=⟨id,⟨id,⟨id,⟨id,⟨id,⟨id,⟨id,⟨id,⟨id,r⟩⟩⟩⟩⟩⟩⟩⟩⟩
theorem fb{p0 p1 R:Prop}(a0:p0)(a1:p1)(r:R):p0/\p1/\R:=⟨a0,a1,r⟩
theorem c2{p0 p1:Prop}(a0:p0)(a1:p1):p0/\p1/\True:=⟨a0,a1,trivial⟩
theorem UG{p0 p1 p2 R:Prop}(a0:p0)(a1:p1)(a2:p2)(r:R):p0/\p1/\p2/\R:=⟨a0,a1,a2,r⟩
theorem c3{p0 p1 p2:Prop}(a0:p0)(a1:p1)(a2:p2):p0/\p1/\p2/\True:=⟨a0,a1,a2,trivial⟩
theorem d4_{p0 p1 p2 p3 R:Prop}(a0:p0)(a1:p1)(a2:p2)(a3:p3)(r:R):p0/\p1/\p2/\p3/\R:=⟨a0,a1,a2,a3,r⟩
theorem c4{p0 p1 p2 p3:Prop}(a0:p0)(a1:p1)(a2:p2)(a3:p3):p0/\p1/\p2/\p3/\True:=⟨a0,a1,a2,a3,trivial⟩
theorem d5_{p0 p1 p2 p3 p4 R:Prop}(a0:p0)(a1:p1)(a2:p2)(a3:p3)(a4:p4)(r:R):p0/\p1/\p2/\p3/\p4/\R:=⟨a0,a1,a2,a3,a4,r⟩
theorem c5{p0 p1 p2 p3 p4:Prop}(a0:p0)(a1:p1)(a2:p2)(a3:p3)(a4:p4):p0/\p1/\p2/\p3/\p4/\True:=⟨a0,a1,a2,a3,a4,trivial⟩
theorem c6{p0 p1 p2 p3 p4 p5:Prop}(a0:p0)(a1:p1)(a2:p2)(a3:p3)(a4:p4)(a5:p5):p0/\p1/\p2/\p3/\p4/\p5/\True:=⟨a0,a1,a2,a3,a4,a5,trivial⟩
theorem c7{p0 p1 p2 p3 p4 p5 p6:Prop}(a0:p0)(a1:p1)(a2:p2)(a3:p3)(a4:p4)(a5:p5)(a6:p6):p0/\p1/\p2/\p3/\p4/\p5/\p6/\True:=⟨a0,a1,a2,a3,a4,a5,a6,trivial⟩
theorem d8_{p0 p1 p2 p3 p4 p5 p6 p7 R:Prop}(a0:p0)(a1:p1)(a2:p2)(a3:p3)(a4:p4)(a5:p5)(a6:p6)(a7:p7)(r:R):p0/\p1/\p2/\p3/\p4/\p5/\p6/\p7/\R:=⟨a0,a1,a2,a3,a4,a5,a6,a7,r⟩
theorem c8{p0 p1 p2 p3 p4 p5 p6 p7:Prop}(a0:p0)(a1:p1)(a2:p2)(a3:p3)(a4:p4)(a5:p5)(a6:p6)(a7:p7):p0/\p1/\p2/\p3/\p4/\p5/\p6/\p7/\True:=⟨a0,a1,a2,a3,a4,a5,a6,a7,trivial⟩
theorem d9_{p0 p1 p2 p3 p4 p5 p6 p7 p8 R:Prop}(a0:p0)(a1:p1)(a2:p2)(a3:p3)(a4:p4)(a5:p5)(a6:p6)(a7:p7)(a8:p8)(r:R):p0/\p1/\p2/\p3/\p4/\p5/\p6/\p7/\p8/\R:=⟨a0,a1,a2,a3,a4,a5,a6,a7,a8,r⟩
theorem c9{p0 p1 p2 p3 p4 p5 p6 p7 p8:Prop}(a0:p0)(a1:p1)(a2:p2)(a3:p3)(a4:p4)(a5:p5)(a6:p6)(a7:p7)(a8:p8):p0/\p1/\p2/\p3/\p4/\p5/\p6/\p7/\p8/\True:=⟨a0,a1,a2,a3,a4,a5,a6,a7,a8,trivial⟩
open Go.Shelf
def groRen:Go.Shelf.Ren:=⟨fun|4=>139|n=>n,fun|22=>60|25=>70|n=>n,fun|n=>n⟩
theorem jW : Go.Proofs.Lays8.n4 Tryz.prog groRen := {
  mixed := by kernel_rfl
  f4 := ⟨"slices.Grow[[]lockstep/api.Op,lockstep/api.Op]", by decide, Tryz.func139.trans (Bj some (by kernel_rfl))⟩
  t0 := Tryz.underlying0
  a0 := Tryz.isAgg0
  z0 := Tryz.sizeOf0
  v0 := Tryz.zeroValue0
  t3 := Tryz.underlying3
  a3 := Tryz.isAgg3
  z3 := Tryz.sizeOf3
  v3 := Tryz.zeroValue3
  t4 := Tryz.underlying4
  a4 := Tryz.isAgg4
  z4 := Tryz.sizeOf4
  v4 := Tryz.zeroValue4
  t9 := Tryz.underlying9
  a9 := Tryz.isAgg9
  z9 := Tryz.sizeOf9
  v9 := Tryz.zeroValue9
  t20 := Tryz.underlying20
  a20 := Tryz.isAgg20
  z20 := Tryz.sizeOf20
  v20 := Tryz.zeroValue20
  t22 := Tryz.underlying60
  a22 := Tryz.isAgg60
  z22 := Tryz.sizeOf60
  v22 := Tryz.zeroValue60 }
def g7{α:Type}(n:Int):Option (List α):=Az (0<=n/\n<=1000000) (some [])
theorem jP{s:Nat}{e:TypeId}:Au (Aj ([]:List (Nat×Own))) 20000 (.tok s e 0)=Aj [(20000,.tok s e 0)]:=by
 funext k
 by_cases h:k=20000
 ·subst h;simp[Au,Aj]
 ·have h2:Nat.beq 20000 k=false:=by
   cases hb:Nat.beq 20000 k with
   | false=>rfl
   | true=>exact absurd (C5 hb).symm h
  simp[Au,Aj,h,h2]
theorem qc{α:Type}(n:Int)(r:List α)(h:g7 n=some r){e:α->List AV}{d:α} :
  Spec Tryz.prog 139 [.slice 0 0 (λ_=>[]) .exact,.int .i64 n] [] (AV.list 6 e d r (.own 20000)) [(20000,.tok 6 70 r.length)]:=by
 obtain⟨⟨h0,h1⟩,h⟩:=Qd h;obtain rfl:=OI h;obtain⟨k,rfl⟩:=Int.eq_ofNat_of_zero_le h0;refine⟨enters_of Tryz.func139 (by kernel_rfl) rfl,λw I θ zs hargs hrel hval _=>?_⟩;obtain⟨zs⟩:=zs
 cases hargs with|cons hA t=>cases t with|cons hB t=>cases t with|nil=>
 obtain rfl:=Rep.int_inv hB
 obtain⟨a,hav⟩:∃ a,‹Value› = .slice a 0 0:=by
  cases hA with
  | val v x h=>cases h
  | exact a n sz f h=>exact⟨a,rfl⟩
 subst hav
 show Calls _ _ _ _ _
 have rep0:∀(I:Nat->Nat->Prop) (θ:Nat->Option (Nat×Nat)) (w:World) (a:Option Addr) (c:Nat),c<=maxLen->(a=none->c=0)->(match θ 20000 with|none=>c=0|some (g,c')=>a=some ⟨g,0,none⟩/\c=c')->
   Rep I (Aj [(20000,.tok 6 70 0)]) θ w (.slice a 0 c) (AV.list 6 e d [] (.own 20000)):=λI θ w a c hm hn hv=>
  .own 20000 _ 70 0 a 0 c _ rfl (zzL6 _) (λ_=>hv) (.slice a 0 c _ _ (λ_=>undef) (P0 _) hm (λh=>by omega) hn (λj hj=>by omega) (λi hi=>by omega) (λi c hi=>by omega))
 by_cases hk:k=0
 ·subst hk;refine(Any8.slices_Grow_room jW a 0 0 0 w (zzL6 _) (by decide) (by decide) (by decide)).mono ?_;rintro ev w' ⟨rfl,hw⟩;rw[hw];have hc:=CV (nm:=20000) (s:=6) (e:=70) (m':=0) (t':=none) (I':=I) (w':=w) hrel (λ_ _ h=>h) (λ_ _ _=>rfl) (.inl rfl) (λ_ _ _=>rfl) (λ_ _ h=>.inl h) hval rfl rfl rfl (zzL6 _)
   (λ_ _ h=>by cases h) (λ_ _ h=>by cases h) (λ_ _=>rfl)
  rw[jP]at hc;exact⟨_,I,_,rfl,hc,rep0 _ _ _ _ _ (P0 _) (λ_=>rfl) (by simp[thUp])⟩
 ·cases hi:Tryz.prog.info? 70 with
  | none=>exact absurd (show(Tryz.prog.info? 70).isSome=true by kernel_rfl) (by rw[hi];simp)
  | some i0=>
   have e1:(Tryz.prog.info? 70).map (·.size)=some 6:=by kernel_rfl
   have e2:((Tryz.prog.info? 70).bind (·.zero)).map (·.cells.size)=some 6:=by kernel_rfl
   have e3:Nat.ble (((Tryz.prog.info? 70).map (·.bytes)).getD 1000) 128=true:=by kernel_rfl
   rw[hi]at e1 e2 e3;simp only[FT,Ao,An,KM]at e1 e2 e3;have e3:=K5 e3
   cases hz:i0.zero with
   | none=>rw[hz]at e2;cases e2
   | some z=>
    rw[hz]at e2;simp only[FT,Ao]at e2
    have hb:(0+k)*i0.bytes<=140737488355328:=by
     have:(0+k)*i0.bytes<=1000000*128:=Nat.mul_le_mul (by omega) e3;omega
    refine(Any8.slices_Grow_grow jW i0 z hi hz (by omega) a 0 0 k [] w (zzL6 _) (by omega) hb (by omega) (by simp) (λ_=>rfl) (λ_ _ j v h=>by simp at h)).mono ?_;rintro ev w' ⟨rfl,rfl⟩;have hG:=grownCap_ge w (0+k) 0 70;have hG2:grownCap w (0+k) 0 70<=maxLen:=grownCap_le_maxLen w _ _ _ (by unfold maxLen;omega);have hG':grownCap w (0+k) 0 (groRen.t 25)=grownCap w (0+k) 0 70:=rfl;rw[hG']
    generalize grownCap w (0+k) 0 70=G at hG hG2
    have hlt:∀ b o,I b o->b<w.heap.size:=λb o hi=>by
     obtain⟨u,hu⟩:=hval b o hi;exact Oa hu
    have hold:∀(ob:Obj) (b:Nat),b<w.heap.size->(w.drew.alloc ob).heap[b]?=w.heap[b]?:=λob b hb=>by
     show(w.heap.push ob)[b]?=_
     rw[Array.getElem?_push,if_neg (Nat.ne_of_lt hb)]
    have hcell:∀(ob:Obj) (b o:Nat),I b o->(w.drew.alloc ob).cell? ⟨b,o,none⟩=w.cell? ⟨b,o,none⟩:=λob b o hi=>ER (a:=⟨b,o,none⟩) (hold ob b (hlt b o hi));have hc:=CV (nm:=20000) (s:=6) (e:=70) (m':=0) (t':=some (w.heap.size,G)) (I':=I) (w':=w.drew.alloc (.cells (([]:List Value).toArray++Builtin.zeroCells z.cells (0+k-0)++Builtin.zeroCells z.cells (G-(0+k))) 70)) hrel (λ_ _ h=>h) (hcell _) (.inl rfl) (λb hb _=>hold _ b hb) (λ_ _ h=>.inl h)
     (λb o hi=>by rw[hcell _ b o hi];exact hval b o hi) rfl rfl rfl (by show w.heap.size<=(w.heap.push _).size;simp)
     (λg c h=>by
      obtain⟨rfl,rfl⟩:=Prod.mk.inj (OI h);refine⟨_,0,Y4 w.drew _,P0 _,hG2,?_,P0 _,λj hj=>absurd (hlt _ _ hj) (EV _)⟩
      have hs:∀ x,((([]:List Value).toArray++Builtin.zeroCells z.cells (0+k-0))++Builtin.zeroCells z.cells x).size=(k+x)*6:=λx=>by
       simp only[Array.size_append,size_zeroCells,e2];simp[Gm]
      exact(hs _).trans (Bj (·*6) (by omega)))
     (λg c h=>by
      obtain⟨rfl,rfl⟩:=Prod.mk.inj (OI h)
      exact .inl (zzL6 _)) (λh=>by cases h)
    rw[jP]at hc;exact⟨_,I,_,rfl,hc,rep0 _ _ _ _ _ hG2 (λh=>by cases h) (by simp[thUp])⟩
def insRen:Go.Shelf.Ren:=⟨fun|21=>193|27=>236|28=>237|35=>276|39=>196|n=>n,fun|22=>22|n=>n,fun|n=>n⟩
theorem HF:Go.Proofs.Lays2.n21 Tryz.prog insRen:={
 mixed:=by kernel_rfl
 f21:=Tryz.func193.trans (Bj some (by kernel_rfl))
 f27:=Tryz.func236.trans (Bj some (by kernel_rfl))
 f28:=Tryz.func237.trans (Bj some (by kernel_rfl))
 f35:=Tryz.func276.trans (Bj some (by kernel_rfl))
 f39:=Tryz.func196.trans (Bj some (by kernel_rfl))
 t0:=Tryz.underlying0
 a0:=Tryz.isAgg0
 z0:=Tryz.sizeOf0
 v0:=Tryz.zeroValue0
 t3:=Tryz.underlying3
 a3:=Tryz.isAgg3
 z3:=Tryz.sizeOf3
 v3:=Tryz.zeroValue3
 t4:=Tryz.underlying4
 a4:=Tryz.isAgg4
 z4:=Tryz.sizeOf4
 v4:=Tryz.zeroValue4
 t22:=Tryz.underlying22
 a22:=Tryz.isAgg22
 z22:=Tryz.sizeOf22
 v22:=Tryz.zeroValue22
 i3:=by kernel_rfl }
def UJ(w:World)(g c:Nat):Prop:=∃ cur,w.heap[g]?=some (.cells cur 3 (0,0))/\cur.size=c
structure Lk(w w':World)(g:Nat):Prop where
 os:w'.os=w.os
 tape:w'.tape=w.tape
 output:w'.output=w.output
 drawn:w.drawn<=w'.drawn
 size:w.heap.size<=w'.heap.size
 other:∀ b,b<w.heap.size->b≠g->w'.heap[b]?=w.heap[b]?
 blk:∀ c,UJ w g c->UJ w' g c
theorem Lk.refl(w:World)(g:Nat):Lk w w g:=⟨rfl,rfl,rfl,zzL6 _,zzL6 _,λ_ _ _=>rfl,λ_ h=>h⟩
theorem Lk.trans{w w' w'':World}{g:Nat}(h:Lk w w' g)(k:Lk w' w'' g):Lk w w'' g:=
 ⟨k.os.trans h.os,k.tape.trans h.tape,k.output.trans h.output,Pz h.drawn k.drawn,Pz h.size k.size,λb hb hn=>(k.other b (Nat.lt_of_lt_of_le hb h.size) hn).trans (h.other b hb hn),λc hc=>k.blk c (h.blk c hc)⟩
theorem DF(w:World)(g:Nat):Lk w w.drew g:=⟨rfl,rfl,rfl,Nat.le_succ _,zzL6 _,λ_ _ _=>rfl,λ_ h=>h⟩
theorem tF(w:World)(g o:Nat)(v:Value):Lk w (w.setCell ⟨g,o,none⟩ v) g:=
 ⟨rfl,rfl,rfl,zzL6 _,by simp[World.setCell],λb _ hn=>Below.heap_setCell w _ v b hn,λc ⟨cur,h1,h2⟩=>⟨_,heap_setCell_same w g o cur 3 v h1,by simpa using h2⟩⟩
theorem V8(g:Nat):∀(vs:List Value) (o:Nat) (w:World),Lk w (w.setCells g o vs) g
 | [],_,w=>.refl w g
 | v::r,o,w=>(tF w g o v).trans (V8 g r (o+1) _)
theorem QF{w:World}{ob:Obj}{g:Nat}(hg:w.heap.size<=g):Lk w (w.alloc ob) g:=
 ⟨rfl,rfl,rfl,zzL6 _,by show w.heap.size<=(w.heap.push ob).size;simp,λb hb _=>by show(w.heap.push ob)[b]?=_;rw[Array.getElem?_push,if_neg (Nat.ne_of_lt hb)],λc ⟨cur,h1,_⟩=>by
  rw[Array.getElem?_eq_none hg]at h1;cases h1⟩
theorem IX{w:World}(cs:Array Value):UJ (w.alloc (.cells cs 3)) w.heap.size cs.size:=⟨cs,Y4 w _,rfl⟩
theorem ZD(vs:List Value)(Z:Array Value){j:Nat}(h:j<vs.length):(vs.toArray++Z)[j]?=vs[j]?:=by
 rw[Array.getElem?_append_left (by simpa using h)];simp
theorem S7(l:List Int){j:Nat}(h:j<l.length):(l.map (Value.int .i64))[j]?=some (.int .i64 (l.getD j 0)):=by simp[List.getD,h]
theorem OW{w:World}{g c j:Nat}(h:UJ w g c)(hj:j<c):(w.cell? ⟨g,j,none⟩).isSome=true:=by
 obtain⟨cur,h1,h2⟩:=h;rw[M9 _ _ _ cur 3 (0,0) h1,Array.getElem?_eq_getElem (by omega)];rfl
theorem NS{w:World}{g c:Nat}(h:UJ w g c)(j:Nat):w.frozen? ⟨g,j,none⟩=false:=by
 obtain⟨cur,h1,h2⟩:=h;simp[World.frozen?,h1]
theorem AL{w:World}{g c o:Nat}{vs:List Value}(hB:UJ w g c)(ho:o+vs.length<=c)(j:Nat) :
  (w.setCells g o vs).cell? ⟨g,j,none⟩=if o<=j/\j<o+vs.length then vs[j-o]? else w.cell? ⟨g,j,none⟩:=by
 split
 ·rename_i h
  obtain⟨i,rfl⟩:∃ i,j=o+i:=⟨j-o,by omega⟩;rw[World.cell?_setCells_in g vs o w (λi hi=>OW hB (by omega)) i (by omega),Nat.add_sub_cancel_left,Py (by omega)]
 ·rename_i h
  exact World.cell?_setCells_out g vs o w _ (λ_ _=>by show j<o\/o+vs.length<=j;omega)
def CA(l:List Int)(i:Int)(v:List Int):Option (List Int×List Int×List Int):=
 Az (0<=i/\i<=l.length/\0<v.length/\l.length+v.length<=room) (some (l.take i.toNat++v++l.drop i.toNat,l.take i.toNat++v++l.drop i.toNat,v))
theorem jE{l:List Int}{j:Nat}{u:Value}(h:(l.map (Value.int .i64))[j]?=some u):j<l.length/\u = .int .i64 (l.getD j 0):=by
 rw[KJ]at h;obtain⟨x,hx,rfl⟩:=zzL79.1 h;obtain⟨h1,h2⟩:=List.getElem?_eq_some_iff.1 hx;exact⟨h1,by simp[List.getD,hx]⟩
theorem df(l:List Int):∀ v∈l.map (Value.int .i64),v.oneCell'=true:=by
 intro v hv;obtain⟨x,_,rfl⟩:=zzL21.1 hv
 rfl
section
variable {I:Nat->Nat->Prop} {own:Nat->Option Own} {θ:Nat->Option (Nat×Nat)} {w w':World}
theorem rowI_at(hrel:Jf I own θ w){nm n:Nat}{f:Nat->List AV}{v:Value}{l:List Int}(hl:l.length=n)(ho:own nm=some (.arr 1 3 n f))(hf:∀ k,k<n->f k=[.int .i64 (l.getD k 0)])(h:Rep I own θ w v (.vsl nm n)) :
  (θ nm=none/\l=[]/\∃ a,v = .slice a 0 0)\/∃ g c,θ nm=some (g,c)/\v = .slice (some ⟨g,0,none⟩) n c/\n<=c/\c<=maxLen/\UJ w g c/\(∀ j,j<n->w.cell? ⟨g,j,none⟩=some (.int .i64 (l.getD j 0)))/\∀ j,¬ I g j:=by
 obtain⟨sz,e2,m,f2,ad,cap,rfl,ho2,hm,hcap,hmax,hn,hv⟩:=h.vsl_inv;rw[ho]at ho2;simp only[Ao,Own.arr.injEq]at ho2;obtain⟨rfl,rfl,rfl,rfl⟩:=ho2;have hv:=hv rfl;obtain⟨k1,k2⟩:=hrel.arr nm _ _ _ _ ho
 cases hθ:θ nm with
 | none=>
  rw[hθ]at hv;simp only at hv;have:=k1 hθ;subst this;exact .inl ⟨rfl,zzL93.1 hl,ad,by rw[hv]⟩
 | some gc=>
  obtain⟨g,c⟩:=gc;rw[hθ]at hv;simp only at hv;obtain⟨rfl,rfl⟩:=hv;obtain⟨cur,q1,q2,q3,q4,q5,q6,q7⟩:=k2 g cap hθ;rw[Ug]at q4;refine .inr ⟨g,cap,rfl,rfl,q2,q3,⟨cur,q1,q4⟩,λj hj=>?_,q7⟩;obtain⟨_,q⟩:=q6 j 0 hj (by omega);rw[hf j hj,Ug,M8]at q;have q:=Rep.int_inv q;rw[M9 _ _ _ cur 3 (0,0) q1,<- q];simp only[Rg];rw[Array.getElem?_eq_getElem (by omega)]
  rfl
theorem fk(hrel:Jf I own θ w)(hval:∀ b o,I b o->∃ u,w.cell? ⟨b,o,none⟩=some u){nm n:Nat}{f:Nat->List AV}(ho:own nm=some (.arr 1 3 n f)){r:List Int}(hn:n<r.length){g c:Nat}(hc:r.length<=c)(hm:c<=maxLen)
  (hlk:Lk w w' g) (hblk:UJ w' g c) (hcell:∀ j,j<r.length->w'.cell? ⟨g,j,none⟩=some (.int .i64 (r.getD j 0))) (hI:∀ j,¬ I g j) (hg:w.heap.size<=g\/∃ c',θ nm=some (g,c')) :
  ∃ v θ',Value.slice (some ⟨g,0,none⟩) r.length c=v/\Chg own θ I w (Au own nm (.arr 1 3 r.length (λi=>[.int .i64 (r.getD i 0)]))) θ' I w'/\Rep I (Au own nm (.arr 1 3 r.length (λi=>[.int .i64 (r.getD i 0)]))) θ' w' v (.vsl nm r.length):=by
 have hoth:∀ b o,I b o->w'.cell? ⟨b,o,none⟩=w.cell? ⟨b,o,none⟩:=λb o hi=>by
  obtain⟨u,hu⟩:=hval b o hi;exact ER (a:=⟨b,o,none⟩) (hlk.other b (Oa hu) (λe=>hI o (e▸hi)))
 have hk:=L7 (nm:=nm) (s:=1) (e:=3) (m':=r.length) (f':=λi=>[.int .i64 (r.getD i 0)]) (t':=some (g,c)) (w':=w') hrel hval hoth (.inr ⟨n,f,ho,Nat.le_of_lt hn,λh=>by omega⟩)
  (λb hb hne=>hlk.other b hb (λe=>by
   subst e;rcases hg with hg|⟨c',hg⟩
   ·omega
   ·exact hne c' (by rw[ho];intro hh;cases hh) hg)) hlk.os hlk.tape hlk.output hlk.size (λhh=>by cases hh)
  (λg' c' hh=>by
   obtain⟨rfl,rfl⟩:=Prod.mk.inj (OI hh);obtain⟨cur,h1,h2⟩:=hblk;refine⟨cur,h1,hc,hm,by rw[h2,Ug],λ_ _=>rfl,λi j hi hj=>?_,hI⟩
   obtain rfl:j=0:=by omega
   have:=hcell i hi;rw[M9 _ _ _ cur 3 (0,0) h1]at this;rw[Ug,M8,Rg,this]
   exact⟨rfl,λ_=>.val _ _ (.int _ _)⟩)
  (λg' c' hh=>by
   obtain⟨rfl,rfl⟩:=Prod.mk.inj (OI hh);rcases hg with hg|⟨c',hg⟩
   ·exact .inl hg
   ·exact .inr ⟨(by rw[ho];intro hh;cases hh),c',hg⟩) hlk.drawn
 exact⟨_,_,rfl,hk,.vsl nm 1 3 r.length (λi=>[.int .i64 (r.getD i 0)]) (some ⟨g,0,none⟩) r.length c (by simp only[Au,Mq]) (zzL6 _) hc hm (λhh=>by cases hh) (λ_=>by simp[thUp])⟩
end
set_option maxHeartbeats 1000000 in
theorem SI(l:List Int)(i:Int)(v:List Int)(r:List Int×List Int×List Int)(h:CA l i v=some r)(f:Nat->List AV)(hf:∀ k,k<v.length->f k=[.int .i64 (v.getD k 0)]) :
  Spec Tryz.prog 193 [.vsl 34000 l.length,.int .i64 i,.vsl 34002 v.length] [(34000,.arr 1 3 l.length (λi=>[.int .i64 (l.getD i 0)])),(34002,.arr 1 3 v.length f)] (.vsl 34000 r.2.1.length)
   [(34000,.arr 1 3 r.2.1.length (λi=>[.int .i64 (r.2.1.getD i 0)])),(34002,.arr 1 3 r.2.2.length (λi=>[.int .i64 (r.2.2.getD i 0)]))]:=by
 obtain⟨⟨hi0,hin,hm,hroom⟩,h⟩:=Qd h;obtain rfl:=OI h;unfold room at hroom;obtain⟨k,rfl⟩:=Int.eq_ofNat_of_zero_le hi0
 have hkn:k<=l.length:=by omega
 simp only[C8];refine⟨enters_of Tryz.func193 (by kernel_rfl) rfl,λw I θ zs hargs hrel hval _=>?_⟩;obtain⟨zs⟩:=zs
 cases hargs with|cons h1 t=>cases t with|cons h2 t=>cases t with|cons h3 t=>cases t with|nil=>
 obtain rfl:=Rep.int_inv h2;rcases rowI_at hrel (l:=v) rfl rfl hf h3 with⟨_,h,_⟩|⟨vg,vc,hvθ,rfl,hvc,_,⟨vcur,hvh,hvs'⟩,hvcell,hvI⟩
 ·rw[h]at hm;cases hm
 have hvs:∀(W:World),(∀ o,W.cell? ⟨vg,o,none⟩=w.cell? ⟨vg,o,none⟩)->∀ j u,(v.map (Value.int .i64))[j]?=some u->W.cell? ⟨vg,0+j,none⟩=some u:=λW hW j u hj=>by
  obtain⟨h1,rfl⟩:=jE hj;rw[E8,hW,hvcell j h1]
 generalize hr:l.take k++v++l.drop k=r
 have hrl:r.length=l.length+v.length:=by rw[<- hr];simp;omega
 have hr1:∀ j,j<k->r.getD j 0=l.getD j 0:=λj hj=>by rw[<- hr];simp only[List.getD];rw[ES,Uf (by simp;omega),List.getElem?_take_of_lt hj]
 have hr2:∀ j,j<v.length->r.getD (k+j) 0=v.getD j 0:=λj hj=>by
  rw[<- hr];simp only[List.getD];rw[ES,Va (by simp;omega),Uf (by simp;omega)];congr 2;simp;omega
 have hr3:∀ j,k+v.length<=j->r.getD j 0=l.getD (j-v.length) 0:=λj hj=>by
  rw[<- hr];simp only[List.getD];rw[Va (by simp;omega),IG];congr 2;simp;omega
 obtain⟨own1,hown1⟩:∃ o,o=Au (Aj [(34000,Own.arr 1 3 l.length (λi=>[.int .i64 (l.getD i 0)])),(34002,Own.arr 1 3 v.length f)]) 34002 (.arr 1 3 v.length (λi=>[.int .i64 (v.getD i 0)])):=⟨_,rfl⟩
 have hk1:Chg (Aj [(34000,Own.arr 1 3 l.length (λi=>[.int .i64 (l.getD i 0)])),(34002,Own.arr 1 3 v.length f)]) θ I w own1 θ I w:=by
  have:=L7 (nm:=34002) (s:=1) (e:=3) (m':=v.length) (f':=λi=>[.int .i64 (v.getD i 0)]) (t':=some (vg,vc)) (w':=w) hrel hval (λ_ _ _=>rfl) (.inr ⟨v.length,f,rfl,zzL6 _,λ_=>hvθ.symm⟩)
   (λ_ _ _=>rfl) rfl rfl rfl (zzL6 _) (λhh=>by cases hh)
   (λg' c' hh=>by
    obtain⟨rfl,rfl⟩:=Prod.mk.inj (OI hh);refine⟨vcur,hvh,hvc,‹_›,by rw[hvs',Ug],λ_ _=>rfl,λi j hi hj=>?_,hvI⟩
    obtain rfl:j=0:=by omega
    have:=hvcell i hi;rw[M9 _ _ _ vcur 3 (0,0) hvh]at this;rw[Ug,M8,Rg,this]
    exact⟨rfl,λ_=>.val _ _ (.int _ _)⟩)
   (λg' c' hh=>by
    obtain⟨rfl,rfl⟩:=Prod.mk.inj (OI hh)
    exact .inr ⟨(λhh=>by cases hh),vc,hvθ⟩)
  rw[Wp hvθ]at this;rw[hown1];exact this
 have ho0:own1 34000=some (.arr 1 3 l.length (λi=>[.int .i64 (l.getD i 0)])):=by rw[hown1];rfl
 have ho2:own1 34002≠none:=by rw[hown1];intro hh;cases hh
 have hH:∀ x,Au own1 34000 (.arr 1 3 r.length x)=Aj [(34000,Own.arr 1 3 r.length x),(34002,Own.arr 1 3 v.length (λi=>[.int .i64 (v.getD i 0)]))]:=λx=>by
  rw[hown1]
  funext nm
  simp only[Au,Aj]
  by_cases h1:nm=34000
  ·subst h1;rfl
  ·by_cases h2:nm=34002
   ·subst h2;rfl
   ·have e1:Nat.beq 34000 nm=false:=by cases e:Nat.beq 34000 nm;rfl;exact absurd (C5 e).symm h1
    have e2:Nat.beq 34002 nm=false:=by cases e:Nat.beq 34002 nm;rfl;exact absurd (C5 e).symm h2
    simp[h1,h2,e1,e2]
 have fin:∀(g c:Nat) (w':World) (e:Ending),r.length<=c->c<=maxLen->Lk w w' g->UJ w' g c->(∀ j,j<r.length->w'.cell? ⟨g,j,none⟩=some (.int .i64 (r.getD j 0)))->(∀ j,¬ I g j)->(w.heap.size<=g\/∃ c',θ 34000=some (g,c'))->e = .returned (.slice (some ⟨g,0,none⟩) (l.length+v.length) c)->
   ∃ v' I' θ',e = .returned v'/\Chg (Aj [(34000,Own.arr 1 3 l.length (λi=>[.int .i64 (l.getD i 0)])),(34002,Own.arr 1 3 v.length f)]) θ I w (Aj [(34000,Own.arr 1 3 r.length (λi=>[.int .i64 (r.getD i 0)])),(34002,Own.arr 1 3 v.length (λi=>[.int .i64 (v.getD i 0)]))]) θ' I' w' /\
    Rep I' (Aj [(34000,Own.arr 1 3 r.length (λi=>[.int .i64 (r.getD i 0)])),(34002,Own.arr 1 3 v.length (λi=>[.int .i64 (v.getD i 0)]))]) θ' w' v' (.vsl 34000 r.length):=by
  intro g c w' e hc hmx hlk hblk hcell hI hg he;obtain⟨v',θ',e1,e2,e3⟩:=fk (r:=r) hk1.rel hk1.valid ho0 (by omega) hc hmx hlk hblk hcell hI hg;rw[hH]at e2 e3;exact⟨v',I,θ',by rw[he,<- e1,hrl],hk1.trans e2,e3⟩
 have hNI:∀ j,¬ I w.heap.size j:=λj hj=>by
  obtain⟨u,hu⟩:=hval _ _ hj;have:=Oa hu;simp at this
 have h1v:=df v;have hvl:(v.map (Value.int .i64)).length=v.length:=Dy ..
 have hbig:(l.length+v.length)*8<=140737488355328:=by omega
 rcases rowI_at hk1.rel rfl ho0 (λ_ _=>rfl) (h1.mono (λ_ _ h=>h) (λ_ _ _=>rfl) hk1.le) with⟨_,rfl,a,rfl⟩|⟨g,c,hθ,rfl,hc,hcm,hB,hcell,hI⟩
 ·
  obtain rfl:k=0:=by simp at hkn;omega
  refine(Any2.slices_Insert_int_end_grow HF a 0 0 vg 0 v.length vc [] (v.map (Value.int .i64)) w hm (zzL6 _) (by omega) (by simpa using hbig) rfl hvl (λ_=>rfl) (λ_ _ _ _ h=>by simp at h) (hvs w λ_=>rfl) h1v).mono λe w' ⟨he,hw⟩=>?_;subst hw;have hG:=grownCap_ge w (0+v.length) 0 (insRen.t 3);have hGm:grownCap w (0+v.length) 0 (insRen.t 3)<=maxLen:=grownCap_le_maxLen _ _ _ _ (by unfold maxLen;omega);simp only[List.length_nil]at he ⊢ hrl
  generalize grownCap w (0+v.length) 0 (insRen.t 3)=G at hG hGm he ⊢
  refine fin w.heap.size G _ e (by omega) hGm ((DF w _).trans (QF (zzL6 _))) ?_ (λj hj=>?_) hNI (.inl (zzL6 _)) he
  ·have:=IX (w:=w.drew) (([]++v.map (Value.int .i64)).toArray++Builtin.zeroCells (Value.int .i64 0).cells (G-(0+v.length)))
   have e:(([]++v.map (Value.int .i64)).toArray++Builtin.zeroCells (Value.int .i64 0).cells (G-(0+v.length))).size=G:=by
    simp[Builtin.zeroCells,Value.cells];omega
   rw[e]at this;exact this
  ·have e:=World.cell?_alloc_at (w:=w.drew) (([]++v.map (Value.int .i64)).toArray++Builtin.zeroCells (Value.int .i64 0).cells (G-(0+v.length))) (insRen.t 3) w.heap.size j rfl;rw[e,Y7,ZD _ _ (by rw[hvl];omega),S7 _ (by omega)];have:=hr2 j (by omega);rw[E8]at this;rw[this]
 ·have hcl:(l.map (Value.int .i64)).length=l.length:=Dy ..;have h1c:=df l
  have hc63:c<=9223372036854775807:=by unfold maxLen at hcm;exact hcm
  have hcs:∀ j u,(l.map (Value.int .i64))[j]?=some u->w.cell? ⟨g,0+j,none⟩=some u:=λj u hj=>by
   obtain⟨h1,rfl⟩:=jE hj;rw[E8,hcell j h1]
  have hgv:vg≠g:=λe=>by
   subst e;have:=hrel.inj 34000 34002 vg c vc (by intro hh;cases hh) (by intro hh;cases hh) hθ hvθ
   cases this
  by_cases hroomc:l.length+v.length<=c
  ·by_cases hke:k=l.length
   ·subst hke;refine(Any2.slices_Insert_int_end_room HF g 0 l.length c vg 0 v.length vc (v.map (Value.int .i64)) w hm hroomc hc63 hvl (λj hj=>OW hB (by omega)) (λj hj=>NS hB _) (hvs w λ_=>rfl) h1v).mono λe w' ⟨he,hw⟩=>?_;subst hw;have hlk:=V8 g (v.map (Value.int .i64)) (0+l.length) w;refine fin g c _ e (by omega) hcm hlk (hlk.blk c hB) (λj hj=>?_) hI (.inr ⟨c,hθ⟩) he;rw[AL hB (by rw[hvl];omega),hvl]
    split
    ·rw[S7 _ (by omega),<- hr2 _ (by omega)];congr 3;omega
    ·rw[hcell j (by omega),hr1 j (by omega)]
   ·refine(Any2.slices_Insert_int_shift HF g 0 l.length c k vg 0 v.length vc (l.map (Value.int .i64)) (v.map (Value.int .i64)) w (by omega) hm hroomc hc63 hgv hcl hvl hcs (λj hj=>OW hB (by omega)) (λj hj=>NS hB _) (hvs w λ_=>rfl) h1c h1v
     3 3 vc c ?_ ?_ (by omega) ?_ ?_).mono λe w' ⟨he,hw⟩=>?_
    ·simp[World.shape?,hvh,hvs']
    ·obtain⟨cur,q1,q2⟩:=hB;simp[World.shape?,q1,q2]
    ·exact NS ⟨vcur,hvh,hvs'⟩ _
    ·exact NS ⟨vcur,hvh,hvs'⟩ _
    subst hw;have hl1:=(DF w g).trans (V8 g ((l.map (Value.int .i64)).drop k) (0+(k+v.length)) w.drew);have hB0:=(DF w g).blk c hB;have hB1:=hl1.blk c hB;have hl2:=hl1.trans (V8 g (v.map (Value.int .i64)) (0+k) _);refine fin g c _ e (by omega) hcm hl2 (hl2.blk c hB) (λj hj=>?_) hI (.inr ⟨c,hθ⟩) he;rw[AL hB1 (by rw[hvl];omega),hvl,AL hB0 (by rw[CE,hcl];omega),CE,hcl]
    split
    ·rw[S7 _ (by omega),<- hr2 _ (by omega)];congr 3;omega
    ·split
     ·rw[IG,S7 _ (by omega),hr3 j (by omega)];congr 3;omega
     ·show w.cell? _=_
      rw[hcell j (by omega),hr1 j (by omega)]
  ·have hG:=grownCap_ge w (l.length+v.length) c (insRen.t 3);have hGm:grownCap w (l.length+v.length) c (insRen.t 3)<=maxLen:=grownCap_le_maxLen _ _ _ _ (by unfold maxLen;omega)
   by_cases hke:k=l.length
   ·subst hke
    refine(Any2.slices_Insert_int_end_grow HF (some ⟨g,0,none⟩) l.length c vg 0 v.length vc (l.map (Value.int .i64)) (v.map (Value.int .i64)) w hm hc (by omega) hbig hcl hvl (λh=>by cases h) (λa ha j u hj=>by
     obtain rfl:=OI ha
     rw[O6];exact hcs j u hj) (hvs w λ_=>rfl) h1v).mono λe w' ⟨he,hw⟩=>?_
    subst hw
    generalize grownCap w (l.length+v.length) c (insRen.t 3)=G at hG hGm he ⊢
    refine fin w.heap.size G _ e (by omega) hGm ((DF w _).trans (QF (zzL6 _))) ?_ (λj hj=>?_) hNI (.inl (zzL6 _)) he
    ·have:=IX (w:=w.drew) ((l.map (Value.int .i64)++v.map (Value.int .i64)).toArray++Builtin.zeroCells (Value.int .i64 0).cells (G-(l.length+v.length)))
     have e:((l.map (Value.int .i64)++v.map (Value.int .i64)).toArray++Builtin.zeroCells (Value.int .i64 0).cells (G-(l.length+v.length))).size=G:=by
      simp[Builtin.zeroCells,Value.cells];omega
     rw[e]at this;exact this
    ·have e:=World.cell?_alloc_at (w:=w.drew) ((l.map (Value.int .i64)++v.map (Value.int .i64)).toArray++Builtin.zeroCells (Value.int .i64 0).cells (G-(l.length+v.length))) (insRen.t 3) w.heap.size j rfl;rw[e,ZD _ _ (by rw[Fh,hcl,hvl];omega)]
     by_cases hj1:j<l.length
     ·rw[Uf (by omega),S7 _ hj1,hr1 j hj1]
     ·rw[Va (by omega),hcl,S7 _ (by omega),<- hr2 _ (by omega)];congr 3;omega
   ·refine(Any2.slices_Insert_int_grow HF g 0 l.length c k vg 0 v.length vc (l.map (Value.int .i64)) (v.map (Value.int .i64)) w (by omega) hm hc (by omega) hbig hcl hvl hcs (hvs w λ_=>rfl) h1c h1v).mono λe w' ⟨he,hw⟩=>?_;subst hw
    generalize grownCap w (l.length+v.length) c (insRen.t 3)=G at hG hGm he ⊢
    generalize hA:((l.map (Value.int .i64)).take k).toArray++Builtin.zeroCells (Value.int .i64 0).cells (l.length+v.length-k)++Builtin.zeroCells (Value.int .i64 0).cells (G-(l.length+v.length))=A
    have hAs:A.size=G:=by rw[<- hA];simp[Builtin.zeroCells,Value.cells];omega
    have b0:UJ (w.alloc (.cells A 3)) w.heap.size G:=by have:=IX (w:=w) A;rwa[hAs]at this
    have k0:Lk w (w.alloc (.cells A 3)) w.heap.size:=QF (zzL6 _);have k1:=(DF (w.alloc (.cells A 3)) w.heap.size);have b1:=k1.blk G b0;have k2:=V8 w.heap.size (v.map (Value.int .i64)) k (w.alloc (.cells A 3)).drew;have b2:=k2.blk G b1;have k3:=DF ((w.alloc (.cells A 3)).drew.setCells w.heap.size k (v.map (Value.int .i64))) w.heap.size;have b3:=k3.blk G b2;have k4:=V8 w.heap.size ((l.map (Value.int .i64)).drop k) (k+v.length) ((w.alloc (.cells A 3)).drew.setCells w.heap.size k (v.map (Value.int .i64))).drew;refine fin w.heap.size G _ e (by omega) hGm ((((k0.trans k1).trans k2).trans k3).trans k4) (k4.blk G b3) (λj hj=>?_) hNI (.inl (zzL6 _)) he
    show(((w.alloc (Obj.cells A 3)).drew.setCells w.heap.size k (v.map (Value.int .i64))).drew.setCells w.heap.size (k+v.length) ((l.map (Value.int .i64)).drop k)).cell? ⟨w.heap.size,j,none⟩=_
    rw[AL b3 (by rw[CE,hcl];omega),CE,hcl]
    split
    ·rw[IG,S7 _ (by omega),hr3 j (by omega)];congr 3;omega
    ·show((w.alloc (Obj.cells A 3)).drew.setCells w.heap.size k (v.map (Value.int .i64))).cell? ⟨w.heap.size,j,none⟩=_
     rw[AL b1 (by rw[hvl];omega),hvl]
     split
     ·rw[S7 _ (by omega),<- hr2 _ (by omega)];congr 3;omega
     ·have e:=World.cell?_alloc_at (w:=w) A 3 w.heap.size j rfl
      show(w.alloc (.cells A 3)).cell? _=_
      rw[e,<- hA,Array.append_assoc,ZD _ _ (by rw[Wv,hcl];omega),List.getElem?_take_of_lt (by omega),S7 _ (by omega),hr1 j (by omega)]
def cq:Go.Shelf.Ren:=⟨fun|189=>190|125=>233|257=>232|128=>273|129=>274|294=>265|295=>266|296=>267|297=>268|298=>269|299=>270|216=>234|300=>271|301=>272|328=>286|329=>287|330=>288|331=>289|332=>290|215=>275|343=>295|n=>n,fun|28=>22|3=>3|46=>239|0=>0|51=>256|53=>44|4=>4|183=>269|182=>268|131=>186|5=>5|9=>9|218=>277|222=>281|228=>285|229=>149|n=>n,fun|n=>n⟩
theorem jV:Go.Proofs.Lays.n189 Tryz.prog cq:={
 mixed:=by kernel_rfl
 f125:=Tryz.func233.trans (Bj some (by kernel_rfl))
 f128:=Tryz.func273.trans (Bj some (by kernel_rfl))
 f129:=Tryz.func274.trans (Bj some (by kernel_rfl))
 f189:=Tryz.func190.trans (Bj some (by kernel_rfl))
 f215:=Tryz.func275.trans (Bj some (by kernel_rfl))
 f216:=Tryz.func234.trans (Bj some (by kernel_rfl))
 f257:=Tryz.func232.trans (Bj some (by kernel_rfl))
 f294:=Tryz.func265.trans (Bj some (by kernel_rfl))
 f295:=Tryz.func266.trans (Bj some (by kernel_rfl))
 f296:=Tryz.func267.trans (Bj some (by kernel_rfl))
 f297:=Tryz.func268.trans (Bj some (by kernel_rfl))
 f298:=Tryz.func269.trans (Bj some (by kernel_rfl))
 f299:=Tryz.func270.trans (Bj some (by kernel_rfl))
 f300:=Tryz.func271.trans (Bj some (by kernel_rfl))
 f301:=Tryz.func272.trans (Bj some (by kernel_rfl))
 f328:=Tryz.func286.trans (Bj some (by kernel_rfl))
 f329:=Tryz.func287.trans (Bj some (by kernel_rfl))
 f330:=Tryz.func288.trans (Bj some (by kernel_rfl))
 f331:=Tryz.func289.trans (Bj some (by kernel_rfl))
 f332:=Tryz.func290.trans (Bj some (by kernel_rfl))
 f343:=Tryz.func295.trans (Bj some (by kernel_rfl))
 t0:=Tryz.underlying0
 a0:=Tryz.isAgg0
 z0:=Tryz.sizeOf0
 v0:=Tryz.zeroValue0
 t3:=Tryz.underlying3
 a3:=Tryz.isAgg3
 z3:=Tryz.sizeOf3
 v3:=Tryz.zeroValue3
 t4:=Tryz.underlying4
 a4:=Tryz.isAgg4
 z4:=Tryz.sizeOf4
 v4:=Tryz.zeroValue4
 t5:=Tryz.underlying5
 a5:=Tryz.isAgg5
 z5:=Tryz.sizeOf5
 v5:=Tryz.zeroValue5
 t9:=Tryz.underlying9
 a9:=Tryz.isAgg9
 z9:=Tryz.sizeOf9
 v9:=Tryz.zeroValue9
 t28:=Tryz.underlying22
 a28:=Tryz.isAgg22
 z28:=Tryz.sizeOf22
 v28:=Tryz.zeroValue22
 t46:=Tryz.underlying239
 a46:=Tryz.isAgg239
 z46:=Tryz.sizeOf239
 v46:=Tryz.zeroValue239
 t51:=Tryz.underlying256
 a51:=Tryz.isAgg256
 z51:=Tryz.sizeOf256
 v51:=Tryz.zeroValue256
 t53:=Tryz.underlying44
 a53:=Tryz.isAgg44
 z53:=Tryz.sizeOf44
 v53:=Tryz.zeroValue44
 t131:=Tryz.underlying186
 a131:=Tryz.isAgg186
 z131:=Tryz.sizeOf186
 v131:=Tryz.zeroValue186
 t182:=Tryz.underlying268
 a182:=Tryz.isAgg268
 z182:=Tryz.sizeOf268
 v182:=Tryz.zeroValue268
 t183:=Tryz.underlying269
 a183:=Tryz.isAgg269
 z183:=Tryz.sizeOf269
 v183:=Tryz.zeroValue269
 t218:=Tryz.underlying277
 a218:=Tryz.isAgg277
 z218:=Tryz.sizeOf277
 v218:=Tryz.zeroValue277
 t222:=Tryz.underlying281
 a222:=Tryz.isAgg281
 z222:=Tryz.sizeOf281
 v222:=Tryz.zeroValue281
 t228:=Tryz.underlying285
 a228:=Tryz.isAgg285
 z228:=Tryz.sizeOf285
 v228:=Tryz.zeroValue285
 t229:=Tryz.underlying149
 a229:=Tryz.isAgg149
 z229:=Tryz.sizeOf149
 v229:=Tryz.zeroValue149 }
def UW:Go.Shelf.Ren:=⟨fun|15=>189|n=>n,fun|22=>22|3=>3|4=>4|n=>n,fun|n=>n⟩
theorem JG:Go.Proofs.Lays2.n15 Tryz.prog UW:={
 mixed:=by kernel_rfl
 f15:=Tryz.func189.trans (Bj some (by kernel_rfl))
 t3:=Tryz.underlying3
 a3:=Tryz.isAgg3
 z3:=Tryz.sizeOf3
 v3:=Tryz.zeroValue3
 t4:=Tryz.underlying4
 a4:=Tryz.isAgg4
 z4:=Tryz.sizeOf4
 v4:=Tryz.zeroValue4
 t22:=Tryz.underlying22
 a22:=Tryz.isAgg22
 z22:=Tryz.sizeOf22
 v22:=Tryz.zeroValue22
 i3:=by kernel_rfl }
def UX:Go.Shelf.Ren:=⟨fun|20=>191|n=>n,fun|22=>22|3=>3|4=>4|0=>0|n=>n,fun|n=>n⟩
theorem WT:Go.Proofs.Lays2.n20 Tryz.prog UX:={
 mixed:=by kernel_rfl
 f20:=Tryz.func191.trans (Bj some (by kernel_rfl))
 t0:=Tryz.underlying0
 a0:=Tryz.isAgg0
 z0:=Tryz.sizeOf0
 v0:=Tryz.zeroValue0
 t3:=Tryz.underlying3
 a3:=Tryz.isAgg3
 z3:=Tryz.sizeOf3
 v3:=Tryz.zeroValue3
 t4:=Tryz.underlying4
 a4:=Tryz.isAgg4
 z4:=Tryz.sizeOf4
 v4:=Tryz.zeroValue4
 t22:=Tryz.underlying22
 a22:=Tryz.isAgg22
 z22:=Tryz.sizeOf22
 v22:=Tryz.zeroValue22
 i3:=by kernel_rfl }
open Go.Sort
section
variable {I:Nat->Nat->Prop} {θ:Nat->Option (Nat×Nat)} {w w':World}
theorem gb(I:Nat->Nat->Prop)(θ:Nat->Option (Nat×Nat))(w:World):Jf I (Aj []) θ w:=
 ⟨(λ_ _ _ h=>by cases h),(λ_ _ _ _ h=>by cases h),(λ_ _ _ _ _ h=>(h rfl).elim),(λ_ _ _ _ _ h=>by cases h),(λ_ _ h=>by cases h),(λ_ _ _ h=>by cases h)⟩
theorem pz{own:Nat->Option Own}{zs:Array Value}{x:AV}(h:RepL I own θ w zs.toList [x]):∃ v,zs = #[v]/\Rep I own θ w v x:=by
 obtain⟨l⟩:=zs
 cases h with
 | cons h1 h2=>cases h2;exact⟨_,rfl,h1⟩
theorem EB(hb:Below w.heap.size w w')(hval:∀ b o,I b o->∃ u,w.cell? ⟨b,o,none⟩=some u){N:Nat->Nat->Prop}(hN:∀ b o,N b o->w.heap.size<=b/\∃ u,w'.cell? ⟨b,o,none⟩=some u) :
  Chg (Aj []) θ I w (Aj []) θ (λb o=>I b o\/N b o) w':=
 have hcell:∀ b o,I b o->w'.cell? ⟨b,o,none⟩=w.cell? ⟨b,o,none⟩:=λb o hi=>by
  obtain⟨u,hu⟩:=hval b o hi;exact ER (a:=⟨b,o,none⟩) (hb.block b (Oa hu))
 {imm:=λ_ _ h=>.inl h,cell:=hcell,le:=λ_ _ h=>(by cases h),rel:=gb _ _ _,
  valid:=λb o hi=>by
   rcases hi with hi|hi
   ·obtain⟨u,hu⟩:=hval b o hi;exact⟨u,(hcell b o hi).trans hu⟩
   ·exact(hN b o hi).2,
  os:=hb.os,tape:=hb.tape,output:=hb.output,drawn:=λh=>h.elim,grow:=hb.size,frame:=λb hlt _=>hb.block b hlt,new:=λ_ _ _ h=>(h rfl).elim,
  immNew:=λb o hi=>by
   rcases hi with hi|hi
   ·exact .inl hi
   ·exact .inr (.inl (hN b o hi).1) }
end
theorem GP{w W:World}{g n:Nat}{os:Array Obj}{d:Array Int}(hb:Below w.heap.size w W)(hg:w.heap.size<=g):Below w.heap.size w (grow (putRow (Value.int .i64) (Sort.ahead W n) g 0 d) os):=by
 have k:=grownBy_sortedI (w:=W) (g:=g) (n:=n) (os:=os) d;refine hb.trans ⟨k.os,k.tape,k.output,k.size,λb hlt=>k.block b (Nat.lt_of_lt_of_le hlt hb.size) (λe=>?_)⟩;have:=OI e;omega
def YV(w W:World)(g cap n:Nat)(zs:List Int):Prop:=
 Below w.heap.size w W/\w.heap.size<=g/\∃ cur,W.heap[g]?=some (.cells cur 3 (0,0))/\n<=cap/\cap<=maxLen/\cur.size=cap/\cur.toList.take zs.length=zs.map (Value.int .i64)/\zs.length=n
theorem jm{w W:World}{v:Value}{n:Nat}{zs:List Int}(h:W.ownsRow w.heap.size 3 1 v n (zs.map (Value.int .i64)))(hne:v≠.slice none 0 0)(hb:Below w.heap.size w W):∃ g cap,v = .slice (some ⟨g,0,none⟩) n cap/\YV w W g cap n zs:=by
 have hl:zs.length=n:=by have:=h.1;simpa using this
 rcases h.2 with⟨rfl,_⟩|⟨g,cap,cur,rfl,hg,hcur,hcap,hmax,hsz,ht⟩
 ·exact(hne rfl).elim
 ·rw[Ug]at hsz ht;exact⟨g,cap,rfl,hb,hg,cur,hcur,hcap,hmax,hsz,by rw[hl];exact ht,hl⟩
theorem oM(ad:Addr)(c:Nat)(w:World):Calls Tryz.prog 189 #[.slice (some ad) 0 c] w λe W=>∃ g cap,e = .returned (.slice (some ⟨g,0,none⟩) 0 cap)/\YV w W g cap 0 []:=
 (Any.slices_Clone_int_zero JG ad c w).mono λe W ⟨v,he,hown,hne,hb⟩=>by
  obtain⟨g,cap,rfl,h⟩:=jm (zs:=[]) hown hne hb;exact⟨g,cap,he,h⟩
theorem sa(b off n c:Nat)(zs:List Int)(w:World)(hz:zs.length=n)(hbig:n<=17592186044416)(hc:∀ j,j<n->w.cell? ⟨b,off+j,none⟩=some (.int .i64 (zs.getD j 0))) :
  Calls Tryz.prog 189 #[.slice (some ⟨b,off,none⟩) n c] w λe W=>∃ g cap,e = .returned (.slice (some ⟨g,0,none⟩) n cap)/\YV w W g cap n zs:=
 (Any.slices_Clone_int JG b off n c zs w (by omega) (by omega) (λj hj=>hc j (by omega))).mono λe W ⟨v,he,hown,hne,hb⟩=>by
  rw[show zs.take n=zs by rw[<- hz];exact Ww ..]at hown;obtain⟨g,cap,rfl,h⟩:=jm hown hne hb;exact⟨g,cap,he,h⟩
theorem wQ{w W:World}{g cap n:Nat}{zs:List Int}(h:YV w W g cap n zs)(hbig:n<=17592186044416):Calls Tryz.prog 190 #[.slice (some ⟨g,0,none⟩) n cap] W λe W2=>e = .returned (.tuple #[])/\YV w W2 g cap n (zs.mergeSort λx y=>decide (x<=y)):=by
 obtain⟨hb,hg,cur,hcur,hcap,hmax,hsz,ht,rfl⟩:=h;refine(Any.slices_Sort_int jV g 0 cap zs W (holds_of_blockI hcur ht) (HD hcur) (by omega)).mono λe W2 ⟨he,q,os,hW⟩=>⟨he,?_⟩;subst hW;have hl:(zs.mergeSort λx y=>decide (x<=y)).length=zs.length:=List.length_mergeSort ..;have b2:=GP (n:=q) (os:=os) (d:=(zs.mergeSort λx y=>decide (x<=y)).toArray) hb hg;exact⟨b2,hg,_,heap_sortedI _ hcur,hcap,hmax,by simp[putCells,hsz],take_putCellsI cur _ (by omega),hl⟩
theorem lB{w W:World}{g cap n:Nat}{zs:List Int}(h:YV w W g cap n zs)(hbig:n<=17592186044416):Calls Tryz.prog 191 #[.slice (some ⟨g,0,none⟩) n cap] W λe W2=>e = .returned (.slice (some ⟨g,0,none⟩) (Lib.compact zs).length cap)/\YV w W2 g cap (Lib.compact zs).length (Lib.compact zs):=by
 obtain⟨hb,hg,cur,hcur,hcap,hmax,hsz,ht,rfl⟩:=h;refine(Any.slices_Compact_int WT g 0 cap zs W (holds_of_blockI hcur ht) (by omega) hcap).mono λe W2 ⟨he,q,hW⟩=>⟨he,?_⟩;subst hW;have hcl:=Lib.compact_length_le zs
 generalize Lib.compact zs=cs at hcl ⊢
 generalize hts:cs++List.replicate (zs.length-cs.length) (0:Int)=ts
 have htl:ts.length=zs.length:=by rw[<- hts,Fh,N5];omega
 have b2:=GP (n:=q) (os:=#[]) (d:=ts.toArray) hb hg;have h2:=heap_sortedI (n:=q) (os:=#[]) ts.toArray hcur;rw[grow_empty]at b2 h2;have h3:=take_putCellsI cur ts (by omega);refine⟨b2,hg,_,h2,by omega,hmax,by simp[putCells,hsz],?_,rfl⟩;have:=Bj (List.take cs.length) h3;rw[List.take_take,Nat.min_eq_left (by omega),<- List.map_take,<- hts,List.take_left' rfl]at this;rw[<- hts];exact this
def rQ(w w':World)(v:Value)(r:List Int):Prop:=
 (v = .slice none 0 0/\r=[])\/∃ g cap,v = .slice (some ⟨g,0,none⟩) r.length cap/\YV w w' g cap r.length r
set_option maxHeartbeats 4000000 in
set_option maxRecDepth 100000 in
theorem qW(a:Option Addr)(n c:Nat)(zs:List Int)(w:World)(hz:zs.length=n)(hn:a=none->n=0)(hbig:n<=17592186044416)
  (hc:0<n->∃ b off,a=some ⟨b,off,none⟩/\∀ j,j<n->w.cell? ⟨b,off+j,none⟩=some (.int .i64 (zs.getD j 0))) :
  Calls Tryz.prog 137 #[.slice a n c] w λe w'=>∃ v,e = .returned v/\Below w.heap.size w w'/\rQ w w' v (Lib.compact (zs.mergeSort λx y=>decide (x<=y))):=by
 cases a with
 | none=>
  obtain rfl:=hn rfl;obtain rfl:zs=[]:=zzL93.1 hz
  have hr:Lib.compact (([]:List Int).mergeSort λx y=>decide (x<=y))=[]:=by simp[Lib.compact,Lib.compactUpTo]
  rw[hr];have h1:Calls Tryz.prog 189 #[.slice none 0 c] w λe w'=>e = .returned (.slice none 0 0)/\w'=w:=Any.slices_Clone_int_nil JG 0 c w;have h2:Calls Tryz.prog 190 #[.slice none 0 0] w λe w'=>e = .returned (.tuple #[])/\w'=w:=Any.slices_Sort_int_none jV none 0 w;have h3:Calls Tryz.prog 191 #[.slice none 0 0] w λe w'=>e = .returned (.slice none 0 0)/\w'=w:=Any.slices_Compact_int_empty WT none 0 w
  go_enter Tryz.func137,Tryz.ntmps137
  go_wp2_with (first
   | (go_at_call 189;refine h1.mono ?_;rintro e W ⟨rfl,rfl⟩)
   | (go_at_call 190;refine h2.mono ?_;rintro e W ⟨rfl,rfl⟩)
   | (go_at_call 191;refine h3.mono ?_;rintro e W ⟨rfl,rfl⟩))
  go_ret
  exact⟨_,rfl,Below.refl _ _,.inl ⟨rfl,rfl⟩⟩
 | some ad=>
  have h1:Calls Tryz.prog 189 #[.slice (some ad) n c] w λe W=>∃ g cap,e = .returned (.slice (some ⟨g,0,none⟩) n cap)/\YV w W g cap n zs:=by
   by_cases h0:n=0
   ·subst h0;obtain rfl:zs=[]:=zzL93.1 hz;exact oM ad c w
   ·obtain⟨b,off,hab,hcell⟩:=hc (by omega);obtain rfl:=OI hab;exact sa b off n c zs w hz hbig hcell
  go_enter Tryz.func137,Tryz.ntmps137
  go_wp2_with (first
   | (go_at_call 189;refine h1.mono ?_;rintro e W ⟨g,cap,rfl,hO⟩)
   | (go_at_call 190;refine(wQ hO hbig).mono ?_;rintro e W2 ⟨rfl,hO2⟩)
   | (go_at_call 191;refine(lB hO2 hbig).mono ?_;rintro e W3 ⟨rfl,hO3⟩))
  go_ret
  exact⟨_,rfl,hO3.1,.inr ⟨_,_,rfl,hO3⟩⟩
def fj(x:Int):List Int->List Int
 | []=>[x]
 | y::l=>if x<=y then x::y::l else y::fj x l
def pA:List Int->List Int
 | []=>[]
 | x::l=>fj x (pA l)
theorem insI_perm(x:Int):∀ l,(fj x l).Perm (x::l)
 | []=>.refl _
 | y::l=>by
  unfold fj
  split
  ·exact .refl _
  ·exact((insI_perm x l).cons y).trans (.swap x y l)
theorem jQ{x:Int}:∀{l:List Int},l.Pairwise (·<=·)->(fj x l).Pairwise (·<=·)
 | [],_=>by simp[fj]
 | y::l,h=>by
  have h':=zzL75.1 h;unfold fj
  split
  ·rename_i hxy
   exact zzL75.2 ⟨λz hz=>by
    rcases zzL37.1 hz with rfl|hz
    ·exact hxy
    ·exact Int.le_trans hxy (h'.1 z hz),h⟩
  ·rename_i hxy
   refine zzL75.2 ⟨λz hz=>?_,jQ h'.2⟩;rcases zzL37.1 ((insI_perm x l).mem_iff.1 hz) with rfl|hz
   ·omega
   ·exact h'.1 z hz
theorem WS:∀ l,(pA l).Perm l
 | []=>.refl _
 | x::l=>(insI_perm x _).trans ((WS l).cons x)
theorem jS:∀ l,(pA l).Pairwise (·<=·)
 | []=>.nil
 | x::l=>jQ (jS l)
theorem jR(l:List Int):pA l=l.mergeSort λx y=>decide (x<=y):=by
 refine List.Perm.eq_of_pairwise (le:=(·<=·)) (λa b _ _ h1 h2=>Int.le_antisymm h1 h2) (jS l) ?_ ((WS l).trans (List.mergeSort_perm l _).symm);have:=List.pairwise_mergeSort (le:=λ(x y:Int)=>decide (x<=y)) (λa b c h1 h2=>by simp at *;omega) (λa b=>by simp;omega) l
 exact this.imp λh=>by simpa using h
def IF(l:List Int):Option (List Int):=Az (l.length<=17592186044416) (some (Lib.compact (pA l)))
theorem g9(l r:List Int)(h:IF l=some r):Spec Tryz.prog 137 [AV.list 1 (λx=>[.int .i64 x]) (0:Int) l .none] [] (AV.list 1 (λx=>[.int .i64 x]) (0:Int) r .none) []:=by
 obtain⟨hlen,h⟩:=Qd h;rw[jR]at h;obtain rfl:=OI h;refine⟨enters_of Tryz.func137 (by kernel_rfl) rfl,λw I θ zs hargs _ hval _=>?_⟩;obtain⟨v,rfl,hv⟩:=pz hargs;obtain⟨_,a,cap,us,rfl,hcap,hmax,hz,hnn,h1,hl,hr⟩:=hv.slice_val.slice_inv
 have hint:∀ i,i<l.length->us i = .int .i64 (l.getD i 0):=λi hi=>by
  have:=hr i 0 hi (by omega);rw[Ug,M8]at this;have h2:RepV I w (us i) (.int .i64 (l.getD i 0)):=this;exact Rep.int_inv (own:=Aj []) (θ:=θ) (.val _ _ h2)
 refine(qW a l.length cap l w rfl (λha=>by have:=hnn ha;omega) hlen (λhp=>?_)).mono λe w' ⟨v,he,hb,hout⟩=>?_
 ·obtain⟨b,rfl,hs,_,hcell⟩:=hz hp;obtain⟨blk,off,spot⟩:=b;simp only at hs hcell;subst hs;exact⟨blk,off,rfl,λj hj=>by rw[hcell j (by omega),hint j hj]⟩
 ·generalize Lib.compact (l.mergeSort λx y=>decide (x<=y))=r at hout ⊢
  rcases hout with⟨rfl,rfl⟩|⟨g,cap',rfl,_,hg,cur,hcur,hc1,hc2,hc3,htake,_⟩
  ·exact⟨_,_,θ,he,EB hb hval (N:=λ_ _=>False) (λ_ _ h=>h.elim),.val _ _ (.slice none 0 0 1 _ (λ_=>undef) (zzL6 _) (P0 _) (λh=>by cases h) (λ_=>rfl) (λj hj=>by simp at hj) (λi hi=>by cases hi) (λi c hi=>by cases hi))⟩
  ·have hcell:∀ j,j<r.length->w'.cell? ⟨g,j,none⟩=some (.int .i64 (r.getD j 0)):=λj hj=>by
    rw[M9 _ _ _ cur 3 (0,0) hcur]
    have h2:(cur.toList.take r.length)[j]?=(r.map (Value.int .i64))[j]?:=by rw[htake]
    rw[List.getElem?_take_of_lt hj,Array.getElem?_toList]at h2;rw[h2];simp[List.getD,hj]
   refine⟨_,_,θ,he,EB hb hval (N:=λb o=>b=g/\o<r.length) (λb o ⟨hbg,ho⟩=>⟨by omega,by subst hbg;exact⟨_,hcell o ho⟩⟩),.val _ _ (.slice (some ⟨g,0,none⟩) r.length cap' 1 _ (λj=>.int .i64 (r.getD j 0)) hc1 hc2 (λ_=>⟨⟨g,0,none⟩,rfl,rfl,λj hj=>.inr ⟨rfl,by simpa using hj⟩,λj hj=>by rw[E8];exact hcell j (by omega)⟩) (λh=>by cases h) (λ_ _=>rfl) (λ_ _=>rfl) (λi c hi hc=>?_))⟩
   obtain rfl:c=0:=by omega
   rw[Ug,M8];exact .int _ _
abbrev Aw:=List Int
abbrev N9:=List (List Int)
def It:=[30000,37006,9100005]
def DY:=[(30000,30000),(37006,37006),(9100005,9100005)]
def Iw:=[30000,37006]
def Sx:=[3,30000,37006,9100005]
def P5:=[2,5,6,25,36007]
def Jq:=[1,5,5003]
def Vy:=[6,30000,37006,9100005]
def Sk:=[10,30000,9100002]
def J6:=[1,3,4]
def UC:=[3,4,30000,36005,36006,9100002]
def Y8:=[(30000,30000),(37006,37006)]
def Cz:=[2,3]
def J2:=[2,13,21]
def CI:=[3,4,15,34,30000,9100002]
def Q5:=[8,30000,37006]
def L3:=[1,3,4,5]
def D7:=[1,2]
def Na:=[1,7,8,9]
def Y9:=[30000,37006,13000005]
def CN:=[3,4,15,30000,9100002]
def IJ:=[3,5,30000,37006,9100005]
def IK:=[0,4,6,21,22,30,31,32]
def S3:=[30000,9100002]
def Sj:=[1,3,4,5,6]
def Gn:=[0,1]
def EW:=[2,5,6,7,26,27,28]
def Vd:=[2,7,77,70077]
def Lg:=[37,75]
def Nb:=[0,1,5]
def Nc:=[1,5003]
def YI:=[(30000,30000),(9100002,9100002)]
def TW:=[4,5,9,29,57,5902,30000]
def MP:=[5,30000,37006,9100005]
def kB:=[0,2,3,8,9,16,17,18,54,55,56,62,63,64]
def kC:=[0,2,3,5,16,17,18,24,25,26,31,32,33]
def S4:=[1,6,5003]
def MQ:=[0,4,5,9,68,69,70]
def Lw:=[3,14]
def TX:=[0,3,4,5,6,12,13,14]
def MR:=[3,4,5,6,29,30000]
def EX:=[2,5,6,7,8,9]
def Za:=[1,2,7,5005]
def TY:=[1,2,4,5,6,7,8,10]
def YJ:=[3,9,30000,37006,9100005]
def Ve:=[2,3,6,7]
def CO:=[3,10,11,12]
def CP:=[2,5,6,7,8]
def eS:=[0,2,3,16,17,18,24,25,26]
def eT:=[0,2,3,16,17,18,54,55,56]
def Ui:=[2,33,59]
def S5:=[3,6,11]
def q9:=[(30000,30000),(37006,37006),(13000005,9200005)]
def L4:=[1,3]
def W4:=[0,1,5,6]
def rA:=[(30000,30000),(37006,37006),(9300005,9200005)]
def Vf:=[10,70010]
def TZ:=[1,2,7,5005,5008]
def S6:=[0,3,4]
def MS:=[1,5,11,12,13]
def MT:=[1,5,7,11,12]
def kD:=[4,5,9,11,29,57,5902,30000]
def UA:=[2,35,37,46,51]
def kE:=[3,4,6,14,15,16,21,22,23]
def kF:=[3,4,6,14,15,16,33,34,35]
def MU:=[1,7,8,9,10]
def YK:=[3,31,30000,37006]
def YL:=[1,5,7,11,12,13]
def IL:=[30000,35000]
def YM:=[3,4,5,14,15,16]
def eU:=[1,2,5,6,7,8,9,10]
def MV:=[1,6,7,8,9]
def kG:=[3,4,11,12,13,18,19,20]
def kH:=[0,5,12,13,14,18,19,20]
def P1:=[1,4]
def W5:=[2,5,6]
def W6:=[1,4,7]
def kI:=[6,7,30000,37006,9100005]
def kJ:=[1,5,7,11,12,13,14,15]
def UB:=[1,7,8,9,16]
def EY:=[0,21,22]
def eV:=[3,4,30000,9100002]
def Rh:=[0,3]
def YN:=[31,30000,37006]
def IM:=[1,3,5,6]
def IP:=[0,1,7,8]
def YO:=[1,2,5,6,7,8]
def kK:=[0,3,4,5,8,36,37,38]
def kL:=[0,3,4,5,6,33,34,35]
def eW:=[0,2,3,16,17,18]
def eX:=[3,4,6,14,15,16]
def MW:=[33,59,103]
def rB:=[0,3,4,5,8,9,10,36,37,38]
def CQ:=[1,2,5]
def rC:=[0,4,6,21,22,30,31,32,33]
def rD:=[0,4,6,21,22,30,31,32,40]
def u7:=[(30000,30000),(9100002,9100002),(10,20000)]
def YP:=[0,5,8,9,10]
def rE:=[0,4,6,8,21,22,30,31,32]
def YQ:=[1,5,72,5003]
def kM:=[0,3,4,5,17,18,19]
def ST:=[2,3,7,8,9,10]
def SU:=[1,2,6,8,9,10]
def hZ:=[(30000,30000),(29,9100002)]
def ql:=[(30000,30000),(37006,37006),(8,9200005)]
def bO:=[1,3,4,5,9,10,11]
def FX:=[1,3,7,17]
def Ym:=[0,1,10]
def KQ:=[0,16,17,18]
def SV:=[0,2,4,7,8,9]
def KR:=[1,2,4,5,6]
def KS:=[1,5,7,5003]
def SW:=[3,4,14,15,16]
def bP:=[2,5,6,7,8,9,10]
def h9:=[6,8,30000,37006,9100005]
def SX:=[3,30000,37006]
def SY:=[0,3,9,10,11]
def bQ:=[2,4,5,18,19,20]
def bR:=[1,3,4,5,6,7,8]
def FY:=[4,5,5502]
def SZ:=[(34000,34000)]
def CH:=[10,5003]
def TA:=[3,11,12,13]
def TB:=[0,12,13,14]
def TC:=[0,1,6,7,8]
def TD:=[6,18,19,25]
def TE:=[0,2,4,7,8]
def TF:=[2,3,7,8,9]
def TG:=[1,3,5,6,7]
def TH:=[1,3,5,6,8]
def TI:=[1,3,4,5,9]
def iA:=[1,5,7,11,12,13,14]
def TJ:=[4,15,16,17]
def TK:=[0,3,4,5,6]
def KT:=[2,5,6,7]
def KU:=[18,19,20]
def iB:=[1,2,4,5,6,7,8,9]
def CJ:=[1,2,6]
def CK:=[2,3,5]
def iC:=[3,4,5,7,14,15,16]
def Vx:=[2,16]
def qm:=[2,5,6,7,9,10,26,27,28,44]
def FZ:=[1,4,22]
def GA:=[1,3,17]
def TL:=[5,7,12,13]
def iD:=[30000,37006,9300005]
def qn:=[3,4,10,15,34,30000,9100002]
def Uh:=[2,5]
def KV:=[2,35,37]
def qo:=[0,3,4,5,6,7,8,12,13,14]
def bS:=[0,1,3,9,10]
def iE:=[0,1,5,14,15,16]
def iF:=[1,2,4,5,6,7,8]
def GB:=[1,2,3]
def qp:=[2,5,6,7,9,10,26,27,28]
def bT:=[(6004,20000)]
def TM:=[0,1,6,7]
def bU:=[0,15,16,17]
def bV:=[0,21,22,23]
def TN:=[0,2,4,5]
def TO:=[1,2,5005]
def TP:=[2,3,7,8]
def bW:=[(5003,20000)]
def bX:=[6,25,26,27]
def qq:=[(36005,34000),(31,34002)]
def qr:=[(36006,34000),(42,34002)]
def iG:=[0,1,5,7,8,16]
def iH:=[2,3,5,6,7,11]
def qs:=[2,5,6,7,26,27,28,29]
def CL:=[2,33]
def CM:=[3,11]
def TQ:=[5,18,19]
def TR:=[6,18,19]
def iI:=[1,2,15,16,17]
def qt:=[2,5,6,7,9,26,27,28]
def iJ:=[0,1,32,33,34]
def qu:=[10,30000,37006,9100005]
def KW:=[1,3,5]
def iK:=[1,3,5,6,7,8]
def iL:=[2,3,5,6,7,8]
def bY:=[2,5,6,25]
def qv:=[2,5,6,7,8,9,10,60]
def qw:=[4,30000,37006,9100005]
def bZ:=[1,2,3,14]
def iM:=[0,3,4,14,15]
def iN:=[0,4,6,21,22]
def TS:=[1,2,11]
def ba:=[0,2,7,8]
def iO:=[(34001,34001)]
def KY:=[18,19]
def bb:=[1,3,4,6]
def qx:=[2,7,77,60077,70077]
def KZ:=[15,18]
def bc:=[0,3,4,5]
def qy:=[4,5,9,29,57,30000]
def be:=[1,2,3,4]
def bf:=[1,5,6,7]
def qz:=[4,9,29,5902,30000]
def iP:=[1,23,24,25]
def TT:=[0,1,2]
def iQ:=[1,2,5,6,7]
def TU:=[0,2,7]
def iR:=[3,38,39,40]
def iS:=[0,37,38,39]
def iT:=[0,1,7,8,9]
def iU:=[0,1,5,7,8]
def iV:=[0,2,4,5,6]
def iW:=[2,35,37,46]
def TV:=[2,5,7]
def iX:=[0,3,4,5,8]
def iY:=[2,3,5,6,7]
def iZ:=[0,1,12,13]
def ia:=[0,6,21,22]
def q8:=[(9200002,10001102)]
def bg:=[7,34000]
set_option maxRecDepth 100000
set_option maxHeartbeats 2000000
def Aq(x:Int):List AV:=[.int .i64 x]
def Lc(x:Aw):List AV:=[AV.list 1 Aq 0 x .none]
structure Bc where
 Bits:Int
 Dst:Int
 From:Aw
 Args:Aw
 deriving Inhabited,DecidableEq
def El(x:Bc):List AV:=[.int .i64 x.Bits,.int .i64 x.Dst,AV.list 1 Aq 0 x.From .none,AV.list 1 Aq 0 x.Args .none]
def wW(x:List Bc):List AV:=[AV.list 4 El default x .none]
def Aao(x:Int):List AV:=[.int .u64 x]
structure Bz where
 Kind:Int
 Bits:Int
 Lanes:Int
 Dst:Int
 Args:Aw
 Imm:Int
 deriving Inhabited,DecidableEq
def Lh(x:Bz):List AV:=[.int .i64 x.Kind,.int .i64 x.Bits,.int .i64 x.Lanes,.int .i64 x.Dst,AV.list 1 Aq 0 x.Args .none,.int .u64 x.Imm]
def WI(x:List Bz):List AV:=[AV.list 6 Lh default x .none]
structure On where
 Kind:Int
 Arg:Int
 To:Aw
 deriving Inhabited,DecidableEq
def jK(x:On):List AV:=[.int .i64 x.Kind,.int .i64 x.Arg,AV.list 1 Aq 0 x.To .none]
structure Ae where
 Phis:List Bc
 Ops:List Bz
 End:On
 deriving Inhabited,DecidableEq
def Cj(x:Ae):List AV:=[AV.list 4 El default x.Phis .none,AV.list 6 Lh default x.Ops .none,.int .i64 x.End.Kind,.int .i64 x.End.Arg,AV.list 1 Aq 0 x.End.To .none]
def oe(x:List Ae):List AV:=[AV.list 5 Cj default x .none]
structure TFunc where
 Params:Aw
 Ret:Int
 Blocks:List Ae
 deriving Inhabited,DecidableEq
def eTFunc(x:TFunc):List AV:=[AV.list 1 Aq 0 x.Params .none,.int .i64 x.Ret,AV.list 5 Cj default x.Blocks .none]
structure nR where
 At:Int
 Then:Int
 Else:Int
 Join:Int
 deriving Inhabited,DecidableEq
abbrev J5:=(Int×Int)
def Bq(x:J5):List AV:=[.int .i64 x.1,.int .i64 x.2]
structure P9 where
 block:Int
 at_:Int
 deriving Inhabited,DecidableEq
def NY(x:P9):List AV:=[.int .i64 x.block,.int .i64 x.at_]
structure Bk where
 v:Int
 shape:J5
 place:P9
 deriving Inhabited,DecidableEq
def Oi(x:Bk):List AV:=[.int .i64 x.v,.int .i64 x.shape.1,.int .i64 x.shape.2,.int .i64 x.place.block,.int .i64 x.place.at_]
structure TGraph where
 Succ:N9
 Pred:N9
 deriving Inhabited,DecidableEq
def Xg(x:TGraph):List AV:=[AV.list 1 Lc [] x.Succ .none,AV.list 1 Lc [] x.Pred .none]
def eB(x:Bool):List AV:=[.bool x]
structure Ay where
 shape:J5
 place:P9
 deriving Inhabited,DecidableEq
def jL(x:Ay):List AV:=[.int .i64 x.shape.1,.int .i64 x.shape.2,.int .i64 x.place.block,.int .i64 x.place.at_]
structure Aaa where
 f:TFunc
 h:nR
 ops:List Bz
 last:Int
 deriving Inhabited,DecidableEq
structure Cg where
 V:Int
 Block:Int
 At:Int
 Shape:J5
 deriving Inhabited,DecidableEq
def Pq(x:Cg):List AV:=[.int .i64 x.V,.int .i64 x.Block,.int .i64 x.At,.int .i64 x.Shape.1,.int .i64 x.Shape.2]
structure D2 where
 V:Int
 Block:Int
 At:Int
 Shape:J5
 deriving Inhabited,DecidableEq
def Oy(x:D2):List AV:=[.int .i64 x.V,.int .i64 x.Block,.int .i64 x.At,.int .i64 x.Shape.1,.int .i64 x.Shape.2]
def ZK(x:List Bool):List AV:=[AV.list 1 eB false x .none]
structure VU where
 x:Int
 y:Int
 became:List J5
 deriving Inhabited,DecidableEq
structure Aax where
 Args:Aw
 Mem:Aw
 Fuel:Int
 deriving Inhabited,DecidableEq
structure vp where
 Write:Bool
 At:Int
 Byte:Int
 deriving Inhabited,DecidableEq
structure Aa0 where
 bytes:Aw
 trace:List vp
 deriving Inhabited,DecidableEq
structure Aa1 where
 Code:Int
 Value:Int
 Steps:Int
 deriving Inhabited,DecidableEq
theorem mix:Tryz.prog.follows .mixedOrders=true:=by kernel_rfl
abbrev sP:=Spec Tryz.prog
abbrev OK:=(Nat×Own)
theorem sG {f : FuncId} {fn : Func} {args : List AV} {H H' : List OK} {res : AV} (hf : Tryz.prog.funcs[f]? = some fn) (k : ∀ Γ : H3, RgQ Tryz.prog Γ fn.ntmps H → GG Tryz.prog Γ (fK Tryz.prog Γ fn.results.toList H res H') (uu (ZF fn) []) (JE args H)) (hb : fn.body.isSome = true := by kernel_rfl) (hname : (fn.name == "runtime.NumGoroutine") = false := by kernel_rfl) (hlen : Nat.ble args.length fn.ntmps = true := by kernel_rfl) (hpl : RH H = true := by kernel_rfl) : sP f args H res H' := KA mix hf k hb hname hlen hpl
def Z1:=λza zb zc zd zf zg zm=>((30000,.row 102 [(AV.list 1 Aq 0 za .none),(.int .i64 zb),(AV.list 5 Cj default zc .none),(.int .i64 zd),(AV.list 1 Aq 0 zf .none),(.omap zg),(AV.list 5 Oi default zm (.own 37006))]):Nat×Own)
def Z2:=λza=>(⟨[],[],(.bool za),[],[],[]⟩:Vg)
def Z3:=λza zb zc zd zf zg zm=>([(30000,.row 102 [(AV.list 1 Aq 0 za .none),(.int .i64 zb),(AV.list 5 Cj default zc .none),(.int .i64 zd),(AV.list 1 Aq 0 zf .none),.nilm,(AV.list 5 Oi default zg (.own 37006))]),(37006,.tok 5 211 zm)]:List OK)
def Z4:=λza (zb:Aw)=>((za,.arr 1 3 zb.length (λi=>Aq (zb.getD i 0))):Nat×Own)
def Z5:=λza=>((.int .i64 za):AV)
def Z6:=λza=>((AV.list 1 Aq 0 za .none):AV)
def Z7:=λza=>((AV.list 2 Bq ((0:Int),(0:Int)) za .none):AV)
def Z8:=λza zb zc=>((30000,.row 137 [(Z5 za),(Z5 zb),(.omap zc)]):Nat×Own)
def Z9:=λza (zb:List Bool)=>((za,.arr 1 4 zb.length (λi=>eB (zb.getD i false))):Nat×Own)
def yS:=λza zb zc zd zf zg zm zn=>([(Z1 za zb zc zd zf 9100005 zg),(37006,.tok 5 211 zm),(9100005,.obj (.map false .i64 zn))]:List OK)
def b6:=λza zb zc zd=>((za,.arr 1 22 zb (Ot 1 Aq (0:Int) zc (Tag.fam zd))):Nat×Own)
def L5:=((.int .i64 (0:Int)):AV)
def YZ:=λza zb zc zd zf zg zm=>([(Z1 za zb zc zd zf 9100005 zg),(37006,.tok 5 211 zm)]:List OK)
def Zx:=((.slice 0 0 (λ_=>[]) .exact):AV)
def fG:=((AV.list 1 Aq 0 ([]:Aw) .exact):AV)
def yT:=λza zb zc zd zf zg=>((30000,.row 102 [(Z6 za),(Z5 zb),(AV.list 5 Cj default zc .none),(Z5 zd),(Z6 zf),(.omap 8),(AV.list 5 Oi default zg (.own 37006))]):Nat×Own)
def Vz:=λza zb=>((AV.list 1 Aq 0 za (.own zb)):AV)
def fH:=λza (zb:List Bz)=>((za,.arr 6 70 zb.length (λi=>Lh (zb.getD i default))):Nat×Own)
def NN:=λza zb=>((AV.list 1 eB false za (.own zb)):AV)
def UE:=λza=>((AV.list 5 Cj default za .none):AV)
def nT:=λza (zb:List Bc)=>([(za,.arr 4 67 zb.length (λi=>El (zb.getD i default)))]:List OK)
def mW:=λza=>((3,(AV.list 5 Oy default za (.own 5003))):Nat×AV)
def Z23:=λza (zb:Aw) (zc:Aw)=>((.slice 1 (bif za then zb.length else zc.length) (λi=>bif za then Aq (zb.getD i 0) else Aq (zc.getD i 0)) .none):AV)
def yU:=λza zb zc zd=>(⟨[(30000,30000),(9100002,9100002)],[],(Z5 za),[(Z8 zb zc 9100002),(9100002,.obj (.map true .i64 zd))],[],[30000,9100002]⟩:Vg)
def NO:=λza=>((AV.list 1 Lc [] za .none):AV)
def V0:=λza=>((.agg (eTFunc za)):AV)
def Xa:=λza=>((.agg (jL za)):AV)
def vt:=λza zb zc zd zf=>((37,.arr 1 81 za (λi_=>AV.eraseAll zb ((Fd zc zd 0 [(.vsl 46 zf)]) i_))):Nat×Own)
def yV:=λza zb zc zd zf zg zm zn=>(⟨[(30000,30000),(37006,37006),(9100005,9100005)],[],(.tuple []),(yS za zb zc zd zf zg zm zn),[],[]⟩:Vg)
def uf:=λza=>((AV.list 1 Aq 0 ([za]:Aw) .exact):AV)
def UF:=λza=>(⟨[],[],(Z5 za),[],[],[]⟩:Vg)
def UQ:=λza zb=>((za,.obj (.map true .i64 zb)):Nat×Own)
def Z33:=(⟨[(4,(AV.list 1 Aq 0 ([]:Aw) (.own 6004)))],[(6004,.tok 1 3 (([]:Aw).length))],[]⟩:St)
abbrev MM:=(Nat×AV)
def Z34:=λza zb zc zd=>([(za,(AV.list 5 Oy default zb .exact)),(zc,(AV.list 5 Oy default (zd++zb) (.own 5003)))]:List MM)
def sL:=λza=>((3,(AV.list 5 Pq default za (.own 5003))):Nat×AV)
def yW:=((AV.list 2 Bq ((0:Int),(0:Int)) ([]:List J5) .exact):AV)
def Uj:=((2,(.ptr 2 0)):Nat×AV)
def Z38:=λza (zb:List Bk) (zc:List Bk)=>((.slice 5 (bif za then zb.length else zc.length) (λi=>bif za then Oi (zb.getD i default) else Oi (zc.getD i default)) (.own 37006)):AV)
def bh:=λza zb=>((za,(.int .i64 (zb:Int))):Nat×AV)
def vu:=λza zb=>((AV.list 2 Bq ((0:Int),(0:Int)) za (.own zb)):AV)
def ug:=λza zb=>((.agg (jL (Fy (default:Ay) za zb))):AV)
def CR:=((1,(.ptr 1 0)):Nat×AV)
def xK:=λza zb zc=>(⟨[],[(20000,za)],(Vz zb 20000),[(20000,.tok 1 3 zc)],[],[]⟩:Vg)
def yX:=λza zb=>([(30000,.row 81 [(.vsl 35000 za)]),(Z9 35000 zb)]:List OK)
def xL:=((AV.list 1 Lc [] ([]:N9) .exact):AV)
def Q6:=λza zb=>((za,.tok 1 4 zb):Nat×Own)
def Li:=λza zb zc=>((za,.tok 5 zb zc):Nat×Own)
def kv:=λza=>(⟨[],[],(Z7 za),[],[],[]⟩:Vg)
def rJ:=λza zb=>((AV.list 1 Lc [] za (.own zb)):AV)
def rK:=λza zb=>([(.agg (Xg za)),(Z5 zb)]:List AV)
def nU:=λza=>(⟨[],[],(V0 za),[],[],[]⟩:Vg)
def Vi:=λza zb=>((7,(.vsl za zb)):Nat×AV)
def Z53:=λza zb zc zd=>([(za,(AV.list 5 Pq default zb .exact)),(zc,(AV.list 5 Pq default (zd++zb) (.own 5003)))]:List MM)
def nV:=λza zb=>((7,.row 56 [za,(.vsl 77 zb)]):Nat×Own)
def yY:=λza zb zc zd zf zg=>((1,.row 70 [(Z5 za),(Z5 zb),(Z5 zc),(Z5 zd),(Z6 zf),(.int .u64 zg)]):Nat×Own)
def Z56:=λza zb zc zd zf=>([(za,(AV.list 5 Cj default zb .exact)),(zc,(AV.list 5 Cj default (zd++zb) (.own zf)))]:List MM)
def xM:=λza zb zc=>(⟨[],[(20000,za)],(NN zb 20000),[(Q6 20000 zc)],[],[]⟩:Vg)
def yZ:=((AV.list 6 Lh default ([]:List Bz) .exact):AV)
def vv:=λza zb=>([(3,.row 81 [(.vsl 11 za)]),(Z9 11 zb)]:List OK)
def ZA:=((4,(.ptr 4 0)):Nat×AV)
def Z61:=λza (zb:List Ae) (zc:List Ae)=>((.slice 5 (bif za then zb.length else zc.length) (λi=>bif za then Cj (zb.getD i default) else Cj (zc.getD i default)) .none):AV)
def ya:=λ(za:Aw)=>((6,.arr 1 231 64 (λi=>Aq (za.getD i 0))):Nat×Own)
def Z63:=λza zb zc zd zf zg zm zn zp=>(⟨[(30000,30000),(37006,37006),(9100005,9100005)],[],(.agg (NY za)),(yS zb zc zd zf zg zm zn zp),[],[]⟩:Vg)
def mX:=λza=>((2,.row 56 [za,za]):Nat×Own)
def Yp:=λza zb=>((za,.tok 1 3 zb):Nat×Own)
def wA:=λza zb=>((AV.list 5 Cj default za (.own zb)):AV)
def Z67:=λza (zb:Aw) (zc:Aw)=>((.slice 1 (bif (za==true) then zb.length else zc.length) (λi=>bif (za==true) then Aq (zb.getD i 0) else Aq (zc.getD i 0)) .none):AV)
def Z68:=λza zb zc zd zf zg zm zn=>(⟨[(30000,30000),(37006,37006)],[],(.bool za),(Z3 zb zc zd zf zg zm zn),[],[]⟩:Vg)
def Z69:=(⟨[(2,(AV.list 2 Bq ((0:Int),(0:Int)) ([]:List J5) (.own 6002)))],[(6002,.tok 2 90 (([]:List J5).length))],[]⟩:St)
def Pp:=λza zb=>((2,.row za zb):Nat×Own)
def xN:=λza zb=>(⟨[],[],(.tuple (rK za zb)),[],[],[]⟩:Vg)
def wB:=λza zb=>((AV.list 6 Lh default za (.own zb)):AV)
def Z73:=λza=>((za,.arr 1 3 (([]:Aw).length) (λi=>Aq (([]:Aw).getD i 0))):Nat×Own)
def Z74:=λza zb zc=>([(za,.arr 1 3 zb (λi=>Aq ((List.replicate (zc:Int).toNat (0:Int)).getD i 0)))]:List OK)
def Z75:=λ(za:List J5)=>([(30,.arr 2 90 za.length (λi=>Bq (za.getD i ((0:Int),(0:Int)))))]:List OK)
def uh:=λza zb zc=>((.int .i64 (bif za then zb else zc)):AV)
def Z77:=λza zb zc=>((.agg [za,(.int .i64 (8:Int)),zb,(.int .i64 (2:Int)),zc,(.int .u64 (8:Int))]):AV)
def nW:=((6,(.vpt 6 64 0 0)):Nat×AV)
def ed:=((5,(.ptr 5 0)):Nat×AV)
def Z80:=((AV.list 1 Aq 0 ([(1:Int)]:Aw) .exact):AV)
def Z81:=λza zb zc zd zf zg=>(⟨[(30000,30000),(9100002,9100002)],[(20000,za)],(Vz zb 20000),[(Z8 zc zd 9100002),(UQ 9100002 zf),(Yp 20000 zg)],[],[30000,9100002]⟩:Vg)
def Z82:=λza zb zc zd zf zg zm zn zp=>(⟨[(30000,30000),(37006,37006),(9100005,9100005)],[],(.bool za),(yS zb zc zd zf zg zm zn zp),[],[]⟩:Vg)
def Z83:=((AV.list 1 Lc [] ([]:N9) .none):AV)
def VV:=λza=>((.agg (Lh za)):AV)
def xO:=λza=>((AV.list 4 El default za .none):AV)
def yb:=λza=>(⟨[],[],(.agg (Bq za)),[],[],[]⟩:Vg)
def nX:=((5,(.vpt 5 64 0 0)):Nat×AV)
def mY:=λza=>((0,(.vsl 34000 za)):Nat×AV)
def xP:=λza=>((AV.list 6 Lh default za .none):AV)
def wC:=λza zb=>([(.int .u64 za),(.int .u64 zb)]:List AV)
def ui:=((.int .i64 (1:Int)):AV)
def Z92:=λza zb=>(⟨[],[],(.tuple [(Z5 za),(Z5 zb)]),[],[],[]⟩:Vg)
def Z93:=λza zb=>(⟨[(3,30000),(11,35000)],[],(.tuple []),(yX za zb),[],[]⟩:Vg)
def mZ:=λza=>((6,.arr 1 231 64 za):Nat×Own)
def nY:=([(.ptr 30000 0)]:List AV)
def Z96:=λza=>((AV.list 1 Aq 0 ([]:Aw) (.own za)):AV)
def Z97:=λza zb zc=>((.agg [za,(.int .i64 (8:Int)),zb,zb,zc,(.int .u64 (7:Int))]):AV)
def yc:=λza zb zc zd=>((37,.arr 1 81 za (Fd zb zc 0 [(.vsl 46 zd)])):Nat×Own)
def yd:=λza zb zc=>([(za,.row 137 [(Z5 zb),(Z5 zc),.nilm])]:List OK)
def vq:=λza zb=>(⟨[(30000,30000),(37006,37006)],[],(Z5 za),zb,[],[]⟩:Vg)
def vr:=λza zb zc zd zf=>([(za,(uf zb)),(zc,(AV.list 1 Aq 0 (zd++([zb]:Aw)) (.own zf)))]:List MM)
def bx:=λza zb zc=>([(Z5 za),(Z5 zb),(.omap zc)]:List AV)
def OR:=λza=>((5,.arr 1 230 64 za):Nat×Own)
def bz:=((0,(.ptr 30000 0)):Nat×AV)
def Vh:=λza zb=>((5,(.vsl za zb)):Nat×AV)

abbrev uS:=(LR (Int×Int) Int)
def Qj(a0:TFunc):J5->Option uS:=
 λ(i1,i2)=>bif decide (i2<a0.Blocks.length) then Az (A2 i2 a0.Blocks.length) (some (.next (w64 (i1+w64 ((a0.Blocks.getD i2.toNat default).Phis.length+(a0.Blocks.getD i2.toNat default).Ops.length)),w64 (i2+1)))) else some (.done i1)
def Ha(a0:TFunc):Option Int:=
 (Ac   (Qj a0) (a0.Blocks.length,0)).bind λx5=>some x5
variable{v0:TFunc}{v1:Int}
theorem Qw(h:Ha v0=some v1):sP 49 [(V0 v0)] [] (.int .i64 v1) []:=
 sG Tryz.func49 λΓ q=>tW q [1] [1] L4 [1] (Af q CO [] (tL q h CO [] (λu (i1,i2)=>(Cp u [(3,(Z5 i1)),(12,(Z5 i2))] [])) (λu i3=>aG Γ (.exit 0) (⟨[(3,(Z5 i3))],[],[]⟩:St)) (λ⟨i1,i2⟩ y h=>Af q [3,10,11,12,13] [] (gC h (λh=>tV q [3,5,10,11,12] [5] h λh=>tW q CO [] CO [] (tN h)) λh=>tS h (gO (Be (Bi [3] [] q))))) λx5 h=>gA (Af q [2] [] (tS h (Cc [])))))
def Kh(aA:Aw):Int->Option (LR Int (Unit ⊕ Bool)):=
 λi1=>bif decide (i1<aA.length) then Az (A2 i1 aA.length) (bif bif decide (aA.getD i1.toNat 0<0) then true else decide (2147483647<aA.getD i1.toNat 0) then some (.done (.inr false)) else some (.next (w64 (i1+1)))) else some (.done (.inl ()))
def GE(Γ:H3)(aA:Aw)(r:Bool):Exit->St->Prop:=fK Tryz.prog Γ Tryz.f181.results.toList [] (.bool r) []
def Eb(aA:Aw):Option Bool:=
 (Ac   (Kh aA) 0).bind λx3=>match x3 with | .inl _=>some true | .inr r5=>some r5
variable{v2:Aw}{v3:Bool}
theorem Ht(h:Eb v2=some v3):sP 181 [(Z6 v2)] [] (.bool v3) []:=
 sG Tryz.func181 λΓ q=>tW q [0] [] [5,6,7] [] (tL q h [5,6,7] [] (λu i1=>(Cp u [(7,(Z5 i1))] [])) (λu x_=>match x_ with|(.inl _)=>aG Γ (.exit 0) (⟨[],[],[]⟩:St)|(.inr r_)=>aR (GE Γ v2 r_)) (λi1 y h=>Af q [5,6,7,8] [] (gC h (λh=>tV q [4,5,6,7] [] h λh=>tU q [5,6,7,16] [] (c2 (gI ((decide ((v2.getD i1.toNat 0)<0))==false)) (Lx (decide ((v2.getD i1.toNat 0)<0)))) (gC h (λh=>Af q [2] [] (tS h (gO (Lj (H4 [] (Le.refl _ _)))))) λh=>Af q [5,6,7] [] (tN h))) λh=>tS h (gO (Be (Bi [] [] q))))) λx3 h=>(match x3,h with | .inl _,h=>gA (Af q [2] [] (tS h (Cc []))) | .inr r5,h=>Oz (λst' hk=>tS h (gK hk))))
def Ip(aA:Aw):Option Bool:=
 (bif decide (aA.length<=(64:Int))==true then Eb aA else some false).bind λx1=>some (bif decide (aA.length<=(64:Int)) then x1 else false)
theorem Of(h:Ip v2=some v3):sP 263 [(Z6 v2)] [] (.bool v3) []:=
 sG Tryz.func263 λΓ q=>Af q [0] [] (tB h λx1 y1 h=>tT q [2] [] [(Z2 x1)] (c3 (gI ((decide ((v2.length:Int)<=64))==true)) (λ(hg:((decide ((v2.length:Int)<=64))==true)=true)=>(Ht (Bf hg y1))) (Nd (decide ((v2.length:Int)<=64)))) (tS h (Cc [])))
def Ql(aV:Bc):Option Bool:=
 (Eb [aV.Bits,aV.Dst]).bind λx1=>(bif x1==true then Ip aV.From else some false).bind λx2=>(bif (bif x1 then x2 else false)==true then Ip aV.Args else some false).bind λx3=>some (bif bif x1 then x2 else false then x3 else false)
variable{v4:Bc}
theorem NG(h:Ql v4=some v3):sP 227 [(.agg (El v4))] [] (.bool v3) []:=
 sG Tryz.func227 λΓ q=>Af q [1] [1] (tB h λx1 y1 h=>tB h λx2 y2 h=>tB h λx3 y3 h=>gR q [2] [] [(7,(AV.list 1 Aq 0 ([v4.Bits,v4.Dst]:Aw) .exact))] [(Z2 x1),(Z2 x2),(Z2 x3)] (fb (Br 1 Aq (0:Int) ([v4.Bits,v4.Dst]:Aw)) (Ht y1) (Mr (x1==true) (fb (λ(hg:(x1==true)=true)=>(Of (Bf hg y2))) (Nd x1) (Mr ((bif x1 then x2 else false)==true) (c2 (λ(hg:((bif x1 then x2 else false)==true)=true)=>(Of (Bf hg y3))) (Nd (bif x1 then x2 else false))))))) (tS h (Cc [])))
def Hw(aA:List Bc):Int->Option (LR Int (Unit ⊕ Bool)):=
 λi1=>bif decide (i1<aA.length) then Az (A2 i1 aA.length) ((Ql (aA.getD i1.toNat default)).bind λx3=>bif !x3 then some (.done (.inr false)) else some (.next (w64 (i1+1)))) else some (.done (.inl ()))
def Zc(Γ:H3)(aA:List Bc)(r:Bool):Exit->St->Prop:=fK Tryz.prog Γ Tryz.f226.results.toList [] (.bool r) []
def Jv(aA:List Bc):Option Bool:=
 (Ac   (Hw aA) 0).bind λx4=>match x4 with | .inl _=>some true | .inr r6=>some r6
variable{v5:List Bc}
theorem X0(h:Jv v5=some v3):sP 226 [(xO v5),(.clo 227 [] [])] [] (.bool v3) []:=
 sG Tryz.func226 λΓ q=>tW q Gn [] Na [] (tL q h Na [] (λu i1=>(Cp u [(9,(Z5 i1))] [])) (λu x_=>match x_ with|(.inl _)=>aG Γ (.exit 0) (⟨[],[],[]⟩:St)|(.inr r_)=>aR (Zc Γ v5 r_)) (λi1 y h=>Af q MU [] (gC h (λh=>tV q MV [6] h λh=>tB h λx3 y3 h=>tT q UB [] [(Z2 x3)] (c1 (NG y3)) (gC h (λh=>Af q [4] [] (tS h (gO (Lj (H4 [] (Le.refl _ _)))))) λh=>Af q Na [] (tN h))) λh=>tS h (gO (Be (Bi [] [] q))))) λx4 h=>(match x4,h with | .inl _,h=>gA (Af q [4] [] (tS h (Cc []))) | .inr r6,h=>Oz (λst' hk=>tS h (gK hk))))
def R0(a1:Bz):Option Bool:=
 (Eb [a1.Kind,a1.Bits,a1.Lanes,a1.Dst]).bind λx1=>(bif x1==true then Ip a1.Args else some false).bind λx2=>some (bif x1 then x2 else false)
variable{v6:Bz}
theorem QU(h:R0 v6=some v3):sP 229 [(VV v6)] [] (.bool v3) []:=
 sG Tryz.func229 λΓ q=>Af q [1] [1] (tB h λx1 y1 h=>tB h λx2 y2 h=>gR q [2] [] [(11,(AV.list 1 Aq 0 ([v6.Kind,v6.Bits,v6.Lanes,v6.Dst]:Aw) .exact))] [(Z2 x1),(Z2 x2)] (fb (Br 1 Aq (0:Int) ([v6.Kind,v6.Bits,v6.Lanes,v6.Dst]:Aw)) (Ht y1) (Mr (x1==true) (c2 (λ(hg:(x1==true)=true)=>(Of (Bf hg y2))) (Nd x1)))) (tS h (Cc [])))
def Ic(aA:List Bz):Int->Option (LR Int (Unit ⊕ Bool)):=
 λi1=>bif decide (i1<aA.length) then Az (A2 i1 aA.length) ((R0 (aA.getD i1.toNat default)).bind λx3=>bif !x3 then some (.done (.inr false)) else some (.next (w64 (i1+1)))) else some (.done (.inl ()))
def Z0(Γ:H3)(aA:List Bz)(r:Bool):Exit->St->Prop:=fK Tryz.prog Γ Tryz.f228.results.toList [] (.bool r) []
def Kg(aA:List Bz):Option Bool:=
 (Ac   (Ic aA) 0).bind λx4=>match x4 with | .inl _=>some true | .inr r6=>some r6
variable{v7:List Bz}
theorem Zk(h:Kg v7=some v3):sP 228 [(xP v7),(.clo 229 [] [])] [] (.bool v3) []:=
 sG Tryz.func228 λΓ q=>tW q Gn [] Na [] (tL q h Na [] (λu i1=>(Cp u [(9,(Z5 i1))] [])) (λu x_=>match x_ with|(.inl _)=>aG Γ (.exit 0) (⟨[],[],[]⟩:St)|(.inr r_)=>aR (Z0 Γ v7 r_)) (λi1 y h=>Af q MU [] (gC h (λh=>tV q MV [6] h λh=>tB h λx3 y3 h=>tT q UB [] [(Z2 x3)] (c1 (QU y3)) (gC h (λh=>Af q [4] [] (tS h (gO (Lj (H4 [] (Le.refl _ _)))))) λh=>Af q Na [] (tN h))) λh=>tS h (gO (Be (Bi [] [] q))))) λx4 h=>(match x4,h with | .inl _,h=>gA (Af q [4] [] (tS h (Cc []))) | .inr r6,h=>Oz (λst' hk=>tS h (gK hk))))
def Qk(aK:On):Option Bool:=
 (Eb [aK.Kind,aK.Arg]).bind λx1=>(bif x1==true then Ip aK.To else some false).bind λx2=>some (bif x1 then x2 else false)
variable{v8:On}
theorem NF(h:Qk v8=some v3):sP 230 [(.agg (jK v8))] [] (.bool v3) []:=
 sG Tryz.func230 λΓ q=>Af q [1] [1] (tB h λx1 y1 h=>tB h λx2 y2 h=>gR q [2] [] [(7,(AV.list 1 Aq 0 ([v8.Kind,v8.Arg]:Aw) .exact))] [(Z2 x1),(Z2 x2)] (fb (Br 1 Aq (0:Int) ([v8.Kind,v8.Arg]:Aw)) (Ht y1) (Mr (x1==true) (c2 (λ(hg:(x1==true)=true)=>(Of (Bf hg y2))) (Nd x1)))) (tS h (Cc [])))
def Ob(aM:Ae):Option Bool:=
 (Jv aM.Phis).bind λx1=>(bif x1==true then Kg aM.Ops else some false).bind λx2=>(bif (bif x1 then x2 else false)==true then Qk ⟨aM.End.Kind,aM.End.Arg,aM.End.To⟩ else some false).bind λx3=>some (bif bif x1 then x2 else false then x3 else false)
variable{v9:Ae}
theorem HS(h:Ob v9=some v3):sP 183 [(.agg (Cj v9))] [] (.bool v3) []:=
 sG Tryz.func183 λΓ q=>Af q [1] [1] (tB h λx1 y1 h=>tB h λx2 y2 h=>tB h λx3 y3 h=>tT q [2] [] [(Z2 x1),(Z2 x2),(Z2 x3)] (ci (X0 y1) (Mr (x1==true) (fb (λ(hg:(x1==true)=true)=>(Zk (Bf hg y2))) (Nd x1) (Mr ((bif x1 then x2 else false)==true) (c2 (λ(hg:((bif x1 then x2 else false)==true)=true)=>(NF (Bf hg y3))) (Nd (bif x1 then x2 else false))))))) (tS h (Cc [])))
def Gw(aA:List Ae):Int->Option (LR Int (Unit ⊕ Bool)):=
 λi1=>bif decide (i1<aA.length) then Az (A2 i1 aA.length) ((Ob (aA.getD i1.toNat default)).bind λx3=>bif !x3 then some (.done (.inr false)) else some (.next (w64 (i1+1)))) else some (.done (.inl ()))
def V3(Γ:H3)(aA:List Ae)(r:Bool):Exit->St->Prop:=fK Tryz.prog Γ Tryz.f182.results.toList [] (.bool r) []
def Ib(aA:List Ae):Option Bool:=
 (Ac   (Gw aA) 0).bind λx4=>match x4 with | .inl _=>some true | .inr r6=>some r6
variable{v10:List Ae}
theorem Vs(h:Ib v10=some v3):sP 182 [(UE v10),(.clo 183 [] [])] [] (.bool v3) []:=
 sG Tryz.func182 λΓ q=>tW q Gn [] Na [] (tL q h Na [] (λu i1=>(Cp u [(9,(Z5 i1))] [])) (λu x_=>match x_ with|(.inl _)=>aG Γ (.exit 0) (⟨[],[],[]⟩:St)|(.inr r_)=>aR (V3 Γ v10 r_)) (λi1 y h=>Af q MU [] (gC h (λh=>tV q MV [6] h λh=>tB h λx3 y3 h=>tT q UB [] [(Z2 x3)] (c1 (HS y3)) (gC h (λh=>Af q [4] [] (tS h (gO (Lj (H4 [] (Le.refl _ _)))))) λh=>Af q Na [] (tN h))) λh=>tS h (gO (Be (Bi [] [] q))))) λx4 h=>(match x4,h with | .inl _,h=>gA (Af q [4] [] (tS h (Cc []))) | .inr r6,h=>Oz (λst' hk=>tS h (gK hk))))
def Q14(a0:TFunc):=(decide ((a0.Blocks.length:Int)<1))
def zq(a0:TFunc):=(decide ((16:Int)<(a0.Params.length:Int)))
def Xs(a0:TFunc):Option Bool:=
 bif bif decide ((a0.Blocks.length:Int)<1) then true else decide (64<(a0.Blocks.length:Int)) then some false else(bif decide ((16:Int)<a0.Params.length)==false then Ha a0 else some 0).bind λx1=>bif bif decide ((16:Int)<a0.Params.length) then true else decide (512<x1) then some false else(Eb a0.Params).bind λx2=>(bif x2==true then Eb [a0.Ret] else some false).bind λx3=>(bif (bif x2 then x3 else false)==true then Ib a0.Blocks else some false).bind λx4=>some (bif bif x2 then x3 else false then x4 else false)
theorem dX(h:Xs v0=some v3):sP 130 [(V0 v0)] [] (.bool v3) []:=
 sG Tryz.func130 λΓ q=>Af q [1] [1] (tU q [1,12] [1] (Yt ((Q14 v0)==false) (c1 (Lx (Q14 v0)))) (gC h (λh=>Af q [2] [] (tS h (Cc []))) λh=>tB h λx1 y1 h=>tT q [1,21] [1] [(UF x1)] (c4 (gI ((zq v0)==false)) (λ(hg:((zq v0)==false)=true)=>(Qw (Bf hg y1))) (gI ((zq v0)==false)) (Lx (zq v0))) (gC h (λh=>Af q [2] [] (tS h (Cc []))) λh=>tB h λx2 y2 h=>tB h λx3 y3 h=>tB h λx4 y4 h=>gR q [2] [] [(28,(uf v0.Ret))] [(Z2 x2),(Z2 x3),(Z2 x4)] (ci (Ht y2) (Mr (x2==true) (d4_ (show((x2==true)=true->(AVle (.slice 1 1 (λi=>([[(Z5 v0.Ret)]]:List (List AV)).getD i []) .exact) (uf v0.Ret))) from(λhg=>@(Br 1 Aq (0:Int) ([v0.Ret]:Aw)))) (gI (x2==true)) (λ(hg:(x2==true)=true)=>(Ht (Bf hg y3))) (Nd x2) (Mr ((bif x2 then x3 else false)==true) (c2 (λ(hg:((bif x2 then x3 else false)==true)=true)=>(Vs (Bf hg y4))) (Nd (bif x2 then x3 else false))))))) (tS h (Cc [])))))
def Nm(aaF:Bool)(aK:Int):Option Int:=
 bif aaF then some 0 else some aK
variable{v11:Int}
theorem Yw(h:Nm v3 v1=some v11):sP 150 [(.bool v3),(Z5 v1)] [] (.int .i64 v11) []:=
 sG Tryz.func150 λΓ q=>tW q Gn [] [1,5] [] (gC h (λh=>Af q [4] [] (tS h (Cc []))) λh=>Af q [4] [] (tS h (Cc [])))
abbrev me:=(Int×TFunc×Int×Aw×List Bk)
def Ke(a3:TFunc)(a5:Int)(a7:Aw)(aB:List Bk):Option me:=
 (Xs a3).bind λx1=>(Nm x1 4).bind λx2=>some (x2,a3,a5,a7,aB)
variable{v12:List Bk}{v13:me}
theorem Zi(h:Ke v0 v1 v2 v12=some v13):sP 104 nY (Z3 v0.Params v0.Ret v0.Blocks v1 v2 v12 v12.length) (Z5 v13.1) (Z3 v13.2.1.Params v13.2.1.Ret v13.2.1.Blocks v13.2.2.1 v13.2.2.2.1 v13.2.2.2.2 v13.2.2.2.2.length):=
 sG Tryz.func104 λΓ q=>Af q [0] Iw (tB h λx1 y1 h=>tB h λx2 y2 h=>tT q [2] Iw [(Z2 x1),(UF x2)] (c2 (dX y1) (Yw y2)) (tS h (Cc Y8)))
def Mh(aU:Int):Option Bool:=
 some (bif decide (1<=aU) then decide (aU<=64) else false)
theorem We(h:Mh v1=some v3):sP 135 [(Z5 v1)] [] (.bool v3) []:=
 sG Tryz.func135 λΓ q=>Af q [0] [] (tU q [2] [] (c2 (gI ((decide ((1:Int)<=v1))==true)) (Nd (decide ((1:Int)<=v1)))) (tS h (Cc [])))
def J8(aL:Int)(aU:Int):Option Bool:=
 some (bif decide (0<=aL) then decide (aL<aU) else false)
theorem Rq(h:J8 v1 v11=some v3):sP 188 [(Z5 v1),(Z5 v11)] [] (.bool v3) []:=
 sG Tryz.func188 λΓ q=>Af q Gn [] (tU q [4] [] (Mr ((decide ((0:Int)<=v1))==true) (c1 (Nd (decide ((0:Int)<=v1))))) (tS h (Cc [])))
def F1(aK:On)(aU:Int):Int->Option (LR Int (Unit ⊕ Bool)):=
 λi7=>bif decide (i7<aK.To.length) then Az (A2 i7 aK.To.length) ((bif (aK.To.getD i7.toNat 0==0)==false then J8 (aK.To.getD i7.toNat 0) aU else some false).bind λx9=>bif bif aK.To.getD i7.toNat 0==0 then true else !x9 then some (.done (.inr false)) else some (.next (w64 (i7+1)))) else some (.done (.inl ()))
def Yn(Γ:H3)(aK:On)(aU:Int)(r:Bool):Exit->St->Prop:=fK Tryz.prog Γ Tryz.f136.results.toList [] (.bool r) []
def zr(aK:On)(i7:Int):=((aK.To.getD i7.toNat 0)==0)
def Pc(aK:On)(aU:Int):Option Bool:=
 Option.bind (α:=Int ⊕ Bool) (Option.bind  (bif aK.Kind==0 then some (aK.Kind==0) else some (aK.Kind==3)) λx3=>bif x3 then some (.inl 0) else bif aK.Kind==1 then some (.inl 1) else bif aK.Kind==2 then some (.inl 2) else some (.inr false)) λx5=>match x5 with | .inl i1=>bif aK.To.length !=i1 then some false else(Ac   (F1 aK aU) 0).bind λx10=>(match x10 with | .inl _=>some true | .inr r12=>some r12) | .inr r13=>some r13
theorem JU(h:Pc v8 v1=some v3):sP 136 [(.agg (jK v8)),(Z5 v1)] [] (.bool v3) []:=
 sG Tryz.func136 λΓ q=>tW q D7 [2] CQ [2] (tB h λx5 y5 h=>gJ y5 (λx_=>match x_ with|(.inl i1)=>aG Γ .normal (⟨[(1,(Z5 v1)),Uj,(5,(Z5 i1))],[(2,.row 62 [(Z5 v8.Kind),(Z5 v8.Arg),(Z6 v8.To)])],[]⟩:St)|(.inr r_)=>aR (Yn Γ v8 v1 r_)) (λy h=>Af q [1,2,5,9] [2] (tB h λx3 y3 h=>gJ y3 (λb2=>aG Γ .normal (⟨[(1,(Z5 v1)),Uj,(5,L5),(9,(Z5 v8.Kind)),(10,(.bool b2))],[(2,.row 62 [(Z5 v8.Kind),(Z5 v8.Arg),(Z6 v8.To)])],[]⟩:St)) (λy h=>Af q [1,2,5,9,10] [2] (gC h (λh=>tS h (gK (Be Io))) λh=>Af q [1,2,5,9,10] [2] (tS h (gK (Be Io))))) (gA (gC h (λh=>tS h (gK (Be (Bi CQ [2] q)))) λh=>Af q [1,2,9,13] [2] (gC h (λh=>Af q CQ [2] (tS h (gK (Be Io)))) λh=>Af q [1,2,15] [2] (gC h (λh=>Af q CQ [2] (tS h (gK (Be Io)))) λh=>Af q [4] [] (tS h (gK (Lj (H4 [] (Le.refl _ _))))))))))) (match x5,h with | .inl i1,h=>gA (Af q [1,2,21] [2] (gC h (λh=>Af q [4] [] (tS h (Cc []))) λh=>Af q iP [] (tL q h iP [] (λu i7=>(Cp u [(25,(Z5 i7))] [])) (λu x_=>match x_ with|(.inl _)=>aG Γ (.exit 1) (⟨[],[],[]⟩:St)|(.inr r_)=>aR (Yn Γ v8 v1 r_)) (λi7 y h=>Af q [1,23,24,25,26] [] (gC h (λh=>tV q [1,7,23,24,25] [] h λh=>tB h λx9 y9 h=>tT q [1,23,24,25,36] [] [(Z2 x9)] (Mr ((zr v8 i7)==false) (c3 (λ(hg:((zr v8 i7)==false)=true)=>(Rq (Bf hg y9))) (gI ((zr v8 i7)==false)) (Lx (zr v8 i7)))) (gC h (λh=>Af q [4] [] (tS h (gO (Lj (H4 [] (Le.refl _ _)))))) λh=>Af q iP [] (tN h))) λh=>tS h (gO (Be (Bi [] [] q))))) λx10 h=>(match x10,h with | .inl _,h=>gA (Af q [4] [] (tS h (Cc []))) | .inr r12,h=>Oz (λst' hk=>tS h (gK hk)))))) | .inr r13,h=>Oz (λst' hk=>tS h (gK hk))))
abbrev zk:=(Int×N9)
abbrev yT6:=(LR (Int×N9) N9)
def M3(a6:N9)(i2:Int):zk->Option yT6:=
 λ(i6,l7)=>bif decide (i6<(a6.getD i2.toNat []).length) then Az (A2 i6 (a6.getD i2.toNat []).length) (Az (A2 ((a6.getD i2.toNat []).getD i6.toNat 0) l7.length) (Az (A2 ((a6.getD i2.toNat []).getD i6.toNat 0) l7.length) (Az ((l7.getD ((a6.getD i2.toNat []).getD i6.toNat 0).toNat []).length+[i2].length<=room) (Az (A2 ((a6.getD i2.toNat []).getD i6.toNat 0) l7.length) (some (.next (w64 (i6+1),l7.set ((a6.getD i2.toNat []).getD i6.toNat 0).toNat (l7.getD ((a6.getD i2.toNat []).getD i6.toNat 0).toNat []++[i2])))))))) else some (.done l7)
def Ki(a6:N9):zk->Option yT6:=
 λ(i2,l3)=>bif decide (i2<a6.length) then Az (A2 i2 a6.length) ((Ac   (M3 a6 i2) (0,l3)).bind λx14=>some (.next (w64 (i2+1),x14))) else some (.done l3)
def rT(i2:Int):=([i2]:Aw)
def mU(a6:N9)(i2:Int)(i6:Int):=((a6.getD i2.toNat []).getD i6.toNat 0)
def mq(l7:N9)(a6:N9)(i2:Int)(i6:Int):=(l7.getD (mU a6 i2 i6).toNat [])
def vA(a6:N9):=(List.replicate (a6.length:Int).toNat ([]:Aw))
def xc(l7:N9)(a6:N9)(i2:Int)(i6:Int):=(l7.set (mU a6 i2 i6).toNat ((mq l7 a6 i2 i6)++(rT i2)))
def Q19(a6:N9):List MM:=[(0,(NO a6)),(3,(.vsl 10 (a6.length:Int).toNat))]
def Q18(l7:N9)(i2:Int)(a6:N9)(i6:Int):List MM:=[(3,(.vsl 10 l7.length)),(4,(Z5 i2)),(11,(NO a6)),(bh 12 a6.length),(13,(Z5 i2)),(18,(AV.list 1 Aq 0 (a6.getD i2.toNat []) .none)),(19,(.int .i64 ((a6.getD i2.toNat []).length:Int))),(20,(Z5 i6))]
def Q22(l7:N9)(i2:Int)(a6:N9)(i6:Int):List MM:=[(3,(.vsl 10 l7.length)),(4,(Z5 i2)),(7,(Z5 (mU a6 i2 i6))),(11,(NO a6)),(bh 12 a6.length),(13,(Z5 i2)),(18,(AV.list 1 Aq 0 (a6.getD i2.toNat []) .none)),(19,(.int .i64 ((a6.getD i2.toNat []).length:Int))),(20,(Z5 i6))]
def Np(a6:N9):Option N9:=
 Az (0<=(a6.length:Int)/\a6.length<=(a6.length:Int)/\(a6.length:Int)<=room) ((Ac   (Ki a6) (0,List.replicate (a6.length:Int).toNat [])).bind λx16=>some x16)
variable{v14:N9}{v15:N9}
theorem Yy(h:Np v14=some v15):sP 138 [(NO v14)] [] (rJ v15 20000) [(20000,.tok 1 22 v15.length)]:=
 sG Tryz.func138 λΓ q=>have hΓ:=q.own;gR q [0] [] [(2,xL)] [] (c1 (B1 1 Lc [])) (tV q Rh [10] h λh=>P6 (⟨(Q19 v14),[(10,.arr 1 22 ((v14.length:Int).toNat) (λi_=>AV.eraseAll (λn_=>Bw n_ [10]) ((λ_=>[Zx]) i_)))],[]⟩:St) (gLe (Le.trans (I6 (st':=⟨(Q19 v14),[(10,.arr 1 22 ((v14.length:Int).toNat) (Ot 1 Aq (0:Int) (vA v14) (λ_=>.exact)))],[]⟩) (TmpsLe.refl _) (.arr cd .nil)) (Le.trans (Le.trans (cr (r:=10) (b:=70010) Aq (0:Int) (vA v14) 3 rfl rfl (N5 ..).symm (λh_=>absurd h_ (by decide))) (Gs (st':=⟨(Q19 v14),[(10,.arr 1 22 ((v14.length:Int).toNat) (Ot 1 Aq (0:Int) (vA v14) (Tag.fam 70010)))],[(70010,⟨1,3,Nj (vA v14)⟩)]⟩) (by kernel_rfl))) (Gs (Bj (λk_:Nat=>(⟨[(0,(NO v14)),(3,(.vsl 10 k_))],[(b6 10 k_ (vA v14) 70010)],[(70010,⟨1,3,Nj (vA v14)⟩)]⟩:St)) (show(v14.length:Int).toNat=(vA v14).length from(N5 ..).symm))))) (Af q TA Vf (tL q h TA Vf (λu (i2,l3)=>(Cp u [(3,(.vsl 10 l3.length)),(13,(Z5 i2))] [(b6 10 l3.length l3 70010)] [(70010,⟨1,3,Nj l3⟩)])) (λu l4=>aG Γ (.exit 0) (⟨[(3,(.vsl 10 l4.length))],[(b6 10 l4.length l4 70010)],[(70010,⟨1,3,Nj l4⟩)]⟩:St)) (λ⟨i2,l3⟩ y h=>Af q [3,11,12,13,14] Vf (gC h (λh=>tV q [3,4,5,11,12,13] Vf h λh=>Af q kG Vf (tL q h kG Vf (λu (i6,l7)=>(Cp u [(3,(.vsl 10 l7.length)),(20,(Z5 i6))] [(b6 10 l7.length l7 70010)] [(70010,⟨1,3,Nj l7⟩)])) (λu l8=>aG Γ (.exit 2) (Nf TA Vf u [(3,(.vsl 10 l8.length))] [(b6 10 l8.length l8 70010)] [(70010,⟨1,3,Nj l8⟩)])) (λ⟨i6,l7⟩ y h=>Af q [3,4,11,12,13,18,19,20,21] Vf (gC h (λh=>tV q [3,4,7,11,12,13,18,19,20] Vf h λh=>P6 (⟨(Q22 l7 i2 v14 i6),[(b6 10 l7.length l7 70010)],[(70010,⟨1,3,Nj l7⟩)]⟩:St) (tC h λc10_ h=>tC h λc11_ h=>tC h λc12_ h=>tC h λc13_ h=>gLe (Le.trans (jZ (r:=10) (b:=70010) (k:=60010) Aq (0:Int) l7 (mU v14 i2 i6).toNat 3 rfl rfl rfl rfl (Qi c10_) (by kernel_rfl) (.here .nil)) (Gs (st':=⟨(Q22 l7 i2 v14 i6),[(10,.arr 1 22 l7.length (Ot 1 Aq (0:Int) l7 (Hr 70010 (mU v14 i2 i6).toNat 60010))),(60010,.tok 1 3 ((mq l7 v14 i2 i6).length))],[(70010,⟨1,3,AS l7 (mU v14 i2 i6).toNat⟩)]⟩) (by kernel_rfl))) (gR q kG [10,60010,70010] [(29,(Vz (mq l7 v14 i2 i6) 60010)),(31,(AV.list 1 Aq 0 (rT i2) .exact)),(32,(AV.list 1 Aq 0 ((mq l7 v14 i2 i6)++(rT i2)) (.own 60010)))] [] (d9_ c11_ (Eq.refl l7.length) (show(AVle (((Ot 1 Aq (0:Int) l7 (Hr 70010 (mU v14 i2 i6).toNat 60010)) (mU v14 i2 i6).toNat).getD 0 .any) (Vz (mq l7 v14 i2 i6) 60010)) from WA) (Br 1 Aq (0:Int) (rT i2)) (Eq.refl ((mq l7 v14 i2 i6).length)) c12_ (Ix 1 60010 Aq (0:Int) (mq l7 v14 i2 i6) (rT i2)) (E2 (mq l7 v14 i2 i6) (rT i2)) c13_ (c1 (Eq.refl l7.length))) (P6 (⟨(Q18 l7 i2 v14 i6),[(10,.arr 1 22 l7.length (λi_=>AV.eraseAll (λn_=>Bw n_ [10,60010,70010]) ((Fd (Ot 1 Aq (0:Int) l7 (Hr 70010 (mU v14 i2 i6).toNat 60010)) (mU v14 i2 i6).toNat 0 [(AV.list 1 Aq 0 ((mq l7 v14 i2 i6)++(rT i2)) (.own 60010))]) i_))),(60010,.tok 1 3 (((mq l7 v14 i2 i6)++(rT i2)).length))],[(70010,⟨1,3,AS l7 (mU v14 i2 i6).toNat⟩)]⟩:St) (gLe (Le.trans (Le.trans (pH (r:=10) (b:=70010) (k:=60010) Aq (0:Int) l7 (mU v14 i2 i6).toNat ((mq l7 v14 i2 i6)++(rT i2)) 3 rfl (dp (Qi c10_) rfl rfl) rfl rfl rfl rfl (Qi c10_) (by kernel_rfl) (.here (.tok .nil)) (by rw[hΓ];rfl)) (Gs (st':=⟨(Q18 l7 i2 v14 i6),[(b6 10 l7.length (xc l7 v14 i2 i6) 70010)],[(70010,⟨1,3,Nj (xc l7 v14 i2 i6)⟩)]⟩) (by kernel_rfl))) (Gs (Bj (λk_:Nat=>(⟨[(3,(.vsl 10 k_)),(4,(Z5 i2)),(11,(NO v14)),(bh 12 v14.length),(13,(Z5 i2)),(18,(AV.list 1 Aq 0 (v14.getD i2.toNat []) .none)),(19,(.int .i64 ((v14.getD i2.toNat []).length:Int))),(20,(Z5 i6))],[(b6 10 k_ (xc l7 v14 i2 i6) 70010)],[(70010,⟨1,3,Nj (xc l7 v14 i2 i6)⟩)]⟩:St)) (show l7.length=(xc l7 v14 i2 i6).length from(Dc ..).symm)))) (Af q kG Vf (tN h))))))) λh=>tS h (gO (Be (Bi TA Vf q))))) λx14 h=>gA (Af q TA Vf (tN h)))) λh=>tS h (gO (Be (Bi [3] Vf q))))) λx16 h=>gA (Af q [2] Vf (P6 (⟨[(2,(.vsl 10 x16.length))],[(b6 10 x16.length x16 70010)],[(70010,⟨1,3,Nj x16⟩)]⟩:St) (tS h (gK (e:=.ret) (H4 [(10,20000)] (Le.trans (le_freeze (nm:=10) (sz:=1) (n:=x16.length) (e:=22) (f:=(Ot 1 Aq (0:Int) x16 (Tag.fam 70010))) (g:=(λi=>Lc (x16.getD i []))) rfl ⟨rfl,trivial⟩ (λ_ _=>rfl) (by rw[hΓ];rfl)) (Bi (st':=⟨[(2,(rJ x16 10))],[(10,.tok 1 22 x16.length)],[]⟩) [2] [10] q)))))))))))
def Hy(a0:TFunc):zk->Option (LR (Int×N9) (N9 ⊕ (TGraph×Int))):=
 λ(i3,l4)=>bif decide (i3<a0.Blocks.length) then Az (A2 i3 a0.Blocks.length) ((Pc ⟨(a0.Blocks.getD i3.toNat default).End.Kind,(a0.Blocks.getD i3.toNat default).End.Arg,(a0.Blocks.getD i3.toNat default).End.To⟩ a0.Blocks.length).bind λx7=>bif !x7 then some (.done (.inr (⟨[],[]⟩,5))) else(IF (a0.Blocks.getD i3.toNat default).End.To).bind λx8=>Az (A2 i3 l4.length) (some (.next (w64 (i3+1),l4.set i3.toNat x8)))) else some (.done (.inl l4))
abbrev mR:=(TGraph×Int)
def en(Γ:H3)(a0:TFunc)(r:mR):Exit->St->Prop:=fK Tryz.prog Γ Tryz.f82.results.toList [] (.tuple (rK r.1 r.2)) []
def vL:AV:=Zx
def xC:List MM:=[Uj,(3,(.int .i64 (5:Int)))]
def Q29(a0:TFunc)(i3:Int):=(a0.Blocks.getD i3.toNat default)
def Q27:AV:=Z83
def Q28(a0:TFunc):=(List.replicate (a0.Blocks.length:Int).toNat ([]:Aw))
def ua:List AV:=[xL,xL]
def Tw(a0:TFunc):Option mR:=
 (Mh a0.Blocks.length).bind λx1=>bif !x1 then some (⟨[],[]⟩,5) else Az (0<=(a0.Blocks.length:Int)/\a0.Blocks.length<=(a0.Blocks.length:Int)/\a0.Blocks.length<=(room:Int)) ((Ac   (Hy a0) (0,List.replicate (a0.Blocks.length:Int).toNat [])).bind λx10=>match x10 with | .inl l5=>(Np l5).bind λx12=>some (⟨l5,x12⟩,0) | .inr r13=>some r13)
variable{v16:mR}
theorem LV(h:Tw v0=some v16):sP 82 [(V0 v0)] [] (.tuple (rK v16.1 v16.2)) []:=
 sG Tryz.func82 λΓ q=>have hΓ:=q.own;tW q D7 D7 [1,2,4] D7 (tB h λx1 y1 h=>tT q [1,2,4,13] D7 [(Z2 x1)] (c1 (We y1)) (gC h (λh=>gR q Cz [2] [(14,(.agg ua))] [] (c1 (show(AVle (.agg [vL,vL]) (.agg ua)) from(AVle.agg (.cons Ej (.cons Ej .nil))))) (P6 (⟨xC,[(Pp 56 ua)],[]⟩:St) (tS h (gK (e:=.ret) (H4 [] (show Le Γ _ (⟨xC,[(mX Q27)],[]⟩:St) from Le.trans (Bi (st':=⟨xC,[(Pp 56 ua)],[]⟩) Cz [2] q) (I6 (.cons (AVle.refl _) (.cons (AVle.refl _) .nil)) (.row (.cons AVle.untag (.cons AVle.untag .nil)) .nil)))))))) λh=>tV q [1,2,4,5] [1,2,16] h λh=>by exact gLe (Le.trans (Sn 16 (show ∀ k_,k_<((v0.Blocks.length:Int).toNat)->AVleL ((λi_=>AV.eraseAll (λn_=>Bw n_ [1,2,16]) ((λ_=>[vL]) i_)) k_) ((λi=>Lc ((Q28 v0).getD i [])) k_) from(λk hk=>M5 (e:=Lc) (d:=[]) (.cons (λ_ _ _ _ _ hh=>AVle.untag _ _ _ _ _ (Ej _ _ _ _ _ hh)) .nil) _ k (M6 hk)))) (R8 (λ(k_:Nat) u=>(Cp u [(Vh 16 k_)] [(16,.arr 1 22 k_ (λi=>Lc ((Q28 v0).getD i [])))])) (show(v0.Blocks.length:Int).toNat=(Q28 v0).length from(N5 ..).symm))) (Af q bQ Vx (tL q h bQ Vx (λu (i3,l4)=>(Cp u [(Vh 16 l4.length),(20,(Z5 i3))] [(16,.arr 1 22 l4.length (λi=>Lc (l4.getD i [])))])) (λu x_=>match x_ with|(.inl l5)=>aG Γ (.exit 0) (Nf Uh Vx u [(Vh 16 l5.length)] [(16,.arr 1 22 l5.length (λi=>Lc (l5.getD i [])))])|(.inr r_)=>aR (en Γ v0 r_)) (λ⟨i3,l4⟩ y h=>Af q [2,4,5,18,19,20,21] Vx (gC h (λh=>tV q [2,4,5,6,7,18,19,20] [2,7,16] h λh=>tB h λx7 y7 h=>tT q [2,4,5,6,7,18,19,20,29] [2,7,16] [(Z2 x7)] (c1 (JU y7)) (gC h (λh=>gR q Cz [2] [(30,(.agg ua))] [] (c1 (show(AVle (.agg [vL,vL]) (.agg ua)) from(AVle.agg (.cons Ej (.cons Ej .nil))))) (P6 (⟨xC,[(Pp 56 ua)],[]⟩:St) (tS h (gO (Lj (H4 [] (show Le Γ _ (⟨xC,[(mX Q27)],[]⟩:St) from Le.trans (Bi (st':=⟨xC,[(Pp 56 ua)],[]⟩) Cz [2] q) (I6 (.cons (AVle.refl _) (.cons (AVle.refl _) .nil)) (.row (.cons AVle.untag (.cons AVle.untag .nil)) .nil))))))))) λh=>tB h λx8 y8 h=>tC h λc9_ h=>tT q bQ Vx [⟨[],[],(Z6 x8),[],[],[]⟩] (c3 (g9 ((Q29 v0 i3).End.To) x8 y8) c9_ (Eq.refl l4.length)) (gLe (Le.trans (Sn 16 (show ∀ k_,k_<l4.length->AVleL ((λi_=>AV.eraseAll (λn_=>Bw n_ Vx) ((Fd (λi=>Lc (l4.getD i [])) i3.toNat 0 [(Z6 x8)]) i_)) k_) ((λi=>Lc ((l4.set i3.toNat x8).getD i [])) k_) from(Bh (Dc ..).symm (λk_ hk_=>(Bj (AV.eraseAll (λn_=>Bw n_ Vx)) ((Fv (λ_ _=>rfl) (Hv c9_) rfl) k_ hk_)).trans rfl)))) (R8 (λ(k_:Nat) u=>(Cp u [(Vh 16 k_)] [(16,.arr 1 22 k_ (λi=>Lc ((l4.set i3.toNat x8).getD i [])))])) (show l4.length=(l4.set i3.toNat x8).length from(Dc ..).symm))) (Af q bQ Vx (tN h))))) λh=>tS h (gO (Be (Bi Uh Vx q))))) λx10 h=>(match x10,h with | .inl l5,h=>gA (P6 (⟨[Uj,(Vh 16 l5.length)],[(mX vL),(16,.arr 1 22 l5.length (λi=>Lc (l5.getD i [])))],[]⟩:St) (gLe (Le.trans (le_freeze (nm:=16) (sz:=1) (n:=l5.length) (e:=22) (f:=(λi=>Lc (l5.getD i []))) (g:=(λi=>Lc (l5.getD i []))) rfl ⟨rfl,trivial⟩ (λ_ _=>rfl) (by rw[hΓ];rfl)) (Gs (st':=⟨[Uj,(5,(rJ l5 16))],[(mX vL),(16,.tok 1 22 l5.length)],[]⟩) (by kernel_rfl))) (tB h λx12 y12 h=>tT q Cz [2,16,41] [⟨[],[(20000,41)],(rJ x12 20000),[(20000,.tok 1 22 x12.length)],[],[]⟩] (c1 (Yy y12)) (tS h (Cc []))))) | .inr r13,h=>Oz (λst' hk=>tS h (gK hk)))))))
def Hs(a6:N9)(i2:Int):J5->Option (LR (Int×Int) (Unit ⊕ Bool)):=
 λ(i4,i5)=>bif decide (i5<(a6.getD i2.toNat []).length) then Az (A2 i5 (a6.getD i2.toNat []).length) ((bif decide ((a6.getD i2.toNat []).getD i5.toNat 0<=i4)==false then J8 ((a6.getD i2.toNat []).getD i5.toNat 0) a6.length else some false).bind λx7=>bif bif decide ((a6.getD i2.toNat []).getD i5.toNat 0<=i4) then true else !x7 then some (.done (.inr false)) else some (.next ((a6.getD i2.toNat []).getD i5.toNat 0,w64 (i5+1)))) else some (.done (.inl ()))
def Dw(a6:N9):Int->Option (LR Int (Unit ⊕ Bool)):=
 λi2=>bif decide (i2<a6.length) then Az (A2 i2 a6.length) ((Ac   (Hs a6 i2) (-1,0)).bind λx8=>match x8 with | .inl _=>some (.next (w64 (i2+1))) | .inr r10=>some (.done (.inr r10))) else some (.done (.inl ()))
def Yo(Γ:H3)(a6:N9)(r:Bool):Exit->St->Prop:=fK Tryz.prog Γ Tryz.f238.results.toList [] (.bool r) []
def zt(a6:N9)(i2:Int)(i5:Int)(i4:Int):=(decide (((a6.getD i2.toNat []).getD i5.toNat 0)<=i4))
def Pd(a6:N9):Option Bool:=
 (Mh a6.length).bind λx1=>bif !x1 then some false else(Ac   (Dw a6) 0).bind λx11=>match x11 with | .inl _=>some true | .inr r13=>some r13
theorem JV(h:Pd v14=some v3):sP 238 [(NO v14)] [] (.bool v3) []:=
 sG Tryz.func238 λΓ q=>Af q [0] [] (tB h λx1 y1 h=>tT q [0,11] [] [(Z2 x1)] (c1 (We y1)) (gC h (λh=>Af q [2] [] (tS h (Cc []))) λh=>Af q TB [] (tL q h TB [] (λu i2=>(Cp u [(14,(Z5 i2))] [])) (λu x_=>match x_ with|(.inl _)=>aG Γ (.exit 0) (⟨[],[],[]⟩:St)|(.inr r_)=>aR (Yo Γ v14 r_)) (λi2 y h=>Af q [0,12,13,14,15] [] (gC h (λh=>tV q [0,4,12,13,14] [] h λh=>tW q [0,4,5,12,13,14] [] kH [] (tL q h kH [] (λu (i4,i5)=>(Cp u [(5,(Z5 i4)),(20,(Z5 i5))] [])) (λu x_=>match x_ with|(.inl _)=>aG Γ (.exit 2) (Nf TB [] u [] [])|(.inr r_)=>aR (Yo Γ v14 r_)) (λ⟨i4,i5⟩ y h=>Af q [0,5,12,13,14,18,19,20,21] [] (gC h (λh=>tV q [0,5,7,12,13,14,18,19,20] [] h λh=>tB h λx7 y7 h=>tT q [0,7,12,13,14,18,19,20,33] [] [(Z2 x7)] (Yt ((zt v14 i2 i5 i4)==false) (c3 (λ(hg:((zt v14 i2 i5 i4)==false)=true)=>(Rq (Bf hg y7))) (gI ((zt v14 i2 i5 i4)==false)) (Lx (zt v14 i2 i5 i4)))) (gC h (λh=>Af q [2] [] (tS h (gO (Lj (H4 [] (Le.refl _ _)))))) λh=>tW q kH [] kH [] (tN h))) λh=>tS h (gO (Be (Bi TB [] q))))) λx8 h=>(match x8,h with | .inl _,h=>gA (Af q TB [] (tN h)) | .inr r10,h=>Oz (λst' hk=>tS h (gO (Lj hk)))))) λh=>tS h (gO (Be (Bi [] [] q))))) λx11 h=>(match x11,h with | .inl _,h=>gA (Af q [2] [] (tS h (Cc []))) | .inr r13,h=>Oz (λst' hk=>tS h (gK hk))))))
def E6(aY:Aw)(aa0:Aw):Int->Option (LR Int (Unit ⊕ Bool)):=
 λi1=>bif decide (i1<aY.length) then Az (A2 i1 aY.length) (Az (A2 i1 aa0.length) (bif aY.getD i1.toNat 0 !=aa0.getD i1.toNat 0 then some (.done (.inr false)) else some (.next (w64 (i1+1))))) else some (.done (.inl ()))
def W8(Γ:H3)(aY:Aw)(aa0:Aw)(r:Bool):Exit->St->Prop:=fK Tryz.prog Γ Tryz.f185.results.toList [] (.bool r) []
def G1(aY:Aw)(aa0:Aw):Option Bool:=
 bif (aY.length:Int)!=aa0.length then some false else(Ac   (E6 aY aa0) 0).bind λx4=>match x4 with | .inl _=>some true | .inr r6=>some r6
variable{v17:Aw}
theorem Pt(h:G1 v2 v17=some v3):sP 185 [(Z6 v2),(Z6 v17)] [] (.bool v3) []:=
 sG Tryz.func185 λΓ q=>tW q Gn [] Ym [] (gC h (λh=>Af q [4] [] (tS h (Cc []))) λh=>Af q iZ [] (tL q h iZ [] (λu i1=>(Cp u [(13,(Z5 i1))] [])) (λu x_=>match x_ with|(.inl _)=>aG Γ (.exit 0) (⟨[],[],[]⟩:St)|(.inr r_)=>aR (W8 Γ v2 v17 r_)) (λi1 y h=>Af q [0,1,12,13,14] [] (gC h (λh=>Af q [0,1,5,12,13] [] (tC h λc2_ h=>tC h λc3_ h=>tU q [0,1,12,13,24] [] (c2 c2_ c3_) (gC h (λh=>Af q [4] [] (tS h (gO (Lj (H4 [] (Le.refl _ _)))))) λh=>Af q iZ [] (tN h)))) λh=>tS h (gO (Be (Bi [] [] q))))) λx4 h=>(match x4,h with | .inl _,h=>gA (Af q [4] [] (tS h (Cc []))) | .inr r6,h=>Oz (λst' hk=>tS h (gK hk)))))
def B6(aY:N9)(aa0:N9):Int->Option (LR Int (Unit ⊕ Bool)):=
 λi1=>bif decide (i1<aY.length) then Az (A2 i1 aY.length) (Az (A2 i1 aa0.length) ((G1 (aY.getD i1.toNat []) (aa0.getD i1.toNat [])).bind λx4=>bif !x4 then some (.done (.inr false)) else some (.next (w64 (i1+1))))) else some (.done (.inl ()))
def Pg(Γ:H3)(aY:N9)(aa0:N9)(r:Bool):Exit->St->Prop:=fK Tryz.prog Γ Tryz.f239.results.toList [] (.bool r) []
def Dx(aY:N9)(aa0:N9):Option Bool:=
 bif (aY.length:Int)!=aa0.length then some false else(Ac   (B6 aY aa0) 0).bind λx5=>match x5 with | .inl _=>some true | .inr r7=>some r7
theorem O3(h:Dx v14 v15=some v3):sP 239 [(NO v14),(NO v15),(.clo 185 [] [])] [] (.bool v3) []:=
 sG Tryz.func239 λΓ q=>tW q TT [] [0,1,2,14] [] (gC h (λh=>Af q [6] [] (tS h (Cc []))) λh=>Af q iI [] (tL q h iI [] (λu i1=>(Cp u [(17,(Z5 i1))] [])) (λu x_=>match x_ with|(.inl _)=>aG Γ (.exit 0) (⟨[],[],[]⟩:St)|(.inr r_)=>aR (Pg Γ v14 v15 r_)) (λi1 y h=>Af q [1,2,15,16,17,18] [] (gC h (λh=>tV q [1,2,7,8,15,16,17] [] h λh=>tV q [1,2,8,9,15,16,17] [] h λh=>tB h λx4 y4 h=>tT q [1,2,15,16,17,30] [] [(Z2 x4)] (c1 (Pt y4)) (gC h (λh=>Af q [6] [] (tS h (gO (Lj (H4 [] (Le.refl _ _)))))) λh=>Af q iI [] (tN h))) λh=>tS h (gO (Be (Bi [] [] q))))) λx5 h=>(match x5,h with | .inl _,h=>gA (Af q [6] [] (tS h (Cc []))) | .inr r7,h=>Oz (λst' hk=>tS h (gK hk)))))
def Uu(a4:TGraph):Option Bool:=
 (Pd a4.Succ).bind λx1=>(bif x1==true then Np a4.Succ else some []).bind λx2=>(bif x1==true then Dx a4.Pred x2 else some false).bind λx3=>some (bif x1 then x3 else false)
variable{v18:TGraph}
theorem am(h:Uu v18=some v3):sP 195 [(.agg (Xg v18))] [] (.bool v3) []:=
 sG Tryz.func195 λΓ q=>Af q [1] [1] (tB h λx1 y1 h=>tB h λx2 y2 h=>tB h λx3 y3 h=>tT q [2] [] [(Z2 x1),⟨[],[],(NO x2),[],[],[]⟩,(Z2 x3)] (ci (JV y1) (Yt (x1==true) (ci (show((x1==true)=true->(sP 138 [(NO v18.Succ)] [] (NO x2) [])) from(λhg=>(Spec.drop (Yy (Bf hg y2))))) (Mr (x1==true) (c2 (λ(hg:(x1==true)=true)=>(O3 (Bf hg y3))) (Nd x1)))))) (tS h (Cc [])))
def Bl :(Int×Int×Aw)->Option (LR (Int×Int×Aw) Aw):=
 λ(i1,i2,l3)=>bif decide (i1<i2) then Az (A2 i2 l3.length) (Az (A2 i1 l3.length) (Az (A2 i1 l3.length) (Az (A2 i2 l3.length) (some (.next (w64 (i1+1),w64 (i2-1),(l3.set i1.toNat (l3.getD i2.toNat 0)).set i2.toNat (l3.getD i1.toNat 0))))))) else some (.done l3)
def Q31(l3:Aw)(i1:Int)(i2:Int):=((l3.set i1.toNat (l3.getD i2.toNat 0)).set i2.toNat (l3.getD i1.toNat 0))
def Fu(aJ:Aw):Option Aw:=
 (Ac   Bl (0,w64 (aJ.length-1),aJ)).bind λx9=>some x9
theorem Ok(h:Fu v2=some v17):sP 196 [(.vsl 34000 v2.length)] [(Z4 34000 v2)] (.tuple []) [(Z4 34000 v17)]:=
 sG Tryz.func196 λΓ q=>Af q [0,2,3] [34000] (tL q h [0,2,3] [34000] (λu (i1,i2,l3)=>(Cp u [(mY l3.length),(2,(Z5 i1)),(3,(Z5 i2))] [(Z4 34000 l3)])) (λu l4=>aG Γ (.exit 0) (⟨[],[(Z4 34000 l4)],[]⟩:St)) (λ⟨i1,i2,l3⟩ y h=>Af q [0,2,3,9] [34000] (gC h (λh=>tC h λc5_ h=>tC h λc6_ h=>tC h λc7_ h=>tC h λc8_ h=>tU q [0,2,3] [34000] (c8 c5_ (Eq.refl l3.length) c6_ (Eq.refl l3.length) c7_ (Eq.refl l3.length) c8_ (Eq.refl l3.length)) (gLe (Le.trans (Sn 34000 (show ∀ k_,k_<l3.length->AVleL ((λi_=>AV.eraseAll (λn_=>Bw n_ [34000]) ((Fd (Fd (λi=>Aq (l3.getD i 0)) i1.toNat 0 [(.int .i64 (l3.getD i2.toNat 0))]) i2.toNat 0 [(.int .i64 (l3.getD i1.toNat 0))]) i_)) k_) ((λi=>Aq ((Q31 l3 i1 i2).getD i 0)) k_) from(Bh (Eq.trans (Dc ..).symm (Dc ..).symm) (λk_ hk_=>(Bj (AV.eraseAll (λn_=>Bw n_ [34000])) ((Fv (Fv (λ_ _=>rfl) (Hv c7_) rfl) (sy c8_) rfl) k_ hk_)).trans rfl)))) (R8 (λ(k_:Nat) u=>(Cp u [(mY k_)] [(34000,.arr 1 3 k_ (λi=>Aq ((Q31 l3 i1 i2).getD i 0)))])) (show l3.length=(Q31 l3 i1 i2).length from(Eq.trans (Dc ..).symm (Dc ..).symm)))) (Af q [0,2,3] [34000] (tN h)))) λh=>tS h (gO (Be (Bi [] [34000] q))))) λx9 h=>ut (λst' hl10=>tS h (gK (e:=.normal) (H4 SZ hl10))))
abbrev yT8:=(LR Aw (Aw ⊕ (List Bool×Aw×Aw)))
def JJ(a4:TGraph)(a2:Int):Aw->Option yT8:=
 λl9=>Az (A2 ([a2].getD (w64 ([a2].length-1)).toNat 0) 64) (Az (A2 ([a2].getD (w64 ([a2].length-1)).toNat 0) a4.Succ.length) (bif decide (l9.getD ([a2].getD (w64 ([a2].length-1)).toNat 0).toNat 0<(a4.Succ.getD ([a2].getD (w64 ([a2].length-1)).toNat 0).toNat []).length) then Az (A2 ([a2].getD (w64 ([a2].length-1)).toNat 0) a4.Succ.length) (Az (A2 ([a2].getD (w64 ([a2].length-1)).toNat 0) 64) (Az (A2 (l9.getD ([a2].getD (w64 ([a2].length-1)).toNat 0).toNat 0) (a4.Succ.getD ([a2].getD (w64 ([a2].length-1)).toNat 0).toNat []).length) (Az (A2 ([a2].getD (w64 ([a2].length-1)).toNat 0) 64) (Az (A2 ([a2].getD (w64 ([a2].length-1)).toNat 0) 64) (Az (A2 ((a4.Succ.getD ([a2].getD (w64 ([a2].length-1)).toNat 0).toNat []).getD (l9.getD ([a2].getD (w64 ([a2].length-1)).toNat 0).toNat 0).toNat 0) 64) (bif !(P4 64 false (List.replicate 64 false) a2.toNat true).getD ((a4.Succ.getD ([a2].getD (w64 ([a2].length-1)).toNat 0).toNat []).getD (l9.getD ([a2].getD (w64 ([a2].length-1)).toNat 0).toNat 0).toNat 0).toNat false then Az (A2 ((a4.Succ.getD ([a2].getD (w64 ([a2].length-1)).toNat 0).toNat []).getD (l9.getD ([a2].getD (w64 ([a2].length-1)).toNat 0).toNat 0).toNat 0) 64) (Az ([a2].length+[(a4.Succ.getD ([a2].getD (w64 ([a2].length-1)).toNat 0).toNat []).getD (l9.getD ([a2].getD (w64 ([a2].length-1)).toNat 0).toNat 0).toNat 0].length<=room) (some (.done (.inr (P4 64 false (P4 64 false (List.replicate 64 false) a2.toNat true) ((a4.Succ.getD ([a2].getD (w64 ([a2].length-1)).toNat 0).toNat []).getD (l9.getD ([a2].getD (w64 ([a2].length-1)).toNat 0).toNat 0).toNat 0).toNat true,P4 64 0 l9 ([a2].getD (w64 ([a2].length-1)).toNat 0).toNat (w64 (l9.getD ([a2].getD (w64 ([a2].length-1)).toNat 0).toNat 0+1)),[a2]++[(a4.Succ.getD ([a2].getD (w64 ([a2].length-1)).toNat 0).toNat []).getD (l9.getD ([a2].getD (w64 ([a2].length-1)).toNat 0).toNat 0).toNat 0]))))) else some (.next (P4 64 0 l9 ([a2].getD (w64 ([a2].length-1)).toNat 0).toNat (w64 (l9.getD ([a2].getD (w64 ([a2].length-1)).toNat 0).toNat 0+1)))))))))) else some (.done (.inl l9))))
def Jc(a4:TGraph)(l1:List Bool)(l3:Aw):Aw->Option yT8:=
 λl32=>Az (A2 (l3.getD (w64 (l3.length-1)).toNat 0) 64) (Az (A2 (l3.getD (w64 (l3.length-1)).toNat 0) a4.Succ.length) (bif decide (l32.getD (l3.getD (w64 (l3.length-1)).toNat 0).toNat 0<(a4.Succ.getD (l3.getD (w64 (l3.length-1)).toNat 0).toNat []).length) then Az (A2 (l3.getD (w64 (l3.length-1)).toNat 0) a4.Succ.length) (Az (A2 (l3.getD (w64 (l3.length-1)).toNat 0) 64) (Az (A2 (l32.getD (l3.getD (w64 (l3.length-1)).toNat 0).toNat 0) (a4.Succ.getD (l3.getD (w64 (l3.length-1)).toNat 0).toNat []).length) (Az (A2 (l3.getD (w64 (l3.length-1)).toNat 0) 64) (Az (A2 (l3.getD (w64 (l3.length-1)).toNat 0) 64) (Az (A2 ((a4.Succ.getD (l3.getD (w64 (l3.length-1)).toNat 0).toNat []).getD (l32.getD (l3.getD (w64 (l3.length-1)).toNat 0).toNat 0).toNat 0) 64) (bif !l1.getD ((a4.Succ.getD (l3.getD (w64 (l3.length-1)).toNat 0).toNat []).getD (l32.getD (l3.getD (w64 (l3.length-1)).toNat 0).toNat 0).toNat 0).toNat false then Az (A2 ((a4.Succ.getD (l3.getD (w64 (l3.length-1)).toNat 0).toNat []).getD (l32.getD (l3.getD (w64 (l3.length-1)).toNat 0).toNat 0).toNat 0) 64) (Az (l3.length+[(a4.Succ.getD (l3.getD (w64 (l3.length-1)).toNat 0).toNat []).getD (l32.getD (l3.getD (w64 (l3.length-1)).toNat 0).toNat 0).toNat 0].length<=room) (some (.done (.inr (P4 64 false l1 ((a4.Succ.getD (l3.getD (w64 (l3.length-1)).toNat 0).toNat []).getD (l32.getD (l3.getD (w64 (l3.length-1)).toNat 0).toNat 0).toNat 0).toNat true,P4 64 0 l32 (l3.getD (w64 (l3.length-1)).toNat 0).toNat (w64 (l32.getD (l3.getD (w64 (l3.length-1)).toNat 0).toNat 0+1)),l3++[(a4.Succ.getD (l3.getD (w64 (l3.length-1)).toNat 0).toNat []).getD (l32.getD (l3.getD (w64 (l3.length-1)).toNat 0).toNat 0).toNat 0]))))) else some (.next (P4 64 0 l32 (l3.getD (w64 (l3.length-1)).toNat 0).toNat (w64 (l32.getD (l3.getD (w64 (l3.length-1)).toNat 0).toNat 0+1)))))))))) else some (.done (.inl l32))))
abbrev yT9:=(List Bool×Aw×Aw×Aw)
def E3(a4:TGraph):yT9->Option (LR (List Bool×Aw×Aw×Aw) Aw):=
 λs_=>match s_ with|(l1,l2,l3,l4)=>Az (A2 (w64 (l3.length-1)) l3.length) ((Ac   (Jc a4 l1 l3) l2).bind λx47=>match x47 with | .inl l33=>Az (l4.length+[l3.getD (w64 (l3.length-1)).toNat 0].length<=room) (Az (0<=w64 (l3.length-1)/\0+(w64 (l3.length-1)).toNat<=l3.length) (bif decide (0<((l3.take (w64 (l3.length-1)).toNat).length:Int)) then some (.next (l1,l33,l3.take (w64 (l3.length-1)).toNat,l4++[l3.getD (w64 (l3.length-1)).toNat 0])) else(Fu (l4++[l3.getD (w64 (l3.length-1)).toNat 0])).bind λx51=>Az ((l4++[l3.getD (w64 (l3.length-1)).toNat 0]).length=x51.length) (some (.done x51)))) | .inr (l34,l35,l36)=>some (.next (l34,l35,l36,l4)))
def UK(Γ:H3)(a4:TGraph)(a2:Int)(r:Aw):Exit->St->Prop:=fK Tryz.prog Γ Tryz.f151.results.toList [] (Vz r 20000) [(Yp 20000 r.length)]
def xF(l1:List Bool):=(λi=>eB (l1.getD i false))
def mV(l3:Aw):=(l3.getD (w64 ((l3.length:Int)-1)).toNat (0:Int))
def nL(l4:Aw)(l3:Aw):=(l4++([(mV l3)]:Aw))
def yF(l10:Aw):=(λi=>Aq (l10.getD i 0))
def yO(l33:Aw):=(λi=>Aq (l33.getD i 0))
def eY:=(λn_=>Bw n_ [2,5,6,25,36007])
def vT(a2:Int):=(λi=>Aq ([a2].getD i 0))
def ig(a2:Int):=([a2].getD (w64 (([a2].length:Int)-1)).toNat (0:Int))
def rH(a2:Int):=(([]:Aw)++([(ig a2)]:Aw))
def xH(a2:Int):=(λi=>Aq ((rH a2).getD i 0))
def xG(l4:Aw)(l3:Aw):=(λi=>Aq ((nL l4 l3).getD i 0))
def xE:AV:=fG
def zu:=(λi=>Aq (([]:Aw).getD i 0))
def vR(l3:Aw):=(0+(w64 ((l3.length:Int)-1)).toNat)
def xD(a2:Int):=(0+(w64 (([a2].length:Int)-1)).toNat)
def Q52(a2:Int):=([a2].take (w64 (([a2].length:Int)-1)).toNat)
def Q41:=(λi=>Aq ((List.replicate 64 (0:Int)).getD i 0))
def nA(a4:TGraph):List AV:=[(NO a4.Succ),(NO a4.Pred)]
def ub(a2:Int):=(λi=>eB ((P4 64 false (List.replicate 64 false) a2.toNat true).getD i false))
def rG(a4:TGraph)(l3:Aw)(l32:Aw):=((a4.Succ.getD (mV l3).toNat []).getD (l32.getD (mV l3).toNat (0:Int)).toNat (0:Int))
def rF(a4:TGraph)(a2:Int)(l9:Aw):=((a4.Succ.getD (ig a2).toNat []).getD (l9.getD (ig a2).toNat (0:Int)).toNat (0:Int))
def Q51:=(Z33:St)
def Q55(a2:Int):List MM:=[Uj,nX,nW,(7,(.vsl 36007 (rH a2).length)),(8,(.vsl 25 (xD a2)))]
def Q48(a2:Int)(a4:TGraph):=(⟨[Uj,nX,nW,(7,(.vsl 36007 ([]:Aw).length)),(8,(.vsl 25 [a2].length)),(9,(Z5 (ig a2)))],[(Pp 56 (nA a4)),(OR (ub a2)),(mZ Q41),(25,.arr 1 3 ([a2].length) (vT a2)),(36007,.arr 1 3 (([]:Aw).length) zu)],[]⟩:St)
def K9(a4:TGraph)(a2:Int):Option Aw:=
 (Rv   ((Uu a4).bind λx5=>(bif (!x5)==false then J8 a2 a4.Succ.length else some false).bind λx6=>bif bif !x5 then true else !x6 then some (.done []) else Az (A2 a2 64) (Az (A2 (w64 ([a2].length-1)) [a2].length) ((Ac   (JJ a4 a2) (List.replicate 64 0)).bind λx24=>match x24 with | .inl l10=>Az (([]:Aw).length+[[a2].getD (w64 ([a2].length-1)).toNat 0].length<=room) (Az (0<=w64 ([a2].length-1)/\0+(w64 ([a2].length-1)).toNat<=[a2].length) (bif decide (0<(([a2].take (w64 ([a2].length-1)).toNat).length:Int)) then some (.next (P4 64 false (List.replicate 64 false) a2.toNat true,l10,[a2].take (w64 ([a2].length-1)).toNat,[]++[[a2].getD (w64 ([a2].length-1)).toNat 0])) else(Fu ([]++[[a2].getD (w64 ([a2].length-1)).toNat 0])).bind λx28=>Az (([]++[[a2].getD (w64 ([a2].length-1)).toNat 0]).length=x28.length) (some (.done x28)))) | .inr (l11,l12,l13)=>some (.next (l11,l12,l13,[]))))) (E3 a4)).bind λx54=>some x54
theorem BC(h:K9 v18 v1=some v2):sP 151 (rK v18 v1) [] (Vz v2 20000) [(Yp 20000 v2.length)]:=
 sG Tryz.func151 λΓ q=>have hΓ:=q.own;gR q D7 [2] [(4,xE)] [] (c1 (B1 1 Aq (0:Int))) (tB h λx54 y54 h=>gS y54 (λ(s_:yT9)=>match s_ with|(l1,l2,l3,l4)=>0) (λ(s_:yT9)=>match s_ with|(l1,l2,l3,l4)=>(⟨[Uj,nX,nW,(Vi 36007 l4.length),(8,(.vsl 25 l3.length))],[(Pp 56 (nA v18)),(OR (xF l1)),(ya l2),(Z4 25 l3),(Z4 36007 l4)],[]⟩:St)) (λr_=>aR (UK Γ v18 v1 r_)) (λy h=>tB h λx5 y5 h=>tB h λx6 y6 h=>tT q [1,2,21] [2] [(Z2 x5),(Z2 x6)] (ci (am y5) (LJ ((!x5)==false) (c3 (λ(hg:((!x5)==false)=true)=>(Rq (Bf hg y6))) (gI ((!x5)==false)) (Lx (!x5))))) (gC h (λh=>gR q [4] [] [(4,xE)] [] (c1 (B1 1 Aq (0:Int))) (P6 (⟨[(4,xE)],[],[]⟩:St) (tS h (ee (Lj (H4 bT (show Le Γ _ Q51 from Le.trans (Bi (st':=⟨[(4,xE)],[],[]⟩) [4] [] q) (Le.trans (Rj (t:=4) (nm:=6004) (sz':=1) zu 3 rfl rfl (.inl ⟨rfl,rfl⟩) (λh_=>absurd h_ (by decide))) (Bi (st':=Q51) [4] [6004] q))))))))) λh=>gR q CQ Uh [nX] [] trivial (gLe (Sn 5 (show ∀ k_,k_<64->AVleL ((λi_=>AV.eraseAll (λn_=>Bw n_ Uh) ((λi=>(((List.replicate 64 [(.bool false)]).flatten).drop (i*1)).take 1) i_)) k_) ((λi=>eB ((List.replicate 64 false).getD i false)) k_) from(VZ (e:=eB) (d:=false) (z:=[(.bool false)]) rfl rfl rfl))) (gR q [1,2,5,6] W5 [nW] [] trivial (gLe (Sn 6 (show ∀ k_,k_<64->AVleL ((λi_=>AV.eraseAll (λn_=>Bw n_ W5) ((λi=>(((List.replicate 64 [L5]).flatten).drop (i*1)).take 1) i_)) k_) (Q41 k_) from(VZ (e:=Aq) (d:=(0:Int)) (z:=[L5]) rfl rfl rfl))) (gR q iQ W5 [(7,xE)] [] (c1 (B1 1 Aq (0:Int))) (tC h λc7_ h=>tU q iQ W5 (c2 c7_ (Eq.refl 64)) (gLe (Sn 5 (show ∀ k_,k_<64->AVleL ((λi_=>AV.eraseAll (λn_=>Bw n_ W5) ((Fd (λi=>eB ((List.replicate 64 false).getD i false)) v1.toNat 0 [(.bool true)]) i_)) k_) ((ub v1) k_) from(Bh rfl (λk_ hk_=>(Bj (AV.eraseAll (λn_=>Bw n_ W5)) ((Wh (λ_ _=>rfl) (Qi c7_) rfl) k_ hk_)).trans rfl)))) (gR q CP bY [(25,(.vsl 25 1))] [] trivial (gLe (Le.trans (Sn 25 (show ∀ k_,k_<1->AVleL ((λi_=>AV.eraseAll (λn_=>Bw n_ bY) ((λi_=>([(Z5 v1)].drop (i_*1)).take 1) i_)) k_) ((vT v1) k_) from(Bh rfl (bE (n:=0) gf rfl)))) (R8 (λ(k_:Nat) u=>(Cp u [(8,(.vsl 25 k_))] [(25,.arr 1 3 k_ (vT v1))])) (show 1=[v1].length from rfl))) (tC h λc8_ h=>tU q EX bY (c2 c8_ (Eq.refl ([v1].length))) (gLe (st':=(Q48 v1 v18)) (Le.trans (Bi (st':=⟨[Uj,nX,nW,(7,xE),(8,(.vsl 25 [v1].length)),(9,(Z5 (ig v1)))],[(Pp 56 (nA v18)),(OR (ub v1)),(mZ Q41),(25,.arr 1 3 ([v1].length) (vT v1))],[]⟩) EX bY q) (Le.trans (QC (t:=7) (nm:=36007) (sz':=1) zu 3 rfl rfl) (Bi (st':=(Q48 v1 v18)) EX P5 q))) (tL q h EX P5 (λu l9=>(Cp u [] [(ya l9)])) (λu x_=>match x_ with|(.inl l10)=>aG Γ (.exit 0) (Cp u [] [(mZ (yF l10))])|(.inr (l11,l12,l13))=>aG Γ (.goto 0) (Nf CP P5 u [(8,(.vsl 25 l13.length))] [(5,.arr 1 230 64 (λi=>eB (l11.getD i false))),(ya l12),(Z4 25 l13)])) (λl9 y h=>tC h λc14_ h=>tC h λc15_ h=>tU q [2,5,6,7,8,9,41] P5 (c3 c14_ (Eq.refl 64) c15_) (gC h (λh=>tC h λc16_ h=>tC h λc17_ h=>tC h λc18_ h=>tU q bP P5 (c4 c16_ c17_ (Eq.refl 64) c18_) (tC h λc19_ h=>tC h λc20_ h=>tU q bP P5 (c4 c19_ (Eq.refl 64) c20_ (Eq.refl 64)) (gLe (Sn 6 (show ∀ k_,k_<64->AVleL ((λi_=>AV.eraseAll eY ((Fd (λi=>Aq (l9.getD i 0)) (ig v1).toNat 0 [(.int .i64 (w64 ((l9.getD (ig v1).toNat (0:Int))+1)))]) i_)) k_) ((λi=>Aq ((P4 64 (0:Int) l9 (ig v1).toNat (w64 ((l9.getD (ig v1).toNat (0:Int))+1))).getD i 0)) k_) from(Bh rfl (λk_ hk_=>(Bj (AV.eraseAll eY) ((Wh (λ_ _=>rfl) (Qi c20_) rfl) k_ hk_)).trans rfl)))) (tC h λc21_ h=>tU q qv P5 (c2 c21_ (Eq.refl 64)) (gC h (λh=>tC h λc22_ h=>tU q [2,5,6,7,8,10] P5 (c2 c22_ (Eq.refl 64)) (gLe (Sn 5 (show ∀ k_,k_<64->AVleL ((λi_=>AV.eraseAll eY ((Fd (ub v1) (rF v18 v1 l9).toNat 0 [(.bool true)]) i_)) k_) ((λi=>eB ((P4 64 false (P4 64 false (List.replicate 64 false) v1.toNat true) (rF v18 v1 l9).toNat true).getD i false)) k_) from(Bh rfl (λk_ hk_=>(Bj (AV.eraseAll eY) ((Wh (λ_ _=>rfl) (Qi c22_) rfl) k_ hk_)).trans rfl)))) (tC h λc23_ h=>gR q CP P5 [(65,(uf (rF v18 v1 l9)))] [] (c3 (Br 1 Aq (0:Int) ([(rF v18 v1 l9)]:Aw)) (Eq.refl ([v1].length)) c23_) (tS h (gO (Be (Le.trans (Le.trans (Sn 25 (show ∀ k_,k_<([v1].length+([(rF v18 v1 l9)]:Aw).length)->AVleL ((λi_=>AV.eraseAll eY ((Ox ([v1].length) (vT v1) (λi=>Aq (([(rF v18 v1 l9)]:Aw).getD i 0))) i_)) k_) ((λi=>Aq (([v1]++([(rF v18 v1 l9)]:Aw)).getD i 0)) k_) from(Bh (E2 _ _) (λk_ hk_=>(Bj (AV.eraseAll eY) ((GO (λ_ _=>rfl) (λ_ _=>rfl)) k_ hk_)).trans rfl)))) (R8 (λ(k_:Nat) u=>(Cp u [(8,(.vsl 25 k_))] [(25,.arr 1 3 k_ (λi=>Aq (([v1]++([(rF v18 v1 l9)]:Aw)).getD i 0)))])) (show([v1].length+([(rF v18 v1 l9)]:Aw).length)=([v1]++([(rF v18 v1 l9)]:Aw)).length from(E2 _ _)))) Io))))))) λh=>tS h (gN (Bi EX P5 q))))))) λh=>tS h (gO (Be (Bi EX P5 q))))) λx24 h=>(match x24,h with | .inl l10,h=>gA (tC h λc26_ h=>gR q CP P5 [(69,(uf (ig v1)))] [] (c3 (Br 1 Aq (0:Int) ([(ig v1)]:Aw)) (Eq.refl (([]:Aw).length)) c26_) (gLe (Le.trans (Sn 36007 (show ∀ k_,k_<(([]:Aw).length+([(ig v1)]:Aw).length)->AVleL ((λi_=>AV.eraseAll eY ((Ox (([]:Aw).length) zu (λi=>Aq (([(ig v1)]:Aw).getD i 0))) i_)) k_) ((xH v1) k_) from(Bh (E2 _ _) (λk_ hk_=>(Bj (AV.eraseAll eY) ((GO (λ_ _=>rfl) (λ_ _=>rfl)) k_ hk_)).trans rfl)))) (R8 (λ(k_:Nat) u=>(Cp u [(Vi 36007 k_)] [(36007,.arr 1 3 k_ (xH v1))])) (show(([]:Aw).length+([(ig v1)]:Aw).length)=(rH v1).length from(E2 _ _)))) (tC h λc27_ h=>tU q CP P5 (c1 c27_) (P6 (⟨[Uj,nX,nW,(7,(.vsl 36007 (rH v1).length)),(8,(.vsub 25 [v1].length 0 (xD v1)))],[(Pp 56 (nA v18)),(OR (ub v1)),(mZ (yF l10)),(25,.arr 1 3 ([v1].length) (vT v1)),(36007,.arr 1 3 ((rH v1).length) (xH v1))],[]⟩:St) (gLe (Le.trans (Le.trans (cw (t:=8) (r:=25) (k:=(xD v1)) rfl rfl c27_.2 (by kernel_rfl) (.row (by kernel_rfl) (.arr (λ_=>by kernel_rfl) (.arr (λ_=>by kernel_rfl) (.arr (λ_=>by kernel_rfl) (.arr (λ_=>by kernel_rfl) .nil))))) (by rw[hΓ];rfl)) (Gs (st':=⟨(Q55 v1),[(Pp 56 (nA v18)),(OR (ub v1)),(mZ (yF l10)),(25,.arr 1 3 (xD v1) (vT v1)),(36007,.arr 1 3 ((rH v1).length) (xH v1))],[]⟩) (by kernel_rfl))) (Le.trans (I6 (st':=⟨(Q55 v1),[(Pp 56 (nA v18)),(OR (ub v1)),(mZ (yF l10)),(25,.arr 1 3 (xD v1) (λi=>Aq ((Q52 v1).getD i 0))),(36007,.arr 1 3 ((rH v1).length) (xH v1))],[]⟩) (TmpsLe.refl _) (.same (.same (.same (.arr (j4 (e:=Aq) (d:=(0:Int))) (.same .nil)))))) (Gs (Bj (λk_:Nat=>(⟨[Uj,nX,nW,(7,(.vsl 36007 (rH v1).length)),(8,(.vsl 25 k_))],[(Pp 56 (nA v18)),(OR (ub v1)),(mZ (yF l10)),(25,.arr 1 3 k_ (λi=>Aq ((Q52 v1).getD i 0))),(36007,.arr 1 3 ((rH v1).length) (xH v1))],[]⟩:St)) (show(xD v1)=(Q52 v1).length from eI c27_.2))))) (Af q [2,5,6,7,8,78] P5 (gC h (λh=>tS h (fg (Bi CP P5 q))) λh=>tB h λx28 y28 h=>tC h λc29_ h=>tT q [7] [36007] [⟨[(36007,34000)],[],(.tuple []),[(Z4 34000 x28)],[],[]⟩] (c1 (Ok y28)) (gLe (R8 (λ(k_:Nat) u=>(Cp u [(Vi 36007 k_)] [])) (show(rH v1).length=x28.length from c29_)) (Af q [4] [36007] (P6 (⟨[(4,(.vsl 36007 x28.length))],[(Z4 36007 x28)],[]⟩:St) (tS h (ee (Lj (H4 [(36007,20000)] (Le.trans (le_freeze (nm:=36007) (sz:=1) (n:=x28.length) (e:=3) (f:=(λi=>Aq (x28.getD i 0))) (g:=(λi=>Aq (x28.getD i 0))) rfl ⟨rfl,trivial⟩ (λ_ _=>rfl) (by rw[hΓ];rfl)) (Gs (st':=⟨[(4,(Vz x28 36007))],[(Yp 36007 x28.length)],[]⟩) (by kernel_rfl))))))))))))))))) | .inr ⟨l11,l12,l13⟩,h=>ut (λst' hl30=>tS h (fg (Le.trans hl30 Io))))))))))))))))) (λ⟨l1,l2,l3,l4⟩ y h=>tC h λc31_ h=>tU q EX P5 (c2 c31_ (Eq.refl l3.length)) (tL q h EX P5 (λu l32=>(Cp u [] [(ya l32)])) (λu x_=>match x_ with|(.inl l33)=>aG Γ (.exit 0) (Cp u [] [(mZ (yO l33))])|(.inr (l34,l35,l36))=>aG Γ (.goto 0) (Nf CP P5 u [(8,(.vsl 25 l36.length))] [(5,.arr 1 230 64 (λi=>eB (l34.getD i false))),(ya l35),(Z4 25 l36)])) (λl32 y h=>tC h λc37_ h=>tC h λc38_ h=>tU q [2,5,6,7,8,9,41] P5 (c3 c37_ (Eq.refl 64) c38_) (gC h (λh=>tC h λc39_ h=>tC h λc40_ h=>tC h λc41_ h=>tU q bP P5 (c4 c39_ c40_ (Eq.refl 64) c41_) (tC h λc42_ h=>tC h λc43_ h=>tU q bP P5 (c4 c42_ (Eq.refl 64) c43_ (Eq.refl 64)) (gLe (Sn 6 (show ∀ k_,k_<64->AVleL ((λi_=>AV.eraseAll eY ((Fd (λi=>Aq (l32.getD i 0)) (mV l3).toNat 0 [(.int .i64 (w64 ((l32.getD (mV l3).toNat (0:Int))+1)))]) i_)) k_) ((λi=>Aq ((P4 64 (0:Int) l32 (mV l3).toNat (w64 ((l32.getD (mV l3).toNat (0:Int))+1))).getD i 0)) k_) from(Bh rfl (λk_ hk_=>(Bj (AV.eraseAll eY) ((Wh (λ_ _=>rfl) (Qi c43_) rfl) k_ hk_)).trans rfl)))) (tC h λc44_ h=>tU q qv P5 (c2 c44_ (Eq.refl 64)) (gC h (λh=>tC h λc45_ h=>tU q [2,5,6,7,8,10] P5 (c2 c45_ (Eq.refl 64)) (gLe (Sn 5 (show ∀ k_,k_<64->AVleL ((λi_=>AV.eraseAll eY ((Fd (xF l1) (rG v18 l3 l32).toNat 0 [(.bool true)]) i_)) k_) ((λi=>eB ((P4 64 false l1 (rG v18 l3 l32).toNat true).getD i false)) k_) from(Bh rfl (λk_ hk_=>(Bj (AV.eraseAll eY) ((Wh (λ_ _=>rfl) (Qi c45_) rfl) k_ hk_)).trans rfl)))) (tC h λc46_ h=>gR q CP P5 [(65,(uf (rG v18 l3 l32)))] [] (c3 (Br 1 Aq (0:Int) ([(rG v18 l3 l32)]:Aw)) (Eq.refl l3.length) c46_) (tS h (gO (Be (Le.trans (Le.trans (Sn 25 (show ∀ k_,k_<(l3.length+([(rG v18 l3 l32)]:Aw).length)->AVleL ((λi_=>AV.eraseAll eY ((Ox l3.length (λi=>Aq (l3.getD i 0)) (λi=>Aq (([(rG v18 l3 l32)]:Aw).getD i 0))) i_)) k_) ((λi=>Aq ((l3++([(rG v18 l3 l32)]:Aw)).getD i 0)) k_) from(Bh (E2 _ _) (λk_ hk_=>(Bj (AV.eraseAll eY) ((GO (λ_ _=>rfl) (λ_ _=>rfl)) k_ hk_)).trans rfl)))) (R8 (λ(k_:Nat) u=>(Cp u [(8,(.vsl 25 k_))] [(25,.arr 1 3 k_ (λi=>Aq ((l3++([(rG v18 l3 l32)]:Aw)).getD i 0)))])) (show(l3.length+([(rG v18 l3 l32)]:Aw).length)=(l3++([(rG v18 l3 l32)]:Aw)).length from(E2 _ _)))) Io))))))) λh=>tS h (gN (Bi EX P5 q))))))) λh=>tS h (gO (Be (Bi EX P5 q))))) λx47 h=>(match x47,h with | .inl l33,h=>gA (tC h λc49_ h=>gR q CP P5 [(69,(uf (mV l3)))] [] (c3 (Br 1 Aq (0:Int) ([(mV l3)]:Aw)) (Eq.refl l4.length) c49_) (gLe (Le.trans (Sn 36007 (show ∀ k_,k_<(l4.length+([(mV l3)]:Aw).length)->AVleL ((λi_=>AV.eraseAll eY ((Ox l4.length (λi=>Aq (l4.getD i 0)) (λi=>Aq (([(mV l3)]:Aw).getD i 0))) i_)) k_) ((xG l4 l3) k_) from(Bh (E2 _ _) (λk_ hk_=>(Bj (AV.eraseAll eY) ((GO (λ_ _=>rfl) (λ_ _=>rfl)) k_ hk_)).trans rfl)))) (R8 (λ(k_:Nat) u=>(Cp u [(Vi 36007 k_)] [(36007,.arr 1 3 k_ (xG l4 l3))])) (show(l4.length+([(mV l3)]:Aw).length)=(nL l4 l3).length from(E2 _ _)))) (tC h λc50_ h=>tU q CP P5 (c1 c50_) (P6 (⟨[Uj,nX,nW,(7,(.vsl 36007 (nL l4 l3).length)),(8,(.vsub 25 l3.length 0 (vR l3)))],[(Pp 56 (nA v18)),(OR (xF l1)),(mZ (yO l33)),(Z4 25 l3),(36007,.arr 1 3 ((nL l4 l3).length) (xG l4 l3))],[]⟩:St) (gLe (Le.trans (Le.trans (cw (t:=8) (r:=25) (k:=(vR l3)) rfl rfl c50_.2 (by kernel_rfl) (.row (by kernel_rfl) (.arr (λ_=>by kernel_rfl) (.arr (λ_=>by kernel_rfl) (.arr (λ_=>by kernel_rfl) (.arr (λ_=>by kernel_rfl) .nil))))) (by rw[hΓ];rfl)) (Gs (st':=⟨[Uj,nX,nW,(7,(.vsl 36007 (nL l4 l3).length)),(8,(.vsl 25 (vR l3)))],[(Pp 56 (nA v18)),(OR (xF l1)),(mZ (yO l33)),(25,.arr 1 3 (vR l3) (λi=>Aq (l3.getD i 0))),(36007,.arr 1 3 ((nL l4 l3).length) (xG l4 l3))],[]⟩) (by kernel_rfl))) (Le.trans (I6 (st':=⟨[Uj,nX,nW,(7,(.vsl 36007 (nL l4 l3).length)),(8,(.vsl 25 (vR l3)))],[(Pp 56 (nA v18)),(OR (xF l1)),(mZ (yO l33)),(25,.arr 1 3 (vR l3) (λi=>Aq ((l3.take (w64 ((l3.length:Int)-1)).toNat).getD i 0))),(36007,.arr 1 3 ((nL l4 l3).length) (xG l4 l3))],[]⟩) (TmpsLe.refl _) (.same (.same (.same (.arr (j4 (e:=Aq) (d:=(0:Int))) (.same .nil)))))) (Gs (Bj (λk_:Nat=>(⟨[Uj,nX,nW,(7,(.vsl 36007 (nL l4 l3).length)),(8,(.vsl 25 k_))],[(Pp 56 (nA v18)),(OR (xF l1)),(mZ (yO l33)),(25,.arr 1 3 k_ (λi=>Aq ((l3.take (w64 ((l3.length:Int)-1)).toNat).getD i 0))),(36007,.arr 1 3 ((nL l4 l3).length) (xG l4 l3))],[]⟩:St)) (show(vR l3)=(l3.take (w64 ((l3.length:Int)-1)).toNat).length from eI c50_.2))))) (Af q [2,5,6,7,8,78] P5 (gC h (λh=>tS h (fg (Bi CP P5 q))) λh=>tB h λx51 y51 h=>tC h λc52_ h=>tT q [7] [36007] [⟨[(36007,34000)],[],(.tuple []),[(Z4 34000 x51)],[],[]⟩] (c1 (Ok y51)) (gLe (R8 (λ(k_:Nat) u=>(Cp u [(Vi 36007 k_)] [])) (show(nL l4 l3).length=x51.length from c52_)) (Af q [4] [36007] (P6 (⟨[(4,(.vsl 36007 x51.length))],[(Z4 36007 x51)],[]⟩:St) (tS h (ee (Lj (H4 [(36007,20000)] (Le.trans (le_freeze (nm:=36007) (sz:=1) (n:=x51.length) (e:=3) (f:=(λi=>Aq (x51.getD i 0))) (g:=(λi=>Aq (x51.getD i 0))) rfl ⟨rfl,trivial⟩ (λ_ _=>rfl) (by rw[hΓ];rfl)) (Gs (st':=⟨[(4,(Vz x51 36007))],[(Yp 36007 x51.length)],[]⟩) (by kernel_rfl))))))))))))))))) | .inr ⟨l34,l35,l36⟩,h=>ut (λst' hl53=>tS h (fg (Le.trans hl53 Io)))))) (Oz (λst' hk=>tS h (gK hk))))
def HK(aD:Int)(aZ:Int):Option J5:=
 some (Ir (Ir (Ir (Wn .u64 aD 32*Wn .u64 aZ 32)+Wn .u64 (Ir (Ir (Wn .u64 aD 32*Uo .and .u64 aZ 4294967295)+Wn .u64 (Ir (Uo .and .u64 aD 4294967295*Uo .and .u64 aZ 4294967295)) 32)) 32)+Wn .u64 (Ir (Uo .and .u64 (Ir (Ir (Wn .u64 aD 32*Uo .and .u64 aZ 4294967295)+Wn .u64 (Ir (Uo .and .u64 aD 4294967295*Uo .and .u64 aZ 4294967295)) 32)) 4294967295+Ir (Uo .and .u64 aD 4294967295*Wn .u64 aZ 32))) 32),Ir (aD*aZ))
variable{v19:J5}
theorem VB(h:HK v1 v11=some v19):sP 247 (wC v1 v11) [] (.tuple (wC v19.1 v19.2)) []:=
 sG Tryz.func247 λΓ q=>tW q Gn [] [0,1,6] [] (tU q TM [] (c1 (show(0<=(32:Int)) from(by decide))) (Af q TC [] (tU q [0,1,6,7,8,9] [] (c1 (show(0<=(32:Int)) from(by decide))) (Af q [0,1,6,7,8,9,10] [] (tU q [0,1,6,7,9,11] [] (c1 (show(0<=(32:Int)) from(by decide))) (Af q [0,1,6,7,9,11,12] [] (tU q [0,1,6,7,9,12,13] [] (c1 (show(0<=(32:Int)) from(by decide))) (Af q [0,1,7,9,12,13] [] (tU q [0,1,4] [] (c1 (show(0<=(32:Int)) from(by decide))) (Af q [4,5] [] (tS h (Cc []))))))))))))
def Rl(aD:Int)(aZ:Int):Option J5:=
 (HK aD aZ).bind λx1=>some (x1.1,x1.2)
theorem LT(h:Rl v1 v11=some v19):sP 209 (wC v1 v11) [] (.tuple (wC v19.1 v19.2)) []:=
 sG Tryz.func209 λΓ q=>Af q Gn [] (oz false (tB h λx1 y1 h=>tT q [8,9] [] [⟨[],[],(.tuple (wC x1.1 x1.2)),[],[],[]⟩] (c1 (VB y1)) (Af q [4,5] [] (tS h (Cc [])))))
abbrev eQ:=(Int×Aw)
abbrev qf:=(LR (Int×Aw) Aw)
def Dl :eQ->Option qf:=
 λ(i7,l8)=>bif decide (i7<l8.length) then Az (0<=i7/\0+i7.toNat<=l8.length) (Az (0<=i7/\0+i7.toNat<=l8.length) (some (.next (w64 (i7+Nat.min (0+i7.toNat-0) (l8.length-(0+i7.toNat))),NV l8 (0+i7.toNat) (Nat.min (0+i7.toNat-0) (l8.length-(0+i7.toNat))) λi=>l8.getD (0+i) 0)))) else some (.done l8)
def nO(x3:J5):=(List.replicate (w64 x3.2).toNat (0:Int))
def Q58(x3:J5)(aD:Aw):=(NV (nO x3) 0 (Nat.min aD.length ((nO x3).length-0)) (λi=>aD.getD i 0))
def Q57(l8:Aw)(i7:Int):=(NV l8 (0+i7.toNat) (Nat.min ((0+i7.toNat)-0) (l8.length-(0+i7.toNat))) (λi=>l8.getD (0+i) 0))
def In(aD:Aw)(aa8:Int):Option Aw:=
 Option.bind  (bif decide (aa8<0) then none else some ()) λx1=>match x1 with|_=>(Rl (Ir aD.length) (Ir aa8)).bind λx3=>Option.bind  (bif bif decide (0<x3.1) then true else decide (9223372036854775807<x3.2) then none else some ()) λx4=>match x4 with|_=>Az (0<=w64 x3.2/\w64 x3.2<=w64 x3.2/\w64 x3.2<=room) ((Ac   Dl (Nat.min aD.length ((List.replicate (w64 x3.2).toNat (0:Int)).length-0),NV (List.replicate (w64 x3.2).toNat 0) 0 (Nat.min aD.length ((List.replicate (w64 x3.2).toNat (0:Int)).length-0)) λi=>aD.getD i 0)).bind λx12=>some x12)
theorem Vt(h:In v2 v1=some v17):sP 197 [(Z6 v2),(Z5 v1)] [] (.vsl 20000 v17.length) [(Z4 20000 v17)]:=
 sG Tryz.func197 λΓ q=>gR q Gn [] [(4,fG)] [] (c1 (B1 1 Aq (0:Int))) (tB h λx1 y1 h=>gJ y1 (λ_=>aG Γ .normal (⟨[(0,(Z6 v2)),(1,(Z5 v1))],[],[]⟩:St)) (λy h=>Af q Ym [] (gC h (λh=>nomatch h) λh=>tS h (gK (Be (Bi Gn [] q))))) (gA (tB h λx3 y3 h=>tT q [0,5,6] [] [⟨[],[],(.tuple (wC x3.1 x3.2)),[],[],[]⟩] (c1 (LT y3)) (tB h λx4 y4 h=>gJ y4 (λ_=>aG Γ .normal (⟨[(0,(Z6 v2)),(6,(.int .u64 x3.2))],[],[]⟩:St)) (λy h=>tU q [0,6,26] [] (c2 (gI ((decide ((0:Int)<x3.1))==false)) (Lx (decide ((0:Int)<x3.1)))) (gC h (λh=>nomatch h) λh=>tS h (gK (Be (Bi [0,6] [] q))))) (gA (tV q [0,7] [30] h λh=>by exact gLe (Le.trans (Sn 30 (show ∀ k_,k_<((w64 x3.2).toNat)->AVleL ((λi_=>AV.eraseAll (λn_=>Bw n_ [30]) ((λ_=>[L5]) i_)) k_) ((λi=>Aq ((nO x3).getD i 0)) k_) from(λk hk=>M5 (e:=Aq) (d:=(0:Int)) (.cons (AVle.refl _) .nil) _ k (M6 hk)))) (R8 (λ(k_:Nat) u=>(Cp u [(Vi 30 k_)] [(30,.arr 1 3 k_ (λi=>Aq ((nO x3).getD i 0)))])) (show(w64 x3.2).toNat=(nO x3).length from(N5 ..).symm))) (tU q [7,8] [30] (c1 (Eq.refl ((nO x3).length))) (gLe (Le.trans (Sn 30 (show ∀ k_,k_<((nO x3).length)->AVleL ((λi_=>AV.eraseAll (λn_=>Bw n_ [30]) ((WD (λi=>Aq ((nO x3).getD i 0)) 0 (Nat.min v2.length ((nO x3).length-0)) (λi=>Aq (v2.getD i 0))) i_)) k_) ((λi=>Aq ((Q58 x3 v2).getD i 0)) k_) from(Bh (Ek ..) (λk_ hk_=>(Bj (AV.eraseAll (λn_=>Bw n_ [30])) ((NU (e:=Aq) (d:=(0:Int)) (l:=(nO x3)) (s:=(λi=>v2.getD i 0)) (λ_ _=>rfl) (λ_ _=>rfl)) k_ hk_)).trans rfl)))) (R8 (λ(k_:Nat) u=>(Cp u [(Vi 30 k_)] [(30,.arr 1 3 k_ (λi=>Aq ((Q58 x3 v2).getD i 0)))])) (show(nO x3).length=(Q58 x3 v2).length from(Ek ..)))) (tL q h [7,8] [30] (λu (i7,l8)=>(Cp u [(Vi 30 l8.length),(8,(Z5 i7))] [(Z4 30 l8)])) (λu l9=>aG Γ (.exit 0) (⟨[(Vi 30 l9.length)],[(Z4 30 l9)],[]⟩:St)) (λ⟨i7,l8⟩ y h=>Af q [7,8,37] [30] (gC h (λh=>tC h λc10_ h=>tC h λc11_ h=>tU q [7,8] [30] (c4 c10_ c11_ (Eq.refl l8.length) (Eq.refl l8.length)) (tS h (gN (Le.trans (Le.trans (Sn 30 (show ∀ k_,k_<l8.length->AVleL ((λi_=>AV.eraseAll (λn_=>Bw n_ [30]) ((WD (λi=>Aq (l8.getD i 0)) (0+i7.toNat) (Nat.min ((0+i7.toNat)-0) (l8.length-(0+i7.toNat))) (λi=>(λi=>Aq (l8.getD i 0)) (0+i))) i_)) k_) ((λi=>Aq ((Q57 l8 i7).getD i 0)) k_) from(Bh (Ek ..) (λk_ hk_=>(Bj (AV.eraseAll (λn_=>Bw n_ [30])) ((NU (e:=Aq) (d:=(0:Int)) (l:=l8) (s:=(λi=>l8.getD (0+i) 0)) (λ_ _=>rfl) (λ_ _=>rfl)) k_ hk_)).trans rfl)))) (R8 (λ(k_:Nat) u=>(Cp u [(Vi 30 k_)] [(30,.arr 1 3 k_ (λi=>Aq ((Q57 l8 i7).getD i 0)))])) (show l8.length=(Q57 l8 i7).length from(Ek ..)))) Io)))) λh=>tS h (gO (Be (Bi [7] [30] q))))) λx12 h=>gA (Af q [4] [30] (tS h (Cc [(30,20000)]))))))))))))
abbrev bK:=(Int×List Bool)
abbrev bL:=(LR (Int×List Bool) (List Bool))
def K8(a9:Aw):bK->Option bL:=
 λ(i2,l3)=>bif i2 !=-1 then Az (A2 i2 l3.length) (Az (A2 i2 a9.length) (some (.next (a9.getD i2.toNat 0,l3.set i2.toNat true)))) else some (.done l3)
def I7(a9:Aw)(l4:List Bool):Int->Option (LR Int Int):=
 λi9=>Az (A2 i9 l4.length) (bif !l4.getD i9.toNat false then Az (A2 i9 a9.length) (some (.next (a9.getD i9.toNat 0))) else some (.done i9))
def Rn(a9:Aw)(a8:Int)(aE:Int):Option Int:=
 Az (0<=(a9.length:Int)/\(a9.length:Int)<=a9.length/\(a9.length:Int)<=room) ((Ac   (K8 a9) (a8,List.replicate (a9.length:Int).toNat false)).bind λx7=>(Ac   (I7 a9 x7) aE).bind λx13=>some x13)
variable{v20:Int}
theorem LU(h:Rn v2 v1 v11=some v20):sP 240 [(Z6 v2),(Z5 v1),(Z5 v11)] [] (.int .i64 v20) []:=
 sG Tryz.func240 λΓ q=>Af q TT [] (tV q [0,1,2,7] [11] h λh=>by exact gLe (Le.trans (Sn 11 (show ∀ k_,k_<((v2.length:Int).toNat)->AVleL ((λi_=>AV.eraseAll (λn_=>Bw n_ [11]) ((λ_=>[(.bool false)]) i_)) k_) ((λi=>eB ((List.replicate (v2.length:Int).toNat false).getD i false)) k_) from(λk hk=>M5 (e:=eB) (d:=false) (.cons (AVle.refl _) .nil) _ k (M6 hk)))) (R8 (λ(k_:Nat) u=>(Cp u [(Vi 11 k_)] [(11,.arr 1 4 k_ (λi=>eB ((List.replicate (v2.length:Int).toNat false).getD i false)))])) (show(v2.length:Int).toNat=(List.replicate (v2.length:Int).toNat false).length from(N5 ..).symm))) (Af q ba [11] (tL q h ba [11] (λu (i2,l3)=>(Cp u [(Vi 11 l3.length),(8,(Z5 i2))] [(Z9 11 l3)])) (λu l4=>aG Γ (.exit 0) (Nf TU [11] u [(Vi 11 l4.length)] [(Z9 11 l4)])) (λ⟨i2,l3⟩ y h=>Af q [0,2,7,8,14] [11] (gC h (λh=>tC h λc5_ h=>tU q ba [11] (c2 c5_ (Eq.refl l3.length)) (gLe (Le.trans (Sn 11 (show ∀ k_,k_<l3.length->AVleL ((λi_=>AV.eraseAll (λn_=>Bw n_ [11]) ((Fd (λi=>eB (l3.getD i false)) i2.toNat 0 [(.bool true)]) i_)) k_) ((λi=>eB ((l3.set i2.toNat true).getD i false)) k_) from(Bh (Dc ..).symm (λk_ hk_=>(Bj (AV.eraseAll (λn_=>Bw n_ [11])) ((Fv (λ_ _=>rfl) (Hv c5_) rfl) k_ hk_)).trans rfl)))) (R8 (λ(k_:Nat) u=>(Cp u [(Vi 11 k_)] [(11,.arr 1 4 k_ (λi=>eB ((l3.set i2.toNat true).getD i false)))])) (show l3.length=(l3.set i2.toNat true).length from(Dc ..).symm))) (tV q ba [11] h λh=>tN h))) λh=>tS h (gO (Be (Bi TU [11] q))))) λx7 h=>gA (tL q h TU [11] (λu i9=>(Cp u [(2,(Z5 i9))] [])) (λu i10=>aG Γ (.exit 2) (⟨[(2,(Z5 i10))],[],[]⟩:St)) (λi9 y h=>tC h λc11_ h=>tU q [0,2,7,26] [11] (c2 c11_ (Eq.refl x7.length)) (gC h (λh=>tV q TU [11] h λh=>tN h) λh=>tS h (gO (Be (Bi [2] [] q))))) λx13 h=>gA (Af q [6] [] (tS h (Cc [])))))))
set_option maxRecDepth 100000
set_option maxHeartbeats 2000000
def F7(a9:Aw)(aA:Aw):J5->Option uS:=
 λ(i1,i2)=>bif decide (i2<aA.length) then Option.bind  (Az (A2 i2 aA.length) (Az (A2 (aA.getD i2.toNat 0) a9.length) (bif a9.getD (aA.getD i2.toNat 0).toNat 0==-2 then some i1 else bif i1==-2 then some (aA.getD i2.toNat 0) else(Rn a9 i1 (aA.getD i2.toNat 0)).bind λx7=>some x7))) λx8=>some (.next (x8,w64 (i2+1))) else some (.done i1)
def Mv(a9:Aw)(aA:Aw):Option Int:=
 (Ac   (F7 a9 aA) (-2,0)).bind λx10=>some x10
theorem BB(h:Mv v2 v17=some v1):sP 198 [(Z6 v2),(Z6 v17)] [] (.int .i64 v1) []:=
 sG Tryz.func198 λΓ q=>tW q Gn [] Nb [] (Af q YP [] (tL q h YP [] (λu (i1,i2)=>(Cp u [(5,(Z5 i1)),(10,(Z5 i2))] [])) (λu i3=>aG Γ (.exit 0) (⟨[(5,(Z5 i3))],[],[]⟩:St)) (λ⟨i1,i2⟩ y h=>Af q [0,5,8,9,10,11] [] (gC h (λh=>tB h λx8 y8 h=>gJ y8 (λi4=>aG Γ .normal (⟨[(0,(Z6 v2)),(5,(Z5 i4)),(8,(Z6 v17)),(9,(.int .i64 (v17.length:Int))),(10,(Z5 i2))],[],[]⟩:St)) (λy h=>tV q [0,5,7,8,9,10] [] h λh=>tV q [0,5,7,8,9,10,18] [] h λh=>gC h (λh=>tS h (gK (Be (Bi YP [] q)))) λh=>Af q [0,5,7,8,9,10,24] [] (gC h (λh=>Af q YP [] (tS h (gK (Be Io)))) λh=>tB h λx7 y7 h=>tT q YP [] [(UF x7)] (c1 (LU y7)) (tS h (gK (Be Io))))) (gA (Af q YP [] (tN h)))) λh=>tS h (gO (Be (Bi [5] [] q))))) λx10 h=>gA (Af q [4] [] (tS h (Cc [])))))
abbrev zU:=(LR (Bool×Int×Aw) (Bool×Aw))
def Fm(a4:TGraph)(x3:Aw):(Bool×Int×Aw)->Option zU:=
 λ(b7,i8,l9)=>bif decide (i8<(x3.drop (1:Int).toNat).length) then Option.bind  (Az (A2 i8 (x3.drop (1:Int).toNat).length) (Az (A2 ((x3.drop (1:Int).toNat).getD i8.toNat 0) a4.Pred.length) ((Mv l9 (a4.Pred.getD ((x3.drop (1:Int).toNat).getD i8.toNat 0).toNat [])).bind λx16=>Az (A2 ((x3.drop (1:Int).toNat).getD i8.toNat 0) l9.length) (bif x16 !=l9.getD ((x3.drop (1:Int).toNat).getD i8.toNat 0).toNat 0 then Az (A2 ((x3.drop (1:Int).toNat).getD i8.toNat 0) l9.length) (some (true,l9.set ((x3.drop (1:Int).toNat).getD i8.toNat 0).toNat x16)) else some (b7,l9))))) λx19=>match x19 with|(b12,l13)=>some (.next (b12,w64 (i8+1),l13)) else some (.done (b7,l9))
def Vl(a4:TGraph)(l1:Aw):(Bool×Int×Aw)->Option zU:=
 λ(b24,i25,l26)=>bif decide (i25<(l1.drop (1:Int).toNat).length) then Option.bind  (Az (A2 i25 (l1.drop (1:Int).toNat).length) (Az (A2 ((l1.drop (1:Int).toNat).getD i25.toNat 0) a4.Pred.length) ((Mv l26 (a4.Pred.getD ((l1.drop (1:Int).toNat).getD i25.toNat 0).toNat [])).bind λx33=>Az (A2 ((l1.drop (1:Int).toNat).getD i25.toNat 0) l26.length) (bif x33 !=l26.getD ((l1.drop (1:Int).toNat).getD i25.toNat 0).toNat 0 then Az (A2 ((l1.drop (1:Int).toNat).getD i25.toNat 0) l26.length) (some (true,l26.set ((l1.drop (1:Int).toNat).getD i25.toNat 0).toNat x33)) else some (b24,l26))))) λx36=>match x36 with|(b29,l30)=>some (.next (b29,w64 (i25+1),l30)) else some (.done (b24,l26))
abbrev uQ:=(Aw×Aw)
def Hx(a4:TGraph):uQ->Option (LR (Aw×Aw) Aw):=
 λs_=>match s_ with|(l1,l2)=>Az (0<=(1:Int)/\(1:Int)<=l1.length) ((Ac   (Vl a4 l1) (false,0,l2)).bind λx38=>match x38 with|(b27,l28)=>bif b27 then some (.next (l1,l28)) else some (.done l28))
def ek(Γ:H3)(a4:TGraph)(aa1:Int)(r:Aw):Exit->St->Prop:=fK Tryz.prog Γ Tryz.f152.results.toList [] (Vz r 20000) [(Yp 20000 r.length)]
def xI:=(λn_=>Bw n_ [2,13,21])
def zy:List MM:=[(4,fG)]
def zx(x3:Aw)(i8:Int):=((x3.drop (1:Int).toNat).getD i8.toNat 0)
def zw(l1:Aw)(i25:Int):=((l1.drop (1:Int).toNat).getD i25.toNat 0)
def Q62(a4:TGraph):List AV:=[(NO a4.Succ),(NO a4.Pred)]
def Q64:=(Z33:St)
def Tv(a4:TGraph)(aa1:Int):Option Aw:=
 ((Rv (S:=uQ) (X:=Aw) ((K9 a4 aa1).bind λx3=>(bif ((x3.length:Int)==0) then(some (.done ([]:Aw))) else((In ([(-2:Int)]:Aw) (a4.Succ.length:Int)).bind λx4=>(Az (A2 aa1 x4.length) (Az (0<=(1:Int)/\(1:Int)<=(x3.length:Int)) ((Ac (Fm a4 x3) (false,(0:Int),(x4.set aa1.toNat (-1:Int)))).bind (λ(b10,l11)=>(bif b10 then(some (.next (x3,l11))) else(some (.done l11)))))))))) (Hx a4)).bind (λx40=>(some x40)))
theorem dZ(h:Tv v18 v1=some v2):sP 152 (rK v18 v1) [] (Vz v2 20000) [(Yp 20000 v2.length)]:=
 sG Tryz.func152 λΓ q=>have hΓ:=q.own;gR q D7 [2] zy [] (c1 (B1 1 Aq (0:Int))) (tB h λx40 y40 h=>gS y40 (λ(s_:uQ)=>match s_ with|(l1,l2)=>0) (λ(s_:uQ)=>match s_ with|(l1,l2)=>(⟨[Uj,(5,(Vz l1 13)),(6,(.vsl 21 l2.length))],[(Pp 56 (Q62 v18)),(Yp 13 l1.length),(Z4 21 l2)],[]⟩:St)) (λr_=>aR (ek Γ v18 v1 r_)) (λy h=>tB h λx3 y3 h=>tT q CQ [2,13] [(xK 13 x3 x3.length)] (c1 (BC y3)) (Af q [1,2,5,16] [2,13] (gC h (λh=>gR q [4] [] zy [] (c1 (B1 1 Aq (0:Int))) (P6 (⟨zy,[],[]⟩:St) (tS h (ee (Lj (H4 bT (show Le Γ _ Q64 from Le.trans (Bi (st':=⟨zy,[],[]⟩) [4] [] q) (Le.trans (Rj (t:=4) (nm:=6004) (sz':=1) (λi=>Aq (([]:Aw).getD i 0)) 3 rfl rfl (.inl ⟨rfl,rfl⟩) (λh_=>absurd h_ (by decide))) (Bi (st':=Q64) [4] [6004] q))))))))) λh=>tB h λx4 y4 h=>gR q [1,2,5,6] J2 [(17,(AV.list 1 Aq 0 ([(-2:Int)]:Aw) .exact))] [⟨[],[(20000,21)],(.vsl 20000 x4.length),[(Z4 20000 x4)],[],[]⟩] (c2 (Br 1 Aq (0:Int) ([(-2:Int)]:Aw)) (Vt y4)) (tC h λc5_ h=>tU q W5 J2 (c2 c5_ (Eq.refl x4.length)) (gLe (Le.trans (Sn 21 (show ∀ k_,k_<x4.length->AVleL ((λi_=>AV.eraseAll xI ((Fd (λi=>Aq (x4.getD i 0)) v1.toNat 0 [(.int .i64 (-1:Int))]) i_)) k_) ((λi=>Aq ((x4.set v1.toNat (-1:Int)).getD i 0)) k_) from(Bh (Dc ..).symm (λk_ hk_=>(Bj (AV.eraseAll xI) ((Fv (λ_ _=>rfl) (Hv c5_) rfl) k_ hk_)).trans rfl)))) (R8 (λ(k_:Nat) u=>(Cp u [(6,(.vsl 21 k_))] [(21,.arr 1 3 k_ (λi=>Aq ((x4.set v1.toNat (-1:Int)).getD i 0)))])) (show x4.length=(x4.set v1.toNat (-1:Int)).length from(Dc ..).symm))) (Af q KT J2 (tC h λc6_ h=>gR q EW J2 [(26,(AV.list 1 Aq 0 (x3.drop (1:Int).toNat) .none))] [] (c2 c6_ (show(AVle (.slice 1 (x3.length-(1:Int).toNat) (λi=>Aq (x3.getD ((1:Int).toNat+i) 0)) .none) (AV.list 1 Aq 0 (x3.drop (1:Int).toNat) .none)) from iq)) (tL q h EW J2 (λu (b7,i8,l9)=>(Cp u [(6,(.vsl 21 l9.length)),(7,(.bool b7)),(28,(Z5 i8))] [(Z4 21 l9)])) (λu (b10,l11)=>aG Γ (.exit 0) (Nf KT J2 u [(6,(.vsl 21 l11.length)),(7,(.bool b10))] [(Z4 21 l11)])) (λ⟨b7,i8,l9⟩ y h=>Af q qs J2 (gC h (λh=>tB h λx19 y19 h=>gJ y19 (λ(b12,l13)=>aG Γ .normal (⟨[Uj,(5,(Vz x3 13)),(6,(.vsl 21 l13.length)),(7,(.bool b12)),(26,(AV.list 1 Aq 0 (x3.drop (1:Int).toNat) .none)),(27,(.int .i64 ((x3.drop (1:Int).toNat).length:Int))),(28,(Z5 i8))],[(Pp 56 (Q62 v18)),(Yp 13 x3.length),(Z4 21 l13)],[]⟩:St)) (λy h=>tV q qt J2 h λh=>tC h λc15_ h=>tB h λx16 y16 h=>tT q qp J2 [⟨[],[],(Z5 x16),[],[21],[]⟩] (c4 c15_ (BB y16) (show(EC []) from trivial) (Eq.refl l9.length)) (tC h λc17_ h=>tU q qm J2 (c2 c17_ (Eq.refl l9.length)) (gC h (λh=>tC h λc18_ h=>tU q EW J2 (c2 c18_ (Eq.refl l9.length)) (tS h (gK (Be (Le.trans (Le.trans (Sn 21 (show ∀ k_,k_<l9.length->AVleL ((λi_=>AV.eraseAll xI ((Fd (λi=>Aq (l9.getD i 0)) (zx x3 i8).toNat 0 [(Z5 x16)]) i_)) k_) ((λi=>Aq ((l9.set (zx x3 i8).toNat x16).getD i 0)) k_) from(Bh (Dc ..).symm (λk_ hk_=>(Bj (AV.eraseAll xI) ((Fv (λ_ _=>rfl) (Hv c18_) rfl) k_ hk_)).trans rfl)))) (R8 (λ(k_:Nat) u=>(Cp u [(6,(.vsl 21 k_))] [(21,.arr 1 3 k_ (λi=>Aq ((l9.set (zx x3 i8).toNat x16).getD i 0)))])) (show l9.length=(l9.set (zx x3 i8).toNat x16).length from(Dc ..).symm))) Io))))) λh=>tS h (gK (Be (Bi EW J2 q)))))) (match x19,h with|⟨b12,l13⟩,h=>gA (Af q EW J2 (tN h)))) λh=>tS h (gO (Be (Bi KT J2 q))))) λx21 h=>(match x21,h with|⟨b10,l11⟩,h=>gA (Af q [2,5,6,50] J2 (gC h (λh=>tS h (fg (Bi W5 J2 q))) λh=>Af q [4] [21] (P6 (⟨[(4,(.vsl 21 l11.length))],[(Z4 21 l11)],[]⟩:St) (tS h (ee (Lj (H4 [(21,20000)] (Le.trans (le_freeze (nm:=21) (sz:=1) (n:=l11.length) (e:=3) (f:=(λi=>Aq (l11.getD i 0))) (g:=(λi=>Aq (l11.getD i 0))) rfl ⟨rfl,trivial⟩ (λ_ _=>rfl) (by rw[hΓ];rfl)) (Gs (st':=⟨[(4,(Vz l11 21))],[(Yp 21 l11.length)],[]⟩) (by kernel_rfl))))))))))))))))))) (λ⟨l1,l2⟩ y h=>Af q KT J2 (tC h λc23_ h=>gR q EW J2 [(26,(AV.list 1 Aq 0 (l1.drop (1:Int).toNat) .none))] [] (c2 c23_ (show(AVle (.slice 1 (l1.length-(1:Int).toNat) (λi=>Aq (l1.getD ((1:Int).toNat+i) 0)) .none) (AV.list 1 Aq 0 (l1.drop (1:Int).toNat) .none)) from iq)) (tL q h EW J2 (λu (b24,i25,l26)=>(Cp u [(6,(.vsl 21 l26.length)),(7,(.bool b24)),(28,(Z5 i25))] [(Z4 21 l26)])) (λu (b27,l28)=>aG Γ (.exit 0) (Nf KT J2 u [(6,(.vsl 21 l28.length)),(7,(.bool b27))] [(Z4 21 l28)])) (λ⟨b24,i25,l26⟩ y h=>Af q qs J2 (gC h (λh=>tB h λx36 y36 h=>gJ y36 (λ(b29,l30)=>aG Γ .normal (⟨[Uj,(5,(Vz l1 13)),(6,(.vsl 21 l30.length)),(7,(.bool b29)),(26,(AV.list 1 Aq 0 (l1.drop (1:Int).toNat) .none)),(27,(.int .i64 ((l1.drop (1:Int).toNat).length:Int))),(28,(Z5 i25))],[(Pp 56 (Q62 v18)),(Yp 13 l1.length),(Z4 21 l30)],[]⟩:St)) (λy h=>tV q qt J2 h λh=>tC h λc32_ h=>tB h λx33 y33 h=>tT q qp J2 [⟨[],[],(Z5 x33),[],[21],[]⟩] (c4 c32_ (BB y33) (show(EC []) from trivial) (Eq.refl l26.length)) (tC h λc34_ h=>tU q qm J2 (c2 c34_ (Eq.refl l26.length)) (gC h (λh=>tC h λc35_ h=>tU q EW J2 (c2 c35_ (Eq.refl l26.length)) (tS h (gK (Be (Le.trans (Le.trans (Sn 21 (show ∀ k_,k_<l26.length->AVleL ((λi_=>AV.eraseAll xI ((Fd (λi=>Aq (l26.getD i 0)) (zw l1 i25).toNat 0 [(Z5 x33)]) i_)) k_) ((λi=>Aq ((l26.set (zw l1 i25).toNat x33).getD i 0)) k_) from(Bh (Dc ..).symm (λk_ hk_=>(Bj (AV.eraseAll xI) ((Fv (λ_ _=>rfl) (Hv c35_) rfl) k_ hk_)).trans rfl)))) (R8 (λ(k_:Nat) u=>(Cp u [(6,(.vsl 21 k_))] [(21,.arr 1 3 k_ (λi=>Aq ((l26.set (zw l1 i25).toNat x33).getD i 0)))])) (show l26.length=(l26.set (zw l1 i25).toNat x33).length from(Dc ..).symm))) Io))))) λh=>tS h (gK (Be (Bi EW J2 q)))))) (match x36,h with|⟨b29,l30⟩,h=>gA (Af q EW J2 (tN h)))) λh=>tS h (gO (Be (Bi KT J2 q))))) λx38 h=>(match x38,h with|⟨b27,l28⟩,h=>gA (Af q [2,5,6,50] J2 (gC h (λh=>tS h (fg (Bi W5 J2 q))) λh=>Af q [4] [21] (P6 (⟨[(4,(.vsl 21 l28.length))],[(Z4 21 l28)],[]⟩:St) (tS h (ee (Lj (H4 [(21,20000)] (Le.trans (le_freeze (nm:=21) (sz:=1) (n:=l28.length) (e:=3) (f:=(λi=>Aq (l28.getD i 0))) (g:=(λi=>Aq (l28.getD i 0))) rfl ⟨rfl,trivial⟩ (λ_ _=>rfl) (by rw[hΓ];rfl)) (Gs (st':=⟨[(4,(Vz l28 21))],[(Yp 21 l28.length)],[]⟩) (by kernel_rfl)))))))))))))) (Oz (λst' hk=>tS h (gK hk))))
def Pl(aaA:List Bc)(aaC:Aw):Int->Option (LR Int (Unit ⊕ Bool)):=
 λi1=>bif decide (i1<aaA.length) then Az (A2 i1 aaA.length) ((G1 (aaA.getD i1.toNat default).From aaC).bind λx3=>bif bif !x3 then true else(aaA.getD i1.toNat default).Args.length !=(aaC.length:Int) then some (.done (.inr false)) else some (.next (w64 (i1+1)))) else some (.done (.inl ()))
def MY(Γ:H3)(aaA:List Bc)(aaC:Aw)(r:Bool):Exit->St->Prop:=fK Tryz.prog Γ Tryz.f153.results.toList [] (.bool r) []
def Pa(aaA:List Bc)(aaC:Aw):Option Bool:=
 (Ac   (Pl aaA aaC) 0).bind λx4=>match x4 with | .inl _=>some true | .inr r6=>some r6
theorem JR(h:Pa v5 v2=some v3):sP 153 [(xO v5),(Z6 v2)] [] (.bool v3) []:=
 sG Tryz.func153 λΓ q=>tW q Gn [] Na [] (tL q h Na [] (λu i1=>(Cp u [(9,(Z5 i1))] [])) (λu x_=>match x_ with|(.inl _)=>aG Γ (.exit 0) (⟨[],[],[]⟩:St)|(.inr r_)=>aR (MY Γ v5 v2 r_)) (λi1 y h=>Af q MU [] (gC h (λh=>tV q MV [6] h λh=>tB h λx3 y3 h=>tT q [1,7,8,9,25] [] [(Z2 x3)] (ci (Pt y3) (wZ ((!x3)==false) (c1 (Lx (!x3))))) (gC h (λh=>Af q [4] [] (tS h (gO (Lj (H4 [] (Le.refl _ _)))))) λh=>Af q Na [] (tN h))) λh=>tS h (gO (Be (Bi [] [] q))))) λx4 h=>(match x4,h with | .inl _,h=>gA (Af q [4] [] (tS h (Cc []))) | .inr r6,h=>Oz (λst' hk=>tS h (gK hk))))
def Q65(aK:On):=(bif (aK.Kind==0) then true else(aK.Kind==2))
def O9(aK:On):Option Bool:=
 some (bif bif aK.Kind==0 then true else aK.Kind==2 then true else aK.Arg==0)
theorem JQ(h:O9 v8=some v3):sP 154 [(.agg (jK v8))] [] (.bool v3) []:=
 sG Tryz.func154 λΓ q=>Af q [1] [1] (tU q [2] [] (Mr ((v8.Kind==0)==false) (ci (Lx (v8.Kind==0)) (Mr ((Q65 v8)==false) (c1 (Lx (Q65 v8)))))) (tS h (Cc [])))
def Du(a3:TFunc)(a5:Int)(aB:List Bk)(x1:mR)(x3:Aw):Int->Option (LR Int (Unit ⊕ (Int×TFunc×Int×Aw×List Bk))):=
 λi4=>bif decide (i4<a3.Blocks.length) then Az (A2 i4 a3.Blocks.length) (Az (A2 i4 x1.1.Pred.length) ((Pa (a3.Blocks.getD i4.toNat default).Phis (x1.1.Pred.getD i4.toNat [])).bind λx7=>(bif (!x7)==false then O9 ⟨(a3.Blocks.getD i4.toNat default).End.Kind,(a3.Blocks.getD i4.toNat default).End.Arg,(a3.Blocks.getD i4.toNat default).End.To⟩ else some false).bind λx8=>bif bif !x7 then true else !x8 then some (.done (.inr (5,a3,a5,x3,aB))) else some (.next (w64 (i4+1))))) else some (.done (.inl ()))
def W7(Γ:H3)(a3:TFunc)(a5:Int)(a7:Aw)(aB:List Bk)(r:me):Exit->St->Prop:=fK Tryz.prog Γ Tryz.f105.results.toList (Z3 a3.Params a3.Ret a3.Blocks a5 a7 aB aB.length) (Z5 r.1) (Z3 r.2.1.Params r.2.1.Ret r.2.1.Blocks r.2.2.1 r.2.2.2.1 r.2.2.2.2 r.2.2.2.2.length)
def Q68(x1:mR):=((x1.2 !=0)==false)
def Q67(x3:Aw)(a3:TFunc)(a5:Int)(aB:List Bk):List OK:=[(Yp 31 x3.length),(30000,.row 102 [(Z6 a3.Params),(Z5 a3.Ret),(UE a3.Blocks),(Z5 a5),(Z6 x3),.nilm,(AV.list 5 Oi default aB (.own 37006))]),(Li 37006 211 aB.length)]
def z6(x3:Aw)(a3:TFunc)(a5:Int)(aB:List Bk):List OK:=[(Yp 31 x3.length),(30000,.row 102 [(Z6 a3.Params),(Z5 a3.Ret),(UE a3.Blocks),(Z5 a5),(Vz x3 31),.nilm,(AV.list 5 Oi default aB (.own 37006))]),(Li 37006 211 aB.length)]
def Iz(a3:TFunc)(a5:Int)(a7:Aw)(aB:List Bk):Option me:=
 (Tw a3).bind λx1=>(bif (x1.2 !=0)==false then K9 x1.1 0 else some []).bind λx2=>bif bif x1.2 !=0 then true else decide ((x2.length:Int)<a3.Blocks.length) then some (5,a3,a5,a7,aB) else(Tv x1.1 0).bind λx3=>(Ac   (Du a3 a5 aB x1 x3) 0).bind λx9=>match x9 with | .inl _=>some (0,a3,a5,x3,aB) | .inr r11=>some r11
theorem Wc(h:Iz v0 v1 v2 v12=some v13):sP 105 nY (Z3 v0.Params v0.Ret v0.Blocks v1 v2 v12 v12.length) (Z5 v13.1) (Z3 v13.2.1.Params v13.2.1.Ret v13.2.1.Blocks v13.2.2.1 v13.2.2.2.1 v13.2.2.2.2 v13.2.2.2.2.length):=
 sG Tryz.func105 λΓ q=>Af q [0] Iw (tB h λx1 y1 h=>tT q S6 SX [(xN x1.1 x1.2)] (c1 (LV y1)) (tB h λx2 y2 h=>tT q [0,3,28] SX [⟨[],[],(Z6 x2),[],[],[]⟩] (fb (gI (Q68 x1)) (show((Q68 x1)=true->(sP 151 [(.agg (Xg x1.1)),L5] [] (Z6 x2) [])) from(λhg=>(Spec.drop (BC (Bf hg y2))))) (gI8 (Q68 x1) (c1 (Lx (x1.2 !=0))))) (gC h (λh=>Af q [2] Iw (tS h (Cc Y8))) λh=>tB h λx3 y3 h=>tT q Rh YK [(xK 31 x3 x3.length)] (c1 (dZ y3)) (Af q iR YK (tL q h iR YK (λu i4=>(Cp u [(40,(Z5 i4))] [])) (λu x_=>match x_ with|(.inl _)=>aG Γ (.exit 0) (Nf [] YN u [] [])|(.inr r_)=>aR (W7 Γ v0 v1 v2 v12 r_)) (λi4 y h=>Af q [3,38,39,40,41] YK (gC h (λh=>tV q [3,5,6,38,39,40] [3,6,31,30000,37006] h λh=>tC h λc6_ h=>tB h λx7 y7 h=>tB h λx8 y8 h=>tT q [3,38,39,40,59] YK [(Z2 x7),(Z2 x8)] (fb c6_ (JR y7) (Mr ((!x7)==false) (c3 (λ(hg:((!x7)==false)=true)=>(JQ (Bf hg y8))) (gI ((!x7)==false)) (Lx (!x7))))) (gC h (λh=>Af q [2] YN (P6 (⟨[(2,(.int .i64 (5:Int)))],(z6 x3 v0 v1 v12),[]⟩:St) (tS h (gO (Lj (H4 Y8 (show Le Γ _ (⟨[(2,(.int .i64 (5:Int)))],(Q67 x3 v0 v1 v12),[]⟩:St) from Le.trans (Bi (st':=⟨[(2,(.int .i64 (5:Int)))],(z6 x3 v0 v1 v12),[]⟩) [2] YN q) (I6 (.cons (AVle.refl _) .nil) (.same (.row (.cons (AVle.refl _) (.cons (AVle.refl _) (.cons (AVle.refl _) (.cons (AVle.refl _) (.cons AVle.untag (.cons (AVle.refl _) (.cons (AVle.refl _) .nil))))))) (.same .nil))))))))))) λh=>Af q iR YK (tN h))) λh=>tS h (gO (Be (Bi [] YN q))))) λx9 h=>(match x9,h with | .inl _,h=>gA (Af q [2] YN (P6 (⟨[(2,L5)],(z6 x3 v0 v1 v12),[]⟩:St) (tS h (gK (e:=.ret) (H4 Y8 (show Le Γ _ (⟨[(2,L5)],(Q67 x3 v0 v1 v12),[]⟩:St) from Le.trans (Bi (st':=⟨[(2,L5)],(z6 x3 v0 v1 v12),[]⟩) [2] YN q) (I6 (.cons (AVle.refl _) .nil) (.same (.row (.cons (AVle.refl _) (.cons (AVle.refl _) (.cons (AVle.refl _) (.cons (AVle.refl _) (.cons AVle.untag (.cons (AVle.refl _) (.cons (AVle.refl _) .nil))))))) (.same .nil)))))))))) | .inr r11,h=>Oz (λst' hk=>tS h (gK hk))))))))
def La(aI:Int):Option Bool:=
 Option.bind  (bif aI==1 then some (aI==1) else bif aI==8 then some (aI==8) else bif aI==16 then some (aI==16) else bif aI==32 then some (aI==32) else some (aI==64)) λx2=>bif x2 then some true else some false
theorem Nx(h:La v1=some v3):sP 156 [(Z5 v1)] [] (.bool v3) []:=
 sG Tryz.func156 λΓ q=>tW q [0] [] [3] [] (tB h λx2 y2 h=>gJ y2 (λb1=>aG Γ .normal (⟨[(4,(.bool b1))],[],[]⟩:St)) (λy h=>Af q [3,4] [] (gC h (λh=>tS h (gK (Be (Bi [4] [] q)))) λh=>Af q [3,4] [] (gC h (λh=>tS h (gK (Be (Bi [4] [] q)))) λh=>Af q [3,4] [] (gC h (λh=>tS h (gK (Be (Bi [4] [] q)))) λh=>Af q [3,4] [] (gC h (λh=>tS h (gK (Be (Bi [4] [] q)))) λh=>Af q [4] [] (tS h (gK (Be Io)))))))) (gA (gC h (λh=>Af q [2] [] (tS h (Cc []))) λh=>Af q [2] [] (tS h (Cc [])))))
def Pk(aA:Aw):Int->Option (LR Int (Unit ⊕ Bool)):=
 λi1=>bif decide (i1<aA.length) then Az (A2 i1 aA.length) ((La (aA.getD i1.toNat 0)).bind λx3=>bif !x3 then some (.done (.inr false)) else some (.next (w64 (i1+1)))) else some (.done (.inl ()))
def MX(Γ:H3)(aA:Aw)(r:Bool):Exit->St->Prop:=fK Tryz.prog Γ Tryz.f155.results.toList [] (.bool r) []
def O8(aA:Aw):Option Bool:=
 (Ac   (Pk aA) 0).bind λx4=>match x4 with | .inl _=>some true | .inr r6=>some r6
theorem JP(h:O8 v2=some v3):sP 155 [(Z6 v2),(.clo 156 [] [])] [] (.bool v3) []:=
 sG Tryz.func155 λΓ q=>tW q Gn [] Na [] (tL q h Na [] (λu i1=>(Cp u [(9,(Z5 i1))] [])) (λu x_=>match x_ with|(.inl _)=>aG Γ (.exit 0) (⟨[],[],[]⟩:St)|(.inr r_)=>aR (MX Γ v2 r_)) (λi1 y h=>Af q MU [] (gC h (λh=>tV q MV [] h λh=>tB h λx3 y3 h=>tT q UB [] [(Z2 x3)] (c1 (Nx y3)) (gC h (λh=>Af q [4] [] (tS h (gO (Lj (H4 [] (Le.refl _ _)))))) λh=>Af q Na [] (tN h))) λh=>tS h (gO (Be (Bi [] [] q))))) λx4 h=>(match x4,h with | .inl _,h=>gA (Af q [4] [] (tS h (Cc []))) | .inr r6,h=>Oz (λst' hk=>tS h (gK hk))))
def Rm(aV:Bc):Option Bool:=
 (La aV.Bits).bind λx1=>some x1
theorem HR(h:Rm v4=some v3):sP 200 [(.agg (El v4))] [] (.bool v3) []:=
 sG Tryz.func200 λΓ q=>Af q [1] [1] (tB h λx1 y1 h=>tT q [2] [] [(Z2 x1)] (c1 (Nx y1)) (tS h (Cc [])))
def Ma(aA:List Bc):Int->Option (LR Int (Unit ⊕ Bool)):=
 λi1=>bif decide (i1<aA.length) then Az (A2 i1 aA.length) ((Rm (aA.getD i1.toNat default)).bind λx3=>bif !x3 then some (.done (.inr false)) else some (.next (w64 (i1+1)))) else some (.done (.inl ()))
def DS(Γ:H3)(aA:List Bc)(r:Bool):Exit->St->Prop:=fK Tryz.prog Γ Tryz.f199.results.toList [] (.bool r) []
def Ll(aA:List Bc):Option Bool:=
 (Ac   (Ma aA) 0).bind λx4=>match x4 with | .inl _=>some true | .inr r6=>some r6
theorem AZ(h:Ll v5=some v3):sP 199 [(xO v5),(.clo 200 [] [])] [] (.bool v3) []:=
 sG Tryz.func199 λΓ q=>tW q Gn [] Na [] (tL q h Na [] (λu i1=>(Cp u [(9,(Z5 i1))] [])) (λu x_=>match x_ with|(.inl _)=>aG Γ (.exit 0) (⟨[],[],[]⟩:St)|(.inr r_)=>aR (DS Γ v5 r_)) (λi1 y h=>Af q MU [] (gC h (λh=>tV q MV [6] h λh=>tB h λx3 y3 h=>tT q UB [] [(Z2 x3)] (c1 (HR y3)) (gC h (λh=>Af q [4] [] (tS h (gO (Lj (H4 [] (Le.refl _ _)))))) λh=>Af q Na [] (tN h))) λh=>tS h (gO (Be (Bi [] [] q))))) λx4 h=>(match x4,h with | .inl _,h=>gA (Af q [4] [] (tS h (Cc []))) | .inr r6,h=>Oz (λst' hk=>tS h (gK hk))))
def O1(aX:Int):Option Bool:=
 some (bif decide (0<=aX) then decide (aX<=22) else false)
theorem BF(h:O1 v1=some v3):sP 145 [(Z5 v1)] [] (.bool v3) []:=
 sG Tryz.func145 λΓ q=>Af q [0] [] (tU q [2] [] (c2 (gI ((decide ((0:Int)<=v1))==true)) (Nd (decide ((0:Int)<=v1)))) (tS h (Cc [])))
def Q69(x5:Bool)(aI:Int):=(bif x5 then(decide ((8:Int)<=aI)) else false)
def Ta(aI:Int)(aN:Int):Option Bool:=
 bif aN==1 then(La aI).bind λx1=>some x1 else Option.bind  (bif aN==2 then some (aN==2) else bif aN==4 then some (aN==4) else bif aN==8 then some (aN==8) else some (aN==16)) λx3=>bif x3 then(La aI).bind λx5=>some (bif bif x5 then decide (8<=aI) else false then decide (w64 (aI*aN)<=128) else false) else some false
theorem VI(h:Ta v1 v11=some v3):sP 277 [(Z5 v1),(Z5 v11)] [] (.bool v3) []:=
 sG Tryz.func277 λΓ q=>tW q Gn [] Nb [] (Af q W4 [] (gC h (λh=>tB h λx1 y1 h=>tT q [4] [] [(Z2 x1)] (c1 (Nx y1)) (tS h (Cc []))) λh=>tB h λx3 y3 h=>gJ y3 (λb2=>aG Γ .normal (⟨[(0,(Z5 v1)),(1,(Z5 v11)),(10,(.bool b2))],[],[]⟩:St)) (λy h=>Af q [0,1,5,10] [] (gC h (λh=>tS h (gK (Be (Bi Ym [] q)))) λh=>Af q [0,1,5,10] [] (gC h (λh=>tS h (gK (Be (Bi Ym [] q)))) λh=>Af q [0,1,5,10] [] (gC h (λh=>tS h (gK (Be (Bi Ym [] q)))) λh=>Af q Ym [] (tS h (gK (Be Io))))))) (gA (gC h (λh=>tB h λx5 y5 h=>tT q [4] [] [(Z2 x5)] (UG (Nx y5) (gI (x5==true)) (Nd x5) (Yt ((Q69 x5 v1)==true) (c1 (Nd (Q69 x5 v1))))) (tS h (Cc []))) λh=>Af q [4] [] (tS h (Cc []))))))
def z7(a1:Bz):List OK:=[(yY a1.Kind a1.Bits a1.Lanes a1.Dst a1.Args a1.Imm)]
def Oc(a1:Bz):Option Bool:=
 Option.bind  (bif a1.Kind==16 then some (a1.Kind==16) else some (a1.Kind==17)) λx2=>bif x2 then some (decide (8<=a1.Bits)) else Option.bind  (bif a1.Kind==18 then some (a1.Kind==18) else some (a1.Kind==19)) λx5=>bif x5 then some (bif decide (8<=a1.Bits) then a1.Lanes==1 else false) else Option.bind  (bif a1.Kind==4 then some (a1.Kind==4) else bif a1.Kind==10 then some (a1.Kind==10) else bif a1.Kind==11 then some (a1.Kind==11) else bif a1.Kind==12 then some (a1.Kind==12) else bif a1.Kind==14 then some (a1.Kind==14) else bif a1.Kind==15 then some (a1.Kind==15) else some (a1.Kind==20)) λx8=>bif x8 then some (a1.Lanes==1) else Option.bind  (bif a1.Kind==21 then some (a1.Kind==21) else some (a1.Kind==22)) λx11=>bif x11 then some (decide (1<a1.Lanes)) else some true
theorem HT(h:Oc v6=some v3):sP 278 [(VV v6)] [] (.bool v3) []:=
 sG Tryz.func278 λΓ q=>tW q [1] [1] P1 [1] (tB h λx2 y2 h=>gJ y2 (λb1=>aG Γ .normal (⟨[CR,(4,(Z5 v6.Kind)),(5,(.bool b1))],(z7 v6),[]⟩:St)) (λy h=>Af q [1,4,5] [1] (gC h (λh=>tS h (gK (Be Io))) λh=>Af q [1,4,5] [1] (tS h (gK (Be Io))))) (gA (gC h (λh=>Af q [2] [] (tS h (Cc []))) λh=>tB h λx5 y5 h=>gJ y5 (λb4=>aG Γ .normal (⟨[CR,(4,(Z5 v6.Kind)),(11,(.bool b4))],(z7 v6),[]⟩:St)) (λy h=>Af q [1,4,11] [1] (gC h (λh=>tS h (gK (Be Io))) λh=>Af q [1,4,11] [1] (tS h (gK (Be Io))))) (gA (gC h (λh=>tU q [2] [] (Mr ((decide ((8:Int)<=v6.Bits))==true) (c1 (Nd (decide ((8:Int)<=v6.Bits))))) (tS h (Cc []))) λh=>tB h λx8 y8 h=>gJ y8 (λb7=>aG Γ .normal (⟨[CR,(4,(Z5 v6.Kind)),(22,(.bool b7))],(z7 v6),[]⟩:St)) (λy h=>Af q FZ [1] (gC h (λh=>tS h (gK (Be Io))) λh=>Af q FZ [1] (gC h (λh=>tS h (gK (Be Io))) λh=>Af q FZ [1] (gC h (λh=>tS h (gK (Be Io))) λh=>Af q FZ [1] (gC h (λh=>tS h (gK (Be Io))) λh=>Af q FZ [1] (gC h (λh=>tS h (gK (Be Io))) λh=>Af q FZ [1] (gC h (λh=>tS h (gK (Be Io))) λh=>Af q FZ [1] (tS h (gK (Be Io)))))))))) (gA (gC h (λh=>Af q [2] [] (tS h (Cc []))) λh=>tB h λx11 y11 h=>gJ y11 (λb10=>aG Γ .normal (⟨[CR,(33,(.bool b10))],(z7 v6),[]⟩:St)) (λy h=>Af q [1,4,33] [1] (gC h (λh=>tS h (gK (Be (Bi [1,33] [1] q)))) λh=>Af q [1,33] [1] (tS h (gK (Be Io))))) (gA (gC h (λh=>Af q [2] [] (tS h (Cc []))) λh=>Af q [2] [] (tS h (Cc [])))))))))))
def Xu(aH:Int)(aI:Int):Option Int:=
 (La aI).bind λx1=>bif !x1 then some 0 else Az (0<=w64 (64-aI)) (Az (0<=w64 (64-aI)) (some (Wn .u64 (RZ .u64 aH (w64 (64-aI))) (w64 (64-aI)))))
theorem db(h:Xu v1 v11=some v20):sP 121 [(.int .u64 v1),(Z5 v11)] [] (.int .u64 v20) []:=
 sG Tryz.func121 λΓ q=>Af q Gn [] (tB h λx1 y1 h=>tT q [0,1,7] [] [(Z2 x1)] (c1 (Nx y1)) (gC h (λh=>Af q [4] [] (tS h (Cc []))) λh=>tC h λc2_ h=>tC h λc3_ h=>tU q [4] [] (c2 c2_ c3_) (tS h (Cc []))))
def Nr(aaD:Int):Option Bool:=
 (bif decide (aaD<=64)==true then La (w64 aaD) else some false).bind λx1=>some (bif decide (aaD<=64) then x1 else false)
theorem Y0(h:Nr v1=some v3):sP 291 [(.int .u64 v1)] [] (.bool v3) []:=
 sG Tryz.func291 λΓ q=>Af q [0] [] (tB h λx1 y1 h=>tT q [2] [] [(Z2 x1)] (Mr ((decide (v1<=64))==true) (c2 (λ(hg:((decide (v1<=64))==true)=true)=>(Nx (Bf hg y1))) (Nd (decide (v1<=64))))) (tS h (Cc [])))
def Qr(a1:Bz):Option Bool:=
 bif a1.Kind==0 then(Xu a1.Imm a1.Bits).bind λx1=>some (x1==a1.Imm) else bif a1.Kind==14 then(Nr a1.Imm).bind λx2=>some (bif x2 then decide (a1.Imm<Ir a1.Bits) else false) else bif a1.Kind==15 then(Nr a1.Imm).bind λx3=>some (bif x3 then decide (Ir a1.Bits<a1.Imm) else false) else bif a1.Kind==22 then some (decide (a1.Imm<Ir a1.Lanes)) else some (a1.Imm==0)
theorem NJ(h:Qr v6=some v3):sP 279 [(VV v6)] [] (.bool v3) []:=
 sG Tryz.func279 λΓ q=>tW q [1] [1] P1 [1] (Af q [1,4,5] [1] (gC h (λh=>tB h λx1 y1 h=>tT q [2] [] [⟨[],[],(.int .u64 x1),[],[],[]⟩] (c1 (db y1)) (tS h (Cc []))) λh=>Af q [1,4,15] [1] (gC h (λh=>tB h λx2 y2 h=>tT q [2] [] [(Z2 x2)] (ci (Y0 y2) (wZ (x2==true) (c1 (Nd x2)))) (tS h (Cc []))) λh=>Af q [1,4,28] [1] (gC h (λh=>tB h λx3 y3 h=>tT q [2] [] [(Z2 x3)] (ci (Y0 y3) (wZ (x3==true) (c1 (Nd x3)))) (tS h (Cc []))) λh=>Af q [1,41] [1] (gC h (λh=>Af q [2] [] (tS h (Cc []))) λh=>Af q [2] [] (tS h (Cc [])))))))
abbrev KF:=((Int×Int))
abbrev qg:=(List (Int×Int))
def Iq(aaG:List KF):Option qg:=
 some aaG
variable{v21:List KF}{v22:List KF}
theorem I9(h:Iq v21=some v22):sP 282 [(Z7 v21)] [] (Z7 v22) []:=
 sG Tryz.func282 λΓ q=>gR q [0] [] [(2,yW)] [] (c1 (B1 2 Bq ((0:Int),(0:Int)))) (Af q [2] [] (tS h (Cc [])))
abbrev zV:=(Int×List (Int×Int))
abbrev zW:=(LR (Int×List (Int×Int)) (List (Int×Int)))
def Dk :zV->Option zW:=
 λ(i7,l8)=>bif decide (i7<l8.length) then Az (0<=i7/\0+i7.toNat<=l8.length) (Az (0<=i7/\0+i7.toNat<=l8.length) (some (.next (w64 (i7+Nat.min (0+i7.toNat-0) (l8.length-(0+i7.toNat))),NV l8 (0+i7.toNat) (Nat.min (0+i7.toNat-0) (l8.length-(0+i7.toNat))) λi=>l8.getD (0+i) (0,0))))) else some (.done l8)
def nP(x3:J5):=(List.replicate (w64 x3.2).toNat ((0:Int),(0:Int)))
def Q73(x3:J5)(aD:List KF):=(NV (nP x3) 0 (Nat.min aD.length ((nP x3).length-0)) (λi=>aD.getD i ((0:Int),(0:Int))))
def Q72(l8:List KF)(i7:Int):=(NV l8 (0+i7.toNat) (Nat.min ((0+i7.toNat)-0) (l8.length-(0+i7.toNat))) (λi=>l8.getD (0+i) ((0:Int),(0:Int))))
def Cf(aD:List KF)(aa8:Int):Option qg:=
 Option.bind  (bif decide (aa8<0) then none else some ()) λx1=>match x1 with|_=>(Rl (Ir aD.length) (Ir aa8)).bind λx3=>Option.bind  (bif bif decide (0<x3.1) then true else decide (9223372036854775807<x3.2) then none else some ()) λx4=>match x4 with|_=>Az (0<=w64 x3.2/\w64 x3.2<=w64 x3.2/\w64 x3.2<=room) ((Ac   Dk (Nat.min aD.length ((List.replicate (w64 x3.2).toNat ((0:Int),(0:Int))).length-0),NV (List.replicate (w64 x3.2).toNat (0,0)) 0 (Nat.min aD.length ((List.replicate (w64 x3.2).toNat ((0:Int),(0:Int))).length-0)) λi=>aD.getD i (0,0))).bind λx12=>some x12)
theorem So(h:Cf v21 v1=some v22):sP 283 [(Z7 v21),(Z5 v1)] [] (vu v22 20000) [(20000,.tok 2 90 v22.length)]:=
 sG Tryz.func283 λΓ q=>have hΓ:=q.own;gR q Gn [] [(4,yW)] [] (c1 (B1 2 Bq ((0:Int),(0:Int)))) (tB h λx1 y1 h=>gJ y1 (λ_=>aG Γ .normal (⟨[(0,(Z7 v21)),(1,(Z5 v1))],[],[]⟩:St)) (λy h=>Af q Ym [] (gC h (λh=>nomatch h) λh=>tS h (gK (Be (Bi Gn [] q))))) (gA (tB h λx3 y3 h=>tT q [0,5,6] [] [⟨[],[],(.tuple (wC x3.1 x3.2)),[],[],[]⟩] (c1 (LT y3)) (tB h λx4 y4 h=>gJ y4 (λ_=>aG Γ .normal (⟨[(0,(Z7 v21)),(6,(.int .u64 x3.2))],[],[]⟩:St)) (λy h=>tU q [0,6,26] [] (c2 (gI ((decide ((0:Int)<x3.1))==false)) (Lx (decide ((0:Int)<x3.1)))) (gC h (λh=>nomatch h) λh=>tS h (gK (Be (Bi [0,6] [] q))))) (gA (tV q [0,7] [30] h λh=>by exact gLe (Le.trans (Sn 30 (show ∀ k_,k_<((w64 x3.2).toNat)->AVleL ((λi_=>AV.eraseAll (λn_=>Bw n_ [30]) ((λ_=>[L5,L5]) i_)) k_) ((λi=>Bq ((nP x3).getD i ((0:Int),(0:Int)))) k_) from(λk hk=>M5 (e:=Bq) (d:=((0:Int),(0:Int))) (.cons (AVle.refl _) (.cons (AVle.refl _) .nil)) _ k (M6 hk)))) (R8 (λ(k_:Nat) u=>(Cp u [(Vi 30 k_)] [(30,.arr 2 90 k_ (λi=>Bq ((nP x3).getD i ((0:Int),(0:Int)))))])) (show(w64 x3.2).toNat=(nP x3).length from(N5 ..).symm))) (tU q [7,8] [30] (c1 (Eq.refl ((nP x3).length))) (gLe (Le.trans (Sn 30 (show ∀ k_,k_<((nP x3).length)->AVleL ((λi_=>AV.eraseAll (λn_=>Bw n_ [30]) ((WD (λi=>Bq ((nP x3).getD i ((0:Int),(0:Int)))) 0 (Nat.min v21.length ((nP x3).length-0)) (λi=>Bq (v21.getD i ((0:Int),(0:Int))))) i_)) k_) ((λi=>Bq ((Q73 x3 v21).getD i ((0:Int),(0:Int)))) k_) from(Bh (Ek ..) (λk_ hk_=>(Bj (AV.eraseAll (λn_=>Bw n_ [30])) ((NU (e:=Bq) (d:=((0:Int),(0:Int))) (l:=(nP x3)) (s:=(λi=>v21.getD i ((0:Int),(0:Int)))) (λ_ _=>rfl) (λ_ _=>rfl)) k_ hk_)).trans rfl)))) (R8 (λ(k_:Nat) u=>(Cp u [(Vi 30 k_)] [(30,.arr 2 90 k_ (λi=>Bq ((Q73 x3 v21).getD i ((0:Int),(0:Int)))))])) (show(nP x3).length=(Q73 x3 v21).length from(Ek ..)))) (tL q h [7,8] [30] (λu (i7,l8)=>(Cp u [(Vi 30 l8.length),(8,(Z5 i7))] (Z75 l8))) (λu l9=>aG Γ (.exit 0) (⟨[(Vi 30 l9.length)],(Z75 l9),[]⟩:St)) (λ⟨i7,l8⟩ y h=>Af q [7,8,37] [30] (gC h (λh=>tC h λc10_ h=>tC h λc11_ h=>tU q [7,8] [30] (c4 c10_ c11_ (Eq.refl l8.length) (Eq.refl l8.length)) (tS h (gN (Le.trans (Le.trans (Sn 30 (show ∀ k_,k_<l8.length->AVleL ((λi_=>AV.eraseAll (λn_=>Bw n_ [30]) ((WD (λi=>Bq (l8.getD i ((0:Int),(0:Int)))) (0+i7.toNat) (Nat.min ((0+i7.toNat)-0) (l8.length-(0+i7.toNat))) (λi=>(λi=>Bq (l8.getD i ((0:Int),(0:Int)))) (0+i))) i_)) k_) ((λi=>Bq ((Q72 l8 i7).getD i ((0:Int),(0:Int)))) k_) from(Bh (Ek ..) (λk_ hk_=>(Bj (AV.eraseAll (λn_=>Bw n_ [30])) ((NU (e:=Bq) (d:=((0:Int),(0:Int))) (l:=l8) (s:=(λi=>l8.getD (0+i) ((0:Int),(0:Int)))) (λ_ _=>rfl) (λ_ _=>rfl)) k_ hk_)).trans rfl)))) (R8 (λ(k_:Nat) u=>(Cp u [(Vi 30 k_)] [(30,.arr 2 90 k_ (λi=>Bq ((Q72 l8 i7).getD i ((0:Int),(0:Int)))))])) (show l8.length=(Q72 l8 i7).length from(Ek ..)))) Io)))) λh=>tS h (gO (Be (Bi [7] [30] q))))) λx12 h=>gA (Af q [4] [30] (P6 (⟨[(4,(.vsl 30 x12.length))],(Z75 x12),[]⟩:St) (tS h (gK (e:=.ret) (H4 [(30,20000)] (Le.trans (le_freeze (nm:=30) (sz:=2) (n:=x12.length) (e:=90) (f:=(λi=>Bq (x12.getD i ((0:Int),(0:Int))))) (g:=(λi=>Bq (x12.getD i ((0:Int),(0:Int))))) rfl ⟨rfl,trivial⟩ (λ_ _=>rfl) (by rw[hΓ];rfl)) (Gs (st':=⟨[(4,(vu x12 30))],[(30,.tok 2 90 x12.length)],[]⟩) (by kernel_rfl)))))))))))))))))
def Q74(a1:Bz):List OK:=[(yY a1.Kind a1.Bits a1.Lanes a1.Dst a1.Args a1.Imm),(3,.row 90 [ui,ui]),(4,.row 90 [(.int .i64 (64:Int)),ui]),(5,.row 90 [(Z5 a1.Bits),(Z5 a1.Lanes)]),(6,.row 90 [(Z5 a1.Bits),ui])]
def Qs(a1:Bz):Option qg:=
 bif a1.Kind==0 then(Iq []).bind λx1=>some x1 else bif a1.Kind==13 then(Iq [(1,1),(a1.Bits,a1.Lanes),(a1.Bits,a1.Lanes)]).bind λx2=>some x2 else Option.bind  (bif a1.Kind==14 then some (a1.Kind==14) else some (a1.Kind==15)) λx4=>bif x4 then(Iq [(w64 a1.Imm,1)]).bind λx6=>some x6 else bif a1.Kind==16 then(Iq [(64,1)]).bind λx7=>some x7 else bif a1.Kind==17 then(Iq [(64,1),(a1.Bits,a1.Lanes)]).bind λx8=>some x8 else Option.bind  (bif a1.Kind==18 then some (a1.Kind==18) else some (a1.Kind==19)) λx10=>bif x10 then(Iq [(1,1),(64,1),(a1.Bits,1)]).bind λx12=>some x12 else bif a1.Kind==20 then(Iq [(1,1),(a1.Bits,1),(a1.Bits,1),(a1.Bits,1)]).bind λx13=>some x13 else bif a1.Kind==21 then(Cf [(a1.Bits,1)] a1.Lanes).bind λx14=>(Iq x14).bind λx15=>some x15 else bif a1.Kind==22 then(Iq [(a1.Bits,a1.Lanes)]).bind λx16=>some x16 else(Iq [(a1.Bits,a1.Lanes),(a1.Bits,a1.Lanes)]).bind λx17=>some x17
theorem EK(h:Qs v6=some v21):sP 244 [(VV v6)] [] (Z7 v21) []:=
 sG Tryz.func244 λΓ q=>gR q [1] [1] [(2,yW)] [] (c1 (B1 2 Bq ((0:Int),(0:Int)))) (tW q J6 J6 Sj Sj (tW q [1,3,4,5,6,18] Sj [1,3,4,5,6,18,19] Sj (gC h (λh=>tB h λx1 y1 h=>tT q [2] [] [(kv x1)] (c1 (show(sP 282 [Zx] [] (Z7 x1) []) from(Spec.args (.cons sT .nil) (I9 y1)))) (tS h (Cc []))) λh=>Af q [1,3,4,5,6,18,22] Sj (gC h (λh=>tB h λx2 y2 h=>gR q [2] [] [(27,(AV.list 2 Bq ((0:Int),(0:Int)) ([((1:Int),(1:Int)),(v6.Bits,v6.Lanes),(v6.Bits,v6.Lanes)]:List J5) .exact))] [(kv x2)] (c2 (Br 2 Bq ((0:Int),(0:Int)) ([((1:Int),(1:Int)),(v6.Bits,v6.Lanes),(v6.Bits,v6.Lanes)]:List J5)) (I9 y2)) (tS h (Cc []))) λh=>tB h λx4 y4 h=>gJ y4 (λb3=>aG Γ .normal (⟨[CR,(3,(.ptr 3 0)),ZA,ed,(6,(.ptr 6 0)),(18,(Z5 v6.Kind)),(29,(.bool b3))],(Q74 v6),[]⟩:St)) (λy h=>Af q [1,3,4,5,6,18,29] Sj (gC h (λh=>tS h (gK (Be Io))) λh=>Af q [1,3,4,5,6,18,29] Sj (tS h (gK (Be Io))))) (gA (gC h (λh=>tB h λx6 y6 h=>gR q [2] [] [(36,(AV.list 2 Bq ((0:Int),(0:Int)) ([((w64 v6.Imm),(1:Int))]:List J5) .exact))] [(kv x6)] (c2 (Br 2 Bq ((0:Int),(0:Int)) ([((w64 v6.Imm),(1:Int))]:List J5)) (I9 y6)) (tS h (Cc []))) λh=>Af q [1,3,4,5,6,18,38] Sj (gC h (λh=>tB h λx7 y7 h=>gR q [2] [] [(41,(AV.list 2 Bq ((0:Int),(0:Int)) ([((64:Int),(1:Int))]:List J5) .exact))] [(kv x7)] (c2 (Br 2 Bq ((0:Int),(0:Int)) ([((64:Int),(1:Int))]:List J5)) (I9 y7)) (tS h (Cc []))) λh=>Af q [1,3,4,5,6,18,43] Sj (gC h (λh=>tB h λx8 y8 h=>gR q [2] [] [(47,(AV.list 2 Bq ((0:Int),(0:Int)) ([((64:Int),(1:Int)),(v6.Bits,v6.Lanes)]:List J5) .exact))] [(kv x8)] (c2 (Br 2 Bq ((0:Int),(0:Int)) ([((64:Int),(1:Int)),(v6.Bits,v6.Lanes)]:List J5)) (I9 y8)) (tS h (Cc []))) λh=>tB h λx10 y10 h=>gJ y10 (λb9=>aG Γ .normal (⟨[CR,(3,(.ptr 3 0)),ZA,ed,(6,(.ptr 6 0)),(18,(Z5 v6.Kind)),(49,(.bool b9))],(Q74 v6),[]⟩:St)) (λy h=>Af q [1,3,4,5,6,18,49] Sj (gC h (λh=>tS h (gK (Be Io))) λh=>Af q [1,3,4,5,6,18,49] Sj (tS h (gK (Be Io))))) (gA (gC h (λh=>tB h λx12 y12 h=>gR q [2] [] [(55,(AV.list 2 Bq ((0:Int),(0:Int)) ([((1:Int),(1:Int)),((64:Int),(1:Int)),(v6.Bits,(1:Int))]:List J5) .exact))] [(kv x12)] (c2 (Br 2 Bq ((0:Int),(0:Int)) ([((1:Int),(1:Int)),((64:Int),(1:Int)),(v6.Bits,(1:Int))]:List J5)) (I9 y12)) (tS h (Cc []))) λh=>Af q [1,3,5,6,18,57] IM (gC h (λh=>tB h λx13 y13 h=>gR q [2] [] [(63,(AV.list 2 Bq ((0:Int),(0:Int)) ([((1:Int),(1:Int)),(v6.Bits,(1:Int)),(v6.Bits,(1:Int)),(v6.Bits,(1:Int))]:List J5) .exact))] [(kv x13)] (c2 (Br 2 Bq ((0:Int),(0:Int)) ([((1:Int),(1:Int)),(v6.Bits,(1:Int)),(v6.Bits,(1:Int)),(v6.Bits,(1:Int))]:List J5)) (I9 y13)) (tS h (Cc []))) λh=>Af q [1,5,6,18,65] [1,5,6] (gC h (λh=>tB h λx14 y14 h=>tB h λx15 y15 h=>gR q [2] [] [(68,(AV.list 2 Bq ((0:Int),(0:Int)) ([(v6.Bits,(1:Int))]:List J5) .exact))] [⟨[],[(20000,71)],(vu x14 20000),[(20000,.tok 2 90 x14.length)],[],[]⟩,(kv x15)] (c3 (Br 2 Bq ((0:Int),(0:Int)) ([(v6.Bits,(1:Int))]:List J5)) (So y14) (I9 y15)) (tS h (Cc []))) λh=>Af q [5,73] [5] (gC h (λh=>tB h λx16 y16 h=>gR q [2] [] [(76,(AV.list 2 Bq ((0:Int),(0:Int)) ([(v6.Bits,v6.Lanes)]:List J5) .exact))] [(kv x16)] (c2 (Br 2 Bq ((0:Int),(0:Int)) ([(v6.Bits,v6.Lanes)]:List J5)) (I9 y16)) (tS h (Cc []))) λh=>tB h λx17 y17 h=>gR q [2] [] [(80,(AV.list 2 Bq ((0:Int),(0:Int)) ([(v6.Bits,v6.Lanes),(v6.Bits,v6.Lanes)]:List J5) .exact))] [(kv x17)] (c2 (Br 2 Bq ((0:Int),(0:Int)) ([(v6.Bits,v6.Lanes),(v6.Bits,v6.Lanes)]:List J5)) (I9 y17)) (tS h (Cc [])))))))))))))))
def Nq(aH:Int):Option Bool:=
 some (bif decide (1<=aH) then decide (aH<=1023) else false)
theorem Yz(h:Nq v1=some v3):sP 292 [(Z5 v1)] [] (.bool v3) []:=
 sG Tryz.func292 λΓ q=>Af q [0] [] (tU q [2] [] (c2 (gI ((decide ((1:Int)<=v1))==true)) (Nd (decide ((1:Int)<=v1)))) (tS h (Cc [])))
def Kj(a1:Bz):Int->Option (LR Int (Unit ⊕ Bool)):=
 λi2=>bif decide (i2<a1.Args.length) then Az (A2 i2 a1.Args.length) ((Nq (a1.Args.getD i2.toNat 0)).bind λx4=>bif !x4 then some (.done (.inr false)) else some (.next (w64 (i2+1)))) else some (.done (.inl ()))
def OM(Γ:H3)(a1:Bz)(r:Bool):Exit->St->Prop:=fK Tryz.prog Γ Tryz.f280.results.toList [] (.bool r) []
def Qo(a1:Bz):Option Bool:=
 (Qs a1).bind λx1=>bif (a1.Args.length:Int)!=x1.length then some false else(Ac   (Kj a1) 0).bind λx5=>match x5 with | .inl _=>some true | .inr r7=>some r7
theorem NH(h:Qo v6=some v3):sP 280 [(VV v6)] [] (.bool v3) []:=
 sG Tryz.func280 λΓ q=>Af q [1] [1] (tB h λx1 y1 h=>tT q [1,11] [1] [(kv x1)] (c1 (EK y1)) (gC h (λh=>Af q [2] [] (tS h (Cc []))) λh=>Af q [13,14,15] [] (tL q h [13,14,15] [] (λu i2=>(Cp u [(15,(Z5 i2))] [])) (λu x_=>match x_ with|(.inl _)=>aG Γ (.exit 0) (⟨[],[],[]⟩:St)|(.inr r_)=>aR (OM Γ v6 r_)) (λi2 y h=>Af q [13,14,15,16] [] (gC h (λh=>tV q [4,13,14,15] [] h λh=>tB h λx4 y4 h=>tT q [13,14,15,21] [] [(Z2 x4)] (c1 (Yz y4)) (gC h (λh=>Af q [2] [] (tS h (gO (Lj (H4 [] (Le.refl _ _)))))) λh=>Af q [13,14,15] [] (tN h))) λh=>tS h (gO (Be (Bi [] [] q))))) λx5 h=>(match x5,h with | .inl _,h=>gA (Af q [2] [] (tS h (Cc []))) | .inr r7,h=>Oz (λst' hk=>tS h (gK hk))))))
def Q75(a1:Bz):List OK:=[(yY a1.Kind a1.Bits a1.Lanes a1.Dst a1.Args a1.Imm)]
def Qq(a1:Bz):Option J5:=
 Option.bind  (bif a1.Kind==17 then some (a1.Kind==17) else some (a1.Kind==19)) λx2=>bif x2 then some (0,0) else Option.bind  (bif a1.Kind==10 then some (a1.Kind==10) else bif a1.Kind==11 then some (a1.Kind==11) else some (a1.Kind==12)) λx5=>bif x5 then some (1,1) else bif a1.Kind==22 then some (a1.Bits,1) else some (a1.Bits,a1.Lanes)
theorem EJ(h:Qq v6=some v19):sP 243 [(VV v6)] [] (.tuple [(Z5 v19.1),(Z5 v19.2)]) []:=
 sG Tryz.func243 λΓ q=>tW q [1] [1] [1,5] [1] (tB h λx2 y2 h=>gJ y2 (λb1=>aG Γ .normal (⟨[CR,(5,(Z5 v6.Kind)),(6,(.bool b1))],(Q75 v6),[]⟩:St)) (λy h=>Af q [1,5,6] [1] (gC h (λh=>tS h (gK (Be Io))) λh=>Af q [1,5,6] [1] (tS h (gK (Be Io))))) (gA (gC h (λh=>Af q Cz [] (tS h (Cc []))) λh=>tB h λx5 y5 h=>gJ y5 (λb4=>aG Γ .normal (⟨[CR,(5,(Z5 v6.Kind)),(9,(.bool b4))],(Q75 v6),[]⟩:St)) (λy h=>Af q [1,5,9] [1] (gC h (λh=>tS h (gK (Be Io))) λh=>Af q [1,5,9] [1] (gC h (λh=>tS h (gK (Be Io))) λh=>Af q [1,5,9] [1] (tS h (gK (Be Io)))))) (gA (gC h (λh=>Af q Cz [] (tS h (Cc []))) λh=>Af q [1,13] [1] (gC h (λh=>Af q Cz [] (tS h (Cc []))) λh=>Af q Cz [] (tS h (Cc []))))))))
def Qp(a1:Bz):Option Bool:=
 (Qq a1).bind λx1=>bif x1.1==0 then some (a1.Dst==0) else(Nq a1.Dst).bind λx2=>some x2
theorem NI(h:Qp v6=some v3):sP 281 [(VV v6)] [] (.bool v3) []:=
 sG Tryz.func281 λΓ q=>Af q [1] [1] (tB h λx1 y1 h=>tT q L4 [1] [(Z92 x1.1 x1.2)] (c1 (EJ y1)) (Af q [1,11] [1] (gC h (λh=>Af q [2] [] (tS h (Cc []))) λh=>tB h λx2 y2 h=>tT q [2] [] [(Z2 x2)] (c1 (Yz y2)) (tS h (Cc [])))))
def uc(x1:Bool)(x2:Bool):=(bif (!x1) then true else(!x2))
def Ro(a1:Bz):Option Bool:=
 (O1 a1.Kind).bind λx1=>(bif (!x1)==false then Ta a1.Bits a1.Lanes else some false).bind λx2=>(bif (bif !x1 then true else !x2)==false then Oc a1 else some false).bind λx3=>(bif (bif bif !x1 then true else !x2 then true else !x3)==false then Qr a1 else some false).bind λx4=>bif bif bif bif !x1 then true else !x2 then true else !x3 then true else !x4 then some false else(Qo a1).bind λx5=>(bif x5==true then Qp a1 else some false).bind λx6=>some (bif x5 then x6 else false)
theorem BE(h:Ro v6=some v3):sP 241 [(VV v6)] [] (.bool v3) []:=
 sG Tryz.func241 λΓ q=>Af q [1] [1] (tB h λx1 y1 h=>tB h λx2 y2 h=>tB h λx3 y3 h=>tB h λx4 y4 h=>tT q [1,24] [1] [(Z2 x1),(Z2 x2),(Z2 x3),(Z2 x4)] (ci (BF y1) (LJ ((!x1)==false) (d9_ (λ(hg:((!x1)==false)=true)=>(VI (Bf hg y2))) (gI ((!x1)==false)) (Lx (!x1)) (gI ((uc x1 x2)==false)) (λ(hg:((uc x1 x2)==false)=true)=>(HT (Bf hg y3))) (gI ((uc x1 x2)==false)) (Lx (uc x1 x2)) (gI ((bif (uc x1 x2) then true else(!x3))==false)) (λ(hg:((bif (uc x1 x2) then true else(!x3))==false)=true)=>(NJ (Bf hg y4))) (c2 (gI ((bif (uc x1 x2) then true else(!x3))==false)) (Lx (bif (uc x1 x2) then true else(!x3))))))) (gC h (λh=>Af q [2] [] (tS h (Cc []))) λh=>tB h λx5 y5 h=>tB h λx6 y6 h=>tT q [2] [] [(Z2 x5),(Z2 x6)] (c4 (NH y5) (gI (x5==true)) (λ(hg:(x5==true)=true)=>(NI (Bf hg y6))) (Nd x5)) (tS h (Cc []))))
def S8(a1:Bz)(aO:Int):Option Bool:=
 bif aO==0 then some (bif decide (a1.Kind<=17) then a1.Lanes==1 else false) else bif aO==1 then some (bif decide (a1.Kind<=20) then a1.Lanes==1 else false) else some true
theorem VD(h:S8 v6 v1=some v3):sP 242 [(VV v6),(Z5 v1)] [] (.bool v3) []:=
 sG Tryz.func242 λΓ q=>tW q D7 [2] Uh [2] (Af q W5 [2] (gC h (λh=>tU q [4] [] (Mr ((decide (v6.Kind<=17))==true) (c1 (Nd (decide (v6.Kind<=17))))) (tS h (Cc []))) λh=>Af q Vx [2] (gC h (λh=>tU q [4] [] (Mr ((decide (v6.Kind<=20))==true) (c1 (Nd (decide (v6.Kind<=20))))) (tS h (Cc []))) λh=>Af q [4] [] (tS h (Cc [])))))
abbrev CB:=(Bool×TFunc×Int×Aw×List Bk)
def Ia(a1:Bz)(a3:TFunc)(a5:Int)(a7:Aw)(aB:List Bk):Option CB:=
 (Ro a1).bind λx1=>(bif x1==true then S8 a1 a5 else some false).bind λx2=>some (bif x1 then x2 else false,a3,a5,a7,aB)
variable{v23:CB}
theorem Vr(h:Ia v6 v0 v1 v2 v12=some v23):sP 202 [(.ptr 30000 0),(VV v6)] (Z3 v0.Params v0.Ret v0.Blocks v1 v2 v12 v12.length) (.bool v23.1) (Z3 v23.2.1.Params v23.2.1.Ret v23.2.1.Blocks v23.2.2.1 v23.2.2.2.1 v23.2.2.2.2 v23.2.2.2.2.length):=
 sG Tryz.func202 λΓ q=>Af q Rh SX (tB h λx1 y1 h=>tB h λx2 y2 h=>tT q [4] Iw [(Z2 x1),(Z2 x2)] (ci (BE y1) (wZ (x1==true) (c2 (λ(hg:(x1==true)=true)=>(VD (Bf hg y2))) (Nd x1)))) (tS h (Cc Y8)))
abbrev KG:=(Int×Aw×Int×List Ae×Int×Aw×List Bk)
abbrev zX:=(LR (Int×Aw×Int×List Ae×Int×Aw×List Bk) ((Aw×Int×List Ae×Int×Aw×List Bk) ⊕ (Bool×TFunc×Int×Aw×List Bk)))
def Hk(aA:List Bz):KG->Option zX:=
 λ(i1,l2,i3,l4,i5,l6,l7)=>bif decide (i1<aA.length) then Az (A2 i1 aA.length) ((Ia (aA.getD i1.toNat default) ⟨l2,i3,l4⟩ i5 l6 l7).bind λx15=>bif !x15.1 then some (.done (.inr (false,x15.2.1,x15.2.2.1,x15.2.2.2.1,x15.2.2.2.2))) else some (.next (w64 (i1+1),x15.2.1.Params,x15.2.1.Ret,x15.2.1.Blocks,x15.2.2.1,x15.2.2.2.1,x15.2.2.2.2))) else some (.done (.inl (l2,i3,l4,i5,l6,l7)))
def EZ(Γ:H3)(aA:List Bz)(a3:TFunc)(a5:Int)(a7:Aw)(aB:List Bk)(r:CB):Exit->St->Prop:=fK Tryz.prog Γ Tryz.f201.results.toList (Z3 a3.Params a3.Ret a3.Blocks a5 a7 aB aB.length) (.bool r.1) (Z3 r.2.1.Params r.2.1.Ret r.2.1.Blocks r.2.2.1 r.2.2.2.1 r.2.2.2.2 r.2.2.2.2.length)
def L9(aA:List Bz)(a3:TFunc)(a5:Int)(a7:Aw)(aB:List Bk):Option CB:=
 (Ac   (Hk aA) (0,a3.Params,a3.Ret,a3.Blocks,a5,a7,aB)).bind λx16=>match x16 with | .inl (l8,i9,l10,i11,l12,l13)=>some (true,⟨l8,i9,l10⟩,i11,l12,l13) | .inr r18=>some r18
theorem DX(h:L9 v7 v0 v1 v2 v12=some v23):sP 201 [(xP v7),(.clo 202 nY [])] (Z3 v0.Params v0.Ret v0.Blocks v1 v2 v12 v12.length) (.bool v23.1) (Z3 v23.2.1.Params v23.2.1.Ret v23.2.1.Blocks v23.2.2.1 v23.2.2.2.1 v23.2.2.2.2 v23.2.2.2.2.length):=
 sG Tryz.func201 λΓ q=>tW q Gn Iw Na Iw (tL q h Na Iw (λu (i1,l2,i3,l4,i5,l6,l7)=>(Cp u [(9,(Z5 i1))] (Z3 l2 i3 l4 i5 l6 l7 l7.length))) (λu x_=>match x_ with|(.inl (l8,i9,l10,i11,l12,l13))=>aG Γ (.exit 0) (⟨[],(Z3 l8 i9 l10 i11 l12 l13 l13.length),[]⟩:St)|(.inr r_)=>aR (EZ Γ v7 v0 v1 v2 v12 r_)) (λ⟨i1,l2,i3,l4,i5,l6,l7⟩ y h=>Af q MU Iw (gC h (λh=>tV q MV [6,30000,37006] h λh=>tB h λx15 y15 h=>tT q UB Iw [(Z68 x15.1 x15.2.1.Params x15.2.1.Ret x15.2.1.Blocks x15.2.2.1 x15.2.2.2.1 x15.2.2.2.2 x15.2.2.2.2.length)] (c1 (Vr y15)) (gC h (λh=>Af q [4] Iw (tS h (gO (Lj (H4 Y8 (Le.refl _ _)))))) λh=>Af q Na Iw (tN h))) λh=>tS h (gO (Be (Bi [] Iw q))))) λx16 h=>(match x16,h with | .inl ⟨l8,i9,l10,i11,l12,l13⟩,h=>gA (Af q [4] Iw (tS h (Cc Y8))) | .inr r18,h=>Oz (λst' hk=>tS h (gK hk))))
def Q79(x1:Bool)(x2:CB)(a7:Aw):AV:=(Z67 x1 x2.2.2.2.1 a7)
def Q78(x1:Bool)(x2:CB)(a3:TFunc):AV:=(Z67 x1 x2.2.1.Params a3.Params)
def Q77(x1:Bool)(x2:CB)(a3:TFunc):AV:=(.slice 5 (bif (x1==true) then x2.2.1.Blocks.length else a3.Blocks.length) (λi=>bif (x1==true) then Cj (x2.2.1.Blocks.getD i default) else Cj (a3.Blocks.getD i default)) .none)
def Gt(aM:Ae)(a3:TFunc)(a5:Int)(a7:Aw)(aB:List Bk):Option CB:=
 (Ll aM.Phis).bind λx1=>(bif x1==true then L9 aM.Ops a3 a5 a7 aB else some (false,default,0,[],[])).bind λx2=>some (bif x1 then x2.1 else false,⟨bif x1==true then x2.2.1.Params else a3.Params,bif x1==true then x2.2.1.Ret else a3.Ret,bif x1==true then x2.2.1.Blocks else a3.Blocks⟩,bif x1==true then x2.2.2.1 else a5,bif x1==true then x2.2.2.2.1 else a7,bif x1==true then x2.2.2.2.2 else aB)
theorem Tb(h:Gt v9 v0 v1 v2 v12=some v23):sP 158 [(.ptr 30000 0),(.agg (Cj v9))] (Z3 v0.Params v0.Ret v0.Blocks v1 v2 v12 v12.length) (.bool v23.1) (Z3 v23.2.1.Params v23.2.1.Ret v23.2.1.Blocks v23.2.2.1 v23.2.2.2.1 v23.2.2.2.2 v23.2.2.2.2.length):=
 sG Tryz.func158 λΓ q=>Af q Rh SX (tB h λx1 y1 h=>tB h λx2 y2 h=>tT q [4] Iw [(Z2 x1),(Z68 x2.1 x2.2.1.Params x2.2.1.Ret x2.2.1.Blocks x2.2.2.1 x2.2.2.2.1 x2.2.2.2.2 x2.2.2.2.2.length)] (ci (AZ y1) (LJ (x1==true) (c2 (λ(hg:(x1==true)=true)=>(DX (Bf hg y2))) (Nd x1)))) (tS h (gK (e:=.ret) (H4 Y8 (Le.trans (leB (λg_ u=>(Cp u [] [(30000,.row 102 [(Q78 x1 x2 v0),(.int .i64 (bif (x1==true) then x2.2.1.Ret else v0.Ret)),(Q77 x1 x2 v0),(.int .i64 (bif (x1==true) then x2.2.2.1 else v1)),(Q79 x1 x2 v2),.nilm,(Z38 g_ x2.2.2.2.2 v12)]),(37006,.tok 5 211 (bif g_ then x2.2.2.2.2.length else v12.length))])) (λg_ u=>(Cp u [] [(30000,.row 102 [(Q78 x1 x2 v0),(.int .i64 (bif (x1==true) then x2.2.1.Ret else v0.Ret)),(Q77 x1 x2 v0),(.int .i64 (bif (x1==true) then x2.2.2.1 else v1)),(Q79 x1 x2 v2),.nilm,(AV.list 5 Oi default (bif g_ then x2.2.2.2.2 else v12) (.own 37006))]),(37006,.tok 5 211 ((bif g_ then x2.2.2.2.2 else v12).length))])) (x1==true)) (Le.trans (tD 30000 0 (show AVle (Q78 x1 x2 v0) (AV.list 1 Aq 0 (bif (x1==true) then x2.2.1.Params else v0.Params) .none) from J9)) (Le.trans (tD 30000 2 (show AVle (Q77 x1 x2 v0) (AV.list 5 Cj default (bif (x1==true) then x2.2.1.Blocks else v0.Blocks) .none) from J9)) (tD 30000 4 (show AVle (Q79 x1 x2 v2) (AV.list 1 Aq 0 (bif (x1==true) then x2.2.2.2.1 else v2) .none) from J9)))))))))
def Fl(aA:List Ae):KG->Option zX:=
 λ(i1,l2,i3,l4,i5,l6,l7)=>bif decide (i1<aA.length) then Az (A2 i1 aA.length) ((Gt (aA.getD i1.toNat default) ⟨l2,i3,l4⟩ i5 l6 l7).bind λx15=>bif !x15.1 then some (.done (.inr (false,x15.2.1,x15.2.2.1,x15.2.2.2.1,x15.2.2.2.2))) else some (.next (w64 (i1+1),x15.2.1.Params,x15.2.1.Ret,x15.2.1.Blocks,x15.2.2.1,x15.2.2.2.1,x15.2.2.2.2))) else some (.done (.inl (l2,i3,l4,i5,l6,l7)))
def Zb(Γ:H3)(aA:List Ae)(a3:TFunc)(a5:Int)(a7:Aw)(aB:List Bk)(r:CB):Exit->St->Prop:=fK Tryz.prog Γ Tryz.f157.results.toList (Z3 a3.Params a3.Ret a3.Blocks a5 a7 aB aB.length) (.bool r.1) (Z3 r.2.1.Params r.2.1.Ret r.2.1.Blocks r.2.2.1 r.2.2.2.1 r.2.2.2.2 r.2.2.2.2.length)
def Js(aA:List Ae)(a3:TFunc)(a5:Int)(a7:Aw)(aB:List Bk):Option CB:=
 (Ac   (Fl aA) (0,a3.Params,a3.Ret,a3.Blocks,a5,a7,aB)).bind λx16=>match x16 with | .inl (l8,i9,l10,i11,l12,l13)=>some (true,⟨l8,i9,l10⟩,i11,l12,l13) | .inr r18=>some r18
theorem Xx(h:Js v10 v0 v1 v2 v12=some v23):sP 157 [(UE v10),(.clo 158 nY [])] (Z3 v0.Params v0.Ret v0.Blocks v1 v2 v12 v12.length) (.bool v23.1) (Z3 v23.2.1.Params v23.2.1.Ret v23.2.1.Blocks v23.2.2.1 v23.2.2.2.1 v23.2.2.2.2 v23.2.2.2.2.length):=
 sG Tryz.func157 λΓ q=>tW q Gn Iw Na Iw (tL q h Na Iw (λu (i1,l2,i3,l4,i5,l6,l7)=>(Cp u [(9,(Z5 i1))] (Z3 l2 i3 l4 i5 l6 l7 l7.length))) (λu x_=>match x_ with|(.inl (l8,i9,l10,i11,l12,l13))=>aG Γ (.exit 0) (⟨[],(Z3 l8 i9 l10 i11 l12 l13 l13.length),[]⟩:St)|(.inr r_)=>aR (Zb Γ v10 v0 v1 v2 v12 r_)) (λ⟨i1,l2,i3,l4,i5,l6,l7⟩ y h=>Af q MU Iw (gC h (λh=>tV q MV [6,30000,37006] h λh=>tB h λx15 y15 h=>tT q UB Iw [(Z68 x15.1 x15.2.1.Params x15.2.1.Ret x15.2.1.Blocks x15.2.2.1 x15.2.2.2.1 x15.2.2.2.2 x15.2.2.2.2.length)] (c1 (Tb y15)) (gC h (λh=>Af q [4] Iw (tS h (gO (Lj (H4 Y8 (Le.refl _ _)))))) λh=>Af q Na Iw (tN h))) λh=>tS h (gO (Be (Bi [] Iw q))))) λx16 h=>(match x16,h with | .inl ⟨l8,i9,l10,i11,l12,l13⟩,h=>gA (Af q [4] Iw (tS h (Cc Y8))) | .inr r18,h=>Oz (λst' hk=>tS h (gK hk))))
def kr(x1:Bool)(x2:Bool):=((bif x1 then x2 else false)==true)
def Q83(x1:Bool)(x2:Bool)(x3:CB)(a7:Aw):AV:=(Z23 (kr x1 x2) x3.2.2.2.1 a7)
def Q82(x1:Bool)(x2:Bool)(x3:CB)(a3:TFunc):AV:=(Z23 (kr x1 x2) x3.2.1.Params a3.Params)
def Q81(x1:Bool)(x2:Bool)(x3:CB)(a3:TFunc):AV:=(Z61 (kr x1 x2) x3.2.1.Blocks a3.Blocks)
def Jt(a3:TFunc)(a5:Int)(a7:Aw)(aB:List Bk):Option me:=
 (O8 a3.Params).bind λx1=>(bif x1==true then La a3.Ret else some false).bind λx2=>(bif (bif x1 then x2 else false)==true then Js a3.Blocks a3 a5 a7 aB else some (false,default,0,[],[])).bind λx3=>(Nm (bif bif x1 then x2 else false then x3.1 else false) 6).bind λx4=>some (x4,⟨bif (bif x1 then x2 else false)==true then x3.2.1.Params else a3.Params,bif (bif x1 then x2 else false)==true then x3.2.1.Ret else a3.Ret,bif (bif x1 then x2 else false)==true then x3.2.1.Blocks else a3.Blocks⟩,bif (bif x1 then x2 else false)==true then x3.2.2.1 else a5,bif (bif x1 then x2 else false)==true then x3.2.2.2.1 else a7,bif (bif x1 then x2 else false)==true then x3.2.2.2.2 else aB)
theorem Xy(h:Jt v0 v1 v2 v12=some v13):sP 106 nY (Z3 v0.Params v0.Ret v0.Blocks v1 v2 v12 v12.length) (Z5 v13.1) (Z3 v13.2.1.Params v13.2.1.Ret v13.2.1.Blocks v13.2.2.1 v13.2.2.2.1 v13.2.2.2.2 v13.2.2.2.2.length):=
 sG Tryz.func106 λΓ q=>Af q [0] Iw (tB h λx1 y1 h=>tB h λx2 y2 h=>tB h λx3 y3 h=>tT q [3] Iw [(Z2 x1),(Z2 x2),(Z68 x3.1 x3.2.1.Params x3.2.1.Ret x3.2.1.Blocks x3.2.2.1 x3.2.2.2.1 x3.2.2.2.2 x3.2.2.2.2.length)] (ci (JP y1) (wZ (x1==true) (fb (λ(hg:(x1==true)=true)=>(Nx (Bf hg y2))) (Nd x1) (gI7 (kr x1 x2) (c2 (λ(hg:(kr x1 x2)=true)=>(Xx (Bf hg y3))) (Nd (bif x1 then x2 else false))))))) (gLe (Le.trans (leB (λg_ u=>(Cp u [] [(30000,.row 102 [(Q82 x1 x2 x3 v0),(uh (kr x1 x2) x3.2.1.Ret v0.Ret),(Q81 x1 x2 x3 v0),(uh (kr x1 x2) x3.2.2.1 v1),(Q83 x1 x2 x3 v2),.nilm,(Z38 g_ x3.2.2.2.2 v12)]),(37006,.tok 5 211 (bif g_ then x3.2.2.2.2.length else v12.length))])) (λg_ u=>(Cp u [] [(30000,.row 102 [(Q82 x1 x2 x3 v0),(uh (kr x1 x2) x3.2.1.Ret v0.Ret),(Q81 x1 x2 x3 v0),(uh (kr x1 x2) x3.2.2.1 v1),(Q83 x1 x2 x3 v2),.nilm,(AV.list 5 Oi default (bif g_ then x3.2.2.2.2 else v12) (.own 37006))]),(37006,.tok 5 211 ((bif g_ then x3.2.2.2.2 else v12).length))])) (kr x1 x2)) (Le.trans (tD 30000 0 (show AVle (Q82 x1 x2 x3 v0) (AV.list 1 Aq 0 (bif (kr x1 x2) then x3.2.1.Params else v0.Params) .none) from J9)) (Le.trans (tD 30000 2 (show AVle (Q81 x1 x2 x3 v0) (AV.list 5 Cj default (bif (kr x1 x2) then x3.2.1.Blocks else v0.Blocks) .none) from J9)) (tD 30000 4 (show AVle (Q83 x1 x2 x3 v2) (AV.list 1 Aq 0 (bif (kr x1 x2) then x3.2.2.2.1 else v2) .none) from J9))))) (tB h λx4 y4 h=>tT q [2] Iw [(UF x4)] (c1 (Yw y4)) (tS h (Cc Y8)))))
def Eu(aI:Int):Option J5:=
 some (aI,1)
theorem Mn(h:Eu v1=some v19):sP 159 [(Z5 v1)] [] (.agg (Bq v19)) []:=
 sG Tryz.func159 λΓ q=>tW q [0,2] [2] [2] [2] (tS h (Cc []))
def xJ:=(λ(v_:Ay)=>((Xa v_):AV))
abbrev Q7:=(Int×Ay)
abbrev eR:=(Bool×TFunc×Int×Aw×List Bk×List (Int×Ay))
def Gu(aH:Int)(aa6:J5)(aL:P9)(a3:TFunc)(a5:Int)(a7:Aw)(aC:List Q7)(aB:List Bk):Option eR:=
 bif bif bif Ec aC aH then true else decide (aH<1) then true else decide (1023<aH) then some (false,a3,a5,a7,aB,aC) else some (true,a3,a5,a7,aB,Jk aC aH ⟨aa6,aL⟩)
variable{v24:P9}{v25:List Q7}{v26:eR}
abbrev mP:=(Int×AV)
theorem Ps(h:Gu v1 v19 v24 v0 v11 v2 v25 v12=some v26):sP 203 [(.ptr 30000 0),(Z5 v1),(.agg (Bq v19)),(.agg (NY v24))] [(Z1 v0.Params v0.Ret v0.Blocks v11 v2 9100005 v12),(Li 37006 211 v12.length),(9100005,.obj (.map true .i64 (Bu (λ(v_:Ay)=>((Xa v_):AV)) v25)))] (.bool v26.1) [(Z1 v26.2.1.Params v26.2.1.Ret v26.2.1.Blocks v26.2.2.1 v26.2.2.2.1 9100005 v26.2.2.2.2.1),(Li 37006 211 v26.2.2.2.2.1.length),(9100005,.obj (.map true .i64 (Bu (λ(v_:Ay)=>((Xa v_):AV)) v26.2.2.2.2.2)))]:=
 sG Tryz.func203 λΓ q=>Af q TM kI (gR q [0,1,6,7,10] kI [(17,(.tuple [(ug v25 v1),(.bool (Ec v25 v1))]))] [] (c1 (show(AVle (.tuple [Fy (.agg [L5,L5,L5,L5]) (Bu xJ v25) v1,.bool (Ec (Bu xJ v25) v1)]) (.tuple [(ug v25 v1),(.bool (Ec v25 v1))])) from(QP (f:=xJ) (l:=v25) (AVle.refl _) rfl))) (tU q [0,1,6,7,28] kI (c4 (gI ((Ec v25 v1)==false)) (Lx (Ec v25 v1)) (gI ((bif (Ec v25 v1) then true else(decide (v1<1)))==false)) (Lx (bif (Ec v25 v1) then true else(decide (v1<1))))) (gC h (λh=>Af q [8] It (tS h (Cc DY))) λh=>Af q [] It (gLe (R8 (λ(k_:List mP) u=>Cp u [] [(UQ 9100005 k_)]) (show(Jk (Bu xJ v25) v1 (.agg [(Z5 v19.1),(Z5 v19.2),(Z5 v24.block),(Z5 v24.at_)]))=(Bu xJ (Jk v25 v1 (⟨v19,v24⟩:Ay))) from(af (f:=xJ) (l:=v25) (v:=(⟨v19,v24⟩:Ay)) rfl rfl))) (Af q [8] It (tS h (Cc DY)))))))
def Qm(a1:Bz):Option J5:=
 (Ro a1).bind λx1=>bif !x1 then some (0,0) else(Qq a1).bind λx2=>some (x2.1,x2.2)
theorem VH(h:Qm v6=some v19):sP 204 [(VV v6)] [] (.tuple [(Z5 v19.1),(Z5 v19.2)]) []:=
 sG Tryz.func204 λΓ q=>Af q [1] [1] (tB h λx1 y1 h=>tT q [1,6] [1] [(Z2 x1)] (c1 (BE y1)) (gC h (λh=>Af q Cz [] (tS h (Cc []))) λh=>tB h λx2 y2 h=>tT q Cz [] [(Z92 x2.1 x2.2)] (c1 (EJ y2)) (tS h (Cc []))))
set_option maxRecDepth 100000
set_option maxHeartbeats 2000000
abbrev zY:=(Int×Aw×Int×List Ae×Int×Aw×List Bk×List (Int×Ay))
abbrev zZ:=(LR (Int×Aw×Int×List Ae×Int×Aw×List Bk×List (Int×Ay)) ((Aw×Int×List Ae×Int×Aw×List Bk×List (Int×Ay)) ⊕ (Bool×TFunc×Int×Aw×List Bk×List (Int×Ay))))
def Dz(aa3:Int)(aM:Ae):zY->Option zZ:=
 λ(i1,l2,i3,l4,i5,l6,l7,l8)=>bif decide (i1<aM.Phis.length) then Az (A2 i1 aM.Phis.length) ((Eu (aM.Phis.getD i1.toNat default).Bits).bind λx17=>(Gu (aM.Phis.getD i1.toNat default).Dst x17 ⟨aa3,-1⟩ ⟨l2,i3,l4⟩ i5 l6 l8 l7).bind λx18=>bif !x18.1 then some (.done (.inr (false,x18.2.1,x18.2.2.1,x18.2.2.2.1,x18.2.2.2.2.1,x18.2.2.2.2.2))) else some (.next (w64 (i1+1),x18.2.1.Params,x18.2.1.Ret,x18.2.1.Blocks,x18.2.2.1,x18.2.2.2.1,x18.2.2.2.2.1,x18.2.2.2.2.2))) else some (.done (.inl (l2,i3,l4,i5,l6,l7,l8)))
def Cr(aa3:Int)(aM:Ae):zY->Option zZ:=
 λ(i21,l22,i23,l24,i25,l26,l27,l28)=>bif decide (i21<aM.Ops.length) then Az (A2 i21 aM.Ops.length) ((Qm (aM.Ops.getD i21.toNat default)).bind λx37=>(bif decide (0<x37.1)==true then Gu (aM.Ops.getD i21.toNat default).Dst (x37.1,x37.2) ⟨aa3,i21⟩ ⟨l22,i23,l24⟩ i25 l26 l28 l27 else some (false,default,0,[],[],[])).bind λx38=>bif bif decide (0<x37.1) then !x38.1 else false then some (.done (.inr (false,⟨bif decide (0<x37.1)==true then x38.2.1.Params else l22,bif decide (0<x37.1)==true then x38.2.1.Ret else i23,bif decide (0<x37.1)==true then x38.2.1.Blocks else l24⟩,bif decide (0<x37.1)==true then x38.2.2.1 else i25,bif decide (0<x37.1)==true then x38.2.2.2.1 else l26,bif decide (0<x37.1)==true then x38.2.2.2.2.1 else l27,bif decide (0<x37.1)==true then x38.2.2.2.2.2 else l28))) else some (.next (w64 (i21+1),bif decide (0<x37.1)==true then x38.2.1.Params else l22,bif decide (0<x37.1)==true then x38.2.1.Ret else i23,bif decide (0<x37.1)==true then x38.2.1.Blocks else l24,bif decide (0<x37.1)==true then x38.2.2.1 else i25,bif decide (0<x37.1)==true then x38.2.2.2.1 else l26,bif decide (0<x37.1)==true then x38.2.2.2.2.1 else l27,bif decide (0<x37.1)==true then x38.2.2.2.2.2 else l28))) else some (.done (.inl (l22,i23,l24,i25,l26,l27,l28)))
def Oh(Γ:H3)(aa3:Int)(aM:Ae)(a3:TFunc)(a5:Int)(a7:Aw)(aC:List Q7)(aB:List Bk)(r:eR):Exit->St->Prop:=fK Tryz.prog Γ Tryz.f160.results.toList [(Z1 a3.Params a3.Ret a3.Blocks a5 a7 9100005 aB),(Li 37006 211 aB.length),(9100005,.obj (.map true .i64 (Bu (λ(v_:Ay)=>((Xa v_):AV)) aC)))] (.bool r.1) [(Z1 r.2.1.Params r.2.1.Ret r.2.1.Blocks r.2.2.1 r.2.2.2.1 9100005 r.2.2.2.2.1),(Li 37006 211 r.2.2.2.2.1.length),(9100005,.obj (.map true .i64 (Bu (λ(v_:Ay)=>((Xa v_):AV)) r.2.2.2.2.2)))]
def eZ(x37:J5):=((decide ((0:Int)<x37.1))==true)
def sK:=(λ(v_:Ay)=>((Xa v_):AV))
def Q89(x37:J5)(x38:eR)(l26:Aw):AV:=(Z23 (eZ x37) x38.2.2.2.1 l26)
def Q90(x37:J5)(x38:eR)(l24:List Ae):AV:=(Z61 (eZ x37) x38.2.1.Blocks l24)
def Q88(x37:J5)(x38:eR)(l22:Aw):AV:=(Z23 (eZ x37) x38.2.1.Params l22)
def Hg(aa3:Int)(aM:Ae)(a3:TFunc)(a5:Int)(a7:Aw)(aC:List Q7)(aB:List Bk):Option eR:=
 (Ac   (Dz aa3 aM) (0,a3.Params,a3.Ret,a3.Blocks,a5,a7,aB,aC)).bind λx19=>match x19 with | .inl (l9,i10,l11,i12,l13,l14,l15)=>(Ac   (Cr aa3 aM) (0,l9,i10,l11,i12,l13,l14,l15)).bind λx39=>(match x39 with | .inl (l29,i30,l31,i32,l33,l34,l35)=>some (true,⟨l29,i30,l31⟩,i32,l33,l34,l35) | .inr r41=>some r41) | .inr r42=>some r42
theorem T0(h:Hg v1 v9 v0 v11 v2 v25 v12=some v26):sP 160 [(.ptr 30000 0),(Z5 v1),(.agg (Cj v9))] [(Z1 v0.Params v0.Ret v0.Blocks v11 v2 9100005 v12),(Li 37006 211 v12.length),(9100005,.obj (.map true .i64 (Bu (λ(v_:Ay)=>((Xa v_):AV)) v25)))] (.bool v26.1) [(Z1 v26.2.1.Params v26.2.1.Ret v26.2.1.Blocks v26.2.2.1 v26.2.2.2.1 9100005 v26.2.2.2.2.1),(Li 37006 211 v26.2.2.2.2.1.length),(9100005,.obj (.map true .i64 (Bu (λ(v_:Ay)=>((Xa v_):AV)) v26.2.2.2.2.2)))]:=
 sG Tryz.func160 λΓ q=>tW q Nb MP iE MP (tL q h iE MP (λu (i1,l2,i3,l4,i5,l6,l7,l8)=>(Cp u [(16,(Z5 i1))] [(Z1 l2 i3 l4 i5 l6 9100005 l7),(Li 37006 211 l7.length),(9100005,.obj (.map true .i64 (Bu sK l8)))])) (λu x_=>match x_ with|(.inl (l9,i10,l11,i12,l13,l14,l15))=>aG Γ (.exit 0) (Nf Nb MP u [] [(Z1 l9 i10 l11 i12 l13 9100005 l14),(Li 37006 211 l14.length),(9100005,.obj (.map true .i64 (Bu sK l15)))])|(.inr r_)=>aR (Oh Γ v1 v9 v0 v11 v2 v25 v12 r_)) (λ⟨i1,l2,i3,l4,i5,l6,l7,l8⟩ y h=>Af q [0,1,5,14,15,16,17] MP (gC h (λh=>tV q [0,1,5,8,14,15,16] [5,8,30000,37006,9100005] h λh=>tB h λx17 y17 h=>tB h λx18 y18 h=>tT q [0,1,5,14,15,16,29] MP [(yb x17),⟨DY,[],(.bool x18.1),[(Z1 x18.2.1.Params x18.2.1.Ret x18.2.1.Blocks x18.2.2.1 x18.2.2.2.1 9100005 x18.2.2.2.2.1),(Li 37006 211 x18.2.2.2.2.1.length),(9100005,.obj (.map true .i64 (Bu sK x18.2.2.2.2.2)))],[],[]⟩] (c2 (Mn y17) (Ps y18)) (gC h (λh=>Af q [6] It (tS h (gO (Lj (H4 DY (Le.refl _ _)))))) λh=>Af q iE MP (tN h))) λh=>tS h (gO (Be (Bi Nb MP q))))) λx19 h=>(match x19,h with | .inl ⟨l9,i10,l11,i12,l13,l14,l15⟩,h=>gA (Af q iJ It (tL q h iJ It (λu (i21,l22,i23,l24,i25,l26,l27,l28)=>(Cp u [(34,(Z5 i21))] [(Z1 l22 i23 l24 i25 l26 9100005 l27),(Li 37006 211 l27.length),(9100005,.obj (.map true .i64 (Bu sK l28)))])) (λu x_=>match x_ with|(.inl (l29,i30,l31,i32,l33,l34,l35))=>aG Γ (.exit 2) (⟨[],[(Z1 l29 i30 l31 i32 l33 9100005 l34),(Li 37006 211 l34.length),(9100005,.obj (.map true .i64 (Bu sK l35)))],[]⟩:St)|(.inr r_)=>aR (Oh Γ v1 v9 v0 v11 v2 v25 v12 r_)) (λ⟨i21,l22,i23,l24,i25,l26,l27,l28⟩ y h=>Af q [0,1,32,33,34,35] It (gC h (λh=>tV q [0,1,9,10,32,33,34] qu h λh=>tB h λx37 y37 h=>tT q [0,1,9,10,11,12,32,33,34] qu [(Z92 x37.1 x37.2)] (c1 (VH y37)) (tB h λx38 y38 h=>tT q [0,1,32,33,34,58] It [⟨DY,[],(.bool x38.1),[(Z1 x38.2.1.Params x38.2.1.Ret x38.2.1.Blocks x38.2.2.1 x38.2.2.2.1 9100005 x38.2.2.2.2.1),(Li 37006 211 x38.2.2.2.2.1.length),(9100005,.obj (.map true .i64 (Bu sK x38.2.2.2.2.2)))],[],[]⟩] (gI9 (eZ x37) (c3 (λ(hg:(eZ x37)=true)=>(Ps (Bf hg y38))) (gI (eZ x37)) (Nd (decide ((0:Int)<x37.1))))) (gLe (Le.trans (R8 (λ(k_:List mP) u=>Cp u [] [(UQ 9100005 k_)]) (show(bif (eZ x37) then(Bu sK x38.2.2.2.2.2) else(Bu sK l28))=(Bu sK (bif (eZ x37) then x38.2.2.2.2.2 else l28)) from(oD rfl rfl))) (Le.trans (leB (λg_ u=>(Cp u [] [(30000,.row 102 [(Q88 x37 x38 l22),(uh (eZ x37) x38.2.1.Ret i23),(Q90 x37 x38 l24),(uh (eZ x37) x38.2.2.1 i25),(Q89 x37 x38 l26),(.omap 9100005),(Z38 g_ x38.2.2.2.2.1 l27)]),(37006,.tok 5 211 (bif g_ then x38.2.2.2.2.1.length else l27.length))])) (λg_ u=>(Cp u [] [(30000,.row 102 [(Q88 x37 x38 l22),(uh (eZ x37) x38.2.1.Ret i23),(Q90 x37 x38 l24),(uh (eZ x37) x38.2.2.1 i25),(Q89 x37 x38 l26),(.omap 9100005),(AV.list 5 Oi default (bif g_ then x38.2.2.2.2.1 else l27) (.own 37006))]),(37006,.tok 5 211 ((bif g_ then x38.2.2.2.2.1 else l27).length))])) (eZ x37)) (Le.trans (tD 30000 0 (show AVle (Q88 x37 x38 l22) (AV.list 1 Aq 0 (bif (eZ x37) then x38.2.1.Params else l22) .none) from J9)) (Le.trans (tD 30000 2 (show AVle (Q90 x37 x38 l24) (AV.list 5 Cj default (bif (eZ x37) then x38.2.1.Blocks else l24) .none) from J9)) (tD 30000 4 (show AVle (Q89 x37 x38 l26) (AV.list 1 Aq 0 (bif (eZ x37) then x38.2.2.2.1 else l26) .none) from J9)))))) (gC h (λh=>Af q [6] It (tS h (gO (Lj (H4 DY (Le.refl _ _)))))) λh=>Af q iJ It (tN h))))) λh=>tS h (gO (Be (Bi [] It q))))) λx39 h=>(match x39,h with | .inl ⟨l29,i30,l31,i32,l33,l34,l35⟩,h=>gA (Af q [6] It (tS h (Cc DY))) | .inr r41,h=>Oz (λst' hk=>tS h (gK hk))))) | .inr r42,h=>Oz (λst' hk=>tS h (gK hk))))
def Gv(a3:TFunc):(Int×List (Int×Ay))->Option (LR (Int×List (Int×Ay)) (List (Int×Ay))):=
 λ(i1,l2)=>bif decide (i1<a3.Params.length) then Az (A2 i1 a3.Params.length) ((Eu (a3.Params.getD i1.toNat 0)).bind λx5=>some (.next (w64 (i1+1),Jk l2 (w64 (i1+1)) ⟨x5,⟨0,-1⟩⟩))) else some (.done l2)
def Et(a3:TFunc):(Int×List (Int×Ay)×Aw×Int×List Ae×Int×Aw×List Bk)->Option (LR (Int×List (Int×Ay)×Aw×Int×List Ae×Int×Aw×List Bk) ((List (Int×Ay)×Aw×Int×List Ae×Int×Aw×List Bk) ⊕ (Int×TFunc×Int×Aw×List Bk×List (Int×Ay)))):=
 λ(i8,l9,l10,i11,l12,i13,l14,l15)=>bif decide (i8<a3.Blocks.length) then Az (A2 i8 a3.Blocks.length) ((Hg i8 (a3.Blocks.getD i8.toNat default) ⟨l10,i11,l12⟩ i13 l14 l9 l15).bind λx24=>bif !x24.1 then some (.done (.inr (7,x24.2.1,x24.2.2.1,x24.2.2.2.1,x24.2.2.2.2.1,x24.2.2.2.2.2))) else some (.next (w64 (i8+1),x24.2.2.2.2.2,x24.2.1.Params,x24.2.1.Ret,x24.2.1.Blocks,x24.2.2.1,x24.2.2.2.1,x24.2.2.2.2.1))) else some (.done (.inl (l9,l10,i11,l12,i13,l14,l15)))
abbrev uR:=(Int×TFunc×Int×Aw×List Bk×List (Int×Ay))
def V2(Γ:H3)(a3:TFunc)(a5:Int)(a7:Aw)(aB:List Bk)(r:uR):Exit->St->Prop:=fK Tryz.prog Γ Tryz.f107.results.toList (Z3 a3.Params a3.Ret a3.Blocks a5 a7 aB aB.length) (Z5 r.1) [(Z1 r.2.1.Params r.2.1.Ret r.2.1.Blocks r.2.2.1 r.2.2.2.1 9200005 r.2.2.2.2.1),(Li 37006 211 r.2.2.2.2.1.length),(9200005,.obj (.map false .i64 (Bu (λ(v_:Ay)=>((Xa v_):AV)) r.2.2.2.2.2)))]
def ii:=(λ(v_:Ay)=>((Xa v_):AV))
def Q92(l16:List Q7)(l17:Aw)(i18:Int)(l19:List Ae)(i20:Int)(l21:Aw)(l22:List Bk):List OK:=[(8,.obj (.map true .i64 (Bu ii l16))),(yT l17 i18 l19 i20 l21 l22),(Li 37006 211 l22.length)]
def H8(a3:TFunc)(a5:Int)(a7:Aw)(aB:List Bk):Option uR:=
 (Ac   (Gv a3) (0,[])).bind λx6=>(Ac   (Et a3) (0,x6,a3.Params,a3.Ret,a3.Blocks,a5,a7,aB)).bind λx25=>match x25 with | .inl (l16,l17,i18,l19,i20,l21,l22)=>some (0,⟨l17,i18,l19⟩,i20,l21,l22,l16) | .inr r27=>some r27
variable{v27:uR}
theorem Vo(h:H8 v0 v1 v2 v12=some v27):sP 107 nY (Z3 v0.Params v0.Ret v0.Blocks v1 v2 v12 v12.length) (Z5 v27.1) [(Z1 v27.2.1.Params v27.2.1.Ret v27.2.1.Blocks v27.2.2.1 v27.2.2.2.1 9200005 v27.2.2.2.2.1),(Li 37006 211 v27.2.2.2.2.1.length),(9200005,.obj (.map false .i64 (Bu (λ(v_:Ay)=>((Xa v_):AV)) v27.2.2.2.2.2)))]:=
 sG Tryz.func107 λΓ q=>tW q [0] Iw [0] Q5 (gLe (R8 (λ(k_:List mP) u=>Cp u [] [(8,.obj (.map true .i64 k_))]) (show[]=(Bu ii ([]:List Q7)) from rfl)) (Af q bU Q5 (tL q h bU Q5 (λu (i1,l2)=>(Cp u [(17,(Z5 i1))] [(8,.obj (.map true .i64 (Bu ii l2)))])) (λu l3=>aG Γ (.exit 0) (Nf [0] Q5 u [] [(8,.obj (.map true .i64 (Bu ii l3)))])) (λ⟨i1,l2⟩ y h=>Af q [0,15,16,17,18] Q5 (gC h (λh=>tV q [0,3,4,15,16,17] Q5 h λh=>tB h λx5 y5 h=>tT q bU Q5 [(yb x5)] (c1 (Mn y5)) (gLe (R8 (λ(k_:List mP) u=>Cp u [] [(8,.obj (.map true .i64 k_))]) (show(Jk (Bu ii l2) (w64 (i1+1)) (.agg [(Z5 x5.1),(Z5 x5.2),L5,(.int .i64 (-1:Int))]))=(Bu ii (Jk l2 (w64 (i1+1)) (⟨x5,(⟨(0:Int),(-1:Int)⟩:P9)⟩:Ay))) from(af (f:=ii) (l:=l2) (v:=(⟨x5,(⟨(0:Int),(-1:Int)⟩:P9)⟩:Ay)) rfl rfl))) (Af q bU Q5 (tN h)))) λh=>tS h (gO (Be (Bi [0] Q5 q))))) λx6 h=>gA (Af q iS Q5 (tL q h iS Q5 (λu (i8,l9,l10,i11,l12,i13,l14,l15)=>(Cp u [(39,(Z5 i8))] [(8,.obj (.map true .i64 (Bu ii l9))),(yT l10 i11 l12 i13 l14 l15),(Li 37006 211 l15.length)])) (λu x_=>match x_ with|(.inl (l16,l17,i18,l19,i20,l21,l22))=>aG Γ (.exit 2) (⟨[],(Q92 l16 l17 i18 l19 i20 l21 l22),[]⟩:St)|(.inr r_)=>aR (V2 Γ v0 v1 v2 v12 r_)) (λ⟨i8,l9,l10,i11,l12,i13,l14,l15⟩ y h=>Af q [0,37,38,39,40] Q5 (gC h (λh=>tV q [0,5,6,37,38,39] [6,8,30000,37006] h λh=>tB h λx24 y24 h=>tT q [0,37,38,39,48] Q5 [⟨[(30000,30000),(37006,37006),(8,9100005)],[],(.bool x24.1),[(Z1 x24.2.1.Params x24.2.1.Ret x24.2.1.Blocks x24.2.2.1 x24.2.2.2.1 9100005 x24.2.2.2.2.1),(Li 37006 211 x24.2.2.2.2.1.length),(9100005,.obj (.map true .i64 (Bu ii x24.2.2.2.2.2)))],[],[]⟩] (c1 (T0 y24)) (gC h (λh=>Af q [2] Q5 (P6 (⟨[(2,(.int .i64 (7:Int)))],[(8,.obj (.map true .i64 (Bu ii x24.2.2.2.2.2))),(yT x24.2.1.Params x24.2.1.Ret x24.2.1.Blocks x24.2.2.1 x24.2.2.2.1 x24.2.2.2.2.1),(Li 37006 211 x24.2.2.2.2.1.length)],[]⟩:St) (tS h (gO (Lj (H4 ql (Le.trans (fw (nm:=8) (.map false .i64 (Bu ii x24.2.2.2.2.2)) rfl (λ_ _ _ _ h_=>QT h_)) (Bi (st':=⟨[(2,(.int .i64 (7:Int)))],[(8,.obj (.map false .i64 (Bu ii x24.2.2.2.2.2))),(yT x24.2.1.Params x24.2.1.Ret x24.2.1.Blocks x24.2.2.1 x24.2.2.2.1 x24.2.2.2.2.1),(Li 37006 211 x24.2.2.2.2.1.length)],[]⟩) [2] Q5 q)))))))) λh=>Af q iS Q5 (tN h))) λh=>tS h (gO (Be (Bi [] Q5 q))))) λx25 h=>(match x25,h with | .inl ⟨l16,l17,i18,l19,i20,l21,l22⟩,h=>gA (Af q [2] Q5 (P6 (⟨[(2,L5)],(Q92 l16 l17 i18 l19 i20 l21 l22),[]⟩:St) (tS h (gK (e:=.ret) (H4 ql (Le.trans (fw (nm:=8) (.map false .i64 (Bu ii l16)) rfl (λ_ _ _ _ h_=>QT h_)) (Bi (st':=⟨[(2,L5)],[(8,.obj (.map false .i64 (Bu ii l16))),(yT l17 i18 l19 i20 l21 l22),(Li 37006 211 l22.length)],[]⟩) [2] Q5 q))))))) | .inr r27,h=>Oz (λst' hk=>tS h (gK hk))))))))
abbrev ze:=(P9×TFunc×Int×Aw×List Bk)
def G7(aa3:Int)(a3:TFunc)(a5:Int)(a7:Aw)(aC:List Q7)(aB:List Bk):Option ze:=
 Az (A2 aa3 a3.Blocks.length) (some (⟨aa3,(a3.Blocks.getD aa3.toNat default).Ops.length⟩,a3,a5,a7,aB))
variable{v28:ze}
theorem Nt(h:G7 v1 v0 v11 v2 v25 v12=some v28):sP 206 [(.ptr 30000 0),(Z5 v1)] [(Z1 v0.Params v0.Ret v0.Blocks v11 v2 9100005 v12),(Li 37006 211 v12.length),(9100005,.obj (.map false .i64 (Bu (λ(v_:Ay)=>((Xa v_):AV)) v25)))] (.agg (NY v28.1)) [(Z1 v28.2.1.Params v28.2.1.Ret v28.2.1.Blocks v28.2.2.1 v28.2.2.2.1 9100005 v28.2.2.2.2),(Li 37006 211 v28.2.2.2.2.length),(9100005,.obj (.map false .i64 (Bu (λ(v_:Ay)=>((Xa v_):AV)) v25)))]:=
 sG Tryz.func206 λΓ q=>Af q [0,1,4] qw (tV q [4] qw h λh=>tS h (Cc DY))
abbrev uT:=(TFunc×Int×Aw×List Bk)
def Fb(aH:Int)(aa6:J5)(aL:P9)(a3:TFunc)(a5:Int)(a7:Aw)(aC:List Q7)(aB:List Bk):Option uT:=
 Az (aB.length+[(⟨aH,aa6,aL⟩:Bk)].length<=room) (some (a3,a5,a7,aB++[⟨aH,aa6,aL⟩]))
variable{v29:uT}
theorem K1(h:Fb v1 v19 v24 v0 v11 v2 v25 v12=some v29):sP 205 [(.ptr 30000 0),(Z5 v1),(.agg (Bq v19)),(.agg (NY v24))] [(Z1 v0.Params v0.Ret v0.Blocks v11 v2 9100005 v12),(Li 37006 211 v12.length),(9100005,.obj (.map false .i64 (Bu (λ(v_:Ay)=>((Xa v_):AV)) v25)))] (.tuple []) [(Z1 v29.1.Params v29.1.Ret v29.1.Blocks v29.2.1 v29.2.2.1 9100005 v29.2.2.2),(Li 37006 211 v29.2.2.2.length),(9100005,.obj (.map false .i64 (Bu (λ(v_:Ay)=>((Xa v_):AV)) v25)))]:=
 sG Tryz.func205 λΓ q=>Af q TM kI (tC h λc1_ h=>gR q [] It [(17,(AV.list 5 Oi default ([(⟨v1,v19,v24⟩:Bk)]:List Bk) .exact)),(18,(AV.list 5 Oi default (v12++([(⟨v1,v19,v24⟩:Bk)]:List Bk)) (.own 37006)))] [] (c5 (Br 5 Oi (default:Bk) ([(⟨v1,v19,v24⟩:Bk)]:List Bk)) (Eq.refl v12.length) c1_ (Ix 5 37006 Oi (default:Bk) v12 ([(⟨v1,v19,v24⟩:Bk)]:List Bk)) (E2 v12 ([(⟨v1,v19,v24⟩:Bk)]:List Bk))) (tS h (gK (e:=.normal) (H4 DY (Le.refl _ _)))))
def z8:List MM:=[(2,yW)]
def Qn(a1:Bz):Option qg:=
 (Ro a1).bind λx1=>bif !x1 then some [] else(Qs a1).bind λx2=>some x2
theorem VJ(h:Qn v6=some v21):sP 207 [(VV v6)] [] (Z7 v21) []:=
 sG Tryz.func207 λΓ q=>gR q [1] [1] z8 [] (c1 (B1 2 Bq ((0:Int),(0:Int)))) (tB h λx1 y1 h=>tT q [1,5] [1] [(Z2 x1)] (c1 (BE y1)) (gC h (λh=>gR q [2] [] z8 [] (c1 (B1 2 Bq ((0:Int),(0:Int)))) (P6 (⟨z8,[],[]⟩:St) (tS h (gK (e:=.ret) (H4 [] (show Le Γ _ (⟨[(2,(AV.list 2 Bq ((0:Int),(0:Int)) ([]:List J5) .none))],[],[]⟩:St) from Le.trans (Bi (st':=⟨z8,[],[]⟩) [2] [] q) (I6 (.cons AVle.untag .nil) .nil))))))) λh=>tB h λx2 y2 h=>tT q [2] [] [(kv x2)] (c1 (EK y2)) (tS h (Cc []))))
abbrev qh:=(LR (Int×Aw×Int×List Ae×Int×Aw×List Bk) (Aw×Int×List Ae×Int×Aw×List Bk))
def En(a3:TFunc)(aC:List Q7)(i1:Int)(i21:Int):KG->Option qh:=
 λ(i35,l36,i37,l38,i39,l40,l41)=>bif decide (i35<((a3.Blocks.getD i1.toNat default).Phis.getD i21.toNat default).Args.length) then Az (A2 i35 ((a3.Blocks.getD i1.toNat default).Phis.getD i21.toNat default).Args.length) ((Eu ((a3.Blocks.getD i1.toNat default).Phis.getD i21.toNat default).Bits).bind λx49=>Az (A2 i35 ((a3.Blocks.getD i1.toNat default).Phis.getD i21.toNat default).From.length) ((G7 (((a3.Blocks.getD i1.toNat default).Phis.getD i21.toNat default).From.getD i35.toNat 0) ⟨l36,i37,l38⟩ i39 l40 aC l41).bind λx51=>(Fb (((a3.Blocks.getD i1.toNat default).Phis.getD i21.toNat default).Args.getD i35.toNat 0) x49 x51.1 x51.2.1 x51.2.2.1 x51.2.2.2.1 aC x51.2.2.2.2).bind λx52=>some (.next (w64 (i35+1),x52.1.Params,x52.1.Ret,x52.1.Blocks,x52.2.1,x52.2.2.1,x52.2.2.2)))) else some (.done (l36,i37,l38,i39,l40,l41))
def Eo(a3:TFunc)(aC:List Q7)(i1:Int):KG->Option qh:=
 λ(i21,l22,i23,l24,i25,l26,l27)=>bif decide (i21<(a3.Blocks.getD i1.toNat default).Phis.length) then Az (A2 i21 (a3.Blocks.getD i1.toNat default).Phis.length) ((Ac   (En a3 aC i1 i21) (0,l22,i23,l24,i25,l26,l27)).bind λx53=>match x53 with|(l42,i43,l44,i45,l46,l47)=>some (.next (w64 (i21+1),l42,i43,l44,i45,l46,l47))) else some (.done (l22,i23,l24,i25,l26,l27))
def Ep(a3:TFunc)(aC:List Q7)(i1:Int)(i57:Int)(x71:List KF):KG->Option qh:=
 λ(i72,l73,i74,l75,i76,l77,l78)=>bif decide (i72<x71.length) then Az (A2 i72 x71.length) (Az (A2 i72 ((a3.Blocks.getD i1.toNat default).Ops.getD i57.toNat default).Args.length) ((Fb (((a3.Blocks.getD i1.toNat default).Ops.getD i57.toNat default).Args.getD i72.toNat 0) (x71.getD i72.toNat (0,0)) ⟨i1,i57⟩ ⟨l73,i74,l75⟩ i76 l77 aC l78).bind λx87=>some (.next (w64 (i72+1),x87.1.Params,x87.1.Ret,x87.1.Blocks,x87.2.1,x87.2.2.1,x87.2.2.2)))) else some (.done (l73,i74,l75,i76,l77,l78))
def Er(a3:TFunc)(aC:List Q7)(i1:Int):KG->Option qh:=
 λ(i57,l58,i59,l60,i61,l62,l63)=>bif decide (i57<(a3.Blocks.getD i1.toNat default).Ops.length) then Az (A2 i57 (a3.Blocks.getD i1.toNat default).Ops.length) ((Qn ((a3.Blocks.getD i1.toNat default).Ops.getD i57.toNat default)).bind λx71=>(Ac   (Ep a3 aC i1 i57 x71) (0,l58,i59,l60,i61,l62,l63)).bind λx88=>match x88 with|(l79,i80,l81,i82,l83,l84)=>some (.next (w64 (i57+1),l79,i80,l81,i82,l83,l84))) else some (.done (l58,i59,l60,i61,l62,l63))
def Es(a3:TFunc)(aC:List Q7):KG->Option qh:=
 λ(i1,l2,i3,l4,i5,l6,l7)=>bif decide (i1<a3.Blocks.length) then Option.bind  (Az (A2 i1 a3.Blocks.length) ((Ac   (Eo a3 aC i1) (0,l2,i3,l4,i5,l6,l7)).bind λx55=>match x55 with|(l28,i29,l30,i31,l32,l33)=>(Ac   (Er a3 aC i1) (0,l28,i29,l30,i31,l32,l33)).bind λx90=>match x90 with|(l64,i65,l66,i67,l68,l69)=>bif (a3.Blocks.getD i1.toNat default).End.Kind==0 then(Eu i65).bind λx92=>(G7 i1 ⟨l64,i65,l66⟩ i67 l68 aC l69).bind λx93=>(Fb (a3.Blocks.getD i1.toNat default).End.Arg x92 x93.1 x93.2.1 x93.2.2.1 x93.2.2.2.1 aC x93.2.2.2.2).bind λx94=>some (x94.1.Params,x94.1.Ret,x94.1.Blocks,x94.2.1,x94.2.2.1,x94.2.2.2) else bif (a3.Blocks.getD i1.toNat default).End.Kind==2 then(Eu 1).bind λx95=>(G7 i1 ⟨l64,i65,l66⟩ i67 l68 aC l69).bind λx96=>(Fb (a3.Blocks.getD i1.toNat default).End.Arg x95 x96.1 x96.2.1 x96.2.2.1 x96.2.2.2.1 aC x96.2.2.2.2).bind λx97=>some (x97.1.Params,x97.1.Ret,x97.1.Blocks,x97.2.1,x97.2.2.1,x97.2.2.2) else some (l64,i65,l66,i67,l68,l69))) λx98=>match x98 with|(l14,i15,l16,i17,l18,l19)=>some (.next (w64 (i1+1),l14,i15,l16,i17,l18,l19)) else some (.done (l2,i3,l4,i5,l6,l7))
def Q95(a3:TFunc)(i1:Int):=(a3.Blocks.getD i1.toNat default)
def ud(aC:List Q7):=(Bu (λ(v_:Ay)=>((Xa v_):AV)) aC)
def H7(a3:TFunc)(a5:Int)(a7:Aw)(aC:List Q7)(aB:List Bk):Option uT:=
 (Ac   (Es a3 aC) (0,a3.Params,a3.Ret,a3.Blocks,a5,a7,aB)).bind λx100=>match x100 with|(l8,i9,l10,i11,l12,l13)=>some (⟨l8,i9,l10⟩,i11,l12,l13)
theorem Vn(h:H7 v0 v1 v2 v25 v12=some v29):sP 161 nY [(Z1 v0.Params v0.Ret v0.Blocks v1 v2 9100005 v12),(Li 37006 211 v12.length),(9100005,.obj (.map false .i64 (Bu (λ(v_:Ay)=>((Xa v_):AV)) v25)))] (.tuple []) [(Z1 v29.1.Params v29.1.Ret v29.1.Blocks v29.2.1 v29.2.2.1 9100005 v29.2.2.2),(Li 37006 211 v29.2.2.2.length),(9100005,.obj (.map false .i64 (Bu (λ(v_:Ay)=>((Xa v_):AV)) v25)))]:=
 sG Tryz.func161 λΓ q=>Af q KQ It (tL q h KQ It (λu (i1,l2,i3,l4,i5,l6,l7)=>(Cp u [(18,(Z5 i1))] (YZ l2 i3 l4 i5 l6 l7 l7.length))) (λu (l8,i9,l10,i11,l12,l13)=>aG Γ (.exit 0) (Nf [] It u [] (YZ l8 i9 l10 i11 l12 l13 l13.length))) (λ⟨i1,l2,i3,l4,i5,l6,l7⟩ y h=>Af q [0,16,17,18,19] It (gC h (λh=>tB h λx98 y98 h=>gJ y98 (λ(l14,i15,l16,i17,l18,l19)=>aG Γ .normal (⟨[bz,(16,(UE v0.Blocks)),(bh 17 v0.Blocks.length),(18,(Z5 i1))],(yS l14 i15 l16 i17 l18 l19 l19.length (ud v25)),[]⟩:St)) (λy h=>tV q eW Sx h λh=>Af q eS Sx (tL q h eS Sx (λu (i21,l22,i23,l24,i25,l26,l27)=>(Cp u [(26,(Z5 i21))] (YZ l22 i23 l24 i25 l26 l27 l27.length))) (λu (l28,i29,l30,i31,l32,l33)=>aG Γ (.exit 2) (Nf eW Sx u [] (YZ l28 i29 l30 i31 l32 l33 l33.length))) (λ⟨i21,l22,i23,l24,i25,l26,l27⟩ y h=>Af q [0,2,3,16,17,18,24,25,26,27] Sx (gC h (λh=>tV q [0,2,3,5,16,17,18,24,25,26] IJ h λh=>Af q kC IJ (tL q h kC IJ (λu (i35,l36,i37,l38,i39,l40,l41)=>(Cp u [(33,(Z5 i35))] (YZ l36 i37 l38 i39 l40 l41 l41.length))) (λu (l42,i43,l44,i45,l46,l47)=>aG Γ (.exit 4) (Nf eS Sx u [] (YZ l42 i43 l44 i45 l46 l47 l47.length))) (λ⟨i35,l36,i37,l38,i39,l40,l41⟩ y h=>Af q [0,2,3,5,16,17,18,24,25,26,31,32,33,34] IJ (gC h (λh=>tV q [0,2,3,5,6,7,16,17,18,24,25,26,31,32,33] IJ h λh=>tB h λx49 y49 h=>tC h λc50_ h=>tB h λx51 y51 h=>tB h λx52 y52 h=>tT q kC IJ [(yb x49),(Z63 x51.1 x51.2.1.Params x51.2.1.Ret x51.2.1.Blocks x51.2.2.1 x51.2.2.2.1 x51.2.2.2.2 x51.2.2.2.2.length (ud v25)),(yV x52.1.Params x52.1.Ret x52.1.Blocks x52.2.1 x52.2.2.1 x52.2.2.2 x52.2.2.2.length (ud v25))] (c4 (Mn y49) c50_ (Nt y51) (K1 y52)) (Af q kC IJ (tN h))) λh=>tS h (gO (Be (Bi eS Sx q))))) λx53 h=>(match x53,h with|⟨l42,i43,l44,i45,l46,l47⟩,h=>gA (Af q eS Sx (tN h))))) λh=>tS h (gO (Be (Bi eW Sx q))))) λx55 h=>(match x55,h with|⟨l28,i29,l30,i31,l32,l33⟩,h=>gA (Af q eT Sx (tL q h eT Sx (λu (i57,l58,i59,l60,i61,l62,l63)=>(Cp u [(56,(Z5 i57))] (YZ l58 i59 l60 i61 l62 l63 l63.length))) (λu (l64,i65,l66,i67,l68,l69)=>aG Γ (.exit 6) (Nf eW Sx u [] (YZ l64 i65 l66 i67 l68 l69 l69.length))) (λ⟨i57,l58,i59,l60,i61,l62,l63⟩ y h=>Af q [0,2,3,16,17,18,54,55,56,57] Sx (gC h (λh=>tV q [0,2,3,8,9,16,17,18,54,55,56] YJ h λh=>tB h λx71 y71 h=>tT q kB YJ [(kv x71)] (c1 (VJ y71)) (tL q h kB YJ (λu (i72,l73,i74,l75,i76,l77,l78)=>(Cp u [(64,(Z5 i72))] (YZ l73 i74 l75 i76 l77 l78 l78.length))) (λu (l79,i80,l81,i82,l83,l84)=>aG Γ (.exit 8) (Nf eT Sx u [] (YZ l79 i80 l81 i82 l83 l84 l84.length))) (λ⟨i72,l73,i74,l75,i76,l77,l78⟩ y h=>Af q [0,2,3,8,9,16,17,18,54,55,56,62,63,64,65] YJ (gC h (λh=>tV q [0,2,3,8,9,10,11,16,17,18,54,55,56,62,63,64] [3,9,11,30000,37006,9100005] h λh=>tC h λc86_ h=>tB h λx87 y87 h=>tT q kB YJ [(yV x87.1.Params x87.1.Ret x87.1.Blocks x87.2.1 x87.2.2.1 x87.2.2.2 x87.2.2.2.length (ud v25))] (c2 c86_ (K1 y87)) (Af q kB YJ (tN h))) λh=>tS h (gO (Be (Bi eT Sx q))))) λx88 h=>(match x88,h with|⟨l79,i80,l81,i82,l83,l84⟩,h=>gA (Af q eT Sx (tN h))))) λh=>tS h (gO (Be (Bi eW Sx q))))) λx90 h=>(match x90,h with|⟨l64,i65,l66,i67,l68,l69⟩,h=>gA (tW q [0,2,3,16,17,18,84] Sx [0,2,3,16,17,18,84,85] Sx (gC h (λh=>tB h λx92 y92 h=>tB h λx93 y93 h=>tB h λx94 y94 h=>tT q KQ It [(yb x92),(Z63 x93.1 x93.2.1.Params x93.2.1.Ret x93.2.1.Blocks x93.2.2.1 x93.2.2.2.1 x93.2.2.2.2 x93.2.2.2.2.length (ud v25)),(yV x94.1.Params x94.1.Ret x94.1.Blocks x94.2.1 x94.2.2.1 x94.2.2.2 x94.2.2.2.length (ud v25))] (c3 (Mn y92) (Nt y93) (K1 y94)) (tS h (gK (Be Io)))) λh=>Af q [0,2,3,16,17,18,101] Sx (gC h (λh=>tB h λx95 y95 h=>tB h λx96 y96 h=>tB h λx97 y97 h=>tT q KQ It [(yb x95),(Z63 x96.1 x96.2.1.Params x96.2.1.Ret x96.2.1.Blocks x96.2.2.1 x96.2.2.2.1 x96.2.2.2.2 x96.2.2.2.2.length (ud v25)),(yV x97.1.Params x97.1.Ret x97.1.Blocks x97.2.1 x97.2.2.1 x97.2.2.2 x97.2.2.2.length (ud v25))] (c3 (Mn y95) (Nt y96) (K1 y97)) (tS h (gK (Be Io)))) λh=>tS h (gK (Be (Bi KQ It q)))))))))))) (match x98,h with|⟨l14,i15,l16,i17,l18,l19⟩,h=>gA (Af q KQ It (tN h)))) λh=>tS h (gO (Be (Bi [] It q))))) λx100 h=>(match x100,h with|⟨l8,i9,l10,i11,l12,l13⟩,h=>ut (λst' hl101=>tS h (gK (e:=.normal) (H4 DY hl101)))))
def Lp(aQ:Bk)(a3:TFunc)(a5:Int)(a7:Aw)(aC:List Q7)(aB:List Bk):Option CB:=
 some (Ec aC aQ.v,a3,a5,a7,aB)
variable{v30:Bk}
theorem Vq(h:Lp v30 v0 v1 v2 v25 v12=some v23):sP 162 [(.ptr 30000 0),(.agg (Oi v30))] [(Z1 v0.Params v0.Ret v0.Blocks v1 v2 9100005 v12),(Li 37006 211 v12.length),(9100005,.obj (.map false .i64 (Bu (λ(v_:Ay)=>((Xa v_):AV)) v25)))] (.bool v23.1) [(Z1 v23.2.1.Params v23.2.1.Ret v23.2.1.Blocks v23.2.2.1 v23.2.2.2.1 9100005 v23.2.2.2.2),(Li 37006 211 v23.2.2.2.2.length),(9100005,.obj (.map false .i64 (Bu (λ(v_:Ay)=>((Xa v_):AV)) v25)))]:=
 sG Tryz.func162 λΓ q=>Af q Rh Sx (gR q [6] It [(14,(.tuple [(ug v25 v30.v),(.bool (Ec v25 v30.v))]))] [] (c1 (show(AVle (.tuple [Fy (.agg [L5,L5,L5,L5]) (Bu (λ(v_:Ay)=>((Xa v_):AV)) v25) v30.v,.bool (Ec (Bu (λ(v_:Ay)=>((Xa v_):AV)) v25) v30.v)]) (.tuple [(ug v25 v30.v),(.bool (Ec v25 v30.v))])) from(QP (f:=(λ(v_:Ay)=>((Xa v_):AV))) (l:=v25) (AVle.refl _) rfl))) (Af q [4] It (tS h (Cc DY))))
def Nl(aQ:Bk)(a3:TFunc)(a5:Int)(a7:Aw)(aC:List Q7)(aB:List Bk):Option CB:=
 some ((Fy default aC aQ.v).shape.1==aQ.shape.1&&((Fy default aC aQ.v).shape.2==aQ.shape.2&&true),a3,a5,a7,aB)
theorem Zh(h:Nl v30 v0 v1 v2 v25 v12=some v23):sP 163 [(.ptr 30000 0),(.agg (Oi v30))] [(Z1 v0.Params v0.Ret v0.Blocks v1 v2 9100005 v12),(Li 37006 211 v12.length),(9100005,.obj (.map false .i64 (Bu (λ(v_:Ay)=>((Xa v_):AV)) v25)))] (.bool v23.1) [(Z1 v23.2.1.Params v23.2.1.Ret v23.2.1.Blocks v23.2.2.1 v23.2.2.2.1 9100005 v23.2.2.2.2),(Li 37006 211 v23.2.2.2.2.length),(9100005,.obj (.map false .i64 (Bu (λ(v_:Ay)=>((Xa v_):AV)) v25)))]:=
 sG Tryz.func163 λΓ q=>Af q Rh Sx (gR q [4] It [(11,(ug v25 v30.v))] [] (c1 (show(AVle (Fy (.agg [L5,L5,L5,L5]) (Bu (λ(v_:Ay)=>((Xa v_):AV)) v25) v30.v) (ug v25 v30.v)) from(ab (f:=(λ(v_:Ay)=>((Xa v_):AV))) (l:=v25) (AVle.refl _) rfl))) (tS h (Cc DY)))
def Cq(aJ:Aw)(aH:Int):Int->Option (LR Int (Unit ⊕ Int)):=
 λi1=>bif decide (i1<aJ.length) then Az (A2 i1 aJ.length) (bif aH==aJ.getD i1.toNat 0 then some (.done (.inr i1)) else some (.next (w64 (i1+1)))) else some (.done (.inl ()))
def W9(Γ:H3)(aJ:Aw)(aH:Int)(r:Int):Exit->St->Prop:=fK Tryz.prog Γ Tryz.f173.results.toList [] (.int .i64 r) []
def G2(aJ:Aw)(aH:Int):Option Int:=
 (Ac   (Cq aJ aH) 0).bind λx3=>match x3 with | .inl _=>some (-1) | .inr r5=>some r5
theorem Wf(h:G2 v2 v1=some v11):sP 173 [(Z6 v2),(Z5 v1)] [] (.int .i64 v11) []:=
 sG Tryz.func173 λΓ q=>tW q Gn [] IP [] (tL q h IP [] (λu i1=>(Cp u [(8,(Z5 i1))] [])) (λu x_=>match x_ with|(.inl _)=>aG Γ (.exit 0) (⟨[],[],[]⟩:St)|(.inr r_)=>aR (W9 Γ v2 v1 r_)) (λi1 y h=>Af q iT [] (gC h (λh=>Af q iU [] (tV q iG [] h λh=>gC h (λh=>Af q [4] [] (tS h (gO (Lj (H4 [] (Le.refl _ _)))))) λh=>Af q IP [] (tN h))) λh=>tS h (gO (Be (Bi [] [] q))))) λx3 h=>(match x3,h with | .inl _,h=>gA (Af q [4] [] (tS h (Cc []))) | .inr r5,h=>Oz (λst' hk=>tS h (gK hk))))
def Mu(a9:Aw)(aL:Int):Option Bool:=
 some (bif decide (0<=aL) then decide (aL<a9.length) else false)
theorem BA(h:Mu v2 v1=some v3):sP 294 [(Z6 v2),(Z5 v1)] [] (.bool v3) []:=
 sG Tryz.func294 λΓ q=>Af q Gn [] (tU q [4] [] (Yt ((decide ((0:Int)<=v1))==true) (c1 (Nd (decide ((0:Int)<=v1))))) (tS h (Cc [])))
def D0(a9:Aw)(aa9:Int)(aa1:Int):eQ->Option (LR (Int×Aw) (Aw ⊕ (Bool×Aw))):=
 λ(i1,l2)=>bif i1 !=aa1 then Az (A2 i1 l2.length) (bif l2.getD i1.toNat 0 !=0 then Az (A2 i1 l2.length) (some (.done (.inr (l2.getD i1.toNat 0 !=w64 (aa9+1),l2)))) else Az (A2 i1 a9.length) ((Mu a9 (a9.getD i1.toNat 0)).bind λx7=>bif !x7 then some (.done (.inr (false,l2))) else Az (A2 i1 l2.length) (Az (A2 i1 a9.length) (some (.next (a9.getD i1.toNat 0,l2.set i1.toNat (w64 (aa9+1)))))))) else some (.done (.inl l2))
def bi(Γ:H3)(a9:Aw)(aaE:Aw)(aa9:Int)(aa1:Int)(r:(Bool×Aw)):Exit->St->Prop:=fK Tryz.prog Γ Tryz.f293.results.toList [(Z4 34001 aaE)] (.bool r.1) [(Z4 34001 r.2)]
def Ut(a9:Aw)(aaE:Aw)(aa9:Int)(aa1:Int):Option (Bool×Aw):=
 (Ac   (D0 a9 aa9 aa1) (aa9,aaE)).bind λx10=>match x10 with | .inl l3=>some (true,l3) | .inr r12=>some r12
variable{v31:(Bool×Aw)}
theorem aj(h:Ut v2 v17 v1 v11=some v31):sP 293 [(Z6 v2),(.vsl 34001 v17.length),(Z5 v1),(Z5 v11)] [(Z4 34001 v17)] (.bool v31.1) [(Z4 34001 v31.2)]:=
 sG Tryz.func293 λΓ q=>tW q [0,1,2,3] [34001] [0,1,2,3,9] [34001] (Af q bS [34001] (tL q h bS [34001] (λu (i1,l2)=>(Cp u [(1,(.vsl 34001 l2.length)),(10,(Z5 i1))] [(Z4 34001 l2)])) (λu x_=>match x_ with|(.inl l3)=>aG Γ (.exit 0) (⟨[],[(Z4 34001 l3)],[]⟩:St)|(.inr r_)=>aR (bi Γ v2 v17 v1 v11 r_)) (λ⟨i1,l2⟩ y h=>Af q [0,1,3,9,10,16] [34001] (gC h (λh=>tC h λc4_ h=>tU q [0,1,3,9,10,25] [34001] (c2 c4_ (Eq.refl l2.length)) (gC h (λh=>tC h λc5_ h=>tU q [8] [34001] (c2 c5_ (Eq.refl l2.length)) (tS h (gO (Lj (H4 iO (Le.refl _ _)))))) λh=>tC h λc6_ h=>tB h λx7 y7 h=>tT q [0,1,3,9,10,38] [34001] [(Z2 x7)] (c2 c6_ (BA y7)) (gC h (λh=>Af q [8] [34001] (tS h (gO (Lj (H4 iO (Le.refl _ _)))))) λh=>tC h λc8_ h=>tU q bS [34001] (c2 c8_ (Eq.refl l2.length)) (gLe (Le.trans (Sn 34001 (show ∀ k_,k_<l2.length->AVleL ((λi_=>AV.eraseAll (λn_=>Bw n_ [34001]) ((Fd (λi=>Aq (l2.getD i 0)) i1.toNat 0 [(.int .i64 (w64 (v1+1)))]) i_)) k_) ((λi=>Aq ((l2.set i1.toNat (w64 (v1+1))).getD i 0)) k_) from(Bh (Dc ..).symm (λk_ hk_=>(Bj (AV.eraseAll (λn_=>Bw n_ [34001])) ((Fv (λ_ _=>rfl) (Hv c8_) rfl) k_ hk_)).trans rfl)))) (R8 (λ(k_:Nat) u=>(Cp u [(1,(.vsl 34001 k_))] [(34001,.arr 1 3 k_ (λi=>Aq ((l2.set i1.toNat (w64 (v1+1))).getD i 0)))])) (show l2.length=(l2.set i1.toNat (w64 (v1+1))).length from(Dc ..).symm))) (tV q bS [34001] h λh=>tN h))))) λh=>tS h (gO (Be (Bi [] [34001] q))))) λx10 h=>(match x10,h with | .inl l3,h=>gA (Af q [8] [34001] (tS h (Cc iO))) | .inr r12,h=>Oz (λst' hk=>tS h (gK hk)))))
def Hb(a9:Aw)(x1:Int):eQ->Option (LR (Int×Aw) (Unit ⊕ Bool)):=
 λ(i3,l4)=>bif decide (i3<a9.length) then Az (A2 i3 a9.length) ((bif (a9.getD i3.toNat 0 !=-2)==true then Ut a9 l4 i3 x1 else some (false,[])).bind λx6=>Az (((a9.getD i3.toNat 0 !=-2)==true)=true->l4.length=x6.2.length) (bif bif a9.getD i3.toNat 0 !=-2 then !x6.1 else false then some (.done (.inr false)) else some (.next (w64 (i3+1),bif (a9.getD i3.toNat 0 !=-2)==true then x6.2 else l4)))) else some (.done (.inl ()))
def YT(Γ:H3)(a9:Aw)(r:Bool):Exit->St->Prop:=fK Tryz.prog Γ Tryz.f284.results.toList [] (.bool r) []
def rI(a9:Aw)(i3:Int):=(((a9.getD i3.toNat 0)!=-2)==true)
def S9(a9:Aw):Option Bool:=
 (G2 a9 (-1)).bind λx1=>bif decide (x1<0) then some false else Az (0<=(a9.length:Int)/\(a9.length:Int)<=a9.length/\a9.length<=(room:Int)) ((Ac   (Hb a9 x1) (0,List.replicate (a9.length:Int).toNat 0)).bind λx8=>match x8 with | .inl _=>some true | .inr r10=>some r10)
theorem VE(h:S9 v2=some v3):sP 284 [(Z6 v2)] [] (.bool v3) []:=
 sG Tryz.func284 λΓ q=>Af q [0] [] (tB h λx1 y1 h=>tT q Rh [] [(UF x1)] (c1 (Wf y1)) (Af q [0,3,9] [] (gC h (λh=>Af q [2] [] (tS h (Cc []))) λh=>tV q S6 [12] h λh=>by exact gLe (Le.trans (Sn 12 (show ∀ k_,k_<((v2.length:Int).toNat)->AVleL ((λi_=>AV.eraseAll (λn_=>Bw n_ [12]) ((λ_=>[L5]) i_)) k_) ((λi=>Aq ((List.replicate (v2.length:Int).toNat (0:Int)).getD i 0)) k_) from(λk hk=>M5 (e:=Aq) (d:=(0:Int)) (.cons (AVle.refl _) .nil) _ k (M6 hk)))) (R8 (λ(k_:Nat) u=>(Cp u [(4,(.vsl 12 k_))] (Z74 12 k_ v2.length))) (show(v2.length:Int).toNat=(List.replicate (v2.length:Int).toNat (0:Int)).length from(N5 ..).symm))) (Af q iM [12] (tL q h iM [12] (λu (i3,l4)=>(Cp u [(4,(.vsl 12 l4.length)),(15,(Z5 i3))] [(Z4 12 l4)])) (λu x_=>match x_ with|(.inl _)=>aG Γ (.exit 0) (⟨[],[],[]⟩:St)|(.inr r_)=>aR (YT Γ v2 r_)) (λ⟨i3,l4⟩ y h=>Af q [0,3,4,14,15,16] [12] (gC h (λh=>Af q [0,3,4,5,14,15] [12] (tC h λc5_ h=>tB h λx6 y6 h=>tC h λc7_ h=>tT q [0,3,4,14,15,30] [12] [⟨[(12,34001)],[],(.bool x6.1),[(Z4 34001 x6.2)],[],[]⟩] (ci c5_ (LJ (rI v2 i3) (c3 (λ(hg:(rI v2 i3)=true)=>(aj (Bf hg y6))) (gI (rI v2 i3)) (Nd ((v2.getD i3.toNat 0)!=-2))))) (gLe (Le.trans (Sn 12 (show ∀ k_,k_<(bif (rI v2 i3) then x6.2.length else l4.length)->AVleL ((λi_=>AV.eraseAll (λn_=>Bw n_ [12]) ((λi=>bif (rI v2 i3) then(λi=>Aq (x6.2.getD i 0)) i else(λi=>Aq (l4.getD i 0)) i) i_)) k_) ((λi=>Aq ((bif (rI v2 i3) then x6.2 else l4).getD i 0)) k_) from(Bh iu (λk_ hk_=>(Bj (AV.eraseAll (λn_=>Bw n_ [12])) ((λ_ _=>sV) k_ hk_)).trans rfl)))) (Le.trans (R8 (λ(k_:Nat) u=>(Cp u [] [(12,.arr 1 3 k_ (λi=>Aq ((bif (rI v2 i3) then x6.2 else l4).getD i 0)))])) (show(bif (rI v2 i3) then x6.2.length else l4.length)=(bif (rI v2 i3) then x6.2 else l4).length from iu)) (R8 (λ(k_:Nat) u=>(Cp u [(4,(.vsl 12 k_))] [])) (show l4.length=(bif (rI v2 i3) then x6.2 else l4).length from(sW c7_))))) (gC h (λh=>Af q [2] [] (tS h (gO (Lj (H4 [] (Le.refl _ _)))))) λh=>Af q iM [12] (tN h))))) λh=>tS h (gO (Be (Bi [] [] q))))) λx8 h=>(match x8,h with | .inl _,h=>gA (Af q [2] [] (tS h (Cc []))) | .inr r10,h=>Oz (λst' hk=>tS h (gK hk))))))))
def Nn(a9:Aw)(aL:Int):Option Bool:=
 (Mu a9 aL).bind λx1=>Az ((x1==true)=true->A2 aL a9.length) (some (bif x1 then a9.getD aL.toNat 0 !=-2 else false))
theorem Yx(h:Nn v2 v1=some v3):sP 285 [(Z6 v2),(Z5 v1)] [] (.bool v3) []:=
 sG Tryz.func285 λΓ q=>Af q Gn [] (tB h λx1 y1 h=>tC h λc2_ h=>tT q [4] [] [(Z2 x1)] (ci (BA y1) (Mr (x1==true) (ci c2_ (Mr (x1==true) (c1 (Nd x1)))))) (tS h (Cc [])))
def Us(a9:Aw)(a8:Int)(aE:Int):Option Bool:=
 (S9 a9).bind λx1=>(bif x1==true then Nn a9 a8 else some false).bind λx2=>(bif (bif x1 then x2 else false)==true then Nn a9 aE else some false).bind λx3=>some (bif bif x1 then x2 else false then x3 else false)
theorem ai(h:Us v2 v1 v11=some v3):sP 245 [(Z6 v2),(Z5 v1),(Z5 v11)] [] (.bool v3) []:=
 sG Tryz.func245 λΓ q=>Af q TT [] (tB h λx1 y1 h=>tB h λx2 y2 h=>tB h λx3 y3 h=>tT q [6] [] [(Z2 x1),(Z2 x2),(Z2 x3)] (ci (VE y1) (Mr (x1==true) (fb (λ(hg:(x1==true)=true)=>(Yx (Bf hg y2))) (Nd x1) (Mr ((bif x1 then x2 else false)==true) (c2 (λ(hg:((bif x1 then x2 else false)==true)=true)=>(Yx (Bf hg y3))) (Nd (bif x1 then x2 else false))))))) (tS h (Cc [])))
def Xt(a9:Aw)(a8:Int)(aE:Int):Option Bool:=
 (Us a9 a8 aE).bind λx1=>(bif x1==true then Rn a9 a8 aE else some 0).bind λx2=>some (bif x1 then x2==a8 else false)
theorem dY(h:Xt v2 v1 v11=some v3):sP 208 [(Z6 v2),(Z5 v1),(Z5 v11)] [] (.bool v3) []:=
 sG Tryz.func208 λΓ q=>Af q TT [] (tB h λx1 y1 h=>tB h λx2 y2 h=>tT q [6] [] [(Z2 x1),(UF x2)] (ci (ai y1) (Yt (x1==true) (ci (λ(hg:(x1==true)=true)=>(LU (Bf hg y2))) (Mr (x1==true) (c1 (Nd x1)))))) (tS h (Cc [])))
def H9(aQ:Bk)(a3:TFunc)(a5:Int)(a7:Aw)(aC:List Q7)(aB:List Bk):Option CB:=
 bif (Fy default aC aQ.v).place.block==aQ.place.block then some (decide ((Fy default aC aQ.v).place.at_<aQ.place.at_),a3,a5,a7,aB) else(Xt a7 (Fy default aC aQ.v).place.block aQ.place.block).bind λx1=>some (x1,a3,a5,a7,aB)
theorem Vp(h:H9 v30 v0 v1 v2 v25 v12=some v23):sP 164 [(.ptr 30000 0),(.agg (Oi v30))] [(Z1 v0.Params v0.Ret v0.Blocks v1 v2 9100005 v12),(Li 37006 211 v12.length),(9100005,.obj (.map false .i64 (Bu (λ(v_:Ay)=>((Xa v_):AV)) v25)))] (.bool v23.1) [(Z1 v23.2.1.Params v23.2.1.Ret v23.2.1.Blocks v23.2.2.1 v23.2.2.2.1 9100005 v23.2.2.2.2),(Li 37006 211 v23.2.2.2.2.length),(9100005,.obj (.map false .i64 (Bu (λ(v_:Ay)=>((Xa v_):AV)) v25)))]:=
 sG Tryz.func164 λΓ q=>Af q Rh Sx (gR q [0,3,5] IJ [(12,(ug v25 v30.v))] [] (c1 (show(AVle (Fy (.agg [L5,L5,L5,L5]) (Bu (λ(v_:Ay)=>((Xa v_):AV)) v25) v30.v) (ug v25 v30.v)) from(ab (f:=(λ(v_:Ay)=>((Xa v_):AV))) (l:=v25) (AVle.refl _) rfl))) (Af q [0,3,5,19] IJ (gC h (λh=>Af q [4] It (tS h (Cc DY))) λh=>tB h λx1 y1 h=>tT q [4] It [(Z2 x1)] (c1 (dY y1)) (tS h (Cc DY)))))
abbrev xA:=(LR (Int×Aw×Int×List Ae×Int×Aw×List Bk) ((Aw×Int×List Ae×Int×Aw×List Bk) ⊕ (Aw×Int×List Ae×Int×Aw×List Bk)))
def F4(aC:List Q7)(x8:uT):KG->Option xA:=
 λ(i9,l10,i11,l12,i13,l14,l15)=>bif decide (i9<x8.2.2.2.length) then Az (A2 i9 x8.2.2.2.length) ((Lp (x8.2.2.2.getD i9.toNat default) ⟨l10,i11,l12⟩ i13 l14 aC l15).bind λx29=>bif !x29.1 then some (.done (.inr (x29.2.1.Params,x29.2.1.Ret,x29.2.1.Blocks,x29.2.2.1,x29.2.2.2.1,x29.2.2.2.2))) else some (.next (w64 (i9+1),x29.2.1.Params,x29.2.1.Ret,x29.2.1.Blocks,x29.2.2.1,x29.2.2.2.1,x29.2.2.2.2))) else some (.done (.inl (l10,i11,l12,i13,l14,l15)))
def F5(aC:List Q7)(l21:List Bk):KG->Option xA:=
 λ(i32,l33,i34,l35,i36,l37,l38)=>bif decide (i32<l21.length) then Az (A2 i32 l21.length) ((Nl (l21.getD i32.toNat default) ⟨l33,i34,l35⟩ i36 l37 aC l38).bind λx52=>bif !x52.1 then some (.done (.inr (x52.2.1.Params,x52.2.1.Ret,x52.2.1.Blocks,x52.2.2.1,x52.2.2.2.1,x52.2.2.2.2))) else some (.next (w64 (i32+1),x52.2.1.Params,x52.2.1.Ret,x52.2.1.Blocks,x52.2.2.1,x52.2.2.2.1,x52.2.2.2.2))) else some (.done (.inl (l33,i34,l35,i36,l37,l38)))
def F6(aC:List Q7)(l44:List Bk):KG->Option xA:=
 λ(i55,l56,i57,l58,i59,l60,l61)=>bif decide (i55<l44.length) then Az (A2 i55 l44.length) ((H9 (l44.getD i55.toNat default) ⟨l56,i57,l58⟩ i59 l60 aC l61).bind λx75=>bif !x75.1 then some (.done (.inr (x75.2.1.Params,x75.2.1.Ret,x75.2.1.Blocks,x75.2.2.1,x75.2.2.2.1,x75.2.2.2.2))) else some (.next (w64 (i55+1),x75.2.1.Params,x75.2.1.Ret,x75.2.1.Blocks,x75.2.2.1,x75.2.2.2.1,x75.2.2.2.2))) else some (.done (.inl (l56,i57,l58,i59,l60,l61)))
def Pr :KG->Option (LR (Int×Aw×Int×List Ae×Int×Aw×List Bk) (Int×TFunc×Int×Aw×List Bk)):=
 λs_=>match s_ with|(i1,l2,i3,l4,i5,l6,l7)=>some (.done (i1,⟨l2,i3,l4⟩,i5,l6,l7))
def Zz(Γ:H3)(a3:TFunc)(a5:Int)(a7:Aw)(aC:List Q7)(aB:List Bk)(r:me):Exit->St->Prop:=fK Tryz.prog Γ Tryz.f108.results.toList [(Z1 a3.Params a3.Ret a3.Blocks a5 a7 9100005 aB),(Li 37006 211 aB.length),(9100005,.obj (.map false .i64 (Bu (λ(v_:Ay)=>((Xa v_):AV)) aC)))] (Z5 r.1) [(Z1 r.2.1.Params r.2.1.Ret r.2.1.Blocks r.2.2.1 r.2.2.2.1 9100005 r.2.2.2.2),(Li 37006 211 r.2.2.2.2.length),(9100005,.obj (.map false .i64 (Bu (λ(v_:Ay)=>((Xa v_):AV)) aC)))]
def yP(aC:List Q7):=(Bu (λ(v_:Ay)=>((Xa v_):AV)) aC)
def Kf(a3:TFunc)(a5:Int)(a7:Aw)(aC:List Q7)(aB:List Bk):Option me:=
 (Rv   ((H7 a3 a5 a7 aC aB).bind λx8=>(Ac   (F4 aC x8) (0,x8.1.Params,x8.1.Ret,x8.1.Blocks,x8.2.1,x8.2.2.1,x8.2.2.2)).bind λx30=>match x30 with | .inl (l16,i17,l18,i19,l20,l21)=>(Ac   (F5 aC l21) (0,l16,i17,l18,i19,l20,l21)).bind λx53=>(match x53 with | .inl (l39,i40,l41,i42,l43,l44)=>(Ac   (F6 aC l44) (0,l39,i40,l41,i42,l43,l44)).bind λx76=>(match x76 with | .inl (l62,i63,l64,i65,l66,l67)=>some (.done ((0:Int),⟨l62,i63,l64⟩,i65,l66,l67)) | .inr (l68,i69,l70,i71,l72,l73)=>some (.next ((7:Int),l68,i69,l70,i71,l72,l73))) | .inr (l45,i46,l47,i48,l49,l50)=>some (.next (6,l45,i46,l47,i48,l49,l50))) | .inr (l22,i23,l24,i25,l26,l27)=>some (.next (7,l22,i23,l24,i25,l26,l27))) Pr).bind λx81=>some x81
theorem Zj(h:Kf v0 v1 v2 v25 v12=some v13):sP 108 nY [(Z1 v0.Params v0.Ret v0.Blocks v1 v2 9100005 v12),(Li 37006 211 v12.length),(9100005,.obj (.map false .i64 (Bu (λ(v_:Ay)=>((Xa v_):AV)) v25)))] (Z5 v13.1) [(Z1 v13.2.1.Params v13.2.1.Ret v13.2.1.Blocks v13.2.2.1 v13.2.2.2.1 9100005 v13.2.2.2.2),(Li 37006 211 v13.2.2.2.2.length),(9100005,.obj (.map false .i64 (Bu (λ(v_:Ay)=>((Xa v_):AV)) v25)))]:=
 sG Tryz.func108 λΓ q=>Af q [0] It (tB h λx81 y81 h=>gS y81 (λ(s_:KG)=>match s_ with|(i1,l2,i3,l4,i5,l6,l7)=>0) (λ(s_:KG)=>match s_ with|(i1,l2,i3,l4,i5,l6,l7)=>(⟨[(4,(Z5 i1))],(yS l2 i3 l4 i5 l6 l7 l7.length (yP v25)),[]⟩:St)) (λr_=>aR (Zz Γ v0 v1 v2 v25 v12 r_)) (λy h=>tB h λx8 y8 h=>tT q [0] It [(yV x8.1.Params x8.1.Ret x8.1.Blocks x8.2.1 x8.2.2.1 x8.2.2.2 x8.2.2.2.length (yP v25))] (c1 (Vn y8)) (tW q Rh Sx Rh Sx (Af q EY It (gU 3 (Af q bV It (oz true (tU q ia Vy (c1 (show(A2 (0:Int) 3) from(by decide))) (tW q iN Vy IK Vy (tL q h IK Vy (λu (i9,l10,i11,l12,i13,l14,l15)=>(Cp u [(32,(Z5 i9))] (YZ l10 i11 l12 i13 l14 l15 l15.length))) (λu x_=>match x_ with|(.inl (l16,i17,l18,i19,l20,l21))=>aG Γ (.exit 2) (Nf EY It u [] (YZ l16 i17 l18 i19 l20 l21 l21.length))|(.inr (l22,i23,l24,i25,l26,l27))=>aG Γ (.goto 0) (Nf [4] It u [] (YZ l22 i23 l24 i25 l26 l27 l27.length))) (λ⟨i9,l10,i11,l12,i13,l14,l15⟩ y h=>Af q rC Vy (gC h (λh=>tV q rE h9 h λh=>tB h λx29 y29 h=>tT q rD Vy [(Z82 x29.1 x29.2.1.Params x29.2.1.Ret x29.2.1.Blocks x29.2.2.1 x29.2.2.2.1 x29.2.2.2.2 x29.2.2.2.2.length (yP v25))] (c1 (Vq y29)) (gC h (λh=>tS h (gO (Be (Bi [4] It q)))) λh=>Af q IK Vy (tN h))) λh=>tS h (gO (Be (Bi EY It q))))) λx30 h=>(match x30,h with | .inl ⟨l16,i17,l18,i19,l20,l21⟩,h=>gA (tW q EY It bV It (oz true (tU q ia Vy (c1 (show(A2 (1:Int) 3) from(by decide))) (tW q iN Vy IK Vy (tL q h IK Vy (λu (i32,l33,i34,l35,i36,l37,l38)=>(Cp u [(32,(Z5 i32))] (YZ l33 i34 l35 i36 l37 l38 l38.length))) (λu x_=>match x_ with|(.inl (l39,i40,l41,i42,l43,l44))=>aG Γ (.exit 2) (Nf EY It u [] (YZ l39 i40 l41 i42 l43 l44 l44.length))|(.inr (l45,i46,l47,i48,l49,l50))=>aG Γ (.goto 0) (Nf [4] It u [] (YZ l45 i46 l47 i48 l49 l50 l50.length))) (λ⟨i32,l33,i34,l35,i36,l37,l38⟩ y h=>Af q rC Vy (gC h (λh=>tV q rE h9 h λh=>tB h λx52 y52 h=>tT q rD Vy [(Z82 x52.1 x52.2.1.Params x52.2.1.Ret x52.2.1.Blocks x52.2.2.1 x52.2.2.2.1 x52.2.2.2.2 x52.2.2.2.2.length (yP v25))] (c1 (Zh y52)) (gC h (λh=>tS h (gO (Be (Bi [4] It q)))) λh=>Af q IK Vy (tN h))) λh=>tS h (gO (Be (Bi EY It q))))) λx53 h=>(match x53,h with | .inl ⟨l39,i40,l41,i42,l43,l44⟩,h=>gA (tW q EY It bV It (oz true (tU q ia Vy (c1 (show(A2 (2:Int) 3) from(by decide))) (tW q iN Vy IK Vy (tL q h IK Vy (λu (i55,l56,i57,l58,i59,l60,l61)=>(Cp u [(32,(Z5 i55))] (YZ l56 i57 l58 i59 l60 l61 l61.length))) (λu x_=>match x_ with|(.inl (l62,i63,l64,i65,l66,l67))=>aG Γ (.exit 2) (Nf EY It u [] (YZ l62 i63 l64 i65 l66 l67 l67.length))|(.inr (l68,i69,l70,i71,l72,l73))=>aG Γ (.goto 0) (Nf [4] It u [] (YZ l68 i69 l70 i71 l72 l73 l73.length))) (λ⟨i55,l56,i57,l58,i59,l60,l61⟩ y h=>Af q rC Vy (gC h (λh=>tV q rE h9 h λh=>tB h λx75 y75 h=>tT q rD Vy [(Z82 x75.1 x75.2.1.Params x75.2.1.Ret x75.2.1.Blocks x75.2.2.1 x75.2.2.2.1 x75.2.2.2.2 x75.2.2.2.2.length (yP v25))] (c1 (Vp y75)) (gC h (λh=>tS h (gO (Be (Bi [4] It q)))) λh=>Af q IK Vy (tN h))) λh=>tS h (gO (Be (Bi EY It q))))) λx76 h=>(match x76,h with | .inl ⟨l62,i63,l64,i65,l66,l67⟩,h=>gA (tW q EY It bV It (oz false (Af q [2] It (tS h (ee (Lj (H4 DY (Le.refl _ _)))))))) | .inr ⟨l68,i69,l70,i71,l72,l73⟩,h=>ut (λst' hl78=>tS h (fg (Le.trans hl78 Io))))))))) | .inr ⟨l45,i46,l47,i48,l49,l50⟩,h=>ut (λst' hl79=>tS h (fg (Le.trans hl79 Io))))))))) | .inr ⟨l22,i23,l24,i25,l26,l27⟩,h=>ut (λst' hl80=>tS h (fg (Le.trans hl80 Io))))))))))))) (λ⟨i1,l2,i3,l4,i5,l6,l7⟩ y h=>Af q [2] It (tS h (ee (Lj (H4 DY (Le.refl _ _)))))) (Oz (λst' hk=>tS h (gK hk))))
def ml:=(λ(v_:Ay)=>((Xa v_):AV))
def xS(x1:me):List OK:=(Z3 x1.2.1.Params x1.2.1.Ret x1.2.1.Blocks x1.2.2.1 x1.2.2.2.1 x1.2.2.2.2 x1.2.2.2.2.length)
def xT(x2:me):List OK:=(Z3 x2.2.1.Params x2.2.1.Ret x2.2.1.Blocks x2.2.2.1 x2.2.2.2.1 x2.2.2.2.2 x2.2.2.2.2.length)
def xU(x3:me):List OK:=(Z3 x3.2.1.Params x3.2.1.Ret x3.2.1.Blocks x3.2.2.1 x3.2.2.2.1 x3.2.2.2.2 x3.2.2.2.2.length)
def Ju(a3:TFunc)(a5:Int)(a7:Aw)(aB:List Bk):Option uR:=
 (Ke a3 a5 a7 aB).bind λx1=>bif x1.1 !=0 then some (x1.1,x1.2.1,x1.2.2.1,x1.2.2.2.1,x1.2.2.2.2,[]) else(Iz x1.2.1 x1.2.2.1 x1.2.2.2.1 x1.2.2.2.2).bind λx2=>bif x2.1 !=0 then some (x2.1,x2.2.1,x2.2.2.1,x2.2.2.2.1,x2.2.2.2.2,[]) else(Jt x2.2.1 x2.2.2.1 x2.2.2.2.1 x2.2.2.2.2).bind λx3=>bif x3.1 !=0 then some (x3.1,x3.2.1,x3.2.2.1,x3.2.2.2.1,x3.2.2.2.2,[]) else(H8 x3.2.1 x3.2.2.1 x3.2.2.2.1 x3.2.2.2.2).bind λx4=>bif x4.1 !=0 then some (x4.1,x4.2.1,x4.2.2.1,x4.2.2.2.1,x4.2.2.2.2.1,x4.2.2.2.2.2) else(Kf x4.2.1 x4.2.2.1 x4.2.2.2.1 x4.2.2.2.2.2 x4.2.2.2.2.1).bind λx5=>bif x5.1 !=0 then some (x5.1,x5.2.1,x5.2.2.1,x5.2.2.2.1,x5.2.2.2.2,x4.2.2.2.2.2) else some (0,x5.2.1,x5.2.2.1,x5.2.2.2.1,x5.2.2.2.2,x4.2.2.2.2.2)
theorem Xz(h:Ju v0 v1 v2 v12=some v27):sP 60 nY (Z3 v0.Params v0.Ret v0.Blocks v1 v2 v12 v12.length) (Z5 v27.1) [(Z1 v27.2.1.Params v27.2.1.Ret v27.2.1.Blocks v27.2.2.1 v27.2.2.2.1 9200005 v27.2.2.2.2.1),(Li 37006 211 v27.2.2.2.2.1.length),(9200005,.obj (.map false .i64 (Bu (λ(v_:Ay)=>((Xa v_):AV)) v27.2.2.2.2.2)))]:=
 sG Tryz.func60 λΓ q=>tW q [0] Iw [3] SX (Af q KY Iw (gU 5 (Af q KU Iw (oz true (tU q TQ Iw (c1 (show(A2 (0:Int) 5) from(by decide))) (tB h λx1 y1 h=>tT q TR Iw [(vq x1.1 (xS x1))] (c1 (Zi y1)) (Af q TD Iw (gC h (λh=>Af q [2] Iw (P6 (⟨[(2,(Z5 x1.1))],(xS x1),[]⟩:St) (tS h (gK (e:=.ret) (H4 rA (Le.trans (Xq (r:=30000) (j:=5) (nm:=9300005) .i64 rfl rfl (nl rfl) rfl) (Bi (st':=⟨[(2,(Z5 x1.1))],[(Z1 x1.2.1.Params x1.2.1.Ret x1.2.1.Blocks x1.2.2.1 x1.2.2.2.1 9300005 x1.2.2.2.2),(Li 37006 211 x1.2.2.2.2.length),(9300005,.obj (.map false .i64 (Bu ml ([]:List Q7))))],[]⟩) [2] iD q))))))) λh=>tW q KY Iw KU Iw (oz true (tU q TQ Iw (c1 (show(A2 (1:Int) 5) from(by decide))) (tB h λx2 y2 h=>tT q TR Iw [(vq x2.1 (xT x2))] (c1 (Wc y2)) (Af q TD Iw (gC h (λh=>Af q [2] Iw (P6 (⟨[(2,(Z5 x2.1))],(xT x2),[]⟩:St) (tS h (gK (e:=.ret) (H4 rA (Le.trans (Xq (r:=30000) (j:=5) (nm:=9300005) .i64 rfl rfl (nl rfl) rfl) (Bi (st':=⟨[(2,(Z5 x2.1))],[(Z1 x2.2.1.Params x2.2.1.Ret x2.2.1.Blocks x2.2.2.1 x2.2.2.2.1 9300005 x2.2.2.2.2),(Li 37006 211 x2.2.2.2.2.length),(9300005,.obj (.map false .i64 (Bu ml ([]:List Q7))))],[]⟩) [2] iD q))))))) λh=>tW q KY Iw KU Iw (oz true (tU q TQ Iw (c1 (show(A2 (2:Int) 5) from(by decide))) (tB h λx3 y3 h=>tT q TR Iw [(vq x3.1 (xU x3))] (c1 (Xy y3)) (Af q TD Iw (gC h (λh=>Af q [2] Iw (P6 (⟨[(2,(Z5 x3.1))],(xU x3),[]⟩:St) (tS h (gK (e:=.ret) (H4 rA (Le.trans (Xq (r:=30000) (j:=5) (nm:=9300005) .i64 rfl rfl (nl rfl) rfl) (Bi (st':=⟨[(2,(Z5 x3.1))],[(Z1 x3.2.1.Params x3.2.1.Ret x3.2.1.Blocks x3.2.2.1 x3.2.2.2.1 9300005 x3.2.2.2.2),(Li 37006 211 x3.2.2.2.2.length),(9300005,.obj (.map false .i64 (Bu ml ([]:List Q7))))],[]⟩) [2] iD q))))))) λh=>tW q KY Iw KU Iw (oz true (tU q TQ Iw (c1 (show(A2 (3:Int) 5) from(by decide))) (tB h λx4 y4 h=>tT q TR Y9 [⟨Y8,[(9200005,13000005)],(Z5 x4.1),[(Z1 x4.2.1.Params x4.2.1.Ret x4.2.1.Blocks x4.2.2.1 x4.2.2.2.1 9200005 x4.2.2.2.2.1),(Li 37006 211 x4.2.2.2.2.1.length),(9200005,.obj (.map false .i64 (Bu ml x4.2.2.2.2.2)))],[],[]⟩] (c1 (Vo y4)) (Af q TD Y9 (gC h (λh=>Af q [2] Y9 (tS h (Cc q9))) λh=>tW q KY Y9 KU Y9 (oz true (tU q TQ Y9 (c1 (show(A2 (4:Int) 5) from(by decide))) (tB h λx5 y5 h=>tT q TR Y9 [⟨[(30000,30000),(37006,37006),(13000005,9100005)],[],(Z5 x5.1),[(Z1 x5.2.1.Params x5.2.1.Ret x5.2.1.Blocks x5.2.2.1 x5.2.2.2.1 9100005 x5.2.2.2.2),(Li 37006 211 x5.2.2.2.2.length),(9100005,.obj (.map false .i64 (Bu ml x4.2.2.2.2.2)))],[],[]⟩] (c1 (Zj y5)) (Af q TD Y9 (gC h (λh=>Af q [2] Y9 (tS h (Cc q9))) λh=>tW q KY Y9 KU Y9 (oz false (Af q [2] Y9 (tS h (Cc q9))))))))))))))))))))))))))))))))
set_option maxRecDepth 100000
set_option maxHeartbeats 2000000
def xW(a0:TFunc)(aO:Int):AV:=(.agg [(Z6 a0.Params),(Z5 a0.Ret),(UE a0.Blocks),(Z5 aO),fG,.nilm,(AV.list 5 Oi default ([]:List Bk) .exact)])
def xV(a0:TFunc)(aO:Int):=(⟨[ed],[(5,.row 102 [(Z6 a0.Params),(Z5 a0.Ret),(UE a0.Blocks),(Z5 aO),fG,.nilm,(AV.list 5 Oi default ([]:List Bk) .exact)])],[]⟩:St)
def u9(a0:TFunc)(aO:Int):=(⟨[ed],[(5,.row 102 [(Z6 a0.Params),(Z5 a0.Ret),(UE a0.Blocks),(Z5 aO),fG,.nilm,(AV.list 5 Oi default ([]:List Bk) (.own 50506))]),(50506,.tok 5 211 (([]:List Bk).length))],[]⟩:St)
def O0(a0:TFunc)(aO:Int):Option Int:=
 bif bif decide (aO<0) then true else decide (2<aO) then some 1 else(Ju a0 aO [] []).bind λx1=>some x1.1
theorem AY(h:O0 v0 v1=some v11):sP 22 [(V0 v0),(Z5 v1)] [] (.int .i64 v11) []:=
 sG Tryz.func22 λΓ q=>Af q D7 [2] (tU q TS [2] (c2 (gI ((decide (v1<0))==false)) (Lx (decide (v1<0)))) (gC h (λh=>Af q [4] [] (tS h (Cc []))) λh=>gR q [5] [5] [(14,(xW v0 v1))] [] (c1 (show(AVle (.agg [(Z6 v0.Params),(Z5 v0.Ret),(UE v0.Blocks),(Z5 v1),Zx,.nilm,Zx]) (xW v0 v1)) from(AVle.agg (.cons (AVle.refl _) (.cons (AVle.refl _) (.cons (AVle.refl _) (.cons (AVle.refl _) (.cons Ej (.cons (AVle.refl _) (.cons Ej .nil)))))))))) (P6 (xV v0 v1) (gLe (show Le Γ _ (u9 v0 v1) from Le.trans (Bi (st':=(xV v0 v1)) [5] [5] q) (Le.trans (AU (r:=5) (j:=6) (nm:=50506) (sz':=5) (λi=>Oi (([]:List Bk).getD i default)) 211 rfl rfl (nl rfl) rfl (.inl ⟨rfl,rfl⟩) (λh_=>absurd h_ (by decide))) (Bi (st':=(u9 v0 v1)) [5] [5,50506] q))) (gLe (show Le Γ _ (⟨[ed],[(5,.row 102 [(Z6 v0.Params),(Z5 v0.Ret),(UE v0.Blocks),(Z5 v1),(AV.list 1 Aq 0 ([]:Aw) .none),.nilm,(AV.list 5 Oi default ([]:List Bk) (.own 50506))]),(50506,.tok 5 211 (([]:List Bk).length))],[]⟩:St) from Le.trans (Bi (st':=(u9 v0 v1)) [5] [5,50506] q) (I6 (.cons (AVle.refl _) .nil) (.row (.cons (AVle.refl _) (.cons (AVle.refl _) (.cons (AVle.refl _) (.cons (AVle.refl _) (.cons AVle.untag (.cons (AVle.refl _) (.cons (AVle.refl _) .nil))))))) (.same .nil)))) (tB h λx1 y1 h=>tT q [4] [] [⟨[(5,30000),(50506,37006)],[(9200005,10000505)],(Z5 x1.1),[(Z1 x1.2.1.Params x1.2.1.Ret x1.2.1.Blocks x1.2.2.1 x1.2.2.2.1 9200005 x1.2.2.2.2.1),(Li 37006 211 x1.2.2.2.2.1.length),(9200005,.obj (.map false .i64 (Bu (λ(v_:Ay)=>((Xa v_):AV)) x1.2.2.2.2.2)))],[],[]⟩] (c1 (Xz y1)) (tS h (Cc []))))))))
def Uv(aX:Int):Option Bool:=
 Option.bind  (bif aX==4 then some (aX==4) else bif aX==16 then some (aX==16) else bif aX==17 then some (aX==17) else bif aX==18 then some (aX==18) else bif aX==19 then some (aX==19) else some (aX==20)) λx2=>bif x2 then some false else(O1 aX).bind λx4=>some x4
theorem aq(h:Uv v1=some v3):sP 92 [(Z5 v1)] [] (.bool v3) []:=
 sG Tryz.func92 λΓ q=>tW q [0] [] Rh [] (tB h λx2 y2 h=>gJ y2 (λb1=>aG Γ .normal (⟨[(0,(Z5 v1)),(4,(.bool b1))],[],[]⟩:St)) (λy h=>Af q S6 [] (gC h (λh=>tS h (gK (Be (Bi [0,4] [] q)))) λh=>Af q S6 [] (gC h (λh=>tS h (gK (Be (Bi [0,4] [] q)))) λh=>Af q S6 [] (gC h (λh=>tS h (gK (Be (Bi [0,4] [] q)))) λh=>Af q S6 [] (gC h (λh=>tS h (gK (Be (Bi [0,4] [] q)))) λh=>Af q S6 [] (gC h (λh=>tS h (gK (Be (Bi [0,4] [] q)))) λh=>Af q [0,4] [] (tS h (gK (Be Io))))))))) (gA (gC h (λh=>Af q [2] [] (tS h (Cc []))) λh=>tB h λx4 y4 h=>tT q [2] [] [(Z2 x4)] (c1 (BF y4)) (tS h (Cc [])))))
def Pb(aD:Int):Option Bool:=
 some (aD !=aD)
theorem Wd(h:Pb v1=some v3):sP 275 [(Z5 v1)] [] (.bool v3) []:=
 sG Tryz.func275 λΓ q=>tW q [0] [] [2] [] (tS h (Cc []))
def Tu(aD:Int)(aZ:Int):Option Bool:=
 (Pb aD).bind λx1=>(bif x1==true then Pb aZ else some false).bind λx2=>some (bif bif x1 then !x2 else false then true else decide (aD<aZ))
theorem NE(h:Tu v1 v11=some v3):sP 234 [(Z5 v1),(Z5 v11)] [] (.bool v3) []:=
 sG Tryz.func234 λΓ q=>Af q Gn [] (tB h λx1 y1 h=>tB h λx2 y2 h=>tT q [4] [] [(Z2 x1),(Z2 x2)] (d5_ (Wd y1) (gI (x1==true)) (λ(hg:(x1==true)=true)=>(Wd (Bf hg y2))) (gI (x1==true)) (Nd x1) (Mr ((bif x1 then(!x2) else false)==false) (c1 (Lx (bif x1 then(!x2) else false))))) (tS h (Cc [])))
def Mb(aD:Int):Option Bool:=
 some (aD !=aD)
theorem S1(h:Mb v1=some v3):sP 235 [(Z5 v1)] [] (.bool v3) []:=
 sG Tryz.func235 λΓ q=>tW q [0] [] [2] [] (tS h (Cc []))
def B5(aD:Aw)(aW:Int):J5->Option uS:=
 λ(i1,i2)=>bif decide (i1<i2) then Az (A2 (w64 (Wn .u64 (Ir (w64 (i1+i2))) 1)) aD.length) ((Tu (aD.getD (w64 (Wn .u64 (Ir (w64 (i1+i2))) 1)).toNat 0) aW).bind λx5=>bif x5 then some (.next (w64 (w64 (Wn .u64 (Ir (w64 (i1+i2))) 1)+1),i2)) else some (.next (i1,w64 (Wn .u64 (Ir (w64 (i1+i2))) 1)))) else some (.done i1)
def mn(x6:Int)(aD:Aw):=((decide (x6<(aD.length:Int)))==true)
def UL(x6:Int)(aD:Aw)(aW:Int):=((mn x6 aD)&&(((aD.getD x6.toNat 0)==aW)==false))
def Ff(aD:Aw)(aW:Int):Option (Int×Bool):=
 (Ac   (B5 aD aW) (0,aD.length)).bind λx6=>Az ((decide (x6<aD.length)==true)=true->A2 x6 aD.length) (Az ((decide (x6<aD.length)==true&&(aD.getD x6.toNat 0==aW)==false)=true->A2 x6 aD.length) ((bif decide (x6<aD.length)==true&&(aD.getD x6.toNat 0==aW)==false then Mb (aD.getD x6.toNat 0) else some false).bind λx10=>(bif decide (x6<aD.length)==true&&(aD.getD x6.toNat 0==aW)==false&&x10==true then Mb aW else some false).bind λx11=>some (x6,bif decide (x6<aD.length) then bif aD.getD x6.toNat 0==aW then true else bif x10 then x11 else false else false)))
variable{v32:(Int×Bool)}
theorem Rr(h:Ff v2 v1=some v32):sP 192 [(Z6 v2),(Z5 v1)] [] (.tuple [(Z5 v32.1),(.bool v32.2)]) []:=
 sG Tryz.func192 λΓ q=>tW q Gn [] [0,1,6] [] (Af q TC [] (tL q h TC [] (λu (i1,i2)=>(Cp u [(7,(Z5 i1)),(8,(Z5 i2))] [])) (λu i3=>aG Γ (.exit 0) (Nf TM [] u [(7,(Z5 i3))] [])) (λ⟨i1,i2⟩ y h=>Af q [0,1,6,7,8,15] [] (gC h (λh=>tU q [0,1,6,7,8,9] [] (c1 (show(0<=(1:Int)) from(by decide))) (tC h λc4_ h=>tB h λx5 y5 h=>tT q [0,1,6,7,8,9,27] [] [(Z2 x5)] (c2 c4_ (NE y5)) (gC h (λh=>Af q TC [] (tN h)) λh=>Af q TC [] (tN h)))) λh=>tS h (gO (Be (Bi TM [] q))))) λx6 h=>gA (tC h λc8_ h=>tC h λc9_ h=>tB h λx10 y10 h=>tB h λx11 y11 h=>tT q [4,5] [] [(Z2 x10),(Z2 x11)] (Mr (mn x6 v2) (ci c8_ (LJ (mn x6 v2) (Mr (UL x6 v2 v1) (ci c9_ (Mr (UL x6 v2 v1) (c9 (λ(hg:(UL x6 v2 v1)=true)=>(S1 (Bf hg y10))) (gI (UL x6 v2 v1)) (gI ((UL x6 v2 v1)&&(x10==true))) (λ(hg:((UL x6 v2 v1)&&(x10==true))=true)=>(S1 (Bf hg y11))) (gI (UL x6 v2 v1)) (show((UL x6 v2 v1)=true->(x10=true->((UL x6 v2 v1)&&(x10==true))=true)) from(λhg=>(aT hg))) (gI (mn x6 v2)) (show((mn x6 v2)=true->(((v2.getD x6.toNat 0)==v1)=false->(UL x6 v2 v1)=true)) from(λhg=>(aF hg))) (Nd (decide (x6<(v2.length:Int))))))))))) (tS h (Cc [])))))
set_option maxRecDepth 100000
set_option maxHeartbeats 2000000
def B3(a8:Aw)(aE:Aw):Int->Option (LR Int (Unit ⊕ Bool)):=
 λi1=>bif decide (i1<a8.length) then Az (A2 i1 a8.length) (Az (A2 i1 aE.length) (bif a8.getD i1.toNat 0 !=aE.getD i1.toNat 0 then some (.done (.inr false)) else some (.next (w64 (i1+1))))) else some (.done (.inl ()))
def AA(Γ:H3)(a8:Aw)(aE:Aw)(r:Bool):Exit->St->Prop:=fK Tryz.prog Γ Tryz.f13.results.toList [] (.bool r) []
def Ba(a8:Aw)(aE:Aw):Option Bool:=
 bif (a8.length:Int)!=aE.length then some false else(Ac   (B3 a8 aE) 0).bind λx4=>match x4 with | .inl _=>some true | .inr r6=>some r6
theorem Cl(h:Ba v2 v17=some v3):sP 13 [(Z6 v2),(Z6 v17)] [] (.bool v3) []:=
 sG Tryz.func13 λΓ q=>tW q Gn [] Ym [] (gC h (λh=>Af q [4] [] (tS h (Cc []))) λh=>Af q Nb [] (tL q h Nb [] (λu i1=>(Cp u [(5,(Z5 i1))] [])) (λu x_=>match x_ with|(.inl _)=>aG Γ (.exit 0) (⟨[],[],[]⟩:St)|(.inr r_)=>aR (AA Γ v2 v17 r_)) (λi1 y h=>Af q [0,1,5,14] [] (gC h (λh=>tC h λc2_ h=>tC h λc3_ h=>tU q [0,1,5,25] [] (c2 c2_ c3_) (gC h (λh=>Af q [4] [] (tS h (gO (Lj (H4 [] (Le.refl _ _)))))) λh=>Af q Nb [] (tN h))) λh=>tS h (gO (Be (Bi [] [] q))))) λx4 h=>(match x4,h with | .inl _,h=>gA (Af q [4] [] (tS h (Cc []))) | .inr r6,h=>Oz (λst' hk=>tS h (gK hk)))))
def C1(a0:TFunc)(i2:Int):J5->Option uS:=
 λ(i5,i6)=>Az (A2 i2 a0.Blocks.length) (bif bif decide (i6<(a0.Blocks.getD i2.toNat default).Phis.length) then decide (i5<=20000) else false then Az (A2 i2 a0.Blocks.length) (Az (A2 i6 (a0.Blocks.getD i2.toNat default).Phis.length) (Az (A2 i2 a0.Blocks.length) (Az (A2 i6 (a0.Blocks.getD i2.toNat default).Phis.length) (some (.next (w64 (w64 (w64 (i5+1)+((a0.Blocks.getD i2.toNat default).Phis.getD i6.toNat default).From.length)+((a0.Blocks.getD i2.toNat default).Phis.getD i6.toNat default).Args.length),w64 (i6+1))))))) else some (.done i5))
def C2(a0:TFunc)(i2:Int):J5->Option uS:=
 λ(i15,i16)=>Az (A2 i2 a0.Blocks.length) (bif bif decide (i16<(a0.Blocks.getD i2.toNat default).Ops.length) then decide (i15<=20000) else false then Az (A2 i2 a0.Blocks.length) (Az (A2 i16 (a0.Blocks.getD i2.toNat default).Ops.length) (some (.next (w64 (w64 (i15+1)+((a0.Blocks.getD i2.toNat default).Ops.getD i16.toNat default).Args.length),w64 (i16+1))))) else some (.done i15))
def C3(a0:TFunc):J5->Option uS:=
 λ(i1,i2)=>bif bif decide (i2<a0.Blocks.length) then decide (i1<=20000) else false then Az (A2 i2 a0.Blocks.length) ((Ac   (C1 a0 i2) (w64 (w64 (i1+1)+(a0.Blocks.getD i2.toNat default).End.To.length),0)).bind λx13=>(Ac   (C2 a0 i2) (x13,0)).bind λx21=>some (.next (x21,w64 (i2+1)))) else some (.done i1)
def Da(a0:TFunc):Option Bool:=
 (Ac   (C3 a0) (a0.Params.length,0)).bind λx23=>some (decide (x23<=20000))
theorem X5(h:Da v0=some v3):sP 40 [(V0 v0)] [] (.bool v3) []:=
 sG Tryz.func40 λΓ q=>tW q [1] [1] L4 [1] (Af q J6 [1] (tL q h J6 [1] (λu (i1,i2)=>(Cp u [(3,(Z5 i1)),(4,(Z5 i2))] [])) (λu i3=>aG Γ (.exit 0) (⟨[(3,(Z5 i3))],[],[]⟩:St)) (λ⟨i1,i2⟩ y h=>tU q [1,3,4,18] [1] (c2 (gI ((decide (i2<(v0.Blocks.length:Int)))==true)) (Nd (decide (i2<(v0.Blocks.length:Int))))) (gC h (λh=>tV q J6 [1] h λh=>Af q L3 [1] (tL q h L3 [1] (λu (i5,i6)=>(Cp u [(3,(Z5 i5)),(5,(Z5 i6))] [])) (λu i7=>aG Γ (.exit 2) (Nf J6 [1] u [(3,(Z5 i7))] [])) (λ⟨i5,i6⟩ y h=>tC h λc8_ h=>tU q [1,3,4,5,44] [1] (c3 c8_ (gI ((decide (i6<(((v0.Blocks.getD i2.toNat default).Phis).length:Int)))==true)) (Nd (decide (i6<(((v0.Blocks.getD i2.toNat default).Phis).length:Int))))) (gC h (λh=>tC h λc9_ h=>tC h λc10_ h=>tC h λc11_ h=>tC h λc12_ h=>tU q L3 [1] (c4 c9_ c10_ c11_ c12_) (Af q L3 [1] (tN h))) λh=>tS h (gO (Be (Bi J6 [1] q))))) λx13 h=>gA (Af q bb [1] (tL q h bb [1] (λu (i15,i16)=>(Cp u [(3,(Z5 i15)),(6,(Z5 i16))] [])) (λu i17=>aG Γ (.exit 4) (Nf J6 [1] u [(3,(Z5 i17))] [])) (λ⟨i15,i16⟩ y h=>tC h λc18_ h=>tU q [1,3,4,6,85] [1] (c3 c18_ (gI ((decide (i16<(((v0.Blocks.getD i2.toNat default).Ops).length:Int)))==true)) (Nd (decide (i16<(((v0.Blocks.getD i2.toNat default).Ops).length:Int))))) (gC h (λh=>tC h λc19_ h=>tC h λc20_ h=>tU q bb [1] (c2 c19_ c20_) (Af q bb [1] (tN h))) λh=>tS h (gO (Be (Bi J6 [1] q))))) λx21 h=>gA (Af q J6 [1] (tN h)))))) λh=>tS h (gO (Be (Bi [3] [] q))))) λx23 h=>gA (Af q [2] [] (tS h (Cc [])))))
def Ch(a0:TFunc):J5->Option uS:=
 λ(i1,i2)=>bif decide (i2<a0.Blocks.length) then Az (A2 i2 a0.Blocks.length) (Az (A2 i2 a0.Blocks.length) (some (.next (w64 (w64 (w64 (i1+1)+(a0.Blocks.getD i2.toNat default).Ops.length)+(a0.Blocks.getD i2.toNat default).Phis.length),w64 (i2+1))))) else some (.done i1)
def rS(a0:TFunc)(x6:Int):=(bif (decide ((a0.Blocks.length:Int)<=16)) then(decide (x6<=100)) else false)
def vB(a0:TFunc)(x6:Int):=(bif (rS a0 x6) then true else(decide ((64:Int)<(a0.Blocks.length:Int))))
def Ea(a0:TFunc):Option Bool:=
 (Ac   (Ch a0) (0,0)).bind λx6=>(Da a0).bind λx8=>some (bif x8 then bif bif bif decide (a0.Blocks.length<=(16:Int)) then decide (x6<=100) else false then true else decide (64<(a0.Blocks.length:Int)) then true else decide (512<x6) else false)
theorem X8(h:Ea v0=some v3):sP 11 [(V0 v0)] [] (.bool v3) []:=
 sG Tryz.func11 λΓ q=>tW q [1] [1] L4 [1] (Af q J6 [1] (tL q h J6 [1] (λu (i1,i2)=>(Cp u [(3,(Z5 i1)),(4,(Z5 i2))] [])) (λu i3=>aG Γ (.exit 0) (Nf L4 [1] u [(3,(Z5 i3))] [])) (λ⟨i1,i2⟩ y h=>Af q [1,3,4,9] [1] (gC h (λh=>tC h λc4_ h=>tC h λc5_ h=>tU q J6 [1] (c2 c4_ c5_) (Af q J6 [1] (tN h))) λh=>tS h (gO (Be (Bi L4 [1] q))))) λx6 h=>gA (tB h λx8 y8 h=>tT q [2] [] [(Z2 x8)] (ci (X5 y8) (LJ (x8==true) (d4_ (gI ((x8==true)&&((decide ((v0.Blocks.length:Int)<=16))==true))) (gI (x8==true)) (show((x8==true)=true->((decide ((v0.Blocks.length:Int)<=16))=true->((x8==true)&&((decide ((v0.Blocks.length:Int)<=16))==true))=true)) from(λhg=>(aT hg))) (gI (x8==true)) (Yt ((x8==true)&&((rS v0 x6)==false)) (c7 (gI (x8==true)) (show((x8==true)=true->((rS v0 x6)=false->((x8==true)&&((rS v0 x6)==false))=true)) from(λhg=>(aF hg))) (gI (x8==true)) (gI ((x8==true)&&((vB v0 x6)==false))) (gI (x8==true)) (show((x8==true)=true->((vB v0 x6)=false->((x8==true)&&((vB v0 x6)==false))=true)) from(λhg=>(aF hg))) (Nd x8)))))) (tS h (Cc [])))))
def Bp(aU:Int):Option Bool:=
 some (bif decide (0<=aU) then decide (aU<=2147483647) else false)
theorem Ci(h:Bp v1=some v3):sP 95 [(Z5 v1)] [] (.bool v3) []:=
 sG Tryz.func95 λΓ q=>Af q [0] [] (tU q [2] [] (c2 (gI ((decide ((0:Int)<=v1))==true)) (Nd (decide ((0:Int)<=v1)))) (tS h (Cc [])))
def Gc(aS:Aw):Int->Option (LR Int (Unit ⊕ Bool)):=
 λi1=>bif decide (i1<aS.length) then Az (A2 i1 aS.length) ((Bp (aS.getD i1.toNat 0)).bind λx3=>bif !x3 then some (.done (.inr false)) else some (.next (w64 (i1+1)))) else some (.done (.inl ()))
def AC(Γ:H3)(aS:Aw)(r:Bool):Exit->St->Prop:=fK Tryz.prog Γ Tryz.f94.results.toList [] (.bool r) []
def Dq(aS:Aw):Option Bool:=
 (Ac   (Gc aS) 0).bind λx4=>match x4 with | .inl _=>some (decide (aS.length<=(64:Int))) | .inr r6=>some r6
theorem Hp(h:Dq v2=some v3):sP 94 [(Z6 v2)] [] (.bool v3) []:=
 sG Tryz.func94 λΓ q=>tW q [0] [] Rh [] (tL q h Rh [] (λu i1=>(Cp u [(3,(Z5 i1))] [])) (λu x_=>match x_ with|(.inl _)=>aG Γ (.exit 0) (Nf [0] [] u [] [])|(.inr r_)=>aR (AC Γ v2 r_)) (λi1 y h=>Af q [0,3,7] [] (gC h (λh=>tC h λc2_ h=>tB h λx3 y3 h=>tT q [0,3,15] [] [(Z2 x3)] (c2 c2_ (Ci y3)) (gC h (λh=>Af q [2] [] (tS h (gO (Lj (H4 [] (Le.refl _ _)))))) λh=>Af q Rh [] (tN h))) λh=>tS h (gO (Be (Bi [0] [] q))))) λx4 h=>(match x4,h with | .inl _,h=>gA (Af q [2] [] (tS h (Cc []))) | .inr r6,h=>Oz (λst' hk=>tS h (gK hk))))
def Ie(a0:TFunc):J5->Option uS:=
 λ(i1,i2)=>bif decide (i2<a0.Blocks.length) then Az (A2 i2 a0.Blocks.length) (Az (A2 i2 a0.Blocks.length) (some (.next (w64 (w64 (w64 (i1+(a0.Blocks.getD i2.toNat default).Phis.length)+(a0.Blocks.getD i2.toNat default).Ops.length)+1),w64 (i2+1))))) else some (.done i1)
def Ew(a0:TFunc):Option Int:=
 (Ac   (Ie a0) (0,0)).bind λx6=>some x6
theorem Mx(h:Ew v0=some v1):sP 23 [(V0 v0)] [] (.int .i64 v1) []:=
 sG Tryz.func23 λΓ q=>tW q [1] [1] L4 [1] (Af q J6 [1] (tL q h J6 [1] (λu (i1,i2)=>(Cp u [(3,(Z5 i1)),(4,(Z5 i2))] [])) (λu i3=>aG Γ (.exit 0) (⟨[(3,(Z5 i3))],[],[]⟩:St)) (λ⟨i1,i2⟩ y h=>Af q [1,3,4,9] [1] (gC h (λh=>tC h λc4_ h=>tC h λc5_ h=>tU q J6 [1] (c2 c4_ c5_) (Af q J6 [1] (tN h))) λh=>tS h (gO (Be (Bi [3] [] q))))) λx6 h=>gA (Af q [2] [] (tS h (Cc [])))))
end
end Go.Proofs.YtfhggcbcamamdaaGreat
